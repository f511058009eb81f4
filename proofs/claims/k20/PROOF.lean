import PyProof.Rows.All
import Wide.All
import OpenK.AllK
import Wide.FinOn
import Lean
import PyProof.EqAt
import PyProof.EqKinds
import PyProof.TupleCall
import PyProof.StationsW
import PyProof.TupleOps
import PyProof.ExcAttrAll.ValueError
import PyProof.ExcClass3
import PyProof.InstStoreFacts
import KE.KDictOf
import PyProof.AttrMissHeap
import KE.LcSums
import KE.KDictList
import PyProof.StrCalls
import PyProof.FactsAll.range_2
import KE.KRevIter
import PyProof.ZipIter
import PyProof.Draws
import PyProof.EnumMake
import PyProof.CompUse
import PyProof.ListCopy
import KE.KRevSl
import PyProof.DictUpdate
import PySem.Challenge.RW_formsmith_k20_whole_no_names_meet
noncomputable section
set_option Elab.async false
set_option linter.all false
set_option maxRecDepth 100000
set_option maxHeartbeats 4000000
set_option autoImplicit false
namespace L3
open PySem PySem.Spec PyProof.Rows
abbrev PK:=Sum Int (List Nat)
noncomputable def S(l:List Nat):Str:=⟨l.toArray⟩
theorem vP{a b:List Nat}(h:S a=S b):a=b:=by have:=congrArg (fun x=>x.cps.toList) h;simpa[S]using this
theorem KU(x:Str):S x.cps.toList=x:=by cases x;simp[S]
theorem hU(l:List Nat):(S l).length=l.length:=by show(S l).cps.size=_;simp[S]
inductive PV where
 |non|bl (b:Bool)|int (i:Int)|str (x:List Nat)|ty (n:String)|cls (C:Nat)
 |tup (xs:List PV)|lst (xs:List PV)|Nz (xs:List PV)|dct (kvs:List (PK×PV))|ins (C:Nat) (fs:List (Str×PV))
 |ref (i:Nat)|exc (C:Nat)|Nh (C:Nat) (v:PV)
mutual
def PV.pure:PV→Bool
 |.ref _=>false
 |.tup xs=>aq xs
 |.lst xs=>aq xs
 |.Nz xs=>aq xs
 |.dct kvs=>aS kvs
 |.ins _ fs=>wJ fs
 |.Nh _ v=>v.pure
 |_=>true
def aq:List PV→Bool
 |[]=>true
 |x::r=>x.pure&&aq r
def aS:List (PK×PV)→Bool
 |[]=>true
 |(_,x)::r=>x.pure&&aS r
def wJ:List (Str×PV)→Bool
 |[]=>true
 |(_,x)::r=>x.pure&&wJ r
end
theorem fP:∀(l:List (PK×PV)),aS l=aq (l.map (·.2))
 |[]=>by simp[aq,aS]
 |(k,x)::r=>by simp[aq,aS,fP r]
noncomputable def R7(C:Nat):Str:=if C<500 then "at" else "word"
noncomputable def Qi:Nat→List Str
 |600=> ["parts","counted"]
 |601=> ["pen","pieces"]
 |602=> ["loops","pieces"]
 |603=> ["numbers","blocks"]
 |604=> ["text","at"]
 |605=> ["block","slots","body","place","walks"]
 |606=> ["things","taken"]
 |607=> ["program","pen","frames","stack","done","result"]
 |608=> ["command","nodes","yes","between"]
 |609=> ["pieces","opened","counted"]
 |_=> []
inductive PO where
 |lst (xs:List PV)|dct (kvs:List (PK×PV))|G6 (v:PV)|obj (C:Nat) (ps:List PV)
inductive Res(α:Type) where
 |ok (a:α) (h:List PO)|exc (e:PV) (h:List PO)|bad
noncomputable def Res.bind{α β:Type}(r:Res α)(k:α→List PO→Res β):Res β:=match r with
 |.ok a h=>k a h
 |.exc e h=>.exc e h
 |.bad=>.bad
abbrev Ev:=List (Option PV)
abbrev Ex:=Ev→List PO→Res PV
abbrev Tx:=Ev→List PO→Res Bool
abbrev Ax:=Ev→List PO→Res (List PV)
end L3
namespace Z
open PySem PySem.Spec PyProof.Rows L3
def V4:PK→Value→Bool
 |.inl k,v=>Value.isInt k v
 |.inr x,v=>Value.isStrOf (S x) v
theorem gI:∀{k:PK}{v:Value},V4 k v=true→(∃i t,k=Sum.inl i∧v=Value.int i t)∨(∃x t,k=Sum.inr x∧v=Value.str (S x) t)
 |.inl i,v,h=>let⟨t,e⟩:=Value.isInt_shape h;.inl ⟨i,t,rfl,e⟩
 |.inr x,v,h=>let⟨t,e⟩:=Value.isStrOf_shape h;.inr ⟨x,t,rfl,e⟩
def pk(P:Program)(w:World):KeyKind P w PK where
 is:=V4
 hash:=fun|.inl k=>hashInt k|.inr x=>hashStr w (S x)
 inj:=fun v a b ha hb=>by rcases gI ha with⟨i,t,rfl,rfl⟩|⟨x,t,rfl,rfl⟩<;>rcases gI hb with⟨j,u,rfl,e⟩|⟨y,u,rfl,e⟩<;>first|(injection e with e1;first|rw[e1]|rw[vP e1])|cases e
 byValue:=fun k v h=>by rcases gI h with⟨i,t,rfl,rfl⟩|⟨x,t,rfl,rfl⟩<;>rfl
 pyHash:=fun hv h=>by
  rcases gI hv with⟨i,t,rfl,rfl⟩|⟨x,t,rfl,rfl⟩
  ·exact wpAny_pyHash_int h
  ·exact wpAny_pyHash_str h
 eqBool:=fun hu hv h=>by
  rcases gI hu with⟨i,t,rfl,rfl⟩|⟨x,t,rfl,rfl⟩<;>rcases gI hv with⟨j,u,rfl,rfl⟩|⟨y,u,rfl,rfl⟩
  ·exact wpAny_eqBool_int (by rw[Bool.beq_eq_decide_eq];simpa using h)
  ·exact SeqAt.EqAt.int_str i t _ u _ _ _ _ (by simpa using h)
  ·exact SeqAt.EqAt.str_int _ t j u _ _ _ _ (by simpa using h)
  ·exact wpAny_eqBool_str (by rw[show decide (S x=S y)=decide ((Sum.inr x:PK)=.inr y)from decide_eq_decide.mpr ⟨fun e=>by rw[vP e],fun e=>by cases e;rfl⟩];exact h)
 «strs» :=fun k x t v h=>by
  rcases gI h with⟨i,u,rfl,e⟩|⟨y,u,rfl,e⟩<;>cases e
  cases v<;>rfl
structure SC where
 prog:Program
 w:World
 K:W.Frag
 mg:Str→Option Value
 base:Heap
 T:Nat→Option Addr
abbrev Fz:=Addr→Option Obj
structure Wo where
 F:Fz
 O:Addr→Option Addr
 m:List Addr
 s:Shared
def DO(G:SC)(o:Obj)(kvs:List (PK×Value)):Prop:=o.ExactDict∧∃es ep,o.data=.dict es ep∧KeysOf (pk G.prog G.w) es∧Pairs (pk G.prog G.w) es.toList kvs∧(kvs.map (·.1)).Nodup
def R4(o:Obj)(fs:List (Str×Value)):Prop:=∃es ep,o.data=.dict es ep∧StrKeys es∧UniqKeys es∧∀n,nsFind es n=fs.lookup n
noncomputable def S_:PV→Option (String×List PV)
 |.tup ps=>some ("tuple",ps)
 |.lst ps=>some ("list",ps)
 |.Nz ps=>some ("list",ps)
 |_=>none
section
variable(G:SC)(F:Fz)(m:List Addr)
mutual
inductive br:PV→Value→Prop where
 |non:br .non .none
 |bl (b:Bool):br (.bl b) (.bool b)
 |int (i:Int) (t:Tok):br (.int i) (.int i t)
 |str (x:List Nat) (t:Tok):br (.str x) (.str (S x) t)
 |ty (n:String):br (.ty n) (.type n)
 |cls {C:Nat} {a:Addr} (c:G.T C=some a):br (.cls C) (.ref a)
 |tup {ps:List PV} {a:Addr} {its:Array Value} {n:Nat} (e:F a=some ({ cls:=.type "tuple",data:=.seq its n })) (z:its.size≤sizeLine) (r:aA ps its.toList):br (.tup ps) (.ref a)
 |lst {ps:List PV} {a:Addr} {its:Array Value} {n:Nat} (e:F a=some ({ cls:=.type "list",data:=.seq its n })) (z:its.size≤sizeLine) (r:aA ps its.toList):br (.lst ps) (.ref a)
 |Nz {ps:List PV} {a:Addr} {its:Array Value} {n:Nat} (e:F a=some ({ cls:=.type "list",data:=.seq its n })) (z:its.size≤sizeLine) (r:aA ps its.toList):br (.Nz ps) (.ref a)
 |dct {kps:List (PK×PV)} {a:Addr} {o:Obj} {kvs:List (PK×Value)} (e:F a=some o) (d:DO G o kvs) (sm:(a==sysModules)=false) (z:kvs.length≤sizeLine) (k:kvs.map (·.1)=kps.map (·.1)) (r:aA (kps.map (·.2)) (kvs.map (·.2))):br (.dct kps) (.ref a)
 |ins {C:Nat} {a Ca dx:Addr} {od:Obj} (c:G.T C=some Ca) (e:F a=some (W.instObj Ca dx)) (d:F dx=some od) (n:R4 od []):br (.ins C []) (.ref a)
 |ref {i:Nat} {a:Addr} (e:m[i]? =some a):br (.ref i) (.ref a)
 |exc {C:Nat} {a Ca:Addr} {o:Obj} {vs:Array Value} (c:G.T C=some Ca) (e:F a=some o) (oc:o.cls=.ref Ca) (d:o.data=.fields vs):br (.exc C) (.ref a)
 |Nh {C:Nat} {a Ca dx:Addr} {o od:Obj} {vs:Array Value} {u:Value} {fs:List (Str×Value)} {p:PV} (c:G.T C=some Ca) (e:F a=some o) (oc:o.cls=.ref Ca) (d:o.data=.fields vs) (TY:o.dict=some dx) (e2:F dx=some od) (n:R4 od fs) (l:fs.lookup (R7 C)=some u) (r:br p u):br (.Nh C p) (.ref a)
inductive aA:List PV→List Value→Prop where
 |nil:aA [] []
 |cons {p:PV} {v:Value} {ps:List PV} {vs:List Value} (r:br p v) (t:aA ps vs):aA (p::ps) (v::vs)
end
def qK(O:Addr→Option Addr)(g:Heap)(a:Addr):PO→Prop
 |.lst ps=>F a=none∧∃its n,g.get? a=some { cls:=.type "list",data:=.seq its n }∧its.size≤sizeLine∧aA G F m ps its.toList
 |.dct kps=>F a=none∧∃o kvs,g.get? a=some o∧DO G o kvs∧(a==sysModules)=false∧kvs.length≤sizeLine∧kvs.map (·.1)=kps.map (·.1)∧aA G F m (kps.map (·.2)) (kvs.map (·.2))
 |.G6 p=>br G F m p (.ref a)∧p.pure=true∧∃o,F a=some o
 |.obj C ps=>F a=none∧∃Ca dx od vs,G.T C=some Ca∧g.get? a=some (W.instObj Ca dx)∧O dx=some a∧g.get? dx=some od∧R4 od ((Qi C).zip vs)∧vs.length≤(Qi C).length∧aA G F m ps vs
end
section
variable{G:SC}{F F':Fz}{m m':List Addr}
def Sub(m m':List Addr):Prop:=∀(i:Nat)(a:Addr),m[i]? =some a→m'[i]? =some a
mutual
theorem br.mono(hF:∀a o,F a=some o→F' a=some o):∀{p:PV}{v:Value},br G F m p v→p.pure=true∨Sub m m'→br G F' m' p v
 |_,_,.non,_=>.non
 |_,_,.bl b,_=>.bl b
 |_,_,.int i t,_=>.int i t
 |_,_,.str x t,_=>.str x t
 |_,_,.ty n,_=>.ty n
 |_,_,.cls c,_=>.cls c
 |_,_,.tup e z r,h=>.tup (hF _ _ e) z (aA.mono hF r (h.imp_left fun q=>by simpa[PV.pure]using q))
 |_,_,.lst e z r,h=>.lst (hF _ _ e) z (aA.mono hF r (h.imp_left fun q=>by simpa[PV.pure]using q))
 |_,_,.Nz e z r,h=>.Nz (hF _ _ e) z (aA.mono hF r (h.imp_left fun q=>by simpa[PV.pure]using q))
 |_,_,.dct e d sm z k r,h=>.dct (hF _ _ e) d sm z k (aA.mono hF r (h.imp_left fun q=>by simpa[PV.pure,fP]using q))
 |_,_,.ins c e d n,_=>.ins c (hF _ _ e) (hF _ _ d) n
 |_,_,.ref e,h=>.ref (h.elim (fun q=>by simp[PV.pure]at q) fun q=>q _ _ e)
 |_,_,.exc c e o d,_=>.exc c (hF _ _ e) o d
 |_,_,.Nh c e o d o' e2 n l r,h=>.Nh c (hF _ _ e) o d o' (hF _ _ e2) n l (br.mono hF r (h.imp_left fun q=>by simpa[PV.pure]using q))
theorem aA.mono(hF:∀a o,F a=some o→F' a=some o):∀{p:List PV}{v:List Value},aA G F m p v→aq p=true∨Sub m m'→aA G F' m' p v
 |_,_,.nil,_=>.nil
 |_,_,.cons r t,h=>.cons (br.mono hF r (h.imp_left fun q=>by simp only[aq,Bool.and_eq_true]at q;exact q.1)) (aA.mono hF t (h.imp_left fun q=>by simp only[aq,Bool.and_eq_true]at q;exact q.2))
end
theorem br.sq{p:PV}{t:String}{ps:List PV}{a:Addr}{its:Array Value}{n:Nat}(k:S_ p=some (t,ps))(e:F a=some ({ cls:=.type t,data:=.seq its n }))(z:its.size≤sizeLine)(r:aA G F m ps its.toList):br G F m p (.ref a):=by
 unfold S_ at k
 split at k<;>cases k
 ·exact .tup e z r
 ·exact .lst e z r
 ·exact .Nz e z r
end
end Z
namespace Z
open PySem PySem.Spec PyProof.Rows L3
structure HR(G:SC)(w:Wo)(h:List PO):Prop where
 sub:∀a o,w.F a=some o→w.s.heap.get? a=some o
 own:∀d a,w.O d=some a→(∃o,w.s.heap.get? d=some o)∧d∉w.m∧w.F d=none
 len:h.length=w.m.length
 nd:w.m.Nodup
 obj:∀(i:Nat)(o:PO)(a:Addr),h[i]? =some o→w.m[i]? =some a→qK G w.F w.m w.O w.s.heap a o
def O3(w:Wo)(b:Addr):Prop:=b∉w.m∧w.F b=none∧w.O b=none
def Has(w:Wo)(b:Addr)(o:Obj):Prop:=w.s.heap.get? b=some o∧O3 w b
structure K1(fs:List Addr)(W:Addr→Prop)(w w':Wo):Prop where
 os:w'.s.os=w.s.os
 ba:AllBare w.s.gens→AllBare w'.s.gens
 fz:∀a o,w.F a=some o→w'.F a=some o
 ow:∀d a,w.O d=some a→w'.O d=some a
 pre:∃t,w'.m=w.m++t
 dom:∀b o,w.s.heap.get? b=some o→∃o',w'.s.heap.get? b=some o'
 keep:∀b o,Has w b o→¬ W b→∃sl,Has w' b { o with slots:=sl }∧(b∈fs∨sl=o.slots)
section
variable{G:SC}{fs:List Addr}{W W':Addr→Prop}{w w1 w2:Wo}{h h1:List PO}{a b:Addr}{o:Obj}{s':Shared}
theorem K1.refl:K1 fs W w w:=⟨rfl,id,fun _ _ e=>e,fun _ _ e=>e,⟨[],by simp⟩,fun _ o e=>⟨o,e⟩,fun _ o q _=>⟨o.slots,q,.inr rfl⟩⟩
theorem K1.trans(x:K1 fs W w w1)(y:K1 fs W w1 w2):K1 fs W w w2:=
 ⟨y.os.trans x.os,y.ba∘x.ba,fun a o e=>y.fz a o (x.fz a o e),fun a o e=>y.ow a o (x.ow a o e),let⟨t,e⟩:=x.pre;let⟨u,e'⟩:=y.pre;⟨t++u,by rw[e',e,List.append_assoc]⟩,fun b o e=>let⟨o',q⟩:=x.dom b o e;y.dom b o' q,fun b o q n=>by obtain⟨sl,q1,z1⟩:=x.keep b o q n;obtain⟨Td,q2,z2⟩:=y.keep b _ q1 n;exact⟨Td,q2,z1.elim .inl fun z=>z2.imp_right fun z'=>z'.trans z⟩⟩
theorem K1.weak{Yn:List Addr}(x:K1 fs W w w1)(k:∀b,W b→W' b)(l:∀b∈fs,b∈Yn:=by exact fun _ z=>z):K1 Yn W' w w1:=⟨x.os,x.ba,x.fz,x.ow,x.pre,x.dom,fun b o q n=>let⟨sl,q,z⟩:=x.keep b o q fun z=>n (k b z);⟨sl,q,z.imp_left (l b)⟩⟩
theorem K1.sub(x:K1 fs W w w1):Sub w.m w1.m:=fun i a e=>by obtain⟨t,z⟩:=x.pre;rw[z,List.getElem?_append_left (List.getElem?_eq_some_iff.mp e).1];exact e
theorem K1.rep(x:K1 fs W w w1){p:PV}{u:Value}(r:br G w.F w.m p u):br G w1.F w1.m p u:=r.mono x.fz (.inr x.sub)
theorem K1.reps(x:K1 fs W w w1){p:List PV}{u:List Value}(r:aA G w.F w.m p u):aA G w1.F w1.m p u:=r.mono x.fz (.inr x.sub)
theorem HR.there(H:HR G w h)(e:a∈w.m):∃o,w.s.heap.get? a=some o:=by
 obtain⟨i,hi,e⟩:=List.mem_iff_getElem.mp e;have q:=H.obj i (h[i]'(by rw[H.len];exact hi)) a (by simp) (by simp[← e])
 revert q
 cases h[i]'(by rw[H.len];exact hi)with
 |lst ps=>exact (by rintro ⟨_,_,_,e,_⟩;exact ⟨_,e⟩)
 |dct kps=>exact (by rintro ⟨_,_,_,e,_⟩;exact ⟨_,e⟩)
 |G6 p=>exact (by rintro ⟨_,_,o,e⟩;exact ⟨o,H.sub a o e⟩)
 |obj C ps=>exact (by rintro ⟨_,_,_,_,_,_,e,_⟩;exact ⟨_,e⟩)
theorem HR.free(H:HR G w h)(e:w.s.heap.get? a=none):O3 w a:=by
 refine⟨fun z=>?_,?_,?_⟩
 ·obtain⟨o,q⟩:=H.there z;rw[e]at q;cases q
 ·cases q:w.F a with
  |none=>rfl
  |some x=>rw[H.sub a x q]at e;cases e
 ·cases q:w.O a with
  |none=>rfl
  |some x=>obtain⟨⟨o,q'⟩,_⟩:=H.own a x q;rw[e]at q';cases q'
theorem HR.at(H:HR G w h)(e:w.F a=some o):w.s.heap.get? a=some o:=H.sub a o e
theorem aX(g:Heap):g.get? g.objs.size=none:=by
 cases q:g.get? g.objs.size with
 |none=>rfl
 |some o=>exact absurd (Heap.lt_size q) (Nat.lt_irrefl _)
theorem qK.on{g g':Heap}{F F':Fz}{m m':List Addr}{O O':Addr→Option Addr}{po:PO}(hF:∀a o,F a=some o→F' a=some o)(hO:∀d,O d=some a→O' d=some a)(hm:Sub m m')(q:qK G F m O g a po)(k:∀b o,g.get? b=some o→b=a∨O b=some a→g'.get? b=some o)(f:F a=none→F' a=none):qK G F' m' O' g' a po:=by
 cases po with
 |lst ps=>obtain⟨z,its,n,e,l,r⟩:=q;exact⟨f z,its,n,k _ _ e (.inl rfl),l,r.mono hF (.inr hm)⟩
 |dct kps=>obtain⟨z,o,kvs,e,d,y,l,c,r⟩:=q;exact⟨f z,o,kvs,k _ _ e (.inl rfl),d,y,l,c,r.mono hF (.inr hm)⟩
 |G6 p=>obtain⟨r,z,o,e⟩:=q;exact⟨r.mono hF (.inr hm),z,o,hF _ _ e⟩
 |obj C ps=>obtain⟨z,Ca,dx,od,vs,c,e,d,e2,n,l,r⟩:=q;exact⟨f z,Ca,dx,od,vs,c,k _ _ e (.inl rfl),hO _ d,k _ _ e2 (.inr d),n,l,r.mono hF (.inr hm)⟩
theorem HR.on(H:HR G w h)(k:∀b o,w.s.heap.get? b=some o→¬ O3 w b→s'.heap.get? b=some o):HR G { w with s:=s' } h:=
 have f:∀{b o},w.F b=some o→¬ O3 w b:=fun e z=>by rw[z.2.1]at e;cases e
 have d:∀{b a},w.O b=some a→¬ O3 w b:=fun e z=>by rw[z.2.2]at e;cases e
 ⟨fun a o e=>k a o (H.sub a o e) (f e),fun b a e=>let⟨⟨o,q⟩,z⟩:=H.own b a e;⟨⟨o,k b o q (d e)⟩,z⟩,H.len,H.nd,fun i o a e1 e2=>(H.obj i o a e1 e2).on (fun _ _ e=>e) (fun _ e=>e) (fun _ _ e=>e) (fun b o e z=>k b o e (z.elim (fun z y=>y.1 (z▸List.mem_of_getElem? e2)) d)) id⟩
end
structure Cx extends SC where
 A:Around
 N:List Str
 env:Env
 stack:List Env
 fn:Str→Bool
 calm:Bool
 tr:Bool
 Ep:(Value→Shared→Prop)→Prop
abbrev Cx.L(X:Cx):Addr:=X.env.locals
noncomputable def frs(l:List Env):List Addr:=l.filterMap (·.frame)
abbrev Cx.fs(X:Cx):List Addr:=frs X.stack
abbrev Cx.M(X:Cx):Model:=model X.prog X.w
def Cx.W(X:Cx)(b:Addr):Prop:=b=X.L∨∃x,X.fn x=true∧X.env.cells.lookup x=some b
def Ov:Addr→Prop:=fun _=>False
def Nw(X:Cx)(w w':Wo)(h:List PO):Prop:=K1 X.fs Ov w w'∧HR X.toSC w' h
structure Wd(X:Cx)(w:Wo)(h:List PO):Prop extends HR X.toSC w h where
 ba:AllBare w.s.gens
 bs:∀b o,X.base.get? b=some o→w.F b=some o
 fr:∀b∈X.fs,∃o,Has w b o∧∀vs,o.data≠.fields vs
def vR(env:Env)(g:Heap)(m:Str→Option Value)(x:Str)(u:Value):Prop:=
 (env.kindOf x=some .local∧m x=some u)∨((env.kindOf x=some .cell∨env.kindOf x=some .free)∧∃c,env.cells.lookup x=some c∧g.IsCell c (some u))
structure Cx.Ok(X:Cx):Prop where
 Np:X.K.In X.base
 gl:X.base.Ns mainGlobals X.mg
 bl:∃mb,X.base.Ns builtinsNs mb∧∀x:Str,x≠"__name__"→mb x=bootBuiltins x
 nl:X.base.NoLimit
 kind:X.env.scope.kind=.function
 glob:X.env.globals=mainGlobals
 blt:X.env.builtins=builtinsNs
 inj:∀x y c,X.env.cells.lookup x=some c→X.env.cells.lookup y=some c→x=y
 has:∀x,(X.env.kindOf x=some .cell∨X.env.kindOf x=some .free)→∃c,X.env.cells.lookup x=some c
 hd:X.calm=true→X.A.handled=none
 frames:X.A.frames=some X.stack
 nd:X.N.Nodup
 sf:∀env∈X.stack,env.scope.kind≠.module∧∃L,env.frame=some L∧X.base.get? L=none
structure Inv(X:Cx)(w:Wo)(ρ:Ev)(h:List PO):Prop extends Wd X w h where
 ok:X.Ok
 loc:∃m o,w.s.heap.Ns X.L m∧Has w X.L o∧∀(i:Nat)(p:PV),ρ[i]? =some (some p)→∃x u,X.N[i]? =some x∧br X.toSC w.F w.m p u∧vR X.env w.s.heap m x u
 PJ:∀x c,X.env.cells.lookup x=some c→∃v o,w.s.heap.IsCell c v∧Has w c o
 ln:ρ.length=X.N.length
section
variable{X:Cx}{w w1 w2:Wo}{ρ:Ev}{h h1:List PO}{b:Addr}{o:Obj}
theorem Nw.trans(x:Nw X w w1 h)(y:Nw X w1 w2 h1):Nw X w w2 h1:=⟨x.1.trans y.1,y.2⟩
theorem qp{g g':Heap}{a:Addr}{m:Str→Option Value}(n:g.Ns a m)(k:∀o,g.get? a=some o→∃sl,g'.get? a=some { o with slots:=sl }):g'.Ns a m:=let⟨o,es,ep,e,r⟩:=n;let⟨sl,q⟩:=k o e;⟨_,es,ep,q,r⟩
theorem xn{g g':Heap}{a:Addr}{v:Option Value}(n:g.IsCell a v)(k:∀o,g.get? a=some o→∃sl,g'.get? a=some { o with slots:=sl }):g'.IsCell a v:=let⟨o,e,d⟩:=n;let⟨sl,q⟩:=k o e;⟨_,q,d⟩
theorem K1.slots{W:Addr→Prop}{fs:List Addr}(x:K1 fs W w w1)(q:Has w b o)(n:¬ W b):∀o,w.s.heap.get? b=some o→∃sl,w1.s.heap.get? b=some { o with slots:=sl }:=fun o' e=>by rw[q.1]at e;cases e;obtain⟨sl,z,_⟩:=x.keep b o q n;exact⟨sl,z.1⟩
theorem rP{g base:Heap}:∀{l:List Env},(∀env∈l,env.scope.kind≠.module∧∃L,env.frame=some L∧base.get? L=none)→(∀b∈frs l,∃o,g.get? b=some o∧∀vs,o.data≠.fields vs)→g.FunFrames base l
 |[],_,_=>trivial
 |env::r,h,k=>by
  obtain⟨a,L,b,c⟩:=h env (by simp);have e:frs (env::r)=L::frs r:=by simp[frs,b]
  rw[e]at k;obtain⟨o,q,d⟩:=k L (by simp);exact⟨a,⟨L,o,b,c,q,d⟩,rP (fun x hx=>h x (List.mem_cons_of_mem _ hx)) fun x hx=>k x (List.mem_cons_of_mem _ hx)⟩
theorem Wd.on{W:Addr→Prop}(I:Wd X w h)(x:K1 X.fs W w w1)(hw:∀b∈X.fs,W b→∃o,Has w1 b o∧∀vs,o.data≠.fields vs)(H:HR X.toSC w1 h1):Wd X w1 h1:=
 ⟨H,x.ba I.ba,fun b o e=>x.fz _ _ (I.bs b o e),fun b hb=>by
  by_cases z:W b
  ·exact hw b hb z
  ·obtain⟨o,q,d⟩:=I.fr b hb;obtain⟨sl,q',_⟩:=x.keep b o q z;exact⟨_,q',d⟩⟩
theorem Inv.on(I:Inv X w ρ h)(x:Nw X w w1 h1):Inv X w1 ρ h1:=by
 obtain⟨m,o,n,hl,q⟩:=I.loc;have nw:∀b,¬ Ov b:=fun _ z=>z;have cl:∀x c,X.env.cells.lookup x=some c→∀v,w.s.heap.IsCell c v→w1.s.heap.IsCell c v:=fun y c e v z=>let⟨_,_,_,hc⟩:=I.PJ y c e;xn z (x.1.slots hc (nw c));refine⟨I.toWd.on x.1 (fun _ _ z=>z.elim) x.2,I.ok,⟨m,?_⟩,fun y c e=>?_,I.ln⟩
 ·obtain⟨sl,z,_⟩:=x.1.keep _ _ hl (nw _);refine⟨_,qp n (x.1.slots hl (nw _)),z,fun i p e=>?_⟩;obtain⟨y,u,e1,r,l⟩:=q i p e;exact⟨y,u,e1,x.1.rep r,l.imp_right (by rintro ⟨k,c,e,z⟩;exact ⟨k,c,e,cl y c e _ z⟩)⟩
 ·obtain⟨v,o,z,hc⟩:=I.PJ y c e;obtain⟨sl,q',_⟩:=x.1.keep _ _ hc (nw _);exact⟨v,_,cl y c e v z,q'⟩
theorem Wd.bk(I:Wd X w h){b:Addr}{o:Obj}(e:X.base.get? b=some o):w.s.heap.get? b=some o:=I.toHR.at (I.bs b o e)
theorem Inv.N5(I:Inv X w ρ h):X.K.In w.s.heap:=I.ok.Np.keeps fun _ _ e=>I.bk e
end
def Fst(B:Heap)(l:List Env)(a:Addr)(cls a0:Value)(h:Heap):Prop:=B.StaysIn h∧B.get? a=none∧h.FunFrames B l∧∃o vs,h.get? a=some o∧o.cls=cls∧o.data=.fields vs∧vs[0]? =some a0∧vs[1]? =some .none
structure Ux(X:Cx)(w w':Wo)(a:Addr)(cls:Value)(dx:Option Addr):Prop where
 f:∃a0 B,(Heap.FlyingW B X.stack a cls a0 w'.s.heap∨X.tr=true∧Fst B X.stack a cls a0 w'.s.heap)∧(∀b o,w.s.heap.get? b=some o→b∉X.fs→∃o',B.get? b=some o')∧∀b,¬ O3 w' b→∃o',B.get? b=some o'
 d:∃o,w'.s.heap.get? a=some o∧o.dict=dx
def XV(G:SC)(F:Fz)(m:List Addr)(cls:Value)(dx:Option Addr):PV→Prop
 |.cls C=>∃Ca,G.T C=some Ca∧cls=.ref Ca∧dx=none
 |.Nh C v=>∃Ca d od fs y,G.T C=some Ca∧cls=.ref Ca∧dx=some d∧F d=some od∧R4 od fs∧fs.lookup (R7 C)=some y∧br G F m v y
 |_=>False
def nF(X:Cx)(w w':Wo)(e:PV)(u:Value):Prop:=∃a cls dx,u=.ref a∧Ux X w w' a cls dx∧XV X.toSC w'.F w'.m cls dx e
theorem nF.to{X:Cx}{w w0 w2 w3:Wo}{e:PV}{u:Value}(r:nF X w w2 e u)(pu:e.pure=true)(hF:w3.F=w2.F)(hs:w3.s=w2.s)(h0:w0.s=w.s)(k:∀b,¬ O3 w3 b→¬ O3 w2 b∨(∃o,w.s.heap.get? b=some o)∧b∉X.fs):nF X w0 w3 e u:=by
 obtain⟨a,cls,dx,rfl,⟨⟨a0,B,f,c1,c2⟩,d⟩,m⟩:=r;refine⟨a,cls,dx,rfl,⟨⟨a0,B,hs▸f,h0▸c1,fun b z=>(k b z).elim (c2 b) (by rintro ⟨⟨o,q⟩,n⟩;exact c1 b o q n)⟩,hs▸d⟩,?_⟩;rw[hF]
 cases e with
 |Nh C v=>obtain⟨Ca,d,od,fs,y,a,b,c,d',e,f,g⟩:=m;exact⟨Ca,d,od,fs,y,a,b,c,d',e,f,g.mono (fun _ _ e=>e) (.inl (by simpa[PV.pure]using pu))⟩
 |_=>exact m
abbrev RV(G:SC)(w:Wo):PV→Value→Prop:=br G w.F w.m
abbrev RVs(G:SC)(w:Wo):List PV→List Value→Prop:=aA G w.F w.m
def bT{α β:Type}(X:Cx)(R:Wo→α→β→Prop)(w:Wo)(Q:β→Shared→Prop)(E:Value→Shared→Prop):Res α→Prop
 |.ok a h=>X.Ep E∧∀w' x,Nw X w w' h→R w' a x→Q x w'.s
 |.exc e h=>X.Ep E∧∀w' u,Nw X w w' h→nF X w w' e u→E u w'.s
 |.bad=>False
abbrev Wp(X:Cx){β:Type}(t:Sem β)(Q:β→Shared→Prop)(E:Value→Shared→Prop)(s:Shared):Prop:=wpAny (model X.prog X.w) X.A t Q E s
structure RE(X:Cx)(e:Expr)(f:Ex):Prop where
 r:∀{w:Wo}{ρ:Ev}{h:List PO}{Q:Value→Shared→Prop}{E:Value→Shared→Prop},Inv X w ρ h→bT X (RV X.toSC) w Q E (f ρ h)→Wp X (eval e X.env) Q E w.s
structure RT(X:Cx)(e:Expr)(f:Tx):Prop where
 r:∀{w:Wo}{ρ:Ev}{h:List PO}{Q:Bool→Shared→Prop}{E:Value→Shared→Prop},Inv X w ρ h→bT X (fun _ a b=>a=b) w Q E (f ρ h)→Wp X (isTrue e X.env (eval e X.env)) Q E w.s
structure RA(X:Cx)(es:List Expr)(f:Ax):Prop where
 r:∀{w:Wo}{ρ:Ev}{h:List PO}{Q:List Value→Shared→Prop}{E:Value→Shared→Prop}(pos:Pos),Inv X w ρ h→bT X (RVs X.toSC) w Q E (f ρ h)→Wp X (spliced (backTo pos (starEach es X.env))) Q E w.s
section
variable{X:Cx}{w w1:Wo}{ρ:Ev}{h:List PO}{α β γ δ:Type}{R:Wo→α→β→Prop}{R':Wo→γ→δ→Prop}{E:Value→Shared→Prop}
theorem Ux.back{a:Addr}{cls:Value}{dx:Option Addr}{w':Wo}{W:Addr→Prop}{fs:List Addr}(f:Ux X w1 w' a cls dx)(x:K1 fs W w w1):Ux X w w' a cls dx:=
 let⟨a0,B,y,c,d⟩:=f.f;⟨⟨a0,B,y,fun b o e n=>let⟨o',q⟩:=x.dom b o e;c b o' q n,d⟩,f.d⟩
theorem nF.back{w':Wo}{e:PV}{u:Value}{W:Addr→Prop}{fs:List Addr}(r:nF X w1 w' e u)(x:K1 fs W w w1):nF X w w' e u:=let⟨a,c,d,e,f,r⟩:=r;⟨a,c,d,e,f.back x,r⟩
theorem bT.ep{Q:β→Shared→Prop}{r:Res α}(p:bT X R w Q E r):X.Ep E:=match r with
 |.ok _ _=>p.1
 |.exc _ _=>p.1
 |.bad=>p.elim
theorem bT.step{Q:β→Shared→Prop}{r:Res α}{h1:List PO}(p:bT X R w Q E r)(x:Nw X w w1 h1):bT X R w1 Q E r:=match r with
 |.ok _ _=>⟨p.1,fun w' u y=>p.2 w' u (x.trans y)⟩
 |.exc _ _=>⟨p.1,fun w' u y r=>p.2 w' u (x.trans y) (r.back x.1)⟩
 |.bad=>p
theorem bT.R2{Q:δ→Shared→Prop}{G:β→Shared→Prop}{r:Res α}{k:α→List PO→Res γ}(p:bT X R' w Q E (r.bind k))(c:∀w1 h1 a x,Nw X w w1 h1→R w1 a x→bT X R' w Q E (k a h1)→G x w1.s):bT X R w G E r:=match r with
 |.ok a h=>⟨p.ep,fun w' x y q=>c w' h a x y q p⟩
 |.exc _ _=>p
 |.bad=>p
theorem bT.bind{Q:δ→Shared→Prop}{G:β→Shared→Prop}{r:Res α}{k:α→List PO→Res γ}(p:bT X R' w Q E (r.bind k))(c:∀w1 h1 a x,Nw X w w1 h1→R w1 a x→bT X R' w1 Q E (k a h1)→G x w1.s):bT X R w G E r:=p.R2 fun w1 h1 a x y q p=>c w1 h1 a x y q (p.step y)
theorem bT.now{Q:β→Shared→Prop}{a:α}{x:β}{t:Nat}(p:bT X R w Q E (.ok a h))(H:HR X.toSC w h)(r:R { w with s:={ w.s with toks:=t } } a x):Q x { w.s with toks:=t }:=
 p.2 { w with s:={ w.s with toks:=t } } x ⟨⟨rfl,id,fun _ _ e=>e,fun _ _ e=>e,⟨[],by simp⟩,fun _ o e=>⟨o,e⟩,fun _ o q _=>⟨o.slots,q,.inr rfl⟩⟩,H.on fun _ _ e _=>e⟩ r
theorem bT.here{Q:β→Shared→Prop}{a:α}{x:β}(p:bT X R w Q E (.ok a h))(H:HR X.toSC w h)(r:R w a x):Q x w.s:=p.2 w x ⟨.refl,H⟩ r
end
noncomputable def iQ(F:Fz)(a:Addr)(o:Obj):Fz:=fun b=>if b=a then some o else F b
theorem bL{F:Fz}{a:Addr}{o:Obj}:iQ F a o a=some o:=if_pos rfl
theorem jW{F:Fz}{a b:Addr}{o:Obj}(n:b≠a):iQ F a o b=F b:=if_neg n
theorem cP{F:Fz}{a b:Addr}{o:Obj}(n:b≠a)(e:F b=none):iQ F a o b=none:=(jW n).trans e
theorem dj{F:Fz}{a:Addr}{o:Obj}(n:F a=none)(b:Addr)(x:Obj)(q:F b=some x):iQ F a o b=some x:=by rw[jW];exact q;rintro rfl;rw[n]at q;cases q
theorem Nw.lay{X:Cx}{w:Wo}{h:List PO}{a:Addr}{o:Obj}{s':Shared}(H:HR X.toSC w h)(n:w.s.heap.get? a=none)(k:∀b o,w.s.heap.get? b=some o→s'.heap.get? b=some o)(e:s'.heap.get? a=some o)(ho:s'.os=w.s.os:=by rfl)(hg:s'.gens=w.s.gens:=by rfl):Nw X w ⟨iQ w.F a o,w.O,w.m,s'⟩ h:=by
 obtain⟨z1,z2,z3⟩:=H.free n;have ne:∀{b o},w.s.heap.get? b=some o→b≠a:=fun q z=>by rw[z,n]at q;cases q
 refine⟨⟨ho,fun q=>hg▸q,dj z2,fun _ _ e=>e,⟨[],by simp⟩,fun b o e=>⟨o,k b o e⟩,fun b ob q _=>⟨ob.slots,⟨k b ob q.1,q.2.1,cP (ne q.1) q.2.2.1,q.2.2.2⟩,.inr rfl⟩⟩,fun b x q=>?_,fun b a q=>let⟨⟨o,e⟩,z⟩:=H.own b a q;⟨⟨o,k b o e⟩,z.1,cP (ne e) z.2⟩,H.len,H.nd,fun i ob b e1 e2=>(H.obj i ob b e1 e2).on (dj z2) (fun _ e=>e) (fun _ _ e=>e) (fun b o e _=>k b o e) (cP fun z=>z1 (z▸List.mem_of_getElem? e2))⟩
 by_cases z:b=a
 ·subst z;cases bL.symm.trans q;exact e
 ·exact k b x (H.sub b x ((jW z).symm.trans q))
end Z
namespace L3
noncomputable def am(h:List PO):PV→PV
 |.ref i=>match h[i]? with
  |some (.G6 q)=>q
  |_=>.ref i
 |p=>p
noncomputable def ai(i:Nat):Ex:=fun ρ h=>match ρ[i]? with
 |some (some p)=>.ok (am h p) h
 |_=>.bad
noncomputable def cK(v:PV):Ex:=fun _ h=>.ok v h
def c1(g:PV→List PO→Res PV)(a:Ex):Ex:=fun ρ h=>(a ρ h).bind g
def c2(g:PV→PV→List PO→Res PV)(a b:Ex):Ex:=fun ρ h=>(a ρ h).bind fun x h1=>(b ρ h1).bind fun y h2=>g x y h2
def cN(g:List PV→List PO→Res PV)(a:Ax):Ex:=fun ρ h=>(a ρ h).bind g
noncomputable def au:Ax:=fun _ h=>.ok [] h
def af(a:Ex)(r:Ax):Ax:=fun ρ h=>(a ρ h).bind fun x h1=>(r ρ h1).bind fun xs h2=>.ok (x::xs) h2
end L3
namespace Z
open PySem PySem.Spec PyProof.Rows L3
section
variable{X:Cx}{w w1:Wo}{ρ:Ev}{h:List PO}{a b:Expr}{fa fb:Ex}{ta tb:Tx}{pos:Pos}{Q:Value→Shared→Prop}{E:Value→Shared→Prop}
theorem HR.Pr{G:SC}(H:HR G w h){p:PV}{v:Value}(r:br G w.F w.m p v):br G w.F w.m (am h p) v:=by
 unfold am
 split
 ·cases r with
  |ref e=>
   split
   ·rename_i q;exact(H.obj _ _ _ q e).1
   ·exact .ref e
 ·exact r
abbrev sE0(X:Cx)(e:Expr)(es:List Expr):Prop:=starEach (e::es) X.env=(false,eval e X.env)::starEach es X.env
abbrev sP0(X:Cx)(es:List Expr)(pos:Pos):Prop:=(backTo pos (starEach es X.env)).any (·.1)=false
abbrev nD0(x:Str):Prop:=(x==("__debug__":Str))=false
theorem vR.nm{m:Str→Option Value}{x:Str}{u:Value}{s:Shared}(l:vR X.env s.heap m x u)(n:s.heap.Ns X.L m)(ok:X.Ok)(z:Q u s)(hd:(x==("__debug__":Str))=false)(Rc:(x==("__classdict__":Str))=false):Wp X (eval (.Name x pos) X.env) Q E s:=by
 rcases l with⟨k,e⟩|⟨k|k,c,e,q⟩
 ·exact wpAny_Name (wpAny_loadName_local ok.kind k n e z) hd
 ·exact wpAny_Name (wpAny_loadName_cell ok.kind k e q z) hd
 ·exact wpAny_Name (wpAny_loadName_free ok.kind k e q z Rc) hd
theorem rv(i:Nat){x:Str}(hN:X.N[i]? =some x:=by rfl)(hd:nD0 x:=by decide)(Rc:(x==("__classdict__":Str))=false:=by decide):RE X (.Name x pos) (ai i) where
 r I p:=by
  unfold ai at p
  split at p
  ·rename_i q;obtain⟨m,_,n,_,l⟩:=I.loc;obtain⟨y,u,e,r,l⟩:=l i _ q
   cases hN.symm.trans e
   exact l.nm n I.ok (p.here I.toHR (I.Pr r)) hd Rc
  ·exact p.elim
theorem ah{i:Int}{j}:RE X (.Constant (.int i) j pos) (cK (.int i)):=⟨fun I p=>wpAny_Constant_int (p.now I.toHR (.int i _))⟩
theorem rA{b:Bool}{j}:RE X (.Constant (.bool b) j pos) (cK (.bl b)):=⟨fun I p=>Constant_bool (p.here I.toHR (.bl b))⟩
theorem cW{j}:RE X (.Constant .none j pos) (cK .non):=⟨fun I p=>Constant_none (p.here I.toHR .non)⟩
theorem Gh(l:List Nat){x:Str}{j}(e:x=S l:=by rfl):RE X (.Constant (.str x) j pos) (cK (.str l)):=⟨fun I p=>Calls.Constant_str (p.now I.toHR (e▸.str l _))⟩
def O7(X:Cx)(op:Value→Value→Sem Value)(g:PV→PV→List PO→Res PV):Prop:=
 ∀{w h p q u v Q E},Wd X w h→br X.toSC w.F w.m p u→br X.toSC w.F w.m q v→bT X (RV X.toSC) w Q E (g p q h)→Wp X (op u v) Q E w.s
def Op1(X:Cx)(op:Value→Sem Value)(g:PV→List PO→Res PV):Prop:=
 ∀{w h p u Q E},Wd X w h→br X.toSC w.F w.m p u→bT X (RV X.toSC) w Q E (g p h)→Wp X (op u) Q E w.s
def OpN(X:Cx)(op:List Value→Sem Value)(g:List PV→List PO→Res PV):Prop:=
 ∀{w h p u Q E},Wd X w h→aA X.toSC w.F w.m p u→bT X (RV X.toSC) w Q E (g p h)→Wp X (op u) Q E w.s
theorem two{op:Value→Value→Sem Value}{g:PV→PV→List PO→Res PV}(o:O7 X op g)(ha:RE X a fa)(hb:RE X b fb)(I:Inv X w ρ h)(p:bT X (RV X.toSC) w Q E (c2 g fa fb ρ h)):
  Wp X (eval a X.env) (fun v s=>Wp X (eval b X.env) (fun u s=>Wp X (op v u) Q E s) E s) E w.s:=
 ha.r I (p.bind fun _ _ _ _ y r p=>hb.r (I.on y) (p.bind fun _ _ _ _ z r' p=>o ((I.on y).on z).toWd (z.1.rep r) r' p))
theorem uG{op:Operator}{g:PV→PV→List PO→Res PV}(o:O7 X (binaryOp op) g)(ha:RE X a fa)(hb:RE X b fb):RE X (.BinOp a op b pos) (c2 g fa fb):=⟨fun I p=>wpAny_BinOp (two o ha hb I p)⟩
theorem ID{op:UnaryOp}{g:PV→List PO→Res PV}(o:Op1 X (unaryOp op) g)(ha:RE X a fa):RE X (.UnaryOp op a pos) (c1 g fa):=⟨fun I p=>UnaryOp_ (ha.r I (p.bind fun _ _ _ _ y r p=>o (I.on y).toWd r p))⟩
theorem jO{op:CmpOp}{g:PV→PV→List PO→Res PV}(o:O7 X (compareOp op) g)(hm:behindInMarks op b=false)(ha:RE X a fa)(hb:RE X b fb):RE X (.Compare a [op] [b] pos) (c2 g fa fb):=⟨fun I p=>wpAny_Compare1 (two o ha hb I p) hm⟩
theorem du:RA X [] au:=⟨fun _ I p=>Calls.spliced_nil (p.here I.toHR .nil)⟩
theorem ag{e:Expr}{es:List Expr}{f:Ex}{fs:Ax}(ha:RE X e f)(hr:RA X es fs)(hs:sE0 X e es:=by rfl):RA X (e::es) (af f fs):=⟨fun pos I p=>by rw[hs];exact Calls.spliced_cons (ha.r I (p.bind fun _ _ _ _ y r p=>hr.r pos (I.on y) (p.bind fun _ _ _ _ z r' p=>p.here z.2 (.cons (z.1.rep r) r'))))⟩
end
end Z
namespace L3
open PySem
noncomputable def Ra(h:List PO):PV→Option (List PV)
 |.lst xs=>some xs
 |.ref i=>match h[i]? with
  |some (.lst xs)=>some xs
  |_=>none
 |_=>none
def QK(h:List PO):PV→Option (List PV)
 |.Nz xs=>some xs
 |p=>Ra h p
noncomputable def Rf(h:List PO):PV→Option (List (PK×PV))
 |.dct kvs=>some kvs
 |.ref i=>match h[i]? with
  |some (.dct kvs)=>some kvs
  |_=>none
 |_=>none
def Pz(h:List PO):PV→Option (List PV)
 |.tup xs=>some xs
 |p=>QK h p
end L3
namespace Z
open PySem PySem.Spec PyProof.Rows L3
def Tv(g:Heap)(t:String)(a:Addr)(its:Array Value):Prop:=∃n,g.get? a=some { cls:=.type t,data:=.seq its n }
theorem Tv.tup{g:Heap}{a:Addr}{its:Array Value}(x:Tv g "tuple" a its):IsTup g a its:=let⟨n,e⟩:=x;⟨_,e,rfl,n,rfl⟩
theorem Tv.pl{g:Heap}{a:Addr}{its:Array Value}(x:Tv g "list" a its):PlainL g a its:=let⟨n,e⟩:=x;⟨_,n,e,rfl,rfl,rfl⟩
def Tc(h:List PO):PV→Option (String×List PV)
 |.ref i=>match h[i]? with
  |some (.lst xs)=>some ("list",xs)
  |_=>none
 |p=>S_ p
section
variable{G:SC}{w:Wo}{h:List PO}{p:PV}{u:Value}{t:String}{ps:List PV}
theorem HR.sq(H:HR G w h)(r:br G w.F w.m p u)(k:Tc h p=some (t,ps)):∃a its,u=.ref a∧Tv w.s.heap t a its∧its.size≤sizeLine∧aA G w.F w.m ps its.toList:=by
 unfold Tc at k
 split at k
 ·split at k
  ·rename_i q
   cases k
   cases r with
   |ref e=>obtain⟨_,its,n,e,z,r⟩:=H.obj _ _ _ q e;exact⟨_,its,rfl,⟨n,e⟩,z,r⟩
  ·cases k
 ·cases r with
  |tup e z r=>cases k;exact⟨_,_,rfl,⟨_,H.at e⟩,z,r⟩
  |lst e z r=>cases k;exact⟨_,_,rfl,⟨_,H.at e⟩,z,r⟩
  |Nz e z r=>cases k;exact⟨_,_,rfl,⟨_,H.at e⟩,z,r⟩
  |_=>cases k
theorem tA(k:Ra h p=some ps):Tc h p=some ("list",ps):=by
 unfold Ra at k
 split at k
 ·cases k;rfl
 ·unfold Tc
  split at k
  ·rename_i q;cases k;simp only[q]
  ·cases k
 ·cases k
theorem jk(k:QK h p=some ps):Tc h p=some ("list",ps):=by
 unfold QK at k
 split at k
 ·cases k;rfl
 ·exact tA k
theorem wh(k:Pz h p=some ps):∃t,Tc h p=some (t,ps)∧(t="tuple"∨t="list"):=by
 unfold Pz at k
 split at k
 ·cases k;exact⟨_,rfl,.inl rfl⟩
 ·exact⟨_,jk k,.inr rfl⟩
theorem aA.length{F:Fz}{m:List Addr}:∀{ps:List PV}{vs:List Value},aA G F m ps vs→ps.length=vs.length
 |_,_,.nil=>rfl
 |_,_,.cons _ t=>by simp[aA.length t]
theorem aA.app{F:Fz}{m:List Addr}:∀{ps qs:List PV}{vs us:List Value},aA G F m ps vs→aA G F m qs us→aA G F m (ps++qs) (vs++us)
 |_,_,_,_,.nil,s=>s
 |_,_,_,_,.cons r t,s=>.cons r (aA.app t s)
theorem aA.get{F:Fz}{m:List Addr}{p:PV}:∀{ps:List PV}{vs:List Value}{i:Nat},aA G F m ps vs→ps[i]? =some p→∃v,vs[i]? =some v∧br G F m p v
 |_,_,0,.cons r _,e=>by cases e;exact⟨_,rfl,r⟩
 |_,_,i+1,.cons _ t,e=>aA.get (i:=i) t e
theorem aA.td{F:Fz}{m:List Addr}:∀{ps:List PV}{vs:List Value}(n:Nat),aA G F m ps vs→aA G F m (ps.take n) (vs.take n)∧aA G F m (ps.drop n) (vs.drop n)
 |_,_,0,r=>⟨.nil,r⟩
 |_,_,_+1,.nil=>⟨.nil,.nil⟩
 |_,_,n+1,.cons r t=>⟨.cons r (aA.td n t).1,(aA.td n t).2⟩
theorem aA.rep{F:Fz}{m:List Addr}{vs:List Value}(r:aA G F m ps vs):∀n:Nat,aA G F m (List.replicate n ps).flatten (List.replicate n vs).flatten
 |0=>.nil
 |n+1=>by rw[List.replicate_succ,List.replicate_succ,List.flatten_cons,List.flatten_cons];exact r.app (r.rep n)
theorem aA.len{F:Fz}{m:List Addr}{its:Array Value}(r:aA G F m ps its.toList):ps.length=its.size:=r.length
end
section
variable{X:Cx}{w:Wo}{h:List PO}{pv:PV}{ps:List PV}{Q:Value→Shared→Prop}{E:Value→Shared→Prop}{t:String}{n tk:Nat}{its:Array Value}
theorem bT.seq(p:bT X (RV X.toSC) w Q E (.ok pv h))(H:HR X.toSC w h)(k:S_ pv=some (t,ps))(r:aA X.toSC w.F w.m ps its.toList)(z:its.size≤sizeLine):Q (.ref w.s.heap.objs.size) { w.s with heap:=w.s.heap.push { cls:=.type t,data:=.seq its n },toks:=tk }:=
 have y:=Nw.lay (X:=X) (s':={ w.s with heap:=w.s.heap.push { cls:=.type t,data:=.seq its n },toks:=tk }) H (aX _) (fun _ _ e=>Heap.get?_push_of_some _ e) (Heap.get?_push_size _ rfl)
 p.2 _ _ y (.sq k bL z (y.1.reps r))
theorem Nw.mk{s':Shared}{a:Addr}{po:PO}{O:Addr→Option Addr}(H:HR X.toSC w h)(n:w.s.heap.get? a=none)(k:∀b o,w.s.heap.get? b=some o→s'.heap.get? b=some o)(q:qK X.toSC w.F (w.m++ [a]) O s'.heap a po)(hO:∀d b,w.O d=some b→O d=some b)(hn:∀d b,O d=some b→w.O d=some b∨w.s.heap.get? d=none∧d≠a∧∃o,s'.heap.get? d=some o)(ho:s'.os=w.s.os:=by rfl)(hg:s'.gens=w.s.gens:=by rfl):Nw X w ⟨w.F,O,w.m++ [a],s'⟩ (h++ [po]):=by
 obtain⟨z1,z2⟩:=H.free n;have sb:Sub w.m (w.m++ [a]):=fun i b e=>by rw[List.getElem?_append_left (List.getElem?_eq_some_iff.mp e).1];exact e
 refine⟨⟨ho,fun q=>hg▸q,fun _ _ e=>e,hO,⟨_,rfl⟩,fun b o e=>⟨o,k b o e⟩,fun b ob q _=>⟨ob.slots,⟨k b ob q.1,fun z=>?_,q.2.2.1,?_⟩,.inr rfl⟩⟩,fun b x q=>k b x (H.sub b x q),fun d b q=>?_,by simp[H.len],List.nodup_append.mpr ⟨H.nd,by simp,fun x hx y hy z=>z1 (by simp at hy;rw[← hy,← z];exact hx)⟩,fun i ob b e1 e2=>?_⟩
 ·rcases List.mem_append.mp z with z|z
  ·exact q.2.1 z
  ·have q:=q.1;simp at z;rw[z,n]at q;cases q
 ·cases e:O b with
  |none=>exact e
  |some d=>
   rcases hn b d e with z|⟨z,_⟩
   ·rw[q.2.2.2]at z;cases z
   ·have q:=q.1;rw[z]at q;cases q
 ·rcases hn d b q with z|⟨z,y,x⟩
  ·obtain⟨⟨o,e⟩,z,y⟩:=H.own d b z;exact⟨⟨o,k d o e⟩,fun q=>(List.mem_append.mp q).elim z fun q=>(by simp at q;rw[q,n]at e;cases e),y⟩
  ·exact⟨x,fun q=>(List.mem_append.mp q).elim (H.free z).1 fun q=>y (by simpa using q),(H.free z).2.1⟩
 ·rcases Nat.lt_or_ge i h.length with l|l
  ·rw[List.getElem?_append_left l]at e1;rw[List.getElem?_append_left (H.len▸l)]at e2;exact(H.obj i ob b e1 e2).on (fun _ _ e=>e) (fun d=>hO d b) sb (fun b o e _=>k b o e) id
  ·rw[List.getElem?_append_right l]at e1;rw[List.getElem?_append_right (H.len▸l),← H.len]at e2
   cases e:i - h.length with
   |zero=>rw[e]at e1 e2;cases e1;cases e2;exact q
   |succ _=>rw[e]at e1;simp at e1
theorem bT.lm(p:bT X (RV X.toSC) w Q E (.ok (.ref h.length) (h++ [.lst ps])))(H:HR X.toSC w h)(r:aA X.toSC w.F w.m ps its.toList)(z:its.size≤sizeLine):Q (.ref w.s.heap.objs.size) { w.s with heap:=w.s.heap.push { cls:=.type "list",data:=.seq its n },toks:=tk }:=
 p.2 _ _ (Nw.mk (s':={ w.s with heap:=w.s.heap.push { cls:=.type "list",data:=.seq its n },toks:=tk }) H (aX _) (fun _ _ e=>Heap.get?_push_of_some _ e) ⟨(H.free (aX _)).2.1,its,n,Heap.get?_push_size _ rfl,z,r.mono (fun _ _ e=>e) (.inr fun i b e=>by rw[List.getElem?_append_left (List.getElem?_eq_some_iff.mp e).1];exact e)⟩ (fun _ _ e=>e) fun _ _ e=>.inl e) (.ref (by rw[H.len];simp))
end
end Z
namespace HT
open PySem PyProof.Rows
section
variable{prog:Program}{w:World}{A:Around}{E:Value→Shared→Prop}{s:Shared}
theorem Rx{t b:Addr}{vs ws:List Value}{Q:Value→Shared→Prop}(ht:IsTup s.heap t vs.toArray)(hb:IsTup s.heap b ws.toArray)(hv:vs≠ [])
  (h1:ws= []→Q (.ref t) s) (h2:ws≠ []→Q (.ref s.heap.objs.size) { s with heap:=s.heap.push { cls:=.type "tuple",data:=.seq (vs++ws).toArray } })
  (hsz:vs.length+ws.length≤sizeLine):wpAny (model prog w) A (binaryOp .Add (.ref t) (.ref b)) Q E s:=by
 obtain⟨⟨cls,dd,data,sl⟩,ho,hc,n,hd⟩:=id ht;obtain⟨⟨aaS,Yq,data2,Xu⟩,Vh,Yl,n2,hd2⟩:=id hb;simp only at hc hd Yl hd2;subst hc hd Yl hd2;have e:vs.toArray++ws.toArray=(vs++ws).toArray:=by simp
 by_cases hw:ws= []
 ·exact concat_meets ⟨_,ho,rfl⟩ ⟨_,Vh,rfl⟩ noFill_tuple_add seq_tuple_add PySem.F.slot_tuple_add PySem.F.entry_tuple_add (PySem.F.args_tuple_add_2 _ _)
   (tuple_addW1 t b vs.toArray ws.toArray n n2 dd Yq sl Xu (by simpa using hv) (by simp[hw])) ⟨ho,Vh,h1 hw⟩
 ·refine concat_meets ⟨_,ho,rfl⟩ ⟨_,Vh,rfl⟩ noFill_tuple_add seq_tuple_add PySem.F.slot_tuple_add PySem.F.entry_tuple_add (PySem.F.args_tuple_add_2 _ _)
   (tuple_addW2 t b vs.toArray ws.toArray n n2 dd Yq sl Xu (by simpa using hv) (by simpa using hw) (by rw[List.size_toArray,List.size_toArray];exact hsz)) ⟨ho,Vh,?_⟩
  rw[e];exact h2 hw
noncomputable def J6(n d:Nat):Option Int→Nat
 |none=>d
 |some v=>if v<0 then(v+(n:Int)).toNat else min v.toNat n
theorem Pj(n d:Nat):J6 n d none=d:=rfl
theorem Lg(n d k:Nat):J6 n d (some (k:Int))=min k n:=by show(if(k:Int)<0 then((k:Int)+(n:Int)).toNat else min (k:Int).toNat n)=min k n;rw[if_neg (by omega),Int.toNat_natCast]
theorem Qa(n d:Nat)(hd:d≤n)(o:Option Int):J6 n d o≤n:=by
 cases o with
 |none=>exact hd
 |some v=>
  show(if v<0 then(v+(n:Int)).toNat else min v.toNat n)≤n
  by_cases hv:v<0
  ·rw[if_pos hv];omega
  ·rw[if_neg hv];exact Nat.min_le_right _ _
theorem yH(v:Int)(n d:Nat):(if v<0 then max (v+(n:Int)) 0 else min v (n:Int))=((J6 n d (some v):Nat):Int):=by
 show(if v<0 then max (v+(n:Int)) 0 else min v (n:Int))=(((if v<0 then(v+(n:Int)).toNat else min v.toNat n):Nat):Int)
 by_cases hv:v<0
 ·simp only[if_pos hv];omega
 ·simp only[if_neg hv];omega
theorem xu(lo hi:Option Int)(n:Nat):Builtin.Slice.sliceAdjust lo hi 1 (n:Int)=(((J6 n 0 lo:Nat):Int),((J6 n n hi:Nat):Int)):=by
 have h1:¬ ((1:Int)<0):=by omega
 unfold Builtin.Slice.sliceAdjust;simp only[h1,if_false];refine Prod.ext ?_ ?_
 ·cases lo with
  |none=>rfl
  |some v=>exact yH v n 0
 ·cases hi with
  |none=>rfl
  |some v=>exact yH v n n
theorem wK(i j:Nat):Builtin.Slice.slicePlaces (i:Int) (j:Int) 1=j - i:=by
 unfold Builtin.Slice.slicePlaces;have h1:(1:Int)>0:=by omega
 simp only[h1,if_true,Int.ediv_one]
 split<;>omega
theorem pK{v:Value}{o:Option Int}{Q:Option Int→Shared→Prop}(p:IsPart v o)(h:Q o s):wpAny (model prog w) A (Builtin.Slice.slicePartIndex v) Q E s:=by
 cases p with
 |none=>exact slicePart_none h
 |int i t=>exact slicePart_int h
theorem jt{sl:Addr}{vl vu:Value}{lo hi:Option Int}{n:Nat}{Q:Int×Int×Nat→Shared→Prop}(hs:s.heap.IsSliceOf sl vl vu .none)(pl:IsPart vl lo)(pu:IsPart vu hi)
  (h:Q (((J6 n 0 lo:Nat):Int),1,J6 n n hi - J6 n 0 lo) s):wpAny (model prog w) A (Builtin.Slice.sliceApplied (.ref sl) (pure (n:Int))) Q E s:=by
 obtain⟨os,Sw,Vj,Ue⟩:=id hs;unfold Builtin.Slice.sliceApplied Builtin.Slice.sliceFields;refine wpAny_bind (wpAny_bind (wpAny_field Sw Ue (x:=vl) rfl (wpAny_bind (wpAny_field Sw Ue (x:=vu) rfl (wpAny_bind (wpAny_field Sw Ue (x:=.none) rfl (wpAny_pure ?_)))))));refine wpAny_bind (slicePart_none ?_);show wpAny _ _ (if((1:Int)==0)=true then _ else _) _ _ s;rw[if_neg (by decide)];refine wpAny_bind (pK pl (wpAny_bind (pK pu (wpAny_bind (wpAny_pure ?_)))));show wpAny _ _ (match Builtin.Slice.sliceAdjust lo hi 1 (n:Int)with|(lo,hi)=>pure (lo,(1:Int),Builtin.Slice.slicePlaces lo hi 1)) _ _ s;rw[xu lo hi n];show wpAny _ _ (pure (((J6 n 0 lo:Nat):Int),(1:Int),Builtin.Slice.slicePlaces ((J6 n 0 lo:Nat):Int) ((J6 n n hi:Nat):Int) 1)) _ _ s;rw[wK];exact wpAny_pure h
theorem Bb(xs:Array Value)(i k:Nat):((List.range k).filterMap fun(m:Nat)=>xs[((i:Int)+(m:Int) * 1).toNat]?).toArray=((xs.toList.drop i).take k).toArray:=by
 have e:(fun(m:Nat)=>xs[((i:Int)+(m:Int) * 1).toNat]?)=fun m=>xs[i+m]? :=by
  funext m
  have:((i:Int)+(m:Int) * 1).toNat=i+m:=by omega
  rw[this]
 rw[e];have:=pick_run xs i k;rw[List.filterMap_map]at this;have e2:((fun x=>xs[x]?)∘fun x=>i+x)=fun m=>xs[i+m]? :=rfl;rw[e2]at this;rw[this]
theorem Nf{t sl:Addr}{items:Array Value}{vl vu:Value}{lo hi:Option Int}{Q:Value→Shared→Prop}(ht:IsTup s.heap t items)(hs:s.heap.IsSliceOf sl vl vu .none)(pl:IsPart vl lo)(pu:IsPart vu hi)
  (hw:¬ (J6 items.size 0 lo=0∧J6 items.size items.size hi=items.size))
  (h:Q (.ref s.heap.objs.size) { s with heap:=s.heap.push { cls:=.type "tuple",data:=.seq ((items.toList.drop (J6 items.size 0 lo)).take (J6 items.size items.size hi - J6 items.size 0 lo)).toArray } })
  (hsz:items.size≤sizeLine):wpAny (model prog w) A (getItem (.ref t) (.ref sl)) Q E s:=by
 have Qn:sizeOk (.seq ((items.toList.drop (J6 items.size 0 lo)).take (J6 items.size items.size hi - J6 items.size 0 lo)).toArray):=by show((items.toList.drop (J6 items.size 0 lo)).take (J6 items.size items.size hi - J6 items.size 0 lo)).toArray.size≤sizeLine;rw[List.size_toArray,List.length_take,List.length_drop,Array.length_toList];omega
 have hj:J6 items.size items.size hi≤items.size:=Qa _ _ (Nat.le_refl _) hi;obtain⟨os,Sw,Vj,Ue⟩:=id hs;have Wy:s.TypeIs (.ref sl) "slice":=⟨os,Sw,Vj⟩
 unfold getItem
 try with_reducible refine wpAny_holding ?_
 first|refine wpAny_bind (wpAny_pure ?_)|skip
 refine wpAny_bind (wpAny_sequenceKey ht.typeIs (by decide) ?_)
 refine wpAny_bind (wpAny_callSpecial?_slot (name:=Str.ofString "__getitem__") ht.typeIs PyProof.Rows.slot_tuple_getitem
  (wpAny_call_entry PyProof.Rows.slot_tuple_getitem ht.typeIs entry_tuple_getitem ?_ (args_tuple_getitem _ _)))
 show wpAny _ _ (Builtin.Tuple.tupleItemsOf (.ref t) >>= _) _ _ s;refine wpAny_bind (tupleItemsOf_ ht ?_);refine wpAny_bind (wpAny_typeOf Wy ?_);rw[if_pos (by decide)];refine wpAny_bind (jt hs pl pu ?_)
 have Wj:¬ ((((J6 items.size 0 lo:Nat):Int)==0&&(1:Int)==1&&(J6 items.size items.size hi - J6 items.size 0 lo)==items.size)=true):=by intro q;rw[Bool.and_eq_true,Bool.and_eq_true]at q;have q1:((J6 items.size 0 lo:Nat):Int)=0:=eq_of_beq q.1.1;have q2:J6 items.size items.size hi - J6 items.size 0 lo=items.size:=eq_of_beq q.2;exact hw ⟨by omega,by omega⟩
 show wpAny _ _ (if(((J6 items.size 0 lo:Nat):Int)==0&&(1:Int)==1&&(J6 items.size items.size hi - J6 items.size 0 lo)==items.size)=true then _ else _) _ _ s;rw[if_neg Wj,Bb]
 first
  |exact wpAny_bind (m:=Builtin.Tuple.tupleExact _) (wpAny_newObj_type (wpAny_pure ⟨_,rfl,wpAny_pure h⟩) Qn)
  |exact wpAny_bind (m:=Builtin.Tuple.tupleExact _) (wpAny_newObj_type (wpAny_bind (wpAny_pure (wpAny_pure ⟨_,rfl,wpAny_pure h⟩))) Qn)
  |exact wpAny_bind (wpAny_bind (m:=Builtin.Tuple.tupleExact _) (wpAny_newObj_type (wpAny_pure (wpAny_pure ⟨_,rfl,wpAny_pure h⟩)) Qn))
  |exact wpAny_bind (wpAny_bind (m:=Builtin.Tuple.tupleExact _) (wpAny_newObj_type (wpAny_pure ⟨_,rfl,wpAny_pure h⟩) Qn))
theorem Ng{t sl:Addr}{items:Array Value}{vl vu:Value}{lo hi:Option Int}{Q:Value→Shared→Prop}(ht:IsTup s.heap t items)(hs:s.heap.IsSliceOf sl vl vu .none)(pl:IsPart vl lo)(pu:IsPart vu hi)
  (hw:J6 items.size 0 lo=0∧J6 items.size items.size hi=items.size) (h:Q (.ref t) s):wpAny (model prog w) A (getItem (.ref t) (.ref sl)) Q E s:=by
 obtain⟨os,Sw,Vj,Ue⟩:=id hs;have Wy:s.TypeIs (.ref sl) "slice":=⟨os,Sw,Vj⟩
 unfold getItem
 try with_reducible refine wpAny_holding ?_
 first|refine wpAny_bind (wpAny_pure ?_)|skip
 refine wpAny_bind (wpAny_sequenceKey ht.typeIs (by decide) ?_)
 refine wpAny_bind (wpAny_callSpecial?_slot (name:=Str.ofString "__getitem__") ht.typeIs PyProof.Rows.slot_tuple_getitem
  (wpAny_call_entry PyProof.Rows.slot_tuple_getitem ht.typeIs entry_tuple_getitem ?_ (args_tuple_getitem _ _)))
 show wpAny _ _ (Builtin.Tuple.tupleItemsOf (.ref t) >>= _) _ _ s;refine wpAny_bind (tupleItemsOf_ ht ?_);refine wpAny_bind (wpAny_typeOf Wy ?_);rw[if_pos (by decide)];refine wpAny_bind (jt hs pl pu ?_)
 have yes:(((J6 items.size 0 lo:Nat):Int)==0&&(1:Int)==1&&(J6 items.size items.size hi - J6 items.size 0 lo)==items.size)=true:=by rw[hw.1,hw.2];simp
 show wpAny _ _ (if(((J6 items.size 0 lo:Nat):Int)==0&&(1:Int)==1&&(J6 items.size items.size hi - J6 items.size 0 lo)==items.size)=true then _ else _) _ _ s;rw[if_pos yes];obtain⟨⟨ct,dt,da,Td⟩,hot,Vi,n,hdt⟩:=id ht
 cases(show ct=Value.type "tuple" from Vi)
 wp_walk using AutoSeq1.wpAny_loadPart' hot
 exact⟨_,rfl,wpAny_pure h⟩
end
end HT
namespace L2
open PySem PySem.Spec PyProof.Rows
theorem abX(a b:Bool):((a&&b)=true)=(a=true∧b=true):=Bool.and_eq_true a b
theorem abY(n:Nat):n≤n:=Nat.le_refl n
theorem nV(its:List Value):∀(k:Nat)(acc:List Value),
  List.foldl (fun x1 x2=>x1++x2) acc.toArray (List.replicate k its.toArray)=(acc++(List.replicate k its).flatten).toArray
 |0,acc=>by simp
 |k+1,acc=>by
  have e:acc.toArray++its.toArray=(acc++its).toArray:=by simp
  have e2:(acc++its)++(List.replicate k its).flatten=acc++(List.replicate (k+1) its).flatten:=by rw[List.replicate_succ,List.flatten_cons,List.append_assoc]
  rw[← e2,← nV its k (acc++its),← e,List.replicate_succ,List.foldl_cons]
theorem tF{α:Type}(xs:List α)(k:Nat):(List.replicate k xs).flatten.length=k * xs.length:=by
 induction k with
 |zero=>simp
 |succ k ih=>rw[List.replicate_succ,List.flatten_cons,List.length_append,ih,Nat.succ_mul,Nat.add_comm]
theorem Br{n:Nat}(h:n≤sizeLine):Builtin.List.listTooLong n=false:=by unfold Builtin.List.listTooLong;exact decide_eq_false (by omega)
theorem yU:fillsNumberSlot (.type "tuple") "mul"=pure false:=by kernel_rfl
theorem uw:seqRepeat? (.type "tuple")=pure (some (.builtin "tuple.__mul__")):=by kernel_rfl
theorem ww(a:Int)(t:Tok)(l:Addr)(its:Array Value)(n:Nat)(dd:Option Addr)(sl:Array (Option Value)):
  Meets (Builtin.«int.__rmul__» ⟨[.int a t,.ref l],[]⟩) (fun _ R s=>s.heap.get? l=some { cls:=.type "tuple",dict:=dd,data:=.seq its n,slots:=sl }∧R (.ok (.ret Value.notImplemented)) s):=
 .of_wp fun prog w A R s h=>by
  obtain⟨hp,g,d,tk,os⟩:=s;obtain⟨hl,h⟩:=h
  wp_walk
  exact⟨_,rfl,h⟩
theorem yT(l:Addr)(its:List Value)(n:Nat)(dd:Option Addr)(sl:Array (Option Value))(k:Int)(t:Tok)(h1: -(2 ^ 63)≤k)(h2:k<2 ^ 63)(hz:its.length * k.toNat≤sizeLine):
  Meets (Builtin.«tuple.__mul__» ⟨[.ref l,.int k t],[]⟩) (fun _ R s=>s.heap.get? l=some { cls:=.type "tuple",dict:=dd,data:=.seq its.toArray n,slots:=sl }∧
   ((its= []∨k=1)→R (.ok (.ret (.ref l))) s)∧R (.ok (.ret (.ref s.heap.objs.size))) { s with heap:=s.heap.push { cls:=.type "tuple",data:=.seq (List.replicate k.toNat its).flatten.toArray } }):=
 .of_wp fun prog w A R s h=>by
  obtain⟨hp,g,d,tk,os⟩:=s;obtain⟨hl,q1,q2⟩:=h;have f1:=AutoSeq1.idx_int;have f2:=AutoSeq1.sub_tuple_tuple;have b1:¬ ((decide (k< -(2 ^ 63))||decide (k≥2 ^ 63))=true):=by simp;omega
  unfold Builtin.«tuple.__mul__»
  wp_walk using AutoSeq1.wpAny_loadPart' hl
  rw[if_neg b1]
  wp_walk using AutoSeq1.wpAny_loadPart' hl
  have em:its.toArray.isEmpty=its.isEmpty:=by cases its<;>rfl
  have fr:∀xs:Array Value,xs.size≤sizeLine→xs=(List.replicate k.toNat its).flatten.toArray→wpAny (model prog w) A.in1 (Builtin.Tuple.tupleExact xs >>= fun v=>ret v) (fun fin s'=>∃v,fin=Fin.done (Flow.ret v)∧R (Except.ok (Flow.ret v)) s') (fun e s'=>R (Except.error e) s') ⟨hp,g,d,tk,os⟩:=fun xs hx e=>by unfold Builtin.Tuple.tupleExact;subst e;exact wpAny_bind (wpAny_newObj_type (wpAny_pure ⟨_,rfl,q2⟩) hx)
  by_cases c:(its.toArray.isEmpty||k==1)=true
  ·rw[if_pos c]
   wp_walk using AutoSeq1.wpAny_loadPart' hl
   refine⟨_,rfl,q1 ?_⟩;rw[Bool.or_eq_true,em,List.isEmpty_iff,beq_iff_eq]at c;exact c
  ·rw[if_neg c];rw[Bool.or_eq_true,not_or,em,List.isEmpty_iff]at c
   by_cases c2:(decide (k≤0)||its.toArray.isEmpty)=true
   ·rw[if_pos c2];rw[Bool.or_eq_true,em,List.isEmpty_iff]at c2
    have k0:k.toNat=0:=by
     rcases c2 with z|z
     ·have:=of_decide_eq_true z;omega
     ·exact absurd z c.1
    exact fr #[] (Nat.zero_le _) (by rw[k0];rfl)
   ·rw[if_neg c2]
    have e2:(its.toArray.size:Int) * k=((its.length * k.toNat:Nat):Int):=by
     have:((k.toNat:Nat):Int)=k:=Int.toNat_of_nonneg (by simp only[Bool.or_eq_true,not_or,decide_eq_true_eq]at c2;omega)
     rw[List.size_toArray];push_cast;rw[this]
    have Y7:(sizeLine:Nat)≤(2 ^ 63 - 1) / 8:=by decide
    rw[if_neg (by rw[e2];intro z;have:(its.length * k.toNat:Nat)≤(2 ^ 63 - 1) / 8:=Nat.le_trans hz Y7;omega)];rw[if_neg (by rw[e2];unfold Builtin.Tuple.tupleTooMany;intro z;have:=of_decide_eq_true z;have h3:((its.length * k.toNat:Nat):Int)≤(sizeLine:Nat):=Int.ofNat_le.mpr hz;omega)]
    have hf:List.foldl (fun x1 x2=>x1++x2) #[] (List.replicate k.toNat its.toArray)=(List.replicate k.toNat its).flatten.toArray:=by have:=nV its k.toNat [];rw[List.nil_append]at this;exact this
    refine fr _ ?_ hf;rw[hf,List.size_toArray,tF,Nat.mul_comm];exact hz
theorem sH(lo hi:Option Int)(n:Nat):(sliceBounds lo hi none n).1=((HT.J6 n 0 lo:Nat):Int)∧(sliceBounds lo hi none n).2.1=((HT.J6 n n hi:Nat):Int)∧(sliceBounds lo hi none n).2.2=1:=by
 refine⟨?_,?_,rfl⟩
 ·cases lo with
  |none=>simp[sliceBounds,HT.J6]
  |some i=>
   simp only[sliceBounds,HT.J6,Option.getD_none,show(1:Int)>0 by decide,if_true]
   by_cases h:i<0
   ·simp only[h,if_true]<;>omega
   ·simp only[h,if_false]<;>omega
 ·cases hi with
  |none=>simp[sliceBounds,HT.J6]
  |some i=>
   simp only[sliceBounds,HT.J6,Option.getD_none,show(1:Int)>0 by decide,if_true]
   by_cases h:i<0
   ·simp only[h,if_true]<;>omega
   ·simp only[h,if_false]<;>omega
theorem qO(its:List Value)(lo hi:Option Int):slicePick its.toArray lo hi none=((its.drop (HT.J6 its.length 0 lo)).take (HT.J6 its.length its.length hi - HT.J6 its.length 0 lo)).toArray:=by obtain⟨h1,h2,h3⟩:=sH lo hi its.toArray.size;unfold slicePick;rw[h1,h2,h3];simp only[sliceRange_one,pick_run,List.size_toArray]<;>rfl
end L2
namespace L3
open PySem PySem.Spec PyProof.Rows
def zA(p q:PV)(h:List PO):Res PV:=match p,q with
 |.int i,.int j=>.ok (.int (i+j)) h
 |.int i,.bl b=>.ok (.int (i+b2i b)) h
 |.str a,.str b=>if a.length+b.length≤sizeLine then .ok (.str (a++b)) h else .bad
 |.tup a,.tup b=>if a.isEmpty=false∧a.length+b.length≤sizeLine then .ok (.tup (a++b)) h else .bad
 |p,q=>match Ra h p,Ra h q with
  |some a,some b=>if a.length+b.length≤sizeLine then .ok (.lst (a++b)) h else .bad
  |_,_=>.bad
def aN(p q:PV)(h:List PO):Res PV:=match p,q with
 |.tup [],.tup b=>.ok (.tup b) h
 |p,q=>zA p q h
noncomputable def pI(C:Int→Int→Bool)(g:Int→Int→Int)(p q:PV)(h:List PO):Res PV:=match p,q with
 |.int i,.int j=>if C i j=true then .ok (.int (g i j)) h else .bad
 |_,_=>.bad
noncomputable def mT(p q:PV)(h:List PO):Res PV:=match p,q with
 |.int i,.int j=>.ok (.int (i - j)) h
 |_,_=>.bad
abbrev eG:=pI (fun _ j=>decide (0<j)) (fun i j=>i % j)
abbrev gT:=pI (fun _ j=>decide (0<j∧j<1073741824)) (fun i j=>i / j)
noncomputable def Oh(n:Nat)(i:Int):Bool:=Nat.blt i.natAbs n
noncomputable def IU(i j:Int):Bool:=decide (Builtin.Int.intBits i+Builtin.Int.intBits j≤134217728)
def gV(i j:Int):Bool:=Oh 18446744073709551616 i||(Oh 18446744073709551616 j||IU i j)
noncomputable def uF{α:Type}(xs:List α)(k:Int):List α:=(List.replicate k.toNat xs).flatten
def ji(p q:PV)(h:List PO):Res PV:=match p,q with
 |.int i,.int j=>if gV i j=true then .ok (.int (i * j)) h else .bad
 |.str a,.int k=>if Oh 1048576 k=true∧a.length * k.toNat≤1048576 then .ok (.str (uF a k)) h else .bad
 |p,.int k=>match Ra h p with
  |some xs=>if Oh 9223372036854775808 k=true∧xs.length * k.toNat≤sizeLine then .ok (.lst (uF xs k)) h else .bad
  |_=>.bad
 |_,_=>.bad
def Bf(p q:PV)(h:List PO):Res PV:=match p,q with
 |.tup xs,.int k=>if Oh 9223372036854775808 k=true∧xs.length * k.toNat≤sizeLine then .ok (.tup (uF xs k)) h else .bad
 |p,q=>ji p q h
noncomputable def lT(p:PV)(h:List PO):Res PV:=match p with
 |.int i=>.ok (.int (-i)) h
 |_=>.bad
theorem eN{n:Nat}{i:Int}:Oh n i=true↔ -(n:Int)<i∧i<(n:Int):=by unfold Oh;rw[Nat.blt_eq];omega
theorem CO(a b:List Nat):S a++S b=S (a++b):=by show(⟨(S a).cps++(S b).cps⟩:Str)=_;simp[S]
end L3
namespace Z
open PySem PySem.Spec PyProof.Rows L3 L2
section
variable{X:Cx}{a b:Expr}{fa fb:Ex}{pos:Pos}
theorem IN:O7 X (binaryOp .Add) aN:=fun{w h p q u v Q E} I rp rq k=>by
 unfold aN at k
 split at k
 ·obtain⟨a,its,rfl,⟨n,e⟩,z,r⟩:=I.sq (ps:=[]) rp rfl;obtain⟨b,LK,rfl,⟨n',e'⟩,_⟩:=I.sq rq rfl;exact concat_meets ⟨_,e,rfl⟩ ⟨_,e',rfl⟩ noFill_tuple_add seq_tuple_add F.slot_tuple_add F.entry_tuple_add (F.args_tuple_add_2 _ _) (tuple_addW0 a b _ _ n n' _ _ _ _ (by have:=r.len;simpa using this.symm)) ⟨e,e',k.here I.toHR rq⟩
 ·unfold zA at k
  split at k
  ·cases rp;cases rq;exact add_int (k.now I.toHR (.int _ _))
  ·cases rp;cases rq;exact add_int_bool (k.now I.toHR (.int _ _))
  ·split at k
   ·cases rp;cases rq;exact add_str (fun _ _=>by rw[CO];exact k.now I.toHR (.str _ _)) (by rw[hU,hU];assumption)
   ·exact k.elim
  ·split at k
   ·rename_i xs ys _ c;obtain⟨a,its,rfl,x,z,r⟩:=I.sq rp rfl;obtain⟨b,LK,rfl,y,_,r'⟩:=I.sq rq rfl;have l:=r.len;have l':=r'.len;refine HT.Rx (vs:=its.toList) (ws:=LK.toList) x.tup y.tup (fun z=>?_) (fun z=>?_) (fun z=>?_) (by simp;omega)
    ·obtain rfl:xs= []:=(by simp at z;simpa[z]using l)
     cases c.1
    ·obtain rfl:ys= []:=(by simp at z;simpa[z]using l')
     rw[List.append_nil]at k;exact k.here I.toHR rp
    ·exact k.seq I.toHR rfl (by simpa using r.app r') (by simp;omega)
   ·exact k.elim
  ·split at k
   ·rename_i xs ys e1 e2
    split at k
    ·obtain⟨a,its,rfl,⟨_,x⟩,z,r⟩:=I.sq rp (tA e1);obtain⟨b,LK,rfl,⟨_,y⟩,_,r'⟩:=I.sq rq (tA e2);have l:=r.len;have l':=r'.len;exact PySem.P.add_list x y (k.seq I.toHR rfl (by simpa using r.app r') (by simp;omega)) (by omega)
    ·exact k.elim
   ·exact k.elim
theorem Xy{op:Operator}{C:Int→Int→Bool}{g:Int→Int→Int}(o:∀{i j t t' s Q} {E:Value→Shared→Prop},C i j=true→Q (.int (g i j) s.toks) { s with toks:=s.toks+1 }→Wp X (binaryOp op (.int i t) (.int j t')) Q E s):O7 X (binaryOp op) (pI C g):=fun I rp rq k=>by
 unfold pI at k
 split at k
 ·cases rp;cases rq
  split at k
  ·exact o ‹_› (k.now I.toHR (.int _ _))
  ·exact k.elim
 ·exact k.elim
theorem aJ(ha:RE X a fa)(hb:RE X b fb):RE X (.BinOp a .Add b pos) (c2 aN fa fb):=uG IN ha hb
theorem iN(ha:RE X a fa)(hb:RE X b fb):RE X (.BinOp a .Sub b pos) (c2 mT fa fb):=uG (fun I rp rq k=>by
 unfold mT at k
 split at k
 ·cases rp;cases rq;exact sub_int (k.now I.toHR (.int _ _))
 ·exact k.elim) ha hb
theorem bJ(ha:RE X a fa)(hb:RE X b fb):RE X (.BinOp a .Mod b pos) (c2 eG fa fb):=uG (Xy fun{i j t t' s Q E} c q=>by have c:=of_decide_eq_true c;exact mod_int' (by omega) (by rw[Int.fmod_eq_emod_of_nonneg i (by omega)];exact q)) ha hb
theorem bW(ha:RE X a fa)(hb:RE X b fb):RE X (.BinOp a .FloorDiv b pos) (c2 gT fa fb):=uG (Xy fun{i j t t' s Q E} c q=>by have c:=of_decide_eq_true c;exact floordiv_int (by omega) (by rw[Int.fdiv_eq_ediv_of_nonneg i (by omega)];exact q) (.inl (PyProof.noPylong_small (by omega)))) ha hb
theorem gD(ha:RE X a fa):RE X (.UnaryOp .USub a pos) (c1 lT fa):=ID (fun I rp k=>by
 unfold lT at k
 split at k
 ·cases rp;exact neg_int (k.now I.toHR (.int _ _))
 ·exact k.elim) ha
theorem Cd(l:Array Value)(k:Nat):List.foldl (fun x1 x2=>x1++x2) #[] (List.replicate k l)=(List.replicate k l.toList).flatten.toArray:=by have:=nV l.toList k [];simpa using this
theorem Kn(a:List Nat)(k:Int):Txt.mul (S a) k=S (uF a k):=by
 unfold Txt.mul uF
 have f:∀(k:Nat)(acc:List Nat),(List.replicate k a.toArray).foldl (· ++ ·) acc.toArray=(acc++(List.replicate k a).flatten).toArray:=fun k=>by
  induction k with
  |zero=>simp
  |succ k ih=>intro acc;rw[List.replicate_succ,List.foldl_cons,List.replicate_succ,List.flatten_cons,← List.append_assoc,← ih (acc++a)];congr 1;simp
 split
 ·rw[show k.toNat=0 by omega];rfl
 ·split
  ·rename_i h1 h2;rcases Bool.or_eq_true _ _▸h2 with z|z
   ·obtain rfl:k=1:=by simpa using z
    simp
   ·obtain rfl:a= []:=by rw[hU]at z;simpa using z
    simp
  ·show(⟨_⟩:Str)=⟨_⟩
   congr 1
   exact(f k.toNat []).trans (by simp)
theorem IK:O7 X (binaryOp .Mult) Bf:=fun{w h p q u v Q E} I rp rq k=>by
 unfold Bf at k
 split at k
 ·split at k
  ·rename_i xs n hz;have hk:=eN.mp hz.1
   cases rq
   obtain⟨l,its,rfl,⟨_,e⟩,z,r⟩:=I.sq rp rfl;have ln:=r.len
   refine wpAny_binaryOp_repeat_ref (T:="tuple") (U:="int") (by decide) ⟨_,e,rfl⟩ (fun s'=>typeIs_int s' _ _) yU F.fills_int_mul F.slot_int_rmul uw F.slot_int_index.lookup
    (call_meets F.slot_int_rmul (typeIs_int w.s _ _) F.entry_int_rmul (F.args_int_rmul_2 _ _) (ww _ _ l its _ _ _) ⟨e,rfl,⟨_,e,rfl⟩,call_meets F.slot_tuple_mul ⟨_,e,rfl⟩ F.entry_tuple_mul (F.args_tuple_mul_2 _ _) (yT l its.toList _ _ _ _ _ (by omega) (by omega) (by simp;rw[← ln];exact hz.2)) ⟨e,fun c=>?_,k.seq I.toHR rfl (r.rep _) (by rw[List.size_toArray,tF,← r.length,Nat.mul_comm];exact hz.2)⟩⟩)
   rw[show uF xs n=xs by
    rcases c with c|rfl
    ·obtain rfl:xs= []:=by simp at c;simpa[c]using ln
     simp[uF]
    ·simp[uF]]at k
   exact k.here I.toHR rp
  ·exact k.elim
 ·unfold ji at k
  split at k
  ·cases rp;cases rq
   split at k
   ·rename_i hc;unfold gV at hc;rw[Bool.or_eq_true,Bool.or_eq_true,eN,eN]at hc
    exact mul_int (k.now I.toHR (.int _ _)) (by
     rcases hc with c|c|c
     ·exact .of_left (intBits_le_64 c.1 c.2)
     ·exact .of_right (intBits_le_64 c.1 c.2)
     ·exact IntMulOk.of_le (Nat.le_refl _) (Nat.le_refl _) (of_decide_eq_true c))
   ·exact k.elim
  ·rename_i a n _
   cases rp;cases rq
   split at k
   ·rename_i hc;obtain⟨h1,h2⟩:=eN.mp hc.1;have h3:=hc.2;refine SB.mul ⟨by simp;omega,fun g1 g2=>?_,fun g1 g2=>?_⟩ fun _ _=>by rw[Kn];exact k.now I.toHR (.str _ _)
    ·have:a.length * 1≤a.length * n.toNat:=Nat.mul_le_mul_left _ (by omega)
     have:(2:Int) ^ 20≤(2 ^ 63 - 1) / n:=by rw[Int.le_ediv_iff_mul_le (by omega)];have:(2:Int) ^ 20 * n≤2 ^ 20 * 2 ^ 20:=Int.mul_le_mul_of_nonneg_left (by omega) (by decide);omega
     rw[hU];omega
    ·rw[hU];have:(2:Nat) ^ 20≤sizeLine:=by decide
     simp[Builtin.Str.tooLong];omega
   ·exact k.elim
  ·rename_i n _ _ _
   cases rq
   split at k
   ·rename_i xs e'
    split at k
    ·rename_i hz;have hk:=eN.mp hz.1;obtain⟨l,its,rfl,⟨_,e⟩,z,r⟩:=I.sq rp (tA e');have ln:=r.len;have hl:=hz.2;rw[ln]at hl;have:(sizeLine:Nat)≤(2 ^ 63 - 1) / 8:=by decide
     refine wpAny_binaryOp_repeat_ref (T:="list") (U:="int") (by decide) ⟨_,e,rfl⟩ (fun s'=>typeIs_int s' _ _) noFill_list_mul F.fills_int_mul F.slot_int_rmul repeat_list F.slot_int_index.lookup
      (call_meets F.slot_int_rmul (typeIs_int w.s _ _) F.entry_int_rmul (F.args_int_rmul_2 _ _) (int___rmul___int_list _ _ l its _) ⟨e,rfl,⟨_,e,rfl⟩,call_meets F.slot_list_mul ⟨_,e,rfl⟩ F.entry_list_mul (F.args_list_mul_2 _ _) (AutoListH.list___mul___list_int_3 l its _ n _ (by rw[fitsIndex_both (by omega) (by omega)];exact Bool.false_ne_true) (by omega) (by rw[Br hl];exact Bool.false_ne_true)) ⟨e,?_⟩⟩)
     rw[Cd,show(List.replicate (if its.isEmpty=true then 0 else n.toNat) its.toList).flatten=(List.replicate n.toNat its.toList).flatten by split<;>simp_all];exact k.seq I.toHR rfl (r.rep _) (by rw[List.size_toArray,tF,← r.length,Nat.mul_comm];exact hz.2)
    ·exact k.elim
   ·exact k.elim
  ·exact k.elim
end
end Z
namespace L3
open PySem PySem.Spec PyProof.Rows
mutual
def toD:PV→PyData
 |.non=>.none
 |.bl b=>.bool b
 |.int i=>.int i
 |.str l=>.str (S l)
 |.tup xs=>.tuple (jq xs)
 |.lst xs=>.list (jq xs)
 |.Nz xs=>.list (jq xs)
 |_=>.dict []
def jq:List PV→List PyData
 |[]=>[]
 |x::r=>toD x::jq r
end
def Lz(h:List PO):PV→PyData
 |.ref i=>match h[i]? with
  |some (.lst xs)=>.list (jq xs)
  |_=>.dict []
 |p=>toD p
def LC(h:List PO)(p:PV):Bool:=(Lz h p).canLay0&&decide ((Lz h p).depth≤60)
def J3(p q:PV)(h:List PO):Res PV:=if LC h p=true∧LC h q=true then .ok (.bl (PyData.eqv (Lz h p) (Lz h q))) h else .bad
def NZ(p q:PV)(h:List PO):Res PV:=if LC h p=true∧LC h q=true then .ok (.bl (!PyData.eqv (Lz h p) (Lz h q))) h else .bad
noncomputable def zy(g:Int→Int→Bool)(p q:PV)(h:List PO):Res PV:=match p,q with
 |.int i,.int j=>.ok (.bl (g i j)) h
 |_,_=>.bad
abbrev QW:=zy fun i j=>decide (i<j)
abbrev QH:=zy fun i j=>decide (j<i)
abbrev Xx:=zy fun i j=>decide (j≤i)
noncomputable def kq:PV→Bool
 |.non=>true
 |_=>false
def QX(p q:PV)(h:List PO):Res PV:=match q with
 |.non=>.ok (.bl (kq p)) h
 |_=>.bad
def ig(p q:PV)(h:List PO):Res PV:=match q with
 |.non=>.ok (.bl (!kq p)) h
 |_=>.bad
def aI(f:Ex):Tx:=fun ρ h=>(f ρ h).bind fun p h1=>match p with
 |.bl b=>.ok b h1
 |_=>.bad
def iX(f g:Tx):Tx:=fun ρ h=>(f ρ h).bind fun b h1=>if b=true then g ρ h1 else .ok false h1
def jr(f g:Tx):Tx:=fun ρ h=>(f ρ h).bind fun b h1=>if b=true then .ok true h1 else g ρ h1
def Tt(f g:Ex):Ex:=fun ρ h=>(f ρ h).bind fun p h1=>match p with
 |.bl b=>if b=true then .ok (.bl true) h1 else g ρ h1
 |_=>.bad
def Ac(t:Tx)(f g:Ex):Ex:=fun ρ h=>(t ρ h).bind fun b h1=>if b=true then f ρ h1 else g ρ h1
noncomputable def WR(h:List PO):PV→Option (List (PK×PV))
 |.ref i=>match h[i]? with
  |some (.dct kvs)=>some kvs
  |_=>none
 |_=>none
def sC(h:List PO):PV→Option Bool
 |.non=>some false
 |.bl b=>some b
 |.int i=>some (i !=0)
 |.str l=>if l.length≤sizeLine then some (!l.isEmpty)else none
 |p=>match Pz h p with
  |some xs=>some (!xs.isEmpty)
  |none=>match WR h p with
   |some kvs=>some (!kvs.isEmpty)
   |none=>none
def kj(f:Ex):Tx:=fun ρ h=>(f ρ h).bind fun p h1=>match sC h1 p with
 |some b=>.ok b h1
 |none=>.bad
end L3
namespace Z
open PySem PySem.Spec PyProof.Rows L3
theorem bT.imp{α β:Type}{X:Cx}{R:Wo→α→β→Prop}{w:Wo}{Q Q':β→Shared→Prop}{E:Value→Shared→Prop}{r:Res α}(p:bT X R w Q E r)(k:∀x s,Q x s→Q' x s):bT X R w Q' E r:=match r with
 |.ok _ _=>⟨p.1,fun w' x y q=>k _ _ (p.2 w' x y q)⟩
 |.exc _ _=>p
 |.bad=>p
section
variable{G:SC}{w:Wo}{h:List PO}
mutual
theorem br.reads(H:HR G w h):∀{p:PV}{u:Value},br G w.F w.m p u→(toD p).canLay0=true→∃as,Reads w.s.heap u (toD p) as
 |_,_,.non,_=>by simp only[toD];exact⟨_,.none⟩
 |_,_,.bl b,_=>by simp only[toD];exact⟨_,.bool b⟩
 |_,_,.int i t,_=>by simp only[toD];exact⟨_,.int i t⟩
 |_,_,.str x t,_=>by simp only[toD];exact⟨_,.str _ t⟩
 |_,_,.tup e _ r,c=>by simp only[toD,PyData.canLay0]at c ⊢;obtain⟨as,q⟩:=aA.reads H r c;exact⟨_,.tuple (H.at e) rfl rfl q⟩
 |_,_,.lst e _ r,c=>by simp only[toD,PyData.canLay0]at c ⊢;obtain⟨as,q⟩:=aA.reads H r c;exact⟨_,.list (H.at e) rfl rfl q⟩
 |_,_,.Nz e _ r,c=>by simp only[toD,PyData.canLay0]at c ⊢;obtain⟨as,q⟩:=aA.reads H r c;exact⟨_,.list (H.at e) rfl rfl q⟩
 |_,_,.ty _,c=>by simp[toD,PyData.canLay0]at c
 |_,_,.cls _,c=>by simp[toD,PyData.canLay0]at c
 |_,_,.dct _ _ _ _ _ _,c=>by simp[toD,PyData.canLay0]at c
 |_,_,.ins _ _ _ _,c=>by simp[toD,PyData.canLay0]at c
 |_,_,.ref _,c=>by simp[toD,PyData.canLay0]at c
 |_,_,.exc _ _ _ _,c=>by simp[toD,PyData.canLay0]at c
 |_,_,.Nh _ _ _ _ _ _ _ _ _,c=>by simp[toD,PyData.canLay0]at c
theorem aA.reads(H:HR G w h):∀{p:List PV}{u:List Value},aA G w.F w.m p u→PyData.canLayAll0 (jq p)=true→∃as,ReadsAll w.s.heap u (jq p) as
 |_,_,.nil,_=>by simp only[jq];exact⟨_,.nil⟩
 |_,_,.cons r t,c=>by simp only[jq,PyData.canLayAll0,Bool.and_eq_true]at c ⊢;obtain⟨as,q⟩:=br.reads H r c.1;obtain⟨bs,q'⟩:=aA.reads H t c.2;exact⟨_,.cons q q'⟩
end
theorem HR.reads(H:HR G w h){p:PV}{u:Value}(r:br G w.F w.m p u)(c:(Lz h p).canLay0=true):∃as,Reads w.s.heap u (Lz h p) as:=by
 unfold Lz at c ⊢
 split
 ·split
  ·rename_i q
   cases r with
   |ref e=>obtain⟨_,its,n,e,_,r⟩:=H.obj _ _ _ q e;simp only[q,PyData.canLay0]at c;obtain⟨as,q⟩:=r.reads H c;exact⟨_,.list e rfl rfl q⟩
  ·rename_i q;revert c;dsimp only;split
   ·rename_i q';exact absurd q' (q _)
   ·simp[PyData.canLay0]
 ·rename_i q;have e:Lz h p=toD p:=by unfold Lz;split;exact absurd rfl (q _);rfl
  exact r.reads H (by rw[← e];exact c)
end
section
variable{X:Cx}{w:Wo}{ρ:Ev}{h:List PO}{a b c:Expr}{fa fb fc:Ex}{ta tb:Tx}{pos:Pos}{rest:List Expr}
theorem bp(b:Expr){op:CmpOp}(h:op≠.In:=by decide)(h2:op≠.NotIn:=by decide):behindInMarks op b=false:=by
 have e1:(op==CmpOp.In)=false:=by cases op<;>first|rfl|exact absurd rfl h
 have e2:(op==CmpOp.NotIn)=false:=by cases op<;>first|rfl|exact absurd rfl h2
 cases b<;>simp[behindInMarks,e1,e2]
theorem IM(hu:X.A.units+64<cLine):O7 X (compareOp .Eq) J3:=fun{w h p q u v Q E} I rp rq k=>by
 unfold J3 LC at k
 split at k
 ·rename_i c;simp only[Bool.and_eq_true,decide_eq_true_eq]at c;obtain⟨as,ra⟩:=I.reads rp c.1.1;obtain⟨bs,rb⟩:=I.reads rq c.2.1;exact SeqAt.compareEq_reads ra rb c.1.1 c.2.1 (by have:=Nat.min_le_left (Lz h p).depth (Lz h q).depth;omega) (k.here I.toHR (.bl _))
 ·exact k.elim
theorem tf(hu:X.A.units+64<cLine):O7 X (compareOp .NotEq) NZ:=fun{w h p q u v Q E} I rp rq k=>by
 unfold NZ LC at k
 split at k
 ·rename_i c;simp only[Bool.and_eq_true,decide_eq_true_eq]at c;obtain⟨as,ra⟩:=I.reads rp c.1.1;obtain⟨bs,rb⟩:=I.reads rq c.2.1;exact SeqAt.compareNe_reads ra rb c.1.1 c.2.1 (by have:=Nat.min_le_left (Lz h p).depth (Lz h q).depth;omega) (k.here I.toHR (.bl _))
 ·exact k.elim
theorem Gq{op:CmpOp}{g:Int→Int→Bool}(o:∀{i j t t' s Q} {E:Value→Shared→Prop},Q (.bool (g i j)) s→Wp X (compareOp op (.int i t) (.int j t')) Q E s):O7 X (compareOp op) (zy g):=fun I rp rq k=>by
 unfold zy at k
 split at k
 ·cases rp;cases rq;exact o (k.here I.toHR (.bl _))
 ·exact k.elim
theorem th:O7 X (compareOp .Lt) QW:=Gq lt_int
theorem qV:O7 X (compareOp .Gt) QH:=Gq gt_int
theorem Kq:O7 X (compareOp .GtE) Xx:=Gq ge_int
theorem rJ{G:SC}{F:Fz}{m:List Addr}{p:PV}{u:Value}(r:br G F m p u):(u==Value.none)=kq p:=by cases r<;>rfl
theorem oz:O7 X (compareOp .Is) QX:=fun I rp rq k=>by
 unfold QX at k
 split at k
 ·cases rq;exact is_none_gen (rJ rp▸k.here I.toHR (.bl _))
 ·exact k.elim
theorem mu:O7 X (compareOp .IsNot) ig:=fun I rp rq k=>by
 unfold ig at k
 split at k
 ·cases rq;exact isnot_none_gen (rJ rp▸k.here I.toHR (.bl _))
 ·exact k.elim
theorem bh{op:CmpOp}{g:PV→PV→List PO→Res PV}(o:O7 X (compareOp op) g)(hm:behindInMarks op b=false)(ha:RE X a fa)(hb:RE X b fb):RT X (.Compare a [op] [b] pos) (aI (c2 g fa fb)) where
 r I p:=wpAny_isTrue_Compare1 (two o ha hb I (p.bind fun _ _ q _ y r p=>by
  cases r with
  |bl=>exact wpAny_truthy_bool (p.here y.2 rfl)
  |_=>exact p.elim)) hm
structure RW(X:Cx)(e:Expr)(f:Tx):Prop where
 r:∀{whole:Sem Value}{w:Wo}{ρ:Ev}{h:List PO}{Q:Bool→Shared→Prop}{E:Value→Shared→Prop},Inv X w ρ h→bT X (fun _ a b=>a=b) w Q E (f ρ h)→Wp X (isTrue e X.env whole) Q E w.s
theorem RW.rt{f:Tx}(h:RW X a f):RT X a f:=⟨h.r⟩
theorem ir(ha:RT X a ta):RW X (.BoolOp .And [a] pos) ta:=⟨fun{_ _ _ _ Q _} I p=>isTrue_and (ha.r I (bT.imp p fun b s q=>by cases b;exact q;exact isTrue_and_nil q))⟩
theorem gj(ha:RT X a ta):RW X (.BoolOp .Or [a] pos) ta:=⟨fun{_ _ _ _ Q _} I p=>isTrue_or (ha.r I (bT.imp p fun b s q=>by cases b;exact isTrue_or_nil q;exact q))⟩
theorem hZ(ha:RT X a ta)(hb:RW X (.BoolOp .And (b::rest) pos) tb):RW X (.BoolOp .And (a::b::rest) pos) (iX ta tb):=⟨fun I p=>isTrue_and (ha.r I (p.bind fun _ _ c _ y r p=>by
 subst r
 cases c
 ·exact p.here y.2 rfl
 ·exact hb.r (I.on y) p))⟩
theorem gS(ha:RT X a ta)(hb:RW X (.BoolOp .Or (b::rest) pos) tb):RW X (.BoolOp .Or (a::b::rest) pos) (jr ta tb):=⟨fun I p=>isTrue_or (ha.r I (p.bind fun _ _ c _ y r p=>by
 subst r
 cases c
 ·exact hb.r (I.on y) p
 ·exact p.here y.2 rfl))⟩
theorem sS{op}(ha:RE X a fa):RE X (.BoolOp op [a] pos) fa:=⟨fun I p=>BoolOp_one (ha.r I p)⟩
theorem xM(ha:RE X a fa)(hb:RE X (.BoolOp .Or (b::rest) pos) fb):RE X (.BoolOp .Or (a::b::rest) pos) (Tt fa fb):=⟨fun I p=>BoolOp_or (ha.r I (p.bind fun _ _ c _ y r p=>by
 cases r with
 |bl c=>exact wpAny_truthy_bool (by cases c;exact hb.r (I.on y) p;exact p.here y.2 (.bl _))
 |_=>exact p.elim))⟩
theorem mQ(hc:RT X c ta)(ha:RE X a fa)(hb:RE X b fb):RE X (.IfExp c a b pos) (Ac ta fa fb):=⟨fun I p=>wpAny_IfExp (hc.r I (p.bind fun _ _ c _ y r p=>by
 subst r
 cases c
 ·exact hb.r (I.on y) p
 ·exact ha.r (I.on y) p))⟩
end
end Z
namespace L3
open PySem
noncomputable def jQ(ps:List PV)(h:List PO):Res PV:=if ps.length≤sizeLine then .ok (.lst ps) h else .bad
noncomputable def gu(ps:List PV)(h:List PO):Res PV:=if ps.length≤sizeLine then .ok (.ref h.length) (h++ [.lst ps])else .bad
noncomputable def bA(ps:List PV)(h:List PO):Res PV:=if ps.length≤sizeLine then .ok (.tup ps) h else .bad
end L3
namespace Z
open PySem PySem.Spec PyProof.Rows L3
theorem DO.of{G:SC}{o:Obj}{kvs:List (PK×Value)}{g:Heap}{a:Addr}(d:DO G o kvs)(e:g.get? a=some o):g.DictOf (pk G.prog G.w) a kvs:=let⟨x,es,ep,y,z⟩:=d;⟨o,es,ep,e,x,y,z⟩
section
variable{G:SC}{w:Wo}{h:List PO}{p:PV}{u:Value}{kps:List (PK×PV)}
def Ij(G:SC)(w:Wo)(kps:List (PK×PV))(kvs:List (PK×Value)):Prop:=kvs.length≤sizeLine∧kvs.map (·.1)=kps.map (·.1)∧aA G w.F w.m (kps.map (·.2)) (kvs.map (·.2))
theorem HR.dc(H:HR G w h)(r:br G w.F w.m p u)(k:Rf h p=some kps):∃a kvs,u=.ref a∧(a==sysModules)=false∧w.s.heap.DictOf (pk G.prog G.w) a kvs∧Ij G w kps kvs:=by
 unfold Rf at k
 split at k
 ·cases k
  cases r with
  |dct e d y z c r=>exact⟨_,_,rfl,y,d.of (H.at e),z,c,r⟩
 ·split at k
  ·rename_i q
   cases k
   cases r with
   |ref e=>obtain⟨_,o,kvs,e,d,y,z⟩:=H.obj _ _ _ q e;exact⟨_,kvs,rfl,y,d.of e,z⟩
  ·cases k
 ·cases k
theorem aA.sz{F:Fz}{m:List Addr}{ps:List PV}{us:List Value}(r:aA G F m ps us)(z:ps.length≤sizeLine):us.toArray.size≤sizeLine:=Nat.le_trans (Nat.le_of_eq r.length.symm) z
theorem Ij.len{kvs:List (PK×Value)}(r:Ij G w kps kvs):kvs.length=kps.length:=by have:=congrArg List.length r.2.1;simpa using this
theorem Kg(k:WR h p=some kps):Rf h p=some kps:=by
 unfold WR at k
 split at k
 ·exact k
 ·cases k
end
section
variable{X:Cx}{w:Wo}{ρ:Ev}{h:List PO}{a b e:Expr}{es:List Expr}{fa fb:Ex}{f:Ax}{pos p0:Pos}{x:Str}{id:String}{g:List PV→List PO→Res PV}
theorem Wd.YW(I:Wd X w h){p:PV}{u:Value}{c:Bool}{Q:Bool→Shared→Prop}{E:Value→Shared→Prop}(r:br X.toSC w.F w.m p u)(k:sC h p=some c)(q:bT X (fun _ a b=>a=b) w Q E (.ok c h)):Wp X (truthy u) Q E w.s:=by
 have l:sizeLine=16777216:=sizeLine_eq;unfold sC at k
 split at k
 ·cases k;cases r;exact truthy_none (q.here I.toHR rfl)
 ·cases k;cases r;exact wpAny_truthy_bool (q.here I.toHR rfl)
 ·cases k;cases r;exact PySem.P.truthy_int (q.here I.toHR rfl)
 ·cases r
  split at k
  ·cases k
   exact PySem.P.truthy_str (by rw[hU];omega) (q.now I.toHR (by rw[hU];cases ‹List Nat›;rfl;symm;simp;omega))
  ·cases k
 ·split at k
  ·rename_i e
   cases k
   obtain⟨t,e,ht⟩:=wh e;obtain⟨a,its,rfl,y,z,r⟩:=I.sq r e
   have n:its.isEmpty=(‹List PV›).isEmpty:=by
    have:=r.len
    cases its;rename_i l;cases l<;>cases ‹List PV› <;>simp_all
   rcases ht with rfl|rfl
   ·exact truthy_tuple y.tup (by omega) (q.now I.toHR (by rw[n]))
   ·exact wpAny_truthy_list y.pl.isList (by omega) (q.now I.toHR (by rw[n]))
  ·split at k
   ·rename_i e
    cases k
    obtain⟨a,kvs,rfl,y,d,r⟩:=I.dc r (Kg e);exact wpAny_truthy_dict y d (by have:=r.1;omega) (q.now I.toHR (by have:=r.len;cases kvs<;>cases ‹List (PK×PV)› <;>simp_all))
   ·cases k
theorem jh(ha:RE X a fa)(he:∀whole,isTrue a X.env whole=(do let v ← whole;standAt a.pos;holding [v] (truthy v)):=by intro _;rfl):RT X a (kj fa):=⟨fun I p=>isTrue_plain (ha.r I (p.bind fun _ h1 q _ y r p=>by
 cases e:sC h1 q with
 |none=>rw[e]at p;exact p.elim
 |some b=>rw[e]at p;exact(I.on y).toWd.YW r e p)) (he _)⟩
theorem aK{k}(ha:RA X es f):RE X (.Tuple es k pos) (cN bA f):=⟨fun I p=>wpAny_Tuple_spliced (ha.r _ I (p.bind fun _ _ ps us y r p=>by
 unfold bA at p
 split at p
 ·exact⟨r.length▸ ‹_›,p.seq (ps:=ps) y.2 rfl r (r.sz ‹_›)⟩
 ·exact p.elim))⟩
theorem fE(ha:RA X es f):RE X (.List es pos) (cN jQ f):=⟨fun I p=>wpAny_List_spliced (ha.r _ I (p.bind fun _ _ ps us y r p=>by
 unfold jQ at p
 split at p
 ·exact⟨r.length▸ ‹_›,p.seq (ps:=ps) y.2 rfl r (r.sz ‹_›)⟩
 ·exact p.elim))⟩
theorem iw(ha:RA X es f):RE X (.List es pos) (cN gu f):=⟨fun I p=>wpAny_List_spliced (ha.r _ I (p.bind fun _ _ ps us y r p=>by
 unfold gu at p
 split at p
 ·exact⟨r.length▸ ‹_›,p.lm (ps:=ps) y.2 r (r.sz ‹_›)⟩
 ·exact p.elim))⟩
def Gl(X:Cx)(x:Str):Prop:=X.env.kindOf x=some .globalImplicit
theorem Inv.RX(I:Inv X w ρ h){u:Value}{Q:Value→Shared→Prop}{E:Value→Shared→Prop}(hg:Gl X x)(hm:X.mg x=some u)(q:Q u w.s)(hd:nD0 x:=by decide):Wp X (eval (.Name x p0) X.env) Q E w.s:=
 Calls.Name_function_global I.ok.kind hg (Calls.loadGlobal_global (by rw[I.ok.glob];exact I.ok.gl.keeps fun _ _ e=>I.bk e) hm q) hd
theorem Inv.blt(I:Inv X w ρ h){u:Value}{Q:Value→Shared→Prop}{E:Value→Shared→Prop}(hg:Gl X x)(hm:X.mg x=none)(hv:bootBuiltins x=some u)(q:Q u w.s)(hn:x≠"__name__":=by decide)(hd:nD0 x:=by decide):Wp X (eval (.Name x p0) X.env) Q E w.s:=
 let⟨mb,h1,h2⟩:=I.ok.bl
 Calls.Name_function_global I.ok.kind hg (Calls.loadGlobal_builtin (by rw[I.ok.glob];exact I.ok.gl.keeps fun _ _ e=>I.bk e) hm (by rw[I.ok.blt];exact h1.keeps fun _ _ e=>I.bk e) ((h2 x hn).trans hv) q) hd
def QC(X:Cx)(f:Value)(g:List PV→List PO→Res PV):Prop:=X.Ok→OpN X (fun us=>call f us) g
theorem AO(o:QC X (.builtin id) g)(hg:Gl X x)(hm:X.mg x=none)(hv:bootBuiltins x=some (.builtin id))(ha:RA X (e::es) f)(hn:x≠"__name__":=by decide)(MJ:nD0 x:=by decide)(he:sE0 X e es:=by rfl)(Lj:sP0 X es pos:=by rfl):RE X (.Call (.Name x p0) (e::es) [] pos) (cN g f):=
 ⟨fun I p=>wpAny_Call_Name_kw (I.blt hg hm hv (callWith_builtin1 (ha.r pos I (p.bind fun _ _ _ _ y r p=>o I.ok (I.on y).toWd r p)) he Lj) hn MJ)⟩
theorem za(o:QC X (.type id) g)(hg:Gl X x)(hm:X.mg x=none)(hv:bootBuiltins x=some (.type id))(ha:RA X (e::es) f)(hn:x≠"__name__":=by decide)(MJ:nD0 x:=by decide)(he:sE0 X e es:=by rfl)(Lj:sP0 X es pos:=by rfl):RE X (.Call (.Name x p0) (e::es) [] pos) (cN g f):=
 ⟨fun I p=>wpAny_Call_Name_kw (I.blt hg hm hv (callWith_type1 (ha.r pos I (p.bind fun _ _ _ _ y r p=>o I.ok (I.on y).toWd r p)) he Lj) hn MJ)⟩
end
end Z
namespace L2
open PySem PySem.Spec PyProof.Rows
noncomputable def Qe(n:Nat)(i:Int):Option Nat:=if 0≤i then(if i<n then some i.toNat else none)else if -(n:Int)≤i then some (i+n).toNat else none
def LQ{α:Type}(xs:List α)(i:Int):Option α:=(Qe xs.length i).bind fun j=>xs[j]?
theorem yi{n:Nat}{i:Int}{j:Nat}(h:Qe n i=some j):seqIndex? i n=some j∧j<n∧ -(n:Int)≤i∧i<n:=by
 unfold Qe at h
 by_cases h0:0≤i
 ·rw[if_pos h0]at h
  by_cases h1:i<n
  ·rw[if_pos h1]at h;have e:i.toNat=j:=Option.some.inj h;exact⟨by rw[seqIndex_of h0 h1,e],by omega,by omega,h1⟩
  ·rw[if_neg h1]at h;cases h
 ·rw[if_neg h0]at h
  by_cases h1: -(n:Int)≤i
  ·rw[if_pos h1]at h;have e:(i+n).toNat=j:=Option.some.inj h;exact⟨by rw[seqIndex_neg (by omega) h1,e],by omega,h1,by omega⟩
  ·rw[if_neg h1]at h;cases h
theorem ug{α:Type}{xs:List α}{i:Int}{v:α}(h:LQ xs i=some v):∃j,seqIndex? i xs.length=some j∧xs[j]? =some v∧j<xs.length∧ -(xs.length:Int)≤i∧i<xs.length:=by
 unfold LQ at h
 cases e:Qe xs.length i with
 |none=>rw[e]at h;cases h
 |some j=>rw[e]at h;obtain⟨h1,h2,h3,h4⟩:=yi e;exact⟨j,h1,h,h2,h3,h4⟩
end L2
namespace L3
open PySem PySem.Spec PyProof.Rows L2
noncomputable def qv:PV→Option PK
 |.int i=>some (.inl i)
 |.str l=>some (.inr l)
 |_=>none
noncomputable def dq(kvs:List (PK×PV))(k:PK):Option PV:=(kvs.find? fun kv=>decide (kv.1=k)).map (·.2)
def d7(p q:PV)(h:List PO):Res PV:=match p,q with
 |.str l,.int i=>match LQ l i with
  |some c=>if l.length≤sizeLine then .ok (.str [c]) h else .bad
  |none=>.bad
 |.tup xs,.int i=>match LQ xs i with
  |some v=>.ok (am h v) h
  |none=>.bad
 |p,q=>match Rf h p with
  |some kvs=>match qv q with
   |some k=>match dq kvs k with
    |some v=>.ok (am h v) h
    |none=>.bad
   |none=>.bad
  |none=>match QK h p with
   |some xs=>match q with
    |.int i=>match LQ xs i with
     |some v=>.ok (am h v) h
     |none=>.bad
    |_=>.bad
   |none=>.bad
def cut{α:Type}(xs:List α)(lo hi:Option Int):List α:=(xs.drop (HT.J6 xs.length 0 lo)).take (HT.J6 xs.length xs.length hi - HT.J6 xs.length 0 lo)
abbrev Ox:=Ev→List PO→Res (Option Int)
noncomputable def jx:Ox:=fun _ h=>.ok none h
def gU(f:Ex):Ox:=fun ρ h=>(f ρ h).bind fun p h1=>match p with
 |.int i=>.ok (some i) h1
 |_=>.bad
def Xw(p:PV)(lo hi:Option Int)(h:List PO):Res PV:=match p with
 |.str l=>if l.length≤sizeLine then .ok (.str (cut l lo hi)) h else .bad
 |.tup xs=>if HT.J6 xs.length 0 lo=0∧HT.J6 xs.length xs.length hi=xs.length then .bad else .ok (.tup (cut xs lo hi)) h
 |p=>match QK h p with
  |some xs=>.ok (.lst (cut xs lo hi)) h
  |none=>.bad
def lR(p:PV)(lo hi:Option Int)(h:List PO):Res PV:=match p with
 |.tup xs=>if HT.J6 xs.length 0 lo=0∧HT.J6 xs.length xs.length hi=xs.length then .ok (.tup xs) h else .ok (.tup (cut xs lo hi)) h
 |p=>Xw p lo hi h
def mD(a:Ex)(lo hi:Ox):Ex:=fun ρ h=>(a ρ h).bind fun p h1=>(lo ρ h1).bind fun l h2=>(hi ρ h2).bind fun u h3=>lR p l u h3
theorem Iy(lo hi:Option Int)(n:Nat):Builtin.Str.strSliceIndices lo hi 1 n=(List.range (HT.J6 n n hi - HT.J6 n 0 lo)).map (HT.J6 n 0 lo+ ·):=by
 rw[← sliceRange_one];unfold Builtin.Str.strSliceIndices
 have e1:∀d:Nat,d≤n→∀o:Option Int,(match o with|none=>(d:Int)|some i=>(if(1:Int)>0 then max 0 (min (if i<0 then i+(n:Int)else i) n)else max (-1) (min (if i<0 then i+(n:Int)else i) ((n:Int) - 1))))=((HT.J6 n d o:Nat):Int):=by
  intro d hd o
  cases o with
  |none=>rfl
  |some i=>
   simp only[show(1:Int)>0 by decide,if_true,HT.J6]
   by_cases h:i<0
   ·simp only[h,if_true];omega
   ·simp only[h,if_false];omega
 have e2:=e1 0 (Nat.zero_le _) lo;have e3:=e1 n (abY _) hi;simp only[show(1:Int)>0 by decide,if_true]at e2 e3 ⊢;rw[← e2,← e3];rfl
theorem ER(l:List Nat)(lo hi:Option Int):Txt.slice (S l) lo hi=S (cut l lo hi):=by
 unfold Txt.slice;have hn:(S l).length=l.length:=hU l;rw[hn,Iy];have hlo:=HT.Qa l.length 0 (Nat.zero_le _) lo;have hhi:=HT.Qa l.length l.length (abY _) hi
 split
 ·rename_i h
  have h':HT.J6 l.length l.length hi - HT.J6 l.length 0 lo=l.length:=by simpa using h
  have e0:HT.J6 l.length 0 lo=0:=by omega
  unfold cut;rw[h',e0];simp
 ·rw[pick_run];show(⟨_⟩:Str)=⟨_⟩
  unfold cut;simp[S]
end L3
namespace Z
open PySem PySem.Spec PyProof.Rows L3 L2
theorem nT{G:SC}{F:Fz}{m:List Addr}{p:PV}{u:Value}{k:PK}(r:br G F m p u)(e:qv p=some k):(pk G.prog G.w).is k u=true:=by cases r<;>cases e<;>simp[pk,V4,Value.isInt,Value.isStrOf]
theorem sA{G:SC}{F:Fz}{m:List Addr}:∀{kps:List (PK×PV)}{kvs:List (PK×Value)},kvs.map (·.1)=kps.map (·.1)→aA G F m (kps.map (·.2)) (kvs.map (·.2))→∀k:PK,(∃p v,dq kps k=some p∧valueAt kvs k=some v∧br G F m p v)∨(dq kps k=none∧valueAt kvs k=none)
 |[],[],_,_,k=>.inr ⟨rfl,rfl⟩
 |[],_::_,h,_,_=>by simp at h
 |_::_,[],h,_,_=>by simp at h
 |(a,p)::ps,(b,v)::vs,h,.cons r t,k=>by
  simp only[List.map_cons,List.cons.injEq]at h;obtain⟨rfl,h⟩:=h;unfold dq valueAt;rw[List.find?_cons,List.find?_cons]
  by_cases z:b=k
  ·simp only[z,decide_true];exact .inl ⟨p,v,rfl,rfl,r⟩
  ·simp only[z,decide_false];exact sA h t k
section
variable{X:Cx}{w:Wo}{ρ:Ev}{h:List PO}{a b:Expr}{fa fb:Ex}{pos p2:Pos}{Q:Value→Shared→Prop}{E:Value→Shared→Prop}
theorem Kp(value slice:Expr)(hs:∀o i,subscripted slice false o i=operate [o,i] (getItem o i)):O7 X (subscriptTail value slice) d7:=fun{w h p q u u2 Q E} I rp rq k=>by
 have hl:sizeLine=16777216:=sizeLine_eq;unfold d7 at k
 split at k
 ·cases rp;cases rq
  split at k
  ·rename_i c e
   split at k
   ·rename_i z;obtain⟨j,h1,h2,h3,h4,h5⟩:=ug e;exact tail_any (typeIs_str w.s _ _) slot_str_getitem.lookup (getItem_str (c:=c) (by rw[Bool.or_eq_false_iff];exact⟨decide_eq_false (by omega),decide_eq_false (by omega)⟩) (by rw[hU,h1];simpa[S]using h2) (k.now I.toHR (.str [c] _))) (hs _ _)
   ·exact k.elim
  ·exact k.elim
 ·cases rq
  split at k
  ·rename_i e;obtain⟨a,its,rfl,y,z,r⟩:=I.sq rp rfl;obtain⟨j,h1,h2,h3,h4,h5⟩:=ug e;obtain⟨u,eu,ru⟩:=r.get h2;have l:=r.len;exact subscriptTail_builtinR (x:=u) y.tup.typeIs slot_tuple_getitem.lookup (getItem_tuple (j:=j) (Q:=fun r s'=>r=u∧Q r s') y.tup (by omega) (by omega) (by rw[← l];exact h1) (by simpa using eu) ⟨rfl,k.here I.toHR (I.Pr ru)⟩) (hs _ _)
  ·exact k.elim
 ·split at k
  ·rename_i ed
   split at k
   ·rename_i kk ek
    split at k
    ·rename_i v ev;obtain⟨a,kvs,rfl,y,d,r⟩:=I.dc rp ed;rcases sA r.2.1 r.2.2 kk with⟨p1,v1,h1,h2,r1⟩|⟨h1,_⟩<;>rw[ev]at h1<;>cases h1
     have hT:w.s.TypeIs (.ref a) "dict":=d.mapOf.typeIs;unfold subscriptTail;refine wpAny_bind ?_;rw[getitemInPython_of_ne hT.not_modules];refine wpAny_bind (wpAny_specialOf hT F.slot_dict_getitem.lookup ?_)
     have fin:Wp X (subscripted slice false (.ref a) u2) (fun r s₃=>Wp X (letTemporaryGo value (.ref a) r >>= fun _=>pure r) Q E s₃) E w.s:=by rw[hs];exact wpAny_operating (wpAny_getItem_of (nT rq ek) d.mapOf h2 (wpAny_bind (wpAny_letTemporaryGo (wpAny_pure (k.now I.toHR (I.Pr r1))))))
     first
      |exact wpAny_pure (wpAny_bind fin)
      |exact wpAny_bind (wpAny_pure (wpAny_bind fin))
      |exact wpAny_bind fin
    ·exact k.elim
   ·exact k.elim
  ·split at k
   ·rename_i el
    split at k
    ·rename_i i _ _
     cases rq
     split at k
     ·rename_i e;obtain⟨a,its,rfl,y,z,r⟩:=I.sq rp (jk el);obtain⟨j,h1,h2,h3,h4,h5⟩:=ug e;obtain⟨u,eu,ru⟩:=r.get h2;have l:=r.len;have fin:=k.here I.toHR (I.Pr ru)
      by_cases h0:0≤i
      ·exact item_listR y.pl.isList h0 (by omega) (by rw[show i.toNat=j by rw[seqIndex_of h0 h5]at h1;exact Option.some.inj h1];simpa using eu) fin (hs _ _)
      ·exact subscriptTail_builtinR (x:=u) y.pl.isList.typeIs slot_list_getitem.lookup (wpAny_getItem_list_neg (Q:=fun r s'=>r=u∧Q r s') y.pl.isList (by omega) (by omega) (by omega) (by rw[show(i+(its.size:Int)).toNat=j by rw[seqIndex_neg (by omega) h4]at h1;rw[← l];exact Option.some.inj h1];simpa using eu) ⟨rfl,fin⟩) (hs _ _)
     ·exact k.elim
    ·exact k.elim
   ·exact k.elim
theorem ak(ha:RE X a fa)(hb:RE X b fb)(hs:∀o i,subscripted b false o i=operate [o,i] (getItem o i):=by intro _ _;rfl):RE X (.Subscript a b pos) (c2 d7 fa fb):=⟨fun I p=>Subscript_ (two (Kp a b hs) ha hb I p)⟩
structure RO(X:Cx)(e:Option Expr)(f:Ox):Prop where
 r:∀{w:Wo}{ρ:Ev}{h:List PO}{Q:Value→Shared→Prop}{E:Value→Shared→Prop},Inv X w ρ h→bT X (fun _ o u=>IsPart u o) w Q E (f ρ h)→Wp X (evalPart e X.env) Q E w.s
theorem gp:RO X none jx:=⟨fun I p=>by rw[evalPart_none];exact wpAny_pure (p.here I.toHR .none)⟩
theorem dY(ha:RE X a fa):RO X (some a) (gU fa):=⟨fun I p=>by
 rw[evalPart_some]
 exact ha.r I (p.bind fun _ _ _ _ y r p=>by
  cases r with
  |int i t=>exact p.here y.2 (.int i t)
  |_=>exact p.elim)⟩
theorem Nw.also{s':Shared}(H:HR X.toSC w h)(k:∀b o,w.s.heap.get? b=some o→s'.heap.get? b=some o)(ho:s'.os=w.s.os:=by rfl)(hg:s'.gens=w.s.gens:=by rfl):Nw X w { w with s:=s' } h:=
 ⟨⟨ho,fun q=>hg▸q,fun _ _ e=>e,fun _ _ e=>e,⟨[],by simp⟩,fun b o e=>⟨o,k b o e⟩,fun b o q _=>⟨o.slots,⟨k b o q.1,q.2⟩,.inr rfl⟩⟩,H.on fun b o e _=>k b o e⟩
theorem aA.cut{G:SC}{F:Fz}{m:List Addr}{ps:List PV}{vs:List Value}(r:aA G F m ps vs)(lo hi:Option Int):aA G F m (L3.cut ps lo hi) (L3.cut vs lo hi):=by unfold L3.cut;rw[← r.length];exact((r.td _).2.td _).1
theorem kd{α:Type}(xs:List α)(lo hi:Option Int):(L3.cut xs lo hi).length≤xs.length:=by unfold L3.cut;rw[List.length_take,List.length_drop];omega
theorem Wd.sl(I:Wd X w h){p:PV}{u vl vu:Value}{lo hi:Option Int}{sl:Addr}(rp:br X.toSC w.F w.m p u)(hs:w.s.heap.IsSliceOf sl vl vu .none)(pl:IsPart vl lo)(pu:IsPart vu hi)(k:bT X (RV X.toSC) w Q E (lR p lo hi h)):∃T id,typeLookup (.type T) "__getitem__"=pure (some (.builtin id))∧w.s.TypeIs u T∧Wp X (getItem u (.ref sl)) Q E w.s:=by
 unfold lR at k
 split at k
 ·obtain⟨a,its,rfl,y,z,r⟩:=I.sq rp rfl;have l:=r.len;refine⟨"tuple",_,slot_tuple_getitem.lookup,y.tup.typeIs,?_⟩
  split at k
  ·exact HT.Ng y.tup hs pl pu (by rw[← l];assumption) (k.here I.toHR rp)
  ·exact HT.Nf y.tup hs pl pu (by rw[← l];assumption) (k.seq I.toHR rfl (r.cut lo hi) (Nat.le_trans (kd its.toList lo hi) z)) z
 ·unfold Xw at k
  split at k
  ·cases rp
   split at k
   ·refine⟨"str",_,F.slot_str_getitem.lookup,typeIs_str _ _ _,?_⟩;have fin:∀t k,Q (.str (Txt.slice (S _) lo hi) t) { w.s with toks:=k }:=fun t _=>by rw[ER];exact k.now I.toHR (.str _ t)
    have hz:∀lo hi,(Txt.slice (S _) lo hi).length≤sizeLine:=fun lo hi=>Nat.le_trans (Txt.slice_le _ _ _) (by rw[hU];assumption)
    cases pl with
    |none=>cases pu with
     |none=>exact wpAny_getItem_str_slice (l:=none) (u:=none) (st:=none) hs rfl (post_val_or_str ⟨hz _ _,fin⟩)
     |int j u=>exact wpAny_getItem_str_slice (l:=none) (u:=some (j,u)) (st:=none) hs rfl (post_val_or_str ⟨hz _ _,fin⟩)
    |int i t=>cases pu with
     |none=>exact wpAny_getItem_str_slice (l:=some (i,t)) (u:=none) (st:=none) hs rfl (post_val_or_str ⟨hz _ _,fin⟩)
     |int j u=>exact wpAny_getItem_str_slice (l:=some (i,t)) (u:=some (j,u)) (st:=none) hs rfl (post_val_or_str ⟨hz _ _,fin⟩)
   ·exact k.elim
  ·rename_i n;exact(n _ rfl).elim
  ·split at k
   ·rename_i e;obtain⟨a,its,rfl,y,z,r⟩:=I.sq rp (jk e);refine⟨"list",_,slot_list_getitem.lookup,y.pl.isList.typeIs,wpAny_getItem_list_slice y.pl.isList hs pl pu .none (by simp) ?_ z⟩;rw[show its=its.toList.toArray by simp,qO];exact k.seq I.toHR rfl (r.cut lo hi) (Nat.le_trans (kd its.toList lo hi) z)
   ·exact k.elim
theorem cZ{lo hi:Option Expr}{fl fu:Ox}(ha:RE X a fa)(hl:RO X lo fl)(hh:RO X hi fu):RE X (.Subscript a (.Slice lo hi none p2) pos) (mD fa fl fu):=⟨fun I k=>Subscript_ (ha.r I (k.bind fun _ _ p u y r k=>wpAny_Slice (hl.r (I.on y) (k.bind fun _ _ l vl y1 pl k=>hh.r ((I.on y).on y1) (k.bind fun w h h' vu y2 pu k=>by rw[evalPart_none];refine wpAny_pure ?_;have n:=Nw.also (X:=X) (s':={ w.s with heap:=w.s.heap.push { cls:=.type "slice",data:=.fields #[vl,vu,.none] } }) y2.2 fun b o e=>Heap.get?_push_of_some _ e;obtain⟨T,id,a,b,c⟩:=((((I.on y).on y1).on y2).on n).toWd.sl (y2.1.rep (y1.1.rep r)) (Heap.IsSliceOf.new w.s.heap vl vu .none) pl pu (k.step n);exact tail_any (ops:=[.ref w.s.heap.objs.size,u]) b a c (by with_unfolding_all rfl))))))⟩
end
end Z
namespace L3
inductive SR where
 |nx (ρ:Ev) (h:List PO)|rt (v:PV) (h:List PO)|bk (ρ:Ev) (h:List PO)|ct (ρ:Ev) (h:List PO)|exc (e:PV) (h:List PO)|bad
abbrev Sx:=Ev→List PO→SR
noncomputable def cD:Sx:=fun ρ h=>.nx ρ h
noncomputable def aB(f g:Sx):Sx:=fun ρ h=>match f ρ h with
 |.nx ρ1 h1=>g ρ1 h1
 |.rt v h1=>.rt v h1
 |.bk ρ1 h1=>.bk ρ1 h1
 |.ct ρ1 h1=>.ct ρ1 h1
 |.exc v h1=>.exc v h1
 |.bad=>.bad
noncomputable def fT{α:Type}(f:Res α)(k:α→List PO→SR):SR:=match f with
 |.ok v h=>k v h
 |.exc e h=>.exc e h
 |.bad=>.bad
def ez(f:Res PV)(k:PV→List PO→SR):SR:=fT f k
def Fx(f:Res Bool)(k:Bool→List PO→SR):SR:=fT f k
def BK(f:Res (List PV))(k:List PV→List PO→SR):SR:=fT f k
@[simp] theorem Cq(v:PV)(h:List PO)(k:PV→List PO→SR):ez (.ok v h) k=k v h:=rfl
@[simp] theorem BJ(v:List PV)(h:List PO)(k:List PV→List PO→SR):BK (.ok v h) k=k v h:=rfl
noncomputable def bw(f:Ex):Sx:=fun ρ h=>ez (f ρ h) fun v h1=>.rt v h1
noncomputable def AI:Sx:=fun _ h=>.rt .non h
def dk(f:Ex):Sx:=fun ρ h=>ez (f ρ h) fun _ h1=>.nx ρ h1
def J7(t:Tx)(f g:Sx):Sx:=fun ρ h=>Fx (t ρ h) fun b h1=>if b=true then f ρ h1 else g ρ h1
def aO(i:Nat)(f:Ex):Sx:=fun ρ h=>ez (f ρ h) fun v h1=>.nx (ρ.set i (some v)) h1
noncomputable def pP:Sx:=fun _ _=>.bad
abbrev Gx:=PV→Ev→Option Ev
noncomputable def D_(i:Nat):Gx:=fun p ρ=>some (ρ.set i (some p))
abbrev Ri:=List PV→Ev→Option Ev
noncomputable def dU:Ri:=fun ps ρ=>match ps with
 |[]=>some ρ
 |_=>none
noncomputable def aU(g:Gx)(gs:Ri):Ri:=fun ps ρ=>match ps with
 |p::r=>match g p ρ with
  |some ρ1=>gs r ρ1
  |none=>none
 |_=>none
noncomputable def NK(n:Nat)(gs:Ri):Gx:=fun p ρ=>match p with
 |.tup ps=>if ps.length=n then gs ps ρ else none
 |_=>none
def FZ(g:Gx)(f:Ex):Sx:=fun ρ h=>ez (f ρ h) fun v h1=>match g v ρ with
 |some ρ'=>.nx ρ' h1
 |none=>.bad
end L3
namespace Z
open PySem PySem.Spec PyProof.Rows L3 L2
abbrev Od(X:Cx)(w w':Wo):Prop:=K1 X.fs X.W w w'
def bC(X:Cx)(w:Wo)(Q:Flow→Shared→Prop)(E:Value→Shared→Prop):SR→Prop
 |.nx ρ h=>X.Ep E∧∀w',Od X w w'→Inv X w' ρ h→Q .next w'.s
 |.bk ρ h=>X.Ep E∧∀w',Od X w w'→Inv X w' ρ h→Q .brk w'.s
 |.ct ρ h=>X.Ep E∧∀w',Od X w w'→Inv X w' ρ h→Q .cont w'.s
 |.rt v h=>X.Ep E∧∀w' u ρ,Od X w w'→Inv X w' ρ h→br X.toSC w'.F w'.m v u→Q (.ret u) w'.s
 |.exc e h=>X.Ep E∧∀w' u ρ,Od X w w'→Inv X w' ρ h→nF X w w' e u→E u w'.s
 |.bad=>False
structure RS(X:Cx)(st:Stmt)(f:Sx):Prop where
 r:∀{w:Wo}{ρ:Ev}{h:List PO}{Q:Flow→Shared→Prop}{E:Value→Shared→Prop},Inv X w ρ h→bC X w Q E (f ρ h)→Wp X (exec st X.env) Q E w.s
structure Qs(X:Cx)(st:List Stmt)(f:Sx):Prop where
 r:∀{w:Wo}{ρ:Ev}{h:List PO}{Q:Flow→Shared→Prop}{E:Value→Shared→Prop},Inv X w ρ h→bC X w Q E (f ρ h)→Wp X (execs st X.env) Q E w.s
structure RG(X:Cx)(tg:Expr)(g:Gx):Prop where
 r:∀{w:Wo}{ρ ρ':Ev}{h:List PO}{p:PV}{u:Value}{Q:Unit→Shared→Prop}{E:Value→Shared→Prop},Inv X w ρ h→br X.toSC w.F w.m p u→g p ρ=some ρ'→(∀w',Od X w w'→Inv X w' ρ' h→Q () w'.s)→Wp X (assign tg X.env u) Q E w.s
section
variable{X:Cx}{w w1:Wo}{ρ:Ev}{h:List PO}{a:Expr}{fa:Ex}{ta:Tx}{pos pos':Pos}{x:Str}{i:Nat}{Q:Flow→Shared→Prop}{E:Value→Shared→Prop}{st:Stmt}{Nm R_:List Stmt}{f g:Sx}
theorem Nw.s{h1:List PO}(y:Nw X w w1 h1):Od X w w1:=y.1.weak fun _ z=>z.elim
theorem bC.ep{r:SR}(p:bC X w Q E r):X.Ep E:=by cases r<;>first|exact p.1|exact p.elim
theorem bC.step{r:SR}(p:bC X w Q E r)(x:Od X w w1):bC X w1 Q E r:=match r with
 |.nx _ _=>⟨p.1,fun w' y=>p.2 w' (x.trans y)⟩
 |.bk _ _=>⟨p.1,fun w' y=>p.2 w' (x.trans y)⟩
 |.ct _ _=>⟨p.1,fun w' y=>p.2 w' (x.trans y)⟩
 |.rt _ _=>⟨p.1,fun w' u ρ y=>p.2 w' u ρ (x.trans y)⟩
 |.exc _ _=>⟨p.1,fun w' u ρ y I r=>p.2 w' u ρ (x.trans y) I (r.back x)⟩
 |.bad=>p
theorem bC.e0{α β:Type}{R:Wo→α→β→Prop}{r:Res α}{k:α→List PO→SR}{G:β→Shared→Prop}(p:bC X w Q E (fT r k))(I:Inv X w ρ h)(c:∀w1 h1 a x,Nw X w w1 h1→Inv X w1 ρ h1→R w1 a x→bC X w Q E (k a h1)→G x w1.s):bT X R w G E r:=match r with
 |.ok a h=>⟨p.ep,fun w' x y q=>c w' h a x y (I.on y) q p⟩
 |.exc _ _=>⟨p.1,fun w' u y r=>p.2 w' u ρ y.s (I.on y) r⟩
 |.bad=>p
theorem bC.e{α β:Type}{R:Wo→α→β→Prop}{r:Res α}{k:α→List PO→SR}{G:β→Shared→Prop}(p:bC X w Q E (fT r k))(I:Inv X w ρ h)(c:∀w1 h1 a x,Nw X w w1 h1→Inv X w1 ρ h1→R w1 a x→bC X w1 Q E (k a h1)→G x w1.s):bT X R w G E r:=p.e0 I fun w1 h1 a x y I r p=>c w1 h1 a x y I r (p.step y.s)
theorem bC.here{ρ:Ev}(p:bC X w Q E (.nx ρ h))(I:Inv X w ρ h):Q .next w.s:=p.2 w .refl I
theorem Inv.store{p:PV}{u:Value}{Q:Unit→Shared→Prop}(I:Inv X w ρ h)(hi:X.N[i]? =some x)(hx:X.env.kindOf x=some .local∨(X.env.kindOf x=some .cell∧X.fn x=true))(r:br X.toSC w.F w.m p u)(q:∀w',Od X w w'→Inv X w' (ρ.set i (some p)) h→Q () w'.s):Wp X (storeName X.env x u) Q E w.s:=by
 obtain⟨m,o,n,hl,l⟩:=I.loc;have Ud:i<ρ.length:=by rw[I.ln];exact(List.getElem?_eq_some_iff.mp hi).1
 have go:∀{a:Addr}{s':Shared}(oa T3:Obj),Has w a oa→X.W a→Heap.SameBut a w.s.heap s'.heap→s'.heap.get? a=some T3→s'.os=w.s.os→s'.gens=w.s.gens→(∀vs,T3.data≠.fields vs)→
   (∃m',s'.heap.Ns X.L m'∧∀(j:Nat)(y:Str)(v:Value),X.N[j]? =some y→if j=i then vR X.env s'.heap m' y u else vR X.env w.s.heap m y v→vR X.env s'.heap m' y v)→(∀y c,X.env.cells.lookup y=some c→∃v,s'.heap.IsCell c v)→Q () s':=by
  intro a s' oa T3 ha wa sb ea eo eg ed ⟨m',n',lk⟩ cl;have on:∀b o,b≠a→w.s.heap.get? b=some o→s'.heap.get? b=some o:=fun b o z e=>(sb.2 b z).trans e
  have hs:∀b o,Has w b o→∃o',Has { w with s:=s' } b o'∧(b≠a→o'=o)∧(b=a→o'=T3):=fun b o q=>by
   by_cases z:b=a
   ·subst z;exact⟨T3,⟨ea,q.2⟩,fun z=>absurd rfl z,fun _=>rfl⟩
   ·exact⟨o,⟨on b o z q.1,q.2⟩,fun _=>rfl,fun z'=>absurd z' z⟩
  have st:Od X w { w with s:=s' }:=⟨eo,fun q=>eg▸q,fun _ _ e=>e,fun _ _ e=>e,⟨[],by simp⟩,fun b o e=>by
   by_cases z:b=a
   ·subst z;exact⟨_,ea⟩
   ·exact⟨o,on b o z e⟩,fun b o q nw=>⟨o.slots,⟨on b o (fun z=>nw (z▸wa)) q.1,q.2⟩,.inr rfl⟩⟩
  refine q { w with s:=s' } st ⟨I.toWd.on st (fun b hb z=>?_) (I.toHR.on fun b o e z=>on b o ?_ e),I.ok,?_,fun y c e=>?_,by simp[I.ln]⟩
  ·obtain⟨o,q,d⟩:=I.fr b hb;obtain⟨o',q',z1,z2⟩:=hs b o q;refine⟨o',q',?_⟩
   by_cases z:b=a
   ·rw[z2 z];exact ed
   ·rw[z1 z];exact d
  ·rintro rfl
   exact z ha.2
  ·obtain⟨o',q',_⟩:=hs _ _ hl;refine⟨m',o',n',q',fun j p' e=>?_⟩
   by_cases z:j=i
   ·subst z;rw[List.getElem?_set_self Ud]at e
    cases e
    have:=lk j x u hi;rw[if_pos rfl]at this;exact⟨x,u,hi,r,this⟩
   ·rw[List.getElem?_set_ne (Ne.symm z)]at e;obtain⟨y,v,e1,r',l'⟩:=l j p' e;have:=lk j y v e1;rw[if_neg z]at this;exact⟨y,v,e1,r',this l'⟩
  ·obtain⟨v,o,_,q⟩:=I.PJ y c e;obtain⟨o',q',_⟩:=hs c o q;obtain⟨v',z⟩:=cl y c e;exact⟨v',o',z,q'⟩
 have nx:∀j y,X.N[j]? =some y→j≠i→y≠x:=fun j y e z q=>z (by subst q;obtain⟨h1,e1⟩:=List.getElem?_eq_some_iff.mp e;obtain⟨h2,e2⟩:=List.getElem?_eq_some_iff.mp hi;exact(List.getElem_inj I.ok.nd).mp (e1.trans e2.symm))
 have WX:∀y c,X.env.cells.lookup y=some c→c≠X.L:=fun y c e z=>by obtain⟨v,o,⟨o',ho,hd⟩,_⟩:=I.PJ y c e;obtain⟨o2,es,ep,Wi,OJ,_⟩:=n;rw[z,Wi]at ho;cases ho;rw[OJ]at hd;cases hd
 have Wu:(X.env.scope.kind==.class||(X.env.scope.kind==.module&&X.env.locals !=X.env.globals))=false:=by rw[I.ok.kind];rfl
 rcases hx with hk|⟨hk,hf⟩
 ·refine wpAny_storeName_local hk n (fun h' n' hs=>?_) Wu;obtain⟨o',es,ep,e',d',_⟩:=id n';refine go o o' hl (.inl rfl) hs e' rfl rfl (fun vs z=>by rw[d']at z;cases z) ⟨_,n',fun j y v e=>?_⟩ fun y c e=>let⟨v,_,z,_⟩:=I.PJ y c e;⟨v,z.sameBut hs (WX y c e)⟩
  split
  ·rename_i z;subst z;cases e.symm.trans hi;exact .inl ⟨hk,by simp⟩
  ·rename_i z
   rintro(⟨k,e'⟩|⟨k,c,e',q'⟩)
   ·exact .inl ⟨k,by simp[nx j y e z,e']⟩
   ·exact .inr ⟨k,c,e',q'.sameBut hs (WX y c e')⟩
 ·obtain⟨c,hc⟩:=I.ok.has x (.inl hk);obtain⟨v0,oc,z0,Yk⟩:=I.PJ x c hc;refine wpAny_storeName_cell I.ok.kind hk hc z0 (fun h' Tp hs=>?_);obtain⟨o',e',d'⟩:=id Tp;refine go (s':={ w.s with heap:=h' }) oc o' Yk (.inr ⟨x,hf,hc⟩) hs e' rfl rfl (fun vs z=>by rw[d']at z;cases z) ⟨m,n.sameBut hs (Ne.symm (WX x c hc)),fun j y v e=>?_⟩ fun y d e=>?_
  ·split
   ·rename_i z;subst z;cases e.symm.trans hi;exact .inr ⟨.inl hk,c,hc,Tp⟩
   ·rename_i z
    rintro(l|⟨k,d,e',q'⟩)
    ·exact .inl l
    ·exact .inr ⟨k,d,e',q'.sameBut hs fun q=>nx j y e z (I.ok.inj y x c (q▸e') hc)⟩
  ·by_cases z:d=c
   ·subst z;exact⟨_,Tp⟩
   ·obtain⟨v,_,q',_⟩:=I.PJ y d e;exact⟨v,q'.sameBut hs z⟩
end
end Z
namespace L3
noncomputable def aR(g:Gx)(body:Sx):List PV→Sx
 |[],ρ,h=>.nx ρ h
 |p::r,ρ,h=>match g p ρ with
  |some ρ1=>match body ρ1 h with
   |.nx ρ2 h2=>aR g body r ρ2 h2
   |.ct ρ2 h2=>aR g body r ρ2 h2
   |.bk ρ2 h2=>.nx ρ2 h2
   |.rt v h2=>.rt v h2
   |.exc v h2=>.exc v h2
   |.bad=>.bad
  |none=>.bad
def gh(it:Ax)(g:Gx)(body:Sx):Sx:=fun ρ h=>BK (it ρ h) fun xs h1=>aR g body xs ρ h1
end L3
namespace Z
open PySem PySem.Spec PyProof.Rows L3 L2
section
variable{X:Cx}{w w1:Wo}{ρ:Ev}{h:List PO}{a c:Expr}{fa:Ex}{ta:Tx}{pos pos':Pos}{x:Str}{i:Nat}{Q:Flow→Shared→Prop}{E:Value→Shared→Prop}{st:Stmt}{Nm R_:List Stmt}{f g:Sx}
theorem Inv.quiet(I:Inv X w ρ h):interactive X.env=false:=by simp[interactive,I.ok.kind]
theorem aL:Qs X [] cD:=⟨fun I p=>wpAny_execs_nil (p.here I)⟩
theorem aj(ha:RS X st f)(hb:Qs X Nm g):Qs X (st::Nm) (aB f g):=⟨fun{w ρ h Q E} I p=>wpAny_execs_cons (ha.r I (by
 unfold aB at p
 split at p<;>rename_i e<;>rw[e]
 ·exact⟨p.ep,fun w' y I'=>hb.r I' (p.step y)⟩
 all_goals exact p))⟩
theorem ay(ha:RS X st f):Qs X [st] f:=⟨fun{w ρ h Q E} I p=>wpAny_execs_cons (ha.r I (by
 cases e:f ρ h<;>rw[e]at p
 ·exact⟨p.1,fun w' y I'=>wpAny_execs_nil (p.2 w' y I')⟩
 all_goals exact p))⟩
theorem pT:RS X st pP:=⟨fun _ p=>p.elim⟩
theorem Gb(ha:RE X a fa):RS X (.Return (some a) pos) (bw fa):=⟨fun{w ρ h Q E} I p=>wpAny_Return_some (ha.r I (bC.e p I fun _ _ _ _ _ I r p=>p.2 _ _ ρ .refl I r))⟩
theorem Di:RS X (.Return none pos) AI:=⟨fun{w ρ h Q E} I p=>wpAny_Return_none (p.2 w _ ρ .refl I .non)⟩
theorem bV(ha:RE X a fa)(hs:swapsWith a none pos.line X.env=pure false:=by rfl):RS X (.Expr a pos) (dk fa):=⟨fun I p=>wpAny_Expr_any (ha.r I (bC.e p I fun _ _ _ _ _ I r p=>p.here I)) I.quiet hs⟩
theorem aY(hc:RT X c ta)(ha:Qs X Nm f)(hb:Qs X R_ g):RS X (.If c Nm R_ pos) (J7 ta f g):=⟨fun I p=>wpAny_If (hc.r I (bC.e p I fun _ _ b _ _ I r p=>by
 subst r
 cases b
 ·exact hb.r I p
 ·exact ha.r I p))⟩
theorem Ga(hi:X.N[i]? =some x:=by rfl)(hx:X.env.kindOf x=some .local∨(X.env.kindOf x=some .cell∧X.fn x=true):=by first|exact .inl rfl|exact .inr ⟨rfl,rfl⟩)(ha:RE X a fa)(hs:swapsWith a (some (.Name x pos')) pos.line X.env=pure false:=by rfl):RS X (.Assign [.Name x pos'] a pos) (aO i fa):=
 ⟨fun I p=>wpAny_Assign_Name (ha.r I (bC.e p I fun _ _ _ _ _ I r p=>I.store hi hx r fun w' y I'=>p.2 w' y I')) hs⟩
theorem bq(hi:X.N[i]? =some x:=by rfl)(hx:X.env.kindOf x=some .local∨(X.env.kindOf x=some .cell∧X.fn x=true):=by first|exact .inl rfl|exact .inr ⟨rfl,rfl⟩):RG X (.Name x pos) (D_ i):=⟨fun I r e q=>by cases e;exact wpAny_assign_Name (I.store hi hx r q)⟩
structure Uw(X:Cx)(tg:List Expr)(g:Ri):Prop where
 r:∀{w:Wo}{ρ ρ':Ev}{h:List PO}{p:List PV}{u:List Value}{Q:Unit→Shared→Prop}{E:Value→Shared→Prop},Inv X w ρ h→aA X.toSC w.F w.m p u→g p ρ=some ρ'→(∀w',Od X w w'→Inv X w' ρ' h→Q () w'.s)→Wp X (assignInOrder ((assignEach tg X.env).map (·.2)) u) Q E w.s
theorem jK:Uw X [] dU:=⟨fun I r e q=>by
 unfold dU at e
 split at e<;>cases e
 cases r
 exact assignInOrder_nil (q _ .refl I)⟩
theorem df{e:Expr}{es:List Expr}{g:Gx}{gs:Ri}(h1:RG X e g)(h2:Uw X es gs)(hs:(assignEach (e::es) X.env).map (·.2)=assign e X.env::(assignEach es X.env).map (·.2):=by rfl):Uw X (e::es) (aU g gs):=⟨fun I r e q=>by
 unfold aU at e
 split at e
 ·split at e
  ·rename_i e1
   cases r with
   |cons r t=>rw[hs];exact assignInOrder_cons (h1.r I r e1 fun w' y I'=>h2.r I' (y.reps t) e fun w2 y2=>q w2 (y.trans y2))
  ·cases e
 ·cases e⟩
theorem mh{es:List Expr}{k n:Nat}{gs:Ri}(hc:X.calm=true)(h:Uw X es gs)(hn:(assignEach es X.env).length=n:=by rfl)(RM:(assignEach es X.env).findIdx? (·.1)=none:=by rfl):RG X (.Tuple es k pos) (NK n gs):=⟨fun{w ρ ρ' h p u Q E} I r e q=>by
 unfold NK at e
 split at e
 ·split at e
  ·obtain⟨a,its,rfl,y,z,r⟩:=I.sq r rfl;refine assign_Tuple_tuple (I.ok.hd hc) y.tup (by rw[← r.len,hn];exact Eq.symm ‹_›) RM fun h' hx=>?_;have n:=Nw.also (X:=X) (s':={ w.s with heap:=h' }) I.toHR fun b o e=>hx b o (Nat.ne_of_lt (Heap.lt_size e)) e;exact ‹Uw X es gs›.r (I.on n) r e fun w2 y2=>q w2 (n.s.trans y2)
  ·cases e
 ·cases e⟩
theorem Gd{tg:Expr}{g:Gx}(hg:RG X tg g)(ha:RE X a fa)(hs:swapsWithSole [tg] a pos.line X.env=pure false:=by rfl)(hw:swappedStores [tg] a X.env=pure none:=by rfl)(h1:(assignEach [tg] X.env).map (·.2)=[assign tg X.env]:=by rfl):RS X (.Assign [tg] a pos) (FZ g fa):=⟨fun I p=>wpAny_Assign_stores (ha.r I (bC.e p I fun _ _ _ _ _ I r p=>by
 rw[h1]
 split at p
 ·exact hg.r I r ‹_› fun w' y I'=>p.2 w' y I'
 ·exact p.elim)) hs hw⟩
end
end Z
namespace Z
open PySem PySem.Spec PyProof.Rows L3 L2
def O2(w w':Wo):Prop:=(∀a o,w.F a=some o→w'.F a=some o)∧Sub w.m w'.m
theorem K1.lat{fs:List Addr}{W:Addr→Prop}{w w':Wo}(x:K1 fs W w w'):O2 w w':=⟨x.fz,x.sub⟩
theorem O2.trans{w w1 w2:Wo}(x:O2 w w1)(y:O2 w1 w2):O2 w w2:=⟨fun a o e=>y.1 a o (x.1 a o e),fun i a e=>y.2 i a (x.2 i a e)⟩
structure Pv(fp:List Addr)(w w':Wo):Prop where
 os:w'.s.os=w.s.os
 ba:AllBare w.s.gens→AllBare w'.s.gens
 fz:∀a o,w.F a=some o→w'.F a=some o
 ow:∀d a,w.O d=some a→w'.O d=some a
 pre:∃t,w'.m=w.m++t
 dom:∀b o,b∉fp→w.s.heap.get? b=some o→∃o',w'.s.heap.get? b=some o'
 keep:∀b o,b∉fp→Has w b o→Has w' b o
theorem Pv.sub{fp:List Addr}{w w1:Wo}(x:Pv fp w w1):Sub w.m w1.m:=fun i a e=>by obtain⟨t,z⟩:=x.pre;rw[z,List.getElem?_append_left (List.getElem?_eq_some_iff.mp e).1];exact e
structure Ae(G:SC)(w0:Wo)(tg:Expr)(xs:List PV)(it:Addr)(fp:List Addr)(tn:Nat→Heap→Prop):Prop where
 keep:∀{i:Nat}{w1 w2:Wo}{h1 h2:List PO},O2 w0 w1→HR G w1 h1→O2 w1 w2→HR G w2 h2→tn i w1.s.heap→(∀b∈fp,∀o,w1.s.heap.get? b=some o→w2.s.heap.get? b=some o)→tn i w2.s.heap
 item:∀{A:Around}{w:Wo}{h:List PO}{i:Nat}{p:PV}{Q:Value→Shared→Prop}{E:Value→Shared→Prop},A.handled=none→O2 w0 w→HR G w h→tn i w.s.heap→xs[i]? =some p→(∀b∈fp,∃o,Has w b o)→
  (∀u w',Pv fp w w'→HR G w' h→tn (i+1) w'.s.heap→(∀b∈fp,∃o,Has w' b o)→br G w'.F w'.m p u→Q u w'.s)→
  wpAny (model G.prog G.w) A (pyNext (.ref it)) (fun r s=>∃u,r=some u∧wpAny (model G.prog G.w) A (letOwnedTupleGo tg (.ref it) u) (fun _ s=>Q u s) E s) E w.s
 done:∀{A:Around}{w:Wo}{h:List PO}{i:Nat}{Q:Shared→Prop}{E:Value→Shared→Prop},A.handled=none→O2 w0 w→HR G w h→tn i w.s.heap→xs.length=i→(∀b∈fp,∃o,Has w b o)→
  (∀w',Pv fp w w'→HR G w' h→Q w'.s)→wpAny (model G.prog G.w) A (pyNext (.ref it)) (fun r s=>r=none∧Q s) E w.s
 self:∀{A:Around}{i:Nat}{s:Shared}{Q:Value→Shared→Prop}{E:Value→Shared→Prop},A.handled=none→tn i s.heap→Q (.ref it) s→wpAny (model G.prog G.w) A (pyIter (.ref it)) Q E s
def Q8(X:Cx)(b:Addr):Prop:=b≠X.L∧b∉X.fs∧∀x c,X.env.cells.lookup x=some c→c≠b
theorem Q8.w{X:Cx}{b:Addr}(n:Q8 X b):¬ X.W b:=fun z=>z.elim n.1 (by rintro ⟨x,_,e⟩;exact n.2.2 x b e rfl)
theorem Inv.out{X:Cx}{w:Wo}{ρ:Ev}{h:List PO}{b:Addr}(I:Inv X w ρ h)(n:w.s.heap.get? b=none):Q8 X b:=by
 have k:∀{c o},Has w c o→b≠c:=fun q z=>by have q:=q.1;rw[← z,n]at q;cases q
 obtain⟨_,_,_,q,_⟩:=I.loc;exact⟨k q,fun z=>let⟨_,q,_⟩:=I.fr b z;k q rfl,fun x c e=>let⟨_,_,_,q⟩:=I.PJ x c e;Ne.symm (k q)⟩
def PX(X:Cx)(tg:Expr)(w0 w:Wo)(xs:List PV)(v:Value):Prop:=∃it fp tn,v=.ref it∧Ae X.toSC w tg xs it fp tn∧tn 0 w.s.heap∧∀b∈fp,(∃o,Has w b o)∧Q8 X b∧w0.s.heap.get? b=none
structure RI(X:Cx)(tg iter:Expr)(f:Ax):Prop where
 r:∀{w:Wo}{ρ:Ev}{h:List PO}{Q:Value→Shared→Prop}{E:Value→Shared→Prop},Inv X w ρ h→bT X (PX X tg w) w Q E (f ρ h)→Wp X (eval iter X.env) (fun v s=>Wp X (pyIter v) Q E s) E w.s
section
variable{X:Cx}{w w1:Wo}{ρ:Ev}{h:List PO}{pos:Pos}{tg iter:Expr}{it:Ax}{g:Gx}{body:List Stmt}{f:Sx}
theorem Inv.priv{fp:List Addr}{h1:List PO}(I:Inv X w ρ h)(x:Pv fp w w1)(H:HR X.toSC w1 h1)(n:∀b∈fp,Q8 X b):Inv X w1 ρ h1:=by
 obtain⟨m,o,n1,hl,q⟩:=I.loc;have k:=x.keep;have cl:∀x c,X.env.cells.lookup x=some c→c∉fp:=fun x c e z=>(n c z).2.2 x c e rfl;have ck:∀x c,X.env.cells.lookup x=some c→∀v,w.s.heap.IsCell c v→w1.s.heap.IsCell c v:=(by rintro y c e v ⟨o,q,d⟩;exact (let⟨_,o',⟨_,_,_⟩,hc⟩:=I.PJ y c e;⟨o,(k c o (cl y c e) ⟨q,hc.2⟩).1,d⟩))
 have hL:X.L∉fp:=fun z=>(n _ z).1 rfl;refine⟨⟨H,x.ba I.ba,fun b o e=>x.fz _ _ (I.bs b o e),fun b hb=>let⟨o,q,d⟩:=I.fr b hb;⟨o,k b o (fun z=>(n b z).2.1 hb) q,d⟩⟩,I.ok,⟨m,o,?_,k _ _ hL hl,fun i p e=>?_⟩,fun y c e=>?_,I.ln⟩
 ·obtain⟨o',es,ep,e,r⟩:=n1;exact⟨o',es,ep,(k _ _ hL ⟨e,hl.2⟩).1,r⟩
 ·obtain⟨y,u,e1,r,l⟩:=q i p e;exact⟨y,u,e1,r.mono x.fz (.inr x.sub),l.imp_right (by rintro ⟨k,c,e,z⟩;exact ⟨k,c,e,ck y c e _ z⟩)⟩
 ·obtain⟨v,o,z,hc⟩:=I.PJ y c e;exact⟨v,o,ck y c e v z,k c o (cl y c e) hc⟩
theorem K1.priv{w0:Wo}{fp fs:List Addr}{W:Addr→Prop}(x:K1 fs W w0 w)(y:Pv fp w w1)(n:∀b∈fp,w0.s.heap.get? b=none):K1 fs W w0 w1:=
 have k:∀{b o},w0.s.heap.get? b=some o→b∉fp:=fun e z=>by rw[n _ z]at e;cases e
 ⟨y.os.trans x.os,y.ba∘x.ba,fun a o e=>y.fz a o (x.fz a o e),fun a o e=>y.ow a o (x.ow a o e),let⟨t,e⟩:=x.pre;let⟨u,e'⟩:=y.pre;⟨t++u,by rw[e',e,List.append_assoc]⟩,fun b o e=>let⟨o',q⟩:=x.dom b o e;y.dom b o' (k e) q,fun b o q z=>let⟨sl,q1,z1⟩:=x.keep b o q z;⟨sl,y.keep b _ (k q.1) q1,z1⟩⟩
theorem Gc(hp:∀E,X.Ep E→PassesOwn X.M X.A X.env E)(hc:X.calm=true)(hi:RI X tg iter it)(hg:RG X tg g)(hb:Qs X body f)(hs:∀x,foldedSetIterable iter X.env x=pure x:=by intro _;rfl):RS X (.For tg iter body [] pos) (gh it g f) where
 r {w0 ρ h Q E} I0 p:=by
  have hp:=hp E p.ep;refine wpAny_For (hi.r I0 (bC.e0 p I0 fun w h1 xs v y0 I r p=>?_)) hs;obtain⟨it,fp,tn,rfl,T,t0,fr⟩:=r;have no:=fun b hb=>(fr b hb).2.1;have nf:=fun b hb=>(fr b hb).2.2;refine codeAny_forLoop_any (fun n s=>∃w1 ρ1 h1 ys,w1.s=s∧Od X w0 w1∧O2 w w1∧Inv X w1 ρ1 h1∧ys.length=n∧ys=xs.drop (xs.length - n)∧n≤xs.length∧tn (xs.length - n) w1.s.heap∧(∀b∈fp,∃o,Has w1 b o)∧bC X w0 Q E (aR g f ys ρ1 h1)) ?_ xs.length ⟨w,ρ,h1,xs,rfl,y0.s,(K1.refl (fs:=[]) (W:=Ov)).lat,I,rfl,by simp,Nat.le_refl _,by simpa using t0,fun b hb=>(fr b hb).1,p⟩
  rintro n s ⟨w1,ρ1,h1,ys,rfl,y1,l1,I1,ln,dr,le,t1,f1,p1⟩
  cases ys with
  |nil=>
   cases ln
   exact wpAny_passesOwn hp (wpAny_mono (T.done (I1.ok.hd hc) l1 I1.toHR t1 (by simp) f1 (Q:=fun s=>wpAny X.M X.A (execs [] X.env) Q (notedBy X.M X.A X.env (cameBackBy X.M X.A X.env E)) s) fun w2 y2 H2=>wpAny_execs_nil (p1.2 w2 (y1.priv y2 nf) (I1.priv y2 H2 no))) (fun r s q=>by obtain⟨rfl,q⟩:=q;exact q) fun _ _ z=>z)
  |cons q ys=>
   have Zw:ys.length+1=n:=ln;have eq:xs[xs.length - n]? =some q:=by rw[← List.head?_drop,← dr];rfl
   unfold aR at p1
   split at p1
   ·rename_i ρ2 e2;refine wpAny_mono (T.item (I1.ok.hd hc) l1 I1.toHR t1 eq f1 (Q:=fun u s=>wpAny (model X.prog X.w) X.A (assign tg X.env u) ?R ?N s) ?c) (fun r s q=>by obtain⟨u,rfl,q⟩:=q;exact q) fun _ _ z=>z;intro u w2 y2 H2 t2 f2 r2;refine wpAny_passesOwn hp (hg.r (I1.priv y2 H2 no) r2 e2 fun w3 y3 I3=>wpAny_passesOwn hp (hb.r I3 ?_));have Xc:=(y1.priv y2 nf).trans y3;have l2:O2 w w2:=l1.trans ⟨y2.fz,y2.sub⟩
    have t3:∀w4 h4,HR X.toSC w4 h4→Od X w3 w4→tn (xs.length - ys.length) w4.s.heap∧∀b∈fp,∃o,Has w4 b o:=fun w4 h4 H4 y4=>by
     have k:∀b∈fp,∀o,Has w2 b o→Has w4 b o:=fun b hb o q=>by
      obtain⟨sl,q',z⟩:=(y3.trans y4).keep b o q (no b hb).w;rcases z with z|rfl
      ·exact absurd z (no b hb).2.1
      ·exact q'
     refine⟨?_,fun b hb=>let⟨o,q⟩:=f2 b hb;⟨o,k b hb o q⟩⟩;rw[show xs.length - ys.length=xs.length - n+1 by omega];exact T.keep l2 H2 (y3.trans y4).lat H4 t2 fun b hb o e=>let⟨o',q⟩:=f2 b hb;(k b hb o ⟨e,q.2⟩).1
    have dy:ys=xs.drop (xs.length - ys.length):=by rw[show xs.length - ys.length=xs.length - n+1 by omega,← List.drop_drop,← dr];rfl
    have go:∀ ρ4 h4,bC X w0 Q E (aR g f ys ρ4 h4)→∀w4,Od X w3 w4→Inv X w4 ρ4 h4→∃m,m<n∧∃w1 ρ1 h1 ys,w1.s=w4.s∧Od X w0 w1∧O2 w w1∧Inv X w1 ρ1 h1∧ys.length=m∧ys=xs.drop (xs.length - m)∧m≤xs.length∧tn (xs.length - m) w1.s.heap∧(∀b∈fp,∃o,Has w1 b o)∧bC X w0 Q E (aR g f ys ρ1 h1):=fun ρ4 h4 p4 w4 y4 I4=>⟨ys.length,by omega,w4,ρ4,h4,ys,rfl,Xc.trans y4,l2.trans (y3.trans y4).lat,I4,rfl,dy,by omega,(t3 w4 h4 I4.toHR y4).1,(t3 w4 h4 I4.toHR y4).2,p4⟩
    split at p1<;>rename_i e3<;>rw[e3]
    ·exact⟨p1.ep,go _ _ p1⟩
    ·exact⟨p1.ep,go _ _ p1⟩
    all_goals exact p1.step Xc
   ·exact p1.elim
end
end Z
namespace L3
noncomputable def gx(h:List PO):PV→Option (PV×List PO)
 |.ref i=>match h[i]? with
  |some (.lst xs)=>if aq xs=true then some (.lst xs,h.set i (.G6 (.lst xs)))else none
  |some (.dct _)=>none
  |some (.G6 p)=>some (p,h)
  |some (.obj _ _)=>none
  |none=>none
 |p=>if p.pure=true then some (p,h)else none
def gR(f:Ax):Ax:=fun ρ h=>(f ρ h).bind fun ps h1=>match ps with
 |[.int j]=>if Oh 4611686018427387904 j=true then .ok ((List.range j.toNat).map fun i=>PV.int (0+(i:Nat))) h1 else .bad
 |_=>.bad
def kI(p:PV)(h:List PO):Res (List PV):=match p with
 |.str l=>.ok (l.map fun c=>PV.str [c]) h
 |.tup xs=>.ok xs h
 |.lst xs=>.ok xs h
 |.Nz xs=>.ok xs h
 |p=>match gx h p with
  |some (.lst xs,h2)=>.ok xs h2
  |_=>.bad
def fH(f:Ex):Ax:=fun ρ h=>(f ρ h).bind kI
end L3
namespace Z
open PySem PySem.Spec PyProof.Rows L3 L2
section
variable{G:SC}{X:Cx}{w w1:Wo}{ρ:Ev}{h:List PO}{pos p0:Pos}{tg a:Expr}{fa:Ex}{it:Addr}{xs:List PV}{s':Shared}{Q:Value→Shared→Prop}{E:Value→Shared→Prop}
theorem nH{o:Obj}(H:HR G w h)(q:Has w it o)(k:∀b o,b≠it→w.s.heap.get? b=some o→s'.heap.get? b=some o)(ho:s'.os=w.s.os:=by rfl)(hg:s'.gens=w.s.gens:=by rfl):Pv [it] w { w with s:=s' }∧HR G { w with s:=s' } h:=
 ⟨⟨ho,fun q=>hg▸q,fun _ _ e=>e,fun _ _ e=>e,⟨[],by simp⟩,fun b o n e=>⟨o,k b o (by simpa using n) e⟩,fun b o n q=>⟨k b o (by simpa using n) q.1,q.2⟩⟩,H.on fun b o e' z=>k b o (by rintro rfl;exact z q.2) e'⟩
theorem PX.new{w0:Wo}{o:Obj}{tn:Nat→Heap→Prop}{tk:Nat}(I:Inv X w ρ h)(y:K1 X.fs Ov w0 w)(T:Ae X.toSC w tg xs w.s.heap.objs.size [w.s.heap.objs.size] tn)(t:tn 0 (w.s.heap.push o))(ho:o.isFreed=false)(p:bT X (PX X tg w0) w Q E (.ok xs h)):Q (.ref w.s.heap.objs.size) { w.s with heap:=w.s.heap.push o,toks:=tk }:=by
 have n:=Nw.also (X:=X) (s':={ w.s with heap:=w.s.heap.push o,toks:=tk }) I.toHR fun b o e=>Heap.get?_push_of_some _ e;refine p.2 _ _ n ⟨_,_,tn,rfl,⟨T.keep,T.item,T.done,T.self⟩,t,?_⟩;simp only[List.mem_singleton,forall_eq];refine⟨⟨o,Heap.get?_push_size _ ho,I.toHR.free (aX _)⟩,I.out (aX _),?_⟩
 cases q:w0.s.heap.get? w.s.heap.objs.size with
 |none=>rfl
 |some o=>obtain⟨o',q'⟩:=y.dom _ _ q;rw[aX]at q';cases q'
theorem JS{M:Model}{A:Around}{s:Shared}{u:Value}{o:Obj}{n:String}{vs:Array Value}{Q:Unit→Shared→Prop}(ho:s.heap.get? it=some o)(hc:o.cls=.type n)(hd:o.data=.fields vs)
    (hn: ["enumerate","zip","dict_itemiterator","dict_reverseitemiterator","odict_iterator","itertools.zip_longest","itertools.pairwise"].contains n=false) (hQ:Q () s):wpAny M A (letOwnedTupleGo tg (.ref it) u) Q E s:=by
  unfold letOwnedTupleGo
  cases tg<;>first
    |exact wpAny_pure hQ
    |(cases u<;>first
      |exact wpAny_pure hQ
      |(refine wpAny_bind (wpAny_load ho ?_)
        rw[hc,hd];show wpAny M A (if(["enumerate","zip","dict_itemiterator","dict_reverseitemiterator","odict_iterator","itertools.zip_longest","itertools.pairwise"].contains n&&vs[0]? ==some (rawInt _))=true then _ else _) Q E s;rw[if_neg (by intro h;rw[hn,Bool.false_and]at h;cases h)];exact wpAny_pure hQ))
theorem kW{St:Nat→Heap→Prop}{P:Nat→Value→Prop}{src:List Addr}{n:Nat}(W:∀A:Around,A.handled=none→Walks G.prog G.w A it (it::src) [it] n P St)(hl:xs.length=n)(fz:∀b∈src,∃o,w.F b=some o)
  (lv:∀i g,St i g→∃o m vs,g.get? it=some o∧o.cls=.type m∧o.data=.fields vs∧ ["enumerate","zip","dict_itemiterator","dict_reverseitemiterator","odict_iterator","itertools.zip_longest","itertools.pairwise"].contains m=false) (hP:∀i p v,xs[i]? =some p→P i v→br G w.F w.m p v):Ae G w tg xs it [it] St where
 keep {i w1 w2 h1 h2} l1 H1 l2 H2 st k:=(W callerA rfl).frame i _ _ st fun b hb o e=>by
  rcases List.mem_cons.mp hb with rfl|hb
  ·exact k b (by simp) o e
  ·obtain⟨o',q⟩:=fz b hb;rw[H1.at (l1.1 _ _ q)]at e
   cases e
   exact H2.at (l2.1 _ _ (l1.1 _ _ q))
 item {A w1 h i p Q E} hh y H st hx f q:=by
  obtain⟨o,ho⟩:=f it (by simp);refine(W A hh).item i _ _ _ (by rw[← hl];exact(List.getElem?_eq_some_iff.mp hx).1) st fun v h' tk hv S9 k=>⟨v,rfl,?_⟩
  obtain⟨o',m,vs,e',c,d,z⟩:=lv _ _ S9;obtain⟨a1,a2⟩:=nH (s':={ w1.s with heap:=h',toks:=tk }) H ho fun b o hb e=>k b o (by simpa using hb) e;exact JS (s:={ w1.s with heap:=h',toks:=tk }) e' c d z (q v _ a1 a2 S9 (by simp;exact⟨o',e',ho.2⟩) ((hP i p v hx hv).mono y.1 (.inr y.2)))
 done {A w1 h i Q E} hh y H st hx f q:=by
  obtain⟨o,ho⟩:=f it (by simp);subst hl hx;refine(W A hh).done _ _ _ st fun h' tk k=>⟨rfl,?_⟩
  obtain⟨a1,a2⟩:=nH (s':={ w1.s with heap:=h',toks:=tk }) H ho fun b o hb e=>k b o (by simpa using hb) e;exact q _ a1 a2
 self hh st q:=(W _ hh).self _ _ _ _ st q
theorem HR.fix{p:PV}{i:Nat}{a:Addr}{o:Obj}(H:HR X.toSC w h)(e:w.m[i]? =some a)(f:w.F a=none)(e1:w.s.heap.get? a=some o)(rr:br X.toSC (iQ w.F a o) w.m p (.ref a))(pu:p.pure=true):Nw X w ⟨iQ w.F a o,w.O,w.m,w.s⟩ (h.set i (.G6 p)):=by
 refine⟨⟨rfl,id,dj f,fun _ _ e=>e,⟨[],by simp⟩,fun b o e=>⟨o,e⟩,fun b o q _=>⟨o.slots,⟨q.1,q.2.1,cP (fun z=>q.2.1 (z▸List.mem_of_getElem? e)) q.2.2.1,q.2.2.2⟩,.inr rfl⟩⟩,fun b x q=>?_,fun d b q=>let⟨o,z,y⟩:=H.own d b q;⟨o,z,cP (fun e'=>z (e'▸List.mem_of_getElem? e)) y⟩,by simp[H.len],H.nd,fun j po b h1 h2=>?_⟩
 ·by_cases z:b=a
  ·subst z;cases bL.symm.trans q;exact e1
  ·exact H.sub b x ((jW z).symm.trans q)
 ·by_cases z:j=i
  ·subst z
   cases h2.symm.trans e
   rw[List.getElem?_set_self (H.len▸(List.getElem?_eq_some_iff.mp e).1)]at h1
   cases h1
   exact⟨rr,pu,_,bL⟩
  ·rw[List.getElem?_set_ne (Ne.symm z)]at h1;refine(H.obj j po b h1 h2).on (dj f) (fun _ e=>e) (fun _ _ e=>e) (fun _ _ e _=>e) (cP ?_)
   rintro rfl
   obtain⟨l1,e1⟩:=List.getElem?_eq_some_iff.mp h2;obtain⟨l2,e2⟩:=List.getElem?_eq_some_iff.mp e;exact z ((List.getElem_inj H.nd).mp (e1.trans e2.symm))
theorem HR.Ui{p q:PV}{u:Value}{h':List PO}(H:HR X.toSC w h)(r:br X.toSC w.F w.m p u)(k:gx h p=some (q,h')):∃F',Nw X w ⟨F',w.O,w.m,w.s⟩ h'∧br X.toSC F' w.m q u∧q.pure=true:=by
 unfold gx at k
 split at k
 ·rename_i i
  cases r with
  |@ref _ a e=>
   cases q0:h[i]? <;>rw[q0]at k<;>try simp only at k
   ·cases k
   ·rename_i po
    cases po with
    |lst xs=>
     simp only at k
     split at k<;>cases k
     obtain⟨f,its,n,e1,z,r⟩:=H.obj _ _ _ q0 e;have rr:br X.toSC (iQ w.F a ({ cls:=.type "list",data:=.seq its n })) w.m (.lst xs) (.ref a):=.lst bL z (r.mono (dj f) (.inr fun _ _ e=>e));have pu:(PV.lst xs).pure=true:=by simpa[PV.pure]using ‹_›
     exact⟨_,H.fix e f e1 rr pu,rr,pu⟩
    |G6 p=>simp only at k;cases k;obtain⟨r,z,_⟩:=H.obj _ _ _ q0 e;exact⟨w.F,⟨.refl,H⟩,r,z⟩
    |_=>cases k
 ·split at k<;>cases k
  exact⟨w.F,⟨.refl,H⟩,r, ‹_›⟩
theorem FY{p:PV}{v:Value}{w0:Wo}(I:Inv X w ρ h)(y:K1 X.fs Ov w0 w)(r:br X.toSC w.F w.m p v)(k:bT X (PX X tg w0) w Q E (kI p h)):Wp X (pyIter v) Q E w.s:=by
 have seq:∀{w:Wo}{h:List PO}{xs:List PV}{p:PV}{t:String},Inv X w ρ h→K1 X.fs Ov w0 w→br X.toSC w.F w.m p v→S_ p=some (t,xs)→bT X (PX X tg w0) w Q E (.ok xs h)→Wp X (pyIter v) Q E w.s:=by
  intro w h xs p t I y r k q
  have tup:∀{a:Addr}{its:Array Value}{n:Nat},w.F a=some ({ cls:=.type "tuple",data:=.seq its n })→aA X.toSC w.F w.m xs its.toList→Wp X (pyIter (.ref a)) Q E w.s:=fun{a its n} e r=>by
   have ne:a≠w.s.heap.objs.size:=fun z=>by have:=I.toHR.at e;rw[z,aX]at this;cases this
   refine wpAny_pyIter_tuple (items:=its) ⟨_,I.toHR.at e,rfl,n,rfl⟩ (PX.new I y (kW (src:=[a]) (fun A hA=>Walks.tuple hA _ a ne its) r.len (fun b hb=>by simp at hb;exact⟨_,hb▸e⟩) (fun i g st=>let⟨o,e,c,d⟩:=st.1;⟨o,_,_,e,c,d,by decide⟩) fun i p v e h=>?_) ⟨⟨_,Heap.get?_push_size _ rfl,rfl,rfl⟩,⟨_,Heap.get?_push_of_some _ (I.toHR.at e),rfl,n,rfl⟩⟩ rfl q);obtain⟨u,e',r'⟩:=r.get e;rw[show its[i]? =some u by simpa using e']at h
   cases h;exact r'
  have lst:∀{a:Addr}{its:Array Value}{n:Nat},w.F a=some ({ cls:=.type "list",data:=.seq its n })→aA X.toSC w.F w.m xs its.toList→Wp X (pyIter (.ref a)) Q E w.s:=fun{a its n} e r=>by
   have ne:a≠w.s.heap.objs.size:=fun z=>by have:=I.toHR.at e;rw[z,aX]at this;cases this
   refine wpAny_pyIter_list (items:=its) ⟨_,I.toHR.at e,rfl,n,rfl⟩ (PX.new I y (kW (src:=[a]) (fun A hA=>Walks.list hA _ a ne its) r.len (fun b hb=>by simp at hb;exact⟨_,hb▸e⟩) (fun i g st=>let⟨o,e,c,d⟩:=st.1;⟨o,_,_,e,c,d,by decide⟩) fun i p v e h=>?_) ⟨⟨_,Heap.get?_push_size _ rfl,rfl,rfl⟩,⟨_,Heap.get?_push_of_some _ (I.toHR.at e),rfl,n,rfl⟩⟩ rfl q);obtain⟨u,e',r'⟩:=r.get e;rw[show its[i]? =some u by simpa using e']at h
   cases h;exact r'
  cases r<;>cases k
  ·exact tup ‹_› ‹_›
  ·exact lst ‹_› ‹_›
  ·exact lst ‹_› ‹_›
 unfold kI at k
 split at k
 ·rename_i l
  cases r
  have hP:∀(i:Nat)(p:PV)(v:Value),(l.map fun c=>PV.str [c])[i]? =some p→SignAt (S l) i v→br X.toSC w.F w.m p v:=fun i p v e ⟨c,t,e',e''⟩=>by
   rw[List.getElem?_map,show l[i]? =some c by simpa[S]using e']at e
   cases e;subst e'';exact .str [c] t
  cases ha:(S l).cps.all (· <128)
  ·exact wpAny_pyIter_wide ha (PX.new I y (kW (src:=[]) (fun A hA=>Walks.strWide hA _ _ _) (by simp[S]) (fun b hb=>nomatch hb) ((by rintro i g ⟨o,e,c,d⟩;exact ⟨o,_,_,e,c,d,by decide⟩)) hP) ⟨_,Heap.get?_push_size _ rfl,rfl,rfl⟩ rfl k)
  ·exact wpAny_pyIter_ascii ha (PX.new I y (kW (src:=[]) (fun A hA=>Walks.strAscii hA _ _ _) (by simp[S]) (fun b hb=>nomatch hb) ((by rintro i g ⟨o,e,c,d⟩;exact ⟨o,_,_,e,c,d,by decide⟩)) hP) ⟨_,Heap.get?_push_size _ rfl,rfl,rfl⟩ rfl k)
 ·exact seq I y r rfl k
 ·exact seq I y r rfl k
 ·exact seq I y r rfl k
 ·split at k
  ·rename_i e;obtain⟨F',n,r',_⟩:=I.toHR.Ui r e;exact seq (w:=⟨F',w.O,w.m,w.s⟩) (I.on n) (y.trans n.1) r' rfl (k.step n)
  ·exact k.elim
theorem cV(ha:RE X a fa):RI X tg a (fH fa):=⟨fun I p=>ha.r I (p.bind fun _ _ _ _ y r p=>FY (I.on y) y.1 r p)⟩
theorem fS{e:Expr}{f:Ax}(hg:Gl X "range")(hm:X.mg "range"=none)(ha:RA X [e] f)(hs:starEach [e] X.env= [(false,eval e X.env)]:=by rfl):RI X tg (.Call (.Name "range" p0) [e] [] pos) (gR f):=⟨fun I p=>Call_ (I.blt hg hm boot_range (callWith_type1 (ha.r pos I (p.bind fun w _ ps us y r p=>by
 split at p
 ·rename_i j
  split at p
  ·rename_i hb;have hb:=eN.mp hb
   cases r with
   |cons r t=>
    cases t;cases r
    refine call_range_1 ?_;have n:=Nw.also (X:=X) (s':={ w.s with heap:=w.s.heap.push { cls:=.type "range",data:=.fields #[.int 0 w.s.toks,.int j ‹_›,.int 1 (w.s.toks+1)] },toks:=w.s.toks+1+1 }) y.2 fun b o e=>Heap.get?_push_of_some _ e;refine wpAny_pyIter_range (IsRange.new ..) (small_one (by omega) (by omega) (by omega) (by omega)) (PX.new ((I.on y).on n) (y.1.trans n.1) (kW (n:=j.toNat) (src:=[]) (fun A hA=>Walks.range hA _ 0 1 _) (by simp) (fun b hb=>nomatch hb) (fun i g st=>⟨_,_,_,st,rfl,rfl,by decide⟩) fun i p v e h=>?_) ?_ rfl (p.step n))
    ·obtain⟨t,rfl⟩:=h;rw[List.getElem?_map]at e;obtain⟨q,e',rfl⟩:=Option.map_eq_some_iff.mp e;obtain rfl:i=q:=by have:=List.getElem?_eq_some_iff.mp e';simpa using this.2
     rw[Int.mul_one];exact .int _ t
    ·show IsRangeIter _ _ (0+((0:Nat):Int) * 1) ((j.toNat:Int) - ((0:Nat):Int)) 1;rw[show(0:Int)+((0:Nat):Int) * 1=0 by simp,show(j.toNat:Int) - ((0:Nat):Int)=Builtin.Range.rangeSize 0 j 1 by rw[rangeSize_one];split<;>omega];exact Heap.get?_push_size _ rfl
  ·exact p.elim
 ·exact p.elim)) hs rfl))⟩
end
end Z
namespace L2
open PySem PySem.Spec PyProof.Rows
structure lQ(N P:List Str)(sc:Scope):Prop where
 kind:sc.kind=.function
 co:sc.isCoroutine=false
 gen:sc.isGenerator=false
 nd:N.Nodup
 pre:N.take P.length=P
 par:∀x∈P,sc.names.lookup x=some .local∨sc.names.lookup x=some .cell
 Sg:∀y∈sc.names,y.2≠.free
theorem rY{kindOf:Str→Option NameKind}{x:Str}:∀{binds:List (Str×Value)}{m:Str→Option Value},(∀v,(x,v)∉binds)→bindL kindOf binds m x=m x
 |[],_,_=>rfl
 |(n,v)::r,m,h=>by
  unfold bindL;rw[rY fun w hw=>h w (List.mem_cons_of_mem _ hw)]
  split
  ·have:x≠n:=by rintro rfl;exact h v List.mem_cons_self
   simp[this]
  ·rfl
theorem sh{kindOf:Str→Option NameKind}{x:Str}:∀{binds:List (Str×Value)}{m:Str→Option Value},(∀v,(x,v)∉binds)→bindC kindOf binds m x=m x
 |[],_,_=>rfl
 |(n,v)::r,m,h=>by
  unfold bindC;rw[sh fun w hw=>h w (List.mem_cons_of_mem _ hw)]
  split
  ·rfl
  ·have:x≠n:=by rintro rfl;exact h v List.mem_cons_self
   simp[this]
theorem rZ{kindOf:Str→Option NameKind}{x:Str}{v:Value}:∀{P:List Str}{vs:List Value}{i:Nat}{m:Str→Option Value},P.Nodup→P[i]? =some x→vs[i]? =some v→kindOf x=some .local→
  bindL kindOf (P.zip vs) m x=some v
 |[],_,_,_,_,h,_,_=>by simp at h
 |_::_,[],_,_,_,_,h,_=>by simp at h
 |p::P,w::vs,0,m,nd,h1,h2,hk=>by simp at h1 h2;subst h1;subst h2;show bindL kindOf ((p,w)::P.zip vs) m p=_;unfold bindL;rw[rY fun v hv=>(List.nodup_cons.mp nd).1 (List.of_mem_zip hv).1,if_pos hk];simp
 |p::P,w::vs,i+1,m,nd,h1,h2,hk=>by show bindL kindOf ((p,w)::P.zip vs) m x=_;unfold bindL;exact rZ (i:=i) (List.nodup_cons.mp nd).2 (by simpa using h1) (by simpa using h2) hk
theorem sj{kindOf:Str→Option NameKind}{x:Str}{v:Value}:∀{P:List Str}{vs:List Value}{i:Nat}{m:Str→Option Value},P.Nodup→P[i]? =some x→vs[i]? =some v→kindOf x≠some .local→
  bindC kindOf (P.zip vs) m x=some v
 |[],_,_,_,_,h,_,_=>by simp at h
 |_::_,[],_,_,_,_,h,_=>by simp at h
 |p::P,w::vs,0,m,nd,h1,h2,hk=>by simp at h1 h2;subst h1;subst h2;show bindC kindOf ((p,w)::P.zip vs) m p=_;unfold bindC;rw[sh fun v hv=>(List.nodup_cons.mp nd).1 (List.of_mem_zip hv).1,if_neg hk];simp
 |p::P,w::vs,i+1,m,nd,h1,h2,hk=>by show bindC kindOf ((p,w)::P.zip vs) m x=_;unfold bindC;exact sj (i:=i) (List.nodup_cons.mp nd).2 (by simpa using h1) (by simpa using h2) hk
theorem vI{sc:Scope}{n:Nat}{x:Str}(h:sc.names.lookup x=some .cell):∃c,(cellsFrom n sc.names []).lookup x=some c:=by have q:=W.cellsFrom_some sc.names n [] (.inl h);exact Option.isSome_iff_exists.mp q
structure eY(k:Nat)(A:Around):Prop where
 dp:A.depth+3 * k+5<recursionLimit
 un:A.units+16 * k+200<cLine
 gd:A.guards=some []
theorem eY.mono{j k:Nat}{A:Around}(r:eY k A)(h:j≤k):eY j A:=⟨by have:=r.dp;omega,by have:=r.un;omega,r.gd⟩
theorem eY.deeper{k:Nat}{A:Around}(r:eY (k+1) A)(env:Env):eY k (A.deeper env):=
 ⟨by have:=r.dp;show A.depth+1+3 * k+5<_;omega,by have:=r.un;show A.units+3+16 * k+200<_;omega,r.gd⟩
theorem wY{A:Around}{C:Addr}{us:List Value}{kw:List (Str×Value)}:(A.under (.builtin "type.__call__" ⟨.ref C::us,kw⟩)).depth=A.depth+1:=by first|rfl|simp[Around.under,Code.weight,Code.isCreation,Code.isGuard,Code.isCaller,Code.frames,Code.isFrame,guardIds]
theorem wX{A:Around}{C:Addr}{us:List Value}{kw:List (Str×Value)}:(A.under (.builtin "type.__call__" ⟨.ref C::us,kw⟩)).units=A.units+1:=by first|rfl|simp[Around.under,Code.cUnits,Code.frames,Code.isFrame]
theorem eY.make{k:Nat}{A:Around}(r:eY (k+1) A)(C:Addr)(us:List Value)(kw:List (Str×Value)):eY k (A.under (.builtin "type.__call__" ⟨.ref C::us,kw⟩)):=
 ⟨by have:=r.dp;rw[wY];omega,by have:=r.un;rw[wX];omega,by first|exact r.gd|(simp[Around.under,Code.guards,Code.isGuard,guardIds,pushGuards];exact r.gd)⟩
theorem eY.depth{k:Nat}{A:Around}(r:eY k A):A.depth<recursionLimit:=by have:=r.dp;omega
theorem eY.units{k:Nat}{A:Around}(r:eY k A):A.units+64<cLine:=by have:=r.un;omega
def jC(K:W.Frag)(fd:FuncData)(ps:List Str)(ds:List Value):Prop:=
 ∀(s:Shared)(us:List Value),K.In s.heap→(us++ds).length=ps.length→BindsTo s fd ⟨us,[]⟩ (ps.zip (us++ds))
noncomputable def nu(s:Stmt)(j:Nat):Stmt:=match s with
 |.ClassDef _ _ _ body _ _ _ _ _ _ _=>body.getD j (.Pass ⟨0,0,0,0⟩)
 |_=>.Pass ⟨0,0,0,0⟩
noncomputable def tZ(s:Stmt):Arguments:=match s with
 |.FunctionDef _ a _ _ _ _ _ _ _ _=>a
 |_=> { posonlyargs:=[],args:=[],vararg:=none,kwonlyargs:=[],kw_defaults:=[],kwarg:=none,defaults:=[] }
noncomputable def iB(s:Stmt):List Stmt:=match s with
 |.FunctionDef _ _ b _ _ _ _ _ _ _=>b
 |_=> []
noncomputable def aV(s:Stmt):Scope:=match s with
 |.FunctionDef _ _ _ _ _ _ sc _ _ _=>sc
 |_=> { kind:=.function,names:=[],isGenerator:=false,isCoroutine:=false }
structure S8(K:W.Frag)(x qual:Str)(st:Stmt)(f:Addr)(fd:FuncData):Prop where
 ex:∃(oc:Value)(od:Option Addr)(kV doc pm:Value)(an:Option Addr)(SX ct:Value)(TX:Array (Option Value)),
  fd=W.fnOf x qual (tZ st) (iB st) (aV st) .none kV doc pm an SX ct∧K.lookup f=some ⟨oc,od,.func fd,TX⟩∧W.codeIn K SX qual=true
 kp:W.keepIn K (.ref f)=true
end L2
namespace L3
noncomputable def st0(n:Nat)(ps:List PV):Ev:=ps.map some++List.replicate (n - ps.length) none
end L3
namespace Z
open PySem PySem.Spec PyProof.Rows L3 L2
noncomputable def kb(c:Bool)(X:Cx)(N:List Str)(qual:Str)(scope:Scope)(f:Addr)(cd:Value)(A:Around)(s:Shared):Cx:=
 { X with A:=A.deeper (envOfC qual scope s.heap.objs.size f cd),N:=N,env:=envOfC qual scope s.heap.objs.size f cd,stack:=envOfC qual scope s.heap.objs.size f cd::X.stack,fn:=fun _=>true,calm:=c,tr:=true,Ep:=PassesOwn (model X.prog X.w) (A.deeper (envOfC qual scope s.heap.objs.size f cd)) (envOfC qual scope s.heap.objs.size f cd) }
def New(X Y:Cx)(w:Wo):Prop:=(∀b,Y.W b→w.s.heap.get? b=none)∧∀b∈Y.fs,b∈X.fs∨w.s.heap.get? b=none
section
variable{X:Cx}{w:Wo}{h:List PO}{N ps:List Str}{qual name:Str}{scope:Scope}{f:Addr}{cd:Value}{A:Around}{qs:List PV}{us:List Value}{k:Nat}{R:Result→Shared→Prop}
def FF(env:Env)(ps:List Str)(us:List Value)(s s1:Shared):Prop:=∃h t,s1= { s with heap:=h,toks:=t }∧(∀b o,s.heap.get? b=some o→h.get? b=some o)∧∃m,h.Ns env.locals m∧∀(i:Nat) y u,ps[i]? =some y→us[i]? =some u→vR env h m y u
theorem zR{s1:Shared}(S:lQ N ps scope){c:Bool}(hd:c=true→A.handled=none)(hf:A.frames=some X.stack)(I:Wd X w h)(ok:X.Ok)(hl:qs.length=ps.length)(r:aA X.toSC w.F w.m qs us)
  (x:InCallC w.s w.s.heap.objs.size (bindL (envOfC qual scope w.s.heap.objs.size f cd).kindOf (ps.zip us) fun _=>none) (cellsFrom (w.s.heap.objs.size+1) scope.names []) (bindC (envOfC qual scope w.s.heap.objs.size f cd).kindOf (ps.zip us) fun _=>none) s1):
  New X (kb c X N qual scope f cd A w.s) w∧K1 X.fs Ov w { w with s:=s1 }∧Inv (kb c X N qual scope f cd A w.s) { w with s:=s1 } (st0 N.length qs) h∧FF (envOfC qual scope w.s.heap.objs.size f cd) ps us w.s s1:=by
 have Lj:ps.length≤N.length:=by have:=congrArg List.length S.pre;rw[List.length_take]at this;omega
 obtain⟨h1,tk,rfl,hk⟩:=x.done;have n:=Nw.also (X:=X) (s':={ w.s with heap:=h1,toks:=tk }) I.toHR hk;have W:=I.on n.1 (fun _ _ z=>z.elim) n.2;have nn:∀{b},w.s.heap.objs.size≤b→w.s.heap.get? b=none:=fun{b} z=>by cases q:w.s.heap.get? b with|none=>rfl|some o=>exact absurd (Nat.lt_of_lt_of_le (Heap.lt_size q) z) (Nat.lt_irrefl _)
 have pv:∀{b o},w.s.heap.objs.size≤b→h1.get? b=some o→Has { w with s:={ w.s with heap:=h1,toks:=tk } } b o:=fun{b o} z e=>⟨e,I.toHR.free (nn z)⟩
 obtain⟨oL,es,ep,eL,dL,_⟩:=id x.toInCall.ns;have hL:=pv (Nat.le_refl _) eL;have XC:ps.Nodup:=by rw[← S.pre];exact S.nd.sublist (List.take_sublist _ _)
 have lk:∀(i:Nat) y u,ps[i]? =some y→us[i]? =some u→vR (envOfC qual scope w.s.heap.objs.size f cd) h1 (bindL (envOfC qual scope w.s.heap.objs.size f cd).kindOf (ps.zip us) fun _=>none) y u:=fun i y u hp hu=>by
  rcases S.par y (List.mem_of_getElem? hp)with k|k
  ·exact .inl ⟨k,rZ XC hp hu k⟩
  ·obtain⟨c,e⟩:=vI (n:=w.s.heap.objs.size+1) k;refine .inr ⟨.inl k,c,e,?_⟩;have q:=x.cell y c e;rw[sj XC hp hu (by show scope.names.lookup y≠_;rw[k];decide)]at q;exact q
 refine⟨⟨fun b z=>z.elim (fun z=>z▸aX _) (by rintro ⟨y,_,e⟩;exact nn (Nat.le_of_lt (x.above y b (PySem.mem_of_lookup e)))),fun b z=>(List.mem_cons.mp (show b∈w.s.heap.objs.size::X.fs from z)).elim (fun z=>.inr (by rw[z];exact aX _)) .inl⟩,n.1,⟨⟨W.toHR,W.ba,W.bs,fun b hb=>?_⟩,⟨ok.Np,ok.gl,ok.bl,ok.nl,S.kind,rfl,rfl,fun y z c h1 h2=>?_,fun y hy=>?_,hd,Around.frames_deeper hf,S.nd,fun e he=>?_⟩,⟨_,oL,x.toInCall.ns,hL,fun i p e=>?_⟩,fun y c e=>?_,?_⟩,_,_,rfl,hk,_,x.toInCall.ns,lk⟩
 ·rcases List.mem_cons.mp (show b∈w.s.heap.objs.size::X.fs from hb)with rfl|hb
  ·exact⟨oL,hL,fun vs z=>by rw[dL]at z;cases z⟩
  ·exact W.fr b hb
 ·exact name_of_addr x.apart (PySem.mem_of_lookup h1) (PySem.mem_of_lookup h2)
 ·have hy:scope.names.lookup y=some .cell∨scope.names.lookup y=some .free:=hy;rcases hy with hy|hy
  ·exact vI hy
  ·exact absurd rfl (S.Sg _ (PySem.mem_of_lookup hy))
 ·rcases List.mem_cons.mp he with rfl|he
  ·exact⟨by rw[show(envOfC qual scope w.s.heap.objs.size f cd).scope.kind=.function from S.kind];decide,_,rfl,by
    cases q:X.base.get? w.s.heap.objs.size with
    |none=>exact q
    |some o=>have:=I.bk q;rw[aX]at this;cases this⟩
  ·exact ok.sf e he
 ·have hi:i<qs.length:=by
   unfold st0 at e
   by_cases hi:i<qs.length
   ·exact hi
   ·rw[List.getElem?_append_right (by simpa using hi),List.getElem?_replicate]at e
    split at e<;>cases e
  have ha:qs[i]? =some p:=by
   unfold st0 at e;rw[List.getElem?_append_left (by simpa using hi),List.getElem?_map]at e
   cases e':qs[i]? with
   |none=>rw[e']at e;cases e
   |some a=>rw[e']at e;cases e;rfl
  obtain⟨u,hu,rv⟩:=r.get ha;obtain⟨y,hp⟩:∃y,ps[i]? =some y:=⟨ps[i],by simp[hl▸hi]⟩
  have hN:N[i]? =some y:=by rw[← S.pre,List.getElem?_take_of_lt (by omega)]at hp;exact hp
  exact⟨y,u,hN,rv,lk i y u hp hu⟩
 ·obtain⟨o,q,d⟩:=x.cell y c e;exact⟨_,o,⟨o,q,d⟩,pv (Nat.le_of_lt (x.above y c (PySem.mem_of_lookup e))) q⟩
 ·simp only[st0,List.length_append,List.length_map,List.length_replicate];show _=N.length;omega
abbrev RC(Q:Value→Shared→Prop)(E:Value→Shared→Prop)(r:Result)(s:Shared):Prop:=match r with
 |.ok (.ret u)=>Q u s
 |.ok _=>False
 |.error e=>E e s
theorem nZ{c:Bool}{st:Stmt}{fd:FuncData}{args:Args}{Q:Value→Shared→Prop}{E:Value→Shared→Prop}(F:S8 X.K name qual st f fd)(S:lQ N ps (aV st))(hr:eY (k+1) A)(hd:c=true→A.handled=none)(hf:A.frames=some X.stack)(I:Wd X w h)(ok:X.Ok)(hl:qs.length=ps.length)(r:aA X.toSC w.F w.m qs us)(hb:BindsTo w.s fd args (ps.zip us))
  (go:∀cd s1,eY k (A.deeper (envOfC qual (aV st) w.s.heap.objs.size f cd))→New X (kb c X N qual (aV st) f cd A w.s) w→K1 X.fs Ov w { w with s:=s1 }→Inv (kb c X N qual (aV st) f cd A w.s) { w with s:=s1 } (st0 N.length qs) h→FF (envOfC qual (aV st) w.s.heap.objs.size f cd) ps us w.s s1→
   Wp (kb c X N qual (aV st) f cd A w.s) (execs (iB st) (kb c X N qual (aV st) f cd A w.s).env) (fun fl s=>match fl with|.ret u=>Q u s|.next=>Q .none s|_=>False) (fun e s=>Wp (kb c X N qual (aV st) f cd A w.s) (leaving (kb c X N qual (aV st) f cd A w.s).env e) (fun _ s=>E e s) E s) s1):
  codeAny (model X.prog X.w) A (.call (.ref f) args) (RC Q E) w.s:=by
 obtain⟨oc,od,kV,doc,pm,an,SX,ct,TX,rfl,lk,Rc⟩:=F.ex;have KX:X.K.In w.s.heap:=ok.Np.keeps fun _ _ e=>I.bk e;have Zx:w.s.heap.NoLimit:=ok.nl.keeps fun _ _ e=>I.bk e;have Uc:∀y∈ps.zip us,(aV st).names.lookup y.1=some .local∨((aV st).names.lookup y.1=some .cell∧((cellsFrom (w.s.heap.objs.size+1) (aV st).names []).lookup y.1).isSome=true):=(by rintro ⟨n,v⟩ hy;exact (S.par n (List.of_mem_zip hy).1).imp_right fun q=>⟨q,W.cellsFrom_some _ _ _ (.inl q)⟩)
 refine codeAny_call_function hr.depth (KX _ _ lk) rfl S.co S.gen rfl (W.codeRec_of KX Rc) (hb _ _ _ _ ?_);refine wpAny_newFunctionEnv_cells S.kind Uc fun env he s1 x=>?_;subst he;refine⟨Zx.keeps x.toInCall.keep,codeAny_func ?_⟩;obtain⟨nw,y,J,gr⟩:=zR (N:=N) (cd:=SX) S hd hf I ok hl r x;refine wpAny_mono (go SX s1 (hr.deeper _) nw y J gr) (fun fl s' hs=>?_) fun e s' hs=>hs
 cases fl<;>first|exact hs|exact hs.elim
end
end Z
namespace L3
def Nx:List PV→List PO→Option (List PV×List PO)
 |[],h=>some ([],h)
 |p::r,h=>match gx h p with
  |some (q,h1)=>match Nx r h1 with
   |some (qs,h2)=>some (q::qs,h2)
   |none=>none
  |none=>none
inductive Out where
 |ok (v:PV)|bad
def ii(v:PV)(h:List PO):Out:=match gx h v with
 |some (q,_)=>.ok q
 |none=>.bad
def bx(f:Sx)(np n:Nat)(ps:List PV):Out:=if ps.length=np then match f (ps.map some++List.replicate (n - ps.length) none) []with
  |.nx _ _=>.ok .non
  |.rt v h=>ii v h
  |_=>.bad
 else .bad
def bO(fn:List PV→Out)(ps:List PV)(h:List PO):Res PV:=match Nx ps h with
 |some (qs,h2)=>match fn qs with
  |.ok v=>.ok v h2
  |.bad=>.bad
 |none=>.bad
def bF(fn:List PV→Out)(as:Ax):Ex:=fun ρ h=>(as ρ h).bind (bO fn)
end L3
namespace Z
open PySem PySem.Spec PyProof.Rows L3 L2
structure Q7(G:SC)(k:Nat)(f:Addr)(fd:FuncData)(ps:List Str)(fn:List PV→Out):Prop where
 len:∀qs v,fn qs=.ok v→qs.length=ps.length
 run:∀{X:Cx}{w:Wo}{h:List PO}{A:Around}{qs:List PV}{us:List Value}{v:PV}{args:Args}{Q:Value→Shared→Prop}{E:Value→Shared→Prop},X.toSC=G→eY k A→A.handled=none→A.frames=some X.stack→Wd X w h→X.Ok→aA G w.F [] qs us→fn qs=.ok v→BindsTo w.s fd args (ps.zip us)→
  (∀F' s' u,Nw X w ⟨F',w.O,w.m,s'⟩ h→br G F' [] v u→Q u s')→codeAny (model G.prog G.w) A (.call (.ref f) args) (RC Q E) w.s
section
variable{G:SC}{X:Cx}{w w1:Wo}{ρ:Ev}{h h1:List PO}{N ps:List Str}{qual name:Str}{st:Stmt}{f:Addr}{fd:FuncData}{k:Nat}{g:Sx}
theorem Wd.hide(I:Wd X w h):Wd X ⟨w.F,fun _=>none,[],w.s⟩ []:=⟨⟨I.sub,fun _ _ e=>(nomatch e),rfl,List.nodup_nil,fun _ _ _ e=>(nomatch e)⟩,I.ba,I.bs,fun b hb=>let⟨o,q,d⟩:=I.fr b hb;⟨o,⟨q.1,by simp,q.2.2.1,rfl⟩,d⟩⟩
theorem K1.out{Y:Cx}{w2:Wo}(nw:New X Y w)(y:Od Y w w2):K1 X.fs Ov w w2:=⟨y.os,y.ba,y.fz,y.ow,y.pre,y.dom,fun b o q _=>by
 obtain⟨sl,q',z⟩:=y.keep b o q fun z=>by have q:=q.1;rw[nw.1 b z]at q;cases q
 exact⟨sl,q',z.imp_left fun z=>(nw.2 b z).resolve_right fun z=>by have q:=q.1;rw[z]at q;cases q⟩⟩
theorem Nw.back{m0:List Addr}{h':List PO}(I:Wd X w h)(y:K1 X.fs Ov ⟨w.F,fun _=>none,m0,w.s⟩ w1)(H:HR X.toSC w1 h1)(hl:h'.length=h.length)(hm:∀a∈m0,a∈w.m)(ho:∀(i:Nat) po a,h'[i]? =some po→w.m[i]? =some a→a∈m0→qK X.toSC w1.F w.m w.O w1.s.heap a po)(hk:∀(i:Nat) po a,h'[i]? =some po→w.m[i]? =some a→a∉m0→h[i]? =some po):Nw X w ⟨w1.F,w.O,w.m,w1.s⟩ h':=by
 have k:∀b o,w.s.heap.get? b=some o→w.F b=none→b∉m0→∃sl,(w1.s.heap.get? b=some { o with slots:=sl }∧w1.F b=none)∧(b∈X.fs∨sl=o.slots):=fun b o e n z=>by obtain⟨sl,q,z⟩:=y.keep b o ⟨e,z,n,rfl⟩ fun z=>z;exact⟨sl,⟨q.1,q.2.2.1⟩,z⟩
 have k':∀b o,w.s.heap.get? b=some o→w.F b=none→b∉m0→b∉X.fs→w1.s.heap.get? b=some o∧w1.F b=none:=fun b o e n y z=>by
  obtain⟨sl,q,z'⟩:=k b o e n y;rcases z' with z'|rfl
  ·exact absurd z' z
  ·exact q
 have nf:∀{b},¬ O3 w b→b∉X.fs:=fun n z=>let⟨_,q,_⟩:=I.fr _ z;n q.2;have no:∀{b a},w.O b=some a→b∉m0:=fun e z=>let⟨_,y,_⟩:=I.own _ _ e;y (hm _ z);refine⟨⟨y.os,y.ba,y.fz,fun _ _ e=>e,⟨[],by simp⟩,y.dom,fun b o q _=>?_⟩,H.sub,fun d a e=>?_,hl.trans I.len,I.nd,fun i po a e1 e2=>?_⟩
 ·obtain⟨sl,q',z⟩:=k b o q.1 q.2.2.1 fun z=>q.2.1 (hm _ z);exact⟨sl,⟨q'.1,q.2.1,q'.2,q.2.2.2⟩,z⟩
 ·obtain⟨⟨o,q⟩,z,n⟩:=I.own d a e;exact⟨y.dom d o q,z,(k' d o q n (no e) (nf fun y=>by rw[y.2.2]at e;cases e)).2⟩
 ·by_cases z0:a∈m0
  ·exact ho i po a e1 e2 z0
  ·refine(I.obj i po a (hk i po a e1 e2 z0) e2).on y.fz (fun _ e=>e) (fun _ _ e=>e) (fun b o e z=>?_) fun n=>?_
   ·cases n:w.F b with
    |some x=>rw[I.sub b x n]at e;cases e;exact H.sub b _ (y.fz _ _ n)
    |none=>exact(k' b o e n (z.elim (fun z=>z▸z0) no) (nf fun y=>z.elim (fun z=>y.1 (z▸List.mem_of_getElem? e2)) fun z=>by rw[y.2.2]at z;cases z)).1
   ·obtain⟨o,q⟩:=I.toHR.there (List.mem_of_getElem? e2);exact(k' a o q n z0 (nf fun y=>y.1 (List.mem_of_getElem? e2))).2
theorem Nw.show{Y:Cx}(I:Wd X w h)(nw:New X Y w)(y:Od Y ⟨w.F,fun _=>none,[],w.s⟩ w1)(H:HR X.toSC w1 h1):Nw X w ⟨w1.F,w.O,w.m,w1.s⟩ h:=Nw.back I (K1.out (w:=⟨w.F,fun _=>none,[],w.s⟩) nw y) H rfl (by simp) (fun _ _ _ _ _ z=>absurd z (by simp)) fun _ _ _ e _ _=>e
theorem Ez(F:S8 G.K name qual st f fd)(S:lQ N ps (aV st))(hb:∀(X:Cx)(cd:Value)(A:Around)(s:Shared),X.toSC=G→eY k (A.deeper (envOfC qual (aV st) s.heap.objs.size f cd))→Qs (kb true X N qual (aV st) f cd A s) (iB st) g):Q7 G (k+1) f fd ps (bx g ps.length N.length) where
 len qs v e:=by
  unfold bx at e
  split at e
  ·assumption
  ·cases e
 run {X w h A qs us v args Q E} hG hr hd hf I ok r e hbd q:=by
  subst hG;unfold bx at e
  split at e
  ·rename_i hl;refine nZ (c:=true) (w:=⟨w.F,fun _=>none,[],w.s⟩) F S hr (fun _=>hd) hf I.hide ok hl r hbd fun cd s1 Wf nw y J _=>?_
   have ends:∀{w2:Wo}{h2 h3:List PO}{p:PV}{u:Value},Od (kb true X N qual (aV st) f cd A w.s) { F:=w.F,O:=fun _=>none,m:=[],s:=s1 } w2→HR X.toSC w2 h2→br X.toSC w2.F w2.m p u→gx h2 p=some (v,h3)→Q u w2.s:=fun{w2 h2 h3 p u} y2 H2 r2 e2=>by obtain⟨F',n,r3,pu⟩:=H2.Ui (X:=kb true X N qual (aV st) f cd A w.s) r2 e2;exact q F' w2.s u (Nw.show I nw (K1.trans (y.weak (fun _ z=>z.elim) fun b z=>List.mem_cons_of_mem _ z) (y2.trans n.s)) n.2) (r3.mono (fun _ _ e=>e) (.inl pu))
   refine wpAny_mono ((hb X cd A w.s rfl Wf).r (E:=fun _ _=>False) J ?_) (fun _ _ z=>z) fun _ _ z=>z.elim;unfold st0
   split at e<;>rename_i e'<;>first|rw[e']|skip
   ·cases e
    exact⟨.never,fun w2 y2 I2=>ends y2 I2.toHR .non (h3:=_) rfl⟩
   ·unfold ii at e
    split at e<;>cases e
    exact⟨.never,fun w2 u ρ2 y2 I2 r2=>ends y2 I2.toHR r2 ‹_›⟩
   ·cases e
  ·cases e
theorem HR.Nx:∀{ps qs:List PV}{us:List Value}{w:Wo}{h h':List PO},HR X.toSC w h→aA X.toSC w.F w.m ps us→Nx ps h=some (qs,h')→∃F',Nw X w ⟨F',w.O,w.m,w.s⟩ h'∧aA X.toSC F' [] qs us
 |[],_,_,w,_,_,H,.nil,k=>by cases k;exact⟨w.F,⟨.refl,H⟩,.nil⟩
 |p::ps,qs,_,w,h,h',H,.cons r t,k=>by
  unfold L3.Nx at k
  split at k
  ·rename_i e;obtain⟨F1,n1,r1,pu⟩:=H.Ui (X:=X) r e
   split at k<;>cases k
   rename_i e2;obtain⟨F2,n2,r2⟩:=HR.Nx n1.2 (n1.1.reps t) e2;exact⟨F2,n1.trans n2,.cons (r1.mono n2.1.fz (.inl pu)) r2⟩
  ·cases k
structure ZC(X:Cx)(x:Str)(fn:List PV→L3.Out):Prop where
 ex:∃k f fd ps,Q7 X.toSC k f fd ps fn∧eY k X.A∧X.mg x=some (.ref f)∧W.keepIn X.K (.ref f)=true∧jC X.K fd ps []
variable{x:Str}{e:Expr}{es:List Expr}{p0 pos:Pos}{fs:Ax}{fn:List PV→L3.Out}
theorem Q7.call{qs:List PV}{us:List Value}{Q:Value→Shared→Prop}{E:Value→Shared→Prop}(F:Q7 X.toSC k f fd ps fn)(hr:eY k X.A)(hc:X.calm=true)(hb:jC X.K fd ps [])(I:Inv X w ρ h)(r:aA X.toSC w.F w.m qs us)(p:bT X (RV X.toSC) w Q E (bO fn qs h)):Wp X (call (.ref f) us) Q E w.s:=by
 unfold bO at p
 split at p
 ·rename_i e1
  split at p
  ·rename_i qs' h2 v e2;obtain⟨F',n,r'⟩:=I.toHR.Nx r e1;have I':=I.on n;refine wpAny_call (F.run (w:=⟨F',w.O,w.m,w.s⟩) rfl hr (I.ok.hd hc) I.ok.frames I'.toWd I'.ok r' e2 (by simpa using hb w.s us I.N5 (by rw[List.append_nil,← r'.length];exact F.len _ _ e2)) fun F2 s2 u n2 r2=>?_);exact p.2 _ _ (n.trans n2) (r2.mono (fun _ _ e=>e) (.inr fun _ _ e=>nomatch e))
  ·exact p.elim
 ·exact p.elim
theorem Dl(c:ZC X x fn)(hg:Gl X x)(ha:RA X (e::es) fs)(hc:X.calm=true:=by rfl)(MJ:nD0 x:=by decide)(he:sE0 X e es:=by rfl)(Lj:sP0 X es pos:=by rfl):RE X (.Call (.Name x p0) (e::es) [] pos) (bF fn fs):=⟨fun I p=>by obtain⟨k,f,fd,ps,F,hr,hm,hk,hb⟩:=c.ex;exact wpAny_Call_Name_kw (I.RX hg hm (W.callWith_K (h₀:=X.base) I.ok.Np hk (ha.r pos I (p.bind fun _ _ _ _ y r p=>⟨(I.on y).N5,F.call hr hc hb (I.on y) r p⟩)) he Lj) MJ)⟩
end
end Z
namespace L2
open PySem PySem.Spec PyProof.Rows
noncomputable def eV(cells:List (Str×Addr)):List (Str×NameKind)→List (Str×Addr)→List (Str×Addr)
 |[],cs=>cs
 |(n,k)::r,cs=>eV cells r (if k==.free then(match cells.lookup n with|some a=>(n,a)::cs|none=>cs)else cs)
theorem rU(cells:List (Str×Addr)):∀(l:List (Str×NameKind))(cs:List (Str×Addr))(p:Str×Addr),p∈eV cells l cs→p∈cs∨(cells.lookup p.1=some p.2∧(p.1,NameKind.free)∈l)
 |[],cs,p,h=>.inl h
 |(n,k)::r,cs,p,h=>by
  unfold eV at h;rcases rU cells r _ p h with q|⟨q1,q2⟩
  ·by_cases hk:k=.free
   ·subst hk;simp only[beq_self_eq_true,if_true]at q
    cases e:cells.lookup n with
    |none=>rw[e]at q;exact .inl q
    |some a=>
     rw[e]at q;rcases List.mem_cons.mp q with rfl|q
     ·exact .inr ⟨e,List.mem_cons_self⟩
     ·exact .inl q
   ·have hb:(k==NameKind.free)=false:=by simpa using hk
    simp only[hb,Bool.false_eq_true,if_false]at q;exact .inl q
  ·exact .inr ⟨q1,List.mem_cons_of_mem _ q2⟩
theorem rT(cells:List (Str×Addr)):∀(l:List (Str×NameKind))(cs:List (Str×Addr))(p:Str×Addr),p∈cs→p∈eV cells l cs
 |[],_,_,h=>h
 |(n,k)::r,cs,p,h=>by
  unfold eV;refine rT cells r _ p ?_
  split
  ·split
   ·exact List.mem_cons_of_mem _ h
   ·exact h
  ·exact h
theorem rV(cells:List (Str×Addr)){x:Str}{c:Addr}(hc:cells.lookup x=some c):∀(l:List (Str×NameKind))(cs:List (Str×Addr)),(x,NameKind.free)∈l→(x,c)∈eV cells l cs
 |(n,k)::r,cs,h=>by
  unfold eV;rcases List.mem_cons.mp h with e|h
  ·cases e
   refine rT cells r _ _ ?_;simp only[beq_self_eq_true,if_true,hc];exact List.mem_cons_self
  ·exact rV cells hc r _ h
theorem lW{x:Str}{c:Addr}:∀{l:List (Str×Addr)},(x,c)∈l→∃c',l.lookup x=some c'
 |(y,d)::r,h=>by
  by_cases e:x=y
  ·subst e;exact⟨d,by simp[List.lookup_cons]⟩
  ·have hb:(x==y)=false:=by simpa using e
   rw[List.lookup_cons,hb];rcases List.mem_cons.mp h with q|q
   ·cases q;exact absurd rfl e
   ·exact lW q
theorem mC{cells:List (Str×Addr)}{l:List (Str×NameKind)}{x:Str}{c:Addr}(h:(eV cells l []).lookup x=some c):cells.lookup x=some c∧(x,NameKind.free)∈l:=by
 rcases rU cells l [] (x,c) (PySem.mem_of_lookup h)with q|q
 ·cases q
 ·exact q
theorem vH{cells:List (Str×Addr)}{l:List (Str×NameKind)}{x:Str}{c:Addr}(hc:cells.lookup x=some c)(h:(x,NameKind.free)∈l):(eV cells l []).lookup x=some c:=by obtain⟨c',e⟩:=lW (rV cells hc l [] h);rw[e,← hc,(mC e).1]
theorem jo{scope:Scope}{env:Env}(h:∀n,(n,NameKind.free)∈scope.names→∃c,env.cells.lookup n=some c):closureFor scope env=pure (eV env.cells scope.names []):=by
 unfold closureFor
 have go:∀(l:List (Str×NameKind))(cs:List (Str×Addr)),(∀n,(n,NameKind.free)∈l→∃c,env.cells.lookup n=some c)→
   (forIn l cs fun x r=>if(x.2==NameKind.free)=true then do let a ← cellOf env x.1;pure (ForInStep.yield ((x.1,a)::r))else pure (ForInStep.yield r):Sem (List (Str×Addr)))=pure (eV env.cells l cs):=by
  intro l
  induction l with
  |nil=>intro cs _;rfl
  |cons x r ih=>
   intro cs hl;obtain⟨n,k⟩:=x;rw[List.forIn_cons];have hr:∀n,(n,NameKind.free)∈r→∃c,env.cells.lookup n=some c:=fun y hy=>hl y (List.mem_cons_of_mem _ hy)
   by_cases hk:k=.free
   ·subst hk;obtain⟨c,hc⟩:=hl n List.mem_cons_self;have e:cellOf env n=pure c:=by unfold cellOf;rw[hc]
    simp only[beq_self_eq_true,if_true,e,pure_bind,eV,hc];exact ih _ hr
   ·have hb:(k==NameKind.free)=false:=by simpa using hk
    simp only[hb,Bool.false_eq_true,if_false,pure_bind,eV];exact ih _ hr
 have q:=go scope.names [] h;simp only[bind_pure];exact q
theorem jL{env:Env}{x:Str}:∀{names:List (Str×NameKind)},(∀y∈names,y.2≠.cell)→∀{k:NameKind},
  (names.map fun(n,k)=>if(k==NameKind.free&&env.scope.kind==.function&&env.kindOf n==some .cell)then(n,NameKind.cell)else(n,k)).lookup x=some k→k=.cell∨k=.free→(x,NameKind.free)∈names
 |[],_,_,h,_=>by simp at h
 |(n,k0)::r,hn,k,h,hk=>by
  have ih:= @jL env x r (fun y hy=>hn y (List.mem_cons_of_mem _ hy)) k;rw[List.map_cons]at h
  by_cases hc:(k0==NameKind.free&&env.scope.kind==.function&&env.kindOf n==some .cell)=true
  ·have h2:List.lookup x ((n,NameKind.cell)::r.map fun(n,k)=>if(k==NameKind.free&&env.scope.kind==.function&&env.kindOf n==some .cell)then(n,NameKind.cell)else(n,k))=some k:=by have q:=h;simp only[hc,if_true]at q;exact q
   have hf:k0=.free:=by
    have z:(k0==NameKind.free)=true:=by
     cases e:(k0==NameKind.free)with
     |true=>rfl
     |false=>rw[e]at hc;simp at hc
    simpa using z
   by_cases e:x=n
   ·subst e;subst hf;exact List.mem_cons_self
   ·have hb:(x==n)=false:=by simpa using e
    rw[List.lookup_cons,hb]at h2;exact List.mem_cons_of_mem _ (ih h2 hk)
  ·have h2:List.lookup x ((n,k0)::r.map fun(n,k)=>if(k==NameKind.free&&env.scope.kind==.function&&env.kindOf n==some .cell)then(n,NameKind.cell)else(n,k))=some k:=by have q:=h;simp only[hc,if_false]at q;exact q
   by_cases e:x=n
   ·subst e;rw[List.lookup_cons,beq_self_eq_true]at h2;have e2:k0=k:=Option.some.inj h2;subst e2;rcases hk with z|z
    ·exact absurd z (hn (x,k0) List.mem_cons_self)
    ·subst z;exact List.mem_cons_self
   ·have hb:(x==n)=false:=by simpa using e
    rw[List.lookup_cons,hb]at h2;exact List.mem_cons_of_mem _ (ih h2 hk)
theorem mP{env:Env}{x:Str}:∀{names:List (Str×NameKind)},names.lookup x=some .free→
  (names.map fun(n,k)=>if(k==NameKind.free&&env.scope.kind==.function&&env.kindOf n==some .cell)then(n,NameKind.cell)else(n,k)).lookup x=some .cell∨
  (names.map fun(n,k)=>if(k==NameKind.free&&env.scope.kind==.function&&env.kindOf n==some .cell)then(n,NameKind.cell)else(n,k)).lookup x=some .free
 |[],h=>by simp at h
 |(n,k)::r,h=>by
  have ih:= @mP env x r;show List.lookup x ((if(k==NameKind.free&&env.scope.kind==.function&&env.kindOf n==some .cell)=true then(n,NameKind.cell)else(n,k))::_)=_∨List.lookup x ((if(k==NameKind.free&&env.scope.kind==.function&&env.kindOf n==some .cell)=true then(n,NameKind.cell)else(n,k))::_)=_
  by_cases hc:(k==NameKind.free&&env.scope.kind==.function&&env.kindOf n==some .cell)=true
  ·rw[if_pos hc]
   cases hx:x==n with
   |true=>left;simp[List.lookup_cons,hx]
   |false=>simp only[List.lookup_cons,hx]at h ⊢;exact ih h
  ·rw[if_neg hc]
   cases hx:x==n with
   |true=>
    simp only[List.lookup_cons,hx]at h
    right;simp[List.lookup_cons,hx,h]
   |false=>simp only[List.lookup_cons,hx]at h ⊢;exact ih h
theorem uf{prog:Program}{w:World}{A:Around}{R:Result→Shared→Prop}{s:Shared}{elt target iter:Expr}{ifs:List Expr}{scope:Scope}{pos:Pos}{it acc:Value}{env:Env}(I:Nat→Shared→Prop)
  (turn:∀n s,I n s→wpAny (model prog w) A (pyNext it) (fun r s₁=>match r with
   |none=>R (.ok .next) s₁
   |some v=>wpAny (model prog w) A (letOwnedTupleGo target it v) (fun _ s₂=>wpAny (model prog w) A (assign target env v) (fun _ s₃=>
     wpAny (model prog w) A (forIn ifs true fun c r=>if r=true then do let ok ← isTrue c env (eval c env);pure (ForInStep.yield ok)else pure (ForInStep.yield r)) (fun ok s₄=>
      if ok=true then wpAny (model prog w) A (eval elt env) (fun x s₅=>wpAny (model prog w) A (call (.builtin "list.append") [acc,x]) (fun _ s₆=>∃m,m<n∧I m s₆) (fun _ _=>False) s₅) (fun _ _=>False) s₄
      else∃m,m<n∧I m s₄) (fun _ _=>False) s₃) (fun _ _=>False) s₂) (fun _ _=>False) s₁) (fun _ _=>False) s)
  (n:Nat) (h:I n s):
  codeAny (model prog w) A (.compLoop (.ListComp elt [⟨target,iter,ifs,0⟩] scope pos) 0 it acc env) R s:=by
 refine codeAny_loop rfl I (fun n s hI=>?_) n h;show wpAny _ A ((compTurn (.ListComp elt [⟨target,iter,ifs,0⟩] scope pos) 0 it acc env).onRaise (fun x=>do noteFrame x env;theTreesLotGoes x)) _ _ s;refine wpAny_noted ?_;rw[compTurn_list];refine wpAny_bind (wpAny_standAt (wpAny_bind (wpAny_mono (turn n s hI) (fun r s₁ h₁=>?_) fun _ _ h'=>h'.elim)))
 cases r with
 |none=>exact wpAny_pure h₁
 |some v=>
  refine wpAny_bind (wpAny_mono h₁ (fun _ s₂ h₂=>wpAny_bind (wpAny_mono h₂ (fun _ s₃ h₃=>wpAny_bind (wpAny_mono h₃ (fun ok s₄ h₄=>?_) fun _ _ h'=>h'.elim)) fun _ _ h'=>h'.elim)) fun _ _ h'=>h'.elim)
  cases ok with
  |false=>exact wpAny_pure ⟨rfl,h₄⟩
  |true=>exact wpAny_bind (wpAny_bind (wpAny_mono h₄ (fun x s₅ h₅=>wpAny_bind (wpAny_mono h₅ (fun _ s₆ h₆=>wpAny_pure (wpAny_pure ⟨rfl,h₆⟩)) fun _ _ h'=>h'.elim)) fun _ _ h'=>h'.elim))
end L2
namespace L3
open PySem
noncomputable def Res.calm{α:Type}(r:Res α):Res α:=match r with
 |.exc _ _=>.bad
 |r=>r
noncomputable def dg(m9:List Nat)(ρ:Ev):Ev:=m9.map fun i=>(ρ[i]?).getD none
def eM(g:Gx)(tt:Tx)(te:Ex)(ρ0:Ev):List PV→List PO→Res (List PV)
 |[],h=>.ok [] h
 |p::r,h=>match g p ρ0 with
  |some ρ1=>(tt ρ1 h).bind fun b h1=>if b=true then(te ρ1 h1).bind fun v h2=>(eM g tt te ρ0 r h2).bind fun vs h3=>.ok (v::vs) h3 else eM g tt te ρ0 r h1
  |none=>.bad
def gL(n:Nat)(g:Gx)(m9:List Nat)(it:Ax)(tt:Tx)(te:Ex):Ax:=fun ρ h=>(it ρ h).bind fun xs h1=>if xs.length<sizeLine then(eM g tt te (List.replicate n none++dg m9 ρ) xs h1).calm else .bad
noncomputable def dD:Tx:=fun _ h=>.ok true h
noncomputable def N6(ps:List PV)(h:List PO):Res PV:=.ok (.lst ps) h
noncomputable def qX(ps:List PV)(h:List PO):Res PV:=.ok (.ref h.length) (h++ [.lst ps])
end L3
namespace Z
open PySem PySem.Spec PyProof.Rows L3 L2
structure cS(N:List Str)(RJ scope:Scope)(m9:List Nat)(vs M:List Str):Prop where
 kind:scope.kind=.function
 Qc:∀y∈scope.names,y.2≠.cell
 names:∀y∈scope.names,y.2=.local→scope.names.lookup y.1=some .local
 free:∀y∈scope.names,y.2=.free→RJ.names.lookup y.1=some .cell∨RJ.names.lookup y.1=some .free
 inN:M=vs++m9.map fun i=>N.getD i ""
 cap:∀i∈m9,i<N.length∧scope.names.lookup (N.getD i "")=some .free
 nd:M.Nodup
noncomputable def yE(N:List Str)(RJ scope:Scope)(m9:List Nat)(vs M:List Str):Bool:=
 decide (scope.kind=.function)&&decide (∀y∈scope.names,y.2≠.cell)&&decide (∀y∈scope.names,y.2=.local→scope.names.lookup y.1=some .local)
  &&decide (∀y∈scope.names,y.2=.free→RJ.names.lookup y.1=some .cell∨RJ.names.lookup y.1=some .free)&&decide (M=vs++m9.map fun i=>N.getD i "")
  &&decide (∀i∈m9,i<N.length∧scope.names.lookup (N.getD i "")=some .free)&&decide M.Nodup
theorem cS.of{N:List Str}{RJ scope:Scope}{m9:List Nat}{vs M:List Str}(h:yE N RJ scope m9 vs M=true):cS N RJ scope m9 vs M:=by unfold yE at h;simp only[Bool.and_eq_true,decide_eq_true_eq]at h;obtain⟨⟨⟨⟨⟨⟨a,b⟩,c⟩,d⟩,e⟩,f⟩,g⟩:=h;exact⟨a,b,c,d,e,f,g⟩
noncomputable def cF(X:Cx)(M:List Str)(scope:Scope)(cl:List (Str×Addr))(C:Addr):Cx:={ X with N:=M,env:=compEnvC scope cl C X.env,fn:=fun _=>false,Ep:=fun _=>True }
structure Ry(X:Cx)(ifs:List Expr)(f:Tx):Prop where
 r:∀{w:Wo}{ρ:Ev}{h:List PO}{Q:Bool→Shared→Prop}{E:Value→Shared→Prop},Inv X w ρ h→bT X (fun _ a b=>a=b) w Q E (f ρ h)→Wp X (forIn ifs true fun c r=>if r=true then do let ok ← isTrue c X.env (eval c X.env);pure (ForInStep.yield ok)else pure (ForInStep.yield r)) Q E w.s
section
variable{X:Cx}{w w1 w2:Wo}{ρ:Ev}{h:List PO}{c:Expr}{f:Tx}
theorem iM:Ry X [] dD:=⟨fun I p=>wpAny_tests_nil (p.here I.toHR rfl)⟩
theorem sR(ha:RT X c f):Ry X [c] f:=⟨fun I p=>wpAny_tests_one (ha.r I p)⟩
theorem K1.new{fs:List Addr}{W W':Addr→Prop}(x:K1 fs W w w1)(y:K1 fs W' w1 w2)(n:∀b,W' b→w.s.heap.get? b=none):K1 fs W w w2:=
 ⟨y.os.trans x.os,y.ba∘x.ba,fun a o e=>y.fz a o (x.fz a o e),fun a o e=>y.ow a o (x.ow a o e),let⟨t,e⟩:=x.pre;let⟨u,e'⟩:=y.pre;⟨t++u,by rw[e',e,List.append_assoc]⟩,fun b o e=>let⟨o',q⟩:=x.dom b o e;y.dom b o' q,fun b o q z=>by
  obtain⟨sl,q1,z1⟩:=x.keep b o q z;obtain⟨Td,q2,z2⟩:=y.keep b _ q1 fun z=>by have q:=q.1;rw[n b z]at q;cases q
  exact⟨Td,q2,z1.elim .inl fun z=>z2.imp_right fun z'=>z'.trans z⟩⟩
theorem xm{M:List Str}{scope:Scope}{m9:List Nat}{vs:List Str}{C:Addr}{m:Str→Option Value}{s1:Shared}(S:cS X.N X.env.scope scope m9 vs M)(I:Inv X w ρ h)(hC:w.s.heap.get? C=none)(k:∀b o,w.s.heap.get? b=some o→s1.heap.get? b=some o)(hn:s1.heap.Ns C m)(ho:s1.os=w.s.os)(hg:s1.gens=w.s.gens):
  Inv (cF X M scope (eV X.env.cells scope.names []) C) { w with s:=s1 } (List.replicate vs.length none++dg m9 ρ) h:=by
 have n:=Nw.also (X:=X) (s':=s1) I.toHR k ho hg;have J:=I.on n;have c0:∀y c,(eV X.env.cells scope.names []).lookup y=some c→X.env.cells.lookup y=some c:=fun y c h=>(mC h).1;obtain⟨m0,_,_,_,l⟩:=J.loc;obtain⟨oC,es,ep,eC,_⟩:=id hn;refine⟨⟨J.toHR,J.ba,J.bs,J.fr⟩,⟨I.ok.Np,I.ok.gl,I.ok.bl,I.ok.nl,S.kind,I.ok.glob,I.ok.blt,fun y z c h1 h2=>I.ok.inj y z c (c0 _ _ h1) (c0 _ _ h2),fun y hy=>?_,I.ok.hd,I.ok.frames,S.nd,I.ok.sf⟩,⟨m,oC,hn,⟨eC,I.toHR.free hC⟩,fun i p e=>?_⟩,fun y c e=>J.PJ y c (c0 y c e),?_⟩
 ·have hm:(y,NameKind.free)∈scope.names:=by
   rcases hy with h|h
   ·exact jL S.Qc h (.inl rfl)
   ·exact jL S.Qc h (.inr rfl)
  obtain⟨c,hc⟩:=I.ok.has y (S.free _ hm rfl);exact⟨c,vH hc hm⟩
 ·have hi:vs.length≤i:=by
   rcases Nat.lt_or_ge i vs.length with z|z
   ·rw[List.getElem?_append_left (by simpa using z)]at e;simp[List.getElem?_replicate]at e
   ·exact z
  rw[List.getElem?_append_right (by simpa using hi),List.length_replicate]at e;simp only[dg,List.getElem?_map]at e
  cases e1:m9[i - vs.length]? with
  |none=>rw[e1]at e;cases e
  |some k=>
   rw[e1]at e;obtain⟨c1,c2⟩:=S.cap k (List.mem_of_getElem? e1)
   have e2:ρ[k]? =some (some p):=by
    simp only[Option.map_some,Option.some.injEq]at e
    cases q:ρ[k]? with
    |none=>rw[q]at e;cases e
    |some v=>rw[q]at e;simp at e;rw[e]
   obtain⟨y,u,e3,r,l⟩:=l k p e2;have e4:X.N.getD k ""=y:=by rw[List.getD_eq_getElem?_getD,e3];rfl
   rw[e4]at c2;refine⟨y,u,?_,r,?_⟩
   ·show M[i]? =some y;rw[S.inN,List.getElem?_append_right hi,List.getElem?_map,e1,← e4];rfl
   ·have hm:(y,NameKind.free)∈scope.names:=PySem.mem_of_lookup c2;rcases l with⟨k1,_⟩|⟨k1,c,e5,q⟩
    ·rcases S.free _ hm rfl with z|z<;>(rw[show X.env.scope.names.lookup y=some .local from k1]at z;cases z)
    ·exact .inr ⟨mP c2,c,vH e5 hm,q⟩
 ·show _=M.length;rw[S.inN];simp[dg]
theorem Inv.weak{ρ':Ev}(I:Inv X w ρ h)(l:ρ'.length=ρ.length)(k:∀(i:Nat) p,ρ'[i]? =some (some p)→ρ[i]? =some (some p)):Inv X w ρ' h:=let⟨m,o,a,b,c⟩:=I.loc;⟨I.toWd,I.ok,⟨m,o,a,b,fun i p e=>c i p (k i p e)⟩,I.PJ,l.trans I.ln⟩
def R3(K:List PV→List PO→Prop):Res (List PV)→Prop
 |.ok vs h=>K vs h
 |_=>False
theorem rW{α:Type}{K:List PV→List PO→Prop}{r:Res α}{k:α→List PO→Res (List PV)}(p:R3 K (r.bind k).calm):∃a h,r=.ok a h∧R3 K (k a h).calm:=match r with
 |.ok a h=>⟨a,h,rfl,p⟩
 |.exc _ _=>p.elim
 |.bad=>p.elim
theorem nY{elt iter tg:Expr}{ifs:List Expr}{scope:Scope}{tt:Tx}{te:Ex}{M vs:List Str}{g:Gx}{pos:Pos}{use:Option (Value→Sem Unit)}{w0 w:Wo}{h1:List PO}{ρ:Ev}{xs:List PV}{v:Value}{Q:Value→Shared→Prop}{E:Value→Shared→Prop}{K:List PV→List PO→Prop}(m9:List Nat)(hc:X.calm=true)(S:cS X.N X.env.scope scope m9 vs M)(hg:∀cl C,RG (cF X M scope cl C) tg g)(ht:∀cl C,Ry (cF X M scope cl C) ifs tt)(he:∀cl C,RE (cF X M scope cl C) elt te)
  (gm:∀q cp ρ1,g q (List.replicate vs.length none++cp)=some ρ1→∃l,l.length=vs.length∧ρ1=l++cp) (I0:Inv X w0 ρ h) (y0:Nw X w0 w h1) (rr:PX X tg w0 w xs v) (hz:xs.length<sizeLine) (p:R3 K (eM g tt te (List.replicate vs.length none++dg m9 ρ) xs h1).calm)
  (hr:∀{w2:Wo}{h2:List PO}{ps:List PV}{its:Array Value}{D C:Addr}{oC:Obj}{m:Str→Option Value},K1 X.fs Ov w0 w2→HR X.toSC w2 h2→w0.s.heap.get? D=none→w0.s.heap.get? C=none→D≠C→Has w2 C oC→w2.s.heap.Ns C m→w2.s.heap.PlainList D its→O3 w2 D→aA X.toSC w2.F w2.m ps its.toList→its.size≤sizeLine→K ps h2→compPost (model X.prog X.w) X.A E use Q (.ref D) C (.ok .next) w2.s):
  Wp X (newList []) (fun acc s=>Wp X (newFunctionEnv scope X.env.globals (eV X.env.cells scope.names []) [] X.env.qual none .none (some X.env)) (fun Uo s=>codeAny (model X.prog X.w) X.A (.compStart (.ListComp elt [⟨tg,iter,ifs,0⟩] scope pos) 0 v acc { Uo with scope:=relabel scope X.env }) (compPost (model X.prog X.w) X.A E use Q acc Uo.locals) s) E s) E w.s:=by
  obtain⟨it,fp,tn,rfl,T,t0,fr⟩:=rr;have I:=I0.on y0
  ·refine wpAny_newObj_type (wpAny_newFunctionEnv S.Qc (by intro y hy;simp at hy) (fun h₁ Rr Vf=>?_) S.kind);dsimp only at Rr Vf ⊢;generalize hP:w.s.heap.push { cls:=.type "list",dict:=none,data:=.seq ([]:List Value).toArray }=P at Rr Vf ⊢;have zP:P.objs.size=w.s.heap.objs.size+1:=by rw[← hP,Heap.size_push]
   have ne:∀{b},b<w.s.heap.objs.size+1→b≠P.objs.size:=fun z e=>by rw[e,zP]at z;exact absurd z (Nat.lt_irrefl _)
   have old:∀b o,w.s.heap.get? b=some o→h₁.get? b=some o:=fun b o e=>Vf.extBut b o (ne (Nat.lt_succ_of_lt (Heap.lt_size e))) (Heap.get?_push_of_some _ (hP▸Heap.get?_push_of_some _ e));have DC:w.s.heap.objs.size≠P.objs.size:=ne (Nat.lt_succ_self _);have eD:h₁.PlainList w.s.heap.objs.size #[]:=⟨_,Vf.extBut _ _ DC (Heap.get?_push_of_some _ (hP▸Heap.get?_push_size _ rfl))⟩
   have nC:w.s.heap.get? P.objs.size=none:=by
    cases q:w.s.heap.get? P.objs.size with
    |none=>rfl
    |some o=>exact absurd rfl (ne (Nat.lt_succ_of_lt (Heap.lt_size q)))
   have n0:∀{b},w.s.heap.get? b=none→w0.s.heap.get? b=none:=fun{b} z=>by
    cases q:w0.s.heap.get? b with
    |none=>rfl
    |some o=>obtain⟨o',q'⟩:=y0.1.dom b o q;rw[z]at q';cases q'
   have nD:=aX w.s.heap;have nf:∀b∈fp,w0.s.heap.get? b=none:=fun b hb=>(fr b hb).2.2;have J:=xm S I nC old Rr (s1:={ w.s with heap:=h₁,toks:=w.s.toks+([]:List (Str×Value)).length }) rfl rfl;have n1:=Nw.also (X:=X) (s':={ w.s with heap:=h₁,toks:=w.s.toks+([]:List (Str×Value)).length }) I.toHR old;generalize hY:cF X M scope (eV X.env.cells scope.names []) P.objs.size=Y at J;have Ym:Y.fs=X.fs:=by rw[← hY];rfl
   have Yy:∀b,Q8 X b→b≠P.objs.size→Q8 Y b:=fun b a z=>by subst hY;exact⟨z,a.2.1,fun x c e=>a.2.2 x c (mC e).1⟩
   have aD:Q8 Y w.s.heap.objs.size:=Yy _ (I.out nD) DC;have aF:∀b∈fp,Q8 Y b:=fun b hb=>Yy b (fr b hb).2.1 (let⟨o,q⟩:=(fr b hb).1;ne (Nat.lt_succ_of_lt (Heap.lt_size q.1)));have dF:w.s.heap.objs.size∉fp:=fun z=>let⟨o,q⟩:=(fr _ z).1;absurd (Heap.lt_size q.1) (Nat.lt_irrefl _)
   have loop:codeAny (model X.prog X.w) X.A (.compLoop (.ListComp elt [⟨tg,iter,ifs,0⟩] scope pos) 0 (.ref it) (.ref w.s.heap.objs.size) (compEnvC scope (eV X.env.cells scope.names []) P.objs.size X.env)) (compPost (model X.prog X.w) X.A E use Q (.ref w.s.heap.objs.size) P.objs.size) { w.s with heap:=h₁,toks:=w.s.toks+([]:List (Str×Value)).length }:=by
    refine uf (fun n s=>∃w1 h2 acc its ys,w1.s=s∧K1 X.fs Ov w0 w1∧O2 w w1∧Inv Y w1 (List.replicate vs.length none++dg m9 ρ) h2∧ys.length=n∧n≤xs.length∧ys=xs.drop (xs.length - n)∧tn (xs.length - n) w1.s.heap∧(∀b∈fp,∃o,Has w1 b o)∧w1.s.heap.PlainList w.s.heap.objs.size its∧O3 w1 w.s.heap.objs.size∧aA X.toSC w1.F w1.m acc its.toList∧its.size+n<sizeLine∧R3 (fun vs h3=>K (acc++vs) h3) (eM g tt te (List.replicate vs.length none++dg m9 ρ) ys h2).calm) ?_ xs.length ⟨_,h1,[], #[],xs,rfl,y0.1.trans n1.1,n1.1.lat,J,rfl,Nat.le_refl _,by simp,?_,fun b hb=>?_,eD,I.toHR.free nD,.nil,by simpa using hz,p⟩
    ·rintro n s ⟨w1,h2,acc,its,ys,rfl,y1,l1,I1,ln,le,dr,t1,f1,d1,Yp,ra,z1,p1⟩
     subst hY
     cases ys with
     |nil=>
      cases ln
      refine wpAny_mono (T.done (I.ok.hd hc) l1 I1.toHR t1 (by simp) f1 (Q:=fun s=>compPost (model X.prog X.w) X.A E use Q (.ref w.s.heap.objs.size) P.objs.size (.ok .next) s) fun w2 y2 H2=>?_) (fun r s q=>by obtain⟨rfl,q⟩:=q;exact q) fun _ _ z=>z;obtain⟨m,o,n,hl,_⟩:=(I1.priv y2 H2 aF).loc;obtain⟨nn,e1⟩:=d1;have q:=y2.keep _ _ dF ⟨e1,Yp⟩;exact hr (y1.priv y2 nf) H2 (n0 nD) (n0 nC) DC hl n ⟨nn,q.1⟩ q.2 (ra.mono y2.fz (.inr y2.sub)) (by omega) (by simpa[eM,Res.calm,R3]using p1)
     |cons q ys=>
      have Zw:ys.length+1=n:=ln;have eq:xs[xs.length - n]? =some q:=by rw[← List.head?_drop,← dr];rfl
      have dy:ys=xs.drop (xs.length - ys.length):=by rw[show xs.length - ys.length=xs.length - n+1 by omega,← List.drop_drop,← dr];rfl
      unfold eM at p1
      split at p1
      ·rename_i ρ2 e2;obtain⟨b,h3,e3,p3⟩:=rW p1;refine wpAny_mono (T.item (I.ok.hd hc) l1 I1.toHR t1 eq f1 (Q:=fun u s=>wpAny (model X.prog X.w) X.A (assign tg (compEnvC scope (eV X.env.cells scope.names []) P.objs.size X.env) u) ?R ?N s) ?c) (fun r s q=>by obtain⟨u,rfl,q⟩:=q;exact q) fun _ _ z=>z;intro u w2 y2 H2 t2 f2 r2;refine(hg _ _).r (I1.priv y2 H2 aF) r2 e2 fun w3 y3 I3=>(ht _ _).r I3 ?_;rw[e3];refine⟨trivial,fun w4 b' y4 eb=>?_⟩;subst eb;obtain⟨l,ll,rfl⟩:=gm _ _ _ e2;have Xb:K1 X.fs Ov w0 w4:=K1.trans (K1.new (y1.priv y2 nf) y3 fun b z=>n0 (z.elim (fun z=>z▸nC) (by rintro ⟨_,z,_⟩;exact nomatch z))) y4.1;have l4:O2 w w4:=(l1.trans ⟨y2.fz,y2.sub⟩).trans (y3.lat.trans y4.1.lat)
       have k4:∀b,Q8 (cF X M scope (eV X.env.cells scope.names []) P.objs.size) b→∀o,Has w2 b o→Has w4 b o:=fun b a o q=>by
        obtain⟨sl,q',z⟩:=(y3.trans y4.s).keep b o q a.w;rcases z with z|rfl
        ·exact absurd z a.2.1
        ·exact q'
       have D2:∀nn,w1.s.heap.get? w.s.heap.objs.size=some { cls:=.type "list",data:=.seq its nn }→Has w4 w.s.heap.objs.size { cls:=.type "list",data:=.seq its nn }:=fun nn e=>k4 _ aD _ (y2.keep _ _ dF ⟨e,Yp⟩);obtain⟨nn,e1⟩:=d1;have D4:=D2 nn e1
       have go:∀w5 h5 Ob LK,K1 X.fs Ov w0 w5→O2 w w5→Inv (cF X M scope (eV X.env.cells scope.names []) P.objs.size) w5 (l++dg m9 ρ) h5→(∀b∈fp,∀o,Has w2 b o→Has w5 b o)→O2 w2 w5→w5.s.heap.PlainList w.s.heap.objs.size LK→O3 w5 w.s.heap.objs.size→aA X.toSC w5.F w5.m Ob LK.toList→LK.size≤its.size+1→R3 (fun vs h3=>K (Ob++vs) h3) (eM g tt te (List.replicate vs.length none++dg m9 ρ) ys h5).calm→
         ∃m,m<n∧∃w1 h2 acc its ys,w1.s=w5.s∧K1 X.fs Ov w0 w1∧O2 w w1∧Inv (cF X M scope (eV X.env.cells scope.names []) P.objs.size) w1 (List.replicate vs.length none++dg m9 ρ) h2∧ys.length=m∧m≤xs.length∧ys=xs.drop (xs.length - m)∧tn (xs.length - m) w1.s.heap∧(∀b∈fp,∃o,Has w1 b o)∧w1.s.heap.PlainList w.s.heap.objs.size its∧O3 w1 w.s.heap.objs.size∧aA X.toSC w1.F w1.m acc its.toList∧its.size+m<sizeLine∧R3 (fun vs h3=>K (acc++vs) h3) (eM g tt te (List.replicate vs.length none++dg m9 ρ) ys h2).calm:=by
        intro w5 h5 Ob LK a b c d Zy e f Y_ i p;refine⟨ys.length,by omega,w5,h5,Ob,LK,ys,rfl,a,b,c.weak (by simp[ll]) fun i p e=>?_,rfl,by omega,dy,?_,fun x hx=>let⟨o,q⟩:=f2 x hx;⟨o,d x hx o q⟩,e,f,Y_,by omega,p⟩
        ·rcases Nat.lt_or_ge i vs.length with z|z
         ·rw[List.getElem?_append_left (by simpa using z)]at e;simp[List.getElem?_replicate]at e
         ·rw[List.getElem?_append_right (by simpa using z),List.length_replicate]at e;rw[List.getElem?_append_right (by omega),ll];exact e
        ·rw[show xs.length - ys.length=xs.length - n+1 by omega];exact T.keep (l1.trans ⟨y2.fz,y2.sub⟩) H2 Zy c.toHR t2 fun b hb o e=>let⟨o',q⟩:=f2 b hb;(d b hb o ⟨e,q.2⟩).1
       have Va:O2 w2 w4:=y3.lat.trans y4.1.lat;have Xv:=ra.mono (y2.fz) (.inr y2.sub) |>.mono Va.1 (.inr Va.2)
       cases b with
       |false=>rw[if_neg (by decide)]at p3 ⊢;exact go w4 h3 acc its Xb l4 (I3.on y4) (fun b hb=>k4 b (aF b hb)) Va ⟨nn,D4.1⟩ D4.2 Xv (by omega) p3
       |true=>
        rw[if_pos rfl]at p3 ⊢;obtain⟨v,h5,e5,p5⟩:=rW p3;refine(he _ _).r (I3.on y4) ?_;rw[e5];refine⟨trivial,fun w5 u5 y5 r5=>?_⟩
        have q5:∀b,Q8 (cF X M scope (eV X.env.cells scope.names []) P.objs.size) b→∀o,Has w4 b o→Has w5 b o:=fun b a o q=>by
         obtain⟨sl,q',z⟩:=y5.1.keep b o q fun z=>z;rcases z with z|rfl
         ·exact absurd z a.2.1
         ·exact q'
        have D5:=q5 _ aD _ D4;refine wpAny_list_append_plain ⟨nn,D5.1⟩ (fun h' Wm TJ=>?_) (by omega);obtain⟨a1,a2⟩:=nH (s':={ w5.s with heap:=h',toks:=w5.s.toks }) y5.2 D5 fun b o z e=>(TJ.2 b z).trans e;refine go _ h5 (acc++ [v]) (its.push u5) ((Xb.trans y5.1).priv a1 (by simp;exact n0 nD)) (l4.trans (y5.1.lat.trans ⟨a1.fz,a1.sub⟩)) (((I3.on y4).on y5).priv a1 a2 (by simp;exact aD)) (fun b hb o q=>a1.keep b o (by simp;rintro rfl;exact dF hb) (q5 b (aF b hb) o (k4 b (aF b hb) o q))) (Va.trans (y5.1.lat.trans ⟨a1.fz,a1.sub⟩)) Wm D5.2 ?_ (by simp) ?_
        ·rw[Array.toList_push];exact(Xv.mono y5.1.fz (.inr y5.1.sub)).app (.cons r5 .nil)
        ·revert p5;cases eM g tt te (List.replicate vs.length none++dg m9 ρ) ys h5<;>simp[Res.bind,Res.calm,R3]
      ·exact p1.elim
    ·simpa using T.keep (⟨fun _ _ e=>e,fun _ _ e=>e⟩) I.toHR n1.1.lat n1.2 t0 fun b hb o e=>old b o e
    ·obtain⟨o,q⟩:=(fr b hb).1;exact⟨o,old b o q.1,q.2⟩
   exact codeAny_compStart_list loop (T.self (I.ok.hd hc) (T.keep (⟨fun _ _ e=>e,fun _ _ e=>e⟩) I.toHR n1.1.lat n1.2 t0 fun b hb o e=>old b o e) loop)
theorem KP{elt iter tg:Expr}{ifs:List Expr}{scope:Scope}{it:Ax}{tt:Tx}{te:Ex}{M vs:List Str}{g:Gx}{pos:Pos}{r:List PV→List PO→Res PV}(m9:List Nat)(hc:X.calm=true)(S:cS X.N X.env.scope scope m9 vs M)(hi:RI X tg iter it)(hg:∀cl C,RG (cF X M scope cl C) tg g)(ht:∀cl C,Ry (cF X M scope cl C) ifs tt)(he:∀cl C,RE (cF X M scope cl C) elt te)
  (hr:∀{w0 w:Wo}{h:List PO}{ps:List PV}{its:Array Value}{D:Addr}{Q:Value→Shared→Prop}{E:Value→Shared→Prop},K1 X.fs Ov w0 w→HR X.toSC w h→w0.s.heap.get? D=none→w.s.heap.PlainList D its→O3 w D→aA X.toSC w.F w.m ps its.toList→its.size≤sizeLine→bT X (RV X.toSC) w0 Q E (r ps h)→Q (.ref D) w.s)
  (gm:∀q cp ρ1,g q (List.replicate vs.length none++cp)=some ρ1→∃l,l.length=vs.length∧ρ1=l++cp)
  (hs:∀y,foldedSetIterable iter X.env y=pure y:=by intro _;rfl):RE X (.ListComp elt [⟨tg,iter,ifs,0⟩] scope pos) (cN r (gL vs.length g m9 it tt te)) where
 r {w0 ρ h Q E} I0 p:=by
  rw[eval_ListComp];refine wpAny_comprehension_free rfl hs (jo fun n hn=>I0.ok.has n (S.free _ hn rfl)) S.kind S.names ?_
  have p:bT X (RV X.toSC) w0 Q E ((it ρ h).bind fun xs h1=>(if xs.length<sizeLine then(eM g tt te (List.replicate vs.length none++dg m9 ρ) xs h1).calm else .bad).bind r):=by
   have:cN r (gL vs.length g m9 it tt te) ρ h=(it ρ h).bind fun xs h1=>(if xs.length<sizeLine then(eM g tt te (List.replicate vs.length none++dg m9 ρ) xs h1).calm else .bad).bind r:=by unfold cN gL;cases it ρ h<;>rfl
   rw[← this];exact p
  refine hi.r I0 (p.R2 fun w h1 xs v y0 rr p=>?_)
  split at p
  ·rename_i hz
   refine nY (use:=none) (K:=fun ps h=>bT X (RV X.toSC) w0 Q E (r ps h)) m9 hc S hg ht he gm I0 y0 rr hz (by
    revert p
    cases eM g tt te (List.replicate vs.length none++dg m9 ρ) xs h1<;>exact id) fun{w2 h2 ps its D C oC m} y2 H2 nD nC DC hl n l f ra z k=>⟨m,n,fun h' sb=>?_⟩
   obtain⟨a1,a2⟩:=nH (s':={ w2.s with heap:=h' }) H2 hl fun b o z e=>(sb.2 b z).trans e;obtain⟨nn,e1⟩:=l;have q:=a1.keep _ _ (by simp;exact DC) ⟨e1,f⟩;exact hr (y2.priv a1 (by simp;exact nC)) a2 nD ⟨nn,q.1⟩ q.2 ra z k
  ·exact p.elim
theorem Hs(q:PV)(cp ρ1:Ev)(e:D_ 0 q (List.replicate 1 none++cp)=some ρ1):∃l:Ev,l.length=1∧ρ1=l++cp:=by cases e;exact⟨[some q],rfl,rfl⟩
theorem EG{w0:Wo}{ps:List PV}{its:Array Value}{D:Addr}{Q:Value→Shared→Prop}{E:Value→Shared→Prop}(y:K1 X.fs Ov w0 w)(H:HR X.toSC w h)(n:w0.s.heap.get? D=none)(l:w.s.heap.PlainList D its)(f:O3 w D)(r:aA X.toSC w.F w.m ps its.toList)(z:its.size≤sizeLine)(p:bT X (RV X.toSC) w0 Q E (N6 ps h)):Q (.ref D) w.s:=by
 obtain⟨k,e⟩:=l;have fz:=dj (o:={ cls:=.type "list",data:=.seq its k }) f.2.1;refine p.2 ⟨iQ w.F D { cls:=.type "list",data:=.seq its k },w.O,w.m,w.s⟩ _ ⟨⟨y.os,y.ba,fun a o e=>fz a o (y.fz a o e),y.ow,y.pre,y.dom,fun b o q zz=>?_⟩,fun b x q=>?_,fun d b q=>let⟨o,z,y⟩:=H.own d b q;⟨o,z,cP (fun e'=>by rw[e',f.2.2]at q;cases q) y⟩,H.len,H.nd,fun i po b e1 e2=>(H.obj i po b e1 e2).on fz (fun _ e=>e) (fun _ _ e=>e) (fun _ _ e _=>e) (cP fun z=>f.1 (z▸List.mem_of_getElem? e2))⟩ (.lst bL z (r.mono fz (.inr fun _ _ e=>e)))
 ·obtain⟨sl,q',z'⟩:=y.keep b o q zz;exact⟨sl,⟨q'.1,q'.2.1,cP (fun z=>by have q:=q.1;rw[z,n]at q;cases q) q'.2.2.1,q'.2.2.2⟩,z'⟩
 ·by_cases z:b=D
  ·subst z;cases bL.symm.trans q;exact e
  ·exact H.sub b x ((jW z).symm.trans q)
end
end Z
namespace L2
open PySem
def DK(h h':Heap):Prop:=∀b o,h.get? b=some o→∃o',h'.get? b=some o'∧o'.dict=o.dict
theorem DK.refl(h:Heap):DK h h:=fun _ o e=>⟨o,e,rfl⟩
theorem DK.trans{h1 h2 h3:Heap}(x:DK h1 h2)(y:DK h2 h3):DK h1 h3:=fun b o e=>by obtain⟨o1,e1,d1⟩:=x b o e;obtain⟨o2,e2,d2⟩:=y b o1 e1;exact⟨o2,e2,d2.trans d1⟩
def Kd{α:Type}(t:Sem α):Prop:=∀(M:Model)(Γ:Ctx)(Q:α→Pos→Shared→Prop)(E:Value→Pos→Shared→Prop)(p:Pos)(s:Shared),Sem.wp M Γ t Q E p s→
 Sem.wp M Γ t (fun a p' s'=>Q a p' s'∧DK s.heap s'.heap) (fun e p' s'=>E e p' s'∧DK s.heap s'.heap) p s
section
variable{α β:Type}
theorem Kd.bind{m:Sem α}{f:α→Sem β}(hm:Kd m)(hf:∀a,Kd (f a)):Kd (m >>= f):=fun M Γ Q E p s h=>by rw[Sem.wp_bind']at h ⊢;refine Sem.wp_mono M Γ m (fun a p1 s1 z=>?_) (fun e p1 s1 z=>z) p s (hm M Γ _ _ p s h);exact Sem.wp_mono M Γ (f a) (fun b p2 s2 y=>⟨y.1,z.2.trans y.2⟩) (fun e p2 s2 y=>⟨y.1,z.2.trans y.2⟩) p1 s1 (hf a M Γ Q E p1 s1 z.1)
theorem Kd.pure(a:α):Kd (Pure.pure a:Sem α):=fun M Γ Q E p s h=>by rw[Sem.wp_pure']at h ⊢;exact⟨h,DK.refl _⟩
theorem Kd.Q_(x:String):Kd (unsupported x:Sem α):=fun M Γ Q E p s h=>by rw[show(unsupported x:Sem α)=.unsupported x from rfl,Sem.wp_unsupported]at h;exact h.elim
theorem Kd.load(a:Addr):Kd (PySem.load a):=fun M Γ Q E p s h=>by rw[show PySem.load a=.load a none .pure from rfl,Sem.wp_load]at h ⊢;obtain⟨o,h1,h2⟩:=h;rw[Sem.wp_pure]at h2;exact⟨o,h1,by rw[Sem.wp_pure];exact⟨h2,DK.refl _⟩⟩
theorem Kd.stack:Kd PySem.stack:=fun M Γ Q E p s h=>by rw[show PySem.stack=.stack .pure from rfl,Sem.wp_stack,Sem.wp_pure]at h ⊢;exact⟨h,DK.refl _⟩
theorem Kd.alloc(o:Obj):Kd (PySem.alloc o):=fun M Γ Q E p s h=>by rw[show PySem.alloc o=.alloc o .pure from rfl,Sem.wp_alloc,Sem.wp_pure]at h ⊢;exact⟨h,fun b o' e=>⟨o',Heap.get?_push_of_some _ e,rfl⟩⟩
theorem Kd.update{a:Addr}{f:Obj→Obj}(hf:∀o,o.isFreed=false→(f o).isFreed=false∧(f o).dict=o.dict):Kd (PySem.update a f):=fun M Γ Q E p s h=>by
 rw[show PySem.update a f=.update a none f .pure from rfl,Sem.wp_update]at h ⊢;obtain⟨h1,h2⟩:=h;rw[Sem.wp_pure]at h2;refine⟨h1,?_⟩;rw[Sem.wp_pure];refine⟨h2,fun b o e=>?_⟩
 by_cases hb:a=b
 ·subst hb;obtain⟨z1,z2⟩:=hf o (Heap.get?_some_iff.mp e).2;exact⟨f o,Heap.get?_update_self f e z1,z2⟩
 ·exact⟨o,(Heap.get?_update_other _ _ hb).trans e,rfl⟩
theorem Kd.ite{c:Prop}[Decidable c]{t u:Sem α}(ht:Kd t)(hu:Kd u):Kd (if c then t else u):=by
 split
 ·exact ht
 ·exact hu
theorem vt(v:Value):Kd (fieldsOf v):=by
 unfold fieldsOf
 split
 ·refine(Kd.load _).bind fun o=>?_
  split
  ·exact Kd.pure _
  ·exact Kd.Q_ _
 ·exact Kd.Q_ _
theorem nj(v:Value)(i:Nat):Kd (field v i):=by
 refine(vt v).bind fun vs=>?_
 split
 ·exact Kd.pure _
 ·exact Kd.Q_ _
theorem oN(g:Array Value→Array Value)(o:Obj)(h:o.isFreed=false):(Obj.mapFields g o).isFreed=false∧(Obj.mapFields g o).dict=o.dict:=by
 unfold Obj.mapFields
 split
 ·exact⟨rfl,rfl⟩
 ·exact⟨h,rfl⟩
theorem kR(v:Value)(i:Nat)(x:Value):Kd (setField v i x):=by
 unfold setField
 split
 ·unfold updateField;refine(Kd.load _).bind fun o=>?_
  split
  ·exact Kd.ite (Kd.update fun o h=>oN _ o h) (Kd.Q_ _)
  ·exact Kd.Q_ _
 ·exact Kd.Q_ _
theorem jV(e:Value)(f:Option Addr):Kd (setFlight e f):=by refine(nj e 1).bind fun tb=>?_;exact Kd.ite (kR _ _ _) (Kd.pure _)
theorem tG(ty:String)(vs:List Value):Kd (newFields ty vs):=by
 unfold newFields newObj
 have as:Kd (newObjAsIs (.type ty) (.fields vs.toArray) none):=by unfold newObjAsIs;exact(Kd.alloc _).bind fun _=>Kd.pure _
 dsimp only
 split
 ·exact(Kd.Q_ _).bind fun _=>as
 ·exact as
theorem kS:∀l:List Env,Kd (readyFrames l)
 |[]=>Kd.pure _
 |env::outer=>by
  unfold readyFrames
  split
  ·refine(Kd.load _).bind fun o=>Kd.ite (Kd.pure _) ?_;refine Kd.bind ?_ fun i=>Kd.bind ?_ fun b=>Kd.bind (Kd.update fun o h=>⟨?_,rfl⟩) fun _=>kS outer
   ·unfold behindIsImport;exact Kd.ite (Kd.pure _) (Kd.ite (Kd.pure _) ((nj _ _).bind fun _=>Kd.pure _))
   ·unfold keptBack
    split
    ·refine Kd.ite (Kd.pure _) ?_;exact Kd.bind (Kd.stack.bind fun _=>Kd.pure _) fun _=>Kd.pure _
    ·exact Kd.pure _
   ·obtain⟨c,d,dt,s0⟩:=o
    cases dt<;>first|rfl|(simp[Obj.isFreed]at h)
  ·exact Kd.Q_ _
theorem xe(env:Env):Kd (frameOf env):=by
 unfold frameOf;refine Kd.bind (Kd.stack.bind fun _=>Kd.pure _) fun l=>Kd.bind ?_ fun o=>?_
 ·unfold frameObject
  split
  ·exact Kd.pure _
  ·exact(kS _).bind fun _=>Kd.pure _
 ·split
  ·exact Kd.pure _
  ·exact Kd.Q_ _
theorem oO(f:Addr)(b:Bool):Kd (entryPlaceOf f b):=by
 unfold entryPlaceOf;refine Kd.stack.bind fun _=>?_
 split
 ·exact Kd.pure _
 ·exact Kd.pure _
theorem nh(e:Value)(env:Env):Kd (noteFrame e env):=by
 unfold noteFrame
 split
 ·have go:∀hd:Value,∀f:Addr,Kd (do setField e 1 (← EntryCells.newEntry hd (← frameOf env) .none (rawInt f) .none (← entryPlaceOf f (hd != .none)))):=fun hd f=>(xe env).bind fun _=>(oO _ _).bind fun _=>(tG _ _).bind fun _=>kR _ _ _
  refine(nj e 1).bind fun hd=>?_;refine Kd.ite ?_ (go _ _);exact(nj _ _).bind fun x=>Kd.ite (Kd.pure _) ((kR _ _ _).bind fun _=>go _ _)
 ·exact Kd.Q_ _
theorem qw(env:Env)(e:Value):Kd (leaving env e):=(nh e env).bind fun _=>jV e none
end
end L2
namespace Z
open PySem PySem.Spec PyProof.Rows L3 L2
theorem vv{α:Type}{M:Model}{A:Around}{t:Sem α}{Q:α→Shared→Prop}{E:Value→Shared→Prop}{s:Shared}{a:Addr}{dx:Option Addr}(k:Kd t)(d:∃o,s.heap.get? a=some o∧o.dict=dx)(h:wpAny M A t (fun x s'=>(∃o,s'.heap.get? a=some o∧o.dict=dx)→Q x s') E s):wpAny M A t Q E s:=
 fun Γ p hΓ=>Sem.wp_mono M Γ t (fun _ _ _ z=>z.1 (let⟨o,e,d⟩:=d;let⟨o',e',d'⟩:=z.2 a o e;⟨o',e',d'.trans d⟩)) (fun _ _ _ z=>z.1) p s (k M Γ _ _ p s (h Γ p hΓ))
section
variable{X Y:Cx}{w w2:Wo}{h h2:List PO}
theorem Fk{B hp:Heap}{V:Addr→Prop}(y:K1 Y.fs V w w2)(W2:Wd Y w2 h2)(c1:∀b o,w.s.heap.get? b=some o→b∉Y.fs→∃o',B.get? b=some o')(c2:∀b,¬ O3 w2 b→∃o',B.get? b=some o')(s1:B.StaysIn w2.s.heap)(s2:B.StaysIn hp)(up:w2.s.heap.UpToSlots hp):K1 Y.fs V w { w2 with s:={ w2.s with heap:=hp } }∧HR Y.toSC { w2 with s:={ w2.s with heap:=hp } } h2:=by
 have fr:∀b∈Y.fs,∀o,w2.s.heap.get? b=some o→∃sl,hp.get? b=some { o with slots:=sl }:=fun b hb o e=>by obtain⟨o',q,d⟩:=W2.fr b hb;have q:=q.1;rw[e]at q;cases q;exact up b o e d
 refine⟨⟨y.os,y.ba,y.fz,y.ow,y.pre,fun b o e=>?_,fun b o q n=>?_⟩,W2.toHR.on fun b o e n=>?_⟩
 ·by_cases hb:b∈Y.fs
  ·obtain⟨o',q⟩:=y.dom b o e;obtain⟨sl,q'⟩:=fr b hb o' q;exact⟨_,q'⟩
  ·obtain⟨o',q⟩:=c1 b o e hb;exact⟨o',s2 b o' q⟩
 ·obtain⟨sl,q',z⟩:=y.keep b o q n
  by_cases hb:b∈Y.fs
  ·obtain⟨Td,e'⟩:=fr b hb _ q'.1;exact⟨Td,⟨e',q'.2⟩,.inl hb⟩
  ·obtain⟨o',e'⟩:=c1 b o q.1 hb;have g1:=s1 b o' e';rw[q'.1]at g1;cases g1;exact⟨sl,⟨s2 b _ e',q'.2⟩,z⟩
 ·obtain⟨o',q⟩:=c2 b n;have:=s1 b o' q;rw[e]at this;cases this;exact s2 b o q
theorem Jb{e:PV}{u:Value}{Q:Unit→Shared→Prop}{E:Value→Shared→Prop}(nw:New X Y w)(hG:Y.toSC=X.toSC)(RM:Y.stack=Y.env::X.stack)(hf:Y.env.frame=some Y.L)(hA:Y.A.frames=some Y.stack)(y:Od Y w w2)(W2:Wd Y w2 h2)(r:nF Y w w2 e u)
  (c:∀s',K1 X.fs Ov w { w2 with s:=s' }→HR X.toSC { w2 with s:=s' } h2→nF X w { w2 with s:=s' } e u→Q () s'):Wp Y (leaving Y.env u) Q E w2.s:=by
 have Ym:Y.fs=Y.L::X.fs:=by simp[Cx.fs,frs,RM,hf]
 have oL:∀{b o},w.s.heap.get? b=some o→b≠Y.L:=fun e z=>by rw[z,nw.1 _ (.inl rfl)]at e;cases e
 obtain⟨a,cls,dx,rfl,⟨⟨a0,B,fl,c1,c2⟩,d⟩,m⟩:=r
 have go:∀hp,B.StaysIn w2.s.heap→Heap.FlyingW B X.stack a cls a0 hp→w2.s.heap.UpToSlots hp→(∃o,hp.get? a=some o∧o.dict=dx)→Q () { w2.s with heap:=hp }:=fun hp s1 Vl up Ul=>by obtain⟨g1,g2⟩:=Fk y W2 c1 c2 s1 Vl.1 up;exact c _ (K1.out nw g1) (hG▸g2) ⟨a,cls,dx,rfl,⟨⟨a0,B,.inl Vl,fun b o e n=>c1 b o e fun z=>by rw[Ym]at z;exact(List.mem_cons.mp z).elim (oL e) n,fun b z=>c2 b z⟩,Ul⟩,by revert m;rw[hG];exact id⟩
 rw[RM]at fl;rcases fl with fl|⟨_,fl⟩
 ·exact vv (qw _ _) d (wpAny_leaves_onW (RM▸hA) hf fl fun hp Vl up Ul=>go hp fl.1 Vl up Ul)
 ·obtain⟨s1,eB,ff,o,vs,ho,rfl,hd,h0,h1⟩:=fl;exact vv (qw _ _) d (wpAny_leaving_firstW (RM▸hA) ff hf ho s1 eB hd h1 h0 fun hp L Ul=>go hp s1 ⟨L.1,eB,L.2.1.2.2,L.2.2.1⟩ L.2.2.2 Ul)
end
end Z
namespace L3
noncomputable def PO.pure:PO→Bool
 |.lst xs=>aq xs
 |.dct kvs=>aS kvs
 |.G6 _=>true
 |.obj _ _=>false
def aT:List PO→Bool
 |[]=>true
 |o::r=>o.pure&&aT r
def fV(n:Nat)(v:PV)(h:List PO):Res PV:=if(aT (h.take n)&&Nat.ble n h.length)=true then .ok v (h.take n)else .bad
def eU(n:Nat)(v:PV)(h:List PO):Res PV:=match gx h v with
 |some (q,h2)=>fV n q h2
 |none=>.bad
def ei(f:Sx)(np n:Nat)(ps:List PV)(h:List PO):Res PV:=if ps.length=np then match f (ps.map some++List.replicate (n - ps.length) none) h with
  |.nx _ h1=>fV h.length .non h1
  |.rt v h1=>eU h.length v h1
  |_=>.bad
 else .bad
def vD(n:Nat)(e:PV)(h:List PO):Res PV:=if(aT (h.take n)&&Nat.ble n h.length&&e.pure)=true then .exc e (h.take n)else .bad
def nN(f:Sx)(np n:Nat)(ps:List PV)(h:List PO):Res PV:=if ps.length=np then match f (ps.map some++List.replicate (n - ps.length) none) h with
  |.nx _ h1=>fV h.length .non h1
  |.rt v h1=>eU h.length v h1
  |.exc e h1=>vD h.length e h1
  |_=>.bad
 else .bad
noncomputable def Ot:List PV→List Nat
 |[]=>[]
 |.ref i::r=>i::Ot r
 |_::r=>Ot r
noncomputable def QG:Nat→List PV→List PV
 |_,[]=>[]
 |n,.ref _::r=>.ref n::QG (n+1) r
 |n,p::r=>p::QG n r
def jU:List PV→Bool
 |[]=>true
 |.ref _::r=>jU r
 |p::r=>p.pure&&jU r
noncomputable def kY(h:List PO):List Nat→Option (List PO)
 |[]=>some []
 |i::r=>match h[i]? with
  |some o=>match kY h r with
   |some l=>some (o::l)
   |none=>none
  |none=>none
noncomputable def gF:List PO→List Nat→List PO→List PO
 |h,i::r,o::l=>gF (h.set i o) r l
 |h,_,_=>h
noncomputable def jj:List Nat→Bool
 |[]=>true
 |i::r=>!r.contains i&&jj r
def w7(fn:List PV→List PO→Res PV)(ps:List PV)(h:List PO):Res PV:=match kY h (Ot ps)with
 |some hs=>if(jU ps&&aT hs&&jj (Ot ps))=true then match fn (QG 0 ps) hs with
   |.ok v Qo=>if v.pure=true∧aT Qo=true∧Qo.length=hs.length then .ok v (gF h (Ot ps) Qo)else .bad
   |.exc v Qo=>if v.pure=true∧aT Qo=true∧Qo.length=hs.length then .exc v (gF h (Ot ps) Qo)else .bad
   |.bad=>.bad
  else .bad
 |none=>.bad
def bj(fn:List PV→List PO→Res PV)(as:Ax):Ex:=fun ρ h=>(as ρ h).bind (w7 fn)
def Qd(n:Nat):PV→Bool
 |.ref i=>decide (i<n)
 |p=>p.pure
def Ql(n:Nat):PO→Bool
 |.lst xs=>xs.all (Qd n)
 |.dct kvs=>kvs.all fun x=>Qd n x.2
 |.G6 _=>true
 |.obj _ ps=>ps.all (Qd n)
def vE(n:Nat)(v:PV)(h:List PO):Res PV:=if((h.take n).all (Ql n)&&Nat.ble n h.length)=true then .ok v (h.take n)else .bad
def vz(n:Nat)(v:PV)(h:List PO):Res PV:=if Qd n v=true then vE n v h else match gx h v with
 |some (q,h2)=>vE n q h2
 |none=>.bad
def Kh(n:Nat)(e:PV)(h:List PO):Res PV:=if((h.take n).all (Ql n)&&Nat.ble n h.length&&e.pure)=true then .exc e (h.take n)else .bad
def gC(f:Sx)(np n:Nat)(ps:List PV)(h:List PO):Res PV:=if ps.length=np then match f (ps.map some++List.replicate (n - ps.length) none) h with
  |.nx _ h1=>vE h.length .non h1
  |.rt v h1=>vz h.length v h1
  |.exc e h1=>Kh h.length e h1
  |_=>.bad
 else .bad
noncomputable def wo(f:Sx)(np n:Nat)(ps:List PV)(h:List PO):Res PV:=if ps.length=np then match f (ps.map some++List.replicate (n - ps.length) none) h with
  |.nx _ h1=>.ok .non h1
  |_=>.bad
 else .bad
def lC(fn:List PV→List PO→Res PV)(as:Ax):Ex:=fun ρ h=>(as ρ h).bind fn
end L3
namespace Z
open PySem PySem.Spec PyProof.Rows L3 L2
def FE(X:Cx)(w:Wo)(Q:Value→Shared→Prop)(E:Value→Shared→Prop):Res PV→Prop
 |.ok a h=>∀w' x,Nw X w w' h→br X.toSC w'.F w'.m a x→Q x w'.s
 |.exc e h=>∀w' u,Nw X w w' h→nF X w w' e u→E u w'.s
 |.bad=>False
theorem bT.c{X:Cx}{w:Wo}{Q:Value→Shared→Prop}{E:Value→Shared→Prop}{r:Res PV}(p:bT X (RV X.toSC) w Q E r):FE X w Q E r:=match r with
 |.ok _ _=>p.2
 |.exc _ _=>p.2
 |.bad=>p
structure O8(G:SC)(c:Bool)(k:Nat)(f:Addr)(fd:FuncData)(ps:List Str)(fn:List PV→List PO→Res PV):Prop where
 len:∀qs h,fn qs h≠.bad→qs.length=ps.length
 run:∀{X:Cx}{w:Wo}{h:List PO}{A:Around}{qs:List PV}{us:List Value}{args:Args}{Q:Value→Shared→Prop}{E:Value→Shared→Prop},X.toSC=G→eY k A→(c=true→A.handled=none)→A.frames=some X.stack→Wd X w h→X.Ok→aA G w.F w.m qs us→BindsTo w.s fd args (ps.zip us)→
  FE X w Q E (fn qs h)→codeAny (model G.prog G.w) A (.call (.ref f) args) (RC Q E) w.s
def oE(n:Nat)(h:List PO):Prop:=(h.take n).all (Ql n)=true∧n≤h.length
inductive Fin(n:Nat):SR→Res PV→Prop where
 |nx {ρ:Ev} {h:List PO}:oE n h→Fin n (.nx ρ h) (.ok .non (h.take n))
 |al {ρ:Ev} {h:List PO}:Fin n (.nx ρ h) (.ok .non h)
 |rt {v:PV} {h:List PO}:Qd n v=true→oE n h→Fin n (.rt v h) (.ok v (h.take n))
 |rf {v q:PV} {h h2:List PO}:gx h v=some (q,h2)→oE n h2→Fin n (.rt v h) (.ok q (h2.take n))
 |ex {e:PV} {h:List PO}:e.pure=true→oE n h→Fin n (.exc e h) (.exc e (h.take n))
section
variable{G:SC}{X Y:Cx}{w w1 w2:Wo}{h h1 h2:List PO}{n:Nat}
theorem br.lt{F:Fz}{m:List Addr}{p:PV}{u:Value}(r:br G F m p u)(z:Qd n p=true):br G F (m.take n) p u:=by
 unfold Qd at z
 split at z
 ·cases r with|ref e=>exact .ref (by rw[List.getElem?_take_of_lt (of_decide_eq_true z)];exact e)
 ·exact r.mono (fun _ _ e=>e) (.inl z)
theorem aA.lt{F:Fz}{m:List Addr}:∀{p:List PV}{u:List Value},aA G F m p u→p.all (Qd n)=true→aA G F (m.take n) p u
 |_,_,.nil,_=>.nil
 |_,_,.cons r t,z=>by simp only[List.all_cons,Bool.and_eq_true]at z;exact .cons (r.lt z.1) (aA.lt t z.2)
theorem HR.cut(H:HR G w h)(c:oE n h):HR G ⟨w.F,w.O,w.m.take n,w.s⟩ (h.take n):=by
 refine⟨H.sub,fun d a e=>let⟨o,z,y⟩:=H.own d a e;⟨o,fun x=>z (List.mem_of_mem_take x),y⟩,by simp[H.len],H.nd.sublist (List.take_sublist _ _),fun i o a e1 e2=>?_⟩
 have hi:i<n:=by
  rcases Nat.lt_or_ge i n with z|z
  ·exact z
  ·rw[List.getElem?_eq_none (by simp;omega)]at e1;cases e1
 have z:=List.all_eq_true.mp c.1 o (List.mem_of_getElem? e1);rw[List.getElem?_take_of_lt hi]at e1;have q:=H.obj i o a e1 (by rw[← List.getElem?_take_of_lt hi];exact e2)
 cases o with
 |lst ps=>obtain⟨f,its,n,e,l,r⟩:=q;exact⟨f,its,n,e,l,r.lt z⟩
 |dct kps=>obtain⟨f,o,kvs,e,d,y,l,c,r⟩:=q;exact⟨f,o,kvs,e,d,y,l,c,r.lt (by simpa[Ql,List.all_map]using z)⟩
 |G6 p=>obtain⟨r,z,q⟩:=q;exact⟨r.mono (fun _ _ e=>e) (.inl z),z,q⟩
 |obj C ps=>obtain⟨f,Ca,dx,od,vs,c,e,d,e2,nn,l,r⟩:=q;exact⟨f,Ca,dx,od,vs,c,e,d,e2,nn,l,r.lt z⟩
theorem Nw.cut(hl:h.length=w.m.length)(y:K1 X.fs Ov w w2)(H:HR X.toSC w2 h2)(c:oE h.length h2):Nw X w ⟨w2.F,w2.O,w2.m.take h.length,w2.s⟩ (h2.take h.length):=by refine⟨⟨y.os,y.ba,y.fz,y.ow,?_,y.dom,fun b o q z=>let⟨sl,q,z⟩:=y.keep b o q z;⟨sl,⟨q.1,fun z=>q.2.1 (List.mem_of_mem_take z),q.2.2⟩,z⟩⟩,H.cut c⟩;obtain⟨t,e⟩:=y.pre;exact⟨[],by simp[e,hl]⟩
theorem nF.cut{e:PV}{u:Value}(r:nF X w w2 e u)(pu:e.pure=true):nF X w ⟨w2.F,w2.O,w2.m.take n,w2.s⟩ e u:=r.to pu rfl rfl rfl fun b z=>.inl fun y=>z ⟨fun z=>y.1 (List.mem_of_mem_take z),y.2⟩
variable{N ps:List Str}{qual name:Str}{st:Stmt}{f:Addr}{fd:FuncData}{k:Nat}{g:Sx}{fn:List PV→List PO→Res PV}
theorem oY{c:Bool}(F:S8 G.K name qual st f fd)(S:lQ N ps (aV st))(hb:∀(X:Cx)(cd:Value)(A:Around)(s:Shared),X.toSC=G→eY k (A.deeper (envOfC qual (aV st) s.heap.objs.size f cd))→Qs (kb c X N qual (aV st) f cd A s) (iB st) g)
  (Yh:∀qs h,fn qs h≠.bad→qs.length=ps.length∧Fin h.length (g (st0 N.length qs) h) (fn qs h)):O8 G c (k+1) f fd ps fn where
 len qs h z:=(Yh qs h z).1
 run {X w h A qs us args Q E} hG hr hd hf I ok r hbd p:=by
  subst hG;obtain⟨hl,fin⟩:=Yh qs h fun z=>by rw[z]at p;exact p
  refine nZ (c:=c) F S hr hd hf I ok hl r hbd fun cd s1 Wf nw y J _=>(hb X cd A w.s rfl Wf).r J ?_;have yo:∀{w2},Od (kb c X N qual (aV st) f cd A w.s) { w with s:=s1 } w2→Od (kb c X N qual (aV st) f cd A w.s) w w2:=fun y2=>K1.trans (y.weak (fun _ z=>z.elim) fun b z=>List.mem_cons_of_mem _ z) y2
  revert fin p
  generalize g (st0 N.length qs) h=sr;generalize fn qs h=res;intro p fin
  cases fin with
  |nx ck=>exact⟨.leaving,fun w2 y2 I2=>p ⟨w2.F,w2.O,w2.m.take h.length,w2.s⟩ _ (Nw.cut I.len ((yo y2).out nw) I2.toHR ck) .non⟩
  |al=>exact⟨.leaving,fun w2 y2 I2=>p _ _ ⟨(yo y2).out nw,I2.toHR⟩ .non⟩
  |rt l ck=>exact⟨.leaving,fun w2 u ρ y2 I2 r2=>p ⟨w2.F,w2.O,w2.m.take h.length,w2.s⟩ _ (Nw.cut I.len ((yo y2).out nw) I2.toHR ck) (r2.lt l)⟩
  |rf e ck=>exact⟨.leaving,fun w2 u ρ y2 I2 r2=>by obtain⟨F',n,r3,pu⟩:=I2.toHR.Ui (X:=kb c X N qual (aV st) f cd A w.s) r2 e;exact p ⟨F',w2.O,w2.m.take h.length,w2.s⟩ _ (Nw.cut (w2:=⟨F',w2.O,w2.m,w2.s⟩) I.len ((yo (y2.trans n.s)).out nw) n.2 ck) (r3.mono (fun _ _ e=>e) (.inl pu))⟩
  |ex pu ck=>exact⟨.leaving,fun w2 u ρ y2 I2 r2=>Jb nw rfl rfl rfl (Around.frames_deeper hf) (yo y2) I2.toWd (r2.back y) fun s' y3 H3 r3=>p ⟨w2.F,w2.O,w2.m.take h.length,s'⟩ _ (Nw.cut (w2:={ w2 with s:=s' }) I.len y3 H3 ck) (r3.cut pu)⟩
theorem Ds{p:PV}(h:p.pure=true):Qd n p=true:=by cases p<;>first|exact h|cases h
theorem qi:∀{l:List PV},aq l=true→l.all (Qd n)=true
 |[],_=>rfl
 |p::r,h=>by simp only[aq,Bool.and_eq_true]at h;simp[Ds h.1,qi h.2]
theorem lH:∀{l:List PO},aT l=true→l.all (Ql n)=true
 |[],_=>rfl
 |o::r,h=>by
  simp only[aT,Bool.and_eq_true]at h;simp only[List.all_cons,lH h.2,Bool.and_true]
  cases o with
  |lst xs=>exact qi h.1
  |dct kvs=>have:=qi (n:=n) (l:=kvs.map (·.2)) (by rw[← fP];exact h.1);simpa[Ql,List.all_map]using this
  |G6 _=>rfl
  |obj _ ps=>cases h.1
theorem Fs{v:PV}{h:List PO}(z:fV n v h≠.bad):oE n h∧fV n v h=.ok v (h.take n):=by
 unfold fV at z ⊢
 split at z
 ·rename_i c;rw[if_pos c];simp only[Bool.and_eq_true]at c;exact⟨⟨lH c.1,Nat.le_of_ble_eq_true c.2⟩,rfl⟩
 ·exact absurd rfl z
theorem Ct{v:PV}{h:List PO}(z:vE n v h≠.bad):oE n h∧vE n v h=.ok v (h.take n):=by
 unfold vE at z ⊢
 split at z
 ·rename_i c;rw[if_pos c];simp only[Bool.and_eq_true]at c;exact⟨⟨c.1,Nat.le_of_ble_eq_true c.2⟩,rfl⟩
 ·exact absurd rfl z
theorem Fl{np N:Nat}(qs:List PV)(h:List PO)(z:nN g np N qs h≠.bad):qs.length=np∧Fin h.length (g (st0 N qs) h) (nN g np N qs h):=by
 unfold nN at z ⊢
 split at z
 ·rename_i l;rw[if_pos l];refine⟨l,?_⟩;unfold st0
  split at z<;>rename_i e<;>(try rw[e])
  ·obtain⟨c,e⟩:=Fs z;rw[e];exact .nx c
  ·unfold eU at z ⊢
   split at z
   ·rename_i e1;obtain⟨c,e⟩:=Fs z;rw[e];exact .rf e1 c
   ·exact absurd rfl z
  ·unfold vD at z ⊢
   split at z
   ·rename_i c;rw[if_pos c];simp only[Bool.and_eq_true]at c;exact .ex c.2 ⟨lH c.1.1,Nat.le_of_ble_eq_true c.1.2⟩
   ·exact absurd rfl z
  ·exact absurd rfl z
 ·exact absurd rfl z
theorem JX{np N:Nat}(qs:List PV)(h:List PO)(z:gC g np N qs h≠.bad):qs.length=np∧Fin h.length (g (st0 N qs) h) (gC g np N qs h):=by
 unfold gC at z ⊢
 split at z
 ·rename_i l;rw[if_pos l];refine⟨l,?_⟩;unfold st0
  split at z<;>rename_i e<;>(try rw[e])
  ·obtain⟨c,e⟩:=Ct z;rw[e];exact .nx c
  ·unfold vz at z ⊢
   split at z
   ·rename_i l;rw[if_pos l];obtain⟨c,e⟩:=Ct z;rw[e];exact .rt l c
   ·rename_i l;rw[if_neg l]
    split at z
    ·rename_i e1;obtain⟨c,e⟩:=Ct z;rw[e];exact .rf e1 c
    ·exact absurd rfl z
  ·unfold Kh at z ⊢
   split at z
   ·rename_i c;rw[if_pos c];simp only[Bool.and_eq_true]at c;exact .ex c.2 ⟨c.1.1,Nat.le_of_ble_eq_true c.1.2⟩
   ·exact absurd rfl z
  ·exact absurd rfl z
 ·exact absurd rfl z
theorem JW{np N:Nat}(qs:List PV)(h:List PO)(z:wo g np N qs h≠.bad):qs.length=np∧Fin h.length (g (st0 N qs) h) (wo g np N qs h):=by
 unfold wo at z ⊢
 split at z
 ·rename_i l;rw[if_pos l];refine⟨l,?_⟩;unfold st0
  split at z<;>rename_i e<;>(try rw[e])
  ·exact .al
  ·exact absurd rfl z
 ·exact absurd rfl z
theorem JV{np N:Nat}(qs:List PV)(h:List PO)(z:ei g np N qs h≠.bad):qs.length=np∧Fin h.length (g (st0 N qs) h) (ei g np N qs h):=by
 have e:ei g np N qs h=nN g np N qs h:=by
  unfold ei nN at*
  split
  ·rw[if_pos ‹_›]at z;split<;>rename_i e<;>simp_all
  ·rfl
 rw[e]at z ⊢;exact Fl qs h z
end
end Z
namespace Z
open PySem PySem.Spec PyProof.Rows L3 L2
section
variable{G:SC}{X:Cx}{w w1:Wo}{h hs:List PO}{is:List Nat}
theorem my:∀{is:List Nat}{hs:List PO},kY h is=some hs→is.length=hs.length∧∀(j i:Nat),is[j]? =some i→h[i]? =hs[j]?
 |[],_,e=>by cases e;exact⟨rfl,fun _ _ e=>nomatch e⟩
 |i::r,_,e=>by
  unfold kY at e
  split at e
  ·rename_i e1
   split at e<;>cases e
   rename_i e2;obtain⟨l,k⟩:=my e2;exact⟨by simp[l],fun j i' q=>by cases j with|zero=>cases q;exact e1|succ j=>exact k j i' q⟩
  ·cases e
theorem qq:∀{is:List Nat},jj is=true→is.Nodup
 |[],_=>.nil
 |i::r,h=>by simp only[jj,Bool.and_eq_true,Bool.not_eq_true',List.contains_eq_mem,decide_eq_false_iff_not]at h;exact .cons (fun x hx z=>h.1 (z▸hx)) (qq h.2)
theorem qg:∀(is:List Nat)(h hs:List PO),(L3.gF h is hs).length=h.length
 |[],h,_=>by simp[L3.gF]
 |_::_,h,[]=>by simp[L3.gF]
 |i::r,h,o::l=>by simp[L3.gF,qg r]
theorem qh:∀{is:List Nat}{h hs:List PO}{i:Nat},is.Nodup→is.length=hs.length→(∀j∈is,j<h.length)→(∀j:Nat,is[j]? =some i→(L3.gF h is hs)[i]? =hs[j]?)∧(i∉is→(L3.gF h is hs)[i]? =h[i]?)
 |[],h,[],i,_,_,_=>⟨fun _ e=>(nomatch e),fun _=>rfl⟩
 |j0::r,h,o::l,i,nd,e,lt=>by
  rw[List.nodup_cons]at nd;obtain⟨a,b⟩:=qh (h:=h.set j0 o) (hs:=l) (i:=i) nd.2 (by simpa using e) (fun j hj=>by simpa using lt j (List.mem_cons_of_mem _ hj));refine⟨fun j q=>?_,fun n=>?_⟩
  ·cases j with
   |zero=>cases q;simp only[L3.gF];rw[b nd.1];simp[lt _ List.mem_cons_self]
   |succ j=>simp only[L3.gF];rw[a j q];rfl
  ·simp only[L3.gF];rw[b fun z=>n (List.mem_cons_of_mem _ z),List.getElem?_set_ne fun z=>n (by simp[z])]
noncomputable def sel(m:List Addr)(is:List Nat):List Addr:=is.map fun i=>m.getD i 0
theorem oU{m:List Addr}{j i:Nat}{a:Addr}(e:is[j]? =some i)(q:m[i]? =some a):(sel m is)[j]? =some a:=by simp[sel,e,List.getD_eq_getElem?_getD,q]
theorem nQ:∀{hs:List PO}{j:Nat}{o:PO},aT hs=true→hs[j]? =some o→o.pure=true
 |o::r,j,o',h,e=>by
  simp only[aT,Bool.and_eq_true]at h
  cases j with
  |zero=>cases e;exact h.1
  |succ j=>exact nQ h.2 e
theorem qK.pure{F:Fz}{m m':List Addr}{O O':Addr→Option Addr}{g:Heap}{a:Addr}{o:PO}(q:qK G F m O g a o)(p:o.pure=true):qK G F m' O' g a o:=by
 cases o with
 |lst ps=>obtain⟨f,its,n,e,l,r⟩:=q;exact⟨f,its,n,e,l,r.mono (fun _ _ e=>e) (.inl p)⟩
 |dct kps=>obtain⟨f,o,kvs,e,d,y,l,c,r⟩:=q;exact⟨f,o,kvs,e,d,y,l,c,r.mono (fun _ _ e=>e) (.inl (by rw[← fP];exact p))⟩
 |G6 p=>obtain⟨r,z,q⟩:=q;exact⟨r.mono (fun _ _ e=>e) (.inl z),z,q⟩
 |obj C ps=>cases p
theorem sL(H:HR G w h)(lt:∀i∈is,i<h.length){a:Addr}(z:a∈sel w.m is):∃i∈is,w.m[i]? =some a:=by obtain⟨i,hi,rfl⟩:=List.mem_map.mp z;have l:=lt i hi;rw[H.len]at l;exact⟨i,hi,by simp[List.getD_eq_getElem?_getD,List.getElem?_eq_getElem l]⟩
theorem AG:∀{is:List Nat},is.Nodup→(∀i∈is,i<w.m.length)→w.m.Nodup→(sel w.m is).Nodup
 |[],_,_,_=>.nil
 |i::r,nd,lt,n=>by rw[List.nodup_cons]at nd;refine List.nodup_cons.mpr ⟨fun z=>?_,AG nd.2 (fun j hj=>lt j (List.mem_cons_of_mem _ hj)) n⟩;obtain⟨j,hj,e⟩:=List.mem_map.mp z;have l1:=lt i (by simp);have l2:=lt j (List.mem_cons_of_mem _ hj);simp only[List.getD_eq_getElem?_getD,List.getElem?_eq_getElem l1,List.getElem?_eq_getElem l2,Option.getD_some]at e;exact nd.1 ((List.getElem_inj n).mp e▸hj)
theorem Wd.sel(I:Wd X w h)(e:kY h is=some hs)(nd:is.Nodup)(pu:aT hs=true)(lt:∀i∈is,i<h.length):Wd X ⟨w.F,fun _=>none,sel w.m is,w.s⟩ hs:=by
 obtain⟨l,k⟩:=my e;have g:∀i∈is,∃a,w.m[i]? =some a:=fun i hi=>⟨_,List.getElem?_eq_getElem (I.len▸lt i hi)⟩
 refine⟨⟨I.sub,fun _ _ e=>(nomatch e),by simp[Z.sel,l],AG nd (fun i hi=>I.len▸lt i hi) I.nd,fun j o a e1 e2=>?_⟩,I.ba,I.bs,fun b hb=>let⟨o,q,d⟩:=I.fr b hb;⟨o,⟨q.1,fun z=>let⟨i,_,q'⟩:=sL I.toHR lt z;q.2.1 (List.mem_of_getElem? q'),q.2.2.1,rfl⟩,d⟩⟩;have hj:j<is.length:=by rw[l];exact(List.getElem?_eq_some_iff.mp e1).1
 obtain⟨i,hi⟩:∃i,is[j]? =some i:=⟨_,List.getElem?_eq_getElem hj⟩
 obtain⟨a',ha⟩:=g i (List.mem_of_getElem? hi)
 cases(oU hi ha).symm.trans e2
 exact(I.obj i o a (by rw[k j i hi];exact e1) ha).pure (nQ pu e1)
theorem sQ{F:Fz}{m:List Addr}:∀{ps:List PV}{us:List Value}{n:Nat}{m':List Addr},aA G F m ps us→jU ps=true→(∀(j i:Nat) a,(Ot ps)[j]? =some i→m[i]? =some a→m'[n+j]? =some a)→aA G F m' (QG n ps) us
 |[],_,_,_,.nil,_,_=>.nil
 |p::ps,_,n,m',.cons r t,ok,k=>by
  have z:p.pure=true∧jU ps=true∧Ot (p::ps)=Ot ps∧QG n (p::ps)=p::QG n ps∨∃i,p=.ref i:=by cases p<;>first|exact .inr ⟨_,rfl⟩|exact .inl ⟨(Bool.and_eq_true _ _▸ok).1,(Bool.and_eq_true _ _▸ok).2,rfl,rfl⟩
  rcases z with⟨z,o,e,e'⟩|⟨i,rfl⟩
  ·rw[e'];rw[e]at k;exact .cons (r.mono (fun _ _ e=>e) (.inl z)) (sQ t o k)
  ·cases r with
   |ref e=>exact .cons (.ref (k 0 i _ rfl e)) (sQ t ok fun j i a e1 e2=>by have:=k (j+1) i a e1 e2;rwa [show n+1+j=n+(j+1) by omega])
theorem O8.Ur{c:Bool}{f:Addr}{fd:FuncData}{k:Nat}{ps:List Str}{fn:List PV→List PO→Res PV}{ρ:Ev}{qs:List PV}{us:List Value}{Q:Value→Shared→Prop}{E:Value→Shared→Prop}(F:O8 X.toSC c k f fd ps fn)(hr:eY k X.A)(hc:c=true→X.calm=true)(hb:jC X.K fd ps [])(I:Inv X w ρ h)(r:aA X.toSC w.F w.m qs us)(p:bT X (RV X.toSC) w Q E (fn qs h)):Wp X (call (.ref f) us) Q E w.s:=by refine wpAny_call (F.run rfl hr (fun z=>I.ok.hd (hc z)) I.ok.frames I.toWd I.ok r (by simpa using hb w.s us I.N5 (by rw[List.append_nil,← r.length];exact F.len _ _ fun z=>by rw[z]at p;exact p)) p.c)
theorem O8.w7{c:Bool}{f:Addr}{fd:FuncData}{k:Nat}{ps:List Str}{fn:List PV→List PO→Res PV}{ρ:Ev}{qs:List PV}{us:List Value}{Q:Value→Shared→Prop}{E:Value→Shared→Prop}(F:O8 X.toSC c k f fd ps fn)(hr:eY k X.A)(hc:c=true→X.calm=true)(hb:jC X.K fd ps [])(I:Inv X w ρ h)(r:aA X.toSC w.F w.m qs us)(p:bT X (RV X.toSC) w Q E (w7 fn qs h)):Wp X (call (.ref f) us) Q E w.s:=by
 unfold L3.w7 at p
 split at p
 ·rename_i hs e
  split at p
  ·rename_i c;simp only[Bool.and_eq_true]at c;obtain⟨⟨c1,c2⟩,c3⟩:=c;obtain⟨gl,gk⟩:=my e;have nd:=qq c3
   have lt:∀i∈Ot qs,i<h.length:=fun i hi=>by obtain⟨j,hj,rfl⟩:=List.mem_iff_getElem.mp hi;have:=gk j _ (List.getElem?_eq_getElem hj);rw[List.getElem?_eq_getElem (show j<hs.length from gl▸hj)]at this;exact(List.getElem?_eq_some_iff.mp this).1
   have r':aA X.toSC w.F (sel w.m (Ot qs)) (QG 0 qs) us:=sQ r c1 fun j i a e1 e2=>by rw[Nat.zero_add];exact oU e1 e2
   have I':=I.toWd.sel e nd c2 lt;have hm:∀a∈sel w.m (Ot qs),a∈w.m:=fun a z=>let⟨i,_,q⟩:=sL I.toHR lt z;List.mem_of_getElem? q
   have bk:∀{w1:Wo}{Qo:List PO},Nw X ⟨w.F,fun _=>none,sel w.m (Ot qs),w.s⟩ w1 Qo→aT Qo=true→Qo.length=hs.length→Nw X w ⟨w1.F,w.O,w.m,w1.s⟩ (L3.gF h (Ot qs) Qo):=fun{w1 Qo} y pu l=>by
    have pg:=fun i=>qh (i:=i) (h:=h) (hs:=Qo) nd (gl.trans l.symm) lt;refine Nw.back I.toWd y.1 y.2 (qg _ _ _) hm (fun i po a e1 e2 z=>?_) fun i po a e1 e2 z=>?_
    ·obtain⟨i',Ud,e3⟩:=sL I.toHR lt z
     have:i=i':=by obtain⟨l1,q1⟩:=List.getElem?_eq_some_iff.mp e2;obtain⟨l2,q2⟩:=List.getElem?_eq_some_iff.mp e3;exact(List.getElem_inj I.nd).mp (q1.trans q2.symm)
     subst this;obtain⟨j,hj,rfl⟩:=List.mem_iff_getElem.mp Ud;have ej:=List.getElem?_eq_getElem hj;rw[(pg _).1 j ej]at e1;exact(y.2.obj j po a e1 (y.1.sub j a (oU ej e2))).pure (nQ pu e1)
    ·rw[(pg i).2 fun hi=>z (List.mem_of_getElem? (oU (List.getElem?_eq_getElem (List.mem_iff_getElem.mp hi).choose_spec.choose) (by rw[(List.mem_iff_getElem.mp hi).choose_spec.choose_spec];exact e2)))]at e1;exact e1
   refine wpAny_call (F.run (w:=⟨w.F,fun _=>none,sel w.m (Ot qs),w.s⟩) rfl hr (fun z=>I.ok.hd (hc z)) I.ok.frames I' I.ok r' (by simpa using hb w.s us I.N5 (by rw[List.append_nil,← r'.length];exact F.len _ _ fun z=>by rw[z]at p;exact p)) ?_)
   split at p
   ·rename_i e1;rw[e1]
    split at p
    ·rename_i c;exact fun w1 x y r1=>p.2 ⟨w1.F,w.O,w.m,w1.s⟩ _ (bk y c.2.1 c.2.2) (r1.mono (fun _ _ e=>e) (.inl c.1))
    ·exact p.elim
   ·rename_i e1;rw[e1]
    split at p
    ·rename_i c;refine fun w1 x y r1=>p.2 ⟨w1.F,w.O,w.m,w1.s⟩ _ (bk y c.2.1 c.2.2) (r1.to c.1 rfl rfl rfl fun b z=>?_);have nf:¬ O3 w b→b∉X.fs:=fun n z=>let⟨_,q,_⟩:=I.fr _ z;n q.2
     by_cases z1:b∈w.m
     ·exact .inr ⟨I.toHR.there z1,nf fun y=>y.1 z1⟩
     ·by_cases z2:w.O b=none
      ·exact .inl fun y=>z ⟨z1,y.2.1,z2⟩
      ·obtain⟨o,q⟩:=Option.ne_none_iff_exists'.mp z2;exact .inr ⟨(I.own b o q).1,nf fun y=>z2 y.2.2⟩
    ·exact p.elim
   ·exact p.elim
  ·exact p.elim
 ·exact p.elim
structure ZL(X:Cx)(x:Str)(fn:List PV→List PO→Res PV):Prop where
 ex:∃c k f fd ps,O8 X.toSC c k f fd ps fn∧eY k X.A∧(c=true→X.calm=true)∧X.mg x=some (.ref f)∧W.keepIn X.K (.ref f)=true∧jC X.K fd ps []
variable{x:Str}{e:Expr}{es:List Expr}{p0 pos:Pos}{fs:Ax}{fn:List PV→List PO→Res PV}
theorem uI(c:ZL X x fn)(hg:Gl X x)(ha:RA X (e::es) fs)(MJ:nD0 x:=by decide)(he:sE0 X e es:=by rfl)(Lj:sP0 X es pos:=by rfl):RE X (.Call (.Name x p0) (e::es) [] pos) (bj fn fs):=⟨fun I p=>by obtain⟨c,k,f,fd,ps,F,hr,hc,hm,hk,hb⟩:=c.ex;exact wpAny_Call_Name_kw (I.RX hg hm (W.callWith_K (h₀:=X.base) I.ok.Np hk (ha.r pos I (p.bind fun _ _ _ _ y r p=>⟨(I.on y).N5,F.w7 hr hc hb (I.on y) r p⟩)) he Lj) MJ)⟩
theorem AN(c:ZL X x fn)(hg:Gl X x)(ha:RA X (e::es) fs)(MJ:nD0 x:=by decide)(he:sE0 X e es:=by rfl)(Lj:sP0 X es pos:=by rfl):RE X (.Call (.Name x p0) (e::es) [] pos) (lC fn fs):=⟨fun I p=>by obtain⟨c,k,f,fd,ps,F,hr,hc,hm,hk,hb⟩:=c.ex;exact wpAny_Call_Name_kw (I.RX hg hm (W.callWith_K (h₀:=X.base) I.ok.Np hk (ha.r pos I (p.bind fun _ _ _ _ y r p=>⟨(I.on y).N5,F.Ur hr hc hb (I.on y) r p⟩)) he Lj) MJ)⟩
end
end Z
namespace L3
noncomputable def qU(C:Nat)(h:List PO):PV→Option (Nat×List PV)
 |.ref i=>match h[i]? with
  |some (.obj D ps)=>if D=C then some (i,ps)else none
  |_=>none
 |_=>none
def sZ(C j:Nat)(p:PV)(h:List PO):Res PV:=match qU C h p with
 |some (_,ps)=>match ps[j]? with
  |some q=>.ok (am h q) h
  |none=>.bad
 |none=>.bad
def AE(C j:Nat)(v p:PV)(ρ:Ev)(h:List PO):SR:=match qU C h p with
 |some (i,ps)=>if j<ps.length then .nx ρ (h.set i (.obj C (ps.set j v)))else if j=ps.length then .nx ρ (h.set i (.obj C (ps++ [v])))else .bad
 |none=>.bad
def pQ(C j:Nat)(fo fv:Ex):Sx:=fun ρ h=>ez (fv ρ h) fun v h1=>ez (fo ρ h1) fun o h2=>AE C j v o ρ h2
def gA(C:Nat)(fn:List PV→List PO→Res PV)(o:Ex)(as:Ax):Ex:=fun ρ h=>(o ρ h).bind fun p h1=>match qU C h1 p with
 |some _=>(as ρ h1).bind fun ps h2=>fn (p::ps) h2
 |none=>.bad
noncomputable def Tj(C:Nat)(fn:List PV→List PO→Res PV)(ps:List PV)(h:List PO):Res PV:=match fn (.ref h.length::ps) (h++ [.obj C []])with
 |.ok .non h2=>.ok (.ref h.length) h2
 |_=>.bad
def Ab(C:Nat)(fn:List PV→List PO→Res PV)(as:Ax):Ex:=fun ρ h=>(as ρ h).bind (Tj C fn)
end L3
namespace Z
open PySem PySem.Spec PyProof.Rows L3 L2
section
variable{f:Str}{y:Value}
theorem pw:∀{ns:List Str}{vs:List Value}{j:Nat}{v:Value},ns.Nodup→ns[j]? =some f→vs[j]? =some v→(ns.zip vs).lookup f=some v
 |[],_,_,_,_,e,_=>by simp at e
 |n::ns,[],j,v,_,_,e=>by simp at e
 |n::ns,x::vs,0,v,_,e1,e2=>by cases e1;cases e2;simp[List.lookup]
 |n::ns,x::vs,j+1,v,nd,e1,e2=>by
  rw[List.nodup_cons]at nd;have ne:f≠n:=fun z=>nd.1 (z▸List.mem_of_getElem? e1);have:(f==n)=false:=by simpa using ne
  rw[List.zip_cons_cons,List.lookup,this];exact pw nd.2 e1 e2
theorem pq:∀{ns:List Str}{vs:List Value},f∉ns→(ns.zip vs).lookup f=none
 |[],_,_=>by simp
 |n::ns,[],_=>by simp
 |n::ns,x::vs,h=>by
  have:(f==n)=false:=by simpa using fun z=>h (by simp[z])
  rw[List.zip_cons_cons,List.lookup,this];exact pq fun z=>h (List.mem_cons_of_mem _ z)
theorem xA{n:Str}:∀{ns:List Str}{vs:List Value}{j:Nat},ns.Nodup→ns[j]? =some f→j≤vs.length→(ns.zip (vs.take j++y::vs.drop (j+1))).lookup n=if n=f then some y else(ns.zip vs).lookup n
 |[],_,_,_,e,_=>by simp at e
 |g::ns,vs,0,_,e,_=>by
  cases e
  by_cases z:n=f
  ·simp[z,List.lookup]
  ·have:(n==f)=false:=by simpa using z
   cases vs<;>simp[List.lookup,this,z]
 |g::ns,[],j+1,_,_,e=>by simp at e
 |g::ns,x::vs,j+1,nd,e1,l=>by
  rw[List.nodup_cons]at nd;have ih:=xA (n:=n) nd.2 e1 (Nat.le_of_succ_le_succ l);simp only[List.take_succ_cons,List.drop_succ_cons,List.cons_append,List.zip_cons_cons,List.lookup]
  by_cases z:n=g
  ·have:n≠f:=fun z'=>nd.1 (z▸z'▸List.mem_of_getElem? e1);simp[z,if_neg (z▸this)]
  ·have:(n==g)=false:=by simpa using z
   simp only[this];exact ih
end
theorem qu{y:Str}{v:Value}:∀{fs:List (Str×Value)},fs.lookup y=some v→(y,v)∈fs
 |p::r,e=>by
  simp only[List.lookup]at e
  split at e
  ·rename_i q;cases e;cases eq_of_beq q;simp
  ·exact List.mem_cons_of_mem _ (qu e)
theorem Ce(C:Nat):(Qi C).Nodup:=by unfold Qi;split<;>decide+kernel
theorem Ey(C:Nat):(Qi C).length<100:=by unfold Qi;split<;>decide+kernel
structure Cls(K:W.Frag)(C:Addr):Prop where
 pg:W.plainGet K C Str.empty=true
 hd:W.hasDictIn K C=true
 po:W.plainOver K C=true
 sa:W.findIn K (.ref C) "__setattr__"=some (some (.builtin "object.__setattr__"))
def uj(K:W.Frag)(C:Addr)(f:Str):Prop:=W.findIn K (.ref C) f=some none
structure qL(K:W.Frag)(C:Addr)(m:Str)(f:Addr):Prop where
 at_:W.findIn K (.ref C) m=some (some (.ref f))
 fn:W.isFn K (.ref f)=true
 kp:W.keepIn K (.ref f)=true
structure Mk(K:W.Frag)(C f:Addr):Prop where
 makes:W.makesIn K C=true
 init:W.findIn K (.ref C) "__init__"=some (some (.ref f))
 fn:W.isFn K (.ref f)=true
 kp:W.keepIn K (.ref C)=true
def OM(g:Heap)(a dx C:Addr)(fs:List (Str×Value)):Prop:=g.get? a=some (W.instObj C dx)∧∃od,g.get? dx=some od∧R4 od fs
section
variable{M:Model}{A:Around}{E:Value→Shared→Prop}{P:Program}{wd:World}{K:W.Frag}{s:Shared}{a dx C:Addr}{fs:List (Str×Value)}{f:Str}
theorem zL{od:Obj}(n:R4 od fs)(name:Str):W.lookIn name od=some (fs.lookup name):=by
 obtain⟨es,ep,hd,hk,_,hm⟩:=n;have e:=hm name;unfold nsFind findBy at e;rw[← Array.find?_toList]at e;unfold W.lookIn;rw[hd];dsimp only
 split
 ·rename_i y q;rw[q]at e;exact congrArg some e
 ·rename_i q;rw[q]at e
  have n:es.toList.any (·.refKey)=false:=by rw[List.any_eq_false];intro y hy;obtain⟨z,t,Wn⟩:=hk y (Array.mem_toList_iff.mp hy);simp[DictEntry.refKey,Wn]
  rw[if_neg (by rw[n];exact Bool.false_ne_true)];exact congrArg some e
theorem OM.look{g:Heap}(I:OM g a dx C fs):∃od,W.InstAt g a (W.instObj C dx) C (some od)∧∀name,W.lookIn name od=some (fs.lookup name):=
 let⟨hx,od,ho,n⟩:=I;⟨od,⟨hx,rfl,rfl,ho⟩,zL n⟩
theorem Er{b:Bool}{v:Value}{Q:Value→Shared→Prop}(k:K.In s.heap)(I:OM s.heap a dx C fs)(c:Cls K C)(n:uj K C f)(l:fs.lookup f=some v)(hv:W.handedIn v=true)(h:Q v { s with toks:=s.toks+1 }):wpAny (model P wd) A (getAttr (.ref a) f b) Q E s:=by obtain⟨od,J,hl⟩:=I.look;exact W.get_value k J (W.plainGet_of c.pg).1 (W.findObj_own c.hd n rfl (by rw[hl,l])) hv h
theorem BW{g:Addr}{pl:Sem Bool}{Q:Value×List Value→Shared→Prop}(k:K.In s.heap)(I:OM s.heap a dx C fs)(c:Cls K C)(m:qL K C f g)(l:fs.lookup f=none)(h:Q (.ref g,[.ref a]) s):wpAny (model P wd) A (getMethod (.ref a) f pl) Q E s:=by obtain⟨od,J,hl⟩:=I.look;exact W.method_fn k J (W.plainGet_of (name:=f) c.pg).1 (W.plainGet_of (name:=f) c.pg).2 m.at_ (beq_iff_eq.mp m.fn) (by show(W.lookIn f od).map (·.isSome)=some false;rw[hl,l];rfl) h
theorem De{v:Value}{Q:Unit→Shared→Prop}(k:K.In s.heap)(I:OM s.heap a dx C fs)(ne:dx≠a)(c:Cls K C)(n:uj K C f)(z:fs.length≤sizeLine)(h:∀h',h'.Ns1 dx (fun y=>if y=f then some v else fs.lookup y)→Heap.SameBut dx s.heap h'→Q () { s with heap:=h',toks:=s.toks+2 }):wpAny (model P wd) A (setAttr (.ref a) f v) Q E s:=by
 obtain⟨od,J,hl⟩:=I.look;obtain⟨hx,TY,ho,es,ep,q1,q2,q3,q4⟩:=id I;have ns:s.heap.Ns1 dx fun y=>fs.lookup y:=⟨TY,es,ep,ho,q1,q2,q3,q4⟩
 have hw:PySem.Within (fun y=>fs.lookup y) (fs.map (·.1)):=fun y hy=>by
  cases e:fs.lookup y with
  |none=>exact absurd e hy
  |some v=>exact List.mem_map.mpr ⟨(y,v),qu e,rfl⟩
 refine W.set_plain k J c.sa (W.osa_open (s:={ s with toks:=s.toks+1 }) (r:=none) k J c.po (by unfold W.takerIn;rw[show W.findIn K (.ref C) f=some none from n];rfl) fun b=>?_);obtain⟨cd,hc,OJ⟩:=W.any_some c.hd;refine wpAny_bind (wpAny_pure (wpAny_bind (wpAny_bind (wpAny_loadPart (show s.heap.get? a=some ⟨.ref C,some dx,.plain, #[]⟩from hx) (wpAny_bind (W.Looks.here (s:={ s with toks:=s.toks+1 }) (W.looks_clsIn k hc) ?_))))));rw[OJ];refine wpAny_pure (a:=some dx) (wpAny_bind (wpAny_pure (wpAny_bind ?_)));refine wpAny_nsSet1 (s:={ s with toks:=s.toks+1 }) ns fun h' Ye Vg=>?_;obtain⟨oD,esD,epD,Wh,Wt,Wx⟩:=Ye.count (PySem.Within.cons f v hw);exact wpAny_bind (wpAny_lookBehind Wh (by rw[Wt];exact pastItsLine_dict (Nat.le_trans Wx (by rw[List.length_cons,List.length_map];omega))) (wpAny_pure (h _ Ye Vg)))
end
section
variable{G:SC}{X:Cx}{w w1:Wo}{ρ:Ev}{h:List PO}{s':Shared}{a:Addr}{i:Nat}{po:PO}
theorem Nw.upd(H:HR X.toSC w h)(em:w.m[i]? =some a)(n:w.F a=none)(k:∀b o,w.s.heap.get? b=some o→b=a∨w.O b=some a∨s'.heap.get? b=some o)(d:∀b o,w.s.heap.get? b=some o→∃o',s'.heap.get? b=some o')(q:qK X.toSC w.F w.m w.O s'.heap a po)(ho:s'.os=w.s.os:=by rfl)(hg:s'.gens=w.s.gens:=by rfl):Nw X w { w with s:=s' } (h.set i po):=by
 have k':∀b o,w.s.heap.get? b=some o→b≠a→w.O b≠some a→s'.heap.get? b=some o:=fun b o e x y=>(k b o e).elim (fun z=>absurd z x) fun z=>z.resolve_left y;refine⟨⟨ho,fun q=>hg▸q,fun _ _ e=>e,fun _ _ e=>e,⟨[],by simp⟩,d,fun b o q _=>⟨o.slots,⟨k' b o q.1 (fun z=>q.2.1 (z▸List.mem_of_getElem? em)) (by rw[q.2.2.2];exact fun z=>nomatch z),q.2⟩,.inr rfl⟩⟩,fun b o e=>k' b o (H.sub b o e) (fun z=>by rw[z,n]at e;cases e) (fun z=>by rw[(H.own b a z).2.2]at e;cases e),fun b x e=>let⟨⟨o,q⟩,z⟩:=H.own b x e;⟨d b o q,z⟩,by simp[H.len],H.nd,fun j o b e1 e2=>?_⟩
 by_cases z:j=i
 ·subst z
  cases em.symm.trans e2
  rw[List.getElem?_set_self (H.len▸(List.getElem?_eq_some_iff.mp em).1)]at e1
  cases e1;exact q
 ·rw[List.getElem?_set_ne (Ne.symm z)]at e1
  have nb:b≠a:=fun y=>z (by obtain⟨l1,q1⟩:=List.getElem?_eq_some_iff.mp e2;obtain⟨l2,q2⟩:=List.getElem?_eq_some_iff.mp em;exact(List.getElem_inj H.nd).mp (q1.trans (y.trans q2.symm)))
  exact(H.obj j o b e1 e2).on (fun _ _ e=>e) (fun _ e=>e) (fun _ _ e=>e) (fun c o e y=>k' c o e (y.elim (fun y=>y▸nb) fun y z=>by subst z;exact(H.own _ _ y).2.1 (List.mem_of_getElem? em)) (y.elim (fun y z=>(H.own c a z).2.1 (y▸List.mem_of_getElem? e2)) fun y z=>nb (Option.some.inj (y.symm.trans z)))) id
theorem HR.ob{C:Nat}{p:PV}{u:Value}{ps:List PV}(H:HR G w h)(r:br G w.F w.m p u)(e:qU C h p=some (i,ps)):∃a Ca dx vs,u=.ref a∧p=.ref i∧w.m[i]? =some a∧w.F a=none∧G.T C=some Ca∧OM w.s.heap a dx Ca ((Qi C).zip vs)∧dx≠a∧w.O dx=some a∧vs.length≤(Qi C).length∧aA G w.F w.m ps vs:=by
 unfold qU at e
 split at e
 ·split at e
  ·rename_i q
   split at e<;>cases e
   subst_vars
   cases r with
   |ref em=>obtain⟨f,Ca,dx,od,vs,c,e1,o,e2,n,l,r⟩:=H.obj _ _ _ q em;exact⟨_,Ca,dx,vs,rfl,rfl,em,f,c,⟨e1,od,e2,n⟩,fun z=>(H.own _ _ o).2.1 (z▸List.mem_of_getElem? em),o,l,r⟩
  ·cases e
 ·cases e
theorem Hq{F:Fz}{m:List Addr}{p:PV}{u:Value}(r:br G F m p u):W.handedIn u=true:=by cases r<;>rfl
structure OC(X:Cx)(C:Nat):Prop where
 ex:∃Ca,X.T C=some Ca∧Cls X.K Ca∧∀f∈Qi C,uj X.K Ca f
variable{f:Str}{o value:Expr}{fo fv:Ex}{pos pos' apos p0:Pos}{C j:Nat}
theorem sT(oc:OC X C)(hj:(Qi C)[j]? =some f)(ho:RE X o fo)(hb:attributeBase o f X.env (eval o X.env)=eval o X.env:=by rfl):RE X (.Attribute o f pos) (c1 (sZ C j) fo):=⟨fun I p=>by
 obtain⟨Ca,t,c,n⟩:=oc.ex;refine Attribute_any_ (ho.r I (p.bind fun w1 h1 a u y r p=>?_)) (by rw[arm_eval_Attribute,hb]);unfold sZ at p
 split at p
 ·rename_i e;obtain⟨a,Cb,dx,vs,rfl,_,em,_,c',O,_,_,_,rr⟩:=y.2.ob r e
  cases t.symm.trans c'
  split at p
  ·obtain⟨v,e3,rq⟩:=rr.get ‹_›;exact Er (I.on y).N5 O c (n f (List.mem_of_getElem? hj)) (pw (Ce C) hj e3) (Hq rq) (p.now y.2 (y.2.Pr rq))
  ·exact p.elim
 ·exact p.elim⟩
theorem wv(oc:OC X C)(hj:(Qi C)[j]? =some f)(ho:RE X o fo)(hv:RE X value fv)(hs:swapsWith value (some (.Attribute o f pos')) pos.line X.env=pure false:=by rfl):RS X (.Assign [.Attribute o f pos'] value pos) (pQ C j fo fv):=⟨fun{w ρ h Q E} I p=>by
 obtain⟨Ca,t,c,n⟩:=oc.ex;refine plainObj_wpAny_Assign_Attribute (hv.r I (bC.e p I fun w1 h1 pv v y1 I1 rv p=>ho.r I1 (bC.e p I1 fun w2 h2 po u y2 I2 r p=>?_))) hs;unfold AE at p
 split at p
 ·rename_i i ps e;obtain⟨a,Cb,dx,vs,rfl,_,em,hf,c',O,ne,od,l,rr⟩:=I2.toHR.ob r e
  cases t.symm.trans c'
  have lj:=(List.getElem?_eq_some_iff.mp hj).1
  have go:∀qs,qs=ps.take j++pv::ps.drop (j+1)→j≤ps.length→bC X w2 Q E (.nx ρ (h2.set i (.obj C qs)))→Wp X (setAttr (.ref a) f v) (fun _=>Q .next) E w2.s:=by
   rintro qs rfl hl p
   have Wm:j≤vs.length:=rr.length▸hl;refine De I2.N5 O ne c (n f (List.mem_of_getElem? hj)) (by have:=Ey C;rw[List.length_zip,sizeLine_eq];omega) fun h' ns sb=>?_;obtain⟨TY,es,ep,e1,e2,e3,e4,e5⟩:=id ns
   have y3:=Nw.upd (X:=X) (s':={ w2.s with heap:=h',toks:=w2.s.toks+2 }) (po:=.obj C (ps.take j++pv::ps.drop (j+1))) I2.toHR em hf (fun b o e=>by
     by_cases z:b=dx
     ·exact .inr (.inl (z▸od))
     ·exact .inr (.inr ((sb.2 b z).trans e))) (fun b o e=>by
     by_cases z:b=dx
     ·exact⟨TY,z▸e1⟩
     ·exact⟨o,(sb.2 b z).trans e⟩) ⟨hf,Ca,dx,TY,vs.take j++v::vs.drop (j+1),t,(sb.2 a (Ne.symm ne)).trans O.1,od,e1,⟨es,ep,e2,e3,e4,fun m=>by rw[e5 m,xA (Ce C) hj Wm]⟩,by simp;omega,(rr.td j).1.app (.cons (y2.1.rep rv) (rr.td (j+1)).2)⟩
   exact p.2 _ y3.s (I2.on y3)
  split at p
  ·exact go _ (by rw[List.set_eq_take_append_cons_drop,if_pos ‹_›]) (Nat.le_of_lt ‹_›) p
  ·split at p
   ·exact go _ (by subst_vars;simp) (Nat.le_of_eq ‹_›) p
   ·exact p.elim
 ·exact p.elim⟩
variable{m x:Str}{e:Expr}{es:List Expr}{fs:Ax}{fn:List PV→List PO→Res PV}
structure ZO(X:Cx)(C:Nat)(m:Str)(fn:List PV→List PO→Res PV):Prop where
 ex:∃Ca c k f fd ps,X.T C=some Ca∧Cls X.K Ca∧qL X.K Ca m f∧m∉Qi C∧O8 X.toSC c k f fd ps fn∧eY k X.A∧(c=true→X.calm=true)∧jC X.K fd ps []
theorem AM{pl:Sem Bool}(c:ZO X C m fn)(ho:RE X o fo)(ha:RA X (e::es) fs)
  (RM:sE0 X e es:=by rfl) (Lj:sP0 X es pos:=by rfl)
  (ht:eval (.Call (.Attribute o m apos) (e::es) [] pos) X.env=(do
   let ov ← eval o X.env
   standAt apos.atName
   let(f,first) ← holding [ov] (getMethod ov m pl)
   callWith pos f first (backTo pos (starEach (e::es) X.env)) (backToKw pos (keywordEach [] X.env))):=by rfl):
  RE X (.Call (.Attribute o m apos) (e::es) [] pos) (gA C fn fo fs):=⟨fun I p=>by
 obtain⟨Ca,cc,k,f,fd,ps,t,c,hm,nm,F,hr,hc,hb⟩:=c.ex;refine W.methodCall_KW (pl:=pl) (ho.r I (p.bind fun w1 h1 q u y r p=>?_)) ht
 split at p
 ·obtain⟨a,Cb,dx,vs,rfl,_,em,_,c',O,_⟩:=y.2.ob r ‹_›
  cases t.symm.trans c'
  have I1:=I.on y;exact BW I1.N5 O c hm (pq nm) (W.callWith_K (first:=[.ref a]) (h₀:=X.base) I.ok.Np hm.kp (ha.r pos I1 (p.bind fun w2 h2 qs us y2 r2 p=>⟨(I1.on y2).N5,F.Ur hr hc hb (I1.on y2) (.cons (y2.1.rep r) r2) p⟩)) RM Lj)
 ·exact p.elim⟩
structure ZK(X:Cx)(C:Nat)(x:Str)(fn:List PV→List PO→Res PV):Prop where
 ex:∃Ca c k f fd ps,X.T C=some Ca∧Mk X.K Ca f∧O8 X.toSC c k f fd ps fn∧eY (k+1) X.A∧(c=true→X.calm=true)∧X.mg x=some (.ref Ca)∧jC X.K fd ps []
theorem make{Ca g:Addr}{fd:FuncData}{k:Nat}{ps:List Str}{qs:List PV}{us:List Value}{Q:Value→Shared→Prop}{E:Value→Shared→Prop}(t:X.T C=some Ca)(M:Mk X.K Ca g){c:Bool}(F:O8 X.toSC c k g fd ps fn)(hr:eY (k+1) X.A)(hc:c=true→X.calm=true)(hb:jC X.K fd ps [])(I:Inv X w ρ h)(r:aA X.toSC w.F w.m qs us)(p:bT X (RV X.toSC) w Q E (Tj C fn qs h)):Wp X (call (.ref Ca) us) Q E w.s:=by
 have hl:fn (.ref h.length::qs) (h++ [.obj C []])≠.bad:=fun z=>by unfold Tj at p;rw[z]at p;exact p
 let s1:Shared:={ w.s with heap:=(w.s.heap.push W.emptyDict).push (W.instObj Ca w.s.heap.objs.size) }
 let w1:Wo:=⟨w.F,fun d=>if d=w.s.heap.objs.size then some (w.s.heap.objs.size+1)else w.O d,w.m++ [w.s.heap.objs.size+1],s1⟩
 have g0:s1.heap.get? w.s.heap.objs.size=some W.emptyDict:=Heap.get?_push_of_some _ (Heap.get?_push_size _ rfl)
 have e1:s1.heap.get? (w.s.heap.objs.size+1)=some (W.instObj Ca w.s.heap.objs.size):=by
  have:=Heap.get?_push_size (w.s.heap.push W.emptyDict) (o:=W.instObj Ca w.s.heap.objs.size) rfl
  rwa [show(w.s.heap.push W.emptyDict).objs.size=w.s.heap.objs.size+1 by simp[Heap.push]]at this
 have n0:=aX w.s.heap
 have n1:w.s.heap.get? (w.s.heap.objs.size+1)=none:=by
  cases q:w.s.heap.get? (w.s.heap.objs.size+1)with
  |none=>rfl
  |some o=>exact absurd (Heap.lt_size q) (Nat.not_lt_of_le (Nat.le_succ _))
 have y:Nw X w w1 (h++ [.obj C []]):=Nw.mk (s':=s1) I.toHR n1 (fun _ _ e=>Heap.get?_push_of_some _ (Heap.get?_push_of_some _ e)) ⟨(I.free n1).2.1,Ca,_,_,[],t,e1,if_pos rfl,g0,⟨#[],0,rfl,by intro e he;simp at he,by simp[UniqKeys],fun n=>by simp[nsFind,findBy]⟩,by simp,.nil⟩ (fun d b e=>by
   by_cases z:d=w.s.heap.objs.size
   ·rw[z,(I.free n0).2.2]at e;cases e
   ·exact(if_neg z).trans e) fun d b e=>by
   by_cases z:d=w.s.heap.objs.size
   ·exact .inr ⟨z▸n0,fun z'=>Nat.ne_of_lt (Nat.lt_succ_self _) (z.symm.trans z'),_,z▸g0⟩
   ·exact .inl ((if_neg z).symm.trans e)
 have I1:=I.on y;have r0:br X.toSC w1.F w1.m (.ref h.length) (.ref (w.s.heap.objs.size+1)):=.ref (by rw[I.len];simp[w1]);have r1:aA X.toSC w1.F w1.m (.ref h.length::qs) (.ref (w.s.heap.objs.size+1)::us):=.cons r0 (y.1.reps r);refine wpAny_call (W.make_core (W.makes_of I.N5 M.makes) (W.looks_findIn I.N5 M.init) (fun self=>W.bind_fn I.N5 self (beq_iff_eq.mp M.fn)) (.inl rfl) (codeAny_mono (F.run (w:=w1) (Q:=fun v s=>v=.none∧Q (.ref (w.s.heap.objs.size+1)) s) (E:=E) rfl (hr.make Ca us []) (fun z=>I.ok.hd (hc z)) (by first|exact I.ok.frames|(simpa[Around.under,Code.envs,Code.isFrame,pushEnvs]using I.ok.frames)) I1.toWd I1.ok r1 (by simpa using hb s1 _ I1.N5 (by rw[List.append_nil,← r1.length];exact F.len _ _ hl)) ?_) ?_))
 ·unfold Tj at p
  split at p
  ·rename_i e;rw[e];exact fun w' x y' rx=>by cases rx;exact⟨rfl,p.2 _ _ (y.trans y') (y'.1.rep r0)⟩
  ·exact p.elim
 ·intro r s hq
  cases r with
  |error e=>exact hq
  |ok fl=>
   cases fl with
   |ret u=>exact hq
   |_=>exact False.elim hq
theorem Gi(c:ZK X C x fn)(hg:Gl X x)(ha:RA X (e::es) fs)(MJ:nD0 x:=by decide)(he:sE0 X e es:=by rfl)(Lj:sP0 X es pos:=by rfl):RE X (.Call (.Name x p0) (e::es) [] pos) (Ab C fn fs):=⟨fun I p=>by obtain⟨Ca,cc,k,f,fd,ps,t,M,F,hr,hc,hm,hb⟩:=c.ex;exact wpAny_Call_Name_kw (I.RX hg hm (W.callWith_K (h₀:=X.base) I.ok.Np M.kp (ha.r pos I (p.bind fun _ _ _ _ y r p=>⟨(I.on y).N5,make t M F hr hc hb (I.on y) r p⟩)) he Lj) MJ)⟩
end
end Z
namespace L3
end L3
namespace Z
open PySem PySem.Spec PyProof.Rows L3 L2
section
variable{G:SC}{X:Cx}{w w1:Wo}{ρ:Ev}{h:List PO}{o e:Expr}{es:List Expr}{fo:Ex}{fs:Ax}{m x:Str}{pos apos p0:Pos}
theorem xN{u:Value}{p:PV}(hg:Gl X x)(hm:X.mg x=some u)(r:∀F m,(∀b o,X.base.get? b=some o→F b=some o)→br X.toSC F m p u)(hd:nD0 x:=by decide):RE X (.Name x pos) (cK p):=⟨fun{w ρ h Q E} I q=>I.RX hg hm (q.here I.toHR (r w.F w.m I.bs)) hd⟩
theorem Gg{n:String}(hg:Gl X x)(hm:X.mg x=none)(hv:bootBuiltins x=some (.type n))(hn:x≠"__name__":=by decide)(hd:nD0 x:=by decide):RE X (.Name x pos) (cK (.ty n)):=⟨fun I p=>I.blt hg hm hv (p.here I.toHR (.ty n)) hn hd⟩
end
end Z
namespace L2
open PySem PySem.Spec PyProof.Rows PySem.W PySem.Builtin PySem.Builtin.ObjectAttr PySem.Builtin.Getset_descriptor
structure Km(K:Frag)(C:Addr):Prop where
 ga:findIn K (.ref C) "__getattribute__"=some (some (.builtin "BaseException.__getattribute__"))
 gt:findIn K (.ref C) "__getattr__"=some none
 mb:mroIn K C (.type "BaseException")=some true
noncomputable def vW:List Value→Bool
 |.ref _::r=>vW r
 |l=>l==[.type "ValueError",.type "Exception",.type "BaseException",.type "object"]||l==[.type "Exception",.type "BaseException",.type "object"]
theorem jE:∀{l:List Value},vW l=true→(l= [.type "ValueError",.type "Exception",.type "BaseException",.type "object"]∨l= [.type "Exception",.type "BaseException",.type "object"])∨∃c r,l=.ref c::r∧vW r=true:=by
 intro l e;unfold vW at e
 split at e
 ·exact .inr ⟨_,_,rfl,e⟩
 ·rw[Bool.or_eq_true]at e;exact .inl (e.imp beq_iff_eq.mp beq_iff_eq.mp)
theorem uq(self:Value):∀(l:List Value),vW l=true→refuseLoop self "__setattr__" l=pure ():=by
 intro l
 induction l with
 |nil=>intro e;rcases jE e with(z|z)|⟨_,_,z,_⟩<;>cases z
 |cons x r ih=>
  intro e;rcases jE e with(z|z)|⟨c,r',z,e'⟩
  ·rw[z];exact PySem.F.store_ValueError.passes self
  ·rw[z];exact PySem.F.store_Exception.passes self
  ·cases z;rw[refuseLoop_ref];exact ih e'
theorem ut:∀(l:List Value),vW l=true→l.contains (.type "object")=true:=by
 intro l
 induction l with
 |nil=>intro e;rcases jE e with(z|z)|⟨_,_,z,_⟩<;>cases z
 |cons x r ih=>
  intro e;rcases jE e with(z|z)|⟨c,r',z,e'⟩
  ·rw[z];decide+kernel
  ·rw[z];decide+kernel
  ·cases z;rw[List.contains_cons,ih e',Bool.or_true]
def FK(K:Frag)(C:Addr):Bool:=(clsIn K C).any fun cd=>cd.hasDict&&vW cd.mro
noncomputable def pC(K:Frag)(C:Addr)(Ni:List Value)(I7:String):Bool:=match K.lookup C with
 |some ⟨.type "type",_,.cls cd,sl⟩=>(match cd.mro,sl.toList with
  |.ref C'::bm,[_,_,_,_,some (.builtin n),_]=>C'==C&&(n==I7&&(!cd.hasDel&&tailIn K Ni bm))
  |_,_=>false)
 |_=>false
theorem ul{K:Frag}{h:Heap}{C:Addr}{Ni:List Value}{I7:String}(Np:K.In h)(ok:pC K C Ni I7=true):
  ∃bm N nm q bs hdct sn sub ab col dd k0 k1 k2 k3 k5,h.get? C=some (excClassObj nm q C N bs bm hdct sn sub ab col dd k0 k1 k2 k3 k5 I7)∧OwnTail h Ni bm:=by
 unfold pC at ok
 split at ok
 case h_2=>exact absurd ok (by decide)
 case h_1 dict S5 Vv lk=>
  split at ok
  case h_2=>exact absurd ok (by decide)
  case h_1 C2 tl f0 f1 f2 f3 nid f5 em es=>
   rw[abX,abX,abX]at ok;obtain⟨z1,z2,z3,z4⟩:=ok;rw[Bool.not_eq_true']at z3;have Uj:Vv= #[f0,f1,f2,f3,some (.builtin nid),f5]:=Array.toList_inj.mp es
   cases beq_iff_eq.mp z1
   cases beq_iff_eq.mp z2
   rcases S5 with⟨c1,c2,c3,c4,c5,c6,c7,c8,c9,W0,WY⟩
   change c3=_ at em;change WY=false at z3;subst em z3 Uj;exact⟨tl,c4,c1,c5,c2,c6,c7,c8,c9,W0,dict,f0,f1,f2,f3,f5,Np _ _ lk,tail_of_in Np z4⟩
section
variable{prog:Program}{w:World}{A:Around}{E:Value→Shared→Prop}{h:Heap}{g:Array GenState}{d:Drawn}{t:Nat}{os:OsState}
variable{nm q:Str}{C N fI:Addr}{bs bm Ni R0 us:List Value}{hdct:Bool}{sn:List Str}{sub:List Value}{ab:Bool}{col:Option Bool}{dd:Option Addr}{k0 k1 k2 k3 k5:Option Value}{B Bn I7 nid L_ inN:String}{oI:Obj}
noncomputable def jp(h:Heap)(C:Addr)(us:List Value):Heap:=
 (h.push { cls:=.type "tuple",data:=.seq us.toArray }).push { cls:=.ref C,data:=.fields #[.ref h.objs.size,.none,.none,.none,.bool false,.none] }
theorem iW{b:Addr}{o:Obj}(e:h.get? b=some o):(jp h C us).get? b=some o:=Heap.get?_push_of_some _ (Heap.get?_push_of_some _ e)
theorem nG:(jp h C us).get? (h.objs.size+1)=some { cls:=.ref C,data:=.fields #[.ref h.objs.size,.none,.none,.none,.bool false,.none] }:=by unfold jp;heap_get
theorem CU{Q:Fin→Shared→Prop}(Fn:ExcBaseFacts Bn I7 inN R0)(RQ:Ni.contains (.type Bn)=true)(FB:ExcBaseFacts B nid L_ Ni)(T:OwnTail h Ni bm)
  (hc:h.get? C=some (excClassObj nm q C N bs bm hdct sn sub ab col dd k0 k1 k2 k3 k5 I7)) (li:∀h',(∀b o,h.get? b=some o→h'.get? b=some o)→Looks (model prog w) h' (typeLookup (.ref C) "__init__") (some (.ref fI)))
  (fo:h.get? fI=some oI) (fc:oI.cls=.type "function") (len:us.length≤sizeLine)
  (go:wpAny (model prog w) A (call (.ref fI) (.ref (h.objs.size+1)::us)) (fun r s'=>r=.none∧Q (.done (.ret (.ref (h.objs.size+1)))) s') E ⟨jp h C us,g,d,t,os⟩):
  wpAny (model prog w) A (Builtin.«type.__call__» ⟨.ref C::us,[]⟩) Q E ⟨h,g,d,t,os⟩:=by
 repeat (first|with_reducible refine wpAny_madeBy_exc hc ?_|with_reducible refine wpAny_loadPart_at hc ?_|wp_step)
 refine codeAny_call_builtin_code (Code.quiet_builtin _ Fn.quiet) (wpAny_check_new_subU Fn RQ T hc (codeAny_exc_new_subU Fn RQ FB T hc ?_ len));change wpAny _ _ _ _ _ _;have T_:(Value.ref C::bm).contains (.ref C)=true:=by rw[List.contains_cons];simp
 have c1:(jp h C us).get? C=some (excClassObj nm q C N bs bm hdct sn sub ab col dd k0 k1 k2 k3 k5 I7):=iW hc;have e1:=nG (h:=h) (C:=C) (us:=us);have L:=li (jp h C us) fun b o e=>iW e;have f1:(⟨jp h C us,g,d,t,os⟩:Shared).TypeIs (.ref fI) "function":=⟨_,iW fo,fc⟩
 change wpAny _ _ _ _ _ ⟨jp h C us,g,d,t,os⟩;unfold isInstance
 repeat (first|(with_reducible refine wpAny_isSubtype_exc c1 ?_;rw[T_])|with_reducible refine wpAny_loadPart_at e1 ?_|wp_step)
 change wpAny _ _ (typeLookup (.ref C) _) _ _ _;refine L.at ?_;refine wpAny_holding (wpAny_bind ?_);unfold bindSpecial;refine wpAny_bind (wpAny_typeOf f1 ?_);rw[if_pos (by decide)];refine wpAny_pure (wpAny_bind (wpAny_mono go (fun r s' z=>?_) fun _ _ z=>z));obtain⟨rfl,z⟩:=z
 wp_walk
 exact z
theorem FI{Q:Value→Shared→Prop}(Fn:ExcBaseFacts Bn I7 inN R0)(RQ:Ni.contains (.type Bn)=true)(FB:ExcBaseFacts B nid L_ Ni)(T:OwnTail h Ni bm)
  (hc:h.get? C=some (excClassObj nm q C N bs bm hdct sn sub ab col dd k0 k1 k2 k3 k5 I7)) (li:∀h',(∀b o,h.get? b=some o→h'.get? b=some o)→Looks (model prog w) h' (typeLookup (.ref C) "__init__") (some (.ref fI)))
  (fo:h.get? fI=some oI) (fc:oI.cls=.type "function") (len:us.length≤sizeLine)
  (go:wpAny (model prog w) (A.under (.builtin "type.__call__" ⟨.ref C::us,[]⟩)) (call (.ref fI) (.ref (h.objs.size+1)::us)) (fun r s'=>r=.none∧Q (.ref (h.objs.size+1)) s') E ⟨jp h C us,g,d,t,os⟩):
  wpAny (model prog w) A (call (.ref C) us) Q E ⟨h,g,d,t,os⟩:=by
 have g1:=tc_lookup;have g2:=tc_bind (.ref C);have ty:(⟨h,g,d,t,os⟩:Shared).TypeIs (.ref C) "type":=⟨_,hc,rfl⟩
 refine wpAny_call (codeAny_of_tree ?_);change wpAny _ _ (callAny (.ref C) _) _ _ _
 repeat (any_goals (first|with_reducible refine wpAny_loadPart_at hc ?_|assumption|wp_step))
 refine⟨rfl,codeAny_call_builtin_at (Code.quiet_builtin _ (by decide+kernel)) entry_typeCall (wpAny_check_type_call_sub hc (CU Fn RQ FB T hc li fo fc len go))⟩
end
noncomputable def kx(h:Heap)(x:Addr):Heap:=(h.push { cls:=.type "dict",data:=.dict #[] }).update x fun o=> { cls:=o.cls,dict:=some h.objs.size,data:=o.data,slots:=o.slots }
section
variable{prog:Program}{w:World}{A:Around}{E:Value→Shared→Prop}{K:Frag}{x C:Addr}{ox:Obj}{name:Str}{tk:Tok}{v:Value}{s:Shared}
theorem Ap{h:Heap}(hx:x<h.objs.size):(kx h x).get? h.objs.size=some { cls:=.type "dict",data:=.dict #[] }:=by unfold kx;rw[Heap.get?_update_ne _ _ _ _ (Nat.ne_of_gt hx)];exact Heap.get?_push_at rfl rfl
theorem Io{R:Result→Shared→Prop}(Np:K.In s.heap)(I:W.InstAt s.heap x ox C none)(Yj:ox.dict=none)(vc:FK K C=true)(ha:findIn K (.ref C) name=some none)
  (go:∀h',h'.Ns1 s.heap.objs.size (fun y=>if y=name then some v else none)→Heap.SameBut s.heap.objs.size (kx s.heap x) h'→R (.ok (.ret .none)) { s with heap:=h',toks:=s.toks+1 }):
  codeAny (model prog w) A (.call (.builtin "object.__setattr__") ⟨[.ref x,.str name tk,v],[]⟩) R s:=by
 obtain⟨cd,hc,hv⟩:=any_some vc;rw[abX]at hv
 have ne:cd.mro.isEmpty=false:=by
  cases z:cd.mro with
  |nil=>rw[z]at hv;exact absurd (ut _ hv.2) (by decide)
  |cons _ _=>rfl
 have isO:Looks (model prog w) s.heap (isInstance (.ref x) (.type "object")) true:=I.type.andThen (looks_mroIn Np (by unfold mroIn;rw[hc,Option.bind_some,if_neg (by rw[ne];decide),ut _ hv.2]));have hm:Looks (model prog w) s.heap (mroOf (.ref C)) cd.mro:=(looks_clsIn Np hc).andThen .now;refine codeAny_call_builtin PySem.F.store_object.slot.plain PySem.F.store_object.entry (@check_slot (model prog w) _ _ s "object.__setattr__" "object" "__setattr__" (.ref x) [.str name tk,v] [] _ PySem.F.store_object.kind PySem.F.store_object.split isO (PySem.F.store_object.args (.ref x) (.str name tk) v) ?_);rw[osa_eq,refuse_eq];refine wpAny_bind (wpAny_bind (I.type.here (wpAny_bind (hm.here ?_))));rw[uq _ _ hv.2];refine wpAny_pure (wpAny_bind (I.type.here (wpAny_bind ((looks_findIn Np ha).here (wpAny_bind (wpAny_pure (a:=none) ?_))))));obtain⟨hx,Tn,hn, -⟩:=I;obtain⟨oc,odi,Ze,TX⟩:=ox;dsimp only at Tn Yj;subst Tn Yj;refine wpAny_bind (wpAny_pure (wpAny_bind (wpAny_bind (wpAny_loadPart hx (wpAny_bind ((looks_clsIn Np hc).here ?_))))));rw[hv.1,if_neg (by decide)];dsimp only;rw[if_neg (by simp[typeHasDict])]
 split
 ·cases hn
 ·have x1:(s.heap.push { cls:=.type "dict",data:=.dict #[] }).get? x=some { cls:=.ref C,data:=Ze,slots:=TX }:=Heap.get?_push_of_some _ hx;refine wpAny_bind (wpAny_alloc' (wpAny_bind (wpAny_update' x1 (wpAny_pure ?_))));show wpAny _ _ (storeInDict s.heap.objs.size (.str name tk) name v) _ _ { s with heap:=kx s.heap x };have e0:(kx s.heap x).Ns s.heap.objs.size (fun _=>none):=⟨_, #[],_,Ap (Heap.lt_size hx),rfl,fun e he=>absurd he (by simp),fun _=>rfl⟩
  unfold storeInDict newKeyGuard;refine wpAny_bind (wpAny_pure (wpAny_bind (wpAny_nsSet1 (s:={ s with heap:=kx s.heap x }) (Heap.Ns1.of_empty e0) fun h' n1 sb=>?_)));obtain⟨oD,esD,epD,Wh,Wt,Wx⟩:=n1.count (PySem.Within.cons name v PySem.Within.nil);refine wpAny_bind (wpAny_lookBehind Wh (by rw[Wt];exact pastItsLine_dict (Nat.le_trans Wx (by rw[sizeLine_eq,List.length_singleton];decide))) ?_);exact wpAny_pure (go h' n1 sb)
end
theorem Cj{K:W.Frag}{h:Heap}{C:Addr}{Ni:List Value}{I7:String}(Np:K.In h)(ok:W.excIn K C Ni I7=true):
  ∃bm N nm q bs hdct sn sub ab col dd k0 k1 k2 k3 k5 mN,h.get? C=some (excClassObj nm q C N bs bm hdct sn sub ab col dd k0 k1 k2 k3 k5 I7)∧h.Ns N mN∧mN "__init__"=none∧OwnTail h Ni bm:=by
 unfold W.excIn at ok
 split at ok
 case h_2=>exact absurd ok (by decide)
 case h_1 dict S5 Vv lk=>
  split at ok
  case h_2=>exact absurd ok (by decide)
  case h_1 C2 tl f0 f1 f2 f3 nid f5 em es=>
   rw[abX,abX,abX,abX,abX]at ok;obtain⟨⟨⟨⟨⟨z1,z2⟩,z3⟩,z4⟩,z5⟩,z6⟩:=ok;rw[Bool.not_eq_true']at z3;have Uj:Vv= #[f0,f1,f2,f3,some (.builtin nid),f5]:=Array.toList_inj.mp es
   cases beq_iff_eq.mp z1
   cases beq_iff_eq.mp z2
   rcases S5 with⟨c1,c2,c3,c4,c5,c6,c7,c8,c9,W0,WY⟩
   change c3=_ at em;change WY=false at z3;subst em z3 Uj;exact⟨tl,c4,c1,c5,c2,c6,c7,c8,c9,W0,dict,f0,f1,f2,f3,f5,_,Np _ _ lk,.of_isNs (W.isNs_of_in Np z5),W.nsMap_none_of_in Np z5 (beq_iff_eq.mp z6),W.tail_of_in Np z4⟩
structure Vo(K:Frag)(C fI:Addr)(f:Str):Prop where
 lies:pC K C [.type "ValueError",.type "Exception",.type "BaseException",.type "object"] "ValueError.__new__"=true∨pC K C [.type "Exception",.type "BaseException",.type "object"] "Exception.__new__"=true
 init:findIn K (.ref C) "__init__"=some (some (.ref fI))
 fn:isFn K (.ref fI)=true
 kp:keepIn K (.ref C)=true
 v:FK K C=true
 sa:findIn K (.ref C) "__setattr__"=some (some (.builtin "object.__setattr__"))
 no:findIn K (.ref C) f=some none
 hd:hasDictIn K C=true
 x:Km K C
theorem wx{M:Model}{A:Around}{Ee:Value→Shared→Prop}{env:Env}{x:Sem Value}{Q:Flow→Shared→Prop}{s:Shared}(hh:A.handled=none)
  (h:wpAny M A x (fun v s1=>∃(e C N t:Addr)(dx:Option Addr)(sl:Array (Option Value))(nm q:Str)(bs bm:List Value)(hdct:Bool)(sn:List Str)(sub:List Value)(ab:Bool)(col:Option Bool)(dd:Option Addr)(k0 k1 k2 k3 k5:Option Value)(nid:String),
   v=.ref e∧s1.heap.get? C=some (excClassObj nm q C N bs bm hdct sn sub ab col dd k0 k1 k2 k3 k5 nid)∧bm.contains (.type "BaseException")=true∧s1.heap.get? e=some ⟨.ref C,dx,.fields #[.ref t,.none,.none,.none,.bool false,.none],sl⟩∧Ee (.ref e) s1) Ee s):
  wpAny M A (raiseStmt env (some x) none) Q Ee s:=by
 unfold raiseStmt;refine wpAny_bind (wpAny_mono h (fun v s1 z=>?_) fun _ _ z=>z);obtain⟨e,C,N,t,dx,sl,nm,q,bs,bm,hdct,sn,sub,ab,col,dd,k0,k1,k2,k3,k5,nid,rfl,hC,hB,he,hE⟩:=z;have both:(Value.ref C::bm).contains (.type "BaseException")=true:=by rw[List.contains_cons,hB,Bool.or_true]
 obtain⟨hp,g,d,tk,os⟩:=s1
 repeat (first|with_reducible refine wpAny_loadPart_at he ?_|with_reducible refine wpAny_loadPart_at hC ?_|(with_reducible refine wpAny_isSubtype_exc hC ?_;rw[both])|wp_step)
 exact wpAny_raiseNew_none hh hE
end L2
namespace L3
open PySem
noncomputable def sN(C:Nat)(as:Ax):Sx:=fun ρ h=>match as ρ h with
 |.ok qs h1=>if qs.length≤sizeLine then .exc (.cls C) h1 else .bad
 |.exc e h1=>.exc e h1
 |.bad=>.bad
noncomputable def nO(C:Nat):Res (List PV)→SR
 |.ok [v] h1=>.exc (.Nh C v) h1
 |.exc e h1=>.exc e h1
 |_=>.bad
def lG(z:Bool)(C:Nat)(as:Ax):Sx:=if z=true then fun ρ h=>nO C (as ρ h)else fun _ _=>.bad
end L3
namespace Z
open PySem PySem.Spec PyProof.Rows L3 L2
section
variable{X:Cx}{w w1 w3:Wo}{ρ:Ev}{h:List PO}{a:Addr}{o:Obj}
theorem rQ{vs:Array Value}{a0:Value}(ok:X.Ok)(W:Wd X w3 h)(y:Od X w w3)(tr:X.tr=true)(nw:w.s.heap.get? a=none)(ha:Has w3 a o)(hd:o.data=.fields vs)(h0:vs[0]? =some a0)(h1:vs[1]? =some .none):Ux X w w3 a o.cls o.dict:=by
 have na:a∉X.fs:=fun z=>by obtain⟨o',q,d⟩:=W.fr a z;have q:=q.1;rw[ha.1]at q;cases q;exact d vs hd
 refine⟨⟨a0,PySem.W.hideAll w3.s.heap (a::X.fs),.inr ⟨tr,fun b o q=>PySem.W.of_hideAll _ q,PySem.W.hideAll_none _ (by simp),rP (fun env he=>?_) fun b hb=>let⟨o,q,d⟩:=W.fr b hb;⟨o,q.1,d⟩,o,vs,ha.1,rfl,hd,h0,h1⟩,fun b o' e n=>?_,fun b z=>?_⟩,o,ha.1,rfl⟩
 ·obtain⟨k,L,e,_⟩:=ok.sf env he;exact⟨k,L,e,PySem.W.hideAll_none _ (List.mem_cons_of_mem _ (List.mem_filterMap.mpr ⟨env,he,e⟩))⟩
 ·obtain⟨o2,q⟩:=y.dom b o' e;exact⟨o2,PySem.W.hideAll_get _ q (by simp only[List.mem_cons,not_or];exact⟨fun z=>(by rw[z,nw]at e;cases e),n⟩)⟩
 ·have nb:b∉a::X.fs:=by simp only[List.mem_cons,not_or];exact⟨fun q=>z (q▸ha.2),fun q=>let⟨_,r,_⟩:=W.fr b q;z r.2⟩
  have go:(∃o,w3.s.heap.get? b=some o)→∃o',(PySem.W.hideAll w3.s.heap (a::X.fs)).get? b=some o':=(by rintro ⟨o,q⟩;exact ⟨o,PySem.W.hideAll_get _ q nb⟩)
  by_cases z1:b∈w3.m
  ·exact go (W.toHR.there z1)
  ·cases z2:w3.F b with
   |some o=>exact go ⟨o,W.sub b o z2⟩
   |none=>cases z3:w3.O b with
    |some x=>exact go (W.own b x z3).1
    |none=>exact absurd ⟨z1,z2,z3⟩ z
structure ZX(X:Cx)(C:Nat)(x:Str):Prop where
 ex:∃Ca Ni I7 Bn inN R0 B nid L_,ExcBaseFacts Bn I7 inN R0∧Ni.contains (.type Bn)=true∧ExcBaseFacts B nid L_ Ni∧W.excIn X.K Ca Ni I7=true∧X.T C=some Ca∧X.mg x=some (.ref Ca)
variable{x:Str}{C:Nat}{np MN pos:Pos}{e0:Expr}{es:List Expr}{fs:Ax}
theorem AJ(c:ZX X C x)(hg:Gl X x)(ha:RA X (e0::es) fs)(hc:X.calm=true:=by rfl)(Wc:X.tr=true:=by rfl)(MJ:nD0 x:=by decide)(he:starEach (e0::es) X.env=(false,eval e0 X.env)::starEach es X.env:=by rfl)(Lj:(backTo MN (starEach es X.env)).any (·.1)=false:=by rfl):
  RS X (.Raise (some (.Call (.Name x np) (e0::es) [] MN)) none pos) (sN C fs):=⟨fun{w ρ h Q E} I p=>by
 obtain⟨Ca,Ni,I7,Bn,inN,R0,B,nid,L_,Fn,RQ,FB,ok,t,hm⟩:=c.ex;obtain⟨bm,N,nm,q,bs,hdct,sn,sub,ab,col,dd,k0,k1,k2,k3,k5,mN,hC,hN,hni,T⟩:=Cj I.ok.Np ok
 have step:=ha.r MN I (bC.e (k:=fun qs h1=>if qs.length≤sizeLine then .exc (.cls C) h1 else .bad) (show bC X w Q E (fT (fs ρ h) _) by unfold sN at p;cases z:fs ρ h<;>rw[z]at p<;>exact p) I (G:=fun us s2=>us.length≤sizeLine∧s2.heap.get? Ca=some (excClassObj nm q Ca N bs bm hdct sn sub ab col dd k0 k1 k2 k3 k5 I7)∧s2.heap.Ns N mN∧OwnTail s2.heap Ni bm∧∀(h':Heap)(e:Addr),s2.heap.MadeExcOf h' e (.ref Ca) us→E (.ref e) { s2 with heap:=h' }) fun w2 h2 qs us y I2 r p=>by
  split at p
  ·refine⟨r.length▸ ‹_›,I2.bk hC,hN.keeps fun _ _ e=>I2.bk e,T.keeps fun _ _ e=>I2.bk e,fun h' e made=>?_⟩;have n:=Nw.also (X:=X) (s':={ w2.s with heap:=h' }) I2.toHR made.keeps;have I3:=I2.on n;obtain⟨tt,e1,_⟩:=made.there;exact p.2 _ _ ρ n.s I3 ⟨e,_,none,rfl,rQ I3.ok I3.toWd n.s Wc made.new ⟨e1,I2.toHR.free made.new⟩ rfl rfl rfl,Ca,t,rfl,rfl⟩
  ·exact p.elim)
 refine wpAny_Raise_call_subU (C:=Ca) (nm:=nm) (q:=q) (N:=N) (bs:=bs) (bm:=bm) (hdct:=hdct) (sn:=sn) (sub:=sub) (ab:=ab) (col:=col) (dd:=dd) (k0:=k0) (k1:=k1) (k2:=k2) (k3:=k3) (k5:=k5)
  Fn RQ FB (mN:=mN) (T.hasType FB.hasBase) (I.ok.hd hc) ?_ hni (I.RX hg hm ⟨rfl,?_⟩ MJ)
 ·rw[he];show(false||(backTo MN (starEach es X.env)).any (·.1))=false;rw[Lj];rfl
 ·rw[he]at step ⊢;exact Calls.evalArgs_plain (wpAny_mono step (fun us s2 z=>⟨rfl,z⟩) fun _ _ z=>z)⟩
structure W_(G:SC)(fI:Addr)(fd:FuncData)(ps:List Str)(f:Str):Prop where
 len:ps.length=2
 run:∀{X:Cx}{w:Wo}{h:List PO}{A:Around}{C:Nat}{Ca a:Addr}{o:Obj}{vs:Array Value}{v:PV}{u:Value}{args:Args}{Q:Value→Shared→Prop}{E:Value→Shared→Prop},X.toSC=G→eY 1 A→A.handled=none→A.frames=some X.stack→Wd X w h→X.Ok→G.T C=some Ca→Vo G.K Ca fI f→Has w a o→o.cls=.ref Ca→o.data=.fields vs→o.dict=none→br G w.F w.m v u→BindsTo w.s fd args (ps.zip [.ref a,u])→
  (∀h' t dx od,(∀b o,b≠a→w.s.heap.get? b=some o→h'.get? b=some o)→h'.get? a=some { o with dict:=some dx }→w.s.heap.get? dx=none→h'.get? dx=some od→R4 od [(f,u)]→Q .none { w.s with heap:=h',toks:=t })→codeAny (model G.prog G.w) A (.call (.ref fI) args) (RC Q E) w.s
theorem HR.freeze{G:SC}(H:HR G w h)(ha:Has w a o):HR G ⟨iQ w.F a o,w.O,w.m,w.s⟩ h:=by
 have nb:∀{b},¬ O3 w b→b≠a:=fun n z=>n (z▸ha.2);refine⟨fun b x e=>?_,fun d b e=>let⟨q,z,y⟩:=H.own d b e;⟨q,z,cP (nb fun z=>by rw[z.2.2]at e;cases e) y⟩,H.len,H.nd,fun i po b e1 e2=>(H.obj i po b e1 e2).on (dj ha.2.2.1) (fun _ e=>e) (fun _ _ e=>e) (fun _ _ e _=>e) (cP (nb fun z=>z.1 (List.mem_of_getElem? e2)))⟩
 by_cases z:b=a
 ·subst z;cases bL.symm.trans e;exact ha.1
 ·exact H.sub b x ((jW z).symm.trans e)
theorem Cf{G:SC}{N ps:List Str}{qual name f x y':Str}{st:Stmt}{fI:Addr}{fd:FuncData}{p1 p2 p3 p4:Pos}(F:S8 G.K name qual st fI fd)(S:lQ N ps (aV st))(hl:ps.length=2)(hx:N[0]? =some x)(hy:N[1]? =some y')(hb:iB st= [.Assign [.Attribute (.Name x p1) f p2] (.Name y' p3) p4])
  (hs:∀env,swapsWith (.Name y' p3) (some (.Attribute (.Name x p1) f p2)) p4.line env=pure false:=by intro _;rfl) (hd:nD0 x:=by decide) (Rc:(x==("__classdict__":Str))=false:=by decide) (OJ:(y'==("__debug__":Str))=false:=by decide) (Wv:(y'==("__classdict__":Str))=false:=by decide):W_ G fI fd ps f where
 len:=hl
 run {X w h A C Ca a o vs v u args Q E} hG hr hn hf I ok t c ha Tn hda hdi r hbd q:=by
  subst hG
  have H':Wd X ⟨iQ w.F a o,w.O,w.m,w.s⟩ h:=⟨I.toHR.freeze ha,I.ba,fun b o' e=>dj ha.2.2.1 _ _ (I.bs b o' e),fun b hb=>by obtain⟨o',z,d⟩:=I.fr b hb;exact⟨o',⟨z.1,z.2.1,cP (fun y=>by subst y;have z:=z.1;rw[ha.1]at z;cases z;exact d vs hda) z.2.2.1,z.2.2.2⟩,d⟩⟩
  refine nZ (c:=true) (w:=⟨iQ w.F a o,w.O,w.m,w.s⟩) (qs:=[.exc C,v]) F S hr (fun _=>hn) hf H' ok hl.symm (.cons (.exc t bL Tn hda) (.cons (r.mono (dj ha.2.2.1) (.inr fun _ _ e=>e)) .nil)) hbd fun cd s1 _ nw y J gr=>?_;obtain⟨h1,t1,rfl,kp,m,ns,lk⟩:=gr;have px:ps[0]? =some x∧ps[1]? =some y':=by rw[← S.pre,hl];exact⟨by rw[List.getElem?_take_of_lt (by decide)];exact hx,by rw[List.getElem?_take_of_lt (by decide)];exact hy⟩
  rw[hb];refine wpAny_execs_cons (plainObj_wpAny_Assign_Attribute ((lk 1 _ _ px.2 rfl).nm ns J.ok ((lk 0 _ _ px.1 rfl).nm ns J.ok ?_ hd Rc) OJ Wv) (hs _));have ho:h1.get? a=some o:=kp _ _ ha.1;have I0:W.InstAt h1 a o Ca none:=⟨ho,Tn,by unfold W.notCls;rw[hda],by rw[hdi];exact True.intro⟩
  refine W.set_plain J.N5 I0 c.sa (Io (s:={ w.s with heap:=h1,toks:=t1+1 }) J.N5 I0 hdi c.v c.no fun h' Pk sb=>wpAny_execs_nil ?_);obtain⟨od,es,ep,e1,e2,e3,e4,e5⟩:=Pk;have ne:a≠h1.objs.size:=Nat.ne_of_lt (Heap.lt_size ho)
  have hk:∀b q,b≠a→h1.get? b=some q→h'.get? b=some q:=fun b q hb z=>by rw[sb.2 b (Nat.ne_of_lt (Heap.lt_size z))];unfold kx;rw[Heap.get?_update_ne _ _ _ _ hb];exact Heap.get?_push_of_some _ z
  refine q h' _ h1.objs.size od (fun b q hb z=>hk b q hb (kp b q z)) ?_ ?_ e1 ⟨es,ep,e2,e3,e4,fun n=>?_⟩
  ·rw[sb.2 a ne];unfold kx;refine Heap.get?_update_self _ (Heap.get?_push_of_some _ ho) ?_;have fr:=(Heap.get?_some_iff.mp ho).2;obtain⟨oc,od,Zd,TX⟩:=o
   cases Zd<;>first|rfl|exact fr
  ·cases z:w.s.heap.get? h1.objs.size with
   |none=>rfl
   |some o=>have:=kp _ _ z;rw[aX]at this;cases this
  ·rw[e5 n]
   by_cases z:n=f
   ·simp[z,List.lookup]
   ·have:(n==f)=false:=by simpa using z
    simp[z,List.lookup,this]
structure ZI(X:Cx)(C:Nat)(x:Str):Prop where
 ex:∃Ca fI fd ps,X.T C=some Ca∧X.mg x=some (.ref Ca)∧W_ X.toSC fI fd ps (R7 C)∧Vo X.K Ca fI (R7 C)∧jC X.K fd ps []
theorem Im{Ca fI:Addr}{fd:FuncData}{ps:List Str}{v:PV}{u:Value}{Q:Value→Shared→Prop}{E:Value→Shared→Prop}(t:X.T C=some Ca)(F:W_ X.toSC fI fd ps (R7 C))(c:Vo X.K Ca fI (R7 C))(hb:jC X.K fd ps [])(hr:eY 2 X.A)(hd:X.A.handled=none)(I:Inv X w ρ h)(r:br X.toSC w.F w.m v u)
  (q:∀h' tk a dx od tt,Nw X w ⟨iQ w.F dx od,w.O,w.m,{ w.s with heap:=h',toks:=tk }⟩ h→w.s.heap.get? a=none→dx≠a→h'.get? a=some ⟨.ref Ca,some dx,.fields #[.ref tt,.none,.none,.none,.bool false,.none], #[]⟩→R4 od [(R7 C,u)]→Q (.ref a) { w.s with heap:=h',toks:=tk }):Wp X (call (.ref Ca) [u]) Q E w.s:=by
 obtain⟨Ni,I7,Bn,inN,R0,B,nid,L_,Fn,RQ,FB,lz⟩:∃Ni I7 Bn inN R0 B nid L_,ExcBaseFacts Bn I7 inN R0∧Ni.contains (.type Bn)=true∧ExcBaseFacts B nid L_ Ni∧pC X.K Ca Ni I7=true:=by
  rcases c.lies with l|l
  ·exact⟨_,_,_,_,_,_,_,_,PySem.F.excBase_ValueError,by decide+kernel,PySem.F.excBase_ValueError,l⟩
  ·exact⟨_,_,_,_,_,_,_,_,PySem.F.excBase_Exception,by decide+kernel,PySem.F.excBase_Exception,l⟩
 obtain⟨bm,N,nm,q0,bs,hdct,sn,sub,ab,col,dd,k0,k1,k2,k3,k5,hC,T⟩:=ul I.N5 lz;have L:∀h',(∀b o,w.s.heap.get? b=some o→h'.get? b=some o)→W.Looks (model X.prog X.w) h' (typeLookup (.ref Ca) "__init__") (some (.ref fI)):=fun h' k=>W.looks_findIn (I.N5.keeps k) c.init
 obtain⟨oI,fo,fc⟩:∃oI,w.s.heap.get? fI=some oI∧oI.cls=.type "function":=by obtain⟨oI,h1,h2⟩:=Option.map_eq_some_iff.mp (show(X.K.lookup fI).map (·.cls)=some (.type "function")from beq_iff_eq.mp c.fn);exact⟨oI,I.N5 _ _ h1,h2⟩
 have kp:∀b o,w.s.heap.get? b=some o→(jp w.s.heap Ca [u]).get? b=some o:=fun b o e=>iW e;have n:=Nw.also (X:=X) (s':={ w.s with heap:=jp w.s.heap Ca [u] }) I.toHR kp;have I1:=I.on n
 have na:w.s.heap.get? (w.s.heap.objs.size+1)=none:=by
  cases q:w.s.heap.get? (w.s.heap.objs.size+1)with
  |none=>rfl
  |some o=>exact absurd (Heap.lt_size q) (Nat.not_lt_of_le (Nat.le_succ _))
 refine FI (h:=w.s.heap) (g:=w.s.gens) (d:=w.s.drawn) (t:=w.s.toks) (os:=w.s.os) Fn RQ FB T hC L fo fc (by show 1≤sizeLine;decide) ?_;have bd:=hb { w.s with heap:=jp w.s.heap Ca [u] } [.ref (w.s.heap.objs.size+1),u] I1.N5 (by rw[List.append_nil,F.len];rfl);rw[List.append_nil]at bd;refine wpAny_call (codeAny_mono (F.run (w:={ w with s:={ w.s with heap:=jp w.s.heap Ca [u] } }) (args:=⟨[.ref (w.s.heap.objs.size+1),u],[]⟩) (Q:=fun v s=>v=.none∧Q (.ref (w.s.heap.objs.size+1)) s) (E:=fun _ _=>False) rfl (hr.make Ca [u] []) hd (by first|exact I.ok.frames|(simpa[Around.under,Code.envs,Code.isFrame,pushEnvs]using I.ok.frames)) I1.toWd I1.ok t c ⟨nG,I.toHR.free na⟩ rfl rfl rfl r bd fun h' tk dx od k ha nd hdx ns=>⟨rfl,?_⟩) fun r s' hq=>?_)
 ·have Ro:w.s.heap.get? dx=none:=by
   cases z:w.s.heap.get? dx with
   |none=>rfl
   |some o=>rw[kp _ _ z]at nd;cases nd
  exact q h' tk _ dx od _ (Nw.lay I.toHR Ro (fun b o e=>k b o (fun z=>by rw[z,na]at e;cases e) (kp b o e)) hdx) na (fun z=>by rw[z,nG]at nd;cases nd) ha ns
 ·cases r with
  |error e=>exact hq.elim
  |ok fl=>
   cases fl with
   |ret u=>exact hq
   |_=>exact False.elim hq
theorem rn{k:Nat}{e:Expr}(c:ZI X C x)(hr:eY k X.A)(hg:Gl X x)(ha:RA X [e] fs)(hc:X.calm=true:=by rfl)(Wc:X.tr=true:=by rfl)(MJ:nD0 x:=by decide)(he:starEach [e] X.env= [(false,eval e X.env)]:=by rfl)(Lj:(backTo MN (starEach [] X.env)).any (·.1)=false:=by rfl):
  RS X (.Raise (some (.Call (.Name x np) [e] [] MN)) none pos) (lG (Nat.ble 2 k) C fs):=⟨fun{w ρ h Q E} I p=>by
 unfold lG at p
 split at p
 ·rename_i hz;obtain⟨Ca,fI,fd,ps,t,hm,F,c,hb⟩:=c.ex
  obtain⟨Ni,I7,Wb,lz⟩:∃(Ni:List Value)(I7:String),Ni.contains (.type "BaseException")=true∧pC X.K Ca Ni I7=true:=by
   rcases c.lies with l|l
   ·exact⟨_,_,by decide+kernel,l⟩
   ·exact⟨_,_,by decide+kernel,l⟩
  obtain⟨bm,N,nm,q0,bs,hdct,sn,sub,ab,col,dd,k0,k1,k2,k3,k5,hC,T⟩:=ul I.ok.Np lz;rw[arm_exec_Raise]
  refine wpAny_bind (wpAny_standAt (wx (I.ok.hd hc) (wpAny_bind (wpAny_mono (Q:=fun v s1=>∃(e C N t:Addr)(dx:Option Addr)(sl:Array (Option Value))(nm q:Str)(bs bm:List Value)(hdct:Bool)(sn:List Str)(sub:List Value)(ab:Bool)(col:Option Bool)(dd:Option Addr)(k0 k1 k2 k3 k5:Option Value)(nid:String),
   v=.ref e∧s1.heap.get? C=some (excClassObj nm q C N bs bm hdct sn sub ab col dd k0 k1 k2 k3 k5 nid)∧bm.contains (.type "BaseException")=true∧s1.heap.get? e=some ⟨.ref C,dx,.fields #[.ref t,.none,.none,.none,.bool false,.none],sl⟩∧E (.ref e) s1) (wpAny_Call_Name_kw (I.RX hg hm (W.callWith_K (h₀:=X.base) I.ok.Np c.kp (ha.r MN I ?_) he Lj) MJ)) (fun v s1 z=>wpAny_bind (wpAny_standAt (wpAny_pure z))) fun _ _ z=>z))))
  have p:bC X w Q E (fT (fs ρ h) fun qs h1=>nO C (.ok qs h1)):=by
   have p:bC X w Q E (nO C (fs ρ h)):=p
   cases z:fs ρ h<;>rw[z]at p<;>exact p
  refine bC.e p I fun w2 h2 qs us y I2 r p=>⟨I2.N5,?_⟩
  unfold nO at p
  split at p
  ·rename_i z
   cases z
   cases r with
   |cons r t'=>
    cases t'
    refine Im t F c hb (hr.mono (Nat.le_of_ble_eq_true hz)) (I.ok.hd hc) I2 r fun h' tk a dx od tt n na ne ea ns=>?_;have I3:=I2.on n;have ha:Has ⟨iQ w2.F dx od,w2.O,w2.m,{ w2.s with heap:=h',toks:=tk }⟩ a ⟨.ref Ca,some dx,.fields #[.ref tt,.none,.none,.none,.bool false,.none], #[]⟩:=⟨ea,(I2.toHR.free na).1,cP (Ne.symm ne) (I2.toHR.free na).2.1,(I2.toHR.free na).2.2⟩
    exact⟨a,Ca,N,tt,_,_,nm,q0,bs,bm,hdct,sn,sub,ab,col,dd,k0,k1,k2,k3,k5,_,rfl,I3.bk hC,T.hasType Wb,ea,p.2 _ _ ρ n.s I3 ⟨a,_,_,rfl,rQ I3.ok I3.toWd n.s Wc na ha rfl rfl rfl,Ca,dx,od,_,_,t,rfl,rfl,bL,ns,by simp[List.lookup],n.1.rep r⟩⟩
  ·rename_i z;cases z
  ·exact p.elim
 ·exact p.elim⟩
end
end Z
namespace L3
noncomputable def Ka:PV→Option (Nat×PV)
 |.cls C=>some (C,.exc C)
 |.Nh C v=>some (C,.Nh C v)
 |_=>none
end L3
namespace Z
open PySem PySem.Spec PyProof.Rows L3 L2
section
variable{X:Cx}{w w1 w3:Wo}{ρ:Ev}{h h1:List PO}{a:Addr}{o:Obj}
abbrev Cx.tried(X:Cx):Cx:={ X with tr:=false,Ep:=fun _=>True }
abbrev Cx.suite(X:Cx)(a:Addr):Cx:={ X with A:=X.A.mark (some (.ref a)),calm:=false,tr:=false,Ep:=fun _=>True }
theorem Inv.tried(I:Inv X w ρ h):Inv X.tried w ρ h:=⟨⟨I.toHR,I.ba,I.bs,I.fr⟩,⟨I.ok.Np,I.ok.gl,I.ok.bl,I.ok.nl,I.ok.kind,I.ok.glob,I.ok.blt,I.ok.inj,I.ok.has,I.ok.hd,I.ok.frames,I.ok.nd,I.ok.sf⟩,I.loc,I.PJ,I.ln⟩
theorem Inv.suite(I:Inv X w ρ h):Inv (X.suite a) w ρ h:=⟨⟨I.toHR,I.ba,I.bs,I.fr⟩,⟨I.ok.Np,I.ok.gl,I.ok.bl,I.ok.nl,I.ok.kind,I.ok.glob,I.ok.blt,I.ok.inj,I.ok.has,fun z=>(nomatch z),I.ok.frames,I.ok.nd,I.ok.sf⟩,I.loc,I.PJ,I.ln⟩
theorem Inv.Rn(ok:X.Ok)(I:Inv (X.suite a) w ρ h):Inv X w ρ h:=⟨⟨I.toHR,I.ba,I.bs,I.fr⟩,ok,I.loc,I.PJ,I.ln⟩
theorem Nw.freeze(n:Nw X w w1 h)(na:w.s.heap.get? a=none)(ha:Has w1 a o):Nw X w ⟨iQ w1.F a o,w1.O,w1.m,w1.s⟩ h:=⟨⟨n.1.os,n.1.ba,fun b o' e=>dj ha.2.2.1 _ _ (n.1.fz b o' e),n.1.ow,n.1.pre,n.1.dom,fun b o' q z=>let⟨sl,q',z⟩:=n.1.keep b o' q z;⟨sl,⟨q'.1,q'.2.1,cP (fun y=>by have q:=q.1;rw[y,na]at q;cases q) q'.2.2.1,q'.2.2.2⟩,z⟩⟩,n.2.freeze ha⟩
end
end Z
namespace L3
open PySem
def Ja(h:List PO)(p:PV):Option Nat:=match p with
 |.str l=>if l.length≤sizeLine then some l.length else none
 |p=>match Rf h p with
  |some kvs=>some kvs.length
  |none=>match Pz h p with
   |some xs=>some xs.length
   |none=>none
def dZ(ps:List PV)(h:List PO):Res PV:=match ps with
 |[p]=>match Ja h p with
  |some n=>.ok (.int n) h
  |none=>.bad
 |_=>.bad
def Aw(h:List PO):PV→Option String
 |.non=>some "NoneType"
 |.bl _=>some "bool"
 |.int _=>some "int"
 |.str _=>some "str"
 |.tup _=>some "tuple"
 |p=>match Rf h p with
  |some _=>some "dict"
  |none=>match QK h p with
   |some _=>some "list"
   |none=>none
noncomputable def Az(t c:String):Bool:=(t==c)||(t=="bool"&&c=="int")
noncomputable def yj:List String:=["str","int","bool","list","tuple","dict"]
def mV(ps:List PV)(h:List PO):Res PV:=match ps with
 |[p,.ty c]=>if yj.contains c=true then match Aw h p with
   |some t=>.ok (.bl (Az t c)) h
   |none=>.bad
  else .bad
 |_=>.bad
noncomputable def qM(i:Int):List Nat:=(Str.ofString (toString i)).cps.toList
def Du(ps:List PV)(h:List PO):Res PV:=match ps with
 |[.int i]=>if i.natAbs.log2<1920 then .ok (.str (qM i)) h else .bad
 |_=>.bad
noncomputable def Bh(ps:List PV)(h:List PO):Res PV:=match ps with
 |[.int i]=>.ok (.int i) h
 |[.bl b]=>.ok (.int (if b then 1 else 0)) h
 |_=>.bad
noncomputable def zw(ps:List PV)(h:List PO):Res PV:=match ps with
 |[.int i,.int j]=>.ok (.int (if j>i then j else i)) h
 |_=>.bad
def dG(ps:List PV)(h:List PO):Res PV:=match ps with
 |[p]=>match Pz h p with
  |some xs=>.ok (.tup xs) h
  |none=>.bad
 |_=>.bad
end L3
namespace Z
open PySem PySem.Spec PyProof.Rows L3 L2
section
variable{G:SC}{X:Cx}{w w1:Wo}{ρ:Ev}{h:List PO}
theorem aA.one{F:Fz}{m:List Addr}{p:PV}{us:List Value}(r:aA G F m [p] us):∃u,us= [u]∧br G F m p u:=by cases r with|cons r t=>cases t;exact⟨_,rfl,r⟩
theorem aA.two{F:Fz}{m:List Addr}{p q:PV}{us:List Value}(r:aA G F m [p,q] us):∃u v,us= [u,v]∧br G F m p u∧br G F m q v:=by cases r with|cons r t=>obtain⟨v,rfl,r'⟩:=t.one;exact⟨_,v,rfl,r,r'⟩
theorem Wd.N5(I:Wd X w h)(ok:X.Ok):X.K.In w.s.heap:=ok.Np.keeps fun _ _ e=>I.bk e
theorem IL:QC X (.builtin "len") dZ:=fun ok {w h p u Q E} I rs k=>by
 have l:sizeLine=16777216:=sizeLine_eq;unfold dZ at k
 split at k
 ·obtain⟨u,rfl,r1⟩:=rs.one;show Wp X (call (.builtin "len") [u]) Q E w.s
  split at k
  ·rename_i e;unfold Ja at e
   split at e
   ·split at e<;>cases e
    cases r1
    exact len_str (by rw[hU];omega) (by rw[hU];exact k.now I.toHR (.int _ _))
   ·split at e
    ·cases e
     obtain⟨a,kvs,rfl,y,d,r⟩:=I.dc r1 ‹_›;exact call_len_dict y d (by have:=r.1;omega) (by rw[r.len];exact k.now I.toHR (.int _ _))
    ·split at e<;>cases e
     obtain⟨t,e,ht⟩:=wh ‹_›;obtain⟨a,its,rfl,y,z,r⟩:=I.sq r1 e;rcases ht with rfl|rfl
     ·exact len_tuple y.tup (by omega) (k.now I.toHR (by rw[r.len];exact .int _ _))
     ·exact Calls.call_len_list y.pl.isList (by omega) (k.now I.toHR (by rw[r.len];exact .int _ _))
  ·exact k.elim
 ·exact k.elim
theorem zO(K:W.Frag){t c:String}(ht:t∈ ["NoneType","bool","int","str","tuple","dict","list"])(hc:yj.contains c=true):W.kitOne K (.type t) (.type c)=some (Az t c):=by
 have Tp:c∈yj:=by simpa using hc
 simp only[yj,List.mem_cons,List.not_mem_nil,or_false]at Tp ht;rcases ht with rfl|rfl|rfl|rfl|rfl|rfl|rfl<;>rcases Tp with rfl|rfl|rfl|rfl|rfl|rfl<;>rfl
theorem Bm:QC X (.builtin "isinstance") mV:=fun ok {w h p u Q E} I rs k=>by
 unfold mV at k
 split at k
 ·obtain⟨u,v,rfl,r,r2⟩:=rs.two
  cases r2
  show Wp X (call (.builtin "isinstance") [u,_]) Q E w.s
  split at k
  ·rename_i hc
   split at k
   ·rename_i t e;have fin:∀tk,Q (.bool (Az t _)) { w.s with toks:=tk }:=fun tk=>k.now I.toHR (.bl _);have hh:=fun tt=>zO (t:=tt) X.K (hc:=hc);have KI:=I.N5 ok;unfold Aw at e
    split at e
    ·cases e;cases r;exact W.kia_one W.kitx_none KI True.intro (hh _ (by simp)) (fun z=>nomatch z) fin
    ·cases e;cases r;exact W.kia_one W.kitx_bool KI True.intro (hh _ (by simp)) (fun z=>nomatch z) fin
    ·cases e;cases r;exact W.kia_one W.kitx_int KI True.intro (hh _ (by simp)) (fun z=>nomatch z) fin
    ·cases e;cases r;exact W.kia_one W.kitx_str KI True.intro (hh _ (by simp)) (fun z=>nomatch z) fin
    ·cases e
     obtain⟨a,its,rfl,⟨n,y⟩,z,r⟩:=I.sq r rfl;exact W.kia_one W.kitx_tuple KI ⟨_,y,rfl⟩ (hh _ (by simp)) (fun z=>nomatch z) fin
    ·split at e
     ·cases e
      obtain⟨a,kvs,rfl,_,⟨o,es,ep,h1,h2,_⟩,_⟩:=I.dc r ‹_›;exact W.kia_one W.kitx_dict KI ⟨o,h1,h2.1⟩ (hh _ (by simp)) (fun z=>nomatch z) fin
     ·split at e<;>cases e
      obtain⟨a,its,rfl,⟨n,y⟩,z,r⟩:=I.sq r (jk ‹_›);exact W.kia_one W.kitx_list KI ⟨_,y,rfl⟩ (hh _ (by simp)) (fun z=>nomatch z) fin
   ·exact k.elim
  ·exact k.elim
 ·exact k.elim
theorem IJ:QC X (.type "str") Du:=fun ok {w h p u Q E} I rs k=>by
 unfold Du at k
 split at k
 ·obtain⟨u,rfl,r⟩:=rs.one
  cases r
  split at k
  ·exact PySem.P.str_of_int ‹_› (k.now I.toHR (by have:= @br.str X.toSC w.F w.m (qM ‹_›) w.s.toks;rw[qM,KU]at this;exact this))
  ·exact k.elim
 ·exact k.elim
theorem Fa:QC X (.type "int") Bh:=fun ok {w h p u Q E} I rs k=>by
 unfold Bh at k
 split at k
 ·obtain⟨u,rfl,r⟩:=rs.one
  cases r
  exact call_int_int (k.here I.toHR (.int _ _))
 ·obtain⟨u,rfl,r⟩:=rs.one
  cases r
  exact call_int_bool (k.now I.toHR (.int _ _))
 ·exact k.elim
theorem Bl(hc:X.calm=true):QC X (.builtin "max") zw:=fun ok {w h p u Q E} I rs k=>by
 unfold zw at k
 split at k
 ·obtain⟨u,v,rfl,r,r2⟩:=rs.two
  cases r;cases r2
  refine max_two_ints (ok.hd hc) fun h' tk kp=>?_;have n:=Nw.also (X:=X) (s':={ w.s with heap:=h',toks:=tk }) I.toHR kp;refine k.2 _ _ n ?_
  split
  ·exact .int _ _
  ·exact .int _ _
 ·exact k.elim
end
end Z
namespace L2
open PySem PySem.Spec PyProof.Rows
theorem mH:plainId "dict.update.loop"=true:=by decide+kernel
theorem uv:entryFor table "dict.update.loop"=some Builtin.«dict.update.loop» :=entryFor_of_tree (by kernel_rfl)
section
variable{prog:Program}{w:World}{κ:Type} [DecidableEq κ] {knd:KeyKind prog w κ} {A:Around} {R:Result→Shared→Prop} {E:Value→Shared→Prop}
theorem yS{s:Shared}{a:Addr}{x y:Value}{Q:List Value→Shared→Prop}(t:IsTup s.heap a #[x,y])(q:Q [x,y] s):wpAny (model prog w) A (Builtin.Dict.pairItems (.ref a)) Q E s:=by
 obtain⟨o,ho,hc,n,hd⟩:=t;have ty:s.TypeIs (.ref a) "tuple":=⟨o,ho,hc⟩
 unfold Builtin.Dict.pairItems;refine wpAny_bind (wpAny_typeOf ty ?_)
 wp_walk
 rw[hd];exact wpAny_pure (wpAny_pure q)
end
end L2
namespace L3
open PySem
noncomputable def bK(kvs:List (PK×PV))(k:PK)(v:PV):List (PK×PV):=
 if(kvs.any fun kv=>decide (kv.1=k))=true then kvs.map (fun kv=>if kv.1=k then(kv.1,v)else kv)else kvs++ [(k,v)]
def Sh(ps:List (PK×PV)):List (PK×PV):=ps.foldl (fun acc kv=>bK acc kv.1 kv.2) []
def og:List (Ex×Ex)→Ev→List PO→Res (List (PK×PV))
 |[],_,h=>.ok [] h
 |(a,b)::r,ρ,h=>(a ρ h).bind fun x h1=>(b ρ h1).bind fun y h2=>match qv x with
  |some k=>(og r ρ h2).bind fun ps h3=>.ok ((k,y)::ps) h3
  |none=>.bad
def Cz(fs:List (Ex×Ex)):Ex:=fun ρ h=>(og fs ρ h).bind fun ps h1=>.ok (.dct (Sh ps)) h1
noncomputable def kr:Ex:=fun _ h=>.ok (.ref h.length) (h++ [.dct []])
def jS(ps:List PV)(h:List PO):Res PV:=match ps with
 |[p]=>match Rf h p with
  |some kps=>.ok (.ref h.length) (h++ [.dct kps])
  |none=>.bad
 |_=>.bad
end L3
namespace Z
open PySem PySem.Spec PyProof.Rows L3 L2
section
variable{G:SC}{F:Fz}{m:List Addr}{kps:List (PK×PV)}{kvs:List (PK×Value)}
def RK(G:SC)(F:Fz)(m:List Addr)(kps:List (PK×PV))(kvs:List (PK×Value)):Prop:=kvs.map (·.1)=kps.map (·.1)∧aA G F m (kps.map (·.2)) (kvs.map (·.2))
theorem RK.length(r:RK G F m kps kvs):kvs.length=kps.length:=by have:=congrArg List.length r.1;simpa using this
theorem RK.mono{F':Fz}{m':List Addr}(r:RK G F m kps kvs)(hF:∀a o,F a=some o→F' a=some o)(hm:Sub m m'):RK G F' m' kps kvs:=⟨r.1,r.2.mono hF (.inr hm)⟩
theorem RK.any(k:PK):∀{kps:List (PK×PV)}{kvs:List (PK×Value)},kvs.map (·.1)=kps.map (·.1)→(kvs.any fun kv=>decide (kv.1=k))=kps.any fun kv=>decide (kv.1=k)
 |[],[],_=>rfl
 |[],_::_,h=>by simp at h
 |_::_,[],h=>by simp at h
 |a::r,b::t,h=>by simp only[List.map_cons,List.cons.injEq]at h;simp only[List.any_cons,h.1,RK.any k h.2]
theorem RK.repl{k:PK}{p:PV}{v:Value}(r:br G F m p v):∀{kps:List (PK×PV)}{kvs:List (PK×Value)},RK G F m kps kvs→RK G F m (kps.map fun kv=>if kv.1=k then(kv.1,p)else kv) (kvs.map fun kv=>if kv.1=k then(kv.1,v)else kv)
 |[],[],h=>h
 |[],_::_,h=>by have:=h.1;simp at this
 |_::_,[],h=>by have:=h.1;simp at this
 |(k1,a)::t,(k2,b)::t',⟨h1,h2⟩=>by
  simp only[List.map_cons,List.cons.injEq]at h1;obtain⟨rfl,h1⟩:=h1
  cases h2 with
  |cons x y=>
   obtain⟨i1,i2⟩:=RK.repl r ⟨h1,y⟩;simp only[List.map_cons]
   by_cases z:k2=k
   ·simp only[z,if_true];exact⟨by simp[i1],.cons r i2⟩
   ·simp only[z,if_false];exact⟨by simp[i1],.cons x i2⟩
theorem RK.put{k:PK}{p:PV}{v:Value}(h:RK G F m kps kvs)(r:br G F m p v):RK G F m (bK kps k p) (stored kvs k v):=by
 unfold bK stored;rw[RK.any k h.1]
 split
 ·exact h.repl r
 ·exact⟨by rw[List.map_append,List.map_append,h.1];rfl,by rw[List.map_append,List.map_append];exact h.2.app (.cons r .nil)⟩
theorem RK.merge:∀{more:List (PK×PV)}{mv:List (PK×Value)}{kps:List (PK×PV)}{kvs:List (PK×Value)},RK G F m more mv→RK G F m kps kvs→RK G F m (more.foldl (fun acc kv=>bK acc kv.1 kv.2) kps) (merged kvs mv)
 |[],[],_,_,_,h=>h
 |[],_::_,_,_,h,_=>by have:=h.1;simp at this
 |_::_,[],_,_,h,_=>by have:=h.1;simp at this
 |(k1,p1)::more,(k2,v2)::mv,kps,kvs,⟨h1,h2⟩,h=>by
  simp only[List.map_cons,List.cons.injEq]at h1 h2;obtain⟨rfl,h1⟩:=h1
  cases h2 with
  |cons a b=>show RK G F m (more.foldl _ (bK kps k2 p1)) (merged (stored kvs k2 v2) mv);exact RK.merge ⟨h1,b⟩ (h.put a)
theorem pJ(k:PK)(v:Value):(stored kvs k v).length≤kvs.length+1:=by unfold stored;split<;>simp
theorem jT:∀(mv:List (PK×Value))(kvs:List (PK×Value)),(merged kvs mv).length≤kvs.length+mv.length
 |[],_=>Nat.le_refl _
 |(k,v)::mv,kvs=>by have:=jT mv (stored kvs k v);have:=pJ (kvs:=kvs) k v;show(merged (stored kvs k v) mv).length≤_;simp;omega
end
section
variable{X:Cx}{w w1:Wo}{ρ:Ev}{h:List PO}{kps:List (PK×PV)}{kvs:List (PK×Value)}{s':Shared}{Q:Value→Shared→Prop}{E:Value→Shared→Prop}{a:Addr}{o:Obj}{pos:Pos}
theorem Wd.big(I:Wd X w h)(ok:X.Ok):(w.s.heap.objs.size==sysModules)=false:=by obtain⟨o,es,ep,e,_⟩:=ok.gl;have:=Heap.lt_size (I.bk e);exact beq_eq_false_iff_ne.mpr fun z=>absurd (z▸this) (by decide)
theorem bT.dm(p:bT X (RV X.toSC) w Q E (.ok (.ref h.length) (h++ [.dct kps])))(I:Wd X w h)(ok:X.Ok)(k:∀b o,w.s.heap.get? b=some o→s'.heap.get? b=some o)(d:s'.heap.DictOf (pk X.prog X.w) w.s.heap.objs.size kvs)(z:kvs.length≤sizeLine)(r:RK X.toSC w.F w.m kps kvs)(ho:s'.os=w.s.os:=by rfl)(hg:s'.gens=w.s.gens:=by rfl):Q (.ref w.s.heap.objs.size) s':=by
 obtain⟨o,es,ep,e1,e2,e3⟩:=d;have sb:Sub w.m (w.m++ [w.s.heap.objs.size]):=fun i b e=>by rw[List.getElem?_append_left (List.getElem?_eq_some_iff.mp e).1];exact e
 exact p.2 _ _ (Nw.mk I.toHR (aX _) k ⟨(I.toHR.free (aX _)).2.1,o,kvs,e1,⟨e2,es,ep,e3⟩,I.big ok,z,r.1,(r.mono (fun _ _ e=>e) sb).2⟩ (fun _ _ e=>e) (fun _ _ e=>.inl e) ho hg) (.ref (by rw[I.len];simp))
theorem Nw.priv{o2:Obj}(n:Nw X w w1 h)(na:w.s.heap.get? a=none)(ha:Has w1 a o2)(sb:Heap.SameBut a w1.s.heap s'.heap)(e:s'.heap.get? a=some o)(ho:s'.os=w1.s.os:=by rfl)(hg:s'.gens=w1.s.gens:=by rfl):Nw X w { w1 with s:=s' } h∧Has { w1 with s:=s' } a o:=by
 have on:∀b o,b≠a→w1.s.heap.get? b=some o→s'.heap.get? b=some o:=fun b o z e=>(sb.2 b z).trans e;have ne:∀{b o},w.s.heap.get? b=some o→b≠a:=fun q z=>by rw[z,na]at q;cases q
 refine⟨⟨⟨ho.trans n.1.os,fun q=>hg▸n.1.ba q,n.1.fz,n.1.ow,n.1.pre,fun b o e=>let⟨o',q⟩:=n.1.dom b o e;⟨o',on b o' (ne e) q⟩,fun b o q z=>let⟨sl,q',z⟩:=n.1.keep b o q z;⟨sl,⟨on b _ (ne q.1) q'.1,q'.2⟩,z⟩⟩,n.2.on fun b o e z=>on b o (fun y=>z (y▸ha.2)) e⟩,e,ha.2⟩
theorem Nw.track{po:PO}(n:Nw X w w1 h)(na:w.s.heap.get? a=none)(ha:Has w1 a o)(q:qK X.toSC w1.F (w1.m++ [a]) w1.O w1.s.heap a po):Nw X w ⟨w1.F,w1.O,w1.m++ [a],w1.s⟩ (h++ [po]):=by
 have H:=n.2;have ne:∀{b o},w.s.heap.get? b=some o→b≠a:=fun q z=>by rw[z,na]at q;cases q
 have sb:Sub w1.m (w1.m++ [a]):=fun i b e=>by rw[List.getElem?_append_left (List.getElem?_eq_some_iff.mp e).1];exact e
 refine⟨⟨n.1.os,n.1.ba,n.1.fz,n.1.ow,let⟨t,e⟩:=n.1.pre;⟨t++ [a],by rw[e,List.append_assoc]⟩,n.1.dom,fun b o q z=>let⟨sl,q',z⟩:=n.1.keep b o q z;⟨sl,⟨q'.1,fun y=>(List.mem_append.mp y).elim q'.2.1 fun y=>ne q.1 (by simpa using y),q'.2.2⟩,z⟩⟩,H.sub,fun d b e=>let⟨x,z,y⟩:=H.own d b e;⟨x,fun q'=>(List.mem_append.mp q').elim z fun q'=>(by simp at q';rw[q',ha.2.2.2]at e;cases e),y⟩,by simp[H.len],List.nodup_append.mpr ⟨H.nd,by simp,fun x hx y hy z=>ha.2.1 (by simp at hy;rw[← hy,← z];exact hx)⟩,fun i ob b e1 e2=>?_⟩;rcases Nat.lt_or_ge i h.length with l|l
 ·rw[List.getElem?_append_left l]at e1;rw[List.getElem?_append_left (H.len▸l)]at e2;exact(H.obj i ob b e1 e2).on (fun _ _ e=>e) (fun _ e=>e) sb (fun _ _ e _=>e) id
 ·rw[List.getElem?_append_right l]at e1;rw[List.getElem?_append_right (H.len▸l),← H.len]at e2
  cases z:i - h.length with
  |zero=>rw[z]at e1 e2;cases e1;cases e2;exact q
  |succ _=>rw[z]at e1;simp at e1
theorem jM:RE X (.Dict [] [] pos) kr:=⟨fun{w ρ h Q E} I p=>wpAny_Dict_empty (bT.dm p I.toWd I.ok (fun _ _ e=>Heap.get?_push_of_some _ e) (Heap.DictOf.new _) (Nat.zero_le _) ⟨rfl,.nil⟩)⟩
theorem mW:QC X (.type "dict") jS:=fun ok {w h p u Q E} I rs k=>by
 unfold jS at k
 split at k
 ·obtain⟨u,rfl,r⟩:=rs.one
  split at k
  ·obtain⟨a,kvs,rfl,y,d,r⟩:=I.dc r ‹_›;exact kt_call_dict y d r.1 fun h' Um hs=>bT.dm k I ok (fun b q hq=>(hs.2 b (Nat.ne_of_lt (Heap.lt_size hq))).trans (Heap.get?_push_of_some _ hq)) Um r.1 r.2
  ·exact k.elim
 ·exact k.elim
structure Uv(X:Cx)(pos:Pos)(keys:List (Option Expr))(values:List Expr)(fs:List (Ex×Ex)):Prop where
 r:∀{w:Wo}{ρ:Ev}{h:List PO}{Q:List (Value×Value)→Shared→Prop}{E:Value→Shared→Prop},Inv X w ρ h→bT X (fun w ps vs=>∃kvs,Carries (pk X.prog X.w) vs kvs∧RK X.toSC w.F w.m ps kvs∧kvs.length=keys.length) w Q E (og fs ρ h)→Wp X (evalPairs (pairTrees keys values X.env pos)) Q E w.s
theorem Dj:Uv X pos [] [] []:=⟨fun I p=>pairTrees_nil_walk (p.here I.toHR ⟨[],trivial,⟨rfl,.nil⟩,rfl⟩)⟩
theorem mM{k v:Expr}{fa fb:Ex}{keys:List (Option Expr)}{values:List Expr}{fs:List (Ex×Ex)}(hk:RE X k fa)(hv:RE X v fb)(hr:Uv X pos keys values fs):Uv X pos (some k::keys) (v::values) ((fa,fb)::fs):=⟨fun I p=>pairTrees_cons_walk (hk.r I (p.bind fun _ _ x _ y1 r1 p=>hv.r (I.on y1) (p.bind fun _ _ _ _ y2 r2 p=>by
 split at p
 ·refine hr.r ((I.on y1).on y2) (p.bind (by rintro _ _ _ _ y3 ⟨kvs,c,rk,l⟩ p;exact p.here y3.2 ⟨(_,_)::kvs,⟨nT (y2.1.rep r1) ‹_›,rfl,c⟩,⟨by simp[rk.1],.cons (y3.1.rep r2) rk.2⟩,by simp[l]⟩))
 ·exact p.elim)))⟩
theorem KN{keys:List (Option Expr)}{values:List Expr}{fs:List (Ex×Ex)}{k:List (PK×PV)→List PO→Res PV}(hr:Uv X pos keys values fs)(Q5:keys.all (·.isSome)=true)(hl:keys.length=values.length)(h0:keys≠ [])(Wz:keys.length≤15)
  (go:∀{w w2:Wo}{h2:List PO}{a:Addr}{ps:List (PK×PV)}{kvs:List (PK×Value)}{o:Obj}{Q:Value→Shared→Prop}{E:Value→Shared→Prop},Nw X w w2 h2→w.s.heap.get? a=none→(a==sysModules)=false→Has w2 a o→DO X.toSC o kvs→kvs.length≤sizeLine→RK X.toSC w2.F w2.m (Sh ps) kvs→bT X (RV X.toSC) w Q E (k ps h2)→Q (.ref a) w2.s):RE X (.Dict keys values pos) (fun ρ h=>(og fs ρ h).bind k):=⟨fun{w ρ h Q E} I p=>wpAny_Dict_walk (knd:=pk X.prog X.w) Q5 hl h0 Wz (by
 have n1:=Nw.also (X:=X) (s':={ w.s with heap:=w.s.heap.push { cls:=.type "dict",data:=.dict #[] } }) I.toHR fun _ _ e=>Heap.get?_push_of_some _ e;refine hr.r (I.on n1) ?_
 cases e:og fs ρ h with
 |bad=>rw[e]at p;exact p
 |exc _ _=>rw[e]at p;exact⟨p.1,fun w' u y r=>p.2 w' u (n1.trans y) (r.back n1.1)⟩
 |ok ps h2=>
  rw[e]at p;refine⟨p.ep,?_⟩;rintro w2 vs y ⟨kvs,c,rk,l⟩;have na:=aX w.s.heap;have z:w.s.heap.objs.size∉X.fs:=fun z=>by obtain⟨o,q,_⟩:=I.fr _ z;have q:=q.1;rw[na]at q;cases q
  obtain⟨sl,ha,zz⟩:=y.1.keep w.s.heap.objs.size _ ⟨Heap.get?_push_size _ rfl,I.toHR.free na⟩ fun z=>z
  cases zz.resolve_left z
  obtain⟨o,es,ep,e1,e2⟩:(w.s.heap.push { cls:=.type "dict",data:=.dict #[] }).DictOf (pk X.prog X.w) w.s.heap.objs.size []:=Heap.DictOf.new _;rw[Heap.get?_push_size _ rfl]at e1
  cases e1
  refine⟨kvs,c,⟨_,es,ep,ha.1,e2⟩,?_⟩;rintro h' ⟨o',Uj,ep',g1,g2⟩ sb;obtain⟨n3,ha3⟩:=Nw.priv (s':={ w2.s with heap:=h',toks:=w2.s.toks+vs.length }) (n1.trans y) na ha sb g1;exact go n3 na (I.big I.ok) ha3 ⟨g2.1,Uj,ep',g2.2⟩ (Nat.le_trans (jT _ _) (by rw[sizeLine_eq];simp;omega)) (RK.merge rk ⟨rfl,.nil⟩) p)⟩
theorem Dk{keys:List (Option Expr)}{values:List Expr}{fs:List (Ex×Ex)}(hr:Uv X pos keys values fs)(Q5:keys.all (·.isSome)=true:=by rfl)(hl:keys.length=values.length:=by rfl)(h0:keys≠ []:=by intro z;cases z)(Wz:keys.length≤15:=by decide):RE X (.Dict keys values pos) (Cz fs):=KN hr Q5 hl h0 Wz fun{w w2 h2 a ps kvs o Q E} n na sm ha d z r p=>p.2 ⟨iQ w2.F a o,w2.O,w2.m,w2.s⟩ _ (n.freeze na ha) (.dct bL d sm z r.1 (r.mono (dj ha.2.2.1) fun _ _ e=>e).2)
end
end Z
namespace L3
open PySem L2
noncomputable def lX(h:List PO):PV→Option (Nat×List PV)
 |.ref i=>match h[i]? with
  |some (.lst xs)=>some (i,xs)
  |_=>none
 |_=>none
noncomputable def gW(h:List PO):PV→Option (Nat×List (PK×PV))
 |.ref i=>match h[i]? with
  |some (.dct kvs)=>some (i,kvs)
  |_=>none
 |_=>none
def jg(v o i:PV)(ρ:Ev)(h:List PO):SR:=match lX h o,i with
 |some (n,xs),.int k=>match Qe xs.length k with
  |some j=>.nx ρ (h.set n (.lst (xs.set j v)))
  |none=>.bad
 |_,_=>.bad
def jH(fo fi fv:Ex):Sx:=fun ρ h=>ez (fv ρ h) fun v h1=>ez (fo ρ h1) fun o h2=>ez (fi ρ h2) fun i h3=>jg v o i ρ h3
def mK(v o i:PV)(ρ:Ev)(h:List PO):SR:=match gW h o,qv i with
 |some (n,kps),some k=>if kps.length<sizeLine then .nx ρ (h.set n (.dct (bK kps k v)))else .bad
 |_,_=>.bad
def km(fo fi fv:Ex):Sx:=fun ρ h=>ez (fv ρ h) fun v h1=>ez (fo ρ h1) fun o h2=>ez (fi ρ h2) fun i h3=>mK v o i ρ h3
def Ru(h:List PO)(p:PV):Option (PV×List PO):=match gW h p with
 |some (i,kvs)=>if aS kvs=true then some (.dct kvs,h.set i (.G6 (.dct kvs)))else none
 |none=>gx h p
def O1(p:PV)(h:List PO):Res PV:=match Ru h p with
 |some (q,h2)=>.ok q h2
 |none=>.bad
def PL(f:Ex):Ex:=fun ρ h=>(f ρ h).bind O1
def cM(recv:List PO→PV→Bool)(g:PV→List PV→List PO→Res PV)(o:Ex)(as:Ax):Ex:=fun ρ h=>(o ρ h).bind fun p h1=>if recv h1 p=true then(as ρ h1).bind fun ps h2=>g p ps h2 else .bad
def bU(p:PV)(ps:List PV)(h:List PO):Res PV:=match ps with
 |[q]=>match lX h p with
  |some (i,xs)=>if xs.length<sizeLine then .ok .non (h.set i (.lst (xs++ [q])))else .bad
  |none=>.bad
 |_=>.bad
end L3
namespace Z
open PySem PySem.Spec PyProof.Rows L3 L2
section
variable{G:SC}{X:Cx}{w w1:Wo}{ρ:Ev}{h:List PO}{p:PV}{u:Value}{i:Nat}{ps:List PV}{kps:List (PK×PV)}{a:Addr}{o:Obj}
theorem HR.ll(H:HR G w h)(r:br G w.F w.m p u)(k:lX h p=some (i,ps)):∃a its n,u=.ref a∧w.m[i]? =some a∧w.F a=none∧w.s.heap.get? a=some { cls:=.type "list",data:=.seq its n }∧its.size≤sizeLine∧aA G w.F w.m ps its.toList:=by
 unfold lX at k
 split at k
 ·split at k<;>cases k
  rename_i q
  cases r with
  |ref e=>obtain⟨f,its,n,g,z,r⟩:=H.obj _ _ _ q e;exact⟨_,its,n,rfl,e,f,g,z,r⟩
 ·cases k
theorem HR.ld(H:HR G w h)(r:br G w.F w.m p u)(k:gW h p=some (i,kps)):∃a o kvs,u=.ref a∧w.m[i]? =some a∧w.F a=none∧(a==sysModules)=false∧w.s.heap.get? a=some o∧DO G o kvs∧kvs.length≤sizeLine∧RK G w.F w.m kps kvs:=by
 unfold gW at k
 split at k
 ·split at k<;>cases k
  rename_i q
  cases r with
  |ref e=>obtain⟨f,o,kvs,g,d,y,z,c,r⟩:=H.obj _ _ _ q e;exact⟨_,o,kvs,rfl,e,f,y,g,d,z,c,r⟩
 ·cases k
theorem aA.set{F:Fz}{m:List Addr}{x:PV}{u:Value}(r:br G F m x u):∀{xs:List PV}{us:List Value}(i:Nat),aA G F m xs us→aA G F m (xs.set i x) (us.set i u)
 |_,_,_,.nil=>.nil
 |_,_,0,.cons _ t=>.cons r t
 |_,_,i+1,.cons q t=>.cons q (aA.set r i t)
theorem Nw.T6{f:Obj→Obj}{LK:Array Value}{n' tk:Nat}(H:HR X.toSC w h)(em:w.m[i]? =some a)(hf:w.F a=none)(e:w.s.heap.get? a=some o)(ef:f o= { cls:=.type "list",data:=.seq LK n' })(z:LK.size≤sizeLine)(r:aA X.toSC w.F w.m ps LK.toList):Nw X w { w with s:={ w.s with heap:=w.s.heap.update a f,toks:=tk } } (h.set i (.lst ps)):=by
 have eu:(w.s.heap.update a f).get? a=some { cls:=.type "list",data:=.seq LK n' }:=ef▸Heap.get?_update_self _ e (by rw[ef];rfl)
 exact Nw.upd (s':={ w.s with heap:=w.s.heap.update a f,toks:=tk }) H em hf (fun b o' e=>by
  by_cases z:b=a
  ·exact .inl z
  ·exact .inr (.inr ((Heap.get?_update_ne _ _ _ _ z).trans e))) (fun b o' e=>by
  by_cases z:b=a
  ·exact⟨{ cls:=.type "list",data:=.seq LK n' },by subst z;exact eu⟩
  ·exact⟨o',(Heap.get?_update_ne _ _ _ _ z).trans e⟩) ⟨hf,LK,n',eu,z,r⟩
variable{oe ie ve:Expr}{fo fi fv:Ex}{px pos:Pos}
theorem iL(ho:RE X oe fo)(hi:RE X ie fi)(hv:RE X ve fv)
  (hs:swapsWith ve (some (.Subscript oe ie px)) pos.line X.env=pure false:=by rfl):RS X (.Assign [.Subscript oe ie px] ve pos) (jH fo fi fv):=⟨fun{w ρ h Q E} I p=>wpAny_Assign_Subscript (hv.r I (bC.e p I fun w1 h1 pv v y1 I1 rv p=>ho.r I1 (bC.e p I1 fun w2 h2 po u y2 I2 ro p=>hi.r I2 (bC.e p I2 fun w3 h3 pi iv y3 I3 ri p=>by
 unfold jg at p
 split at p
 ·rename_i el
  split at p
  ·rename_i j hj;obtain⟨a,its,n,rfl,em,hf,e,z,r⟩:=I3.toHR.ll (y3.1.rep ro) el
   cases ri
   obtain⟨h1,h2,h3,h4⟩:=yi hj;have hl:=r.len;have sl:=sizeLine_eq;have hz:∀t,Nw X w3 { w3 with s:={ w3.s with heap:=w3.s.heap.update a (Obj.mapSeq (·.setIfInBounds j v)),toks:=t } } _:=fun t=>Nw.T6 (LK:=its.setIfInBounds j v) (n':=n) I3.toHR em hf e (by simp[Obj.mapSeq]) (by simpa using z) (by simpa using r.set (y3.1.rep (y2.1.rep rv)) j);rename_i k _ _
   by_cases h0:0≤k
   ·have hk:k.toNat=j:=by rw[seqIndex_of h0 h4]at h1;exact Option.some.inj h1
    exact W.ki_setAt e h0 (by omega) (by rw[← hl];exact h4) (by rw[hk];exact p.2 _ (hz _).s (I3.on (hz _)))
   ·have hk:(k+(its.size:Int)).toNat=j:=by rw[seqIndex_neg (by omega) h3]at h1;rw[← hl];exact Option.some.inj h1
    exact W.ki_setBack e (by omega) (by rw[← hl];exact h3) (by omega) (by rw[hk];exact p.2 _ (hz _).s (I3.on (hz _)))
  ·exact p.elim
 ·exact p.elim)))) hs⟩
theorem gO(ho:RE X oe fo)(hi:RE X ie fi)(hv:RE X ve fv)
  (hs:swapsWith ve (some (.Subscript oe ie px)) pos.line X.env=pure false:=by rfl):RS X (.Assign [.Subscript oe ie px] ve pos) (km fo fi fv):=⟨fun{w ρ h Q E} I p=>wpAny_Assign_Subscript (hv.r I (bC.e p I fun w1 h1 pv v y1 I1 rv p=>ho.r I1 (bC.e p I1 fun w2 h2 po u y2 I2 ro p=>hi.r I2 (bC.e p I2 fun w3 h3 pi iv y3 I3 ri p=>by
 unfold mK at p
 split at p
 ·rename_i el ek
  split at p
  ·rename_i hz;obtain⟨a,o,kvs,rfl,em,hf,sm,e,d,z,r⟩:=I3.toHR.ld (y3.1.rep ro) el;refine wpAny_setItem_pairs (hsz:=z) (nT ri ek) (d.of e) fun h' Um sb=>?_;obtain⟨o',es,ep,e1,e2,e3⟩:=Um;have r':=r.put (k:= ‹PK›) (y3.1.rep (y2.1.rep rv))
   have y4:=Nw.upd (X:=X) (s':={ w3.s with heap:=h',toks:=w3.s.toks+1 }) I3.toHR em hf (fun b o e=>by
     by_cases z:b=a
     ·exact .inl z
     ·exact .inr (.inr ((sb.2 b z).trans e))) (fun b o e=>by
     by_cases z:b=a
     ·exact⟨o',by subst z;exact e1⟩
     ·exact⟨o,(sb.2 b z).trans e⟩) (po:=.dct _) ⟨hf,o',_,e1,⟨e2,es,ep,e3⟩,sm,Nat.le_trans (pJ _ _) (by rw[r.length];exact hz),r'.1,r'.2⟩
   exact p.2 _ y4.s (I3.on y4)
  ·exact p.elim
 ·exact p.elim)))) hs⟩
theorem mR{ae:Expr}{fa:Ex}(ha:RE X ae fa):RE X ae (PL fa):=⟨fun I p=>ha.r I (p.bind fun w1 h1 q u y r p=>by
 unfold O1 Ru at p
 split at p
 ·rename_i e
  split at e
  ·split at e<;>cases e
   rename_i hp;obtain⟨a,o,kvs,rfl,em,hf,sm,e,d,z,r'⟩:=y.2.ld r ‹_›;have rr:br X.toSC (iQ w1.F a o) w1.m (.dct _) (.ref a):=.dct bL d sm z r'.1 (r'.2.mono (dj hf) (.inr fun _ _ e=>e));exact p.2 ⟨iQ w1.F a o,w1.O,w1.m,w1.s⟩ _ (y.2.fix em hf e rr (by simpa[PV.pure]using hp)) rr
  ·obtain⟨F',n,r',_⟩:=y.2.Ui (X:=X) r e;exact p.2 ⟨F',w1.O,w1.m,w1.s⟩ _ n r'
 ·exact p.elim)⟩
end
end Z
namespace L3
open PySem L2
noncomputable def rI(_:List PO)(p:PV):Bool:=match p with
 |.str _=>true
 |_=>false
def fB(h:List PO)(p:PV):Bool:=(QK h p).isSome
noncomputable def fC:List PV→Option (List (List Nat))
 |[]=>some []
 |.str l::r=>(fC r).map (l:: ·)
 |_::_=>none
noncomputable def lY(sep:List Nat):List (List Nat)→List Nat
 |[]=>[]
 |[x]=>x
 |x::rest=>x++sep++lY sep rest
def mU(p:PV)(ps:List PV)(h:List PO):Res PV:=match p,ps with
 |.str sep,[q]=>match QK h q with
  |some xs=>match fC xs with
   |some ls=>if(ls.map (·.length)).sum+ls.length * sep.length≤16777216 then .ok (.str (lY sep ls)) h else .bad
   |none=>.bad
  |none=>.bad
 |_,_=>.bad
end L3
namespace Z
open PySem PySem.Spec PyProof.Rows L3 L2
section
variable{G:SC}{X:Cx}{w w1:Wo}{ρ:Ev}{h:List PO}{p:PV}{u:Value}{i:Nat}{ps:List PV}{kps:List (PK×PV)}{kvs:List (PK×Value)}{a:Addr}{o:Obj}{h':Heap}
theorem Nw.WL{tk:Nat}(H:HR X.toSC w h)(em:w.m[i]? =some a)(hf:w.F a=none)(sm:(a==sysModules)=false)(d:h'.DictOf (pk X.prog X.w) a kvs)(sb:Heap.SameBut a w.s.heap h')(z:kvs.length≤sizeLine)(r:RK X.toSC w.F w.m kps kvs):Nw X w { w with s:={ w.s with heap:=h',toks:=tk } } (h.set i (.dct kps)):=by
 obtain⟨o',es,ep,e1,e2,e3⟩:=d
 exact Nw.upd (X:=X) (s':={ w.s with heap:=h',toks:=tk }) H em hf (fun b o e=>by
  by_cases z:b=a
  ·exact .inl z
  ·exact .inr (.inr ((sb.2 b z).trans e))) (fun b o e=>by
  by_cases z:b=a
  ·exact⟨o',by subst z;exact e1⟩
  ·exact⟨o,(sb.2 b z).trans e⟩) ⟨hf,o',kvs,e1,⟨e2,es,ep,e3⟩,sm,z,r.1,r.2⟩
def Vp(X:Cx)(id:String)(g:PV→List PV→List PO→Res PV):Prop:=
 ∀{w h p u ps us Q E},Wd X w h→br X.toSC w.F w.m p u→aA X.toSC w.F w.m ps us→bT X (RV X.toSC) w Q E (g p ps h)→Wp X (call (.builtin id) (u::us)) Q E w.s
def TyM(X:Cx)(Ty:String)(recv:List PO→PV→Bool):Prop:=∀{w h p u},HR X.toSC w h→br X.toSC w.F w.m p u→recv h p=true→w.s.TypeIs u Ty∧∀a,u=.ref a→∃ob,w.s.heap.get? a=some ob∧ob.dict=none
theorem iZ{Ty:String}{recv:List PO→PV→Bool}{name:Str}{id:String}{g:PV→List PV→List PO→Res PV}{oe e:Expr}{es:List Expr}{fo:Ex}{fs:Ax}{apos MN:Pos}(ty:TyM X Ty recv)(pa:PlainAttrs Ty)(slot:Slot Ty name id)(Wb:typeOf (.builtin id)=pure (.type "method_descriptor"))(hm:Vp X id g)
  (ho:RE X oe fo) (ha:RA X (e::es) fs)
  (Uh:attributeBase oe name X.env (eval oe X.env)=eval oe X.env:=by rfl)
  (Wq:((backTo MN (starEach (e::es) X.env)).all (fun x=>!x.1)&&(backToKw MN (keywordEach [] X.env)).all (fun x=>x.1.isSome)
   &&decide ((e::es).length+([]:List Keyword).length+(if([]:List Keyword).isEmpty then 0 else 1)<30))=true:=by rfl)
  (hline:(apos.endLine==MN.line)=true:=by rfl)(hs:sE0 X e es:=by rfl) (Sv:(backTo MN (starEach es X.env)).any (·.1)=false:=by rfl):
  RE X (.Call (.Attribute oe name apos) (e::es) [] MN) (cM recv g fo fs):=⟨fun I p=>wpAny_Call_method_late Uh Wq hline rfl (ho.r I (p.bind fun w1 h1 q u y r p=>by
 split at p
 ·obtain⟨t1,t2⟩:=ty y.2 r ‹_›;refine⟨Ty,id,pa,slot,Wb,t1,t2,?_⟩;have hA:=ha.r MN (I.on y) (p.bind (G:=fun us s=>Wp X (call (.builtin id) (u::us)) _ _ s) fun w2 h2 qs us y2 r2 p=>hm ((I.on y).on y2).toWd (y2.1.rep r) r2 p);rw[hs]at hA ⊢;exact Calls.callWith_builtin (by show(false||(backTo MN (starEach es X.env)).any (·.1))=false;rw[Sv]<;>rfl) (Calls.evalArgs_plain hA)
 ·exact p.elim))⟩
theorem we:TyM X "str" rI:=fun H r e=>by
 unfold rI at e
 split at e
 ·cases r;exact⟨typeIs_str _ _ _,fun _ e=>nomatch e⟩
 ·cases e
theorem iK:TyM X "list" fB:=fun H r e=>by obtain⟨xs,ex⟩:=Option.isSome_iff_exists.mp e;obtain⟨a,its,rfl,⟨n,y⟩,_⟩:=H.sq r (jk ex);exact⟨⟨_,y,rfl⟩,fun _ e=>by cases e;exact⟨_,y,rfl⟩⟩
theorem eE:Vp X "list.append" bU:=fun{w h p u ps us Q E} I r rs k=>by
 unfold bU at k
 split at k
 ·split at k
  ·split at k
   ·obtain⟨v,rfl,rv⟩:=rs.one;obtain⟨a,its,n,rfl,em,hf,e,z,r⟩:=I.toHR.ll r ‹_›;refine call_meets F.slot_list_append ⟨_,e,rfl⟩ F.entry_list_append (F.args_list_append_2 _ _) (PySem.list_append a its n v z) ⟨e,?_⟩;exact k.2 _ _ (Nw.T6 (f:=Obj.mapSeq (·.push v)) (LK:=its.push v) (tk:=w.s.toks) I.toHR em hf e (by simp[Obj.mapSeq];rfl) (by have:=r.len;simp;omega) (by simpa using r.app (.cons rv .nil))) .non
   ·exact k.elim
  ·exact k.elim
 ·exact k.elim
theorem jG{F:Fz}{m:List Addr}:∀{ps:List PV}{us:List Value}{ls:List (List Nat)},fC ps=some ls→aA G F m ps us→StrsAre us (ls.map S)
 |[],_,_,e,.nil=>by cases e;exact .nil
 |p::r,_,ls,e,.cons rp t=>by
  cases p with
  |str l=>
   simp only[fC,Option.map_eq_some_iff]at e;obtain⟨ls',e1,rfl⟩:=e
   cases rp
   exact .cons _ _ (jG e1 t)
  |_=>simp[fC]at e
theorem FD(a b:List Nat):S a++S b=S (a++b):=by show(⟨(S a).cps++(S b).cps⟩:Str)=_;simp[S]
theorem Ii(sep:List Nat)(xs:List (List Nat)):Txt.join (S sep) (xs.map S)=S (lY sep xs):=by
 have go:∀xs:List (List Nat),Str.join (S sep) (xs.map S)=S (lY sep xs):=by
  intro xs
  induction xs with
  |nil=>rfl
  |cons x r ih=>
   cases r with
   |nil=>rfl
   |cons y r=>have e:lY sep (x::y::r)=x++sep++lY sep (y::r):=rfl;rw[e,← FD,← FD,← ih];rfl
 show Builtin.Str.glued _ _=_;rw[StrLaws.glued_eq_join];exact go xs
theorem tu:Vp X "str.join" mU:=fun{w h p u ps us Q E} I r rs k=>by
 unfold mU at k
 split at k
 ·split at k
  ·split at k
   ·split at k
    ·rename_i el hz
     cases r
     obtain⟨v,rfl,rv⟩:=rs.one;obtain⟨a,its,rfl,y,_,r⟩:=I.sq rv (jk ‹_›);refine join_list y.pl.isList (jG ‹_› r) ?_ fun t' k'=>by rw[Ii];exact k.now I.toHR (.str _ _)
     rw[List.map_map,List.length_map,hU,show((fun x:Str=>x.length)∘S)=(·.length)from funext hU];exact hz
    ·exact k.elim
   ·exact k.elim
  ·exact k.elim
 ·exact k.elim
end
end Z
namespace L3
open PySem L2
noncomputable def gK(y x:List Nat)(lo:Nat):Option Nat:=(List.range (x.length+1)).find? fun i=>decide (lo≤i)&&y.isPrefixOf (x.drop i)
def yk(y x:List Nat):Bool:=(gK y x 0).isSome
def uX(p q:PV)(h:List PO):Option Bool:=match q with
 |.str b=>match p with
  |.str a=>some (yk a b)
  |_=>none
 |q=>match Rf h q with
  |some kvs=>match qv p with
   |some k=>some (dq kvs k).isSome
   |none=>none
  |none=>match Pz h q with
   |some xs=>if LC [] p=true∧xs.all (LC [])=true then some (xs.any fun y=>PyData.eqv (toD y) (toD p))else none
   |none=>none
def PB(p q:PV)(h:List PO):Res PV:=match uX p q h with
 |some b=>.ok (.bl b) h
 |none=>.bad
def fQ(p q:PV)(h:List PO):Res PV:=match uX p q h with
 |some b=>.ok (.bl (!b)) h
 |none=>.bad
end L3
namespace Z
open PySem PySem.Spec PyProof.Rows L3 L2
theorem rl(x y:List Nat)(i:Nat)(hi:i+y.length≤x.length):Builtin.Str.subAt (S x) (S y) i=y.isPrefixOf (x.drop i):=by
 unfold Builtin.Str.subAt;rw[hU];rw[Bool.eq_iff_iff,beq_iff_eq,List.isPrefixOf_iff_prefix]
 have e:(S x).cps.extract i (i+y.length)=((x.drop i).take y.length).toArray:=by apply Array.toList_inj.mp;simp[S,List.extract_eq_drop_take]
 rw[e];show((x.drop i).take y.length).toArray=(S y).cps↔_;constructor
 ·intro h;have h':(x.drop i).take y.length=y:=by simpa[S]using congrArg Array.toList h
  refine⟨(x.drop i).drop y.length,?_⟩;have q:=List.take_append_drop y.length (x.drop i);rw[h']at q;exact q
 ·rintro⟨t,ht⟩
  rw[← ht,List.take_left];rfl
theorem xq(x y:List Nat)(i:Nat):StrLaws.At (S x) (S y) (S x).length i↔i≤x.length∧y.isPrefixOf (x.drop i)=true:=by
 unfold StrLaws.At;rw[hU,hU];constructor
 ·rintro⟨h1,h2⟩
  rw[rl x y i h1]at h2;exact⟨by omega,h2⟩
 ·rintro⟨h1,h2⟩
  have:i+y.length≤x.length:=by have:=(List.isPrefixOf_iff_prefix.mp h2).length_le;rw[List.length_drop]at this;omega
  exact⟨this,by rw[rl x y i this];exact h2⟩
theorem wO(x y:List Nat)(lo:Nat):Builtin.Str.occurrences (S x) (S y) lo (S x).length 1=(gK y x lo).toList:=by
 have OD:=StrLaws.occ_length_le (S x) (S y) lo (S x).length 1;rcases StrLaws.occ_head_from (S x) (S y) lo 1 (Nat.le_refl _)with⟨h0,hn⟩|⟨i,r,h0,hl,ha,hn⟩
 ·rw[h0]
  have:gK y x lo=none:=by unfold gK;rw[List.find?_eq_none];intro i hi hc;simp only[Bool.and_eq_true,decide_eq_true_eq]at hc;exact hn i hc.1 ((xq x y i).mpr ⟨by have:=List.mem_range.mp hi;omega,hc.2⟩)
  rw[this];rfl
 ·rw[h0]at OD ⊢
  have hr:r= []:=by cases r with
   |nil=>rfl
   |cons _ _=>simp at OD
  subst hr;obtain⟨a1,a2⟩:=(xq x y i).mp ha
  have:gK y x lo=some i:=by
   unfold gK;rw[List.find?_range_eq_some];refine⟨by simp[hl,a2],by simp;omega,fun j hj=>?_⟩;simp only[Bool.not_eq_true',Bool.and_eq_false_iff,decide_eq_false_iff_not];rcases Nat.lt_or_ge j lo with q|q
   ·exact .inl (by omega)
   ·right
    cases z:y.isPrefixOf (x.drop j)with
    |false=>rfl
    |true=>exact absurd ((xq x y j).mpr ⟨by omega,z⟩) (hn j q hj)
  rw[this];rfl
theorem KV(x y:List Nat):(!(Builtin.Str.occurrences (S x) (S y) 0 (S x).length 1).isEmpty)=yk y x:=by
 rw[wO];unfold yk
 cases gK y x 0<;>rfl
noncomputable def qC(h:Heap)(d:PyData)(y:Value):Bool:=open Classical in if q:∃e as,Reads h y e as∧e.canLay0=true then PyData.eqv q.choose d else false
theorem yw{h:Heap}{d e:PyData}{y:Value}{as:List Addr}(r:Reads h y e as)(c:e.canLay0=true):qC h d y=PyData.eqv e d:=by
 have q:∃e as,Reads h y e as∧e.canLay0=true:=⟨e,as,r,c⟩
 unfold qC;rw[dif_pos q];obtain⟨as',r',c'⟩:=q.choose_spec;rw[SeqAt.Reads.unique _ _ _ _ _ c r r']
theorem vi{A:Around}{s:Shared}{d:PyData}{v:Value}{bs:List Addr}(rv:Reads s.heap v d bs)(cd:d.canLay0=true)(hu:A.units+d.depth<cLine):
  ∀{us:List Value}{ds:List PyData}{as:List Addr},ReadsAll s.heap us ds as→ds.all PyData.canLay0=true→∀u∈us,SeqAt.EqAt A s u v (qC s.heap d u)
 |_,_,_,.nil,_=>fun u hu=>by cases hu
 |_,_,_,.cons r t,c=>fun u Rb=>by
  simp only[List.all_cons,Bool.and_eq_true]at c;rcases List.mem_cons.mp Rb with rfl|Rb
  ·rw[yw r c.1];exact SeqAt.eqAt_reads _ _ A s _ _ _ _ r rv c.1 cd (by have:=Nat.min_le_right (PyData.depth ‹PyData›) d.depth;omega)
  ·exact vi rv cd hu t c.2 u Rb
theorem vM{h:Heap}{d:PyData}:∀{us:List Value}{ds:List PyData}{as:List Addr},ReadsAll h us ds as→ds.all PyData.canLay0=true→us.any (qC h d)=ds.any fun e=>PyData.eqv e d
 |_,_,_,.nil,_=>rfl
 |_,_,_,.cons r t,c=>by simp only[List.all_cons,Bool.and_eq_true]at c;rw[List.any_cons,List.any_cons,yw r c.1,vM t c.2]
theorem iT:∀l:List PyData,PyData.canLayAll0 l=l.all PyData.canLay0
 |[]=>by simp[PyData.canLayAll0]
 |x::r=>by simp[PyData.canLayAll0,iT r]
theorem pG:∀l:List PV,jq l=l.map toD
 |[]=>by simp[jq]
 |x::r=>by simp[jq,pG r]
theorem yC(p:PV):Lz [] p=toD p:=by
 unfold Lz
 split
 ·simp[toD]
 ·rfl
section
variable{G:SC}{X:Cx}{w w1:Wo}{ρ:Ev}{h:List PO}{a b c:Expr}{fa fb fc:Ex}{pos:Pos}
theorem inB{p q:PV}{u v:Value}{k:Bool}{op:CmpOp}{neg:Bool}{Q:Value→Shared→Prop}{E:Value→Shared→Prop}(ho:op= .In∧neg=false∨op= .NotIn∧neg=true)(hu:X.A.units+64<cLine)(I:Wd X w h)(rp:br X.toSC w.F w.m p u)(rq:br X.toSC w.F w.m q v)(e:uX p q h=some k)(fin:∀t,Q (.bool (if neg then !k else k)) { w.s with toks:=t }):Wp X (compareOp op u v) Q E w.s:=by
 unfold uX at e
 split at e
 ·split at e<;>cases e
  cases rp;cases rq
  rw[← KV]at fin;rcases ho with⟨rfl,rfl⟩|⟨rfl,rfl⟩
  ·exact in_str (fin w.s.toks)
  ·exact notIn_str (fin w.s.toks)
 ·split at e
  ·split at e<;>cases e
   rename_i kk ek;obtain⟨a,kvs,rfl,sm,d,rr⟩:=I.dc rq ‹_›
   have:(dq ‹_› kk).isSome=(valueAt kvs kk).isSome:=by
    rcases sA rr.2.1 rr.2.2 kk with⟨p1,v1,h1,h2,_⟩|⟨h1,h2⟩
    ·rw[h1,h2];rfl
    ·rw[h1,h2];rfl
   rw[this]at fin;rcases ho with⟨rfl,rfl⟩|⟨rfl,rfl⟩
   ·exact wpAny_in_of (nT rp ek) sm d.mapOf (fin _)
   ·exact wpAny_notIn_of (nT rp ek) sm d.mapOf (fin _)
  ·split at e
   ·split at e
    ·rename_i hc
     cases e
     rename_i xs es
     have h1:(toD p).canLay0=true∧(toD p).depth≤60:=by have:=hc.1;unfold LC at this;simpa[yC]using this
     have h2:PyData.canLayAll0 (jq xs)=true:=by rw[iT,pG,List.all_map];rw[List.all_eq_true]at hc ⊢;intro z hz;have:=hc.2 z hz;unfold LC at this;rw[yC,Bool.and_eq_true]at this;exact this.1
     have h3:(jq xs).all PyData.canLay0=true:=by rw[← iT];exact h2
     obtain⟨t,e,ht⟩:=wh es;obtain⟨a,its,rfl,y,z,r⟩:=I.sq rq e;obtain⟨as,ra⟩:=br.reads I.toHR rp h1.1;obtain⟨bs,rb⟩:=aA.reads I.toHR r h2
     have en:(xs.any fun y=>PyData.eqv (toD y) (toD p))=its.any (qC w.s.heap (toD p)):=by rw[show its.any (qC w.s.heap (toD p))=its.toList.any (qC w.s.heap (toD p)) by simp,vM rb h3,pG,List.any_map];rfl
     rw[en]at fin;have me:=fun{B:Around}(hB:B.units+(toD p).depth<cLine)(x:Value)(hx:x∈its)=>vi (A:=B) ra h1.1 hB rb h3 x (by simpa using hx);have hb:X.A.in1.units+(toD p).depth<cLine:=by show X.A.units+1+_<_;omega
     rcases ht with rfl|rfl<;>rcases ho with⟨rfl,rfl⟩|⟨rfl,rfl⟩
     ·exact SeqAt.in_tupleAt (qC w.s.heap (toD p)) y.tup (fun x hx=>me hb x hx) (fin _)
     ·exact SeqAt.notIn_tupleAt (qC w.s.heap (toD p)) y.tup (fun x hx=>me hb x hx) (fin _)
     ·exact SeqAt.in_listAt (qC w.s.heap (toD p)) y.pl.isList (fun x hx=>me hb x hx) (fin _)
     ·exact SeqAt.notIn_listAt (qC w.s.heap (toD p)) y.pl.isList (fun x hx=>me hb x hx) (fin _)
    ·cases e
   ·cases e
theorem zB(hu:X.A.units+64<cLine):O7 X (compareOp .In) PB:=fun{w h p q u v Q E} I rp rq k=>by
 unfold PB at k
 split at k
 ·exact inB (.inl ⟨rfl,rfl⟩) hu I rp rq ‹_› fun t=>k.now I.toHR (.bl _)
 ·exact k.elim
theorem oX(hu:X.A.units+64<cLine):O7 X (compareOp .NotIn) fQ:=fun{w h p q u v Q E} I rp rq k=>by
 unfold fQ at k
 split at k
 ·exact inB (.inr ⟨rfl,rfl⟩) hu I rp rq ‹_› fun t=>k.now I.toHR (.bl _)
 ·exact k.elim
end
end Z
namespace Z
open PySem PySem.Spec PyProof.Rows L3 L2
end Z
namespace Z
open PySem PySem.Spec PyProof.Rows L3 L2
section
variable{G:SC}{X:Cx}{w w1:Wo}{ρ:Ev}{h:List PO}
theorem bT.QT{Q:Value→Shared→Prop}{E:Value→Shared→Prop}{pv:PV}{t:String}{ps:List PV}{its:Array Value}{n:Nat}{s':Shared}(p:bT X (RV X.toSC) w Q E (.ok pv h))(H:HR X.toSC w h){a:Addr}(na:w.s.heap.get? a=none)(kp:∀b o,w.s.heap.get? b=some o→s'.heap.get? b=some o)(e:s'.heap.get? a=some { cls:=.type t,data:=.seq its n })(k:S_ pv=some (t,ps))(r:aA X.toSC w.F w.m ps its.toList)(z:its.size≤sizeLine)(ho:s'.os=w.s.os:=by rfl)(hg:s'.gens=w.s.gens:=by rfl):Q (.ref a) s':=
 have y:=Nw.lay (X:=X) H na kp e ho hg
 p.2 _ _ y (.sq k bL z (y.1.reps r))
theorem fy:QC X (.type "tuple") dG:=fun ok {w h p u Q E} I rs k=>by
 unfold dG at k
 split at k
 ·obtain⟨u,rfl,r1⟩:=rs.one;show Wp X (call (.type "tuple") [u]) Q E w.s
  split at k
  ·rename_i e;have sl:=sizeLine_eq;unfold Pz at e
   split at e
   ·cases e
    obtain⟨a,its,rfl,y,z,r⟩:=I.sq r1 rfl;exact call_tuple_same y.tup (k.here I.toHR r1)
   ·obtain⟨a,its,rfl,y,z,r⟩:=I.sq r1 (jk e);refine call_tuple_list y.pl.isList (fun h' kp=>?_) (by omega)
    have na:w.s.heap.get? h'.objs.size=none:=by
     cases q:w.s.heap.get? h'.objs.size with
     |none=>rfl
     |some o=>have:=kp _ _ q;rw[aX]at this;cases this
    exact k.QT I.toHR na (fun b o e=>Heap.get?_push_of_some _ (kp b o e)) (Heap.get?_push_size _ rfl) rfl r z
  ·exact k.elim
 ·exact k.elim
theorem xL{F:Fz}{m:List Addr}:∀{ps:List PV}{us:List Value},ps.length=us.length→(∀(i:Nat) p u,ps[i]? =some p→us[i]? =some u→br G F m p u)→aA G F m ps us
 |[],[],_,_=>.nil
 |[],_::_,e,_=>by simp at e
 |_::_,[],e,_=>by simp at e
 |p::ps,u::us,e,k=>.cons (k 0 p u rfl rfl) (xL (by simpa using e) fun i p u h1 h2=>k (i+1) p u h1 h2)
end
end Z
namespace L3
open PySem L2
end L3
namespace L2
open PySem PySem.Spec PyProof.Rows
end L2
namespace Z
open PySem PySem.Spec PyProof.Rows L3 L2
end Z
namespace L2
open PySem PySem.Spec PyProof.Rows
section
variable{prog:Program}{w:World}{A:Around}{E:Value→Shared→Prop}{s:Shared}{it t:Addr}{i:Nat}{items:Array Value}
theorem uY{Q:Value→Shared→Prop}(hit:s.heap.IsTupleIter it t i)
  (go:wpAny (model prog w) A.in1 (Builtin.«tuple_iterator.__next__» ⟨[.ref it],[]⟩) (fun fin s'=>∃v,fin=.done (.ret v)∧Q v s') E s):wpAny (model prog w) A (Builtin.SmallTypes.nextOf (.ref it)) Q E s:=by
 have ty:=hit.typeIs;have c:=wpAny_callSpecial?_slot (E:=E) (name:="__next__") (Q:=fun r s'=>∃v,r=some v∧Q v s') ty F.slot_tuple_iterator_next (wpAny_call_entry F.slot_tuple_iterator_next ty F.entry_tuple_iterator_next (wpAny_mono go ((by rintro fin s' ⟨v,e,q⟩;exact ⟨v,e,v,rfl,q⟩)) fun _ _ z=>z) (F.args_tuple_iterator_next_1 _));unfold Builtin.SmallTypes.nextOf;exact wpAny_bind (wpAny_mono c ((by rintro r s' ⟨v,e,q⟩;subst e;exact wpAny_pure q)) fun _ _ z=>z)
theorem yZ{x:Value}{Q:Value→Shared→Prop}(hit:s.heap.IsTupleIter it t i)(ht:s.heap.IsTuple t items)(hx:items[i]? =some x)(hQ:∀h',h'.IsTupleIter it t (i+1)→Heap.SameBut it s.heap h'→Q x { s with heap:=h' }):
  wpAny (model prog w) A (Builtin.«tuple_iterator.__next__» ⟨[.ref it],[]⟩) (fun fin s'=>∃v,fin=.done (.ret v)∧Q v s') E s:=by
 obtain⟨o,ho,hc,hd⟩:=id hit;obtain⟨p,hp,_,n,Wr⟩:=ht;have nn:¬ ((Value.ref t==Value.none)=true):=Bool.false_ne_true;refine(show wpAny (model prog w) A (field (.ref it) 0 >>= _) _ E s from wpAny_bind (wpAny_field ho hd (x:=.ref t) rfl ?_));refine(show wpAny (model prog w) A (if(Value.ref t==Value.none)=true then _ else _) _ E s from ?_);rw[if_neg nn];refine(show wpAny (model prog w) A (field (.ref it) 1 >>= _) _ E s from wpAny_bind (wpAny_field ho hd (x:=.int i 0) rfl ?_));refine(show wpAny (model prog w) A (seqItems? (.ref t) >>= _) _ E s from wpAny_bind (wpAny_seqItems hp Wr ?_));simp only[Int.toNat_natCast,hx];have st:∀f,(o.mapFields f).data=.fields (f #[.ref t,.int i 0]):=fun f=>Obj.data_mapFields hd f;refine wpAny_bind (wpAny_setField ho hd (by simp) (wpAny_pure ⟨x,rfl,hQ _ ⟨_,Heap.get?_update_self _ ho (Obj.isFreed_of_fields (Obj.data_mapFields hd _)),?_,?_⟩ (Heap.SameBut.update ..)⟩))
 ·rw[Obj.cls_mapFields];exact hc
 ·rw[Obj.data_mapFields hd];simp[rawInt]
theorem AL{Q:Fin→Shared→Prop}(hh:A.handled=none)(hit:s.heap.IsTupleIter it t i)(ht:s.heap.IsTuple t items)(hx:items[i]? =none)
  (hE:∀h' e,Heap.ExtBut it s.heap h'→(∃o,h'.get? e=some o∧o.cls=.type "StopIteration")→E (.ref e) { s with heap:=h' }):
  wpAny (model prog w) A (Builtin.«tuple_iterator.__next__» ⟨[.ref it],[]⟩) Q E s:=by
 obtain⟨o,ho,hc,hd⟩:=id hit;obtain⟨p,hp,_,n,Wr⟩:=ht;have nn:¬ ((Value.ref t==Value.none)=true):=Bool.false_ne_true;refine(show wpAny (model prog w) A (field (.ref it) 0 >>= _) _ E s from wpAny_bind (wpAny_field ho hd (x:=.ref t) rfl ?_));refine(show wpAny (model prog w) A (if(Value.ref t==Value.none)=true then _ else _) _ E s from ?_);rw[if_neg nn];refine(show wpAny (model prog w) A (field (.ref it) 1 >>= _) _ E s from wpAny_bind (wpAny_field ho hd (x:=.int i 0) rfl ?_));refine(show wpAny (model prog w) A (seqItems? (.ref t) >>= _) _ E s from wpAny_bind (wpAny_seqItems hp Wr ?_));simp only[Int.toNat_natCast,hx];refine wpAny_bind (wpAny_rule (wpAny_bind (wpAny_setField ho hd (by simp) (wpAny_bind ?_))));simp only[newExc,newTuple];refine wpAny_bind (wpAny_newObj_type (wpAny_bind (m:=firstArgMember _ _) (wpAny_of_eq (a:=Value.none) (by first|rfl|(simp only[firstArgMember];rfl)) (wpAny_newObj_type ?_ (by size_fits)))) (by size_fits));simp only[raiseNew];refine wpAny_bind (wpAny_handled ?_);rw[hh];exact wpAny_bind (wpAny_pure (wpAny_throw (hE _ _ (((Heap.SameBut.update ..).extBut.push _).push _) ⟨_,Heap.get?_push_size _ rfl,rfl⟩)))
theorem qF(hh:A.handled=none)(ne:t≠it):Draws prog w A.in1 it [it,t] items.size (fun j v=>items[j]? =some v) (fun j h=>h.IsTupleIter it t j∧h.IsTuple t items) where
 live:=fun j h st=>by obtain⟨o,ho,_⟩:=st.1;exact⟨o,ho⟩
 frame:=fun j h h' st k=>by obtain⟨⟨o,ho,r⟩,⟨p,hp,q⟩⟩:=st;exact⟨⟨o,k _ (by simp) o ho,r⟩,⟨p,k _ (by simp) p hp,q⟩⟩
 item:=fun j s Q E hj st hQ=>uY st.1 (yZ st.1 st.2 (x:=items[j]) (by simp[hj]) fun h' S9 sb=>hQ _ h' s.toks (by simp[hj]) ⟨S9,st.2.extBut sb.extBut ne⟩ sb)
 done:=fun s Q E st hE=>uY st.1 (AL (A:=A.in1.in1) hh st.1 st.2 (by simp) hE)
noncomputable def yx(a:Addr):Obj:={ cls:=.type "enumerate",data:=.fields #[.none,.bool false,.ref a,rawInt 0,.none,.none] }
noncomputable def kt(a:Addr):Obj:={ cls:=.type "tuple_iterator",data:=.fields #[.ref a,.int 0 0] }
theorem zG(a:Addr)(xs:Array Value)(o:Obj)(hc:o.cls=.type "tuple")(n:Nat)(hd:o.data=.seq xs n):Meets (Builtin.«enumerate.__new__» ⟨[.type "enumerate",.ref a],[]⟩) (fun _ R s=>s.heap.get? a=some o∧
   R (.ok (.ret (.ref (s.heap.push (kt a)).objs.size))) { s with heap:=(s.heap.push (kt a)).push (yx s.heap.objs.size) }):=
 .of_wp fun P1 w1 A1 R s ⟨hl,h⟩=>by
  cases s with
  |mk hp gs dd tk os=>
  have sub:=sub_enumerate;have tt:Heap.IsTuple hp a xs:=⟨o,hl,hc,n,hd⟩
  wp_walk using AutoSeq1.wpAny_loadPart' hl
  refine wpAny_stack_any fun st=>wpAny_pure ?_
  split
  ·rename_i c _ _ _ _ _
   by_cases e:(c==Value.type "enumerate")=true
   ·rw[e];wp_walk using AutoSeq1.wpAny_loadPart' hl,wpAny_pyIter_tuple tt;exact⟨_,rfl,h⟩
   ·rw[Bool.not_eq_true]at e;rw[e];wp_walk using AutoSeq1.wpAny_loadPart' hl,wpAny_pyIter_tuple tt;exact⟨_,rfl,h⟩
  ·wp_walk using AutoSeq1.wpAny_loadPart' hl,wpAny_pyIter_tuple tt;exact⟨_,rfl,h⟩
theorem xo{Q:Value→Shared→Prop}(ht:s.heap.IsTuple t items)(h:Q (.ref (s.heap.objs.size+1)) { s with heap:=(s.heap.push (kt t)).push (yx s.heap.objs.size) }):wpAny (model prog w) A (call (.type "enumerate") [.ref t]) Q E s:=by obtain⟨o,ho,hc,n,hd⟩:=ht;have z:(s.heap.push (kt t)).objs.size=s.heap.objs.size+1:=Heap.size_push ..;have g:=Heap.get?_push_size (s.heap.push (kt t)) (o:=yx s.heap.objs.size) rfl;refine callType_new F.called_enumerate (by decide) (F.typeCall_enumerate_1 _) (F.newCall_enumerate_1 _) (fun obj=>F.args_object_init_2 obj _) F.entry_enumerate_new (zG t items o hc n hd) ⟨ho,?_⟩;exact⟨⟨_,g,rfl⟩,by rw[z];exact h⟩
end
structure Qq(z ti to i1 i2:Addr)(f1 f2:List Addr):Prop where
 a1:ti≠z
 a2:to≠z
 a3:i1≠z
 a4:i2≠z
 a5:ti≠to
 a6:ti≠i1
 a7:ti≠i2
 a8:to≠i1
 a9:to≠i2
 z1:z∉f1
 z2:z∉f2
 t1:to∉f1
 t2:to∉f2
 o1:i2∉f1
 o2:i1∉f2
section
variable{prog:Program}{w:World}{A:Around}{E:Value→Shared→Prop}{s:Shared}{z ti to i1 i2:Addr}{f1 f2:List Addr}{n1 n2:Nat}{P1 P2:Nat→Value→Prop}{S1 S2:Nat→Heap→Prop}
theorem Draws.but{it c:Addr}{fp:List Addr}{n:Nat}{P:Nat→Value→Prop}{St:Nat→Heap→Prop}(D:Draws prog w A it fp n P St){j:Nat}{h h':Heap}(st:St j h)(e:Heap.ExtBut c h h')(nc:c∉fp):St j h':=
 D.frame j h h' st fun b hb o q=>e b o (fun y=>nc (y▸hb)) q
theorem Am{j:Nat}{a b:Value}{Q:Value→Shared→Prop}(Z:Qq z ti to i1 i2 f1 f2)(D1:Draws prog w A i1 f1 n1 P1 S1)(D2:Draws prog w A i2 f2 n2 P2 S2)
  (hz:IsZip s.heap z ti to .none) (Qy:IsPair s.heap ti (.ref i1) (.ref i2)) (Q0:IsPair s.heap to a b) (s1:S1 j s.heap) (s2:S2 j s.heap) (l1:j<n1) (l2:j<n2)
  (hQ:∀x y h' tk,P1 j x→P2 j y→IsZip h' z ti to (rawInt s.heap.objs.size)→IsPair h' to x y→S1 (j+1) h'→S2 (j+1) h'→IsPair h' s.heap.objs.size x y→h'.objs.size=s.heap.objs.size+1→
   (∀c o,c≠z→c≠to→c≠i1→c≠i2→s.heap.get? c=some o→h'.get? c=some o)→Q (.ref s.heap.objs.size) { s with heap:=h',toks:=tk }):
  wpAny (model prog w) A (Builtin.«zip.__next__» ⟨[.ref z],[]⟩) (fun fin s'=>∃v,fin=.done (.ret v)∧Q v s') E s:=by
 refine(show wpAny (model prog w) A (field (.ref z) 2 >>= _) _ E s from wpAny_bind (wpAny_field hz rfl (x:=.bool false) rfl ?_));refine(show wpAny (model prog w) A (field (.ref z) 3 >>= _) _ E s from wpAny_bind (wpAny_field hz rfl (x:=.ref ti) rfl (wpAny_bind (wpAny_seqItems Qy rfl ?_))));refine(show wpAny (model prog w) A ((field (.ref z) 0 >>= _) >>= _) _ E s from wpAny_bind (wpAny_bind (wpAny_field hz rfl (x:=.none) rfl (wpAny_pure ?_))));rw[if_pos (by rfl)];refine wpAny_bind (wpAny_rule (wpAny_bind (wpAny_field hz rfl (x:=.ref to) rfl (wpAny_bind (wpAny_setField_rec hz (by simp) fun g1 zg b1=>?_)))));have zg:IsZip g1 z ti to .ellipsis:=zg;rw[show(#[Value.ref i1,.ref i2]:Array Value).toList.zipIdx= [(Value.ref i1,0),(.ref i2,1)]from rfl];refine wpAny_bind ?_;rw[List.forIn_cons];refine wpAny_bind (wpAny_bind (wpAny_onRaise ?_));refine(show wpAny (model prog w) A (Builtin.SmallTypes.nextOf (.ref i1) >>= _) _ _ _ from wpAny_bind (D1.item j _ _ _ l1 (Draws.but D1 s1 b1.extBut Z.z1) fun x g2 k2 px t1 b2=>wpAny_pure ?_));have to2:IsPair g2 to a b:=b2.extBut _ _ Z.a8 (b1.extBut _ _ Z.a2 Q0);refine wpAny_bind (wpAny_seqItems to2 rfl (wpAny_bind (wpAny_updateSeq_pair to2 fun g3 to3 b3=>wpAny_bind (wpAny_letGo (wpAny_pure ?_)))));have to3:IsPair g3 to x b:=to3;dsimp only;rw[List.forIn_cons];refine wpAny_bind (wpAny_bind (wpAny_onRaise ?_));refine(show wpAny (model prog w) A (Builtin.SmallTypes.nextOf (.ref i2) >>= _) _ _ _ from wpAny_bind (D2.item j _ _ _ l2 (Draws.but D2 (Draws.but D2 (Draws.but D2 s2 b1.extBut Z.z2) b2.extBut Z.o2) b3.extBut Z.t2) fun y g4 k4 py t2 b4=>wpAny_pure ?_))
 have Xo:IsPair g4 to x b:=b4.extBut _ _ Z.a9 to3;refine wpAny_bind (wpAny_seqItems Xo rfl (wpAny_bind (wpAny_updateSeq_pair Xo fun g5 UW b5=>wpAny_bind (wpAny_letGo (wpAny_pure ?_)))));have UW:IsPair g5 to x y:=UW;dsimp only;rw[List.forIn_nil];refine wpAny_pure (wpAny_bind (wpAny_seqItems UW rfl (wpAny_bind (wpAny_newTuple ?_))));have kz:∀c o,c≠to→c≠i1→c≠i2→g1.get? c=some o→g5.get? c=some o:=fun c o c1 c2 c3 q=>b5.extBut _ _ c1 (b4.extBut _ _ c3 (b3.extBut _ _ c1 (b2.extBut _ _ c2 q)));have z5:IsZip g5 z ti to .ellipsis:=kz _ _ (Ne.symm Z.a2) (Ne.symm Z.a3) (Ne.symm Z.a4) zg;have sz:g5.objs.size=s.heap.objs.size:=by rw[b5.1,b4.1,b3.1,b2.1,b1.1]
 have u1:S1 (j+1) g5:=Draws.but D1 (Draws.but D1 (Draws.but D1 t1 b3.extBut Z.t1) b4.extBut Z.o1) b5.extBut Z.t1;have u2:S2 (j+1) g5:=Draws.but D2 t2 b5.extBut Z.t2;have z6:IsZip (g5.push { cls:=.type "tuple",data:=.seq #[x,y] }) z ti to .ellipsis:=Heap.get?_push_of_some _ z5;refine(show wpAny (model prog w) A ((setField (.ref z) 0 _ >>= _) >>= _) _ E _ from wpAny_bind (wpAny_bind (wpAny_setField_rec z6 (by simp) fun g7 z7 b7=>?_)));refine(show wpAny (model prog w) A (setField (.ref z) 1 _) _ E _ from wpAny_setField_rec (show IsZip g7 z ti to (rawInt g5.objs.size)from z7) (by simp) fun g8 z8 b8=>?_);have z8:IsZip g8 z ti to (rawInt g5.objs.size):=z8;have lz:z<g5.objs.size:=Heap.lt_size z5;have p8:IsPair g8 g5.objs.size x y:=b8.extBut _ _ (Nat.ne_of_gt lz) (b7.extBut _ _ (Nat.ne_of_gt lz) (Heap.get?_push_size _ rfl));have k8:∀c o,c≠z→g5.get? c=some o→g8.get? c=some o:=fun c o c1 q=>b8.extBut _ _ c1 (b7.extBut _ _ c1 (Heap.get?_push_of_some _ q));have s8:g8.objs.size=g5.objs.size+1:=by rw[b8.1,b7.1,Heap.size_push]
 have v1:S1 (j+1) g8:=D1.frame _ _ _ u1 fun c hc o q=>k8 c o (fun y=>Z.z1 (y▸hc)) q;have v2:S2 (j+1) g8:=D2.frame _ _ _ u2 fun c hc o q=>k8 c o (fun y=>Z.z2 (y▸hc)) q;rw[sz]at z8 p8 s8;refine wpAny_pure ⟨_,rfl,?_⟩;have q:=hQ x y g8 k4 px py z8 (k8 _ _ Z.a2 UW) v1 v2 p8 s8 fun c o c1 c2 c3 c4 q=>k8 c o c1 (kz c o c2 c3 c4 (b1.extBut _ _ c1 q));rw[← sz]at q;exact q
theorem CR{j:Nat}{a b:Value}{R:Fin→Shared→Prop}(Z:Qq z ti to i1 i2 f1 f2)(D1:Draws prog w A i1 f1 n1 P1 S1)(D2:Draws prog w A i2 f2 n2 P2 S2)
  (hz:IsZip s.heap z ti to .none) (Qy:IsPair s.heap ti (.ref i1) (.ref i2)) (Q0:IsPair s.heap to a b) (s1:S1 j s.heap) (s2:S2 j s.heap) (l:j=n1∨(j<n1∧j=n2))
  (hE:∀h' e tk,(∀c o,c≠z→c≠to→c≠i1→c≠i2→s.heap.get? c=some o→h'.get? c=some o)→(∃o,h'.get? e=some o∧o.cls=.type "StopIteration")→E (.ref e) { s with heap:=h',toks:=tk }):
  wpAny (model prog w) A (Builtin.«zip.__next__» ⟨[.ref z],[]⟩) R E s:=by
 refine(show wpAny (model prog w) A (field (.ref z) 2 >>= _) _ E s from wpAny_bind (wpAny_field hz rfl (x:=.bool false) rfl ?_));refine(show wpAny (model prog w) A (field (.ref z) 3 >>= _) _ E s from wpAny_bind (wpAny_field hz rfl (x:=.ref ti) rfl (wpAny_bind (wpAny_seqItems Qy rfl ?_))));refine(show wpAny (model prog w) A ((field (.ref z) 0 >>= _) >>= _) _ E s from wpAny_bind (wpAny_bind (wpAny_field hz rfl (x:=.none) rfl (wpAny_pure ?_))));rw[if_pos (by rfl)];refine wpAny_bind (wpAny_rule (wpAny_bind (wpAny_field hz rfl (x:=.ref to) rfl (wpAny_bind (wpAny_setField_rec hz (by simp) fun g1 zg b1=>?_)))));have zg:IsZip g1 z ti to .ellipsis:=zg;rw[show(#[Value.ref i1,.ref i2]:Array Value).toList.zipIdx= [(Value.ref i1,0),(.ref i2,1)]from rfl];refine wpAny_bind ?_;rw[List.forIn_cons];refine wpAny_bind (wpAny_bind (wpAny_onRaise ?_))
 have go:∀(g:Heap)(e:Addr)(k:Nat),IsZip g z ti to .ellipsis→(∀c o,c≠z→c≠to→c≠i1→c≠i2→s.heap.get? c=some o→g.get? c=some o)→(∃o,g.get? e=some o∧o.cls=.type "StopIteration")→
   wpAny (model prog w) A (setField (.ref z) 0 .none) (fun _ s'=>E (.ref e) s') E { s with heap:=g,toks:=k }:=fun g e k zz kk ⟨oe,q1,q2⟩=>by
  have ne:e≠z:=fun y=>by subst y;rw[zz]at q1;cases q1;simp at q2
  exact wpAny_setField_rec zz (by simp) fun g' _ bb=>hE g' e k (fun c o c1 c2 c3 c4 q=>bb.extBut _ _ c1 (kk c o c1 c2 c3 c4 q)) ⟨oe,bb.extBut _ _ ne q1,q2⟩
 rcases l with l|⟨l1,l⟩
 ·subst l;refine(show wpAny (model prog w) A (Builtin.SmallTypes.nextOf (.ref i1) >>= _) _ _ _ from wpAny_bind (D1.done _ _ _ (Draws.but D1 s1 b1.extBut Z.z1) fun g2 e b2 q=>?_));exact go g2 e _ (b2 _ _ (Ne.symm Z.a3) zg) (fun c o c1 _ c3 _ q=>b2 _ _ c3 (b1.extBut _ _ c1 q)) q
 ·subst l;refine(show wpAny (model prog w) A (Builtin.SmallTypes.nextOf (.ref i1) >>= _) _ _ _ from wpAny_bind (D1.item j _ _ _ l1 (Draws.but D1 s1 b1.extBut Z.z1) fun x g2 k2 px t1 b2=>wpAny_pure ?_));have to2:IsPair g2 to a b:=b2.extBut _ _ Z.a8 (b1.extBut _ _ Z.a2 Q0);refine wpAny_bind (wpAny_seqItems to2 rfl (wpAny_bind (wpAny_updateSeq_pair to2 fun g3 to3 b3=>wpAny_bind (wpAny_letGo (wpAny_pure ?_)))));dsimp only;rw[List.forIn_cons];refine wpAny_bind (wpAny_bind (wpAny_onRaise ?_));refine(show wpAny (model prog w) A (Builtin.SmallTypes.nextOf (.ref i2) >>= _) _ _ _ from wpAny_bind (D2.done _ _ _ (Draws.but D2 (Draws.but D2 (Draws.but D2 s2 b1.extBut Z.z2) b2.extBut Z.o2) b3.extBut Z.t2) fun g4 e b4 q=>?_));exact go g4 e _ (b4 _ _ (Ne.symm Z.a4) (b3.extBut _ _ (Ne.symm Z.a2) (b2.extBut _ _ (Ne.symm Z.a3) zg))) (fun c o c1 c2 c3 c4 q=>b4 _ _ c4 (b3.extBut _ _ c2 (b2.extBut _ _ c3 (b1.extBut _ _ c1 q)))) q
theorem vg{j:Nat}{a b:Value}{Q:Option Value→Shared→Prop}(Z:Qq z ti to i1 i2 f1 f2)(D1:Draws prog w A.in1 i1 f1 n1 P1 S1)(D2:Draws prog w A.in1 i2 f2 n2 P2 S2)
  (hz:IsZip s.heap z ti to .none) (Qy:IsPair s.heap ti (.ref i1) (.ref i2)) (Q0:IsPair s.heap to a b) (s1:S1 j s.heap) (s2:S2 j s.heap) (l1:j<n1) (l2:j<n2)
  (hQ:∀x y h' tk,P1 j x→P2 j y→IsZip h' z ti to (rawInt s.heap.objs.size)→IsPair h' to x y→S1 (j+1) h'→S2 (j+1) h'→IsPair h' s.heap.objs.size x y→h'.objs.size=s.heap.objs.size+1→
   (∀c o,c≠z→c≠to→c≠i1→c≠i2→s.heap.get? c=some o→h'.get? c=some o)→Q (some (.ref s.heap.objs.size)) { s with heap:=h',toks:=tk }):wpAny (model prog w) A (pyNext (.ref z)) Q E s:=by
 have ty:s.TypeIs (.ref z) "zip":=⟨_,hz,rfl⟩
 unfold pyNext;exact wpAny_bind (wpAny_attempt (wpAny_callSpecial?_slot (name:="__next__") ty F.slot_zip_next (wpAny_call_entry F.slot_zip_next ty F.entry_zip_next (Am Z D1 D2 hz Qy Q0 s1 s2 l1 l2 fun x y h' tk p1 p2 q1 q2 q3 q4 q5 q6 q7=>wpAny_pure (hQ x y h' tk p1 p2 q1 q2 q3 q4 q5 q6 q7)) (F.args_zip_next_1 _))))
theorem vq{j:Nat}{a b:Value}{Q:Option Value→Shared→Prop}(Z:Qq z ti to i1 i2 f1 f2)(D1:Draws prog w A.in1 i1 f1 n1 P1 S1)(D2:Draws prog w A.in1 i2 f2 n2 P2 S2)
  (hz:IsZip s.heap z ti to .none) (Qy:IsPair s.heap ti (.ref i1) (.ref i2)) (Q0:IsPair s.heap to a b) (s1:S1 j s.heap) (s2:S2 j s.heap) (l:j=n1∨(j<n1∧j=n2))
  (hQ:∀h' tk,(∀c o,c≠z→c≠to→c≠i1→c≠i2→s.heap.get? c=some o→h'.get? c=some o)→Q none { s with heap:=h',toks:=tk }):wpAny (model prog w) A (pyNext (.ref z)) Q E s:=by
 have ty:s.TypeIs (.ref z) "zip":=⟨_,hz,rfl⟩
 unfold pyNext;refine wpAny_bind (wpAny_attempt (wpAny_callSpecial?_slot (name:="__next__") ty F.slot_zip_next (wpAny_call_entry F.slot_zip_next ty F.entry_zip_next (CR Z D1 D2 hz Qy Q0 s1 s2 l ?_) (F.args_zip_next_1 _))));rintro h' e tk kk ⟨o,q1,q2⟩;exact wpAny_bind (wpAny_isInstance (T:="StopIteration") (b:=true) ⟨o,q1,q2⟩ isSubtype_stop (wpAny_pure (hQ _ _ kk)))
noncomputable def xR(a b:Value):Obj:={ cls:=.type "tuple",data:=.seq #[a,b] }
noncomputable def Il(a b:Addr):Obj:={ cls:=.type "zip",data:=.fields #[.none,.bool false,.bool false,.ref a,.ref b] }
abbrev Tz(h:Heap)(a b:Addr):Heap:=(h.push (kt a)).push (kt b)
abbrev Tw(h:Heap)(a b:Addr):Heap:=(Tz h a b).push (xR (.ref h.objs.size) (.ref (h.push (kt a)).objs.size))
abbrev Uy(h:Heap)(a b:Addr):Heap:=(Tw h a b).push (xR .none .none)
abbrev R6(h:Heap)(a b:Addr):Heap:=(Uy h a b).push (Il (Tz h a b).objs.size (Tw h a b).objs.size)
theorem Bx(a b:Addr)(xs ys:Array Value):Meets (Builtin.«zip.__new__» ⟨[.type "zip",.ref a,.ref b],[]⟩) (fun _ R s=>s.heap.IsTuple a xs∧s.heap.IsTuple b ys∧R (.ok (.ret (.ref (Uy s.heap a b).objs.size))) { s with heap:=R6 s.heap a b }):=
 .of_wp fun P1 w1 A1 R s ⟨ta,tb,h⟩=>by
  cases s with
  |mk hp gs dd tk os=>
  have sub:=sub_zip;have t1:Heap.IsTuple hp a xs:=ta;have t2:Heap.IsTuple (hp.push (kt a)) b ys:=by obtain⟨o,q,r⟩:=tb;exact⟨o,Heap.get?_push_of_some _ q,r⟩
  wp_walk using wpAny_pyIter_tuple t1,wpAny_pyIter_tuple t2
  exact⟨_,rfl,h⟩
end
section
variable{prog:Program}{w:World}{A:Around}{E:Value→Shared→Prop}{s:Shared}
theorem rX{a b:Addr}{xs ys:Array Value}{Q:Value→Shared→Prop}(ta:s.heap.IsTuple a xs)(tb:s.heap.IsTuple b ys)
  (h:∀h',(∀c o,s.heap.get? c=some o→h'.get? c=some o)→h'.get? s.heap.objs.size=some (kt a)→h'.get? (s.heap.objs.size+1)=some (kt b)→IsPair h' (s.heap.objs.size+2) (.ref s.heap.objs.size) (.ref (s.heap.objs.size+1))→IsPair h' (s.heap.objs.size+3) .none .none→
   IsZip h' (s.heap.objs.size+4) (s.heap.objs.size+2) (s.heap.objs.size+3) .none→Q (.ref (s.heap.objs.size+4)) { s with heap:=h' }):wpAny (model prog w) A (call (.type "zip") [.ref a,.ref b]) Q E s:=by
 refine callType_new F.called_zip (by decide) (F.typeCall_zip_2 _ _) (F.newCall_zip_2 _ _) (fun obj=>F.args_object_init_3 obj _ _) F.entry_zip_new (Bx a b xs ys) ⟨ta,tb,?_⟩;have z1:(s.heap.push (kt a)).objs.size=s.heap.objs.size+1:=Heap.size_push ..;have z2:(Tz s.heap a b).objs.size=s.heap.objs.size+2:=by rw[Heap.size_push,z1]
 have z3:(Tw s.heap a b).objs.size=s.heap.objs.size+3:=by rw[Heap.size_push,z2]
 have z4:(Uy s.heap a b).objs.size=s.heap.objs.size+4:=by rw[Heap.size_push,z3]
 have up:∀{h:Heap}{o p:Obj}{c:Addr},h.get? c=some o→(h.push p).get? c=some o:=fun e=>Heap.get?_push_of_some _ e;have g0:(R6 s.heap a b).get? s.heap.objs.size=some (kt a):=up (up (up (up (Heap.get?_push_size _ rfl))));have g1:(R6 s.heap a b).get? (s.heap.push (kt a)).objs.size=some (kt b):=up (up (up (Heap.get?_push_size _ rfl)));have g2:(R6 s.heap a b).get? (Tz s.heap a b).objs.size=some (xR (.ref s.heap.objs.size) (.ref (s.heap.push (kt a)).objs.size)):=up (up (Heap.get?_push_size _ rfl));have g3:(R6 s.heap a b).get? (Tw s.heap a b).objs.size=some (xR .none .none):=up (Heap.get?_push_size _ rfl);have g4:(R6 s.heap a b).get? (Uy s.heap a b).objs.size=some (Il (Tz s.heap a b).objs.size (Tw s.heap a b).objs.size):=Heap.get?_push_size _ rfl;rw[z1]at g1;rw[z2,z1]at g2;rw[z3]at g3;rw[z4,z2,z3]at g4;have q:=h (R6 s.heap a b) (fun c o e=>up (up (up (up (up e))))) g0 g1 g2 g3 g4;refine⟨⟨_,by rw[z4];exact g4,rfl⟩,?_⟩;rw[z4];exact q
theorem xB(n a b:Nat)(la:a<n)(lb:b<n):Qq (n+4) (n+2) (n+3) n (n+1) [n,a] [n+1,b]:=by
 have l:∀{i j:Nat},i<j→(n+i:Nat)≠n+j:=fun h=>Nat.ne_of_lt (Nat.add_lt_add_left h n)
 have m:∀{x y z:Nat},x≠y→x≠z→x∉ [y,z]:=fun h1 h2 h=>by
  rcases List.mem_cons.mp h with q|q
  ·exact h1 q
  ·exact h2 (List.mem_singleton.mp q)
 have g:∀{i c:Nat},c<n→(n+i:Nat)≠c:=fun h=>Nat.ne_of_gt (Nat.lt_of_lt_of_le h (Nat.le_add_right n _));have d:∀{i j:Nat},i>j→(n+i:Nat)≠n+j:=fun h=>Ne.symm (l h)
 exact⟨l (i:=2) (by decide),l (i:=3) (by decide),l (i:=0) (j:=4) (by decide),l (i:=1) (by decide),l (i:=2) (by decide),d (i:=2) (j:=0) (by decide),d (i:=2) (by decide),d (i:=3) (j:=0) (by decide),d (i:=3) (by decide),
  m (d (i:=4) (j:=0) (by decide)) (g la),m (d (i:=4) (by decide)) (g lb),m (d (i:=3) (j:=0) (by decide)) (g la),m (d (i:=3) (by decide)) (g lb),m (d (i:=1) (j:=0) (by decide)) (g la),m (l (i:=0) (by decide)) (g (i:=0) lb)⟩
end
end L2
namespace L3
open PySem L2
noncomputable def Ma:Nat→List PV→List PV
 |_,[]=>[]
 |n,x::r=>.tup [.int n,x]::Ma (n+1) r
def Cp(ps:List PV)(h:List PO):Res (List PV):=match ps with
 |[.tup xs]=>.ok (Ma 0 xs) h
 |[.lst xs]=>.ok (Ma 0 xs) h
 |_=>.bad
def qJ(f:Ax):Ax:=fun ρ h=>(f ρ h).bind Cp
noncomputable def Qj:List PV→List PV→List PV
 |x::r,y::t=>.tup [x,y]::Qj r t
 |_,_=> []
def Ag(ps:List PV)(h:List PO):Res (List PV):=match ps with
 |[.tup xs,.tup ys]=>.ok (Qj xs ys) h
 |_=>.bad
def Ih(f:Ax):Ax:=fun ρ h=>(f ρ h).bind Ag
end L3
namespace Z
open PySem PySem.Spec PyProof.Rows L3 L2
section
variable{G:SC}{X:Cx}{w w0 w1:Wo}{ρ:Ev}{h:List PO}{s':Shared}{fp:List Addr}{a b e it:Addr}{o:Obj}{its Ss:Array Value}{xs ys:List PV}{J:Nat→Heap→Prop}{elts:List Expr}{k:Nat}{pos p0 p1:Pos}
theorem yz:∀{xs:List PV}{n i:Nat}{p:PV},(Ma n xs)[i]? =some p→∃x,xs[i]? =some x∧p=.tup [.int ((n+i:Nat):Int),x]
 |[],_,_,_,e=>by simp[Ma]at e
 |x::r,n,0,p,e=>by cases e;exact⟨x,rfl,rfl⟩
 |x::r,n,i+1,p,e=>by obtain⟨y,e1,rfl⟩:=yz (xs:=r) (n:=n+1) (i:=i) e;exact⟨y,e1,by rw[show n+1+i=n+(i+1) by omega]⟩
theorem yy:∀(xs:List PV)(n:Nat),(Ma n xs).length=xs.length
 |[],_=>rfl
 |x::r,n=>by simp[Ma,yy r]
theorem xz:∀{xs ys:List PV}{i:Nat}{p:PV},(Qj xs ys)[i]? =some p→∃x y,xs[i]? =some x∧ys[i]? =some y∧p=.tup [x,y]
 |[],_,_,_,e=>by simp[Qj]at e
 |_::_,[],_,_,e=>by simp[Qj]at e
 |x::r,y::t,0,p,e=>by cases e;exact⟨x,y,rfl,rfl,rfl⟩
 |x::r,y::t,i+1,p,e=>xz (xs:=r) (ys:=t) (i:=i) e
theorem xy:∀(xs ys:List PV),(Qj xs ys).length=min xs.length ys.length
 |[],_=>by simp[Qj]
 |_::_,[]=>by simp[Qj]
 |x::r,y::t=>by simp[Qj,xy r t]
theorem sB(H:HR G w h)(f:∀b∈fp,∃o,Has w b o)(k:∀b o,b∉fp→w.s.heap.get? b=some o→s'.heap.get? b=some o)(ho:s'.os=w.s.os:=by rfl)(hg:s'.gens=w.s.gens:=by rfl):Pv fp w { w with s:=s' }∧HR G { w with s:=s' } h:=
 ⟨⟨ho,fun q=>hg▸q,fun _ _ e=>e,fun _ _ e=>e,⟨[],by simp⟩,fun b o n e=>⟨o,k b o n e⟩,fun b o n q=>⟨k b o n q.1,q.2⟩⟩,H.on fun b o e z=>k b o (fun q=>let⟨_,r⟩:=f b q;z r.2) e⟩
theorem xC(H:HR G w h)(f:∀b∈fp,∃o,Has w b o)(n:w.s.heap.get? a=none)(k:∀b o,b∉fp→w.s.heap.get? b=some o→s'.heap.get? b=some o)(e:s'.heap.get? a=some o)(ho:s'.os=w.s.os:=by rfl)(hg:s'.gens=w.s.gens:=by rfl):Pv fp w ⟨iQ w.F a o,w.O,w.m,s'⟩∧HR G ⟨iQ w.F a o,w.O,w.m,s'⟩ h:=by
 obtain⟨x,y⟩:=sB H f k ho hg;have na:∀{b o},w.s.heap.get? b=some o→b≠a:=fun q z=>by rw[z,n]at q;cases q
 have hF:=(H.free n).2.1;exact⟨⟨ho,fun q=>hg▸q,dj hF,fun _ _ e=>e,⟨[],by simp⟩,x.dom,fun b o n q=>let⟨q1,q2⟩:=x.keep b o n q;⟨q1,q2.1,cP (na q.1) q2.2.1,q2.2.2⟩⟩,y.freeze ⟨e,H.free n⟩⟩
structure Sq(G:SC)(w0:Wo)(a it:Addr)(its:Array Value)(J:Nat→Heap→Prop):Prop where
 keep:∀j g g',J j g→(∀o,g.get? it=some o→g'.get? it=some o)→J j g'
 ob:∀j g,J j g→∃o,g.get? it=some o
 dr:∀{A:Around}{w:Wo}{h:List PO},A.handled=none→O2 w0 w→HR G w h→∃S,Draws G.prog G.w A.in1 it [it,a] its.size (fun j v=>its[j]? =some v) S∧(∀j,J j w.s.heap→S j w.s.heap)∧∀j g,S j g→J j g
theorem wg{n:Nat}(ne:a≠it)(e:w0.F a=some { cls:=.type "tuple",data:=.seq its n }):Sq G w0 a it its (fun j g=>g.IsTupleIter it a j) where
 keep:=(by rintro j g g' ⟨o,ho,r⟩ k;exact ⟨o,k o ho,r⟩)
 ob:=(by rintro j g ⟨o,ho,_⟩;exact ⟨o,ho⟩)
 dr hh l H:=⟨_,qF hh ne,fun j q=>⟨q,⟨_,H.at (l.1 _ _ e),rfl,_,rfl⟩⟩,fun j g q=>q.1⟩
theorem FR{n:Nat}(ne:a≠it)(e:w0.F a=some { cls:=.type "list",data:=.seq its n }):Sq G w0 a it its (fun j g=>g.IsListIter it a j) where
 keep:=(by rintro j g g' ⟨o,ho,r⟩ k;exact ⟨o,k o ho,r⟩)
 ob:=(by rintro j g ⟨o,ho,_⟩;exact ⟨o,ho⟩)
 dr {A w h} hh l H:=⟨_,Draws.list (A:=A.in1) hh it a ne its,fun j q=>⟨q,⟨_,H.at (l.1 _ _ e),rfl,_,rfl⟩⟩,fun j g q=>q.1⟩
theorem Eh(S:Sq G w0 a it its J)(r:aA G w0.F w0.m xs its.toList)(ne:e≠it)(n1:a≠e):Ae G w0 (.Tuple elts k pos) (Ma 0 xs) e [e,it] (fun i g=>(∃old,IsEnum g e it i old)∧J i g) where
 keep l1 H1 l2 H2 st q:=by obtain⟨⟨old,he⟩,hi⟩:=st;exact⟨⟨old,q e (by simp) _ he⟩,S.keep _ _ _ hi fun o ho=>q it (by simp) _ ho⟩
 item {A w h i p Q E} hh l H st hx f q:=by
  obtain⟨⟨old,he⟩,hi⟩:=st;obtain⟨x,ex,rfl⟩:=yz hx;obtain⟨u,hu,ru⟩:=r.get ex;obtain⟨St,D,t1,t2⟩:=S.dr hh l H;have Wk:i<its.size:=(List.getElem?_eq_some_iff.mp hu).1;refine wpAny_pyNext_enum_itemD D he (t1 _ hi) Wk ne (by simp[ne,Ne.symm n1]) fun u' h' tk Rb ho Ud ht hsz hk=>⟨_,rfl,?_⟩
  have:u'=u:=by rw[Array.getElem?_toList]at hu;rw[hu]at Rb;cases Rb;rfl
  subst this;refine wpAny_letOwnedTupleGo_enum ho fun h2 Yi sb=>?_;have lt:e<w.s.heap.objs.size:=Heap.lt_size he
  have kk:∀b o,b∉ [e,it]→w.s.heap.get? b=some o→h2.get? b=some o:=fun b o nb q=>by simp only[List.mem_cons,List.not_mem_nil,or_false,not_or]at nb;exact(sb.2 b nb.1).trans (hk b o nb.1 nb.2 q)
  have ht2:h2.get? w.s.heap.objs.size=some { cls:=.type "tuple",data:=.seq #[.int i tk,u'] }:=(sb.2 _ (Nat.ne_of_gt lt)).trans ht;obtain⟨a1,a2⟩:=xC (s':={ w.s with heap:=h2,toks:=tk+1 }) H f (aX _) kk ht2;have Yg:J (i+1) h2:=S.keep _ _ _ (t2 _ _ Ud) fun o q=>(sb.2 it (Ne.symm ne)).trans q
  have fr:∀b∈ [e,it],∃o,Has ⟨iQ w.F w.s.heap.objs.size { cls:=.type "tuple",data:=.seq #[.int i tk,u'] },w.O,w.m,{ w.s with heap:=h2,toks:=tk+1 }⟩ b o:=fun b hb=>by
   obtain⟨o,q⟩:=f b hb;have nb:b≠w.s.heap.objs.size:=fun z=>by have q:=q.1;rw[z,aX]at q;cases q
   have:∃o,h2.get? b=some o:=by
    simp only[List.mem_cons,List.not_mem_nil,or_false]at hb;rcases hb with rfl|rfl
    ·exact⟨_,Yi⟩
    ·exact S.ob _ _ Yg
   obtain⟨o',q'⟩:=this;exact⟨o',q',q.2.1,cP nb q.2.2.1,q.2.2.2⟩
  refine q _ _ a1 a2 ⟨⟨u',by simpa using Yi⟩,Yg⟩ fr ?_;exact .tup bL (by show 2≤sizeLine;decide) (.cons (by simpa using .int i tk) (.cons ((ru.mono l.1 (.inr l.2)).mono (dj (H.free (aX _)).2.1) (.inr fun _ _ e=>e)) .nil))
 done {A w h i Q E} hh l H st hx f q:=by
  obtain⟨⟨old,he⟩,hi⟩:=st;obtain⟨St,D,t1,t2⟩:=S.dr hh l H;rw[yy,r.len]at hx;subst hx;refine wpAny_pyNext_enum_endD D he (t1 _ hi) fun h' eb=>⟨rfl,?_⟩
  obtain⟨a1,a2⟩:=sB (fp:=[e,it]) (s':={ w.s with heap:=h' }) H f fun b o nb q=>eb b o (by simp only[List.mem_cons,List.not_mem_nil,or_false,not_or]at nb;exact nb.2) q;exact q _ a1 a2
 self hh st q:=by obtain⟨⟨old,he⟩,hi⟩:=st;exact wpAny_pyIter_enum he q
variable{Q:Value→Shared→Prop}{E:Value→Shared→Prop}{tg:Expr}{f:Ax}{ae be:Expr}
theorem PX.of{tn:Nat→Heap→Prop}{h':Heap}{tk:Nat}(I:Inv X w ρ h)(y:K1 X.fs Ov w0 w)(kp:∀b o,w.s.heap.get? b=some o→h'.get? b=some o)(T:Ae X.toSC w tg xs it fp tn)(t:tn 0 h')(fr:∀b∈fp,w.s.heap.objs.size≤b∧∃o,h'.get? b=some o)(p:bT X (PX X tg w0) w Q E (.ok xs h)):Q (.ref it) { w.s with heap:=h',toks:=tk }:=by
 have n:=Nw.also (X:=X) (s':={ w.s with heap:=h',toks:=tk }) I.toHR kp;refine p.2 _ _ n ⟨_,fp,tn,rfl,⟨T.keep,T.item,T.done,T.self⟩,t,fun b hb=>?_⟩;obtain⟨l,o,q⟩:=fr b hb
 have nb:w.s.heap.get? b=none:=by
  cases q:w.s.heap.get? b with
  |none=>rfl
  |some o=>exact absurd (Nat.lt_of_lt_of_le (Heap.lt_size q) l) (Nat.lt_irrefl _)
 refine⟨⟨o,q,I.toHR.free nb⟩,I.out nb,?_⟩
 cases q:w0.s.heap.get? b with
 |none=>rfl
 |some o=>obtain⟨o',q'⟩:=y.dom _ _ q;rw[nb]at q';cases q'
theorem mO(hg:Gl X "enumerate")(hm:X.mg "enumerate"=none)(ha:RA X [ae] f)(hs:starEach [ae] X.env= [(false,eval ae X.env)]:=by rfl):RI X (.Tuple elts k pos) (.Call (.Name "enumerate" p0) [ae] [] p1) (qJ f):=⟨fun{w0 ρ h Q E} I p=>Call_ (I.blt hg hm (show bootBuiltins "enumerate"=some (.type "enumerate") by decide+kernel) (PyProof.Rows.callWith_type1 (ha.r p1 I (p.bind fun w1 h1 ps us y r p=>by
 have fin:∀{a:Addr}{its:Array Value}{J:Nat→Heap→Prop}{xs:List PV}{h':Heap},Sq X.toSC w1 a w1.s.heap.objs.size its J→aA X.toSC w1.F w1.m xs its.toList→a<w1.s.heap.objs.size→(∀b o,w1.s.heap.get? b=some o→h'.get? b=some o)→IsEnum h' (w1.s.heap.objs.size+1) w1.s.heap.objs.size 0 .none→J 0 h'→bT X (PX X (.Tuple elts k pos) w0) w1 Q E (.ok (Ma 0 xs) h1)→Q (.ref (w1.s.heap.objs.size+1)) { w1.s with heap:=h',toks:=w1.s.toks }:=fun{a its J xs h'} S rr la kk hE hJ p=>PX.of (tk:=w1.s.toks) (I.on y) y.1 kk (Eh (elts:=elts) (k:=k) (pos:=pos) S rr (Nat.succ_ne_self _) (Nat.ne_of_lt (Nat.lt_succ_of_lt la))) ⟨⟨_,hE⟩,hJ⟩ (fun b hb=>by
  simp only[List.mem_cons,List.not_mem_nil,or_false]at hb;rcases hb with rfl|rfl
  ·exact⟨Nat.le_succ _,_,hE⟩
  ·exact⟨Nat.le_refl _,S.ob _ _ hJ⟩) p
 unfold Cp at p
 split at p
 ·obtain⟨u,rfl,r1⟩:=r.one
  cases r1 with
  |tup e z rr=>rename_i a its n;have t:=y.2.at e;have la:=Heap.lt_size t;refine xo (t:=a) (items:=its) ⟨_,t,rfl,_,rfl⟩ ?_;have zz:(w1.s.heap.push (kt a)).objs.size=w1.s.heap.objs.size+1:=Heap.size_push ..;have g:=Heap.get?_push_size (w1.s.heap.push (kt a)) (o:=yx w1.s.heap.objs.size) rfl;rw[zz]at g;exact wpAny_pyIter_enum (it:=w1.s.heap.objs.size) (i:=0) (old:=.none) g (fin (wg (Nat.ne_of_lt la) e) rr la (fun b o e=>Heap.get?_push_of_some _ (Heap.get?_push_of_some _ e)) g ⟨_,Heap.get?_push_of_some _ (Heap.get?_push_size _ rfl),rfl,rfl⟩ p)
 ·obtain⟨u,rfl,r1⟩:=r.one
  cases r1 with
  |lst e z rr=>rename_i a its n;have t:=y.2.at e;have la:=Heap.lt_size t;exact call_enumerate_list (items:=its) ⟨_,t,rfl,_,rfl⟩ fun h2 hE hI hsz kk=>wpAny_pyIter_enum hE (fin (FR (Nat.ne_of_lt la) e) rr la kk hE hI p)
 ·exact p.elim)) hs rfl))⟩
end
end Z
namespace Z
open PySem PySem.Spec PyProof.Rows L3 L2
section
variable{G:SC}{X:Cx}{w w0 w1:Wo}{ρ:Ev}{h:List PO}{a b z ti to i1 i2:Addr}{its Ss:Array Value}{xs ys:List PV}{J1 J2:Nat→Heap→Prop}{elts:List Expr}{k:Nat}{pos p0 p1:Pos}{f:Ax}{ae be:Expr}
theorem Hn(S1:Sq G w0 a i1 its J1)(S2:Sq G w0 b i2 Ss J2)(r1:aA G w0.F w0.m xs its.toList)(r2:aA G w0.F w0.m ys Ss.toList)(Z:Qq z ti to i1 i2 [i1,a] [i2,b]):Ae G w0 (.Tuple elts k pos) (Qj xs ys) z [z,ti,to,i1,i2] (fun i g=>IsZip g z ti to .none∧IsPair g ti (.ref i1) (.ref i2)∧(∃u v,IsPair g to u v)∧J1 i g∧J2 i g) where
 keep l1 H1 l2 H2 st q:=by obtain⟨hz,h1,⟨u,v,h2⟩,s1,s2⟩:=st;exact⟨q z (by simp) _ hz,q ti (by simp) _ h1,⟨u,v,q to (by simp) _ h2⟩,S1.keep _ _ _ s1 fun o ho=>q i1 (by simp) _ ho,S2.keep _ _ _ s2 fun o ho=>q i2 (by simp) _ ho⟩
 item {A w h i p Q E} hh l H st hx f q:=by
  obtain⟨hz,h1,⟨u0,v0,h2⟩,s1,s2⟩:=st;obtain⟨x,y,ex,ey,rfl⟩:=xz hx;obtain⟨u,hu,ru⟩:=r1.get ex;obtain⟨v,hv,rv⟩:=r2.get ey;obtain⟨T1,D1,t1,Xq⟩:=S1.dr hh l H;obtain⟨T2,D2,t2,Xp⟩:=S2.dr hh l H;refine vg Z D1 D2 hz h1 h2 (t1 _ s1) (t2 _ s2) (List.getElem?_eq_some_iff.mp hu).1 (List.getElem?_eq_some_iff.mp hv).1 fun u' v' h' tk pu pv z' p' q1 q2 pr sz kk=>⟨_,rfl,?_⟩
  rw[Array.getElem?_toList]at hu hv;rw[hu]at pu
  cases pu
  rw[hv]at pv
  cases pv
  refine wpAny_letOwnedTupleGo_zip z' fun Rd z2 sb=>?_;have lt:z<w.s.heap.objs.size:=Heap.lt_size hz
  have kk2:∀b o,b∉ [z,ti,to,i1,i2]→w.s.heap.get? b=some o→Rd.get? b=some o:=fun b o nb q=>by simp only[List.mem_cons,List.not_mem_nil,or_false,not_or]at nb;exact(sb.2 b nb.1).trans (kk b o nb.1 nb.2.2.1 nb.2.2.2.1 nb.2.2.2.2 q)
  have Za:IsPair Rd w.s.heap.objs.size u v:=(sb.2 _ (Nat.ne_of_gt lt)).trans pr;have up:∀b o,b≠z→h'.get? b=some o→Rd.get? b=some o:=fun b o nb q=>(sb.2 b nb).trans q;obtain⟨a1,a2⟩:=xC (s':={ w.s with heap:=Rd,toks:=tk }) H f (aX _) kk2 Za;have Xr:IsZip Rd z ti to .none∧IsPair Rd ti (.ref i1) (.ref i2)∧(∃u v,IsPair Rd to u v)∧J1 (i+1) Rd∧J2 (i+1) Rd:=⟨z2,up _ _ Z.a1 (kk _ _ Z.a1 Z.a5 Z.a6 Z.a7 h1),⟨u,v,up _ _ Z.a2 p'⟩,S1.keep _ _ _ (Xq _ _ q1) fun o q=>up _ _ Z.a3 q,S2.keep _ _ _ (Xp _ _ q2) fun o q=>up _ _ Z.a4 q⟩
  refine q _ _ a1 a2 Xr (fun b hb=>?_) ?_
  ·obtain⟨o,q⟩:=f b hb;have nb:b≠w.s.heap.objs.size:=fun z=>by have q:=q.1;rw[z,aX]at q;cases q
   have:∃o,Rd.get? b=some o:=by
    obtain⟨g1,g2,⟨_,_,g3⟩,g4,g5⟩:=Xr;simp only[List.mem_cons,List.not_mem_nil,or_false]at hb;rcases hb with rfl|rfl|rfl|rfl|rfl
    ·exact⟨_,g1⟩
    ·exact⟨_,g2⟩
    ·exact⟨_,g3⟩
    ·exact S1.ob _ _ g4
    ·exact S2.ob _ _ g5
   obtain⟨o',q'⟩:=this;exact⟨o',q',q.2.1,cP nb q.2.2.1,q.2.2.2⟩
  ·have up:=dj (o:={ cls:=.type "tuple",data:=.seq #[u,v] }) (H.free (aX w.s.heap)).2.1;exact .tup bL (by show 2≤sizeLine;decide) (.cons ((ru.mono l.1 (.inr l.2)).mono up (.inr fun _ _ e=>e)) (.cons ((rv.mono l.1 (.inr l.2)).mono up (.inr fun _ _ e=>e)) .nil))
 done {A w h i Q E} hh l H st hx f q:=by
  obtain⟨hz,h1,⟨u0,v0,h2⟩,s1,s2⟩:=st;obtain⟨T1,D1,t1,Xq⟩:=S1.dr hh l H;obtain⟨T2,D2,t2,Xp⟩:=S2.dr hh l H;rw[xy,r1.len,r2.len]at hx;refine vq Z D1 D2 hz h1 h2 (t1 _ s1) (t2 _ s2) (by omega) fun h' tk kk=>⟨rfl,?_⟩
  obtain⟨a1,a2⟩:=sB (fp:=[z,ti,to,i1,i2]) (s':={ w.s with heap:=h',toks:=tk }) H f fun b o nb q=>by simp only[List.mem_cons,List.not_mem_nil,or_false,not_or]at nb;exact kk b o nb.1 nb.2.2.1 nb.2.2.2.1 nb.2.2.2.2 q
  exact q _ a1 a2
 self hh st q:=wpAny_pyIter_zip st.1 q
theorem Ge(hg:Gl X "zip")(hm:X.mg "zip"=none)(ha:RA X [ae,be] f)(hs:starEach [ae,be] X.env=(false,eval ae X.env)::starEach [be] X.env:=by rfl)(Lj:(backTo p1 (starEach [be] X.env)).any (·.1)=false:=by rfl):RI X (.Tuple elts k pos) (.Call (.Name "zip" p0) [ae,be] [] p1) (Ih f):=⟨fun{w0 ρ h Q E} I p=>Call_ (I.blt hg hm (show bootBuiltins "zip"=some (.type "zip") by decide+kernel) (PyProof.Rows.callWith_type1 (ha.r p1 I (p.bind fun w1 h1 ps us y r p=>by
 unfold Ag at p
 split at p
 ·obtain⟨u,v,rfl,r1,r2⟩:=r.two
  cases r1 with
  |tup e1 z1 Vz=>
   cases r2 with
   |tup e2 z2 Vy=>
    rename_i a its n b Ss m;have t1:=y.2.at e1;have t2:=y.2.at e2;have la:=Heap.lt_size t1;have lb:=Heap.lt_size t2;refine rX (a:=a) (b:=b) (xs:=its) (ys:=Ss) ⟨_,t1,rfl,_,rfl⟩ ⟨_,t2,rfl,_,rfl⟩ fun h' kk g0 g1 g2 g3 g4=>wpAny_pyIter_zip g4 ?_
    exact PX.of (tk:=w1.s.toks) (I.on y) y.1 kk (Hn (elts:=elts) (k:=k) (pos:=pos) (wg (Nat.ne_of_lt la) e1) (wg (Nat.ne_of_lt (Nat.lt_succ_of_lt lb)) e2) Vz Vy (xB w1.s.heap.objs.size a b la lb)) ⟨g4,g2,⟨_,_,g3⟩,⟨_,g0,rfl,rfl⟩,⟨_,g1,rfl,rfl⟩⟩ (fun c hc=>by
     simp only[List.mem_cons,List.not_mem_nil,or_false]at hc;rcases hc with rfl|rfl|rfl|rfl|rfl
     ·exact⟨Nat.le_add_right _ _,_,g4⟩
     ·exact⟨Nat.le_add_right _ _,_,g2⟩
     ·exact⟨Nat.le_add_right _ _,_,g3⟩
     ·exact⟨Nat.le_refl _,_,g0⟩
     ·exact⟨Nat.le_succ _,_,g1⟩) p
 ·exact p.elim)) hs Lj))⟩
end
end Z
namespace L3
open PySem L2
end L3
namespace Z
open PySem PySem.Spec PyProof.Rows L3 L2
end Z
namespace L3
open PySem L2
end L3
namespace Z
open PySem PySem.Spec PyProof.Rows L3 L2
end Z
namespace Z
open PySem PySem.Spec PyProof.Rows L3 L2
section
variable{X:Cx}{w w1:Wo}{ρ:Ev}{h:List PO}
theorem uE{elt iter tg:Expr}{ifs:List Expr}{scope:Scope}{it:Ax}{tt:Tx}{te:Ex}{M vs:List Str}{g:Gx}{pos py N_:Pos}{y:Str}{iy:Nat}(m9:List Nat)(hc:X.calm=true)(S:cS X.N X.env.scope scope m9 vs M)(hi:RI X tg iter it)(hg:∀cl C,RG (cF X M scope cl C) tg g)(ht:∀cl C,Ry (cF X M scope cl C) ifs tt)(he:∀cl C,RE (cF X M scope cl C) elt te)
  (gm:∀q cp ρ1,g q (List.replicate vs.length none++cp)=some ρ1→∃l,l.length=vs.length∧ρ1=l++cp) (hy:X.N[iy]? =some y) (SQ:X.env.scope.names.lookup y=some .local) (Rp:swapsWith (.ListComp elt [⟨tg,iter,ifs,0⟩] scope pos) (some (.Name y py)) N_.line X.env=pure true)
  (hs:∀y,foldedSetIterable iter X.env y=pure y:=by intro _;rfl):RS X (.Assign [.Name y py] (.ListComp elt [⟨tg,iter,ifs,0⟩] scope pos) N_) (aO iy (cN qX (gL vs.length g m9 it tt te))):=⟨fun{w0 ρ h Q E} I p=>by
 rw[exec_Assign_Name_used _ _ _ _ Rp];refine wpAny_bind<|wpAny_standAt<|wpAny_bind ?_
 show wpAny _ X.A (comprehension (.ListComp elt [⟨tg,iter,ifs,0⟩] scope pos) scope X.env _ (newList []) false (eval iter X.env) (some (assign (.Name y py) X.env)) >>= fun _=>pure ()) _ _ w0.s;refine wpAny_bind<|wpAny_mono (wpAny_comprehension_free (use:=some (assign (.Name y py) X.env)) (Q:=fun _ s'=>Q .next s') rfl hs (jo fun n hn=>I.ok.has n (S.free _ hn rfl)) S.kind S.names ?_) (fun _ _ z=>wpAny_pure (wpAny_pure z)) fun _ _ z=>z
 have p:bC X w0 Q E (fT (it ρ h) fun xs h1=>fT (if xs.length<sizeLine then(eM g tt te (List.replicate vs.length none++dg m9 ρ) xs h1).calm else .bad) fun ps h2=>fT (qX ps h2) fun v h3=>.nx (ρ.set iy (some v)) h3):=by
  unfold aO ez cN gL at p
  cases e:it ρ h with
  |ok xs h1=>
   rw[e]at p
   revert p
   show bC X w0 Q E (fT (((if xs.length<sizeLine then(eM g tt te (List.replicate vs.length none++dg m9 ρ) xs h1).calm else .bad):Res (List PV)).bind qX) _)→bC X w0 Q E (fT (if xs.length<sizeLine then(eM g tt te (List.replicate vs.length none++dg m9 ρ) xs h1).calm else .bad) _);generalize(if xs.length<sizeLine then(eM g tt te (List.replicate vs.length none++dg m9 ρ) xs h1).calm else .bad:Res (List PV))=rr
   cases rr<;>exact id
  |exc _ _=>rw[e]at p;exact p
  |bad=>rw[e]at p;exact p
 refine hi.r I (bC.e0 p I fun w h1 xs v y0 I1 rr p=>?_)
 split at p
 ·rename_i hz
  refine nY (use:=some (assign (.Name y py) X.env)) (Q:=fun _ s=>Q .next s) (K:=fun ps h=>bC X w0 Q E (fT (qX ps h) fun v h3=>.nx (ρ.set iy (some v)) h3)) m9 hc S hg ht he gm I y0 rr hz (by
   revert p
   cases eM g tt te (List.replicate vs.length none++dg m9 ρ) xs h1<;>first|exact id|exact fun z=>bC.ep z |>.elim) fun{w2 h2 ps its D C oC m} y2 H2 nD nC DC hl n l f ra z k=>?_
  obtain⟨nn,e1⟩:=l;have sb:Sub w2.m (w2.m++ [D]):=fun i b e=>by rw[List.getElem?_append_left (List.getElem?_eq_some_iff.mp e).1];exact e
  have n3:=Nw.track (X:=X) (w:=w0) (w1:=w2) ⟨y2,H2⟩ nD ⟨e1,f⟩ (po:=.lst ps) ⟨f.2.1,its,nn,e1,z,ra.mono (fun _ _ e=>e) (.inr sb)⟩;have I3:=I.on n3;have aC:=I.out nC;show wpAny _ X.A (assign (.Name y py) X.env (.ref D)) _ _ w2.s;refine wpAny_assign_Name (I3.store (w:=⟨w2.F,w2.O,w2.m++ [D],w2.s⟩) hy (.inl SQ) (p:=.ref h2.length) (.ref (by rw[H2.len];simp)) fun w4 y4 I4=>?_);obtain⟨sl,hC,zz⟩:=y4.keep C oC ⟨hl.1,fun z=>(List.mem_append.mp z).elim hl.2.1 fun z=>DC (by simp at z;exact z.symm),hl.2.2⟩ aC.w;refine⟨m,qp n fun o e=>by rw[hl.1]at e;cases e;exact⟨sl,hC.1⟩,fun h' TJ=>?_⟩;obtain⟨a1,a2⟩:=nH (s':={ w4.s with heap:=h' }) I4.toHR hC fun b o z e=>(TJ.2 b z).trans e;exact k.2 _ ((n3.s.trans y4).priv a1 (by simp;exact nC)) (I4.priv a1 a2 (by simp;exact aC))
 ·exact p.elim⟩
end
end Z
namespace L2
open PySem PySem.Spec PyProof.Rows PySem.Builtin
abbrev sK(b:Bool):Obj:={ cls:=.type "set",dict:=none,data:=.set #[] 0 (.fresh 0 0 b) }
section
variable{κ:Type} [DecidableEq κ]
noncomputable def oQ(σ:List κ)(k:κ):List κ:=if k∈σ then σ else σ++[k]
def dT(f:Nat→κ):Nat→List κ
 |0=> []
 |n+1=>oQ (dT f n) (f n)
theorem vj{σ:List κ}{k x:κ}:x∈oQ σ k↔x∈σ∨x=k:=by
 unfold oQ
 split
 ·rename_i h;exact⟨.inl,fun z=>z.elim id fun e=>e▸h⟩
 ·rw[List.mem_append,List.mem_singleton]
theorem vm(σ:List κ)(k:κ):(oQ σ k).length=if k∈σ then σ.length else σ.length+1:=by
 unfold oQ
 split
 ·rfl
 ·rw[List.length_append,List.length_singleton]
theorem rG(f:Nat→κ)(n:Nat):(dT f n).length≤n:=by
 induction n with
 |zero=>exact abY _
 |succ n ih=>
  show(oQ _ _).length≤_;rw[vm]
  split<;>omega
abbrev Ve(σ:List κ)(k:κ):Bool:=decide (k∈σ)
end
section
variable{P:Program}{w:World}{A:Around}{R:Result→Shared→Prop}{it:Addr}{fp wr:List Addr}{G:Array GenState→Array GenState→Prop}{n:Nat}{Pn:Nat→Value→Prop}{St:Nat→Shared→Prop}
theorem uA{h h':Heap}{a:Addr}{f:Str→Bool}{c:Nat}(e:∀o,h.get? a=some o→h'.get? a=some o)(z:h.SetOf (strKind P w) a f c):h'.SetOf (strKind P w) a f c:=by obtain⟨o,es,ep,t,q,rest⟩:=z;exact⟨o,es,ep,t,e o q,rest⟩
theorem uB(W:WalksS P w A.in1 it fp wr G n Pn St)(a:Addr)(out:a∉fp)(f:Nat→Str)(txt:∀i v,Pn i v→∃t,v=.str (f i) t)(few:n+1<scanBound)(r:Nat):
  ∀(i:Nat)(s:Shared),i+r=n→St i s→s.heap.SetOf (strKind P w) a (Ve (dT f i)) (dT f i).length→
   (∀s',Moved (a::wr) G s s'→s'.heap.SetOf (strKind P w) a (Ve (dT f n)) (dT f n).length→R (.ok (.ret .none)) s')→
   codeAny (model P w) A (.builtin "set.update.loop" ⟨[.ref a,.ref it],[]⟩) R s:=by
 have aw:a∉wr:=fun z=>out (W.sub _ z);have tl:∀b∈wr,b∈a::wr:=fun _ z=>List.mem_cons_of_mem _ z
 induction r with
 |zero=>intro i s e st so k;obtain rfl:i=n:=e;apply codeAny_builtin F.entry_set_update_loop;rw[Around.under_plainId F.plain_set_update_loop _];apply wpAny_bind (m:=pyNext (.ref it));exact W.done s _ _ st fun s' mv=>wpAny_pure (k s' (mv.mono tl) (uA (fun o q=>mv.heap a o aw q) so))
 |succ r ih=>
  intro i s e st so k;apply codeAny_builtin F.entry_set_update_loop;rw[Around.under_plainId F.plain_set_update_loop _];apply wpAny_bind (m:=pyNext (.ref it));refine W.item i s _ _ (by omega) st fun v s' hv S9 mv=>?_;obtain⟨t,rfl⟩:=txt i v hv;have Y6:=uA (h':=s'.heap) (fun o q=>mv.heap a o aw q) so;apply wpAny_bind (m:=holding [Value.str (f i) t] (setAdd a (.str (f i) t)));apply wpAny_holding;unfold setAdd;apply wpAny_holding;apply wpAny_bind;apply (strKind P w).pyHash (strKind_is P w (f i) t);have room:=rG f i;refine wpAny_setAddHashed_of (knd:=strKind P w) (strKind_is _ _ _ _) rfl Y6 (by omega) fun h' sb Y5=>wpAny_pure ⟨plainId_quiet F.plain_set_update_loop _,?_⟩;have other:∀b,b≠a→∀o,s'.heap.get? b=some o→h'.get? b=some o:=fun b ne o q=>(sb.2 b ne).trans q
  have next:h'.SetOf (strKind P w) a (Ve (dT f (i+1))) (dT f (i+1)).length:=by
   refine SetOf_congr Y5 (fun x=>?_) ?_
   ·rw[Bool.eq_iff_iff,Bool.or_eq_true,decide_eq_true_eq,decide_eq_true_eq,decide_eq_true_eq];exact vj.symm
   ·show _=(oQ _ _).length;rw[vm];simp only[decide_eq_true_eq]
  refine ih (i+1) _ (by omega) (W.frame _ s' _ _ S9 (Nat.le_succ _) fun b hb o q=>other b (fun z=>out (z▸hb)) o q) next fun s2 Zt Y4=>k s2 ?_ Y4;exact Moved.trans W.gtrans ((mv.mono tl).then_heap (Nat.le_succ _) fun b o hb q=>other b (fun z=>hb (z▸List.mem_cons_self)) o q) Zt
end
section
variable{P:Program}{w:World}{A:Around}{E:Value→Shared→Prop}{s:Shared}
theorem sF:∀{zs:List Str}{us:List Value},StrsAre us zs→∀(i:Nat)(v:Value),us[i]? =some v→∃t,v=.str (zs.getD i Str.empty) t
 |_,_,.nil,_,_,e=>by simp at e
 |_,_,.cons y tk r,0,v,e=>by cases e;exact⟨tk,rfl⟩
 |_,_,.cons y tk r,i+1,v,e=>by simpa using sF r i v (by simpa using e)
abbrev CN(P:Program)(w:World)(s:Shared)(a:Addr)(zs:List Str)(n:Nat)(h':Heap):Prop:=
 h'.SetOf (strKind P w) a (Ve (dT (fun i=>zs.getD i Str.empty) n)) (dT (fun i=>zs.getD i Str.empty) n).length∧∀b o,b<a→s.heap.get? b=some o→h'.get? b=some o
theorem AC{b:Bool}{t:String}{l:Addr}{its:Array Value}{zs:List Str}(hh:A.handled=none)(ht:t="list"∨t="tuple")(hl:∃n,s.heap.get? l=some { cls:=.type t,data:=.seq its n })(r:StrsAre its.toList zs)(few:its.size+1<scanBound):
  codeAny (model P w) A (.call (.builtin "set.__init__") ⟨[.ref s.heap.objs.size,.ref l],[]⟩)
   (wants (fun u s2=>u=.none∧∃h' tk,s2= { s with heap:=h',toks:=tk }∧CN P w s s.heap.objs.size zs its.size h') E) { s with heap:=s.heap.push (sK b) }:=by
 have MP:(s.heap.push (sK b)).get? s.heap.objs.size=some (sK b):=Heap.get?_push_size _ rfl;refine codeAny_call_builtin F.called_set.init.plain F.entry_set_init (check_set_init_1 ⟨_,MP,rfl⟩ ?_);obtain⟨c,q⟩:=hl;have q':(s.heap.push (sK b)).get? l=some { cls:=.type t,data:=.seq its c }:=Heap.get?_push_of_some _ q;have ll:l<s.heap.objs.size:=Heap.lt_size q;have sz:(s.heap.push (sK b)).objs.size=s.heap.objs.size+1:=Heap.size_push _ _
 have ne1:l≠(s.heap.push (sK b)).objs.size:=fun z=>by rw[sz]at z;exact Nat.lt_irrefl _ (Nat.lt_trans (z▸ll) (Nat.lt_succ_self _))
 have out:s.heap.objs.size∉ [(s.heap.push (sK b)).objs.size,l]:=by
  intro z;rcases List.mem_cons.mp z with z|z
  ·rw[sz]at z;exact Nat.ne_of_lt (Nat.lt_succ_self _) z
  ·exact Nat.ne_of_gt ll (List.mem_singleton.mp z)
 have n1:isSubtype (.type t) (.type "set")=pure false:=ht.elim (· ▸F.sub_list_set) (· ▸F.sub_tuple_set);have n2:isSubtype (.type t) (.type "frozenset")=pure false:=ht.elim (· ▸F.sub_list_frozenset) (· ▸F.sub_tuple_frozenset);have n3:(Value.type t==Value.type "dict")=false:=by rcases ht with rfl|rfl<;>decide
 have hA:A.in1.in1.handled=none:=by simp[hh]
 unfold Builtin.«set.__init__» noKeywords Builtin.Frozenset.updateFrom;generalize gi:pyIter=iter
 wp_walk
 subst gi;rcases ht with rfl|rfl
 all_goals first|apply wpAny_pyIter_list ⟨_,q',rfl,c,rfl⟩|apply wpAny_pyIter_tuple ⟨_,q',rfl,c,rfl⟩
 all_goals refine wpAny_bind<|wpAny_runValue ?_
 all_goals first
  |refine uB ((Walks.list (prog:=P) (w:=w) hA _ l ne1 its).toS) s.heap.objs.size out (fun i=>zs.getD i Str.empty) (fun i v z=>sF r i v (by rw[Array.getElem?_toList];exact z)) few its.size 0 _ (Nat.zero_add _) ⟨⟨_,Heap.get?_push_size _ rfl,rfl,rfl⟩,⟨_,Heap.get?_push_of_some _ q',rfl,c,rfl⟩⟩ ?_ ?_
  |refine uB ((Walks.tuple (prog:=P) (w:=w) hA _ l ne1 its).toS) s.heap.objs.size out (fun i=>zs.getD i Str.empty) (fun i v z=>sF r i v (by rw[Array.getElem?_toList];exact z)) few its.size 0 _ (Nat.zero_add _) ⟨⟨_,Heap.get?_push_size _ rfl,rfl,rfl⟩,⟨_,Heap.get?_push_of_some _ q',rfl,c,rfl⟩⟩ ?_ ?_
 all_goals first
 |exact SetOf_congr ((setObjOf_fresh (knd:=strKind P w) b).setOf (Heap.get?_push_of_some _ MP) (by decide)) (fun _=>rfl) rfl
 |skip
 all_goals
  rintro⟨h',g',d',t',o'⟩ mv so
  obtain rfl:g'=s.gens:=mv.gens;obtain rfl:d'=s.drawn:=mv.drawn;obtain rfl:o'=s.os:=mv.os;apply wpAny_pure;refine wpAny_pure ⟨rfl,h',t',rfl,so,fun x o hx e=>mv.heap x o (fun z=>?_) (Heap.get?_push_of_some _ (Heap.get?_push_of_some _ e))⟩;rcases List.mem_cons.mp z with z|z
  ·exact Nat.ne_of_lt hx z
  ·have z:=List.mem_singleton.mp z;rw[sz]at z;exact Nat.ne_of_lt (Nat.lt_succ_of_lt hx) z
theorem sJ{t:String}{l:Addr}{its:Array Value}{zs:List Str}{Q:Value→Shared→Prop}(hh:A.handled=none)(ht:t="list"∨t="tuple")(hl:∃n,s.heap.get? l=some { cls:=.type t,data:=.seq its n })(r:StrsAre its.toList zs)(few:its.size+1<scanBound)
  (k:∀(h':Heap)(tk:Nat),CN P w s s.heap.objs.size zs its.size h'→Q (.ref s.heap.objs.size) { s with heap:=h',toks:=tk }):wpAny (model P w) A (call (.type "set") [.ref l]) Q E s:=by
 have C:=F.called_set;obtain⟨_,_,c1⟩:=C.mro;have c2:=C.made;have c3:=C.sub;have c4:=C.notType;have c5:=C.canCreate;have c6:=F.typeCall_set_1 (.ref l);have c7:=C.init.lookup;have c8:=C.init.bind (.ref s.heap.objs.size);apply wpAny_call;apply codeAny_of_tree;show wpAny _ _ (callAny (.type "set") ⟨[.ref l],[]⟩) _ _ _;apply wpAny_pure;refine And.intro (Code.quiet_builtin _ (by decide+kernel))<|codeAny_builtin F.entry_type_call ?_
 rw[Around.under_plain (weight_type_call_type "set" [.ref l] []) rfl]
 repeat any_goals first|assumption|wp_step
 refine codeAny_mono (R:=wants (fun o s1=>∃b:Bool,o=.ref s.heap.objs.size∧s1= { s with heap:=s.heap.push (sK b) }) E) (code_set_new_1 _ fun b=>⟨b,rfl,rfl⟩) fun res s1 z=>?_;rcases res with e|(o|_|_|_)<;>first|exact z|exact z.elim|skip
 obtain⟨b,rfl,rfl⟩:=z;have isS:Shared.TypeIs { s with heap:=s.heap.push (sK b) } (.ref s.heap.objs.size) "set":=⟨_,Heap.get?_push_size _ rfl,rfl⟩
 repeat any_goals first|assumption|wp_step
 refine codeAny_mono (AC (E:=E) (by simp[hh]) ht hl r few) fun VB s2 z2=>?_;rcases VB with e|(o|_|_|_)<;>first|exact z2|exact z2.elim|skip
 obtain⟨rfl,h',tk,rfl,fin⟩:=z2
 repeat any_goals first|assumption|wp_step
 exact k h' tk fin
end
end L2
namespace L3
open PySem PySem.Spec PyProof.Rows L2
theorem AH(f:Nat→List Nat):∀n,dT (fun i=>S (f i)) n=(dT f n).map S
 |0=>rfl
 |n+1=>by
  show oQ (dT (fun i=>S (f i)) n) (S (f n))=(oQ (dT f n) (f n)).map S;rw[AH f n];unfold oQ
  have:S (f n)∈(dT f n).map S↔f n∈dT f n:=by
   constructor
   ·intro h;obtain⟨x,hx,e⟩:=List.mem_map.mp h;rw[← vP e];exact hx
   ·exact fun h=>List.mem_map.mpr ⟨_,h,rfl⟩
  by_cases q:f n∈dT f n
  ·rw[if_pos q,if_pos (this.mpr q)]
  ·rw[if_neg q,if_neg (fun z=>q (this.mp z)),List.map_append];rfl
def nK(ls:List (List Nat)):Nat:=(dT (fun i=>ls.getD i []) ls.length).length
theorem FX(ls:List (List Nat)):(dT (fun i=>(ls.map S).getD i Str.empty) (ls.map S).length).length=nK ls:=by
 have:(fun i=>(ls.map S).getD i Str.empty)=fun i=>S (ls.getD i []):=by
  funext i
  rw[List.getD_eq_getElem?_getD,List.getD_eq_getElem?_getD,List.getElem?_map]
  cases ls[i]? <;>rfl
 rw[this,List.length_map,AH,List.length_map];rfl
def Dv(p:PV)(h:List PO):Res PV:=match QK h p with
 |some xs=>match fC xs with
  |some ls=>if ls.length+1<scanBound then .ok (.int (nK ls:Nat)) h else .bad
  |none=>.bad
 |none=>.bad
end L3
namespace Z
open PySem PySem.Spec PyProof.Rows L3 L2
section
variable{X:Cx}{e:Expr}{f:Ex}{p1 p2 pos Qv:Pos}
theorem StrsAre.len:∀{us:List Value}{ys:List Str},StrsAre us ys→us.length=ys.length
 |_,_,.nil=>rfl
 |_,_,.cons _ _ r=>by simp[StrsAre.len r]
end
end Z
namespace YF
open PySem PySem.W PySem.Calls PyProof.Rows
theorem oP{P:Params}{h:Heap}:∀(ns:List Int)(vs:List Value),WellAll P h vs (ns.map WData.int)→IntsAre vs ns:=by
 intro ns
 induction ns with
 |nil=>
  intro vs w;rw[List.map_nil]at w
  cases w
  exact .nil
 |cons n ns ih=>
  intro vs w;rw[List.map_cons]at w
  cases w with
  |cons a b=>
   cases a
   exact .cons _ _ (ih _ b)
theorem yY{l:OpenLaw}{n:Nat}(hn:l.most=some n){P:Params}{h:Heap}{args:List WData}{R8:List Value}
  (Rq:l.row.toRowW.claim.pre args=true) (Wa:WellAll P h R8 args):
  ∃a vs ns,R8= [Value.ref a]∧args= [WData.list (ns.map WData.int)]∧h.get? a=some { cls:=.type "list",data:=.seq vs.toArray }∧IntsAre vs ns∧ns.length≤n:=by
 have hsh:WShape.hasAll [] args [.list .int]=true:=(pre_splitW Rq).1;have hc:l.pre.holds [] { args:=args }=true:=(pre_splitW Rq).2;obtain⟨d,r,rfl,h1,h2⟩:=hasAllW_cons hsh;obtain rfl:=hasAllW_nil h2;obtain⟨xs,rfl,h3⟩:=hasW_list h1;obtain⟨ns,rfl⟩:=items_int h3
 have OD:ns.length≤n:=by
  unfold OpenLaw.pre at hc
  have h4:(WTm.not (.lt (.lit (.int (n:Int))) (.len (.arg 0)))).holds [] { args:=[.list (ns.map .int)] }=true:=by have h4:=(holds_andW hc).1;rw[hn]at h4;exact h4
  have h5:=condW_of h4 (w_not (w_lt w_lit (w_len_list (w_arg rfl))));rw[List.length_map]at h5;refine Nat.le_of_not_lt fun q=>?_;have q':(n:Int)<((ns.length:Nat):Int):=by omega
  first
   |(rw[decide_eq_true q']at h5;exact absurd h5 (by decide))
   |(simp at h5;omega)
 cases Wa with
 |cons w1 w2=>
  cases w2
  cases w1 with
  |list ho Q5=>exact⟨_,_,ns,rfl,rfl,ho,oP ns _ Q5,OD⟩
theorem zn(l:OpenLaw)(args:List WData):l.row.toRowW.claim.post args (.bool true) args=true:=
 postW_of (r:=l.row.toRowW) (X:=(true==true))
  (show WShape.has [] (.bool true) .bool=true by first|rfl|decide|simp[WShape.has,WShape.arms,WShape.armsAll])
  (show(WTm.eq .res (.lit (.bool true))).value [] { args:=args,res:=some (.bool true),after:=args }=some (.bool (true==true))from w_eq_bool (w_res rfl) w_lit) rfl
theorem Px{l:OpenLaw}{n:Nat}{q:Program}{loose:List Str}{XP:(Str→Option Value)→Heap→Prop}{YP:World→Heap→Prop}{d:DefRec}
  (hn:l.most=some n) (Ws:d.params.defaults= [])
  (call:∀(w:World)(s₀ s₁:Shared)(mg mb:Str→Option Value)(fa:Addr)(o:Obj)(pm cd doc:Value)(a:Addr)(vs:List Value)(ns:List Int),
   Ground q loose [] XP w s₀ mg mb s₁.heap→YP w s₁.heap→
   s₁.heap.get? fa=some o→o.data=.func (docDef d.name d.params d.body d.scope pm cd doc)→s₁.heap.CodeRec cd d.name→mg d.name=some (.ref fa)→
   s₁.heap.get? a=some { cls:=.type "list",data:=.seq vs.toArray }→IntsAre vs ns→ns.length≤n→s₁.gens= #[]→
   codeAny (model l.prog w) callerA (.call (.ref fa) ⟨[.ref a],[]⟩) (fun r s'=>r=.ok (.ret (.bool true))∧OldK s₁.heap s'.heap∧s'.os=s₁.os∧AllBare s'.gens) s₁):
  WalkO q loose XP YP l.row.toRowW d [] (fun f vs=>PySem.call f vs):=by
 intro w s₀ s₁ mg mb G Y fa o pm cd doc dV kV ho hd Rc hD Ua hg args R8 as Rq aax hrd Wa hlo;obtain rfl:dV=.none:=Dflts.none hD Ws;obtain rfl:kV=.none:=Dflts.noKw hD;obtain⟨a,vs,ns,rfl,rfl,Sy,hints,OD⟩:=yY hn Rq Wa;refine enter_call (codeAny_mono (call w s₀ s₁ mg mb fa o pm cd doc a vs ns G Y ho (fd_plain hd) Rc Ua Sy hints OD hg) fun r s' hq=>?_);obtain⟨rfl,h2,h3,h4⟩:=hq;exact⟨.inl ⟨.bool true,.bool true,[],rfl,fun _=>rfl,.bool true,zn l _,fun _=>⟨List.Pairwise.nil,fun _ hm=>(nomatch hm)⟩⟩,h2,h3,h4⟩
end YF
namespace Z
open PySem PySem.Spec PyProof.Rows L3 L2
def WT(G:SC):Cx:={ G with A:=callerA,N:=[],env:=envOfC "" { kind:=.function,names:=[],isGenerator:=false,isCoroutine:=false } 0 0 .none,stack:=[],fn:=fun _=>true,calm:=true,tr:=true,Ep:=fun _=>True }
theorem ry{G:SC}{F:Fz}{m:List Addr}:∀{vs:List Value}{ns:List Int},IntsAre vs ns→aA G F m (ns.map PV.int) vs
 |_,_,.nil=>.nil
 |_,_,.cons i t r=>.cons (.int i t) (ry r)
theorem BH{P:Program}{w:World}{K:PySem.W.Frag}{mg mb:Str→Option Value}{T:Nat→Option Addr}{k:Nat}{fa a:Addr}{fd:FuncData}{x:Str}{fn:List PV→L3.Out}{s₁:Shared}{vs:List Value}{ns:List Int}
  (KX:K.In s₁.heap) (Rr:s₁.heap.Ns mainGlobals mg) (hb:s₁.heap.Ns builtinsNs mb) (hbb:∀x:Str,x≠"__name__"→mb x=bootBuiltins x) (Wl:s₁.heap.NoLimit) (hg:s₁.gens= #[])
  (ha:s₁.heap.get? a=some { cls:=.type "list",data:=.seq vs.toArray }) (hi:IntsAre vs ns) (hl:ns.length≤sizeLine) (hr:eY k callerA)
  (F:Q7 ⟨P,w,K,mg,s₁.heap,T⟩ k fa fd [x] fn) (Ug:∀(s:Shared)(u:Value),BindsTo s fd ⟨[u],[]⟩ [(x,u)]) (hsp:fn [.Nz (ns.map PV.int)]=.ok (.bl true)):
  codeAny (model P w) callerA (.call (.ref fa) ⟨[.ref a],[]⟩) (fun r s'=>r=.ok (.ret (.bool true))∧OldK s₁.heap s'.heap∧s'.os=s₁.os∧AllBare s'.gens) s₁:=by
 have ok:(WT ⟨P,w,K,mg,s₁.heap,T⟩).Ok:=⟨KX,Rr,⟨mb,hb,hbb⟩,Wl,rfl,rfl,rfl,fun x y c e=>(nomatch e),fun x e=>(by rcases e with e|e<;>cases e),fun _=>rfl,rfl,.nil,fun e he=>(nomatch he)⟩
 have W:Wd (WT ⟨P,w,K,mg,s₁.heap,T⟩) ⟨fun b=>s₁.heap.get? b,fun _=>none,[],s₁⟩ []:=⟨⟨fun _ _ e=>e,fun _ _ e=>(nomatch e),rfl,.nil,fun _ _ _ e=>(nomatch e)⟩,.of_eq hg,fun _ _ e=>e,fun b hb=>(nomatch hb)⟩
 refine codeAny_mono (F.run (X:=WT ⟨P,w,K,mg,s₁.heap,T⟩) (w:=⟨fun b=>s₁.heap.get? b,fun _=>none,[],s₁⟩) (h:=[]) (us:=[.ref a]) (Q:=fun v s'=>v=.bool true∧OldK s₁.heap s'.heap∧s'.os=s₁.os∧AllBare s'.gens) (E:=fun _ _=>False) rfl hr rfl rfl W ok (.cons (.Nz ha (by simpa[hi.length]using hl) (by simpa using ry hi)) .nil) hsp (Ug s₁ (.ref a)) fun F' s' u n r=>?_) fun r s' h=>?_
 ·cases r
  exact⟨rfl,OldK.of_keep fun b o e=>n.2.sub b o (n.1.fz b o e),n.1.os,n.1.ba (.of_eq hg)⟩
 ·cases r with
  |error e=>exact h.elim
  |ok fl=>
   cases fl with
   |ret u=>obtain⟨rfl,z⟩:=h;exact⟨rfl,z⟩
   |_=>exact False.elim h
theorem BF{l:W.OpenLaw}{k:Nat}{q:Program}{loose:List Str}{XP:(Str→Option Value)→Heap→Prop}{YP:World→Heap→Prop}{d:DefRec}{K:Params→W.Frag}{x:Str}{fn:List PV→L3.Out}(hn:l.most=some 63)(Ws:d.params.defaults= [])(hr:eY k callerA)
  (hY:∀(w:World)(h:Heap),YP w h→(K w.params).In h) (law:∀ns:List Int,ns.length≤63→fn [.Nz (ns.map PV.int)]=.ok (.bl true))
  (F:∀(w:World)(mg:Str→Option Value)(fa:Addr)(h:Heap),(K w.params).In h→h.Ns mainGlobals mg→mg d.name=some (.ref fa)→
   ∃(fd:FuncData)(T:Nat→Option Addr),(∀(s:Shared)(u:Value),BindsTo s fd ⟨[u],[]⟩ [(x,u)])∧Q7 ⟨l.prog,w,K w.params,mg,h,T⟩ k fa fd [x] fn):
  W.WalkO q loose XP YP l.row.toRowW d [] (fun f vs=>PySem.call f vs):=by
 refine YF.Px hn Ws fun w s₀ s₁ mg mb fa o pm cd doc a vs ns G Y ho hd Rc Ua Sy hints OD hg=>?_;have KX:=hY w _ Y;obtain⟨fd,T,hb,hF⟩:=F w mg fa _ KX G.T.g Ua;exact BH KX G.T.g G.T.b G.T.builtins G.T.nolimit hg Sy hints (Nat.le_trans OD (by decide)) hr hF hb (law ns OD)
end Z
namespace L3
open PySem L2
end L3
namespace Z
open PySem PySem.Spec PyProof.Rows L3 L2
end Z
namespace Z
open PySem PySem.Spec PyProof.Rows L3 L2
end Z
namespace L3
open PySem
def cT(tt:Tx)(te:Ex)(cp:Ev):List PV→List PO→Res (List PV)
 |[],h=>.ok [] h
 |p::r,h=>(tt (some p::cp) h).bind fun b h1=>if b=true then(te (some p::cp) h1).bind fun v h2=>(cT tt te cp r h2).bind fun vs h3=>.ok (v::vs) h3 else cT tt te cp r h1
def dI(m9:List Nat)(it:Ax)(tt:Tx)(te:Ex):Ax:=fun ρ h=>(it ρ h).bind fun xs h1=>if xs.length<sizeLine then(cT tt te (dg m9 ρ) xs h1).calm else .bad
theorem ue(tt:Tx)(te:Ex)(cp:Ev):∀xs h,eM (D_ 0) tt te (List.replicate 1 none++cp) xs h=cT tt te cp xs h
 |[],h=>rfl
 |p::r,h=>by simp only[cT,← ue tt te cp r];rfl
abbrev g2:Gx:=NK 2 (aU (D_ 0) (aU (D_ 1) dU))
end L3
namespace Z
open PySem PySem.Spec PyProof.Rows L3 L2
section
variable{X:Cx}{e a b elt iter tg:Expr}{es ifs:List Expr}{f fa fb te:Ex}{fs it:Ax}{tt:Tx}{pos p0 p1 tp:Pos}{x y:Str}{scope:Scope}{M:List Str}{m9:List Nat}{u:Value}
theorem eS(ha:RE X a fa)(hb:RE X b fb):RE X (.BinOp a .Mult b pos) (c2 ji fa fb):=uG (fun{w h p q u v Q E} I rp rq k=>IK I rp rq (by
 unfold Bf
 split
 ·exact k.elim
 ·exact k)) ha hb
theorem gq(S:cS X.N X.env.scope scope m9 [x] M)(hi:RI X (.Name x tp) iter it)(ht:∀cl C,Ry (cF X M scope cl C) ifs tt)(he:∀cl C,RE (cF X M scope cl C) elt te)(hc:X.calm=true:=by rfl)(hg:∀cl C,RG (cF X M scope cl C) (.Name x tp) (D_ 0):=by exact fun _ _=>bq)
  (hs:∀y,foldedSetIterable iter X.env y=pure y:=by intro _;rfl):RE X (.ListComp elt [⟨.Name x tp,iter,ifs,0⟩] scope pos) (cN N6 (dI m9 it tt te)):=by
 have q:=KP (pos:=pos) m9 hc S hi hg ht he EG Hs hs;have z:gL 1 (D_ 0) m9 it tt te=dI m9 it tt te:=by funext ρ h;simp only[gL,dI,ue]
 exact z▸q
theorem ot{iy:Nat}{py N_:Pos}(S:cS X.N X.env.scope scope m9 [x] M)(hi:RI X (.Name x tp) iter it)(ht:∀cl C,Ry (cF X M scope cl C) ifs tt)(he:∀cl C,RE (cF X M scope cl C) elt te)(hy:X.N[iy]? =some y)(SQ:X.env.scope.names.lookup y=some .local)(Rp:swapsWith (.ListComp elt [⟨.Name x tp,iter,ifs,0⟩] scope pos) (some (.Name y py)) N_.line X.env=pure true)(hc:X.calm=true:=by rfl)(hg:∀cl C,RG (cF X M scope cl C) (.Name x tp) (D_ 0):=by exact fun _ _=>bq)
  (hs:∀y,foldedSetIterable iter X.env y=pure y:=by intro _;rfl):RS X (.Assign [.Name y py] (.ListComp elt [⟨.Name x tp,iter,ifs,0⟩] scope pos) N_) (aO iy (cN qX (dI m9 it tt te))):=by
 have q:=uE (pos:=pos) (py:=py) m9 hc S hi hg ht he Hs hy SQ Rp hs;have z:gL 1 (D_ 0) m9 it tt te=dI m9 it tt te:=by funext ρ h;simp only[gL,dI,ue]
 exact z▸q
theorem rst{l:List Nat}{j}(e:x=S l:=by kernel_rfl):RE X (.Constant (.str x) j pos) (cK (.str l)):=Gh l e
theorem ra1(ha:RE X e f)(hs:starEach [e] X.env=(false,eval e X.env)::starEach [] X.env:=by rfl):RA X [e] (af f au):=ag ha du hs
theorem req(hu:X.A.units+64<cLine)(ha:RE X a fa)(hb:RE X b fb):RE X (.Compare a [.Eq] [b] pos) (c2 J3 fa fb):=jO (IM hu) (bp _) ha hb
theorem Lf(hu:X.A.units+64<cLine)(ha:RE X a fa)(hb:RE X b fb):RT X (.Compare a [.Eq] [b] pos) (aI (c2 J3 fa fb)):=bh (IM hu) (bp _) ha hb
theorem zr(ha:RE X e f):Qs X [.Return (some e) pos] (bw f):=ay (Gb ha)
theorem bf{i:Nat}{pos':Pos}(ha:RE X a fa)(hi:X.N[i]? =some x:=by rfl)(hx:X.env.kindOf x=some .local∨(X.env.kindOf x=some .cell∧X.fn x=true):=by first|exact .inl rfl|exact .inr ⟨rfl,rfl⟩)(hs:swapsWith a (some (.Name x pos')) pos.line X.env=pure false:=by rfl):RS X (.Assign [.Name x pos'] a pos) (aO i fa):=Ga hi hx ha hs
theorem zf{g:Gx}{body:List Stmt}{fb:Sx}(hi:RI X tg iter it)(hg:RG X tg g)(hb:Qs X body fb)(hp:∀E,X.Ep E→PassesOwn X.M X.A X.env E:=by exact fun _ h=>h)(hc:X.calm=true:=by rfl)(hs:∀x,foldedSetIterable iter X.env x=pure x:=by intro _;rfl):RS X (.For tg iter body [] pos) (gh it g fb):=Gc hp hc hi hg hb hs
theorem zb{id:String}{g:List PV→List PO→Res PV}(o:QC X (.builtin id) g)(hm:X.mg x=none)(ha:RA X (e::es) fs)(hv:bootBuiltins x=some (.builtin id):=by decide+kernel)(hg:Gl X x:=by rfl)(hn:x≠"__name__":=by decide)(MJ:nD0 x:=by decide)(he:sE0 X e es:=by rfl)(Lj:sP0 X es pos:=by rfl):RE X (.Call (.Name x p0) (e::es) [] pos) (cN g fs):=AO o hg hm hv ha hn MJ he Lj
theorem zt{id:String}{g:List PV→List PO→Res PV}(o:QC X (.type id) g)(hm:X.mg x=none)(ha:RA X (e::es) fs)(hv:bootBuiltins x=some (.type id):=by decide+kernel)(hg:Gl X x:=by rfl)(hn:x≠"__name__":=by decide)(MJ:nD0 x:=by decide)(he:sE0 X e es:=by rfl)(Lj:sP0 X es pos:=by rfl):RE X (.Call (.Name x p0) (e::es) [] pos) (cN g fs):=za o hg hm hv ha hn MJ he Lj
theorem YG{n:String}(hm:X.mg x=none)(hg:Gl X x:=by rfl)(hv:bootBuiltins x=some (.type n):=by decide+kernel)(hn:x≠"__name__":=by decide)(hd:nD0 x:=by decide):RE X (.Name x pos) (cK (.ty n)):=Gg hg hm hv hn hd
theorem YJ{n:String}(hi:X.mg "isinstance"=none)(hm:X.mg x=none)(ha:RE X e f)(hg:Gl X "isinstance":=by rfl)(h1:Gl X x:=by rfl)(hv:bootBuiltins x=some (.type n):=by decide+kernel)(hn:x≠"__name__":=by decide)(hd:nD0 x:=by decide)(he:starEach [e,.Name x p1] X.env=(false,eval e X.env)::starEach [.Name x p1] X.env:=by rfl)(h2:starEach [.Name x p1] X.env=(false,eval (.Name x p1) X.env)::starEach [] X.env:=by rfl)(Lj:(backTo pos (starEach [.Name x p1] X.env)).any (·.1)=false:=by rfl):RE X (.Call (.Name "isinstance" p0) [e,.Name x p1] [] pos) (cN mV (af f (af (cK (.ty n)) au))):=zb Bm hi (ag ha (ag (YG hm h1 hv hn hd) du h2) he) (by decide+kernel) hg (by decide) (by decide) he Lj
theorem zl(hm:X.mg "len"=none)(ha:RE X e f)(hg:Gl X "len":=by rfl)(he:starEach [e] X.env=(false,eval e X.env)::starEach [] X.env:=by rfl)(Lj:(backTo pos (starEach [] X.env)).any (·.1)=false:=by rfl):RE X (.Call (.Name "len" p0) [e] [] pos) (cN dZ (af f au)):=zb IL hm (ra1 ha he) (by decide+kernel) hg (by decide) (by decide) he Lj
theorem Vk{i:Int}(h:∃t,X.mg x=some (.int i t))(hg:Gl X x:=by rfl)(hd:nD0 x:=by decide):RE X (.Name x pos) (cK (.int i)):=let⟨_,h⟩:=h;xN hg h (fun _ _ _=>.int _ _) hd
def GV(S:SC)(x:Str)(ps:List PV):Prop:=∃a its n,S.mg x=some (.ref a)∧S.base.get? a=some { cls:=.type "tuple",data:=.seq its n }∧its.size≤sizeLine∧∀F m,aA S F m ps its.toList
theorem glV{ps:List PV}(h:GV X.toSC x ps)(hg:Gl X x:=by rfl)(hd:nD0 x:=by decide):RE X (.Name x pos) (cK (.tup ps)):=let⟨_,_,_,a,b,c,d⟩:=h;xN hg a (fun F m k=>.tup (k _ _ b) c (d F m)) hd
theorem Q7.bad{G:SC}{k:Nat}{f:Addr}{fd:FuncData}{ps:List Str}:Q7 G k f fd ps fun _=>.bad:=⟨fun _ _ h=>(nomatch h),fun _ _ _ _ _ _ _ h=>(nomatch h)⟩
theorem O8.bad{G:SC}{c:Bool}{k:Nat}{f:Addr}{fd:FuncData}{ps:List Str}:O8 G c k f fd ps fun _ _=>.bad:=⟨fun _ _ h=>absurd rfl h,fun _ _ _ _ _ _ _ _ h=>h.elim⟩
end
end Z
namespace L3
open PySem
def xS(ps:List PV)(h:List PO):Res PV:=match ps with
 |[p]=>match Pz h p with
  |some xs=>.ok (.lst xs) h
  |none=>.bad
 |_=>.bad
def sY(ps:List PV)(h:List PO):Res PV:=match ps with
 |[p]=>match Pz h p with
  |some xs=>.ok (.ref h.length) (h++ [.lst xs])
  |none=>.bad
 |_=>.bad
def xU(p y:PV)(h:List PO):Res PV:=match y with
 |.int (-1)=>match QK h p with
  |some xs=>.ok (.lst xs.reverse) h
  |none=>.bad
 |_=>.bad
end L3
namespace Z
open PySem PySem.Spec PyProof.Rows L3 L2
section
variable{G:SC}{X:Cx}{w w1:Wo}{ρ:Ev}{h:List PO}
theorem HR.Pz{p:PV}{u:Value}{xs:List PV}(H:HR G w h)(r:br G w.F w.m p u)(e:Pz h p=some xs):∃t a its,(t="list"∨t="tuple")∧u=.ref a∧Tv w.s.heap t a its∧its.size≤sizeLine∧aA G w.F w.m xs its.toList:=by
 unfold L3.Pz at e
 split at e
 ·cases e
  obtain⟨a,its,e1,y,z,r⟩:=H.sq r rfl;exact⟨_,a,its,.inr rfl,e1,y,z,r⟩
 ·obtain⟨a,its,e1,y,z,r⟩:=H.sq r (jk e);exact⟨_,a,its,.inl rfl,e1,y,z,r⟩
theorem Gp:QC X (.type "list") xS:=fun ok {w h p u Q E} I rs k=>by
 unfold xS at k
 split at k
 ·obtain⟨u,rfl,r1⟩:=rs.one;show Wp X (call (.type "list") [u]) Q E w.s
  split at k
  ·rename_i e;obtain⟨t,a,its,ht,rfl,⟨n,y⟩,z,r⟩:=I.toHR.Pz r1 e;exact call_list_seq a ht y rfl rfl (fun h' c' kp e=>k.QT I.toHR (aX _) kp e rfl r z) z
  ·exact k.elim
 ·exact k.elim
theorem Dy:QC X (.type "list") sY:=fun ok {w h p u Q E} I rs k=>by
 unfold sY at k
 split at k
 ·obtain⟨u,rfl,r1⟩:=rs.one;show Wp X (call (.type "list") [u]) Q E w.s
  split at k
  ·rename_i e;obtain⟨t,a,its,ht,rfl,⟨n,y⟩,z,r⟩:=I.toHR.Pz r1 e;refine call_list_seq a ht y rfl rfl (fun h' c' kp e=>?_) z;have sb:Sub w.m (w.m++ [w.s.heap.objs.size]):=fun i b e=>by rw[List.getElem?_append_left (List.getElem?_eq_some_iff.mp e).1];exact e
   exact k.2 _ _ (Nw.mk (s':={ w.s with heap:=h' }) I.toHR (aX _) kp ⟨(I.toHR.free (aX _)).2.1,its,c',e,z,r.mono (fun _ _ e=>e) (.inr sb)⟩ (fun _ _ e=>e) (fun _ _ e=>.inl e) rfl rfl) (.ref (by rw[I.len];simp))
  ·exact k.elim
 ·exact k.elim
theorem aA.back{F:Fz}{m:List Addr}{ps:List PV}{us:List Value}(r:aA G F m ps us):aA G F m ps.reverse us.reverse:=xL (by simp[r.length]) fun i p u e1 e2=>by
 have l:=r.length;have hi:i<ps.length:=by simpa using(List.getElem?_eq_some_iff.mp e1).1
 rw[List.getElem?_reverse hi]at e1;rw[List.getElem?_reverse (by omega)]at e2;obtain⟨v,q,z⟩:=r.get e1;rw[← l,q]at e2;cases e2;exact z
theorem Dm{a st:Expr}{fa fs:Ex}{p2 pos:Pos}(ha:RE X a fa)(hs:RE X st fs):RE X (.Subscript a (.Slice none none (some st) p2) pos) (c2 xU fa fs):=⟨fun I k=>Subscript_ (ha.r I (k.bind fun _ _ p u y r k=>wpAny_Slice (by
 rw[evalPart_none];refine wpAny_pure (wpAny_pure ?_);rw[evalPart_some]
 exact hs.r (I.on y) (k.bind fun w h q v y2 r2 k=>by
  unfold xU at k
  split at k
  ·cases r2 with
   |int _ t=>
    split at k
    ·rename_i xs e;have n:=Nw.also (X:=X) (s':={ w.s with heap:=w.s.heap.push { cls:=.type "slice",data:=.fields #[.none,.none,.int (-1) t] } }) y2.2 fun b o e=>Heap.get?_push_of_some _ e;have I4:=((I.on y).on y2).on n;obtain⟨b,its,rfl,⟨c,hb⟩,z,rr⟩:=I4.toHR.sq (n.1.rep (y2.1.rep r)) (jk e);have il:Heap.IsList _ b its:=⟨_,hb,rfl,c,rfl⟩
     refine tail_any (ops:=[.ref b,.ref w.s.heap.objs.size]) il.typeIs slot_list_getitem.lookup ?_ (by with_unfolding_all rfl);refine wpAny_getItem_list_slice il (Heap.IsSliceOf.new ..) .none .none (.int (-1) t) (by decide) ?_ (by have:=sizeLine_eq;omega);rw[W.krv_pick];exact(k.step n).QT (its:=its.toList.reverse.toArray) I4.toHR (aX _) (fun b o e=>Heap.get?_push_of_some _ e) (Heap.get?_push_size _ rfl) rfl (by simpa using rr.back) (by simpa using z)
    ·exact k.elim
  ·exact k.elim))))⟩
end
end Z
namespace L3
open PySem
noncomputable def DA(n:Nat):PV→Bool
 |.ref j=>j !=n
 |_=>true
def Au(p q:PV)(h:List PO):Res PV:=match gW h p with
 |some (n,kps)=>match Rf h q with
  |some more=>if DA n q=true∧kps.length+more.length≤sizeLine then .ok .non (h.set n (.dct (more.foldl (fun acc kv=>bK acc kv.1 kv.2) kps)))else .bad
  |none=>.bad
 |none=>.bad
def HV(fo fe:Ex):Ex:=fun ρ h=>(fo ρ h).bind fun p h1=>if(gW h1 p).isSome=true then(fe ρ h1).bind fun q h2=>Au p q h2 else .bad
end L3
namespace Z
open PySem PySem.Spec PyProof.Rows L3 L2
section
variable{G:SC}{X:Cx}{w w1:Wo}{ρ:Ev}{h:List PO}
theorem HR.other{q:PV}{n:Nat}{a b:Addr}(H:HR G w h)(em:w.m[n]? =some a)(hf:w.F a=none)(r:br G w.F w.m q (.ref b)){kps:List (PK×PV)}(k:Rf h q=some kps)(z:DA n q=true):a≠b:=by
 rintro rfl
 cases r with
 |ref e=>rename_i j;have l:=(List.getElem?_eq_some_iff.mp e).1;have q:=(List.getElem?_inj l H.nd).mp (e.trans em.symm);subst q;simp[DA]at z
 |dct e=>rw[hf]at e;cases e
 |_=>cases k
theorem Gf{oe ke:Expr}{fo fk:Ex}{apos pos:Pos}(ho:RE X oe fo)(hk:RE X ke fk)(base:attributeBase oe "update" X.env (eval oe X.env)=eval oe X.env:=by rfl)(few:((backTo pos (starEach [ke] X.env)).all (fun x=>!x.1)&&(backToKw pos (keywordEach [] X.env)).all (fun x=>x.1.isSome)
  &&decide (([ke]:List Expr).length+([]:List Keyword).length+(if([]:List Keyword).isEmpty then 0 else 1)<30))=true:=by rfl) (line:(apos.endLine==pos.line)=true:=by rfl) (trees:backTo pos (starEach [ke] X.env)=[(false,eval ke X.env)]:=by rfl):RE X (.Call (.Attribute oe "update" apos) [ke] [] pos) (HV fo fk):=⟨fun I p=>wpAny_Call_method base few line PySem.F.plainAttrs_dict PySem.F.slot_dict_update PySem.F.type_dict_update (ho.r I (p.bind fun w1 h1 q u y r p=>by
 split at p
 ·obtain⟨⟨n0,k0⟩,e0⟩:=Option.isSome_iff_exists.mp ‹_›;obtain⟨a,o,kvs,rfl,em,hf,sm,e,d,z,rr⟩:=y.2.ld r e0;refine⟨⟨o,e,d.1.1⟩,fun b q=>(by cases q;exact⟨o,e,d.1.2.1⟩),?_⟩;rw[trees];refine Calls.callWith_builtin rfl (Calls.evalArgs_plain (Calls.spliced_cons (hk.r (I.on y) (p.bind fun w2 h2 q2 iv y2 ri p=>Calls.spliced_nil ?_))));unfold Au at p
  split at p
  ·split at p
   ·rename_i ek
    split at p
    ·rename_i hz;obtain⟨a',o,kvs,q,em,hf,sm,e,d,z,rr⟩:=y2.2.ld (y2.1.rep r) ‹_›
     cases q
     obtain⟨b,ms,rfl,sb,db,rb⟩:=y2.2.dc ri ek;have l1:=rr.length;have l2:=rb.len;refine call_meetsIn PySem.F.slot_dict_update (d.of e).typeIs PySem.F.entry_dict_update (PySem.F.args_dict_update_2 _ _) (meets_dict_update (pk X.prog X.w) a b (y2.2.other em hf ri ek hz.1) sb) ⟨kvs,ms,d.of e,db,by omega,fun h' Um _ hs=>?_⟩;exact p.2 _ _ (Nw.WL (tk:=w2.s.toks) y2.2 em hf sm Um hs (Nat.le_trans (jT _ _) (by omega)) (RK.merge rb.2 rr)) .non
    ·exact p.elim
   ·exact p.elim
  ·exact p.elim
 ·exact p.elim))⟩
end
end Z
namespace L2
open PySem PySem.Spec PyProof.Rows
section
variable{prog:Program}{w:World}{A:Around}{R:Result→Shared→Prop}{E:Value→Shared→Prop}
theorem vT:typeLookup (.type "zip") "keys"=pure none:=by rw[typeLookup_type,builtinLookup_eq_fast];kernel_rfl
theorem Ah:typeLookup (.type "zip") "__getattr__"=pure none:=by rw[typeLookup_type,builtinLookup_eq_fast];kernel_rfl
theorem FH:entryFor table "zip.__getattribute__"=some Builtin.«object.__getattribute__» :=entryFor_alias (id':="object.__getattribute__") (by kernel_rfl) (by decide+kernel) (by decide+kernel) (by kernel_rfl)
theorem Aj(z:Addr)(vs:Array Value)(u:Tok):Meets (Builtin.«object.__getattribute__» ⟨[.ref z,.str "keys" u],[]⟩) (fun A R s=>s.heap.get? z=some { cls:=.type "zip",data:=.fields vs }∧raisesAttr (.ref z) "keys" A R s):=
 .of_wp fun P1 w1 A1 R s ⟨hx,hs⟩=>by
  cases s with
  |mk hp g d tk os=>
  have ty:(⟨hp,g,d,tk,os⟩:Shared).TypeIs (.ref z) "zip":=⟨_,hx,rfl⟩
  have m:=vT;unfold Builtin.«object.__getattribute__»
  wp_walk
  exact wpAny_raiseAttrError hs.1 hs.2 (attrMsg_fits (by decide+kernel) (by size_fits))
theorem An{s:Shared}{z:Addr}{vs:Array Value}{u:Tok}(hh:A.handled=none)(hl:s.heap.get? z=some { cls:=.type "zip",data:=.fields vs })(h:∀h' tk e,Heap.NewAttrErr s.heap h' e (.ref z) "keys"→R (.error (.ref e)) { s with heap:=h',toks:=tk }):codeAny (model prog w) A (.call (.builtin "zip.__getattribute__") ⟨[.ref z,.str "keys" u],[]⟩) R s:=
 codeAny_call_builtin PySem.F.slot_zip_getattribute.plain FH (PySem.F.slot_zip_getattribute.check _ _ _ _ _ _ _ _ ⟨_,hl,rfl⟩ (PySem.F.args_zip_getattribute_2 _ _) (Aj z vs u prog w A R s ⟨hl,hh,h⟩))
theorem Al{s:Shared}{z:Addr}{vs:Array Value}{Q:Option Value→Shared→Prop}(hh:A.handled=none)(hl:s.heap.get? z=some { cls:=.type "zip",data:=.fields vs })
  (hQ:∀h' tk,(∀b o,s.heap.get? b=some o→h'.get? b=some o)→Q none { s with heap:=h',toks:=tk }):wpAny (model prog w) A (getAttr? (.ref z) "keys") Q E s:=by
 obtain⟨hp,g,d,tk,os⟩:=s;have ty:∀tk',(⟨hp,g,d,tk',os⟩:Shared).TypeIs (.ref z) "zip":=fun _=>⟨_,hl,rfl⟩
 have t1:=ty (tk+1);have f1:=sub_AttributeError;have f3:=PySem.F.slot_zip_getattribute.lookup;have f4:=PySem.F.slot_zip_getattribute.bind (.ref z);have f5:=Ah;unfold getAttr? getAttrBy? getAttrBy getAttrByItsOwn
 wp_walk
 refine An hh hl fun h2 t2 e x=>?_;obtain⟨t3,u3,he⟩:=x.there;dsimp only;unfold getattributeRaised
 wp_walk
 exact hQ h2 t2 x.keeps
abbrev xw(h:Heap)(z ti to:Addr)(f0 f1:Value):Prop:=h.get? z=some { cls:=.type "zip",data:=.fields #[f0,f1,.bool false,.ref ti,.ref to] }
end
section
variable{prog:Program}{w:World}{A:Around}{E:Value→Shared→Prop}{s:Shared}{z ti to i1 i2:Addr}{f1 f2:List Addr}{n1 n2:Nat}{P1 P2:Nat→Value→Prop}{S1 S2:Nat→Heap→Prop}
theorem uk{a:Addr}{b:Bool}{oa:Obj}{Q:Bool→Shared→Prop}(hz:xw s.heap z ti to (rawInt a) (.bool b))(ha:s.heap.get? a=some oa)(hQ:∀h',xw h' z ti to (rawInt a) (.bool true)→Heap.SameBut z s.heap h'→Q false { s with heap:=h' }):
  wpAny (model prog w) A (Builtin.SmallTypes.ownedTupleIsFree (.ref z)) Q E s:=by
 refine(show wpAny (model prog w) A (field (.ref z) 0 >>= _) _ E s from wpAny_bind (wpAny_field hz rfl (x:=rawInt a) rfl ?_));refine(show wpAny (model prog w) A (loadIfAlive ((a:Int).toNat) >>= _) _ E s from wpAny_bind ?_)
 have al:∀{Q:Option Obj→Shared→Prop},Q (some oa) s→wpAny (model prog w) A (loadIfAlive ((a:Int).toNat)) Q E s:=fun{Q} h=>by
  have q:Q (s.heap.get? ((a:Int).toNat)) s:=by rw[Int.toNat_natCast,ha];exact h
  exact fun _ _ _=>q
 refine al (wpAny_ite_false (by simp) (wpAny_bind (wpAny_field hz rfl (x:=.bool b) rfl ?_)))
 cases b with
 |true=>exact wpAny_ite_false (by decide) (wpAny_pure (hQ _ hz (Heap.SameBut.refl _ _)))
 |false=>exact wpAny_ite_true (by decide) (wpAny_bind (wpAny_setField_rec hz (by simp) fun g zg b1=>wpAny_pure (hQ g zg b1)))
theorem Ai{j:Nat}{a:Addr}{b:Bool}{oa:Obj}{Q:Value→Shared→Prop}(Z:Qq z ti to i1 i2 f1 f2)(D1:Draws prog w A i1 f1 n1 P1 S1)(D2:Draws prog w A i2 f2 n2 P2 S2)
  (hz:xw s.heap z ti to (rawInt a) (.bool b)) (ha:s.heap.get? a=some oa) (Qy:IsPair s.heap ti (.ref i1) (.ref i2)) (s1:S1 j s.heap) (s2:S2 j s.heap) (l1:j<n1) (l2:j<n2)
  (hQ:∀x y h' tk,P1 j x→P2 j y→xw h' z ti to (rawInt a) (.bool true)→S1 (j+1) h'→S2 (j+1) h'→IsPair h' s.heap.objs.size x y→h'.objs.size=s.heap.objs.size+1→
   (∀c o,c≠z→c≠i1→c≠i2→s.heap.get? c=some o→h'.get? c=some o)→Q (.ref s.heap.objs.size) { s with heap:=h',toks:=tk }):
  wpAny (model prog w) A (Builtin.«zip.__next__» ⟨[.ref z],[]⟩) (fun fin s'=>∃v,fin=.done (.ret v)∧Q v s') E s:=by
 refine(show wpAny (model prog w) A (field (.ref z) 2 >>= _) _ E s from wpAny_bind (wpAny_field hz rfl (x:=.bool false) rfl ?_));refine(show wpAny (model prog w) A (field (.ref z) 3 >>= _) _ E s from wpAny_bind (wpAny_field hz rfl (x:=.ref ti) rfl (wpAny_bind (wpAny_seqItems Qy rfl ?_))));refine(show wpAny (model prog w) A (Builtin.SmallTypes.ownedTupleIsFree (.ref z) >>= _) _ E s from wpAny_bind (uk hz ha fun g1 zg b1=>?_));refine wpAny_ite_false (by decide) (wpAny_bind ?_);rw[← Array.forIn_toList];show wpAny _ _ (forIn [Value.ref i1,.ref i2] _ _) _ _ _;rw[List.forIn_cons];refine wpAny_bind (wpAny_bind (wpAny_holding ?_));refine(show wpAny (model prog w) A (Builtin.SmallTypes.nextOf (.ref i1) >>= _) _ _ _ from wpAny_bind (D1.item j _ _ _ l1 (Draws.but D1 s1 b1.extBut Z.z1) fun x g2 k2 px t1 b2=>wpAny_pure (wpAny_pure ?_)));dsimp only;rw[List.forIn_cons];refine wpAny_bind (wpAny_bind (wpAny_holding ?_));refine(show wpAny (model prog w) A (Builtin.SmallTypes.nextOf (.ref i2) >>= _) _ _ _ from wpAny_bind (D2.item j _ _ _ l2 (Draws.but D2 (Draws.but D2 s2 b1.extBut Z.z2) b2.extBut Z.o2) fun y g3 k3 py t2 b3=>wpAny_pure (wpAny_pure ?_)));dsimp only;rw[List.forIn_nil];refine wpAny_pure (wpAny_bind (wpAny_newTuple (hsz:=show 2≤sizeLine by decide) (wpAny_pure ⟨_,rfl,?_⟩)));have kz:∀c o,c≠z→c≠i1→c≠i2→s.heap.get? c=some o→g3.get? c=some o:=fun c o c1 c2 c3 q=>b3.extBut _ _ c3 (b2.extBut _ _ c2 (b1.extBut _ _ c1 q));have z3:xw g3 z ti to (rawInt a) (.bool true):=b3.extBut _ _ (Ne.symm Z.a4) (b2.extBut _ _ (Ne.symm Z.a3) zg)
 have sz:g3.objs.size=s.heap.objs.size:=by rw[b3.1,b2.1,b1.1]
 have up:∀{o:Obj}{c:Addr}{ob:Obj},g3.get? c=some ob→(g3.push o).get? c=some ob:=fun e=>Heap.get?_push_of_some _ e;have q:=hQ x y (g3.push { cls:=.type "tuple",data:=.seq #[x,y] }) k3 px py (up z3) (D1.frame _ _ _ (Draws.but D1 t1 b3.extBut Z.o1) fun _ _ _ q=>up q) (D2.frame _ _ _ t2 fun _ _ _ q=>up q) (sz▸Heap.get?_push_size _ rfl) (by rw[Heap.size_push,sz]) fun c o c1 c2 c3 q=>up (kz c o c1 c2 c3 q);rw[← sz]at q;exact q
theorem CQ{j:Nat}{a:Addr}{b:Bool}{oa:Obj}{R:Fin→Shared→Prop}(Z:Qq z ti to i1 i2 f1 f2)(D1:Draws prog w A i1 f1 n1 P1 S1)(D2:Draws prog w A i2 f2 n2 P2 S2)
  (hz:xw s.heap z ti to (rawInt a) (.bool b)) (ha:s.heap.get? a=some oa) (Qy:IsPair s.heap ti (.ref i1) (.ref i2)) (s1:S1 j s.heap) (s2:S2 j s.heap) (l:j=n1∨(j<n1∧j=n2))
  (hE:∀h' e tk,(∀c o,c≠z→c≠i1→c≠i2→s.heap.get? c=some o→h'.get? c=some o)→(∃o,h'.get? e=some o∧o.cls=.type "StopIteration")→E (.ref e) { s with heap:=h',toks:=tk }):
  wpAny (model prog w) A (Builtin.«zip.__next__» ⟨[.ref z],[]⟩) R E s:=by
 refine(show wpAny (model prog w) A (field (.ref z) 2 >>= _) _ E s from wpAny_bind (wpAny_field hz rfl (x:=.bool false) rfl ?_));refine(show wpAny (model prog w) A (field (.ref z) 3 >>= _) _ E s from wpAny_bind (wpAny_field hz rfl (x:=.ref ti) rfl (wpAny_bind (wpAny_seqItems Qy rfl ?_))));refine(show wpAny (model prog w) A (Builtin.SmallTypes.ownedTupleIsFree (.ref z) >>= _) _ E s from wpAny_bind (uk hz ha fun g1 zg b1=>?_));refine wpAny_ite_false (by decide) (wpAny_bind ?_);rw[← Array.forIn_toList];show wpAny _ _ (forIn [Value.ref i1,.ref i2] _ _) _ _ _;rw[List.forIn_cons];refine wpAny_bind (wpAny_bind (wpAny_holding ?_));rcases l with l|⟨l1,l⟩
 ·subst l;exact(show wpAny (model prog w) A (Builtin.SmallTypes.nextOf (.ref i1) >>= _) _ _ _ from wpAny_bind (D1.done _ _ _ (Draws.but D1 s1 b1.extBut Z.z1) fun g2 e b2 q=>hE g2 e _ (fun c o c1 c2 _ q=>b2 _ _ c2 (b1.extBut _ _ c1 q)) q))
 ·subst l;refine(show wpAny (model prog w) A (Builtin.SmallTypes.nextOf (.ref i1) >>= _) _ _ _ from wpAny_bind (D1.item j _ _ _ l1 (Draws.but D1 s1 b1.extBut Z.z1) fun x g2 k2 px t1 b2=>wpAny_pure (wpAny_pure ?_)));dsimp only;rw[List.forIn_cons];refine wpAny_bind (wpAny_bind (wpAny_holding ?_));exact(show wpAny (model prog w) A (Builtin.SmallTypes.nextOf (.ref i2) >>= _) _ _ _ from wpAny_bind (D2.done _ _ _ (Draws.but D2 (Draws.but D2 s2 b1.extBut Z.z2) b2.extBut Z.o2) fun g3 e b3 q=>hE g3 e _ (fun c o c1 c2 c3 q=>b3 _ _ c3 (b2.extBut _ _ c2 (b1.extBut _ _ c1 q))) q))
end
section
variable{prog:Program}{w:World}{κ:Type} [DecidableEq κ] {knd:KeyKind prog w κ} {A:Around} {R:Result→Shared→Prop} {E:Value→Shared→Prop} {s:Shared} {D z ti to i1 i2 t1 t2:Addr} {xs ys:Array Value} {j:Nat}
structure Rg(h:Heap)(D z ti to i1 i2 t1 t2:Addr)(xs ys:Array Value)(j:Nat):Prop where
 p:IsPair h ti (.ref i1) (.ref i2)
 l:h.IsTupleIter i1 t1 j∧h.IsTuple t1 xs
 r:h.IsTupleIter i2 t2 j∧h.IsTuple t2 ys
 o:(IsZip h z ti to .none∧∃u v,IsPair h to u v)∨∃a b oa,xw h z ti to (rawInt (a:Nat)) (.bool b)∧h.get? a=some oa∧a≠z∧a≠i1∧a≠i2∧a≠D
theorem Rg.keep{h h':Heap}(st:Rg h D z ti to i1 i2 t1 t2 xs ys j)(n:D∉ [z,ti,to,i1,i2,t1,t2])(k:∀c o,c≠D→h.get? c=some o→h'.get? c=some o):Rg h' D z ti to i1 i2 t1 t2 xs ys j:=by
 simp only[List.mem_cons,List.not_mem_nil,or_false,not_or]at n;obtain⟨n1,n2,n3,n4,n5,n6,n7⟩:=n;refine⟨k _ _ (Ne.symm n2) st.p,⟨?_,?_⟩,⟨?_,?_⟩,?_⟩
 ·obtain⟨o,q,r⟩:=st.l.1;exact⟨o,k _ _ (Ne.symm n4) q,r⟩
 ·obtain⟨o,q,r⟩:=st.l.2;exact⟨o,k _ _ (Ne.symm n6) q,r⟩
 ·obtain⟨o,q,r⟩:=st.r.1;exact⟨o,k _ _ (Ne.symm n5) q,r⟩
 ·obtain⟨o,q,r⟩:=st.r.2;exact⟨o,k _ _ (Ne.symm n7) q,r⟩
 ·rcases st.o with⟨a,u,v,b⟩|⟨a,b,oa,q,qa,m⟩
  ·exact .inl ⟨k _ _ (Ne.symm n1) a,u,v,k _ _ (Ne.symm n3) b⟩
  ·exact .inr ⟨a,b,oa,k _ _ (Ne.symm n1) q,k _ _ m.2.2.2 qa,m⟩
theorem Rg.zip{h:Heap}(st:Rg h D z ti to i1 i2 t1 t2 xs ys j):∃vs,h.get? z=some { cls:=.type "zip",data:=.fields vs }:=by
 rcases st.o with⟨a,_⟩|⟨a,b,oa,q,_⟩
 ·exact⟨_,a⟩
 ·exact⟨_,q⟩
theorem Qq.n1(Z:Qq z ti to i1 i2 [i1,t1] [i2,t2]):t1≠z∧t1≠to∧t1≠i2∧t2≠z∧t2≠to∧t2≠i1:=by have a:=Z.z1;have b:=Z.z2;have c:=Z.t1;have d:=Z.t2;have e:=Z.o1;have f:=Z.o2;simp only[List.mem_cons,List.not_mem_nil,or_false,not_or]at a b c d e f;exact⟨Ne.symm a.2,Ne.symm c.2,Ne.symm e.2,Ne.symm b.2,Ne.symm d.2,Ne.symm f.2⟩
theorem Ao{x y:Value}{oD:Obj}{Q:Option Value→Shared→Prop}(Z:Qq z ti to i1 i2 [i1,t1] [i2,t2])(hh:A.handled=none)(m1:t1≠i1)(m2:t2≠i2)(hD:s.heap.get? D=some oD)(st:Rg s.heap D z ti to i1 i2 t1 t2 xs ys j)(hx:xs[j]? =some x)(hy:ys[j]? =some y)
  (hQ:∀h' tk,Rg h' D z ti to i1 i2 t1 t2 xs ys (j+1)→IsPair h' s.heap.objs.size x y→(∀c o,c≠z→c≠to→c≠i1→c≠i2→s.heap.get? c=some o→h'.get? c=some o)→Q (some (.ref s.heap.objs.size)) { s with heap:=h',toks:=tk }):
  wpAny (model prog w) A (pyNext (.ref z)) Q E s:=by
 obtain⟨y1,y2,y3,y4,y5,y6⟩:=Z.n1;have l1:=(Array.getElem?_eq_some_iff.mp hx).1;have l2:=(Array.getElem?_eq_some_iff.mp hy).1;have D1:Draws prog w A.in1 i1 [i1,t1] xs.size (fun j v=>xs[j]? =some v) _:=qF hh m1;have D2:Draws prog w A.in1 i2 [i2,t2] ys.size (fun j v=>ys[j]? =some v) _:=qF hh m2;have lt:∀{c o},s.heap.get? c=some o→s.heap.objs.size≠c:=fun q=>Nat.ne_of_gt (Heap.lt_size q);obtain⟨vs,hz⟩:=st.zip;obtain⟨o1,q1,_⟩:=st.l.1;obtain⟨o2,q2,_⟩:=st.r.1;rcases st.o with⟨a,u,v,b⟩|⟨a,b,oa,q,qa,m⟩
 ·refine vg Z D1 D2 a st.p b st.l st.r l1 l2 fun x' y' h' tk p1 p2 z' _ u1 u2 pr sz kk=>?_;rw[hx]at p1;cases p1;rw[hy]at p2;cases p2;exact hQ h' tk ⟨kk _ _ Z.a1 Z.a5 Z.a6 Z.a7 st.p,u1,u2,.inr ⟨_,false,_,z',pr,lt hz,lt q1,lt q2,lt hD⟩⟩ pr kk
 ·have ty:s.TypeIs (.ref z) "zip":=⟨_,hz,rfl⟩
  unfold pyNext;refine wpAny_bind (wpAny_attempt (wpAny_callSpecial?_slot (name:="__next__") ty PySem.F.slot_zip_next (wpAny_call_entry PySem.F.slot_zip_next ty PySem.F.entry_zip_next (Ai Z D1 D2 q qa st.p st.l st.r l1 l2 fun x' y' h' tk p1 p2 z' u1 u2 pr sz kk=>wpAny_pure ?_) (PySem.F.args_zip_next_1 _))));rw[hx]at p1;cases p1;rw[hy]at p2;cases p2;exact hQ h' tk ⟨kk _ _ Z.a1 Z.a6 Z.a7 st.p,u1,u2,.inr ⟨a,true,oa,z',kk _ _ m.1 m.2.1 m.2.2.1 qa,m⟩⟩ pr fun c o c1 _ c3 c4 q=>kk c o c1 c3 c4 q
theorem CT{Q:Option Value→Shared→Prop}(Z:Qq z ti to i1 i2 [i1,t1] [i2,t2])(hh:A.handled=none)(m1:t1≠i1)(m2:t2≠i2)(st:Rg s.heap D z ti to i1 i2 t1 t2 xs ys j)(l:j=xs.size∨(j<xs.size∧j=ys.size))
  (hQ:∀h' tk,(∀c o,c≠z→c≠to→c≠i1→c≠i2→s.heap.get? c=some o→h'.get? c=some o)→Q none { s with heap:=h',toks:=tk }):wpAny (model prog w) A (pyNext (.ref z)) Q E s:=by
 have D1:Draws prog w A.in1 i1 [i1,t1] xs.size (fun j v=>xs[j]? =some v) _:=qF hh m1;have D2:Draws prog w A.in1 i2 [i2,t2] ys.size (fun j v=>ys[j]? =some v) _:=qF hh m2;obtain⟨vs,hz⟩:=st.zip;rcases st.o with⟨a,u,v,b⟩|⟨a,b,oa,q,qa,m⟩
 ·exact vq Z D1 D2 a st.p b st.l st.r l hQ
 ·have ty:s.TypeIs (.ref z) "zip":=⟨_,hz,rfl⟩
  unfold pyNext;refine wpAny_bind (wpAny_attempt (wpAny_callSpecial?_slot (name:="__next__") ty PySem.F.slot_zip_next (wpAny_call_entry PySem.F.slot_zip_next ty PySem.F.entry_zip_next (CQ Z D1 D2 q qa st.p st.l st.r l ?_) (PySem.F.args_zip_next_1 _))));rintro h' e tk kk ⟨o,q1,q2⟩;exact wpAny_bind (wpAny_isInstance (T:="StopIteration") (b:=true) ⟨o,q1,q2⟩ isSubtype_stop (wpAny_pure (hQ _ _ fun c o c1 _ c3 c4 q=>kk c o c1 c3 c4 q)))
inductive S6(knd:KeyKind prog w κ):List Value→List Value→List (κ×Value)→Prop where
 |l {ys:List Value}:S6 knd [] ys []
 |r {x:Value} {xs:List Value}:S6 knd (x::xs) [] []
 |cons {x y:Value} {xs ys:List Value} {k:κ} {kvs:List (κ×Value)} (kk:knd.is k x=true) (r:S6 knd xs ys kvs):S6 knd (x::xs) (y::ys) ((k,y)::kvs)
theorem Ak{h0:Heap}(Z:Qq z ti to i1 i2 [i1,t1] [i2,t2])(hh:A.handled=none)(m1:t1≠i1)(m2:t2≠i2)(n:D∉ [z,ti,to,i1,i2,t1,t2])(f:∀c∈ [D,z,to,i1,i2],h0.get? c=none):
  ∀{r1 r2:List Value}{kvs:List (κ×Value)},S6 knd r1 r2 kvs→∀(j:Nat)(s:Shared)(Pu:List (κ×Value)),xs.toList.drop j=r1→ys.toList.drop j=r2→(∀b o,h0.get? b=some o→s.heap.get? b=some o)→Rg s.heap D z ti to i1 i2 t1 t2 xs ys j→s.heap.DictOf knd D Pu→j≤xs.size→j≤ys.size→Pu.length+r1.length≤sizeLine→
   (∀h' tk,(∀b o,h0.get? b=some o→h'.get? b=some o)→h'.DictOf knd D (merged Pu kvs)→R (.ok (.ret .none)) { s with heap:=h',toks:=tk })→
   codeAny (model prog w) A (.builtin "dict.update.loop" ⟨[.ref D,.ref z,rawInt j,.none],[]⟩) R s:=by
 have nf:∀{b o},h0.get? b=some o→b≠D∧b≠z∧b≠to∧b≠i1∧b≠i2:=fun{b o} q=>by
  have g:∀c∈ [D,z,to,i1,i2],b≠c:=fun c hc e=>by rw[e,f c hc]at q;cases q
  exact⟨g _ (by simp),g _ (by simp),g _ (by simp),g _ (by simp),g _ (by simp)⟩
 have nd:D≠z∧D≠to∧D≠i1∧D≠i2:=by simp only[List.mem_cons,List.not_mem_nil,or_false,not_or]at n;exact⟨n.1,n.2.2.1,n.2.2.2.1,n.2.2.2.2.1⟩
 have stop:∀(j:Nat)(s:Shared)(Pu:List (κ×Value)),(j=xs.size∨(j<xs.size∧j=ys.size))→(∀b o,h0.get? b=some o→s.heap.get? b=some o)→Rg s.heap D z ti to i1 i2 t1 t2 xs ys j→s.heap.DictOf knd D Pu→
   (∀h' tk,(∀b o,h0.get? b=some o→h'.get? b=some o)→h'.DictOf knd D Pu→R (.ok (.ret .none)) { s with heap:=h',toks:=tk })→codeAny (model prog w) A (.builtin "dict.update.loop" ⟨[.ref D,.ref z,rawInt j,.none],[]⟩) R s:=fun j s Pu l kp st d hR=>by
  refine codeAny_builtin uv ?_;rw[Around.under_plainId mH _];unfold Builtin.«dict.update.loop»;dsimp only;refine wpAny_bind (CT Z hh m1 m2 st l fun h' tk kk=>wpAny_bind (wpAny_pure (wpAny_pure (hR h' tk (fun b o q=>let⟨_,b2,b3,b4,b5⟩:=nf q;kk b o b2 b3 b4 b5 (kp b o q)) ?_))));obtain⟨o,es,ep,q,r⟩:=d;exact⟨o,es,ep,kk _ _ nd.1 nd.2.1 nd.2.2.1 nd.2.2.2 q,r⟩
 intro r1 r2 kvs p
 induction p with
 |l=>intro j s Pu e1 e2 kp st d j1 j2 hz hR;have:=congrArg List.length e1;simp at this;exact stop j s Pu (.inl (by omega)) kp st d hR
 |r=>intro j s Pu e1 e2 kp st d j1 j2 hz hR;have a:=congrArg List.length e1;have b:=congrArg List.length e2;simp at a b;exact stop j s Pu (.inr ⟨by omega,by omega⟩) kp st d hR
 |@cons x y r1 r2 k kvs kk r ih=>
  intro j s Pu e1 e2 kp st d j1 j2 hz hR;have hx:xs[j]? =some x:=by rw[← Array.getElem?_toList,← List.head?_drop,e1];rfl
  have hy:ys[j]? =some y:=by rw[← Array.getElem?_toList,← List.head?_drop,e2];rfl
  have d0:=d;obtain⟨oD,es,ep,qD,rD⟩:=d0;refine codeAny_builtin uv ?_;rw[Around.under_plainId mH _];unfold Builtin.«dict.update.loop»;dsimp only;refine wpAny_bind (Ao Z hh m1 m2 qD st hx hy fun h' tk Y0 pr ks=>?_);have k1:∀b o,h0.get? b=some o→h'.get? b=some o:=fun b o q=>let⟨_,b2,b3,b4,b5⟩:=nf q;ks b o b2 b3 b4 b5 (kp b o q);have d1:h'.DictOf knd D Pu:=⟨oD,es,ep,ks _ _ nd.1 nd.2.1 nd.2.2.1 nd.2.2.2 qD,rD⟩
  refine wpAny_bind (wpAny_holding (wpAny_bind (wpAny_tryCatch (yS ⟨_,pr,rfl,_,rfl⟩ ?_))));rw[List.length_cons]at hz;refine wpAny_holding (wpAny_dictSet_pairs (hsz:=by omega) kk d1 fun h2 d2 s2=>?_);have k2:∀b o,h0.get? b=some o→h2.get? b=some o:=fun b o q=>(s2.2 b (nf q).1).trans (k1 b o q);refine wpAny_pure ⟨plainId_quiet mH _,?_⟩;have ln:(stored Pu k y).length≤Pu.length+1:=merged_length_le Pu [(k,y)];have c1:xs.toList.drop (j+1)=r1:=by rw[← List.drop_drop,e1];rfl
  have c2:ys.toList.drop (j+1)=r2:=by rw[← List.drop_drop,e2];rfl
  exact ih (j+1) _ (stored Pu k y) c1 c2 k2 (Y0.keep n fun c o c1 q=>(s2.2 c c1).trans q) d2 (Array.getElem?_eq_some_iff.mp hx).1 (Array.getElem?_eq_some_iff.mp hy).1 (by omega) fun h3 tk k3 d3=>hR h3 tk k3 d3
theorem zY{h0:Heap}{kvs:List (κ×Value)}{Q:Value→Shared→Prop}(Z:Qq z ti to i1 i2 [i1,t1] [i2,t2])(hh:A.handled=none)(m1:t1≠i1)(m2:t2≠i2)(lt:∀c∈ [z,ti,to,i1,i2,t1,t2],c<s.heap.objs.size)(f:∀c∈ [z,to,i1,i2],h0.get? c=none)(hz:IsZip s.heap z ti to .none)(Q0:∃u v,IsPair s.heap to u v)(Qy:IsPair s.heap ti (.ref i1) (.ref i2))(hl:s.heap.IsTupleIter i1 t1 0∧s.heap.IsTuple t1 xs)(hr:s.heap.IsTupleIter i2 t2 0∧s.heap.IsTuple t2 ys)
  (kp:∀b o,h0.get? b=some o→s.heap.get? b=some o) (p:S6 knd xs.toList ys.toList kvs) (hsz:xs.size≤sizeLine)
  (hQ:∀h' tk,(∀b o,h0.get? b=some o→h'.get? b=some o)→h'.DictOf knd s.heap.objs.size (merged [] kvs)→Q (.ref s.heap.objs.size) { s with heap:=h',toks:=tk }):
  wpAny (model prog w) A (call (.type "dict") [.ref z]) Q E s:=by
 refine callType_codes (Q₁:=fun v t=>v=.ref s.heap.objs.size∧t= { s with heap:=s.heap.push { cls:=.type "dict",data:=.dict #[] } }) PySem.F.kt_called_dict (PySem.F.kt_typeCall_dict_1 _) PySem.F.entry_dict_init (kt_code_dict_new _ ⟨rfl,rfl⟩) ?_
 rintro v t ⟨rfl,rfl⟩
 have new:(s.heap.push { cls:=.type "dict",data:=.dict #[] }).DictOf knd s.heap.objs.size []:=Heap.DictOf.new s.heap;refine⟨new.typeIs,PySem.F.args_dict_init_2 _ _,?_⟩;have k0:∀b q,s.heap.get? b=some q→(s.heap.push { cls:=.type "dict",data:=.dict #[] }).get? b=some q:=fun b q e=>Heap.get?_push_of_some _ e;have ty:({ s with heap:=s.heap.push { cls:=.type "dict",data:=.dict #[] } }:Shared).TypeIs (.ref z) "zip":=⟨_,k0 _ _ hz,rfl⟩
 unfold Builtin.«dict.__init__» Builtin.Dict.selfAndRest;refine wpAny_bind (wpAny_bind (wpAny_notOrdered_dict new.typeIs ?_));dsimp only;refine wpAny_bind (wpAny_pure (wpAny_pure ?_));unfold Builtin.Dict.updateCommon Builtin.Dict.updateFrom;dsimp only;refine wpAny_bind (wpAny_typeOf ty ?_);refine wpAny_ite_true (by decide) (wpAny_bind (Al (A:=A.in1.in1) hh (k0 _ _ hz) fun h1 YX k1=>?_));refine wpAny_ite_true rfl (wpAny_bind (wpAny_rule ?_));have k2:∀b q,s.heap.get? b=some q→h1.get? b=some q:=fun b q e=>k1 b q (k0 b q e);have VG:h1.DictOf knd s.heap.objs.size []:=by obtain⟨q,es,ep,hq,rest⟩:=new;exact⟨q,es,ep,k1 _ _ hq,rest⟩
 refine wpAny_bind (wpAny_pyIter_zip (s:={ s with heap:=h1,toks:=YX }) (k2 _ _ hz) ?_);refine wpAny_pure ⟨plainId_quiet mH _,?_⟩;have nn:s.heap.objs.size∉ [z,ti,to,i1,i2,t1,t2]:=fun q=>Nat.lt_irrefl _ (lt _ q)
 have fD:∀c∈ [s.heap.objs.size,z,to,i1,i2],h0.get? c=none:=fun c hc=>by
  rcases List.mem_cons.mp hc with rfl|hc
  ·cases q:h0.get? s.heap.objs.size with
   |none=>rfl
   |some o=>exact absurd (Heap.lt_size (kp _ _ q)) (Nat.lt_irrefl _)
  ·exact f c hc
 obtain⟨u,v,Q0⟩:=Q0;obtain⟨⟨oa,qa,ra⟩,⟨ob,qb,rb⟩⟩:=hl;obtain⟨⟨oc,qc,rc⟩,⟨od,qd,rd⟩⟩:=hr;refine Ak (A:=A.in1) (h0:=h0) Z hh m1 m2 nn fD p 0 _ [] rfl rfl (fun b q e=>k2 b q (kp b q e)) ⟨k2 _ _ Qy,⟨⟨oa,k2 _ _ qa,ra⟩,⟨ob,k2 _ _ qb,rb⟩⟩,⟨⟨oc,k2 _ _ qc,rc⟩,⟨od,k2 _ _ qd,rd⟩⟩,.inl ⟨k2 _ _ hz,u,v,k2 _ _ Q0⟩⟩ VG (Nat.zero_le _) (Nat.zero_le _) (by simpa using hsz) fun h3 t3 k3 d3=>?_;exact⟨rfl,hQ h3 t3 k3 d3⟩
end
end L2
namespace L3
open PySem
def Q9:List PV→List PV→Option (List (PK×PV))
 |x::r,y::t=>match qv x with
  |some k=>match Q9 r t with
   |some l=>some ((k,y)::l)
   |none=>none
  |none=>none
 |_,_=>some []
def mq(ps:List PV)(h:List PO):Res PV:=match ps with
 |[.tup xs,.tup ys]=>match Q9 xs ys with
  |some l=>.ok (.ref h.length) (h++ [.dct (Sh l)])
  |none=>.bad
 |_=>.bad
end L3
namespace Z
open PySem PySem.Spec PyProof.Rows L3 L2
section
variable{G:SC}{X:Cx}{w w1:Wo}{ρ:Ev}{h:List PO}{ae be:Expr}{f:Ax}{p0 p1 p2 pos:Pos}
theorem Af{F:Fz}{m:List Addr}:∀{xs ys:List PV}{us vs:List Value}{l:List (PK×PV)},aA G F m xs us→aA G F m ys vs→Q9 xs ys=some l→∃kvs,S6 (pk G.prog G.w) us vs kvs∧RK G F m l kvs∧kvs.length≤us.length
 |[],ys,_,vs,l,.nil,_,e=>by cases ys<;>cases e<;>exact⟨[],.l,⟨rfl,.nil⟩,Nat.zero_le _⟩
 |x::r,[],_,_,l,.cons _ _,.nil,e=>by cases e;exact⟨[],.r,⟨rfl,.nil⟩,Nat.zero_le _⟩
 |x::r,y::t,_,_,l,.cons r1 t1,.cons r2 t2,e=>by
  unfold Q9 at e
  split at e
  ·split at e
   ·cases e
    obtain⟨kvs,p,rk,le⟩:=Af t1 t2 ‹_›;exact⟨_::kvs,.cons (nT r1 ‹_›) p,⟨by simp[rk.1],.cons r2 rk.2⟩,by simp;exact le⟩
   ·cases e
  ·cases e
theorem uH(g1:Gl X "dict")(m1:X.mg "dict"=none)(g2:Gl X "zip")(m2:X.mg "zip"=none)(ha:RA X [ae,be] f)(hc:X.calm=true:=by rfl)(hs:starEach [ae,be] X.env=(false,eval ae X.env)::starEach [be] X.env:=by rfl)(Lj:(backTo p2 (starEach [be] X.env)).any (·.1)=false:=by rfl)
  (he:starEach [.Call (.Name "zip" p1) [ae,be] [] p2] X.env= [(false,eval (.Call (.Name "zip" p1) [ae,be] [] p2) X.env)]:=by rfl) (hp:(backTo pos (starEach [] X.env)).any (·.1)=false:=by rfl):
  RE X (.Call (.Name "dict" p0) [.Call (.Name "zip" p1) [ae,be] [] p2] [] pos) (cN mq f):=⟨fun{w ρ h Q E} I p=>by
 refine wpAny_Call_Name_kw (I.blt g1 m1 (show bootBuiltins "dict"=some (.type "dict") by decide+kernel) (callWith_type1 ?_ he hp) (by decide) (by decide));rw[he];refine(show wpAny _ _ (spliced ((false,eval (.Call (.Name "zip" p1) [ae,be] [] p2) X.env)::[])) _ _ _ from Calls.spliced_cons ?_);refine wpAny_Call_Name_kw (I.blt g2 m2 (show bootBuiltins "zip"=some (.type "zip") by decide+kernel) (callWith_type1 (ha.r p2 I (p.bind fun w1 h1 ps us y r k=>?_)) hs Lj) (by decide) (by decide));unfold mq at k
 split at k
 ·split at k
  ·rename_i l e;obtain⟨u,v,rfl,r1,r2⟩:=r.two
   cases r1 with
   |tup e1 z1 Vz=>
    cases r2 with
    |tup e2 z2 Vy=>
     rename_i a its n b Ss m;have t1:=y.2.at e1;have t2:=y.2.at e2;have la:=Heap.lt_size t1;have lb:=Heap.lt_size t2;refine rX (a:=a) (b:=b) (xs:=its) (ys:=Ss) ⟨_,t1,rfl,_,rfl⟩ ⟨_,t2,rfl,_,rfl⟩ fun h' kk q0 q1 q2 q3 q4=>Calls.spliced_nil ?_;obtain⟨kvs,zp,rk,le⟩:=Af Vz Vy e;have Z:=xB w1.s.heap.objs.size a b la lb;have sz:∀{c o},h'.get? c=some o→c<h'.objs.size:=fun q=>Heap.lt_size q;refine zY (knd:=pk X.prog X.w) (h0:=w1.s.heap) (s:={ w1.s with heap:=h' }) Z (I.ok.hd hc) (Nat.ne_of_lt la) (Nat.ne_of_lt (Nat.lt_succ_of_lt lb)) (fun c hc=>?_) (fun c hc=>?_) q4 ⟨_,_,q3⟩ q2 ⟨⟨_,q0,rfl,rfl⟩,⟨_,kk _ _ t1,rfl,_,rfl⟩⟩ ⟨⟨_,q1,rfl,rfl⟩,⟨_,kk _ _ t2,rfl,_,rfl⟩⟩ kk zp z1 fun h3 t3 k3 d3=>?_
     ·simp only[List.mem_cons,List.not_mem_nil,or_false]at hc;rcases hc with rfl|rfl|rfl|rfl|rfl|rfl|rfl
      ·exact sz q4
      ·exact sz q2
      ·exact sz q3
      ·exact sz q0
      ·exact sz q1
      ·exact sz (kk _ _ t1)
      ·exact sz (kk _ _ t2)
     ·have ge:w1.s.heap.objs.size≤c:=by
       simp only[List.mem_cons,List.not_mem_nil,or_false]at hc;rcases hc with rfl|rfl|rfl|rfl
       ·exact Nat.le_add_right _ _
       ·exact Nat.le_add_right _ _
       ·exact Nat.le_refl _
       ·exact Nat.le_succ _
      cases q:w1.s.heap.get? c with
      |none=>rfl
      |some o=>exact absurd (Heap.lt_size q) (Nat.not_lt.mpr ge)
     ·have na:w1.s.heap.get? h'.objs.size=none:=by
       cases q:w1.s.heap.get? h'.objs.size with
       |none=>rfl
       |some o=>exact absurd (Heap.lt_size (kk _ _ q)) (Nat.lt_irrefl _)
      have bg:(h'.objs.size==sysModules)=false:=by obtain⟨o,es,ep,e,_⟩:=I.ok.gl;have:=Heap.lt_size (kk _ _ ((I.on y).toWd.bk e));exact beq_eq_false_iff_ne.mpr fun z=>absurd (z▸this) (by decide)
      obtain⟨o,es,ep,e1,e2,e3⟩:=d3;have rm:=RK.merge rk (kps:=[]) (kvs:=[]) ⟨rfl,.nil⟩;have sb:Sub w1.m (w1.m++ [h'.objs.size]):=fun i b e=>by rw[List.getElem?_append_left (List.getElem?_eq_some_iff.mp e).1];exact e
      exact k.2 _ _ (Nw.mk (s':={ w1.s with heap:=h3,toks:=t3 }) y.2 na k3 ⟨(y.2.free na).2.1,o,_,e1,⟨e2,es,ep,e3⟩,bg,Nat.le_trans (jT _ _) (by simp at le ⊢;omega),rm.1,(rm.mono (fun _ _ e=>e) sb).2⟩ (fun _ _ e=>e) (fun _ _ e=>.inl e) rfl rfl) (.ref (by rw[y.2.len];simp))
  ·exact k.elim
 ·exact k.elim⟩
end
end Z
namespace L3
def uC(cat:Nat→Bool)(g:Sx)(gs:Sx):Sx:=fun ρ h=>match g ρ h with
 |.exc e h1=>match Ka e with
  |some (C,p)=>if cat C=true then(match gs ρ h1 with
   |.rt v h2=>.rt v h2
   |_=>.bad)else .bad
  |none=>.bad
 |r=>r
end L3
namespace Z
open PySem PySem.Spec PyProof.Rows L3 L2
section
variable{X:Cx}{w w1 w3:Wo}{ρ:Ev}{h h1:List PO}{a:Addr}{o:Obj}
theorem Dh{cat:Nat→Bool}{e:Expr}{suite:List Stmt}{b0:Stmt}{fe:Ex}{gs:Sx}{t:Str}{Ta:Addr}{tp Wg pos Uk:Pos}{outer:List Env}(Ww:∀C Ca,cat C=true→X.T C=some Ca→W.exmOne X.K (.ref Ca) (.ref Ta)=some true)
  (hb:RE X.tried e fe) (hs:∀a,Qs (X.suite a) (b0::suite) gs) (hg:Gl X t) (hm:X.mg t=some (.ref Ta)) (Vu:X.stack=X.env::outer:=by rfl) (hf:X.env.frame=some X.env.locals:=by rfl) (MJ:(t==("__debug__":Str))=false:=by decide) (Rp:swapsWith e none Uk.line X.env=pure false:=by rfl):
  RS X (.Try [.Expr e Uk] [.ExceptHandler (some (.Name t tp)) none (b0::suite) Wg] [] [] pos) (uC cat (dk fe) gs):=⟨fun{w ρ h Q E} I p=>by
 refine wpAny_Try_except (wpAny_execs_cons (wpAny_Expr_any (hb.r I.tried ?_) I.quiet Rp));unfold uC dk ez fT at p
 cases z:fe ρ h with
 |ok v h1=>rw[z]at p;exact⟨trivial,fun w' x y r=>wpAny_execs_nil (wpAny_execs_nil (p.2 w' y.s (I.on y)))⟩
 |bad=>rw[z]at p;exact p
 |exc e h1=>
  rw[z]at p;refine⟨trivial,fun w' u y r=>?_⟩;dsimp only at p
  split at p
  ·rename_i C pe ev
   split at p
   ·rename_i hC;have I1:=I.on (X:=X) y;obtain⟨a,cls,dx,rfl,⟨⟨a0,B,fl,c1,c2⟩,d⟩,m⟩:=r;rcases fl with fl|⟨z,_⟩
    case inr=>cases z
    obtain⟨Ca,t1,rfl⟩:∃Ca,X.T C=some Ca∧cls=.ref Ca:=by
     unfold Ka at ev
     split at ev<;>cases ev
     ·obtain⟨Ca,h1,h2,_⟩:=m;exact⟨Ca,h1,h2⟩
     ·obtain⟨Ca,_,_,_,_,h1,h2,_⟩:=m;exact⟨Ca,h1,h2⟩
    have fa:O3 w' a:=Classical.byContradiction fun z=>by obtain⟨o',q⟩:=c2 a z;have:=fl.2.1;rw[q]at this;cases this
    have na:w.s.heap.get? a=none:=by
     cases z:w.s.heap.get? a with
     |none=>rfl
     |some o'=>
      by_cases hb:a∈X.fs
      ·obtain⟨o1,q,dd⟩:=I1.fr a hb;obtain⟨oe,vs,q1,_,q3,_⟩:=fl.first;have q:=q.1;rw[q1]at q;cases q;exact absurd q3 (dd vs)
      ·obtain⟨o2,q⟩:=c1 a o' z hb;have:=fl.2.1;rw[q]at this;cases this
    have lands:∀h5,Heap.FlyingW B X.stack a (.ref Ca) a0 h5→w'.s.heap.UpToSlots h5→(∃o,h5.get? a=some o∧o.dict=dx)→Nw X w { w' with s:={ w'.s with heap:=h5 } } h1∧∃o vs,h5.get? a=some o∧o.cls=.ref Ca∧o.data=.fields vs∧o.dict=dx:=fun h5 Tq up d5=>by refine⟨Fk (Y:=X) y.1 I1.toWd c1 c2 fl.1 Tq.1 up,?_⟩;obtain⟨oe,vs,q1,q2,q3,_⟩:=Tq.first;obtain⟨o',y1,y2⟩:=d5;rw[q1]at y1;cases y1;exact⟨oe,vs,q1,q2,q3,y2⟩
    have hfr:X.A.frames=some (X.env::outer):=Vu▸I.ok.frames;have Yo:=fl;rw[Vu]at Yo;refine vv (nh _ _) d (wpAny_looks_onW hfr hf Yo fun h4 held Xn d4=>vv (jV _ _) d4 (wpAny_landsW held fun h5 Tq Xm d5=>?_));rw[← Vu]at Tq;obtain⟨n5,o5,vs5,q1,q2,q3,q4⟩:=lands h5 Tq (Xn.trans Xm) d5;have I5:=I.on n5;refine wpAny_handleBy_cons (codeAny_handlers_test ((I5.suite (a:=a)).RX hg hm ?_ MJ)) (by intro z;cases z);have LT:W.Looks (model X.prog X.w) h5 (typeOf (.ref a)) (.ref Ca):=q2▸(W.Looks.ld q1).andThen .now;refine W.Looks.here (s:={ w'.s with heap:=h5 }) (W.exm_one (K:=X.K) I5.N5 LT (Ww C Ca hC t1)) (codeAny_handlers_suite ?_);refine vv (jV _ _) d5 (lands_againW Tq fun h6 fl6 YS d6=>?_);obtain⟨n6,_⟩:=lands h6 fl6 ((Xn.trans Xm).trans YS) d6;refine(hs a).r ((I.on n6).suite (a:=a)) ?_
    split at p
    ·rename_i e8;rw[e8];exact⟨trivial,fun w8 u8 ρ8 y8 I8 r8=>p.2 _ _ _ (n6.s.trans y8) (Inv.Rn I.ok I8) r8⟩
    ·exact p.elim
   ·exact p.elim
  ·exact p.elim⟩
end
end Z
namespace L3
open PySem PySem.Spec PyProof.Rows L2
def jv(p:PV)(h:List PO):Res PV:=match p with
 |.tup xs=>match fC xs with
  |some ls=>if ls.length+1<scanBound then .ok (.int (nK ls:Nat)) h else .bad
  |none=>.bad
 |p=>Dv p h
theorem DS(p:PV)(h:List PO):jv p h=match Pz h p with
 |some xs=>match fC xs with
  |some ls=>if ls.length+1<scanBound then .ok (.int (nK ls:Nat)) h else .bad
  |none=>.bad
 |none=>.bad:=by cases p<;>rfl
end L3
namespace Z
open PySem PySem.Spec PyProof.Rows L3 L2
section
variable{X:Cx}{e:Expr}{f:Ex}{p1 p2 pos Qv:Pos}
theorem pV(g1:Gl X "len")(m1:X.mg "len"=none)(g2:Gl X "set")(m2:X.mg "set"=none)(he:RE X e f)(hc:X.calm=true:=by rfl)
  (hs:starEach [e] X.env=(false,eval e X.env)::starEach [] X.env:=by rfl) (Vg:starEach [.Call (.Name "set" p2) [e] [] Qv] X.env=(false,eval (.Call (.Name "set" p2) [e] [] Qv) X.env)::starEach [] X.env:=by rfl)
  (hp:(backTo pos (starEach [] X.env)).any (·.1)=false:=by rfl) (hp2:(backTo Qv (starEach [] X.env)).any (·.1)=false:=by rfl):
  RE X (.Call (.Name "len" p1) [.Call (.Name "set" p2) [e] [] Qv] [] pos) (c1 jv f):=⟨fun{w0 ρ h0 Q E} I p=>by
 refine wpAny_Call_Name_kw (I.blt g1 m1 PySem.boot_len ?_ (by decide) (by decide));refine PyProof.Rows.callWith_builtin1 ?_ Vg hp;rw[Vg];show wpAny _ _ (spliced ((false,eval (.Call (.Name "set" p2) [e] [] Qv) X.env)::backTo pos (starEach [] X.env))) _ _ w0.s;refine Calls.spliced_cons ?_;have hv:bootBuiltins "set"=some (.type "set"):=by decide+kernel
 refine wpAny_Call_Name_kw (I.blt g2 m2 hv ?_ (by decide) (by decide));refine callWith_type1 ?_ hs hp2;rw[hs];refine(show wpAny _ _ (spliced ((false,eval e X.env)::[])) _ _ w0.s from Calls.spliced_cons (he.r I (p.bind fun w1 h1 q u y r k=>Calls.spliced_nil ?_)));rw[DS]at k
 split at k
 ·split at k
  ·split at k
   ·rename_i ls el q;obtain⟨tt,a,its,ht,rfl,y1,hz,rr⟩:=y.2.Pz r ‹_›;have sa:=jG (G:=X.toSC) el rr;have ln:its.size=ls.length:=by have:=StrsAre.len sa;simpa using this
    refine sJ (I.ok.hd hc) ht y1 sa (by rw[ln];exact q) fun h' tk fin=>?_;obtain⟨so,kp⟩:=fin;have n:=Nw.also (X:=X) (s':={ w1.s with heap:=h',toks:=tk }) y.2 fun b o z=>kp b o (Heap.lt_size z) z;refine Calls.spliced_nil ?_;obtain⟨o,go,oo⟩:=so.objOf;obtain⟨o1,es,ep,t,o2,_,_,o3,o4⟩:=oo;have lz:=rG (fun i=>(ls.map S).getD i Str.empty) its.size;have sb:scanBound<2 ^ 63:=by decide
    refine call_len_set go o1 o2 o4 (by omega) ?_;rw[o3,ln];have e:=FX ls;rw[List.length_map]at e;rw[e];exact(k.step n).now n.2 (.int _ _)
   ·exact k.elim
  ·exact k.elim
 ·exact k.elim⟩
end
end Z
namespace L3
open PySem
def oy:Option PV→Option PV
 |some p=>if p.pure=true then some p else none
 |none=>none
def tQ(j:Nat)(t:Tx):Tx:=fun ρ h=>match ρ[j]? with
 |some (some p)=>match lX h p with
  |some (_,xs)=>if aq xs=true then match t ((ρ.map oy).set j (some (.lst xs))) []with
    |.ok b []=>.ok b h
    |_=>.bad
   else .bad
  |none=>.bad
 |_=>.bad
end L3
namespace Z
open PySem PySem.Spec PyProof.Rows L3 L2
section
variable{G:SC}{X:Cx}{w w2:Wo}{ρ:Ev}{h:List PO}{a:Addr}{o:Obj}
abbrev still(w:Wo)(a:Addr)(o:Obj):Wo:=⟨iQ w.F a o,fun _=>none,[],w.s⟩
theorem Has.still{b:Addr}{ob:Obj}(q:Has w b ob)(n:b≠a):Has (still w a o) b ob:=⟨q.1,by simp,cP n q.2.2.1,rfl⟩
theorem Inv.still{i j:Nat}{xs:List PV}{its:Array Value}{n:Nat}(I:Inv X w ρ h)(em:w.m[i]? =some a)(hf:w.F a=none)(e:w.s.heap.get? a=some { cls:=.type "list",data:=.seq its n })(z:its.size≤sizeLine)(r:aA X.toSC w.F w.m xs its.toList)(pu:aq xs=true)(hj:ρ[j]? =some (some (.ref i))):Inv X (still w a { cls:=.type "list",data:=.seq its n }) ((ρ.map oy).set j (some (.lst xs))) []:=by
 have na:∀{b ob},Has w b ob→b≠a:=fun q y=>q.2.1 (y▸List.mem_of_getElem? em);have up:=dj (o:={ cls:=.type "list",data:=.seq its n }) hf;obtain⟨m,ol,nl,hl,l⟩:=I.loc;refine⟨⟨⟨fun b x q=>?_,fun _ _ q=>(nomatch q),rfl,.nil,fun _ _ _ q=>(nomatch q)⟩,I.ba,fun b x q=>up _ _ (I.bs b x q),fun b hb=>let⟨x,q,d⟩:=I.fr b hb;⟨x,q.still (na q),d⟩⟩,I.ok,⟨m,ol,nl,hl.still (na hl),fun k q e1=>?_⟩,fun x c e1=>let⟨v,x,q,hc⟩:=I.PJ x c e1;⟨v,x,q,hc.still (na hc)⟩,by simp;exact I.ln⟩
 ·by_cases y:b=a
  ·subst y;cases bL.symm.trans q;exact e
  ·exact I.sub b x ((jW y).symm.trans q)
 ·by_cases y:k=j
  ·subst y;have lt:k<ρ.length:=(List.getElem?_eq_some_iff.mp hj).1;rw[List.getElem?_set_self (by simpa using lt)]at e1
   cases e1
   obtain⟨x,u,e2,r2,l2⟩:=l k _ hj
   cases r2 with
   |ref e4=>rw[em]at e4;cases e4;exact⟨x,_,e2,.lst bL z (r.mono up (.inl pu)),l2⟩
  ·rw[List.getElem?_set_ne (Ne.symm y),List.getElem?_map]at e1;obtain⟨p',e2,e3⟩:=Option.map_eq_some_iff.mp e1;unfold oy at e3
   split at e3
   ·split at e3<;>cases e3
    obtain⟨x,u,e4,r2,l2⟩:=l k _ e2;exact⟨x,u,e4,r2.mono up (.inl ‹_›),l2⟩
   ·cases e3
theorem Nw.wake{i:Nat}(I:Inv X w ρ h)(em:w.m[i]? =some a)(hf:w.F a=none)(e:w.s.heap.get? a=some o)(y:Nw X (still w a o) w2 []):Nw X w ⟨w.F,w.O,w.m,w2.s⟩ h:=by
 have na:∀{b ob},Has w b ob→b≠a:=fun q y=>q.2.1 (y▸List.mem_of_getElem? em);have fz:∀b x,w.F b=some x→w2.s.heap.get? b=some x:=fun b x q=>y.2.sub b x (y.1.fz b x (dj hf b x q));refine⟨⟨y.1.os,y.1.ba,fun _ _ e=>e,fun _ _ e=>e,⟨[],by simp⟩,y.1.dom,fun b x q _=>?_⟩,fz,fun d b q=>let⟨⟨x,e⟩,z⟩:=I.own d b q;⟨y.1.dom _ _ e,z⟩,I.len,I.nd,fun k po b e1 e2=>(I.obj k po b e1 e2).on (fun _ _ e=>e) (fun _ e=>e) (fun _ _ e=>e) (fun c x q z=>?_) id⟩
 ·obtain⟨sl,q',z⟩:=y.1.keep b x (q.still (na q)) fun z=>z;exact⟨sl,⟨q'.1,q.2⟩,z⟩
 ·by_cases ca:c=a
  ·subst ca;rw[e]at q;cases q;exact y.2.sub _ _ (y.1.fz _ _ bL)
  ·cases hc:w.F c with
   |some x'=>rw[I.sub c x' hc]at q;cases q;exact fz c _ hc
   |none=>
    obtain⟨sl,q',z'⟩:=y.1.keep c x ⟨q,by simp,cP ca hc,rfl⟩ fun z=>z;rcases z' with z'|rfl
    ·obtain⟨_,hq,_⟩:=I.fr c z';rcases z with rfl|z
     ·exact absurd (List.mem_of_getElem? e2) hq.2.1
     ·rw[hq.2.2.2]at z;cases z
    ·exact q'.1
theorem IC{e:Expr}{t:Tx}(j:Nat)(ht:RT X e t):RT X e (tQ j t):=⟨fun{w ρ h Q E} I p=>by
 unfold tQ at p
 split at p
 ·rename_i q hj
  split at p
  ·rename_i i xs el
   split at p
   ·rename_i pu;unfold lX at el
    split at el
    ·rename_i n
     split at el
     ·rename_i e0
      cases el
      obtain⟨m,_,_,_,l⟩:=I.loc;obtain⟨x,u,_,r,_⟩:=l j _ hj
      cases r with
      |@ref _ a em=>
       obtain⟨hf,its,n,e,z,rr⟩:=I.obj _ _ _ e0 em;refine ht.r (w:=still w a { cls:=.type "list",data:=.seq its n }) (I.still em hf e z rr pu hj) ?_
       split at p
       ·rename_i et;rw[et];exact⟨p.1,fun w2 x y r=>p.2 ⟨w.F,w.O,w.m,w2.s⟩ x (Nw.wake I em hf e y) r⟩
       ·exact p.elim
     ·cases el
    ·cases el
   ·exact p.elim
  ·exact p.elim
 ·exact p.elim⟩
end
end Z
namespace L3
open PySem
def oV(p:PV)(ps:List PV)(h:List PO):Res PV:=match ps with
 |[.str z]=>match(QK h p).bind fC with
  |some ls=>if ls.length≤sizeLine∧ls.idxOf z<ls.length then .ok (.int (ls.idxOf z:Nat)) h else .bad
  |none=>.bad
 |_=>.bad
theorem Fj(z:List Nat):∀ls:List (List Nat),(ls.map S).idxOf (S z)=ls.idxOf z
 |[]=>rfl
 |l::r=>by
  rw[List.map_cons,List.idxOf_cons,List.idxOf_cons,Fj z r]
  by_cases hl:l=z
  ·subst hl;simp
  ·have:S l≠S z:=fun q=>hl (vP q);rw[beq_eq_false_iff_ne.mpr hl,beq_eq_false_iff_ne.mpr this]
end L3
namespace Z
open PySem PySem.Spec PyProof.Rows L3 L2
noncomputable def Qf(z:Str):Value→Bool
 |.str y _=>y==z
 |_=>false
theorem sk:∀{zs:List Str}{us:List Value},StrsAre us zs→∀v∈us,∃y t,v=.str y t
 |_,_,.cons y t r,v,h=>(List.mem_cons.mp h).elim (fun e=>⟨y,t,e⟩) (sk r v)
theorem yK(z:Str):∀{zs:List Str}{us:List Value},StrsAre us zs→us.map (Qf z)=zs.map (· ==z)
 |_,_,.nil=>rfl
 |_,_,.cons y t r=>by show(y==z)::_=_;rw[yK z r];rfl
section
variable{X:Cx}
theorem zK:Vp X "list.index" oV:=fun{w h p u ps us Q E} I rp rs k=>by
 unfold oV at k
 split at k
 ·rename_i z;obtain⟨u1,rfl,r1⟩:=rs.one
  cases r1 with
  |str _ tz=>
   split at k
   ·rename_i ls e
    split at k
    ·rename_i hz;obtain⟨xs,e1,e2⟩:=Option.bind_eq_some_iff.mp e;obtain⟨a,its,rfl,⟨n,ho⟩,_,rr⟩:=I.sq rp (jk e1);have sa:=jG (G:=X.toSC) e2 rr;have ln:its.toList.length=(ls.map S).length:=StrsAre.len sa;have mp:=yK (S z) sa;have ix:=Fj z ls;have hi:(ls.map S).idxOf (S z)<(ls.map S).length:=by rw[ix,List.length_map];exact hz.2
     generalize ls.map S=zs at sa ln mp hi ix ⊢
     have at':∀m (h1:m<its.toList.length) (h2:m<zs.length),Qf (S z) its.toList[m]=(zs[m]==S z):=fun m h1 h2=>by have:=congrArg (·[m]?) mp;rw[List.getElem?_map,List.getElem?_map,List.getElem?_eq_getElem h1,List.getElem?_eq_getElem h2]at this;exact Option.some.inj this
     have hj:zs.idxOf (S z)<its.size:=by rw[← Array.length_toList,ln];exact hi
     have hsm:((zs.idxOf (S z):Nat):Int)<2 ^ 63 - 1:=by have:=sizeLine_eq;have:=hz.1;have:=hz.2;rw[ix];omega
     have hit:Qf (S z) its[zs.idxOf (S z)]=true:=by have:=at' _ (by rw[ln];exact hi) hi;rw[Array.getElem_toList]at this;rw[this];simp
     have Wj:∀m (hm:m<its.size),m<zs.idxOf (S z)→Qf (S z) its[m]=false:=fun m hm Wk=>by have:=at' m (by simpa using hm) (by omega);rw[Array.getElem_toList]at this;rw[this];exact List.not_of_lt_findIdx (p:=(· ==S z)) (xs:=zs) (i:=m) Wk
     refine call_meets PySem.F.slot_list_index ⟨_,ho,rfl⟩ PySem.F.entry_list_index (PySem.F.args_list_index_2 _ _) (SeqAt.list_indexAt a _ n none #[] (.str (S z) tz) (Qf (S z)) (zs.idxOf (S z)) hj hsm hit Wj) ⟨ho,fun y hy=>?_,?_⟩
     ·obtain⟨w,t,rfl⟩:=sk sa y (by simpa using hy);exact SeqAt.EqAt.str_str w t (S z) tz
     ·rw[ix];exact k.now I.toHR (.int _ _)
    ·exact k.elim
   ·exact k.elim
 ·exact k.elim
end
end Z
namespace Z
open PySem PySem.Spec PyProof.Rows L3 L2
section
variable{X:Cx}{w w1:Wo}{ρ:Ev}{h:List PO}
theorem uD{elt iter tg:Expr}{ifs:List Expr}{scope:Scope}{it:Ax}{tt:Tx}{te:Ex}{M vs:List Str}{g:Gx}{pos py N_:Pos}{y:Str}{iy:Nat}(m9:List Nat)(hc:X.calm=true)(S:cS X.N X.env.scope scope m9 vs M)(hi:RI X tg iter it)(hg:∀cl C,RG (cF X M scope cl C) tg g)(ht:∀cl C,Ry (cF X M scope cl C) ifs tt)(he:∀cl C,RE (cF X M scope cl C) elt te)
  (gm:∀q cp ρ1,g q (List.replicate vs.length none++cp)=some ρ1→∃l,l.length=vs.length∧ρ1=l++cp) (hy:X.N[iy]? =some y) (SQ:X.env.scope.names.lookup y=some .local) (Rp:swapsWith (.ListComp elt [⟨tg,iter,ifs,0⟩] scope pos) (some (.Name y py)) N_.line X.env=pure true)
  (hs:∀y,foldedSetIterable iter X.env y=pure y:=by intro _;rfl):RS X (.Assign [.Name y py] (.ListComp elt [⟨tg,iter,ifs,0⟩] scope pos) N_) (aO iy (cN N6 (gL vs.length g m9 it tt te))):=⟨fun{w0 ρ h Q E} I p=>by
 rw[exec_Assign_Name_used _ _ _ _ Rp];refine wpAny_bind<|wpAny_standAt<|wpAny_bind ?_
 show wpAny _ X.A (comprehension (.ListComp elt [⟨tg,iter,ifs,0⟩] scope pos) scope X.env _ (newList []) false (eval iter X.env) (some (assign (.Name y py) X.env)) >>= fun _=>pure ()) _ _ w0.s;refine wpAny_bind<|wpAny_mono (wpAny_comprehension_free (use:=some (assign (.Name y py) X.env)) (Q:=fun _ s'=>Q .next s') rfl hs (jo fun n hn=>I.ok.has n (S.free _ hn rfl)) S.kind S.names ?_) (fun _ _ z=>wpAny_pure (wpAny_pure z)) fun _ _ z=>z
 have p:bC X w0 Q E (fT (it ρ h) fun xs h1=>fT (if xs.length<sizeLine then(eM g tt te (List.replicate vs.length none++dg m9 ρ) xs h1).calm else .bad) fun ps h2=>fT (N6 ps h2) fun v h3=>.nx (ρ.set iy (some v)) h3):=by
  unfold aO ez cN gL at p
  cases e:it ρ h with
  |ok xs h1=>
   rw[e]at p
   revert p
   show bC X w0 Q E (fT (((if xs.length<sizeLine then(eM g tt te (List.replicate vs.length none++dg m9 ρ) xs h1).calm else .bad):Res (List PV)).bind N6) _)→bC X w0 Q E (fT (if xs.length<sizeLine then(eM g tt te (List.replicate vs.length none++dg m9 ρ) xs h1).calm else .bad) _);generalize(if xs.length<sizeLine then(eM g tt te (List.replicate vs.length none++dg m9 ρ) xs h1).calm else .bad:Res (List PV))=rr
   cases rr<;>exact id
  |exc _ _=>rw[e]at p;exact p
  |bad=>rw[e]at p;exact p
 refine hi.r I (bC.e0 p I fun w h1 xs v y0 I1 rr p=>?_)
 split at p
 ·rename_i hz
  refine nY (use:=some (assign (.Name y py) X.env)) (Q:=fun _ s=>Q .next s) (K:=fun ps h=>bC X w0 Q E (fT (N6 ps h) fun v h3=>.nx (ρ.set iy (some v)) h3)) m9 hc S hg ht he gm I y0 rr hz (by
   revert p
   cases eM g tt te (List.replicate vs.length none++dg m9 ρ) xs h1<;>first|exact id|exact fun z=>bC.ep z |>.elim) fun{w2 h2 ps its D C oC m} y2 H2 nD nC DC hl n l f ra z k=>?_
  obtain⟨nn,e1⟩:=l;have fz:=dj (o:={ cls:=.type "list",data:=.seq its nn }) f.2.1;have n3:=Nw.freeze (X:=X) (w:=w0) (w1:=w2) ⟨y2,H2⟩ nD ⟨e1,f⟩;have I3:=I.on n3;have aC:=I.out nC;show wpAny _ X.A (assign (.Name y py) X.env (.ref D)) _ _ w2.s;refine wpAny_assign_Name (I3.store (w:=⟨iQ w2.F D { cls:=.type "list",data:=.seq its nn },w2.O,w2.m,w2.s⟩) hy (.inl SQ) (p:=.lst ps) (.lst bL z (ra.mono fz (.inr fun _ _ e=>e))) fun w4 y4 I4=>?_);obtain⟨sl,hC,zz⟩:=y4.keep C oC ⟨hl.1,hl.2.1,cP (Ne.symm DC) hl.2.2.1,hl.2.2.2⟩ aC.w;refine⟨m,qp n fun o e=>by rw[hl.1]at e;cases e;exact⟨sl,hC.1⟩,fun h' TJ=>?_⟩;obtain⟨a1,a2⟩:=nH (s':={ w4.s with heap:=h' }) I4.toHR hC fun b o z e=>(TJ.2 b z).trans e;exact k.2 _ ((n3.s.trans y4).priv a1 (by simp;exact nC)) (I4.priv a1 a2 (by simp;exact aC))
 ·exact p.elim⟩
end
end Z
namespace Z
open PySem PySem.Spec PyProof.Rows L3 L2
section
variable{X:Cx}{e a b elt iter tg:Expr}{es ifs:List Expr}{f fa fb te:Ex}{fs it:Ax}{tt:Tx}{pos p0 p1 tp:Pos}{x y:Str}{scope:Scope}{M:List Str}{m9:List Nat}{u:Value}
theorem ou{iy:Nat}{py N_:Pos}(S:cS X.N X.env.scope scope m9 [x] M)(hi:RI X (.Name x tp) iter it)(ht:∀cl C,Ry (cF X M scope cl C) ifs tt)(he:∀cl C,RE (cF X M scope cl C) elt te)(hy:X.N[iy]? =some y)(SQ:X.env.scope.names.lookup y=some .local)(Rp:swapsWith (.ListComp elt [⟨.Name x tp,iter,ifs,0⟩] scope pos) (some (.Name y py)) N_.line X.env=pure true)(hc:X.calm=true:=by rfl)(hg:∀cl C,RG (cF X M scope cl C) (.Name x tp) (D_ 0):=by exact fun _ _=>bq)
  (hs:∀y,foldedSetIterable iter X.env y=pure y:=by intro _;rfl):RS X (.Assign [.Name y py] (.ListComp elt [⟨.Name x tp,iter,ifs,0⟩] scope pos) N_) (aO iy (cN N6 (dI m9 it tt te))):=by
 have q:=uD (pos:=pos) (py:=py) m9 hc S hi hg ht he Hs hy SQ Rp hs;have z:gL 1 (D_ 0) m9 it tt te=dI m9 it tt te:=by funext ρ h;simp only[gL,dI,ue]
 exact z▸q
end
end Z
noncomputable section
namespace Ly
open PySem PySem.Spec PyProof.Rows L2 L3 Z
noncomputable def top(i:Nat):Stmt:=PySem.Challenge.pw_formsmith_k20_whole_no_names_meet.main.body.getD i (.Pass ⟨0,0,0,0⟩)
noncomputable def mc:List PV:=[.int 0,.int 0,.int 0,.int 0]
noncomputable def AT:List Nat:=[116,104,101,32,98,111,111,107,32,105,115,32,116,111,111,32,108,97,114,103,101,32,119,105,116,104,32,97,108,108,32,112,117,116,32,105,110]
noncomputable def bN:List Nat:=[97,98,99,100,101,102,103,104,105,106,107,108,109,110,111,112,113,114,115,116,117,118,119,120,121,122]
set_option genSizeOf false in
inductive Fn where
 |law|I9|u_|A_|joined|v5|j_|k_|G3|t_|Lq|K4|b_|d8|q_|m7|sized|G9|C_|f9|H7|i_|o8|g_|v7|j7|h_|z_|G8|u6|G5|q9|d9|o7|j9|E_|m8|v8|n_|m6|q8|I_|o9|m_|n8
abbrev CC:=Fn→List PV→L3.Out
abbrev DD:=Fn→List PV→List PO→Res PV
def qN:Fn→Stmt
 |.law=>top 50
 |.I9=>top 34
 |.u_=>top 44
 |.A_=>top 45
 |.joined=>top 28
 |.v5=>top 32
 |.j_=>top 49
 |.k_=>top 8
 |.G3=>top 33
 |.t_=>top 41
 |.Lq=>top 43
 |.K4=>top 35
 |.b_=>nu (top 30) 1
 |.d8=>nu (top 30) 0
 |.q_=>top 47
 |.m7=>top 9
 |.sized=>top 16
 |.G9=>top 40
 |.C_=>top 42
 |.f9=>nu (top 30) 2
 |.H7=>top 29
 |.i_=>top 46
 |.o8=>top 48
 |.g_=>top 10
 |.v7=>top 15
 |.j7=>nu (top 3) 0
 |.h_=>top 17
 |.z_=>top 36
 |.G8=>top 39
 |.u6=>top 37
 |.G5=>top 38
 |.q9=>top 25
 |.d9=>nu (top 30) 3
 |.o7=>top 24
 |.j9=>top 22
 |.E_=>top 12
 |.m8=>top 11
 |.v8=>top 18
 |.n_=>top 19
 |.m6=>top 26
 |.q8=>top 23
 |.I_=>top 13
 |.o9=>top 14
 |.m_=>top 20
 |.n8=>top 21
noncomputable def qW:Fn→List Str
 |.law=> ["_law_script","_law_menu","_law_book","_law_due","_law_k","_law_other"]
 |.I9=> ["_law_n","_law_some","_law_size","_law_at","_law_names_here","_law_k","_law_word","_law_told"]
 |.u_=> ["_law_cells","_law_spot","_law_menu","_law_book","_law_pieces","_law_many","_law_k","_law_n","_law_names_here","_law_handed","_law_at","_law_nodes","_law_name"]
 |.A_=> ["_law_book"]
 |.joined=> ["book","main","paths","name"]
 |.v5=> ["_law_script","_law_k"]
 |.j_=> ["_law_book","_law_menu","_law_turn","_law_every","_law_one_here","_law_name","_law_at","_law_anew","_law_found","_law_k","_law_piece","_law_names_here","_law_own","_law_level","_law_scope"]
 |.k_=> ["book","size"]
 |.G3=> ["_law_cells","_law_spot","_law_k","_law_base"]
 |.t_=> ["_law_cells","_law_spot","_law_at","_law_deep"]
 |.Lq=> ["_law_book","_law_piece","_law_left"]
 |.K4=> ["_law_nodes","_law_found","_law_node"]
 |.b_=> ["self","nodes","scope","made","node","one"]
 |.d8=> ["self","book","piece"]
 |.q_=> ["_law_nodes","_law_scope","_law_every","_law_level","_law_anew","_law_found","_law_node","_law_sides","_law_inner","_law_nodes_in"]
 |.m7=> ["book","elders","number","piece","is_main"]
 |.sized=> ["book","sizes","piece","main"]
 |.G9=> ["_law_cells","_law_spot","_law_at","_law_deep","_law_n","_law_kind","_law_more","_law_path","_law_name","_law_nodes","_law_yes"]
 |.C_=> ["_law_book","_law_nodes","_law_number","_law_body","_law_deep","_law_left","_law_node","_law_at","_law_handed"]
 |.f9=> ["self","node","scope","kind","yes","no","piece","body"]
 |.H7=> ["nodes","node"]
 |.i_=> ["_law_path","_law_scope"]
 |.o8=> ["_law_node","_law_scope","_law_every","_law_level","_law_anew","_law_paths","_law_names_here","_law_inner"]
 |.g_=> ["nodes","way","names","many","elders","place","node","at","part"]
 |.v7=> ["names"]
 |.j7=> ["self","at"]
 |.h_=> ["nodes","sizes","whole","node"]
 |.z_=> ["_law_n","_law_at","_law_fields"]
 |.G8=> ["_law_cells","_law_spot","_law_at","_law_deep","_law_n","_law_fits","_law_name","_law_many","_law_handed","_law_paths","_law_first","_law_names_here"]
 |.u6=> ["_law_cells","_law_spot","_law_at","_law_many"]
 |.G5=> ["_law_at","_law_names_here","_law_inner"]
 |.q9=> ["paths","scope","body","user"]
 |.d9=> ["self","node","scope","name","nodes"]
 |.o7=> ["use","piece","scope","body"]
 |.j9=> ["path","scope"]
 |.E_=> ["node","names","many","elders","path"]
 |.m8=> ["node"]
 |.v8=> ["one","other"]
 |.n_=> ["node","sizes"]
 |.m6=> ["meanings","names","paths","scope","name","path"]
 |.q8=> ["name","meaning","scope","meanings"]
 |.I_=> ["node"]
 |.o9=> ["node","piece"]
 |.m_=> ["inner","body_depth"]
 |.n8=> ["node","sizes","piece","many","body","body_depth"]
def oM:Fn→Str
 |.law=>"law"
 |.I9=>"_law_names"
 |.u_=>"_law_good_book"
 |.A_=>"_law_is_many"
 |.joined=>"joined"
 |.v5=>"_law_cell_at"
 |.j_=>"_law_called_anew"
 |.k_=>"need_book"
 |.G3=>"_law_cell"
 |.t_=>"_law_grown"
 |.Lq=>"_law_few"
 |.K4=>"_law_one"
 |.b_=>"nodes_put_in"
 |.d8=>"__init__"
 |.q_=>"_law_called"
 |.m7=>"need_names"
 |.sized=>"sized"
 |.G9=>"_law_node_by"
 |.C_=>"_law_come"
 |.f9=>"put_in"
 |.H7=>"add_node"
 |.i_=>"_law_path_called"
 |.o8=>"_law_use_called"
 |.g_=>"need_nodes"
 |.v7=>"has_twice"
 |.j7=>"__init__"
 |.h_=>"size_of_nodes"
 |.z_=>"_law_path_by"
 |.G8=>"_law_used_by"
 |.u6=>"_law_paths_by"
 |.G5=>"_law_within"
 |.q9=>"scope_in_body"
 |.d9=>"loop_put_in"
 |.o7=>"scope_in_use"
 |.j9=>"stood_for"
 |.E_=>"is_wrong"
 |.m8=>"parts_within"
 |.v8=>"side_by_side"
 |.n_=>"size_of_node"
 |.m6=>"with_handed_in"
 |.q8=>"scope_in_loop"
 |.I_=>"paths_in"
 |.o9=>"is_wrong_use"
 |.m_=>"size_within"
 |.n8=>"size_of_use"
def wH:Fn→Str
 |.b_=>"Joiner.nodes_put_in"
 |.d8=>"Joiner.__init__"
 |.f9=>"Joiner.put_in"
 |.j7=>"BadName.__init__"
 |.d9=>"Joiner.loop_put_in"
 |f=>oM f
def BU:Fn→Bool
 |.b_|.d8|.f9|.j7|.d9=>false
 |_=>true
set_option genSizeOf false in
inductive Nt where
 |dict|enumerate|int|isinstance|len|list|max|range|set|str|tuple|zip
def Gv:Nt→Str
 |.dict=>"dict"
 |.enumerate=>"enumerate"
 |.int=>"int"
 |.isinstance=>"isinstance"
 |.len=>"len"
 |.list=>"list"
 |.max=>"max"
 |.range=>"range"
 |.set=>"set"
 |.str=>"str"
 |.tuple=>"tuple"
 |.zip=>"zip"
def kK:Fn→List Str
 |.law=> ["_law_script"]
 |.I9=> ["_law_n"]
 |.u_=> ["_law_cells","_law_spot","_law_menu"]
 |.A_=> ["_law_book"]
 |.joined=> ["book"]
 |.v5=> ["_law_script","_law_k"]
 |.j_=> ["_law_book","_law_menu","_law_turn"]
 |.k_=> ["book"]
 |.G3=> ["_law_cells","_law_spot"]
 |.t_=> ["_law_cells","_law_spot","_law_at","_law_deep"]
 |.Lq=> ["_law_book","_law_piece"]
 |.K4=> ["_law_nodes"]
 |.b_=> ["self","nodes","scope"]
 |.d8=> ["self","book"]
 |.q_=> ["_law_nodes","_law_scope","_law_every","_law_level","_law_anew"]
 |.m7=> ["book"]
 |.sized=> ["book"]
 |.G9=> ["_law_cells","_law_spot","_law_at","_law_deep"]
 |.C_=> ["_law_book","_law_nodes","_law_number","_law_body","_law_deep","_law_left"]
 |.f9=> ["self","node","scope"]
 |.H7=> ["nodes","node"]
 |.i_=> ["_law_path","_law_scope"]
 |.o8=> ["_law_node","_law_scope","_law_every","_law_level","_law_anew"]
 |.g_=> ["nodes","way","names","many","elders"]
 |.v7=> ["names"]
 |.j7=> ["self","at"]
 |.h_=> ["nodes","sizes"]
 |.z_=> ["_law_n","_law_at"]
 |.G8=> ["_law_cells","_law_spot","_law_at","_law_deep","_law_n"]
 |.u6=> ["_law_cells","_law_spot","_law_at","_law_many"]
 |.G5=> ["_law_at","_law_names_here"]
 |.q9=> ["paths","scope"]
 |.d9=> ["self","node","scope"]
 |.o7=> ["use","piece","scope"]
 |.j9=> ["path","scope"]
 |.E_=> ["node","names","many","elders"]
 |.m8=> ["node"]
 |.v8=> ["one","other"]
 |.n_=> ["node","sizes"]
 |.m6=> ["meanings","names","paths","scope"]
 |.q8=> ["name","meaning","scope"]
 |.I_=> ["node"]
 |.o9=> ["node","piece"]
 |.m_=> ["inner"]
 |.n8=> ["node","sizes"]
def lA:Nat→Bool
 |1=>true
 |_=>false
def dl:Nat→Nat
 |0=>0
 |k+1=>dl k+2
abbrev aac:=cK (.int 1)
abbrev aad:=cK (.int 0)
abbrev aae:=cK (.int 3)
abbrev aaf:=cK (.int 2)
abbrev aag:=af (ai 1) au
abbrev aah:=cK (.int 4)
abbrev aai:=c2 d7 (ai 0) aad
abbrev aaj:=af (ai 0) au
abbrev aak:=cK (.str [116,101,120,116])
abbrev aal:=cK (.str [117,115,101])
abbrev aam:=af (ai 2) au
abbrev aan:=cK (.str [99,104,111,105,99,101])
abbrev aao:=c2 d7 (ai 0) aae
abbrev aap:=cK (.str [108,111,111,112])
abbrev abe:=c2 d7 (ai 1) aah
abbrev aaz:=cK .non
abbrev aaq:=af abe (af (cN bA (af (PL (ai 2)) (af aaz au))) au)
abbrev aar:=cK (.str [110,97,109,101,115])
abbrev aas:=cK (.str [98,111,100,121])
abbrev aat:=c2 d7 (ai 0) aac
abbrev aau:=NK 2 (aU (D_ 5) (aU (D_ 6) dU))
abbrev aav:=NK 2 (aU (D_ 2) (aU (D_ 3) dU))
abbrev aaw:=c2 d7 (ai 1) aac
abbrev aay:=af (ai 5) au
abbrev aaA:=c2 d7 (ai 1) aad
abbrev aaB:=cK (.str [112,108,97,99,101])
abbrev aaC:=c2 d7 (ai 0) aaf
abbrev abq:=af (ai 4) au
abbrev aaD:=af (ai 3) abq
abbrev aaE:=cK (.int 8)
abbrev aaF:=c2 d7 (ai 6) aad
abbrev aaG:=NK 2 (aU (D_ 9) (aU (D_ 10) dU))
abbrev aaJ:=c1 lT aac
abbrev aaH:=c2 d7 (ai 0) aaJ
abbrev aaI:=af (ai 0) aag
abbrev aaK:=af (ai 3) au
abbrev aaL:=af (c2 d7 (ai 8) aaf) (af (c2 aN (ai 7) (c2 d7 (ai 8) aad)) (af (c2 aN (ai 2) (c2 d7 (ai 8) aac)) aaD))
abbrev aaM:=cK (.str [104,97,110,100,101,100])
abbrev aaN:=cK (.int 5)
abbrev aaO:=c2 d7 (ai 3) aac
abbrev aaP:=c2 d7 (ai 2) aac
abbrev aaQ:=c2 d7 (ai 1) aaf
abbrev aaR:=c2 d7 (ai 0) aah
abbrev abd:=c2 d7 (ai 3) aaf
abbrev aaT:=af (c2 d7 (ai 3) aah) (af (cN bA aam) (af abd (af (c2 d7 (ai 3) aae) aag)))
abbrev aaU:=cK (.int 12)
abbrev aaW:=cK (.str [109,101,110,117])
abbrev aaX:=c2 d7 (ai 2) aad
abbrev aaY:=c2 d7 (ai 1) aae
abbrev aaZ:=af (c2 aN (ai 4) aac) aay
abbrev aa0:=cN dZ aaj
abbrev aa1:=af (c2 mT (ai 3) aac) au
abbrev aa2:=jr (aI (c2 QH aaA (cK (.int 400)))) (aI (c2 QH aaw (cK (.int 24))))
abbrev aa3:=cN bA au
abbrev aa4:=c2 d7 (ai 6) aac
abbrev aa5:=cK (.str [112,105,101,99,101])
abbrev aa6:=af (ai 6) au
abbrev aa7:=fH (ai 0)
abbrev aa8:=aI (c2 J3 aai aal)
abbrev aa9:=af (ai 2) aaD
abbrev aa_:=iX (kj (ai 4)) (aI (c2 ig (c2 d7 (ai 3) aae) aaz))
abbrev abb:=c2 d7 (ai 6) aah
abbrev abf:=jr (aI (c2 QH aaA aaw)) (aI (c2 QW (ai 3) aac))
abbrev abg:=af (ai 0) (af (ai 1) (af (ai 10) (af aah au)))
abbrev abh:=fH (ai 4)
abbrev abj:=cK (.int 9)
abbrev abk:=af (ai 11) au
abbrev abl:=bw (cK (.bl false))
abbrev abm:=af (ai 0) (af (ai 1) (af (ai 2) aa1))
abbrev abn:=cK (.str [])
abbrev abo:=bw (cK (.bl true))
abbrev abp:=af aao au
abbrev abr:=aI (c2 J3 aai aas)
abbrev abt:=aI (c2 J3 aai aap)
abbrev abu:=aO 4 (c2 J3 (ai 2) (c2 mT aa0 aac))
abbrev abv:=cK (.str [112,105,101,99,101,115])
abbrev abw:=c2 d7 (ai 10) aaf
abbrev abx:=cK (.int 7)
abbrev aby:=c2 eG (ai 5) aaE
abbrev abz:=c2 d7 (ai 6) aaf
abbrev abA:=c2 d7 (ai 6) aae
abbrev abB:=c2 d7 (ai 3) aad
abbrev abC:=c2 d7 (ai 2) aaM
abbrev abD:=c2 d7 (ai 1) aar
abbrev abE:=aO 7 (c2 aN (ai 1) (cN bA aay))
abbrev abF:=NK 2 (aU (D_ 4) (aU (D_ 5) dU))
abbrev abG:=af aad au
abbrev abH:=af aac au
abbrev abI:=af (ai 1) aa9
abbrev abJ:=af (ai 2) (af (ai 3) aaZ)
abbrev abK:=qJ aaj
abbrev abL:=cN jQ au
abbrev abM:=af (ai 8) au
abbrev abN:=af (ai 7) au
abbrev abO:=aO 5 (c2 eG (ai 5) aae)
abbrev abP:=aO 3 (c2 d7 (ai 2) aaf)
abbrev abQ:=mD (ai 0) (gU aac) jx
abbrev abR:=aI (c2 PB aaO (ai 1))
abbrev abS:=aI (c2 J3 (ai 5) aaE)
abbrev abT:=km (ai 1) aaO (ai 3)
abbrev abU:=c1 (sZ 602 1) (ai 0)
abbrev abV:=c1 (sZ 602 0) (ai 0)
abbrev abW:=af aaw aam
def eO(C:CC)(Z:DD):Sx:=
 (aB (dk (bj (Z .m7) aaj))
  (aB (aO 1 (bF (C .sized) aaj))
  (aB (J7 aa2 (sN 1 (af (cK (.str AT)) au)) cD)
  (bw (c2 d7 aaH aaf)))))
def ch(C:CC)(D:DD):Sx:=(dk (bj (D .H7) (af (ai 3) aay)))
def bM(C:CC)(D:DD)(Z:DD):Sx:=(gh (fH (gA 602 (Z .f9) (ai 0) (af (ai 4) aam))) (D_ 5) (ch C D))
def dh(C:CC)(D:DD)(Z:DD):Sx:=
 (aB (aO 3 (cN gu au))
  (aB (gh (fH (ai 1)) (D_ 4) (bM C D Z))
  (bw (cN dG aaK))))
def di(C:CC):Sx:=(km abU aaP (ai 2))
def cL(C:CC):Sx:=
 (aB (pQ 602 0 (ai 0) aad)
  (aB (pQ 602 1 (ai 0) kr)
  (gh (fH (ai 1)) (D_ 2) (di C))))
def aM(C:CC)(Z:DD)(z:Bool):Sx:=(aB abu
  (aB (J7 (jr abR (jr (kj (bF (C .v7) (af abd au))) aa_)) (lG z 2 (af (cN bA aam) au)) cD)
  (aB (dk (bj (Z .g_) aaT))
  abT)))
def fm(C:CC)(Z:DD)(z:Bool):Sx:=
 (aB (aO 1 kr)
  (gh abK aav (aM C Z z)))
def aP(C:CC)(Z:DD):Sx:=
 (aB (aO 3 aaA)
  (aB (J7 (aI (c2 J3 (ai 3) aak)) (bw (cN bA aag)) cD)
  (aB (J7 (aI (c2 J3 (ai 3) aaB)) (bw (cN bA (af (cN bA (af aaB (af (bF (C .j9) abW) (af aaQ au)))) au))) cD)
  (aB (J7 (aI (c2 J3 (ai 3) aap)) (bw (cN bA (af (gA 602 (Z .d9) (ai 0) (af (ai 1) aam)) au))) cD)
  (aB (J7 (aI (c2 J3 (ai 3) aan)) (aB (aO 4 (gA 602 (Z .b_) (ai 0) (af aaQ aam)))
  (aB (aO 5 (gA 602 (Z .b_) (ai 0) (af aaY aam)))
  (bw (cN bA (af (cN bA (af aan (af (bF (C .j9) abW) (af (ai 4) aay)))) au))))) cD)
  (aB (J7 (aI (c2 J3 (ai 3) aal)) (aB (aO 6 (c2 d7 abU aaw))
  (bw (gA 602 (Z .b_) (ai 0) (af abb (af (bF (C .o7) (af (ai 1) (af (ai 6) aam))) au))))) cD)
  (aB (aO 7 aaP)
  (bw (gA 602 (Z .b_) (ai 0) (af (c2 d7 (ai 7) aac) (af (bF (C .q9) abW) au)))))))))))
def cC(C:CC)(Z:DD):Sx:=(dk (bj (Z .g_) aaL))
def bI(C:CC)(D:DD)(Z:DD)(z:Bool):Sx:=(aB abE
  (aB (J7 (kj (bj (D .E_) (af (ai 6) aa9))) (lG z 2 abN) cD)
  (gh (fH (bF (C .m8) aa6)) (D_ 8) (cC C Z))))
def fj(C:CC)(D:DD)(Z:DD)(z:Bool):Sx:=
 (gh abK aau (bI C D Z z))
def dv(C:CC)(Z:DD):Sx:=
 (aB (aO 3 (c2 aN (cK (.str [118])) (cN Du (af abV au))))
  (aB (pQ 602 0 (ai 0) (c2 aN abV aac))
  (aB (aO 4 (gA 602 (Z .b_) (ai 0) (af aaY (af (bF (C .q8) (af aaw (af (cN bA aaK) aam))) au))))
  (bw (cN bA (af aap (af (ai 3) (af (bF (C .j9) (af aaQ aam)) (af (ai 4) (af abe au))))))))))
def eP(C:CC):Sx:=(km (ai 0) (ai 4) (bF (C .j9) (af (ai 5) aaK)))
def eZ(C:CC):Sx:=
 (aB (gh (Ih (af (ai 1) aam)) abF (eP C))
  (bw (ai 0)))
def oR(C:CC):Sx:=(aB (aO 5 (bF (C .j_) (af (ai 2) (af (ai 1) (af (c2 aN (c2 ji (bF (C .v5) (af (ai 0) (af (c2 aN aac (ai 4)) au))) (c2 aN aac (c2 ji (cK (.int 47)) (ai 4)))) (c2 ji aae (ai 4))) au)))))
  (J7 (jr (aI (c2 NZ (bF (C .k_) aay) (c2 d7 (c2 d7 (ai 2) aaJ) aaf))) (aI (c2 NZ (bF (C .joined) aay) (ai 3)))) abl cD))
def vK(C:CC)(D:DD):Sx:=
 (aB (aO 1 (bF (C .I9) (af (bF (C .v5) (af (ai 0) abG)) au)))
  (aB (aO 2 (bj (D .u_) (af (ai 0) (af (cN gu (af aad (af (cK (.int 30)) au))) aag))))
  (aB (J7 (kj (bF (C .A_) aam)) (bw (bF (C .A_) (af (bF (C .j_) (af (ai 2) (af (ai 1) (af (bF (C .v5) (af (ai 0) abH)) au)))) au))) cD)
  (aB (aO 3 (bF (C .joined) aam))
  (aB (gh (gR (af aaf au)) (D_ 4) (oR C))
  (bw (cN mV (af (ai 3) (af (cK (.ty "tuple")) au)))))))))
def lc(C:CC):Ex:=(c2 d7 (ai 1) (c2 eG (c2 aN (c2 aN (c2 gT (ai 2) (cK (.int 192))) (c2 ji aaN (ai 0))) (c2 ji (c2 ji aae (c2 gT (ai 3) aaE)) (cN Bh (af (c2 J3 (c2 eG (ai 2) aae) aad) au)))) (cK (.int 26))))
def eR(C:CC):Sx:=(aB (aO 6 (cN qX (dI [1,0,5] (gR (af aaE au)) dD (lc C))))
  (J7 (aI (c2 J3 (c2 eG (ai 0) aae) aad)) (dk (cM fB bU (ai 4) (af (cM rI mU abn (af (mD (ai 6) jx (gU (c2 aN aac aby))) au)) au))) (J7 (aI (c2 J3 (c2 eG (ai 0) aae) aac)) (aB (jH (ai 6) (ai 3) (c2 d7 (ai 1) (c2 eG (c2 aN (c2 aN (c2 gT (ai 0) (cK (.int 192))) (c2 ji abx (ai 5))) aac) (cK (.int 26)))))
  (dk (cM fB bU (ai 4) (af (cM rI mU abn (af (mD (ai 6) jx (gU (ai 2))) au)) au)))) (dk (cM fB bU (ai 4) (af (mD (cM rI mU abn (af (c2 aN (mD (ai 6) (gU aby) jx) (mD (ai 6) jx (gU aby))) au)) jx (gU (c2 mT aaE (c2 gT (ai 5) aaE)))) au))))))
def kE(C:CC):Tx:=(aI (c2 PB (ai 0) (ai 1)))
def kZ(C:CC):Ex:=(ai 0)
def iJ(C:CC):Sx:=
 (aB (aO 1 (cK (.str bN)))
  (aB (aO 2 (c2 aN aac (c2 eG (c2 gT (ai 0) aae) aaE)))
  (aB (aO 3 (c2 eG (c2 gT (ai 0) (cK (.int 24))) (ai 2)))
  (aB (aO 4 (cN gu au))
  (aB (gh (gR (af aaU au)) (D_ 5) (eR C))
  (aB (aO 7 (cN jQ (af (cK (.str [97,115])) (af (cK (.str [98,101,116,119,101,101,110])) (af aas (af (cK (.str [101,108,115,101])) (af (cK (.str [101,110,100])) (af (cK (.str [102,111,114])) (af (cK (.str [105,102])) (af (cK (.str [105,110])) (af aa5 (af aal (af (cK (.str [119,105,116,104])) au)))))))))))))
  (aB (J7 (jr (aI (c2 QW (c1 jv (ai 4)) aaU)) (aI (c2 NZ (cN N6 (dI [7] abh (kE C) (kZ C))) abL))) (bw (cN jQ (af (cK (.str [97])) (af (cK (.str [98])) (af (cK (.str [97,98])) (af (cK (.str [98,97])) (af (cK (.str [105,116,101,109])) (af (cK (.str [105,116,101,109,115])) (af (cK (.str [99])) (af (cK (.str [120])) (af (cK (.str [120,121])) (af (cK (.str [121])) (af (cK (.str [114,111,119])) (af (cK (.str [114,111,119,115])) au)))))))))))))) cD)
  (bw (ai 4)))))))))
def im(C:CC):Ex:=(c2 d7 (ai 1) (c2 eG (c2 aN (c2 gT (ai 2) aaN) (ai 0)) aaU))
def ik(C:CC):Ex:=aai
def ij(C:CC):Ex:=aai
def fJ(C:CC)(D:DD):Sx:=(aB (aO 7 (bj (D .G3) aaI))
  (aB (aO 8 (cN dG (af (cN N6 (dI [2,7] (gR (af (c2 eG (ai 7) aaN) au)) dD (im C))) au)))
  (aB (aO 9 aaz)
  (aB (J7 (iX (aI (c2 QH (c2 eG (c2 gT (ai 7) (cK (.int 60))) aae) aad)) (aI (c2 QW (ai 6) (c2 mT (ai 5) aac)))) (aO 9 (c2 eG (c2 gT (ai 7) (cK (.int 180))) aah)) cD)
  (aB (aO 10 (Cz [(aar,(ai 8)),(abv,(cN xS abq)),(aaM,(ai 9)),(aaW,(ai 2))]))
  (aB (jH (ai 1) aac (c2 mT (c2 aN aaA (cK (.int 30))) (c2 ji aaU (cN Bh (af (c2 QH (ai 5) aaN) au)))))
  (aB (aO 11 (bj (D .t_) abg))
  (aB (J7 (jr (aI (c2 J3 (ai 11) aa3)) (aI (c2 J3 (c2 eG (c2 gT (ai 7) (cK (.int 720))) aae) aac))) (aO 11 (c2 aN (ai 11) (bj (D .t_) abg))) cD)
  (aB (aO 12 (c2 d7 (ai 2) (c2 eG (c2 aN (c2 gT (ai 7) (cK (.int 2160))) (ai 6)) aaU)))
  (aB (J7 (tQ 4 (aI (c2 PB (ai 12) (cN N6 (dI [] abh dD (ik C)))))) (aO 12 (c2 d7 (cN jQ (af (cK (.str [102,105,114,115,116])) (af (cK (.str [115,101,99,111,110,100])) (af (cK (.str [116,104,105,114,100])) (af (cK (.str [102,111,117,114,116,104])) (af (cK (.str [102,105,102,116,104])) (af (cK (.str [115,105,120,116,104])) (af (cK (.str [115,101,118,101,110,116,104])) (af (cK (.str [101,105,103,104,116,104])) au))))))))) (ai 6))) cD)
  (aB (J7 (tQ 4 (aI (c2 PB (ai 12) (cN N6 (dI [] abh dD (ij C)))))) (aO 12 (c2 aN (ai 12) (cK (.str [113])))) cD)
  (aB (dk (cM fB bU (ai 3) (af (bj (D .Lq) (af (ai 3) (af (cN bA (af aa5 (af (ai 12) (af (ai 8) (af (ai 9) (af (bF (C .K4) abk) au)))))) au))) au)))
  (dk (cM fB bU (ai 4) (af (cN bA (af (ai 12) (af (cN dZ abM) (af (ai 9) au)))) au)))))))))))))))
def gQ(C:CC)(D:DD):Sx:=
 (aB (aO 3 (cN gu au))
  (aB (aO 4 (cN gu au))
  (aB (aO 5 (c2 d7 (cN jQ (af aac (af aaf (af aae (af aah (af aaN (af aae (af aah (af aaE au))))))))) (c2 eG (c2 gT (bj (D .G3) aaI) abx) aaE)))
  (aB (gh (gR aay) (D_ 6) (fJ C D))
  (bw (cN dG aaK))))))
def je(C:CC)(Z:DD):Sx:=
 (aB (uC lA (dk (lC (Z .k_) aaj)) abo)
  abl)
def jD(C:CC):Sx:=(km (ai 2) (ai 3) (cN bA aaK))
def nE(C:CC)(Z:DD):Sx:=
 (aB (aO 1 aaH)
  (aB (aO 2 kr)
  (aB (gh (fH aaQ) (D_ 3) (jD C))
  (bw (gA 602 (Z .b_) (Ab 602 (Z .d8) aaj) aaq)))))
def gZ(C:CC):Sx:=
 (aB (J7 (aI (c2 QW (ai 1) aa0)) (bw (c2 d7 (ai 0) (ai 1))) cD)
  (bw aad))
def dA(C:CC):Sx:=(J7 (aI (c2 fQ (ai 5) (ai 3))) (dk (cM fB bU (ai 3) aay)) cD)
def eI(C:CC):Sx:=(gh (fH (cN bA (af (c2 aN (ai 4) (cK (.str [106]))) (af (c2 aN (cK (.str [106])) (ai 4)) au)))) (D_ 5) (dA C))
def fZ(C:CC):Tx:=(aI (c2 fQ (ai 0) (ai 1)))
def gy(C:CC):Ex:=(ai 0)
def bD(C:CC)(D:DD):Sx:=(aB (km (ai 7) (c2 d7 (ai 10) aac) (c2 d7 (ai 3) (c2 eG (c2 aN (c2 gT (ai 2) (cK (.int 128))) (c2 ji abx (ai 9))) (cK (.int 40)))))
  (aB (J7 (aI (c2 J3 (ai 9) (c2 mT aa0 aac))) (aB (aO 11 abw)
  (aB (aO 12 (cN qX (dI [11] (fH (ai 3)) (fZ C) (gy C))))
  (aO 13 aad))) (aB (aO 11 (cN dG (af (mD (ai 3) jx (gU (cN dZ (af abw au)))) au)))
  (aB (aO 12 (ai 3))
  (aO 13 (cN dZ abk)))))
  (aB (aO 14 (PL (cN mq (af abw abk))))
  (dk (cM fB bU (ai 8) (af (cN bA (af aa5 (af (c2 d7 (ai 7) (c2 d7 (ai 10) aac)) (af (ai 11) (af (c2 d7 (ai 10) aae) (af (bj (D .q_) (af (c2 d7 (ai 10) aah) (af (ai 14) (af (PL (ai 12)) (af (ai 13) abN))))) au)))))) au))))))
def eA(C:CC)(D:DD):Sx:=
 (aB (aO 3 (cN sY aag))
  (aB (gh (fH (cK (.str bN))) (D_ 4) (eI C))
  (aB (aO 6 (c2 eG (ai 2) (cN dZ aaK)))
  (aB (aO 3 (c2 aN (mD (ai 3) (gU (ai 6)) jx) (mD (ai 3) jx (gU (ai 6)))))
  (aB (J7 (aI (c2 J3 (c2 eG (c2 gT (ai 2) (cK (.int 64))) aaf) aac)) (aO 3 (c2 xU (ai 3) aaJ)) cD)
  (aB (aO 7 kr)
  (aB (aO 8 (cN gu au))
  (aB (gh abK aaG (bD C D))
  (bw (cN dG abM))))))))))
def jc(C:CC):Sx:=
 (aB (dk (bF (C .m7) aaj))
  (aB (aO 1 (bF (C .sized) aaj))
  (aB (J7 aa2 pP cD)
  (bw (c2 d7 aaH aaf)))))
def jB(C:CC):Sx:=
 (aB (jH (ai 1) aad (c2 aN aaA aac))
  (aB (aO 2 aaA)
  (aB (aO 3 (c2 aN (c2 ji (c2 ji (cK (.int 31)) (ai 2)) (ai 2)) (c2 ji (cK (.int 7919)) (ai 2))))
  (aB (J7 (aI (c2 QH aa0 aad)) (aO 3 (c2 aN (ai 3) (c2 ji (c2 d7 (ai 0) (c2 eG (ai 2) aa0)) (c2 aN aac (c2 gT (ai 2) aa0))))) cD)
  (bw (c2 gT (c2 eG (c2 ji (ai 3) (cK (.int 48271))) (cK (.int 2147483647))) abx))))))
def lh(C:CC)(D:DD):Ex:=(bj (D .G9) abI)
def lM(C:CC)(D:DD):Sx:=
 (bw (bF (C .K4) (af (cN N6 (dI [0,1,2,3] (gR (af (c2 eG (c2 gT (bj (D .G3) aaI) aaN) aah) au)) dD (lh C D))) au)))
def nI(C:CC):Tx:=(aI (c2 PB aai (cN bA (af aak (af aaB (af aas au))))))
def nW(C:CC):Ex:=(ai 0)
def nB(C:CC)(D:DD):Sx:=
 (aB (aO 2 (cN gu (af (cK (.int 500)) au)))
  (aB (dk (bj (D .C_) (af (c2 aN (ai 0) (cN jQ aag)) (af abe (af aa0 (af aaz (af aac aam)))))))
  (aB (J7 (aI (c2 Xx aaX aad)) (bw (ai 1)) cD)
  (bw (c2 aN (mD (ai 1) jx (gU aah)) (cN bA (af (bF (C .K4) (af (cN N6 (dI [] (fH abe) (nI C) (nW C))) au)) au)))))))
def fR(C:CC):Sx:=(J7 (iX (aI (c2 J3 aaX aak)) (iX (aI (c2 NZ (ai 1) abL)) (aI (c2 J3 (c2 d7 (c2 d7 (ai 1) aaJ) aad) aak)))) (jH (ai 1) aaJ (cN bA (af aak (af (c2 aN (c2 d7 (c2 d7 (ai 1) aaJ) aac) aaP) au)))) (dk (cM fB bU (ai 1) aam)))
def pj(C:CC):Sx:=
 (aB (aO 1 (cN gu au))
  (aB (gh aa7 (D_ 2) (fR C))
  (bw (cN dG aag))))
def dE(C:CC)(D:DD):Ex:=(bj (D .q_) (af (c2 d7 (ai 5) (ai 0)) abI))
def nz(C:CC):Ex:=(bF (C .i_) aaI)
def cH(C:CC)(D:DD):Sx:=(aB (J7 (aI (c2 J3 aaF aaB)) (aO 6 (cN bA (af aaB (af (bF (C .i_) (af aa4 aag)) (af abz au))))) (J7 (aI (c2 J3 aaF aan)) (aB (aO 7 (cN N6 (dI [1,2,3,4,6] (fH (cN bA (af aaf (af aae au)))) dD (dE C D))))
  (aO 6 (cN bA (af aan (af (bF (C .i_) (af aa4 aag)) (af (c2 d7 (ai 7) aad) (af (c2 d7 (ai 7) aac) au))))))) (J7 (aI (c2 J3 aaF aap)) (aB (aO 8 (cN jS aag))
  (aB (km (ai 8) aa4 (c2 d7 (ai 2) (ai 3)))
  (aB (aO 9 (bj (D .q_) (af abA (af (PL (ai 8)) (af (ai 2) (af (c2 aN (ai 3) aac) abq))))))
  (aO 6 (cN bA (af aap (af (c2 d7 (ai 2) (ai 3)) (af (bF (C .i_) (af abz aag)) (af (ai 9) (af abb au)))))))))) (J7 (aI (c2 J3 aaF aas)) (aO 6 (cN bA (af aas (af (cN dG (af (cN N6 (dI [1] (fH aa4) dD (nz C))) au)) au)))) (J7 (aI (c2 J3 aaF aal)) (aO 6 (bj (D .o8) (af (ai 6) abI))) cD)))))
  (dk (cM fB bU (ai 5) aa6)))
def ki(C:CC)(D:DD):Sx:=
 (aB (aO 5 (cN gu au))
  (aB (gh aa7 (D_ 6) (cH C D))
  (bw (cN dG aay))))
def eQ(C:CC)(D:DD):Sx:=(aB abu
  (aB (J7 (jr abR (jr (kj (bF (C .v7) (af abd au))) aa_)) pP cD)
  (aB (dk (bj (D .g_) aaT))
  abT)))
def iD(C:CC)(D:DD):Sx:=
 (aB (aO 1 kr)
  (gh abK aav (eQ C D)))
def iG(C:CC)(D:DD):Sx:=(km (ai 1) aaP (bj (D .h_) (af (c2 d7 (ai 2) aah) aag)))
def ph(C:CC)(D:DD):Sx:=
 (aB (aO 1 kr)
  (aB (gh aa7 (D_ 2) (iG C D))
  (aB (aO 3 (c2 d7 (ai 1) (c2 d7 aaH aac)))
  (bw (cN bA (af abB (af aaO au)))))))
def gY(C:CC)(D:DD):Sx:=
 (aB (aO 4 (c2 gT (bj (D .G3) aaI) aae))
  (aB (aO 5 (c2 eG (ai 4) abj))
  (aB (aO 6 (c2 gT (ai 4) abj))
  (aB (J7 abf abO cD)
  (aB (J7 (iX (aI (c2 QH (ai 5) aaN)) (aI (c2 QW (ai 5) aaE))) (bw (bj (D .G8) (af (ai 0) (af (ai 1) (af (ai 2) (af (ai 3) aa6)))))) cD)
  (aB (J7 (iX abS (iX (aI (c2 ig abC aaz)) (jr (aI (c2 J3 abC aad)) (aI (c2 NZ (c2 d7 (ai 2) aar) aa3))))) (bw (cN bA (af aas (af (bj (D .u6) (af (ai 0) (af (ai 1) (af (ai 2) (af abC au))))) au)))) cD)
  (aB (J7 (jr (aI (c2 J3 (ai 5) aad)) (jr abS (aI (c2 J3 (c2 d7 (ai 2) aar) aa3)))) (bw (cN bA (af aak (af (c2 d7 (cN jQ (af (cK (.str [97])) (af (cK (.str [123])) (af (cK (.str [10])) (af (cK (.str [60,98,62])) (af (cK (.str [125,125])) (af (cK (.str [32,126])) au))))))) (c2 eG (ai 6) (cK (.int 6)))) au)))) cD)
  (aB (aO 7 (bF (C .z_) (af (bj (D .G3) aaI) aam)))
  (aB (J7 (aI (c2 QW (ai 5) aae)) (bw (cN bA (af aaB (af (ai 7) (af (c2 d7 (cN jQ (af (cK (.str [119,111,114,100])) (af (cK (.str [110,117,109,98,101,114])) (af (cK (.str [113,117,111,116,101,100])) (af (cK (.str [112,108,97,105,110])) (af (cK (.str [108,105,110,101])) au)))))) (c2 eG (ai 6) aaN)) au))))) cD)
  (aB (J7 (aI (c2 QW (ai 5) aaN)) (aB (aO 8 (c2 d7 (c2 d7 (ai 2) aaW) (c2 eG (ai 6) aaU)))
  (aB (aO 9 (bj (D .t_) (af (ai 0) (af (ai 1) (af (bF (C .G5) (af (ai 2) (af (cN bA abM) au))) aa1)))))
  (bw (cN bA (af aap (af (ai 8) (af (ai 7) (af (ai 9) (af (c2 d7 (cN jQ (af abn (af (cK (.str [44,32])) (af (cK (.str [10])) au)))) (c2 eG (c2 gT (ai 6) aaU) aae)) au))))))))) cD)
  (aB (aO 10 (bj (D .t_) abm))
  (bw (cN bA (af aan (af (ai 7) (af (ai 10) (af (bj (D .t_) abm) au)))))))))))))))))
def jY(C:CC):Ex:=aat
def bu(C:CC)(D:DD):Sx:=(aB (jH (ai 5) aad (c2 mT (c2 d7 (ai 5) aad) aac))
  (aB (J7 (jr (aI (c2 QW (c2 d7 (ai 5) aad) aad)) (aI (c2 QH (ai 4) (cK (.int 40))))) (aB (jH (ai 5) aad aaJ)
  AI) cD)
  (J7 (aI (c2 J3 aaF aap)) (dk (bj (D .C_) (af (ai 0) (af abA abJ)))) (J7 (aI (c2 J3 aaF aan)) (dk (bj (D .C_) (af (ai 0) (af (c2 aN abz abA) abJ)))) (J7 (aI (c2 J3 aaF aal)) (aB (aO 7 (cM fB oV (cN N6 (dI [] aa7 dD (jY C))) (af aa4 au)))
  (aB (aO 8 (Ac (aI (c2 QX abb aaz)) aaz (cN bA (af abb (af (ai 2) aaK)))))
  (dk (bj (D .C_) (af (ai 0) (af (c2 d7 (c2 d7 (ai 0) (ai 7)) aah) (af (ai 7) (af (ai 8) aaZ)))))))) (J7 (iX (aI (c2 J3 aaF aas)) (aI (c2 ig (ai 3) aaz))) (dk (bj (D .C_) (af (ai 0) (af abB (af aaO (af abd aaZ)))))) cD))))))
def vL(C:CC)(D:DD):Sx:=
 (gh (fH (ai 1)) (D_ 6) (bu C D))
def eX(C:CC):Sx:=
 (J7 (iX (aI (c2 J3 aaA aak)) (iX (kj (ai 0)) (aI (c2 J3 (c2 d7 aaH aad) aak)))) (jH (ai 0) aaJ (cN bA (af aak (af (c2 aN (c2 d7 aaH aac) aaw) au)))) (dk (cM fB bU (ai 0) aag)))
def fO(C:CC):Sx:=
 (bw (c2 aN (cN bA (af (c2 d7 (ai 1) aai) au)) abQ))
def fA(C:CC):Ex:=(bF (C .i_) aaI)
def dQ(C:CC)(D:DD):Sx:=
 (aB (aO 5 (cN dG (af (cN N6 (dI [1] (fH aaC) dD (fA C))) au)))
  (aB (J7 (aI (c2 QX aao aaz)) (bw (cN bA (af aal (af (c2 d7 (ai 4) aat) (af (ai 5) (af aaz (af aaz au))))))) cD)
  (aB (aO 6 (cN dG (af (mD (ai 2) (gU (ai 3)) (gU (c2 aN (ai 3) (cN dZ abp)))) au)))
  (aB (aO 7 (cN jS aag))
  (aB (dk (HV (ai 7) (cN mq (af aao aa6))))
  (bw (cN bA (af aal (af (c2 d7 (ai 4) aat) (af (ai 5) (af (ai 6) (af (bj (D .q_) (af aaR (af (PL (ai 7)) (af (ai 2) (af (c2 aN (ai 3) (cN dZ aa6)) abq))))) au))))))))))))
def fX(C:CC)(D:DD):Sx:=(dk (bj (D .g_) aaL))
def fW(C:CC)(D:DD):Sx:=(aB abE
  (aB (J7 (kj (bj (D .E_) (af (ai 6) aa9))) pP cD)
  (gh (fH (bF (C .m8) aa6)) (D_ 8) (fX C D))))
def iC(C:CC)(D:DD):Sx:=
 (gh abK aau (fW C D))
def jf(C:CC):Sx:=
 (bw (c2 QW (c1 jv (ai 0)) aa0))
def cO(C:CC)(D:DD):Sx:=(aO 2 (bF (C .v8) (af (ai 2) (af (bj (D .n_) (af (ai 3) aag)) au))))
def fL(C:CC)(D:DD):Sx:=
 (aB (aO 2 (cK (.tup mc)))
  (aB (gh aa7 (D_ 3) (cO C D))
  (bw (ai 2))))
def jn(C:CC):Ex:=(c2 d7 (c2 d7 (ai 1) aaW) (c2 eG (c2 aN (c2 gT (ai 2) (cK (.int 97))) (c2 ji aaN (ai 0))) aaU))
def jd(C:CC):Sx:=
 (aB (aO 2 (cN dG (af (cN N6 (dI [1,0] (gR (af (c2 d7 (cN jQ (af aad (af aad (af aac (af aaf (af aae abH)))))) (c2 eG (c2 gT (ai 0) (cK (.int 13))) (cK (.int 6)))) au)) dD (jn C))) au)))
  (bw (c2 aN (cN bA (af (c2 d7 abD (c2 eG (ai 0) (cN dZ (af abD au)))) au)) (ai 2))))
def gM(C:CC):Tx:=(jr (aI (c2 J3 aat aad)) (aI (c2 NZ abD aa3)))
def gP(C:CC):Ex:=(ai 0)
def fU(C:CC)(D:DD):Sx:=
 (aB (aO 5 (cN N6 (dI [2] (fH (c2 d7 (ai 2) abv)) (gM C) (gP C))))
  (aB (J7 (aI (c2 J3 (ai 5) abL)) (bw (cN bA (af aak (af (cK (.str [110,111,110,101])) au)))) cD)
  (aB (FZ (NK 3 (aU (D_ 6) (aU (D_ 7) (aU (D_ 8) dU)))) (c2 d7 (ai 5) (c2 eG (ai 4) (cN dZ aay))))
  (aB (aO 9 (bj (D .u6) (af (ai 0) (af (ai 1) (af (ai 2) abN)))))
  (aB (J7 (aI (c2 QX (ai 8) aaz)) (bw (cN bA (af aal (af (ai 6) (af (ai 9) (af aaz (af aaz au))))))) cD)
  (aB (aO 10 (c2 eG (c2 gT (ai 4) aaE) abj))
  (aB (aO 11 (cN dG (af (mD (c2 d7 (ai 2) aaW) (gU (ai 10)) (gU (c2 aN (ai 10) (ai 8)))) au)))
  (bw (cN bA (af aal (af (ai 6) (af (ai 9) (af (ai 11) (af (bj (D .t_) (af (ai 0) (af (ai 1) (af (bF (C .G5) (af (ai 2) abk)) aa1)))) au))))))))))))))
def iS(C:CC)(D:DD):Ex:=(bF (C .z_) (af (bj (D .G3) (af (ai 2) aaK)) aag))
def iE(C:CC)(D:DD):Sx:=
 (bw (cN dG (af (cN N6 (dI [2,0,1] (gR aaK) dD (iS C D))) au)))
def kh(C:CC):Sx:=
 (aB (aO 2 (cN jS aaj))
  (aB (km (ai 2) aar (c2 aN (c2 d7 (ai 0) aar) (ai 1)))
  (bw (PL (ai 2)))))
def fN(C:CC)(Z:DD):Sx:=
 (aB (aO 2 aaw)
  (aB abP
  (bw (cN bA (af (PL (lC (Z .m6) (af (cN jS (af abB au)) (af aaX aaI)))) (af aaO au))))))
def dO(C:CC)(Z:DD):Sx:=
 (aB (aO 3 (Ac (aI (c2 QX aaR aaz)) aaz (cN bA (af aao (af aaR aam)))))
  (bw (cN bA (af (PL (lC (Z .m6) (af kr (af aaQ (af aaC aam))))) aaK))))
def jb(C:CC):Sx:=
 (bw (c2 aN (c2 d7 aaA aai) abQ))
def cU(C:CC):Sx:=(J7 (aI (c2 fQ (c2 d7 (ai 4) aad) (ai 1))) abo cD)
def bX(C:CC):Sx:=
 (aB (gh (fH (bF (C .I_) aaj)) (D_ 4) (cU C))
  (aB (J7 aa8 (bw (Tt (c2 fQ aat (ai 3)) (bF (C .o9) (af (ai 0) (af (c2 d7 (ai 3) aat) au))))) cD)
  (aB (J7 abr (bw (Tt (c2 QX (ai 2) aaz) (c2 NZ (cN dZ (af aat au)) (ai 2)))) cD)
  abl)))
def bR(C:CC):Sx:=
 (aB (J7 abt (bw (cN jQ (af (cN bA (af aa3 (af (cN bA (af aat au)) abp))) au))) cD)
  (aB (J7 (aI (c2 J3 aai aan)) (bw (cN jQ (af (cN bA (af (cN bA abG) (af aa3 (af aaC au)))) (af (cN bA (af (cN bA abH) (af aa3 abp))) au)))) cD)
  (aB (J7 (iX aa8 (aI (c2 ig aaR aaz))) (bw (cN jQ (af (cN bA (af aa3 (af aao (af aaR au)))) au))) cD)
  (bw abL))))
def gB(C:CC):Sx:=
 (bw (cN bA (af (c2 aN aai aaA) (af (cN zw (af aat (af aaw au))) (af (c2 aN aaC aaQ) (af (cN zw (af aao (af aaY au))) au))))))
def bn(C:CC)(D:DD):Sx:=
 (aB (J7 abt (bw (bF (C .m_) (af (bj (D .h_) (af aao aag)) au))) cD)
  (aB (J7 (aI (c2 J3 aai aan)) (bw (bF (C .m_) (af (bj (D .h_) (af (c2 aN aaC aao) aag)) au))) cD)
  (aB (J7 aa8 (bw (bF (C .m_) (af (bj (D .n8) aaI) au))) cD)
  (aB (J7 abr (bw (cN bA (af aac (af aac (af aac abH))))) cD)
  (bw (cN bA (af aac (af aac (af aad abG)))))))))
def fM(C:CC):Sx:=
 (aB (aO 3 (cN jS (af aaX au)))
  (aB (km (ai 3) (ai 0) (ai 1))
  (bw (cN bA (af (PL (ai 3)) (af aaP au))))))
def dH(C:CC):Sx:=
 (aB (J7 (aI (c2 J3 aai aak)) (bw aa3) cD)
  (aB (J7 abt (bw (cN bA (af aaC au))) cD)
  (aB (J7 aa8 (bw aaC) cD)
  (aB (J7 abr (bw aat) cD)
  (bw (cN bA (af aat au)))))))
def bG(C:CC):Sx:=
 (aB (J7 (aI (c2 NZ (cN dZ (af aaC au)) (cN dZ (af aaQ au)))) abo cD)
  (aB (J7 (jr (aI (c2 QX aaY aaz)) (aI (c2 QX aao aaz))) (bw (Tt (c2 ig aaY aaz) (c2 ig aao aaz))) cD)
  (bw (Tt (c2 NZ (cN dZ abp) aaY) (bF (C .v7) abp)))))
def eF(C:CC):Sx:=
 (aB (aO 1 (Ac (kj aaC) (c2 aN aao aac) aad))
  (bw (cN bA (af (c2 aN aai aac) (af (c2 aN aat aac) (af aaC aag))))))
def bH(C:CC)(D:DD):Sx:=
 (aB (aO 2 (c2 d7 (ai 1) aat))
  (aB abP
  (aB (J7 (jr (aI (c2 QX aaR aaz)) (aI (c2 J3 (ai 3) aad))) (bw (cN bA (af aaX (af aaP (af aad abG))))) cD)
  (aB (aO 4 (bj (D .h_) (af aaR aag)))
  (aB (aO 5 (Ac (kj (c2 d7 (ai 4) aaf)) (c2 aN (c2 d7 (ai 2) aae) (c2 d7 (ai 4) aae)) aad))
  (bw (cN bA (af (c2 aN aaX (c2 ji (ai 3) (c2 d7 (ai 4) aad))) (af (cN zw (af aaP (af (c2 aN (c2 d7 (ai 2) aae) (c2 d7 (ai 4) aac)) au))) (af (c2 ji (ai 3) (c2 d7 (ai 4) aaf)) aay))))))))))
def FL:Nat→CC×DD×DD
 |0=>(fun _ _=>.bad,fun _ _ _=>.bad,fun _ _ _=>.bad)
 |k+1=>(fun f ps=>match f with
  |.law=>bx (vK (FL k).1 (FL k).2.1) 1 6 ps
  |.I9=>bx (iJ (FL k).1) 1 8 ps
  |.A_=>bx (je (FL k).1 (FL k).2.2) 1 1 ps
  |.joined=>bx (nE (FL k).1 (FL k).2.2) 1 4 ps
  |.v5=>bx (gZ (FL k).1) 2 2 ps
  |.j_=>bx (eA (FL k).1 (FL k).2.1) 3 15 ps
  |.k_=>bx (jc (FL k).1) 1 2 ps
  |.K4=>bx (pj (FL k).1) 1 3 ps
  |.m7=>bx (iD (FL k).1 (FL k).2.1) 1 5 ps
  |.sized=>bx (ph (FL k).1 (FL k).2.1) 1 4 ps
  |.i_=>bx (fO (FL k).1) 2 2 ps
  |.v7=>bx (jf (FL k).1) 1 1 ps
  |.z_=>bx (jd (FL k).1) 2 3 ps
  |.G5=>bx (kh (FL k).1) 2 3 ps
  |.q9=>bx (fN (FL k).1 (FL k).2.2) 2 4 ps
  |.o7=>bx (dO (FL k).1 (FL k).2.2) 3 4 ps
  |.j9=>bx (jb (FL k).1) 2 2 ps
  |.m8=>bx (bR (FL k).1) 1 1 ps
  |.v8=>bx (gB (FL k).1) 2 2 ps
  |.q8=>bx (fM (FL k).1) 3 4 ps
  |.I_=>bx (dH (FL k).1) 1 1 ps
  |.o9=>bx (bG (FL k).1) 2 2 ps
  |.m_=>bx (eF (FL k).1) 1 2 ps
  |_=>.bad,fun f ps h=>match f with
  |.u_=>ei (gQ (FL k).1 (FL k).2.1) 3 13 ps h
  |.G3=>ei (jB (FL k).1) 2 4 ps h
  |.t_=>ei (lM (FL k).1 (FL k).2.1) 4 4 ps h
  |.Lq=>ei (nB (FL k).1 (FL k).2.1) 2 3 ps h
  |.q_=>ei (ki (FL k).1 (FL k).2.1) 5 10 ps h
  |.G9=>ei (gY (FL k).1 (FL k).2.1) 4 11 ps h
  |.C_=>ei (vL (FL k).1 (FL k).2.1) 6 9 ps h
  |.H7=>ei (eX (FL k).1) 2 2 ps h
  |.o8=>ei (dQ (FL k).1 (FL k).2.1) 5 8 ps h
  |.g_=>ei (iC (FL k).1 (FL k).2.1) 5 9 ps h
  |.h_=>ei (fL (FL k).1 (FL k).2.1) 2 4 ps h
  |.G8=>ei (fU (FL k).1 (FL k).2.1) 5 12 ps h
  |.u6=>ei (iE (FL k).1 (FL k).2.1) 4 4 ps h
  |.E_=>ei (bX (FL k).1) 4 5 ps h
  |.n_=>ei (bn (FL k).1 (FL k).2.1) 2 2 ps h
  |.n8=>ei (bH (FL k).1 (FL k).2.1) 2 6 ps h
  |_=>.bad,fun f ps h=>match f with
  |.k_=>nN (eO (FL k).1 (FL k).2.2) 1 2 ps h
  |.b_=>gC (dh (FL k).1 (FL k).2.1 (FL k).2.2) 3 6 ps h
  |.d8=>wo (cL (FL k).1) 2 3 ps h
  |.m7=>nN (fm (FL k).1 (FL k).2.2 (Nat.ble 2 (dl k))) 1 5 ps h
  |.f9=>gC (aP (FL k).1 (FL k).2.2) 3 8 ps h
  |.g_=>nN (fj (FL k).1 (FL k).2.1 (FL k).2.2 (Nat.ble 2 (dl k))) 5 9 ps h
  |.d9=>gC (dv (FL k).1 (FL k).2.2) 3 5 ps h
  |.m6=>gC (eZ (FL k).1) 4 6 ps h
  |_=>.bad)
abbrev X_(k:Nat):DD:=(FL k).2.2
abbrev F(k:Nat):CC:=(FL k).1
abbrev L(k:Nat):DD:=(FL k).2.1
set_option genInjectivity false in
set_option genSizeOf false in
structure Sys(G:SC) where
 adr:Fn→Addr
 fd:Fn→FuncData
 O5:Nat→Addr
 ok:∀f,S8 G.K (oM f) (wH f) (qN f) (adr f) (fd f)
 bi:∀f,jC G.K (fd f) (kK f) []
 m:∀f,BU f=true→G.mg (oM f)=some (.ref (adr f))
 n:∀i,G.mg (Gv i)=none
 G_:∃t,G.mg "MOST_PUT_IN"=some (.int 400 t)
 p7:∃t,G.mg "MOST_PUT_IN_DEPTH"=some (.int 24 t)
 Ld:GV G "NOTHING" mc
 Mz:G.T 1=some (O5 1)
 MF:G.mg "TooMany"=some (.ref (O5 1))
 N8:G.T 2=some (O5 2)
 Oa:G.mg "BadName"=some (.ref (O5 2))
 Lb:G.T 602=some (O5 602)
 Oq:G.mg "Joiner"=some (.ref (O5 602))
 J4:Cls G.K (O5 602)
 Om:∀f∈Qi 602,uj G.K (O5 602) f
 Oo:Mk G.K (O5 602) (adr .d8)
 J_:qL G.K (O5 602) "nodes_put_in" (adr .b_)
 Lp:qL G.K (O5 602) "put_in" (adr .f9)
 K3:qL G.K (O5 602) "loop_put_in" (adr .d9)
 K6:W.excIn G.K (O5 1) [.type "ValueError",.type "Exception",.type "BaseException",.type "object"] "ValueError.__new__"=true
 B_:W.exmOne G.K (.ref (O5 1)) (.ref (O5 1))=some true
 N7:Vo G.K (O5 2) (adr .j7) "at"
section
variable{S:SC}{k:Nat}{X:Cx}
theorem re(Y:Sys S):∀C Ca,lA C=true→S.T C=some Ca→W.exmOne S.K (.ref Ca) (.ref (Y.O5 1))=some true:=by
 intro C Ca h ha;unfold lA at h;split at h
 ·cases Y.Mz.symm.trans ha;exact Y.B_
 ·cases h
theorem gH(Y:Sys S)(h1:X.toSC=S:=by rfl):OC X 602:=by subst h1;exact⟨_,Y.Lb,Y.J4,Y.Om⟩
theorem vS(Y:Sys S)(h1:X.toSC=S:=by rfl):ZX X 1 "TooMany":=by subst h1;exact⟨_,_,_,_,_,_,_,_,_,PySem.F.excBase_ValueError,by decide+kernel,PySem.F.excBase_ValueError,Y.K6,Y.Mz,Y.MF⟩
theorem sc:∀f,lQ (qW f) (kK f) (aV (qN f)):=fun f=>by cases f<;>exact⟨rfl,rfl,rfl,by decide+kernel,rfl,by decide+kernel,by decide+kernel⟩
theorem pA(Y:Sys S)(h1:X.toSC=S:=by rfl):ZI X 2 "BadName":=by subst h1;exact⟨_,_,_,_,Y.N8,Y.Oa,Cf (Y.ok .j7) (sc .j7) rfl rfl rfl rfl,Y.N7,Y.bi .j7⟩
def Un:Fn→Nat
 |.b_=>602
 |.f9=>602
 |.d9=>602
 |.d8=>602
 |_=>0
def JK:Fn→Bool
 |.b_=>true
 |.f9=>true
 |.d9=>true
 |_=>false
def JL:Fn→Bool
 |.d8=>true
 |_=>false
def KG:Fn→Bool
 |_=>false
def Yu:Fn→Str
 |.d8=>"Joiner"
 |_=>""
structure Tb(Y:Sys S)(k:Nat):Prop where
 p:∀f,Q7 S (dl k) (Y.adr f) (Y.fd f) (kK f) (F k f)
 l:∀f,O8 S true (dl k) (Y.adr f) (Y.fd f) (kK f) (L k f)
 x:∀f,O8 S true (dl k) (Y.adr f) (Y.fd f) (kK f) (X_ k f)
 h:∀f,KG f=true→O8 S false (dl k) (Y.adr f) (Y.fd f) (kK f) (X_ k f)
structure Bu(Y:Sys S)(k:Nat)(A:Around):Prop extends Tb Y k where
 hr:eY (dl k+1) A
variable{Y:Sys S}{A:Around}{e o:Expr}{es:List Expr}{fo:Ex}{fs:Ax}{pos p0 apos:Pos}{x m:Str}{pl:Sem Bool}
theorem Bu.r(B:Bu Y k A):eY (dl k) A:=B.hr.mono (Nat.le_succ _)
theorem om(Y:Sys S)(f:Fn)(h:JK f=true):∃Ca,S.T (Un f)=some Ca∧Cls S.K Ca∧qL S.K Ca (oM f) (Y.adr f)∧oM f∉Qi (Un f):=by
 cases f with
 |b_=>exact⟨_,Y.Lb,Y.J4,Y.J_,by decide⟩
 |f9=>exact⟨_,Y.Lb,Y.J4,Y.Lp,by decide⟩
 |d9=>exact⟨_,Y.Lb,Y.J4,Y.K3,by decide⟩
 |_=>cases h
theorem oi(Y:Sys S)(f:Fn)(h:JL f=true):∃Ca,S.T (Un f)=some Ca∧Mk S.K Ca (Y.adr f)∧S.mg (Yu f)=some (.ref Ca):=by
 cases f with
 |d8=>exact⟨_,Y.Lb,Y.Oo,Y.Oq⟩
 |_=>cases h
theorem zc(B:Bu Y k A)(f:Fn)(ha:RA X (e::es) fs)(h1:X.toSC=S:=by rfl)(h2:X.A=A:=by rfl)(hx:oM f=x:=by rfl)(hp:BU f=true:=by rfl)(hg:Gl X x:=by rfl)(hc:X.calm=true:=by rfl)(MJ:nD0 x:=by decide)(he:sE0 X e es:=by rfl)(Lj:sP0 X es pos:=by rfl):RE X (.Call (.Name x p0) (e::es) [] pos) (bF (F k f) fs):=by subst h1 h2 hx;exact Dl ⟨_,_,_,_,B.p f,B.r,Y.m f hp,(Y.ok f).kp,Y.bi f⟩ hg ha hc MJ he Lj
theorem zd(B:Bu Y k A)(f:Fn)(ha:RA X (e::es) fs)(h1:X.toSC=S:=by rfl)(h2:X.A=A:=by rfl)(hx:oM f=x:=by rfl)(hp:BU f=true:=by rfl)(hg:Gl X x:=by rfl)(hc:X.calm=true:=by rfl)(MJ:nD0 x:=by decide)(he:sE0 X e es:=by rfl)(Lj:sP0 X es pos:=by rfl):RE X (.Call (.Name x p0) (e::es) [] pos) (bj (L k f) fs):=by subst h1 h2 hx;exact uI ⟨_,_,_,_,_,B.l f,B.r,fun _=>hc,Y.m f hp,(Y.ok f).kp,Y.bi f⟩ hg ha MJ he Lj
theorem zx(B:Bu Y k A)(f:Fn)(ha:RA X (e::es) fs)(h1:X.toSC=S:=by rfl)(h2:X.A=A:=by rfl)(hx:oM f=x:=by rfl)(hp:BU f=true:=by rfl)(hg:Gl X x:=by rfl)(hc:X.calm=true:=by rfl)(MJ:nD0 x:=by decide)(he:sE0 X e es:=by rfl)(Lj:sP0 X es pos:=by rfl):RE X (.Call (.Name x p0) (e::es) [] pos) (bj (X_ k f) fs):=by subst h1 h2 hx;exact uI ⟨_,_,_,_,_,B.x f,B.r,fun _=>hc,Y.m f hp,(Y.ok f).kp,Y.bi f⟩ hg ha MJ he Lj
theorem zh(B:Bu Y k A)(f:Fn)(ha:RA X (e::es) fs)(h1:X.toSC=S:=by rfl)(h2:X.A=A:=by rfl)(hx:oM f=x:=by rfl)(hp:BU f=true:=by rfl)(hg:Gl X x:=by rfl)(hc:X.calm=true:=by rfl)(MJ:nD0 x:=by decide)(he:sE0 X e es:=by rfl)(Lj:sP0 X es pos:=by rfl):RE X (.Call (.Name x p0) (e::es) [] pos) (lC (X_ k f) fs):=by subst h1 h2 hx;exact AN ⟨_,_,_,_,_,B.x f,B.r,fun _=>hc,Y.m f hp,(Y.ok f).kp,Y.bi f⟩ hg ha MJ he Lj
theorem zo(B:Bu Y k A)(f:Fn)(ho:RE X o fo)(ha:RA X (e::es) fs)(h1:X.toSC=S:=by rfl)(h2:X.A=A:=by rfl)(hx:oM f=m:=by rfl)(hp:JK f=true:=by rfl)(hc:X.calm=true:=by rfl)(he:sE0 X e es:=by rfl)(Lj:sP0 X es pos:=by rfl)(ht:eval (.Call (.Attribute o m apos) (e::es) [] pos) X.env=(do
   let ov ← eval o X.env
   standAt apos.atName
   let(f,first) ← holding [ov] (getMethod ov m pl)
   callWith pos f first (backTo pos (starEach (e::es) X.env)) (backToKw pos (keywordEach [] X.env))):=by rfl):RE X (.Call (.Attribute o m apos) (e::es) [] pos) (gA (Un f) (X_ k f) fo fs):=by
 subst h1 h2 hx;obtain⟨_,a,b,c,d⟩:=om Y f hp;exact AM (pl:=pl) ⟨_,_,_,_,_,_,a,b,c,d,B.x f,B.r,fun _=>hc,Y.bi f⟩ ho ha he Lj ht
theorem zk(B:Bu Y k A)(f:Fn)(ha:RA X (e::es) fs)(h1:X.toSC=S:=by rfl)(h2:X.A=A:=by rfl)(hx:Yu f=x:=by rfl)(hp:JL f=true:=by rfl)(hg:Gl X x:=by rfl)(hc:X.calm=true:=by rfl)(MJ:nD0 x:=by decide)(he:sE0 X e es:=by rfl)(Lj:sP0 X es pos:=by rfl):RE X (.Call (.Name x p0) (e::es) [] pos) (Ab (Un f) (X_ k f) fs):=by subst h1 h2 hx;obtain⟨_,a,b,c⟩:=oi Y f hp;exact Gi ⟨_,_,_,_,_,_,a,b,B.x f,B.hr,fun _=>hc,c,Y.bi f⟩ hg ha MJ he Lj
end
def RR{S:SC}(Y:Sys S)(c:Bool)(k:Nat)(f:Fn)(b:Sx):Prop:=∀(X:Cx)(cd:Value)(A:Around)(s:Shared),X.toSC=S→eY (dl k+1) (A.deeper (envOfC (wH f) (aV (qN f)) s.heap.objs.size (Y.adr f) cd))→Qs (kb c X (qW f) (wH f) (aV (qN f)) (Y.adr f) cd A s) (iB (qN f)) b
section
variable{S:SC}{Y:Sys S}{c:Bool}{k:Nat}{f:Fn}{b:Sx}
theorem rz(T:Tb Y k)(h:∀(X:Cx)(Y:Sys X.toSC)(cd:Value)(A:Around)(s:Shared),Bu Y k (kb c X (qW f) (wH f) (aV (qN f)) (Y.adr f) cd A s).A→(kb c X (qW f) (wH f) (aV (qN f)) (Y.adr f) cd A s).A.units+64<cLine→(∀i,X.mg (Gv i)=none)→Qs (kb c X (qW f) (wH f) (aV (qN f)) (Y.adr f) cd A s) (iB (qN f)) b):RR Y c k f b:=fun X cd A s e hr=>by subst e;exact h X Y cd A s ⟨T,hr⟩ (hr.mono (Nat.le_succ _)).units Y.n
theorem fp(h:RR Y true k f b):Q7 S (dl (k+1)) (Y.adr f) (Y.fd f) (kK f) (bx b (kK f).length (qW f).length):=Ez (Y.ok f) (sc f) h
theorem fl(h:RR Y c k f b):O8 S c (dl (k+1)) (Y.adr f) (Y.fd f) (kK f) (ei b (kK f).length (qW f).length):=oY (Y.ok f) (sc f) h JV
theorem fg(h:RR Y c k f b):O8 S c (dl (k+1)) (Y.adr f) (Y.fd f) (kK f) (nN b (kK f).length (qW f).length):=oY (Y.ok f) (sc f) h Fl
theorem fh(h:RR Y c k f b):O8 S c (dl (k+1)) (Y.adr f) (Y.fd f) (kK f) (gC b (kK f).length (qW f).length):=oY (Y.ok f) (sc f) h JX
theorem fi(h:RR Y c k f b):O8 S c (dl (k+1)) (Y.adr f) (Y.fd f) (kK f) (wo b (kK f).length (qW f).length):=oY (Y.ok f) (sc f) h JW
end
section
variable{S:SC}{Y:Sys S}{k:Nat}(T:Tb Y k)
include T
theorem sO:RR Y true k .k_ (eO (F k) (X_ k)):=rz T fun X Y _ _ _ B hu n=>(aj (bV (zx B .m7 (ra1 (rv 0))))
  (aj (bf (zc B .sized (ra1 (rv 0))))
  (aj (aY (RW.rt (gS (bh qV (bp _) (ak (rv 1) ah) (Vk Y.G_)) (gj (bh qV (bp _) (ak (rv 1) ah) (Vk Y.p7))))) (ay (AJ (vS Y) rfl (ra1 rst))) aL)
  (zr (ak (ak (rv 0) (gD ah)) ah)))))
theorem jI:RR Y true k .b_ (dh (F k) (L k) (X_ k)):=rz T fun X Y _ _ _ B hu n=>(aj (bf (iw du))
  (aj (zf (cV (rv 1)) bq (ay (zf (cV (zo B .f9 (rv 0) (ag (rv 4) (ra1 (rv 2))))) bq (ay (bV (zd B .H7 (ag (rv 3) (ra1 (rv 5)))))))))
  (zr (zt fy (n .tuple) (ra1 (rv 3))))))
theorem mf:RR Y true k .d8 (cL (F k)):=rz T fun X Y _ _ _ B hu n=>(aj (wv (gH Y) rfl (rv 0) ah)
  (aj (wv (gH Y) rfl (rv 0) jM)
  (ay (zf (cV (rv 1)) bq (ay (gO (sT (gH Y) rfl (rv 0)) (ak (rv 2) ah) (rv 2)))))))
theorem qQ:RR Y true k .m7 (fm (F k) (X_ k) (Nat.ble 2 (dl k))):=rz T fun X Y _ _ _ B hu n=>(aj (bf jM)
  (ay (zf (mO rfl (n .enumerate) (ra1 (rv 0))) (mh rfl (df bq (df bq jK))) (aj (bf (req hu (rv 2) (iN (zl (n .len) (rv 0)) ah)))
  (aj (aY (RW.rt (gS (bh (zB hu) (by with_unfolding_all rfl) (ak (rv 3) ah) (rv 1)) (gS (jh (zc B .v7 (ra1 (ak (rv 3) ah)))) (gj (RW.rt (hZ (jh (rv 4)) (ir (bh mu (bp _) (ak (rv 3) ah) cW)))))))) (ay (rn (pA Y) B.r rfl (ra1 (aK (ra1 (rv 2)))))) aL)
  (aj (bV (zx B .g_ (ag (ak (rv 3) ah) (ag (aK (ra1 (rv 2))) (ag (ak (rv 3) ah) (ag (ak (rv 3) ah) (ra1 (rv 1))))))))
  (ay (gO (rv 1) (ak (rv 3) ah) (rv 3)))))))))
theorem nM:RR Y true k .f9 (aP (F k) (X_ k)):=rz T fun X Y _ _ _ B hu n=>(aj (bf (ak (rv 1) ah))
  (aj (aY (Lf hu (rv 3) rst) (zr (aK (ra1 (rv 1)))) aL)
  (aj (aY (Lf hu (rv 3) rst) (zr (aK (ra1 (aK (ag rst (ag (zc B .j9 (ag (ak (rv 1) ah) (ra1 (rv 2)))) (ra1 (ak (rv 1) ah)))))))) aL)
  (aj (aY (Lf hu (rv 3) rst) (zr (aK (ra1 (zo B .d9 (rv 0) (ag (rv 1) (ra1 (rv 2))))))) aL)
  (aj (aY (Lf hu (rv 3) rst) (aj (bf (zo B .b_ (rv 0) (ag (ak (rv 1) ah) (ra1 (rv 2)))))
  (aj (bf (zo B .b_ (rv 0) (ag (ak (rv 1) ah) (ra1 (rv 2)))))
  (zr (aK (ra1 (aK (ag rst (ag (zc B .j9 (ag (ak (rv 1) ah) (ra1 (rv 2)))) (ag (rv 4) (ra1 (rv 5))))))))))) aL)
  (aj (aY (Lf hu (rv 3) rst) (aj (bf (ak (sT (gH Y) rfl (rv 0)) (ak (rv 1) ah)))
  (zr (zo B .b_ (rv 0) (ag (ak (rv 6) ah) (ra1 (zc B .o7 (ag (rv 1) (ag (rv 6) (ra1 (rv 2)))))))))) aL)
  (aj (bf (ak (rv 2) ah))
  (zr (zo B .b_ (rv 0) (ag (ak (rv 7) ah) (ra1 (zc B .q9 (ag (ak (rv 1) ah) (ra1 (rv 2)))))))))))))))
theorem qP:RR Y true k .g_ (fj (F k) (L k) (X_ k) (Nat.ble 2 (dl k))):=rz T fun X Y _ _ _ B hu n=>(ay (zf (mO rfl (n .enumerate) (ra1 (rv 0))) (mh rfl (df bq (df bq jK))) (aj (bf (aJ (rv 1) (aK (ra1 (rv 5)))))
  (aj (aY (jh (zd B .E_ (ag (rv 6) (ag (rv 2) (ag (rv 3) (ra1 (rv 4))))))) (ay (rn (pA Y) B.r rfl (ra1 (rv 7)))) aL)
  (ay (zf (cV (zc B .m8 (ra1 (rv 6)))) bq (ay (bV (zx B .g_ (ag (ak (rv 8) ah) (ag (aJ (rv 7) (ak (rv 8) ah)) (ag (aJ (rv 2) (ak (rv 8) ah)) (ag (rv 3) (ra1 (rv 4)))))))))))))))
theorem ku:RR Y true k .d9 (dv (F k) (X_ k)):=rz T fun X Y _ _ _ B hu n=>(aj (bf (aJ rst (zt IJ (n .str) (ra1 (sT (gH Y) rfl (rv 0))))))
  (aj (wv (gH Y) rfl (rv 0) (aJ (sT (gH Y) rfl (rv 0)) ah))
  (aj (bf (zo B .b_ (rv 0) (ag (ak (rv 1) ah) (ra1 (zc B .q8 (ag (ak (rv 1) ah) (ag (aK (ra1 (rv 3))) (ra1 (rv 2)))))))))
  (zr (aK (ag rst (ag (rv 3) (ag (zc B .j9 (ag (ak (rv 1) ah) (ra1 (rv 2)))) (ag (rv 4) (ra1 (ak (rv 1) ah)))))))))))
theorem mL:RR Y true k .m6 (eZ (F k)):=rz T fun X Y _ _ _ B hu n=>(aj (zf (Ge rfl (n .zip) (ag (rv 1) (ra1 (rv 2)))) (mh rfl (df bq (df bq jK))) (ay (gO (rv 0) (rv 4) (zc B .j9 (ag (rv 5) (ra1 (rv 3)))))))
  (zr (rv 0)))
theorem IE:RR Y true k .law (vK (F k) (L k)):=rz T fun X Y _ _ _ B hu n=>(aj (bf (zc B .I9 (ra1 (zc B .v5 (ag (rv 0) (ra1 ah))))))
  (aj (bf (zd B .u_ (ag (rv 0) (ag (iw (ag ah (ra1 ah))) (ra1 (rv 1))))))
  (aj (aY (jh (zc B .A_ (ra1 (rv 2)))) (zr (zc B .A_ (ra1 (zc B .j_ (ag (rv 2) (ag (rv 1) (ra1 (zc B .v5 (ag (rv 0) (ra1 ah)))))))))) aL)
  (aj (bf (zc B .joined (ra1 (rv 2))))
  (aj (zf (fS rfl (n .range) (ra1 ah)) bq (aj (bf (zc B .j_ (ag (rv 2) (ag (rv 1) (ra1 (aJ (eS (zc B .v5 (ag (rv 0) (ra1 (aJ ah (rv 4))))) (aJ ah (eS ah (rv 4)))) (eS ah (rv 4))))))))
  (ay (aY (RW.rt (gS (bh (tf hu) (bp _) (zc B .k_ (ra1 (rv 5))) (ak (ak (rv 2) (gD ah)) ah)) (gj (bh (tf hu) (bp _) (zc B .joined (ra1 (rv 5))) (rv 3))))) (zr rA) aL))))
  (zr (YJ (n .isinstance) (n .tuple) (rv 3))))))))
theorem zi:RR Y true k .I9 (iJ (F k)):=rz T fun X Y _ _ _ B hu n=>(aj (bf rst)
  (aj (bf (aJ ah (bJ (bW (rv 0) ah) ah)))
  (aj (bf (bJ (bW (rv 0) ah) (rv 2)))
  (aj (bf (iw du))
  (aj (zf (fS rfl (n .range) (ra1 ah)) bq (aj (ot (M:=["_law_j","_law_some","_law_n","_law_k"]) (cS.of (by kernel_rfl)) (fS rfl (n .range) (ra1 ah)) (fun _ _=>iM) (fun _ _=>(ak (rv 1) (bJ (aJ (aJ (bW (rv 2) ah) (eS ah (rv 0))) (eS (eS ah (bW (rv 3) ah)) (zt Fa (n .int) (ra1 (req hu (bJ (rv 2) ah) ah))))) ah))) rfl rfl (by with_unfolding_all rfl))
  (ay (aY (Lf hu (bJ (rv 0) ah) ah) (ay (bV (iZ iK PySem.F.plainAttrs_list PySem.F.slot_list_append PySem.F.type_list_append eE (rv 4) (ra1 (iZ we PySem.F.plainAttrs_str PySem.F.slot_str_join PySem.F.type_str_join tu rst (ra1 (cZ (rv 6) gp (dY (aJ ah (bJ (rv 5) ah)))))))))) (ay (aY (Lf hu (bJ (rv 0) ah) ah) (aj (iL (rv 6) (rv 3) (ak (rv 1) (bJ (aJ (aJ (bW (rv 0) ah) (eS ah (rv 5))) ah) ah)))
  (ay (bV (iZ iK PySem.F.plainAttrs_list PySem.F.slot_list_append PySem.F.type_list_append eE (rv 4) (ra1 (iZ we PySem.F.plainAttrs_str PySem.F.slot_str_join PySem.F.type_str_join tu rst (ra1 (cZ (rv 6) gp (dY (rv 2)))))))))) (ay (bV (iZ iK PySem.F.plainAttrs_list PySem.F.slot_list_append PySem.F.type_list_append eE (rv 4) (ra1 (cZ (iZ we PySem.F.plainAttrs_str PySem.F.slot_str_join PySem.F.type_str_join tu rst (ra1 (aJ (cZ (rv 6) (dY (bJ (rv 5) ah)) gp) (cZ (rv 6) gp (dY (bJ (rv 5) ah)))))) gp (dY (iN ah (bW (rv 5) ah))))))))))))))
  (aj (bf (fE (ag rst (ag rst (ag rst (ag rst (ag rst (ag rst (ag rst (ag rst (ag rst (ag rst (ra1 rst)))))))))))))
  (aj (aY (RW.rt (gS (bh th (bp _) (pV rfl (n .len) rfl (n .set) (rv 4)) ah) (gj (bh (tf hu) (bp _) (gq (M:=["_law_name","_law_told"]) (cS.of (by kernel_rfl)) (cV (rv 4)) (fun _ _=>(sR (bh (zB (by exact hu)) (by with_unfolding_all rfl) (rv 0) (rv 1)))) (fun _ _=>(rv 0))) (fE du))))) (zr (fE (ag rst (ag rst (ag rst (ag rst (ag rst (ag rst (ag rst (ag rst (ag rst (ag rst (ag rst (ra1 rst)))))))))))))) aL)
  (zr (rv 4)))))))))
theorem qT:RR Y true k .u_ (gQ (F k) (L k)):=rz T fun X Y _ _ _ B hu n=>(aj (bf (iw du))
  (aj (bf (iw du))
  (aj (bf (ak (fE (ag ah (ag ah (ag ah (ag ah (ag ah (ag ah (ag ah (ra1 ah))))))))) (bJ (bW (zd B .G3 (ag (rv 0) (ra1 (rv 1)))) ah) ah)))
  (aj (zf (fS rfl (n .range) (ra1 (rv 5))) bq (aj (bf (zd B .G3 (ag (rv 0) (ra1 (rv 1)))))
  (aj (bf (zt fy (n .tuple) (ra1 (gq (M:=["_law_j","_law_menu","_law_n"]) (cS.of (by kernel_rfl)) (fS rfl (n .range) (ra1 (bJ (rv 7) ah))) (fun _ _=>iM) (fun _ _=>(ak (rv 1) (bJ (aJ (bW (rv 2) ah) (rv 0)) ah)))))))
  (aj (bf cW)
  (aj (aY (RW.rt (hZ (bh qV (bp _) (bJ (bW (rv 7) ah) ah) ah) (ir (bh th (bp _) (rv 6) (iN (rv 5) ah))))) (ay (bf (bJ (bW (rv 7) ah) ah))) aL)
  (aj (bf (Dk (mM rst (rv 8) (mM rst (zt Gp (n .list) (ra1 (rv 4))) (mM rst (rv 9) (mM rst (rv 2) Dj))))))
  (aj (iL (rv 1) ah (iN (aJ (ak (rv 1) ah) ah) (eS ah (zt Fa (n .int) (ra1 (jO qV (bp _) (rv 5) ah))))))
  (aj (bf (zd B .t_ (ag (rv 0) (ag (rv 1) (ag (rv 10) (ra1 ah))))))
  (aj (aY (RW.rt (gS (Lf hu (rv 11) (aK du)) (gj (Lf hu (bJ (bW (rv 7) ah) ah) ah)))) (ay (bf (aJ (rv 11) (zd B .t_ (ag (rv 0) (ag (rv 1) (ag (rv 10) (ra1 ah)))))))) aL)
  (aj (bf (ak (rv 2) (bJ (aJ (bW (rv 7) ah) (rv 6)) ah)))
  (aj (aY (IC 4 (bh (zB hu) (by with_unfolding_all rfl) (rv 12) (gq (M:=["_law_piece"]) (cS.of (by kernel_rfl)) (cV (rv 4)) (fun _ _=>iM) (fun _ _=>(ak (rv 0) ah))))) (ay (bf (ak (fE (ag rst (ag rst (ag rst (ag rst (ag rst (ag rst (ag rst (ra1 rst))))))))) (rv 6)))) aL)
  (aj (aY (IC 4 (bh (zB hu) (by with_unfolding_all rfl) (rv 12) (gq (M:=["_law_piece"]) (cS.of (by kernel_rfl)) (cV (rv 4)) (fun _ _=>iM) (fun _ _=>(ak (rv 0) ah))))) (ay (bf (aJ (rv 12) rst))) aL)
  (aj (bV (iZ iK PySem.F.plainAttrs_list PySem.F.slot_list_append PySem.F.type_list_append eE (rv 3) (ra1 (zd B .Lq (ag (rv 3) (ra1 (aK (ag rst (ag (rv 12) (ag (rv 8) (ag (rv 9) (ra1 (zc B .K4 (ra1 (rv 11)))))))))))))))
  (ay (bV (iZ iK PySem.F.plainAttrs_list PySem.F.slot_list_append PySem.F.type_list_append eE (rv 4) (ra1 (aK (ag (rv 12) (ag (zl (n .len) (rv 8)) (ra1 (rv 9))))))))))))))))))))))
  (zr (zt fy (n .tuple) (ra1 (rv 3))))))))
theorem uO:RR Y true k .A_ (je (F k) (X_ k)):=rz T fun X Y _ _ _ B hu n=>(aj (Dh (re Y) (zh B .k_ (ra1 (rv 0))) (fun _=>(zr rA)) rfl Y.MF)
  (zr rA))
theorem AS:RR Y true k .joined (nE (F k) (X_ k)):=rz T fun X Y _ _ _ B hu n=>(aj (bf (ak (rv 0) (gD ah)))
  (aj (bf jM)
  (aj (zf (cV (ak (rv 1) ah)) bq (ay (gO (rv 2) (rv 3) (aK (ra1 (rv 3))))))
  (zr (zo B .b_ (zk B .d8 (ra1 (rv 0))) (ag (ak (rv 1) ah) (ra1 (aK (ag (mR (rv 2)) (ra1 cW))))))))))
theorem uP:RR Y true k .v5 (gZ (F k)):=rz T fun X Y _ _ _ B hu n=>(aj (aY (bh th (bp _) (rv 1) (zl (n .len) (rv 0))) (zr (ak (rv 0) (rv 1))) aL)
  (zr ah))
theorem oK:RR Y true k .j_ (eA (F k) (L k)):=rz T fun X Y _ _ _ B hu n=>(aj (bf (zt Dy (n .list) (ra1 (rv 1))))
  (aj (zf (cV rst) bq (ay (zf (cV (aK (ag (aJ (rv 4) rst) (ra1 (aJ rst (rv 4)))))) bq (ay (aY (bh (oX hu) (by with_unfolding_all rfl) (rv 5) (rv 3)) (ay (bV (iZ iK PySem.F.plainAttrs_list PySem.F.slot_list_append PySem.F.type_list_append eE (rv 3) (ra1 (rv 5))))) aL)))))
  (aj (bf (bJ (rv 2) (zl (n .len) (rv 3))))
  (aj (bf (aJ (cZ (rv 3) (dY (rv 6)) gp) (cZ (rv 3) gp (dY (rv 6)))))
  (aj (aY (Lf hu (bJ (bW (rv 2) ah) ah) ah) (ay (bf (Dm (rv 3) (gD ah)))) aL)
  (aj (bf jM)
  (aj (bf (iw du))
  (aj (zf (mO rfl (n .enumerate) (ra1 (rv 0))) (mh rfl (df bq (df bq jK))) (aj (gO (rv 7) (ak (rv 10) ah) (ak (rv 3) (bJ (aJ (bW (rv 2) ah) (eS ah (rv 9))) ah)))
  (aj (aY (Lf hu (rv 9) (iN (zl (n .len) (rv 0)) ah)) (aj (bf (ak (rv 10) ah))
  (aj (ot (M:=["_law_name","_law_names_here"]) (cS.of (by kernel_rfl)) (cV (rv 3)) (fun _ _=>(sR (bh (oX (by exact hu)) (by with_unfolding_all rfl) (rv 0) (rv 1)))) (fun _ _=>(rv 0)) rfl rfl (by with_unfolding_all rfl))
  (ay (bf ah)))) (aj (bf (zt fy (n .tuple) (ra1 (cZ (rv 3) gp (dY (zl (n .len) (ak (rv 10) ah)))))))
  (aj (bf (rv 3))
  (ay (bf (zl (n .len) (rv 11)))))))
  (aj (bf (mR (uH rfl (n .dict) rfl (n .zip) (ag (ak (rv 10) ah) (ra1 (rv 11))))))
  (ay (bV (iZ iK PySem.F.plainAttrs_list PySem.F.slot_list_append PySem.F.type_list_append eE (rv 8) (ra1 (aK (ag rst (ag (ak (rv 7) (ak (rv 10) ah)) (ag (rv 11) (ag (ak (rv 10) ah) (ra1 (zd B .q_ (ag (ak (rv 10) ah) (ag (rv 14) (ag (mR (rv 12)) (ag (rv 13) (ra1 (rv 7)))))))))))))))))))))
  (zr (zt fy (n .tuple) (ra1 (rv 8))))))))))))
theorem uK:RR Y true k .k_ (jc (F k)):=rz T fun X Y _ _ _ B hu n=>(aj (bV (zc B .m7 (ra1 (rv 0))))
  (aj (bf (zc B .sized (ra1 (rv 0))))
  (aj (aY (RW.rt (gS (bh qV (bp _) (ak (rv 1) ah) (Vk Y.G_)) (gj (bh qV (bp _) (ak (rv 1) ah) (Vk Y.p7))))) (ay pT) aL)
  (zr (ak (ak (rv 0) (gD ah)) ah)))))
theorem AQ:RR Y true k .G3 (jB (F k)):=rz T fun X Y _ _ _ B hu n=>(aj (iL (rv 1) ah (aJ (ak (rv 1) ah) ah))
  (aj (bf (ak (rv 1) ah))
  (aj (bf (aJ (eS (eS ah (rv 2)) (rv 2)) (eS ah (rv 2))))
  (aj (aY (bh qV (bp _) (zl (n .len) (rv 0)) ah) (ay (bf (aJ (rv 3) (eS (ak (rv 0) (bJ (rv 2) (zl (n .len) (rv 0)))) (aJ ah (bW (rv 2) (zl (n .len) (rv 0)))))))) aL)
  (zr (bW (bJ (eS (rv 3) ah) ah) ah))))))
theorem zj:RR Y true k .t_ (lM (F k) (L k)):=rz T fun X Y _ _ _ B hu n=>(zr (zc B .K4 (ra1 (gq (M:=["_law_k","_law_cells","_law_spot","_law_at","_law_deep"]) (cS.of (by kernel_rfl)) (fS rfl (n .range) (ra1 (bJ (bW (zd B .G3 (ag (rv 0) (ra1 (rv 1)))) ah) ah))) (fun _ _=>iM) (fun _ _=>(zd B .G9 (ag (rv 1) (ag (rv 2) (ag (rv 3) (ra1 (rv 4)))))))))))
theorem Dp:RR Y true k .Lq (nB (F k) (L k)):=rz T fun X Y _ _ _ B hu n=>(aj (bf (iw (ra1 ah)))
  (aj (bV (zd B .C_ (ag (aJ (rv 0) (fE (ra1 (rv 1)))) (ag (ak (rv 1) ah) (ag (zl (n .len) (rv 0)) (ag cW (ag ah (ra1 (rv 2)))))))))
  (aj (aY (bh Kq (bp _) (ak (rv 2) ah) ah) (zr (rv 1)) aL)
  (zr (aJ (cZ (rv 1) gp (dY ah)) (aK (ra1 (zc B .K4 (ra1 (gq (M:=["_law_node"]) (cS.of (by kernel_rfl)) (cV (ak (rv 1) ah)) (fun _ _=>(sR (bh (zB (by exact hu)) (by with_unfolding_all rfl) (ak (rv 0) ah) (aK (ag rst (ag rst (ra1 rst))))))) (fun _ _=>(rv 0))))))))))))
theorem Do:RR Y true k .K4 (pj (F k)):=rz T fun X Y _ _ _ B hu n=>(aj (bf (iw du))
  (aj (zf (cV (rv 0)) bq (ay (aY (RW.rt (hZ (Lf hu (ak (rv 2) ah) rst) (hZ (bh (tf hu) (bp _) (rv 1) (fE du)) (ir (Lf hu (ak (ak (rv 1) (gD ah)) ah) rst))))) (ay (iL (rv 1) (gD ah) (aK (ag rst (ra1 (aJ (ak (ak (rv 1) (gD ah)) ah) (ak (rv 2) ah))))))) (ay (bV (iZ iK PySem.F.plainAttrs_list PySem.F.slot_list_append PySem.F.type_list_append eE (rv 1) (ra1 (rv 2))))))))
  (zr (zt fy (n .tuple) (ra1 (rv 1))))))
theorem wD:RR Y true k .q_ (ki (F k) (L k)):=rz T fun X Y _ _ _ B hu n=>(aj (bf (iw du))
  (aj (zf (cV (rv 0)) bq (aj (aY (Lf hu (ak (rv 6) ah) rst) (ay (bf (aK (ag rst (ag (zc B .i_ (ag (ak (rv 6) ah) (ra1 (rv 1)))) (ra1 (ak (rv 6) ah))))))) (ay (aY (Lf hu (ak (rv 6) ah) rst) (aj (ou (M:=["_law_k","_law_scope","_law_every","_law_level","_law_anew","_law_node"]) (cS.of (by kernel_rfl)) (cV (aK (ag ah (ra1 ah)))) (fun _ _=>iM) (fun _ _=>(zd B .q_ (ag (ak (rv 5) (rv 0)) (ag (rv 1) (ag (rv 2) (ag (rv 3) (ra1 (rv 4)))))))) rfl rfl (by with_unfolding_all rfl))
  (ay (bf (aK (ag rst (ag (zc B .i_ (ag (ak (rv 6) ah) (ra1 (rv 1)))) (ag (ak (rv 7) ah) (ra1 (ak (rv 7) ah))))))))) (ay (aY (Lf hu (ak (rv 6) ah) rst) (aj (bf (zt mW (n .dict) (ra1 (rv 1))))
  (aj (gO (rv 8) (ak (rv 6) ah) (ak (rv 2) (rv 3)))
  (aj (bf (zd B .q_ (ag (ak (rv 6) ah) (ag (mR (rv 8)) (ag (rv 2) (ag (aJ (rv 3) ah) (ra1 (rv 4))))))))
  (ay (bf (aK (ag rst (ag (ak (rv 2) (rv 3)) (ag (zc B .i_ (ag (ak (rv 6) ah) (ra1 (rv 1)))) (ag (rv 9) (ra1 (ak (rv 6) ah)))))))))))) (ay (aY (Lf hu (ak (rv 6) ah) rst) (ay (bf (aK (ag rst (ra1 (zt fy (n .tuple) (ra1 (gq (M:=["_law_path","_law_scope"]) (cS.of (by kernel_rfl)) (cV (ak (rv 6) ah)) (fun _ _=>iM) (fun _ _=>(zc B .i_ (ag (rv 0) (ra1 (rv 1))))))))))))) (ay (aY (Lf hu (ak (rv 6) ah) rst) (ay (bf (zd B .o8 (ag (rv 6) (ag (rv 1) (ag (rv 2) (ag (rv 3) (ra1 (rv 4))))))))) aL)))))))))
  (ay (bV (iZ iK PySem.F.plainAttrs_list PySem.F.slot_list_append PySem.F.type_list_append eE (rv 5) (ra1 (rv 6)))))))
  (zr (zt fy (n .tuple) (ra1 (rv 5))))))
theorem sV:RR Y true k .m7 (iD (F k) (L k)):=rz T fun X Y _ _ _ B hu n=>(aj (bf jM)
  (ay (zf (mO rfl (n .enumerate) (ra1 (rv 0))) (mh rfl (df bq (df bq jK))) (aj (bf (req hu (rv 2) (iN (zl (n .len) (rv 0)) ah)))
  (aj (aY (RW.rt (gS (bh (zB hu) (by with_unfolding_all rfl) (ak (rv 3) ah) (rv 1)) (gS (jh (zc B .v7 (ra1 (ak (rv 3) ah)))) (gj (RW.rt (hZ (jh (rv 4)) (ir (bh mu (bp _) (ak (rv 3) ah) cW)))))))) (ay pT) aL)
  (aj (bV (zd B .g_ (ag (ak (rv 3) ah) (ag (aK (ra1 (rv 2))) (ag (ak (rv 3) ah) (ag (ak (rv 3) ah) (ra1 (rv 1))))))))
  (ay (gO (rv 1) (ak (rv 3) ah) (rv 3)))))))))
theorem Dn:RR Y true k .sized (ph (F k) (L k)):=rz T fun X Y _ _ _ B hu n=>(aj (bf jM)
  (aj (zf (cV (rv 0)) bq (ay (gO (rv 1) (ak (rv 2) ah) (zd B .h_ (ag (ak (rv 2) ah) (ra1 (rv 1)))))))
  (aj (bf (ak (rv 1) (ak (ak (rv 0) (gD ah)) ah)))
  (zr (aK (ag (ak (rv 3) ah) (ra1 (ak (rv 3) ah))))))))
theorem uN:RR Y true k .G9 (gY (F k) (L k)):=rz T fun X Y _ _ _ B hu n=>(aj (bf (bW (zd B .G3 (ag (rv 0) (ra1 (rv 1)))) ah))
  (aj (bf (bJ (rv 4) ah))
  (aj (bf (bW (rv 4) ah))
  (aj (aY (RW.rt (gS (bh qV (bp _) (ak (rv 1) ah) (ak (rv 1) ah)) (gj (bh th (bp _) (rv 3) ah)))) (ay (bf (bJ (rv 5) ah))) aL)
  (aj (aY (RW.rt (hZ (bh qV (bp _) (rv 5) ah) (ir (bh th (bp _) (rv 5) ah)))) (zr (zd B .G8 (ag (rv 0) (ag (rv 1) (ag (rv 2) (ag (rv 3) (ra1 (rv 6)))))))) aL)
  (aj (aY (RW.rt (hZ (Lf hu (rv 5) ah) (hZ (bh mu (bp _) (ak (rv 2) rst) cW) (ir (RW.rt (gS (Lf hu (ak (rv 2) rst) ah) (gj (bh (tf hu) (bp _) (ak (rv 2) rst) (aK du))))))))) (zr (aK (ag rst (ra1 (zd B .u6 (ag (rv 0) (ag (rv 1) (ag (rv 2) (ra1 (ak (rv 2) rst)))))))))) aL)
  (aj (aY (RW.rt (gS (Lf hu (rv 5) ah) (gS (Lf hu (rv 5) ah) (gj (Lf hu (ak (rv 2) rst) (aK du)))))) (zr (aK (ag rst (ra1 (ak (fE (ag rst (ag rst (ag rst (ag rst (ag rst (ra1 rst))))))) (bJ (rv 6) ah)))))) aL)
  (aj (bf (zc B .z_ (ag (zd B .G3 (ag (rv 0) (ra1 (rv 1)))) (ra1 (rv 2)))))
  (aj (aY (bh th (bp _) (rv 5) ah) (zr (aK (ag rst (ag (rv 7) (ra1 (ak (fE (ag rst (ag rst (ag rst (ag rst (ra1 rst)))))) (bJ (rv 6) ah))))))) aL)
  (aj (aY (bh th (bp _) (rv 5) ah) (aj (bf (ak (ak (rv 2) rst) (bJ (rv 6) ah)))
  (aj (bf (zd B .t_ (ag (rv 0) (ag (rv 1) (ag (zc B .G5 (ag (rv 2) (ra1 (aK (ra1 (rv 8)))))) (ra1 (iN (rv 3) ah)))))))
  (zr (aK (ag rst (ag (rv 8) (ag (rv 7) (ag (rv 9) (ra1 (ak (fE (ag rst (ag rst (ra1 rst)))) (bJ (bW (rv 6) ah) ah))))))))))) aL)
  (aj (bf (zd B .t_ (ag (rv 0) (ag (rv 1) (ag (rv 2) (ra1 (iN (rv 3) ah)))))))
  (zr (aK (ag rst (ag (rv 7) (ag (rv 10) (ra1 (zd B .t_ (ag (rv 0) (ag (rv 1) (ag (rv 2) (ra1 (iN (rv 3) ah)))))))))))))))))))))))
theorem AP:RR Y true k .C_ (vL (F k) (L k)):=rz T fun X Y _ _ _ B hu n=>(ay (zf (cV (rv 1)) bq (aj (iL (rv 5) ah (iN (ak (rv 5) ah) ah))
  (aj (aY (RW.rt (gS (bh th (bp _) (ak (rv 5) ah) ah) (gj (bh qV (bp _) (rv 4) ah)))) (aj (iL (rv 5) ah (gD ah))
  (ay Di)) aL)
  (ay (aY (Lf hu (ak (rv 6) ah) rst) (ay (bV (zd B .C_ (ag (rv 0) (ag (ak (rv 6) ah) (ag (rv 2) (ag (rv 3) (ag (aJ (rv 4) ah) (ra1 (rv 5)))))))))) (ay (aY (Lf hu (ak (rv 6) ah) rst) (ay (bV (zd B .C_ (ag (rv 0) (ag (aJ (ak (rv 6) ah) (ak (rv 6) ah)) (ag (rv 2) (ag (rv 3) (ag (aJ (rv 4) ah) (ra1 (rv 5)))))))))) (ay (aY (Lf hu (ak (rv 6) ah) rst) (aj (bf (iZ iK PySem.F.plainAttrs_list PySem.F.slot_list_index PySem.F.type_list_index zK (gq (M:=["_law_one_here"]) (cS.of (by kernel_rfl)) (cV (rv 0)) (fun _ _=>iM) (fun _ _=>(ak (rv 0) ah))) (ra1 (ak (rv 6) ah))))
  (aj (bf (mQ (bh oz (bp _) (ak (rv 6) ah) cW) cW (aK (ag (ak (rv 6) ah) (ag (rv 2) (ra1 (rv 3)))))))
  (ay (bV (zd B .C_ (ag (rv 0) (ag (ak (ak (rv 0) (rv 7)) ah) (ag (rv 7) (ag (rv 8) (ag (aJ (rv 4) ah) (ra1 (rv 5)))))))))))) (ay (aY (RW.rt (hZ (Lf hu (ak (rv 6) ah) rst) (ir (bh mu (bp _) (rv 3) cW)))) (ay (bV (zd B .C_ (ag (rv 0) (ag (ak (rv 3) ah) (ag (ak (rv 3) ah) (ag (ak (rv 3) ah) (ag (aJ (rv 4) ah) (ra1 (rv 5)))))))))) aL))))))))))))
theorem wG:RR Y true k .H7 (eX (F k)):=rz T fun X Y _ _ _ B hu n=>(ay (aY (RW.rt (hZ (Lf hu (ak (rv 1) ah) rst) (hZ (jh (rv 0)) (ir (Lf hu (ak (ak (rv 0) (gD ah)) ah) rst))))) (ay (iL (rv 0) (gD ah) (aK (ag rst (ra1 (aJ (ak (ak (rv 0) (gD ah)) ah) (ak (rv 1) ah))))))) (ay (bV (iZ iK PySem.F.plainAttrs_list PySem.F.slot_list_append PySem.F.type_list_append eE (rv 0) (ra1 (rv 1)))))))
theorem oJ:RR Y true k .i_ (fO (F k)):=rz T fun X Y _ _ _ B hu n=>(zr (aJ (aK (ra1 (ak (rv 1) (ak (rv 0) ah)))) (cZ (rv 0) (dY ah) gp)))
theorem qe:RR Y true k .o8 (dQ (F k) (L k)):=rz T fun X Y _ _ _ B hu n=>(aj (bf (zt fy (n .tuple) (ra1 (gq (M:=["_law_path","_law_scope"]) (cS.of (by kernel_rfl)) (cV (ak (rv 0) ah)) (fun _ _=>iM) (fun _ _=>(zc B .i_ (ag (rv 0) (ra1 (rv 1)))))))))
  (aj (aY (bh oz (bp _) (ak (rv 0) ah) cW) (zr (aK (ag rst (ag (ak (rv 4) (ak (rv 0) ah)) (ag (rv 5) (ag cW (ra1 cW))))))) aL)
  (aj (bf (zt fy (n .tuple) (ra1 (cZ (rv 2) (dY (rv 3)) (dY (aJ (rv 3) (zl (n .len) (ak (rv 0) ah))))))))
  (aj (bf (zt mW (n .dict) (ra1 (rv 1))))
  (aj (bV (Gf (rv 7) (uH rfl (n .dict) rfl (n .zip) (ag (ak (rv 0) ah) (ra1 (rv 6))))))
  (zr (aK (ag rst (ag (ak (rv 4) (ak (rv 0) ah)) (ag (rv 5) (ag (rv 6) (ra1 (zd B .q_ (ag (ak (rv 0) ah) (ag (mR (rv 7)) (ag (rv 2) (ag (aJ (rv 3) (zl (n .len) (rv 6))) (ra1 (rv 4)))))))))))))))))))
theorem sU:RR Y true k .g_ (iC (F k) (L k)):=rz T fun X Y _ _ _ B hu n=>(ay (zf (mO rfl (n .enumerate) (ra1 (rv 0))) (mh rfl (df bq (df bq jK))) (aj (bf (aJ (rv 1) (aK (ra1 (rv 5)))))
  (aj (aY (jh (zd B .E_ (ag (rv 6) (ag (rv 2) (ag (rv 3) (ra1 (rv 4))))))) (ay pT) aL)
  (ay (zf (cV (zc B .m8 (ra1 (rv 6)))) bq (ay (bV (zd B .g_ (ag (ak (rv 8) ah) (ag (aJ (rv 7) (ak (rv 8) ah)) (ag (aJ (rv 2) (ak (rv 8) ah)) (ag (rv 3) (ra1 (rv 4)))))))))))))))
theorem uQ:RR Y true k .v7 (jf (F k)):=rz T fun X Y _ _ _ B hu n=>(zr (jO th (bp _) (pV rfl (n .len) rfl (n .set) (rv 0)) (zl (n .len) (rv 0))))
theorem oF:RR Y true k .h_ (fL (F k) (L k)):=rz T fun X Y _ _ _ B hu n=>(aj (bf (glV Y.Ld))
  (aj (zf (cV (rv 0)) bq (ay (bf (zc B .v8 (ag (rv 2) (ra1 (zd B .n_ (ag (rv 3) (ra1 (rv 1))))))))))
  (zr (rv 2))))
theorem uM:RR Y true k .z_ (jd (F k)):=rz T fun X Y _ _ _ B hu n=>(aj (bf (zt fy (n .tuple) (ra1 (gq (M:=["_law_k","_law_at","_law_n"]) (cS.of (by kernel_rfl)) (fS rfl (n .range) (ra1 (ak (fE (ag ah (ag ah (ag ah (ag ah (ag ah (ra1 ah))))))) (bJ (bW (rv 0) ah) ah)))) (fun _ _=>iM) (fun _ _=>(ak (ak (rv 1) rst) (bJ (aJ (bW (rv 2) ah) (eS ah (rv 0))) ah)))))))
  (zr (aJ (aK (ra1 (ak (ak (rv 1) rst) (bJ (rv 0) (zl (n .len) (ak (rv 1) rst)))))) (rv 2))))
theorem uL:RR Y true k .G8 (fU (F k) (L k)):=rz T fun X Y _ _ _ B hu n=>(aj (ou (M:=["_law_piece","_law_at"]) (cS.of (by kernel_rfl)) (cV (ak (rv 2) rst)) (fun _ _=>(sR (RW.rt (gS (Lf hu (ak (rv 0) ah) ah) (gj (bh (tf (by exact hu)) (bp _) (ak (rv 1) rst) (aK du))))))) (fun _ _=>(rv 0)) rfl rfl (by with_unfolding_all rfl))
  (aj (aY (Lf hu (rv 5) (fE du)) (zr (aK (ag rst (ra1 rst)))) aL)
  (aj (Gd (mh rfl (df bq (df bq (df bq jK)))) (ak (rv 5) (bJ (rv 4) (zl (n .len) (rv 5)))))
  (aj (bf (zd B .u6 (ag (rv 0) (ag (rv 1) (ag (rv 2) (ra1 (rv 7)))))))
  (aj (aY (bh oz (bp _) (rv 8) cW) (zr (aK (ag rst (ag (rv 6) (ag (rv 9) (ag cW (ra1 cW))))))) aL)
  (aj (bf (bJ (bW (rv 4) ah) ah))
  (aj (bf (zt fy (n .tuple) (ra1 (cZ (ak (rv 2) rst) (dY (rv 10)) (dY (aJ (rv 10) (rv 8)))))))
  (zr (aK (ag rst (ag (rv 6) (ag (rv 9) (ag (rv 11) (ra1 (zd B .t_ (ag (rv 0) (ag (rv 1) (ag (zc B .G5 (ag (rv 2) (ra1 (rv 11)))) (ra1 (iN (rv 3) ah))))))))))))))))))))
theorem sX:RR Y true k .u6 (iE (F k) (L k)):=rz T fun X Y _ _ _ B hu n=>(zr (zt fy (n .tuple) (ra1 (gq (M:=["_law_k","_law_at","_law_cells","_law_spot"]) (cS.of (by kernel_rfl)) (fS rfl (n .range) (ra1 (rv 3))) (fun _ _=>iM) (fun _ _=>(zc B .z_ (ag (zd B .G3 (ag (rv 2) (ra1 (rv 3)))) (ra1 (rv 1)))))))))
theorem wA:RR Y true k .G5 (kh (F k)):=rz T fun X Y _ _ _ B hu n=>(aj (bf (zt mW (n .dict) (ra1 (rv 0))))
  (aj (gO (rv 2) rst (aJ (ak (rv 0) rst) (rv 1)))
  (zr (mR (rv 2)))))
theorem oH:RR Y true k .q9 (fN (F k) (X_ k)):=rz T fun X Y _ _ _ B hu n=>(aj (bf (ak (rv 1) ah))
  (aj (bf (ak (rv 2) ah))
  (zr (aK (ag (mR (zh B .m6 (ag (zt mW (n .dict) (ra1 (ak (rv 3) ah))) (ag (ak (rv 2) ah) (ag (rv 0) (ra1 (rv 1))))))) (ra1 (ak (rv 3) ah)))))))
theorem pY:RR Y true k .o7 (dO (F k) (X_ k)):=rz T fun X Y _ _ _ B hu n=>(aj (bf (mQ (bh oz (bp _) (ak (rv 0) ah) cW) cW (aK (ag (ak (rv 0) ah) (ag (ak (rv 0) ah) (ra1 (rv 2)))))))
  (zr (aK (ag (mR (zh B .m6 (ag jM (ag (ak (rv 1) ah) (ag (ak (rv 0) ah) (ra1 (rv 2))))))) (ra1 (rv 3))))))
theorem uJ:RR Y true k .j9 (jb (F k)):=rz T fun X Y _ _ _ B hu n=>(zr (aJ (ak (ak (rv 1) ah) (ak (rv 0) ah)) (cZ (rv 0) (dY ah) gp)))
theorem wE:RR Y true k .E_ (bX (F k)):=rz T fun X Y _ _ _ B hu n=>(aj (zf (cV (zc B .I_ (ra1 (rv 0)))) bq (ay (aY (bh (oX hu) (by with_unfolding_all rfl) (ak (rv 4) ah) (rv 1)) (zr rA) aL)))
  (aj (aY (Lf hu (ak (rv 0) ah) rst) (zr (xM (jO (oX hu) (by with_unfolding_all rfl) (ak (rv 0) ah) (rv 3)) (sS (zc B .o9 (ag (rv 0) (ra1 (ak (rv 3) (ak (rv 0) ah)))))))) aL)
  (aj (aY (Lf hu (ak (rv 0) ah) rst) (zr (xM (jO oz (bp _) (rv 2) cW) (sS (jO (tf hu) (bp _) (zl (n .len) (ak (rv 0) ah)) (rv 2))))) aL)
  (zr rA))))
theorem pZ:RR Y true k .m8 (bR (F k)):=rz T fun X Y _ _ _ B hu n=>(aj (aY (Lf hu (ak (rv 0) ah) rst) (zr (fE (ra1 (aK (ag (aK du) (ag (aK (ra1 (ak (rv 0) ah))) (ra1 (ak (rv 0) ah)))))))) aL)
  (aj (aY (Lf hu (ak (rv 0) ah) rst) (zr (fE (ag (aK (ag (aK (ra1 ah)) (ag (aK du) (ra1 (ak (rv 0) ah))))) (ra1 (aK (ag (aK (ra1 ah)) (ag (aK du) (ra1 (ak (rv 0) ah))))))))) aL)
  (aj (aY (RW.rt (hZ (Lf hu (ak (rv 0) ah) rst) (ir (bh mu (bp _) (ak (rv 0) ah) cW)))) (zr (fE (ra1 (aK (ag (aK du) (ag (ak (rv 0) ah) (ra1 (ak (rv 0) ah)))))))) aL)
  (zr (fE du)))))
theorem pX:RR Y true k .v8 (gB (F k)):=rz T fun X Y _ _ _ B hu n=>(zr (aK (ag (aJ (ak (rv 0) ah) (ak (rv 1) ah)) (ag (zb (Bl rfl) (n .max) (ag (ak (rv 0) ah) (ra1 (ak (rv 1) ah)))) (ag (aJ (ak (rv 0) ah) (ak (rv 1) ah)) (ra1 (zb (Bl rfl) (n .max) (ag (ak (rv 0) ah) (ra1 (ak (rv 1) ah))))))))))
theorem pW:RR Y true k .n_ (bn (F k) (L k)):=rz T fun X Y _ _ _ B hu n=>(aj (aY (Lf hu (ak (rv 0) ah) rst) (zr (zc B .m_ (ra1 (zd B .h_ (ag (ak (rv 0) ah) (ra1 (rv 1))))))) aL)
  (aj (aY (Lf hu (ak (rv 0) ah) rst) (zr (zc B .m_ (ra1 (zd B .h_ (ag (aJ (ak (rv 0) ah) (ak (rv 0) ah)) (ra1 (rv 1))))))) aL)
  (aj (aY (Lf hu (ak (rv 0) ah) rst) (zr (zc B .m_ (ra1 (zd B .n8 (ag (rv 0) (ra1 (rv 1))))))) aL)
  (aj (aY (Lf hu (ak (rv 0) ah) rst) (zr (aK (ag ah (ag ah (ag ah (ra1 ah)))))) aL)
  (zr (aK (ag ah (ag ah (ag ah (ra1 ah))))))))))
theorem oG:RR Y true k .q8 (fM (F k)):=rz T fun X Y _ _ _ B hu n=>(aj (bf (zt mW (n .dict) (ra1 (ak (rv 2) ah))))
  (aj (gO (rv 3) (rv 0) (rv 1))
  (zr (aK (ag (mR (rv 3)) (ra1 (ak (rv 2) ah)))))))
theorem wz:RR Y true k .I_ (dH (F k)):=rz T fun X Y _ _ _ B hu n=>(aj (aY (Lf hu (ak (rv 0) ah) rst) (zr (aK du)) aL)
  (aj (aY (Lf hu (ak (rv 0) ah) rst) (zr (aK (ra1 (ak (rv 0) ah)))) aL)
  (aj (aY (Lf hu (ak (rv 0) ah) rst) (zr (ak (rv 0) ah)) aL)
  (aj (aY (Lf hu (ak (rv 0) ah) rst) (zr (ak (rv 0) ah)) aL)
  (zr (aK (ra1 (ak (rv 0) ah))))))))
theorem qf:RR Y true k .o9 (bG (F k)):=rz T fun X Y _ _ _ B hu n=>(aj (aY (bh (tf hu) (bp _) (zl (n .len) (ak (rv 0) ah)) (zl (n .len) (ak (rv 1) ah))) (zr rA) aL)
  (aj (aY (RW.rt (gS (bh oz (bp _) (ak (rv 1) ah) cW) (gj (bh oz (bp _) (ak (rv 0) ah) cW)))) (zr (xM (jO mu (bp _) (ak (rv 1) ah) cW) (sS (jO mu (bp _) (ak (rv 0) ah) cW)))) aL)
  (zr (xM (jO (tf hu) (bp _) (zl (n .len) (ak (rv 0) ah)) (ak (rv 1) ah)) (sS (zc B .v7 (ra1 (ak (rv 0) ah))))))))
theorem qR:RR Y true k .m_ (eF (F k)):=rz T fun X Y _ _ _ B hu n=>(aj (bf (mQ (jh (ak (rv 0) ah)) (aJ (ak (rv 0) ah) ah) ah))
  (zr (aK (ag (aJ (ak (rv 0) ah) ah) (ag (aJ (ak (rv 0) ah) ah) (ag (ak (rv 0) ah) (ra1 (rv 1))))))))
theorem qS:RR Y true k .n8 (bH (F k) (L k)):=rz T fun X Y _ _ _ B hu n=>(aj (bf (ak (rv 1) (ak (rv 0) ah)))
  (aj (bf (ak (rv 2) ah))
  (aj (aY (RW.rt (gS (bh oz (bp _) (ak (rv 0) ah) cW) (gj (Lf hu (rv 3) ah)))) (zr (aK (ag (ak (rv 2) ah) (ag (ak (rv 2) ah) (ag ah (ra1 ah)))))) aL)
  (aj (bf (zd B .h_ (ag (ak (rv 0) ah) (ra1 (rv 1)))))
  (aj (bf (mQ (jh (ak (rv 4) ah)) (aJ (ak (rv 2) ah) (ak (rv 4) ah)) ah))
  (zr (aK (ag (aJ (ak (rv 2) ah) (eS (rv 3) (ak (rv 4) ah))) (ag (zb (Bl rfl) (n .max) (ag (ak (rv 2) ah) (ra1 (aJ (ak (rv 2) ah) (ak (rv 4) ah))))) (ag (eS (rv 3) (ak (rv 4) ah)) (ra1 (rv 5))))))))))))
theorem CG:Tb Y (k+1):=by
 refine⟨fun f=>?_,fun f=>?_,fun f=>?_,fun f h=>?_⟩
 ·cases f with
  |law=>exact fp (IE T)
  |I9=>exact fp (zi T)
  |A_=>exact fp (uO T)
  |joined=>exact fp (AS T)
  |v5=>exact fp (uP T)
  |j_=>exact fp (oK T)
  |k_=>exact fp (uK T)
  |K4=>exact fp (Do T)
  |m7=>exact fp (sV T)
  |sized=>exact fp (Dn T)
  |i_=>exact fp (oJ T)
  |v7=>exact fp (uQ T)
  |z_=>exact fp (uM T)
  |G5=>exact fp (wA T)
  |q9=>exact fp (oH T)
  |o7=>exact fp (pY T)
  |j9=>exact fp (uJ T)
  |m8=>exact fp (pZ T)
  |v8=>exact fp (pX T)
  |q8=>exact fp (oG T)
  |I_=>exact fp (wz T)
  |o9=>exact fp (qf T)
  |m_=>exact fp (qR T)
  |_=>exact .bad
 ·cases f with
  |u_=>exact fl (qT T)
  |G3=>exact fl (AQ T)
  |t_=>exact fl (zj T)
  |Lq=>exact fl (Dp T)
  |q_=>exact fl (wD T)
  |G9=>exact fl (uN T)
  |C_=>exact fl (AP T)
  |H7=>exact fl (wG T)
  |o8=>exact fl (qe T)
  |g_=>exact fl (sU T)
  |h_=>exact fl (oF T)
  |G8=>exact fl (uL T)
  |u6=>exact fl (sX T)
  |E_=>exact fl (wE T)
  |n_=>exact fl (pW T)
  |n8=>exact fl (qS T)
  |_=>exact .bad
 ·cases f with
  |k_=>exact fg (sO T)
  |b_=>exact fh (jI T)
  |d8=>exact fi (mf T)
  |m7=>exact fg (qQ T)
  |f9=>exact fh (nM T)
  |g_=>exact fg (qP T)
  |d9=>exact fh (ku T)
  |m6=>exact fh (mL T)
  |_=>exact .bad
 ·cases f with
  |_=>cases h
end
theorem oj{S:SC}(Y:Sys S):∀k,Tb Y k
 |0=>⟨fun _=>.bad,fun _=>.bad,fun _=>.bad,fun _ _=>.bad⟩
 |k+1=>CG (oj Y k)
def W7(K:W.Frag)(C:Nat→Addr):Fn→Addr→Prop
 |.b_,a=>qL K (C 602) "nodes_put_in" a
 |.d8,a=>qL K (C 602) "__init__" a
 |.f9,a=>qL K (C 602) "put_in" a
 |.j7,a=>qL K (C 2) "__init__" a
 |.d9,a=>qL K (C 602) "loop_put_in" a
 |f,a=>W.nsIn K mainGlobals (oM f)=some (some (.ref a))
theorem Xl{us:List Value}(h:us.length=0):us= []:=List.eq_nil_of_length_eq_zero h
theorem R9{n:Nat}{us:List Value}(h:us.length=n+1):∃a r,us=a::r∧r.length=n:=by
 cases us with
 |nil=>cases h
 |cons a r=>exact⟨a,r,rfl,by simpa using h⟩
theorem Xk{us:List Value}(h:us.length=1):∃a,us= [a]:=by obtain⟨a,r,rfl,z⟩:=R9 h;obtain rfl:=Xl z;exact⟨a,rfl⟩
theorem Xj{us:List Value}(h:us.length=2):∃a b,us= [a,b]:=by obtain⟨a,r,rfl,z⟩:=R9 h;obtain⟨b,rfl⟩:=Xk z;exact⟨a,b,rfl⟩
theorem Xi{us:List Value}(h:us.length=3):∃a b c,us= [a,b,c]:=by obtain⟨a,r,rfl,z⟩:=R9 h;obtain⟨b,c,rfl⟩:=Xj z;exact⟨a,b,c,rfl⟩
theorem Xh{us:List Value}(h:us.length=4):∃a b c d,us= [a,b,c,d]:=by obtain⟨a,r,rfl,z⟩:=R9 h;obtain⟨b,c,d,rfl⟩:=Xi z;exact⟨a,b,c,d,rfl⟩
theorem Xg{us:List Value}(h:us.length=5):∃a b c d e,us= [a,b,c,d,e]:=by obtain⟨a,r,rfl,z⟩:=R9 h;obtain⟨b,c,d,e,rfl⟩:=Xh z;exact⟨a,b,c,d,e,rfl⟩
theorem Xf{us:List Value}(h:us.length=6):∃a b c d e f,us= [a,b,c,d,e,f]:=by obtain⟨a,r,rfl,z⟩:=R9 h;obtain⟨b,c,d,e,f,rfl⟩:=Xg z;exact⟨a,b,c,d,e,f,rfl⟩
theorem YQ{us:List Value}(h:us.length=7):∃a b c d e f g,us= [a,b,c,d,e,f,g]:=by obtain⟨a,r,rfl,z⟩:=R9 h;obtain⟨b,c,d,e,f,g,rfl⟩:=Xf z;exact⟨a,b,c,d,e,f,g,rfl⟩
theorem fq{K:W.Frag}{Ad:Addr→Prop}{nm ql:Str}{st:Stmt}{ps:List Str}{f:Addr}{od an:Option Addr}{sl:Array (Option Value)}{oc kV dc pm cd ct:Value}(a:Ad f)(l:K.lookup f=some ⟨oc,od,.func (W.fnOf nm ql (tZ st) (iB st) (aV st) .none kV dc pm an cd ct),sl⟩)(c:W.codeIn K cd ql=true)(k:W.keepIn K (.ref f)=true)(b:∀(kV doc pm:Value)(an:Option Addr)(SX ct:Value)(us:List Value),us.length=ps.length→bindArgs (W.fnOf nm ql (tZ st) (iB st) (aV st) .none kV doc pm an SX ct) ⟨us,[]⟩=pure (ps.zip us)):∃a fd,Ad a∧S8 K nm ql st a fd∧jC K fd ps []:=⟨f,_,a,⟨⟨_,_,_,_,_,_,_,_,_,rfl,l,c⟩,k⟩,fun s us _ h=>by rw[List.append_nil]at h ⊢;exact .of_eq (b _ _ _ _ _ _ us h)⟩
theorem Ib{l:W.OpenLaw}{w:World}{K:W.Frag}{h:Heap}{mg:Str→Option Value}{fa:Addr}(X:K.In h)(G:h.Ns mainGlobals mg)(hfa:mg "law"=some (.ref fa))
  {KY:Addr}
  {Le:Addr}
  {H8:Addr}
  {Ml:Tok}
  {La:Tok}
  {Ow:Addr} {Qw:Nat} {Ph:Tok} {Pg:Tok} {Pb:Tok} {Pa:Tok}
  (Ny:W.nsIn K mainGlobals "Joiner"=some (some (.ref KY)))
  (J4:Cls K KY)
  (Nr:W.makesIn K KY=true)
  (Nu:W.keepIn K (.ref KY)=true)
  (K_:W.findIn K (.ref KY) "loops"=some none)
  (K7:W.findIn K (.ref KY) "pieces"=some none)
  (M4:W.nsIn K mainGlobals "TooMany"=some (some (.ref Le)))
  (M5:W.nsIn K mainGlobals "BadName"=some (some (.ref H8)))
  (Mq:Km K H8)
  (K6:W.excIn K Le [.type "ValueError",.type "Exception",.type "BaseException",.type "object"] "ValueError.__new__"=true)
  (B_:W.exmOne K (.ref Le) (.ref Le)=some true)
  (Mw:pC K H8 [.type "ValueError",.type "Exception",.type "BaseException",.type "object"] "ValueError.__new__"=true)
  (Mv:W.keepIn K (.ref H8)=true)
  (Mu:FK K H8=true)
  (Mt:W.findIn K (.ref H8) "__setattr__"=some (some (.builtin "object.__setattr__")))
  (Ms:W.findIn K (.ref H8) "at"=some none)
  (Mr:W.hasDictIn K H8=true)
  (hf:∀f:Fn,∃a fd,W7 K (fun i=>match i with|602=>KY|2=>H8|_=>0) f a∧S8 K (oM f) (wH f) (qN f) a fd∧jC K fd (kK f) [])
  (G_:W.nsIn K mainGlobals "MOST_PUT_IN"=some (some (.int 400 Ml)))
  (p7:W.nsIn K mainGlobals "MOST_PUT_IN_DEPTH"=some (some (.int 24 La)))
  (Ld:W.nsIn K mainGlobals "NOTHING"=some (some (.ref Ow)))
  (Nv:K.lookup Ow=some { cls:=.type "tuple",data:=.seq #[.int 0 Ph,.int 0 Pg,.int 0 Pb,.int 0 Pa] Qw })
  (hn:∀i:Nt,W.nsIn K mainGlobals (Gv i)=some none):
  ∃(fd:FuncData)(T:Nat→Option Addr),(∀(s:Shared)(u:Value),BindsTo s fd ⟨[u],[]⟩ [("_law_script",u)])∧Q7 ⟨l.prog,w,K,mg,h,T⟩ (dl 100) fa fd ["_law_script"] (F 100 .law):=by
 let Y:Sys ⟨l.prog,w,K,mg,h,fun i=>match i with|1=>some Le|2=>some H8|602=>some KY|_=>none⟩:={
  adr:=fun f=>(hf f).choose
  fd:=fun f=>(hf f).choose_spec.choose
  ok:=fun f=>(hf f).choose_spec.choose_spec.2.1
  bi:=fun f=>(hf f).choose_spec.choose_spec.2.2
  m:=fun f hp=>W.mg_of X G (by have q:=(hf f).choose_spec.choose_spec.1;cases f<;>first|exact q|cases hp)
  n:=fun i=>W.mg_none_of X G (hn i)
  O5:=fun i=>match i with|1=>Le|2=>H8|602=>KY|_=>0
  Mz:=rfl
  MF:=W.mg_of X G M4
  N8:=rfl
  Oa:=W.mg_of X G M5
  Lb:=rfl
  Oq:=W.mg_of X G Ny
  K6:=K6
  B_:=B_
  N7:=⟨.inl Mw,(hf .j7).choose_spec.choose_spec.1.1,(hf .j7).choose_spec.choose_spec.1.2,Mv,Mu,Mt,Ms,Mr,Mq⟩
  G_:=⟨Ml,(W.mg_of X G G_).trans (rfl)⟩
  p7:=⟨La,(W.mg_of X G p7).trans (rfl)⟩
  Ld:=⟨_,_,_,W.mg_of X G Ld,X _ _ Nv,by show 4≤sizeLine;decide,fun _ _=>(.cons (.int _ _) (.cons (.int _ _) (.cons (.int _ _) (.cons (.int _ _) .nil))))⟩
  J4:=J4
  Om:=fun f hf=>by
   simp only[Qi,List.mem_cons,List.not_mem_nil,or_false]at hf;rcases hf with rfl|rfl
   ·exact K_
   ·exact K7
  Oo:=⟨Nr,(hf .d8).choose_spec.choose_spec.1.1,(hf .d8).choose_spec.choose_spec.1.2,Nu⟩
  J_:=(hf .b_).choose_spec.choose_spec.1
  Lp:=(hf .f9).choose_spec.choose_spec.1
  K3:=(hf .d9).choose_spec.choose_spec.1 }
 have e:=(Y.m .law rfl).symm.trans hfa;obtain rfl:Y.adr .law=fa:=by injection e with e1;injection e1
 exact⟨Y.fd .law,_,fun s v=>by obtain⟨_,_,_,_,_,_,_,_,_,e,_⟩:=(Y.ok .law).ex;rw[e];exact .of_eq rfl,(oj Y 100).p .law⟩
end Ly
namespace L3
open PySem L2
theorem Res.Nj{α β:Type}(a:α)(h:List PO)(k:α→List PO→Res β):(Res.ok a h).bind k=k a h:=rfl
@[simp] theorem Res.Nk{α β:Type}(a:PV)(h:List PO)(k:α→List PO→Res β):(Res.exc a h).bind k=.exc a h:=rfl
theorem EJ{α:Type}(a:α)(h:List PO):(Res.ok a h).calm=.ok a h:=rfl
theorem vk{n:Nat}{p:PV}(h:p.pure=true):Qd n p=true:=by cases p<;>first|exact h|(simp[PV.pure]at h)
theorem yW(ls:List (List Nat)):fC (ls.map PV.str)=some ls:=by
 induction ls with
 |nil=>rfl
 |cons l r ih=>simp[fC,ih]
theorem fF{α:Type}{xs:List α}{j:Int}{v:α}(h0:0≤j)(h:xs[j.toNat]? =some v):LQ xs j=some v:=by have:=(List.getElem?_eq_some_iff.mp h).1;simp only[LQ,Qe,if_pos h0,if_pos (show j<xs.length by omega)];exact h
theorem uh{α:Type}(xs:List α)(v:α):LQ (xs++ [v]) (-1)=some v:=by
 have e:(-1+((xs.length+1:Nat):Int)).toNat=xs.length:=by omega
 unfold LQ Qe;rw[if_neg (by decide),if_pos (by simp only[List.length_append,List.length_singleton];omega),List.length_append,List.length_singleton,e];simp
section
variable(ρ:Ev)(h:List PO)
@[simp] theorem Hz(i:Nat):ai i ρ h=match ρ[i]? with|some (some p)=>.ok (am h p) h|_=>.bad:=rfl
theorem KM(v:PV):cK v ρ h=.ok v h:=rfl
theorem HA:au ρ h=.ok [] h:=rfl
theorem Cn:jx ρ h=.ok none h:=rfl
theorem Hy:dD ρ h=.ok true h:=rfl
theorem EA:cD ρ h=.nx ρ h:=rfl
@[simp] theorem eK(f g:Sx):aB f g ρ h=match f ρ h with|.nx ρ1 h1=>g ρ1 h1|.rt v h1=>.rt v h1|.bk ρ1 h1=>.bk ρ1 h1|.ct ρ1 h1=>.ct ρ1 h1|.exc v h1=>.exc v h1|.bad=>.bad:=rfl
theorem Cm:AI ρ h=.rt .non h:=rfl
theorem zV:pP ρ h=.bad:=rfl
theorem Co(g:Gx)(body:Sx):aR g body [] ρ h=.nx ρ h:=rfl
theorem HB(i:Nat)(p:PV):D_ i p ρ=some (ρ.set i (some p)):=rfl
end
section
variable(h:List PO)
theorem HJ(i:Int):am h (.int i)=.int i:=rfl
theorem Kf(i:Bool):am h (.bl i)=.bl i:=rfl
theorem HF(i:List Nat):am h (.str i)=.str i:=rfl
theorem HG:am h .non=.non:=rfl
theorem HE(i:List PV):am h (.tup i)=.tup i:=rfl
theorem HH(i:List PV):am h (.lst i)=.lst i:=rfl
theorem HL(i:List PV):am h (.Nz i)= .Nz i:=rfl
theorem HN(i:List (PK×PV)):am h (.dct i)=.dct i:=rfl
theorem HK(c:Nat)(i:List (Str×PV)):am h (.ins c i)=.ins c i:=rfl
theorem EE(xs:List PV)(r:List PO):am (.lst xs::r) (.ref 0)=.ref 0:=rfl
@[simp] theorem Ic(a b:List PV):zA (.lst a) (.lst b) h=if a.length+b.length≤sizeLine then .ok (.lst (a++b)) h else .bad:=rfl
theorem FP(i j:Int):mT (.int i) (.int j) h=.ok (.int (i - j)) h:=rfl
theorem GE(i j:Int):ji (.int i) (.int j) h=if gV i j=true then .ok (.int (i * j)) h else .bad:=rfl
theorem IG(C:Int→Int→Bool)(g:Int→Int→Int)(i j:Int):pI C g (.int i) (.int j) h=if C i j=true then .ok (.int (g i j)) h else .bad:=rfl
theorem IR(i:Int):lT (.int i) h=.ok (.int (-i)) h:=rfl
theorem HU(g:Int→Int→Bool)(i j:Int):zy g (.int i) (.int j) h=.ok (.bl (g i j)) h:=rfl
theorem KF(p:PV):QX p .non h=.ok (.bl (kq p)) h:=rfl
theorem Ei(p:PV):ig p .non h=.ok (.bl (!kq p)) h:=rfl
theorem JC(l:List Nat)(i:Int):d7 (.str l) (.int i) h=match LQ l i with|some c=>if l.length≤sizeLine then .ok (.str [c]) h else .bad|none=>.bad:=rfl
@[simp] theorem JB(l:List PV)(i:Int):d7 (.tup l) (.int i) h=match LQ l i with|some v=>.ok (am h v) h|none=>.bad:=rfl
@[simp] theorem yh(l:List PV)(i:Int):d7 (.lst l) (.int i) h=match LQ l i with|some v=>.ok (am h v) h|none=>.bad:=rfl
theorem IY(l:List Nat):dZ [.str l] h=match(if l.length≤sizeLine then some l.length else none)with|some n=>.ok (.int n) h|none=>.bad:=rfl
theorem BD(l:List PV):dZ [.tup l] h=.ok (.int l.length) h:=rfl
theorem Fd(l:List PV):dZ [.lst l] h=.ok (.int l.length) h:=rfl
@[simp] theorem Fe(l:List PV):dZ [.Nz l] h=.ok (.int l.length) h:=rfl
theorem GM(ps:List PV):jQ ps h=if ps.length≤sizeLine then .ok (.lst ps) h else .bad:=rfl
theorem DP(ps:List PV):gu ps h=if ps.length≤sizeLine then .ok (.ref h.length) (h++ [.lst ps])else .bad:=rfl
theorem FM(ps:List PV):bA ps h=if ps.length≤sizeLine then .ok (.tup ps) h else .bad:=rfl
theorem Go(ps:List PV):N6 ps h=.ok (.lst ps) h:=rfl
theorem DH(ps:List PV):qX ps h=.ok (.ref h.length) (h++ [.lst ps]):=rfl
theorem JM(b:Bool):Bh [.bl b] h=.ok (.int (if b then 1 else 0)) h:=rfl
theorem Ix(i:Int):Du [.int i] h=if i.natAbs.log2<1920 then .ok (.str (qM i)) h else .bad:=rfl
theorem Dg(l:List Nat):kI (.str l) h=.ok (l.map fun c=>PV.str [c]) h:=rfl
theorem Df(l:List PV):kI (.tup l) h=.ok l h:=rfl
theorem xI(l:List PV):kI (.lst l) h=.ok l h:=rfl
theorem Ej(x:List Nat):rI h (.str x)=true:=rfl
@[simp] theorem Eu(i:Int):gx h (.int i)=some (.int i,h):=by simp[gx,PV.pure]
theorem Hv(i:Bool):gx h (.bl i)=some (.bl i,h):=by simp[gx,PV.pure]
@[simp] theorem Et:gx h .non=some (.non,h):=by simp[gx,PV.pure]
@[simp] theorem Es(i:List Nat):gx h (.str i)=some (.str i,h):=by simp[gx,PV.pure]
@[simp] theorem Ew(c:Nat):gx h (.ins c [])=some (.ins c [],h):=by simp[gx,PV.pure,wJ]
theorem BZ:Nx [] h=some ([],h):=rfl
theorem zT(p:PV)(r:List PV):Nx (p::r) h=match gx h p with|some (q,h1)=>(match Nx r h1 with|some (qs,h2)=>some (q::qs,h2)|none=>none)|none=>none:=rfl
theorem Bq(a b:List Nat):fQ (.str a) (.str b) h=.ok (.bl (!yk a b)) h:=rfl
theorem Iw(b:Bool):sC h (.bl b)=some b:=rfl
theorem Iv(b:Int):sC h (.int b)=some (b !=0):=rfl
theorem tJ(l:List PV):mV [.tup l,.ty "tuple"] h=.ok (.bl true) h:=rfl
end
theorem szl:(sizeLine:Nat)=16777216:=by decide
theorem zZ(fn:List PV→Out)(ps:List PV)(h:List PO):bO fn ps h=match Nx ps h with|some (qs,h2)=>(match fn qs with|.ok v=>.ok v h2|.bad=>.bad)|none=>.bad:=rfl
theorem tq{i j:Int}(h:Oh 18446744073709551616 j=true):gV i j=true:=by unfold gV;rw[h,Bool.true_or,Bool.or_true]
theorem GG{i j:Int}(h:IU i j=true):gV i j=true:=by unfold gV;rw[h,Bool.or_true,Bool.or_true]
theorem GF{i j:Int}(h:Oh 18446744073709551616 i=true):gV i j=true:=by unfold gV;rw[h,Bool.true_or]
theorem Bi(a b:List Nat)(h:List PO)(ha:∀c∈a,c<1114112)(hb:∀c∈b,c<1114112):J3 (.str a) (.str b) h=.ok (.bl (decide (a=b))) h:=by
 have ok:∀l:List Nat,(∀c∈l,c<1114112)→LC h (.str l)=true:=by intro l hl;unfold LC Lz;simp only[toD,PyData.canLay0,PyData.depth];simp[PyData.strOk,S];exact hl
 unfold J3;rw[if_pos ⟨ok a ha,ok b hb⟩]
 have e:PyData.eqv (Lz h (.str a)) (Lz h (.str b))=decide (a=b):=by
  show PyData.eqv (toD (.str a)) (toD (.str b))=_;simp only[toD,PyData.eqv]
  by_cases q:a=b
  ·subst q;simp
  ·have:¬ S a=S b:=fun z=>q (vP z);simp[q,this]
 rw[e]
theorem CF{α:Type}{xs:List α}{i:Int}(d:α)(h0:0≤i)(h1:i<(xs.length:Int)):LQ xs i=some (xs.getD i.toNat d):=by refine fF h0 ?_;rw[List.getD_eq_getElem?_getD,List.getElem?_eq_getElem (by omega)];rfl
theorem iP{α:Type}{xs:List α}{n:Nat}{d:α}(h:n<xs.length):xs.getD n d∈xs:=by rw[List.getD_eq_getElem?_getD,List.getElem?_eq_getElem h];exact List.getElem_mem h
theorem rH:∀ls:List (List Nat),lY [] ls=ls.flatten
 |[]=>rfl
 |[x]=>by simp[lY]
 |x::y::r=>by show x++ []++lY [] (y::r)=_;rw[rH (y::r),List.append_nil];rfl
theorem Bg{sep:List Nat}{q:PV}{ls:List (List Nat)}{h:List L3.PO}(e:QK h q=some (ls.map PV.str))(hz:(ls.map (fun l=>l.length)).sum+ls.length * sep.length≤16777216):mU (.str sep) [q] h=.ok (.str (lY sep ls)) h:=by unfold mU;simp only[e,yW,hz,if_true]
theorem Dw{ls:List (List Nat)}{h:List L3.PO}(hz:(ls.map (fun l=>l.length)).sum≤16777216):mU (.str []) [.lst (ls.map PV.str)] h=.ok (.str ls.flatten) h:=by rw[Bg (ls:=ls) rfl (by simpa using hz),rH]
theorem Ia(xs:List PV)(r:List L3.PO)(p:PV):bU (.ref 0) [p] (.lst xs::r)=if xs.length<sizeLine then .ok .non (.lst (xs++ [p])::r)else .bad:=rfl
theorem Ho(xs:List PV)(r:List L3.PO):fB (.lst xs::r) (.ref 0)=true:=rfl
theorem Gm(a b:Int)(h:List L3.PO):J3 (.int a) (.int b) h=.ok (.bl (decide (a=b))) h:=by
 have ok:∀l:Int,LC h (.int l)=true:=fun l=>by unfold LC Lz;simp[toD,PyData.canLay0,PyData.depth]
 unfold J3;rw[if_pos ⟨ok a,ok b⟩]
 have e:PyData.eqv (Lz h (.int a)) (Lz h (.int b))=decide (a=b):=by
  show PyData.eqv (toD (.int a)) (toD (.int b))=_;simp only[toD,PyData.eqv]
  by_cases q:a=b<;>simp[q]
 rw[e]
theorem jP(a b:Int)(h:List L3.PO):NZ (.int a) (.int b) h=.ok (.bl (!decide (a=b))) h:=by
 have ok:∀l:Int,LC h (.int l)=true:=fun l=>by unfold LC Lz;simp[toD,PyData.canLay0,PyData.depth]
 unfold NZ;rw[if_pos ⟨ok a,ok b⟩]
 have e:PyData.eqv (Lz h (.int a)) (Lz h (.int b))=decide (a=b):=by
  show PyData.eqv (toD (.int a)) (toD (.int b))=_;simp only[toD,PyData.eqv]
  by_cases q:a=b<;>simp[q]
 rw[e]
variable{m:Nat}{raw U_:List Nat}
open PySem.NumText (digitsVal AllDigits)
section
variable(h:List L3.PO)(ρ:Ev)
theorem CY(xs:List PV):dG [.lst xs] h=.ok (.tup xs) h:=rfl
end
theorem qn{l:List Nat}(h:List L3.PO)(hl:∀c∈l,c<1114112):LC h (.str l)=true:=by unfold LC Lz;simp only[toD,PyData.canLay0,PyData.depth];simp[PyData.strOk,S];exact hl
theorem HC(a b:List Nat)(ha:∀c∈a,c<1114112)(hb:∀c∈b,c<1114112):PyData.eqv (toD (.str a)) (toD (.str b))=decide (a=b):=by
 have:=Bi a b [] ha hb;unfold J3 at this;rw[if_pos ⟨qn [] ha,qn [] hb⟩]at this;injection this with this
 injection this
theorem ui{x:List Nat}(hx:∀c∈x,c<1114112):∀{ls:List (List Nat)},(∀l∈ls,∀c∈l,c<1114112)→((ls.map PV.str).any fun y=>PyData.eqv (toD y) (toD (.str x)))=decide (x∈ls)
 |[],_=>rfl
 |l::r,h=>by rw[List.map_cons,List.any_cons,HC l x (h l (by simp)) hx,ui hx fun z hz=>h z (List.mem_cons_of_mem _ hz),Bool.eq_iff_iff,Bool.or_eq_true,decide_eq_true_eq,decide_eq_true_eq,decide_eq_true_eq,List.mem_cons];exact or_congr eq_comm Iff.rfl
theorem oj:∀{ls:List (List Nat)},(∀l∈ls,∀c∈l,c<1114112)→(ls.map PV.str).all (LC [])=true
 |[],_=>rfl
 |l::r,h=>by rw[List.map_cons,List.all_cons,qn [] (h l (by simp)),oj fun z hz=>h z (List.mem_cons_of_mem _ hz)];rfl
theorem Fh{x:List Nat}{ls:List (List Nat)}(hx:∀c∈x,c<1114112)(hl:∀l∈ls,∀c∈l,c<1114112)(h:List L3.PO):uX (.str x) (.tup (ls.map PV.str)) h=some (decide (x∈ls)):=by show(if LC [] (.str x)=true∧(ls.map PV.str).all (LC [])=true then some ((ls.map PV.str).any fun y=>PyData.eqv (toD y) (toD (.str x)))else none)=_;rw[if_pos ⟨qn [] hx,oj hl⟩,ui hx hl]
theorem Fi{x:List Nat}{ls:List (List Nat)}(hx:∀c∈x,c<1114112)(hl:∀l∈ls,∀c∈l,c<1114112)(h:List L3.PO):uX (.str x) (.lst (ls.map PV.str)) h=some (decide (x∈ls)):=by show(if LC [] (.str x)=true∧(ls.map PV.str).all (LC [])=true then some ((ls.map PV.str).any fun y=>PyData.eqv (toD y) (toD (.str x)))else none)=_;rw[if_pos ⟨qn [] hx,oj hl⟩,ui hx hl]
theorem KH{x:List Nat}{ls:List (List Nat)}(hx:∀c∈x,c<1114112)(hl:∀l∈ls,∀c∈l,c<1114112)(h:List L3.PO):PB (.str x) (.tup (ls.map PV.str)) h=.ok (.bl (decide (x∈ls))) h:=by unfold PB;rw[Fh hx hl]
theorem Fb{x:List Nat}{ls:List (List Nat)}(hx:∀c∈x,c<1114112)(hl:∀l∈ls,∀c∈l,c<1114112)(h:List L3.PO):fQ (.str x) (.tup (ls.map PV.str)) h=.ok (.bl (!decide (x∈ls))) h:=by unfold fQ;rw[Fh hx hl]
theorem JN{x:List Nat}{ls:List (List Nat)}(hx:∀c∈x,c<1114112)(hl:∀l∈ls,∀c∈l,c<1114112)(h:List L3.PO):PB (.str x) (.lst (ls.map PV.str)) h=.ok (.bl (decide (x∈ls))) h:=by unfold PB;rw[Fi hx hl]
section
variable(ρ:Ev)(h:List PO)
theorem jX(z:Bool)(C:Nat)(as:Ax)(hz:z=true):lG z C as ρ h=nO C (as ρ h):=by unfold lG;rw[if_pos hz]
theorem ze(C:Nat)(v:PV):nO C (.ok [v] h)=.exc (.Nh C v) h:=rfl
theorem HM(C:Nat)(v:PV):am h (.Nh C v)= .Nh C v:=rfl
theorem zU(C:Nat)(as:Ax):sN C as ρ h=match as ρ h with
 |.ok qs h1=>if qs.length≤sizeLine then .exc (.cls C) h1 else .bad
 |.exc e h1=>.exc e h1
 |.bad=>.bad:=rfl
end
section
variable(ρ:Ev)(h:List PO)
theorem EB:kr ρ h=.ok (.ref h.length) (h++ [.dct []]):=rfl
theorem IZ(l:List (PK×PV)):dZ [.dct l] h=.ok (.int l.length) h:=rfl
theorem yA(l:List (PK×PV)):jS [.dct l] h=.ok (.ref h.length) (h++ [.dct l]):=rfl
theorem JF(l:List (PK×PV))(x:List Nat):d7 (.dct l) (.str x) h=match dq l (.inr x)with|some v=>.ok (am h v) h|none=>.bad:=rfl
theorem JO(l:List (PK×PV))(x:List Nat):fQ (.str x) (.dct l) h=.ok (.bl (!(dq l (.inr x)).isSome)) h:=rfl
theorem EP(i j:Int):aN (.int i) (.int j) h=.ok (.int (i+j)) h:=rfl
theorem EN(a b:List Nat):aN (.str a) (.str b) h=if a.length+b.length≤sizeLine then .ok (.str (a++b)) h else .bad:=rfl
theorem Ke(l:List (PK×PV))(r:List PO):am (.dct l::r) (.ref 0)=.ref 0:=rfl
theorem Kc(a:PO)(l:List (PK×PV))(r:List PO):am (a::.dct l::r) (.ref 1)=.ref 1:=rfl
theorem yn{l:List (PK×PV)}(r:List PO)(hp:aS l=true):O1 (.ref 0) (.dct l::r)=.ok (.dct l) (.G6 (.dct l)::r):=by simp[O1,Ru,gW,hp]
theorem gw{p:PV}(hp:p.pure=true):gx h p=some (p,h):=by cases p<;>first|(simp[PV.pure]at hp;done)|simp[gx,hp]
theorem aG{p:PV}(hp:p.pure=true):am h p=p:=by cases p<;>first|(simp[PV.pure]at hp;done)|rfl
theorem FW(v:PV)(l:List (PK×PV))(r:List PO)(x:List Nat):mK v (.ref 0) (.str x) ρ (.dct l::r)=if l.length<sizeLine then .nx ρ (.dct (bK l (.inr x) v)::r)else .bad:=rfl
theorem JG(l:List (PK×PV))(r:List PO)(x:List Nat):d7 (.ref 0) (.str x) (.dct l::r)=match dq l (.inr x)with|some v=>.ok (am (.dct l::r) v) (.dct l::r)|none=>.bad:=rfl
theorem IX(a:PO)(l:List (PK×PV))(r:List PO):(gW (a::.dct l::r) (.ref 1)).isSome=true:=rfl
end
section
variable{ρ:Ev}{h:List L3.PO}
theorem JU(n:Nat)(gs:Ri)(ps:List PV):NK n gs (.tup ps) ρ=if ps.length=n then gs ps ρ else none:=rfl
theorem KL:dU [] ρ=some ρ:=rfl
theorem HD(xs:List PV):Cp [.lst xs] h=.ok (Ma 0 xs) h:=rfl
theorem IB(l:List Nat)(lo hi:Option Int):lR (.str l) lo hi h=if l.length≤sizeLine then .ok (.str (cut l lo hi)) h else .bad:=rfl
theorem EU(l:List PV)(lo hi:Option Int):lR (.lst l) lo hi h=.ok (.lst (cut l lo hi)) h:=rfl
theorem GL(i j:Int):zw [.int i,.int j] h=.ok (.int (if j>i then j else i)) h:=rfl
end
section
variable(ρ:Ev)(h:List PO)
theorem IW(xs:List PV):jv (.tup xs) h=match fC xs with|some ls=>if ls.length+1<scanBound then .ok (.int (nK ls:Nat)) h else .bad|none=>.bad:=rfl
end
section
variable(ρ:Ev)(h:List PO)(a K xa:PV)(b:Ev)(c d e f g i j k l m n o p q r s t u v y:Option PV)(w:Nat)(x I O:Ex)(z A:Sx)(B:PV→List PO→Res PV)(C:List PV→List PO→Res PV)(D:Ax)(E:List PV→Out)(G:List PV→Res PV)(H N:PV→PV→List PO→Res PV)(J:List PV)(L:Bool)(M W:Tx)(P Q:Ox)(R:PV→Option Int→Option Int→List PO→Res PV)(S:Option Int)(T:Int)(U:List PO→PV→Bool)(V:PV→List PV→List PO→Res PV)(X:List Nat)(Y:Gx)(Z:PV→PV→PV→Ev→List PO→SR)(xb:Ri)
theorem ZS:ai 0 (some a::b) h=.ok (am h a) h:=rfl
theorem ZR:ai 1 (c::some a::b) h=.ok (am h a) h:=rfl
theorem ZQ:ai 2 (c::d::some a::b) h=.ok (am h a) h:=rfl
theorem ZP:ai 3 (c::d::e::some a::b) h=.ok (am h a) h:=rfl
theorem ZM:ai 4 (c::d::e::f::some a::b) h=.ok (am h a) h:=rfl
theorem ZJ:ai 5 (c::d::e::f::g::some a::b) h=.ok (am h a) h:=rfl
theorem ZG:ai 6 (c::d::e::f::g::i::some a::b) h=.ok (am h a) h:=rfl
theorem ZF:ai 7 (c::d::e::f::g::i::j::some a::b) h=.ok (am h a) h:=rfl
theorem ZD:ai 8 (c::d::e::f::g::i::j::k::some a::b) h=.ok (am h a) h:=rfl
theorem Zz:ai 9 (c::d::e::f::g::i::j::k::l::some a::b) h=.ok (am h a) h:=rfl
theorem Kw:ai 10 (c::d::e::f::g::i::j::k::l::m::some a::b) h=.ok (am h a) h:=rfl
theorem Kv:ai 11 (c::d::e::f::g::i::j::k::l::m::n::some a::b) h=.ok (am h a) h:=rfl
theorem Ku:ai 12 (c::d::e::f::g::i::j::k::l::m::n::o::some a::b) h=.ok (am h a) h:=rfl
theorem Kt:ai 13 (c::d::e::f::g::i::j::k::l::m::n::o::p::some a::b) h=.ok (am h a) h:=rfl
def Pq(i:Nat)(ρ:Ev)(r:Res PV):SR:=ez r fun v h1=>.nx (ρ.set i (some v)) h1
theorem DY:aO w x ρ h=Pq w ρ (x ρ h):=rfl
theorem ks0:Pq 0 (c::b) (.ok a h)=.nx (some a::b) h:=rfl
theorem ks1:Pq 1 (c::d::b) (.ok a h)=.nx (c::some a::b) h:=rfl
theorem ks2:Pq 2 (c::d::e::b) (.ok a h)=.nx (c::d::some a::b) h:=rfl
theorem ks3:Pq 3 (c::d::e::f::b) (.ok a h)=.nx (c::d::e::some a::b) h:=rfl
theorem ks4:Pq 4 (c::d::e::f::g::b) (.ok a h)=.nx (c::d::e::f::some a::b) h:=rfl
theorem Z_:Pq 5 (c::d::e::f::g::i::b) (.ok a h)=.nx (c::d::e::f::g::some a::b) h:=rfl
theorem Z9:Pq 6 (c::d::e::f::g::i::j::b) (.ok a h)=.nx (c::d::e::f::g::i::some a::b) h:=rfl
theorem Z8:Pq 7 (c::d::e::f::g::i::j::k::b) (.ok a h)=.nx (c::d::e::f::g::i::j::some a::b) h:=rfl
theorem Z7:Pq 8 (c::d::e::f::g::i::j::k::l::b) (.ok a h)=.nx (c::d::e::f::g::i::j::k::some a::b) h:=rfl
theorem Z6:Pq 9 (c::d::e::f::g::i::j::k::l::m::b) (.ok a h)=.nx (c::d::e::f::g::i::j::k::l::some a::b) h:=rfl
theorem KA:Pq 10 (c::d::e::f::g::i::j::k::l::m::n::b) (.ok a h)=.nx (c::d::e::f::g::i::j::k::l::m::some a::b) h:=rfl
theorem Kz:Pq 11 (c::d::e::f::g::i::j::k::l::m::n::o::b) (.ok a h)=.nx (c::d::e::f::g::i::j::k::l::m::n::some a::b) h:=rfl
theorem Ky:Pq 12 (c::d::e::f::g::i::j::k::l::m::n::o::p::b) (.ok a h)=.nx (c::d::e::f::g::i::j::k::l::m::n::o::some a::b) h:=rfl
theorem Kx:Pq 13 (c::d::e::f::g::i::j::k::l::m::n::o::p::q::b) (.ok a h)=.nx (c::d::e::f::g::i::j::k::l::m::n::o::p::some a::b) h:=rfl
theorem GT:Pq w ρ (.exc a h)=.exc a h:=rfl
def xK(g:Sx)(r:SR):SR:=match r with
 |.nx ρ1 h1=>g ρ1 h1
 |.rt v h1=>.rt v h1
 |.bk ρ1 h1=>.bk ρ1 h1
 |.ct ρ1 h1=>.ct ρ1 h1
 |.exc v h1=>.exc v h1
 |.bad=>.bad
theorem yg:aB z A ρ h=xK A (z ρ h):=rfl
theorem ET:xK z (.nx ρ h)=z ρ h:=rfl
theorem IA:xK z (.rt a h)=.rt a h:=rfl
theorem FQ:xK z (.exc a h)=.exc a h:=rfl
def kg{α β:Type}(f:α→List PO→Res β)(r:Res α):Res β:=r.bind f
theorem Jn{α β:Type}(f:α→List PO→Res β)(a:α):kg f (.ok a h)=f a h:=rfl
theorem Jk:c1 B x ρ h=kg B (x ρ h):=rfl
theorem Jh:cN C D ρ h=kg C (D ρ h):=rfl
theorem Ec:bF E D ρ h=kg (bO E) (D ρ h):=rfl
theorem BP:bj C D ρ h=kg (w7 C) (D ρ h):=rfl
theorem Ed:fH x ρ h=kg kI (x ρ h):=rfl
theorem BQ:qJ D ρ h=kg Cp (D ρ h):=rfl
theorem Jg:PL x ρ h=kg O1 (x ρ h):=rfl
def k2(g:PV→PV→List PO→Res PV)(b:Ex)(ρ:Ev)(r:Res PV):Res PV:=r.bind fun x h1=>kg (g x) (b ρ h1)
theorem Jj:c2 H x I ρ h=k2 H I ρ (x ρ h):=rfl
theorem Jx:k2 H x ρ (.ok a h)=kg (H a) (x ρ h):=rfl
def V6(x:PV)(r:Res (List PV)):Res (List PV):=r.bind fun xs h2=>.ok (x::xs) h2
def kC(r:Ax)(ρ:Ev)(x:Res PV):Res (List PV):=x.bind fun x h1=>V6 x (r ρ h1)
theorem Eb:af x D ρ h=kC D ρ (x ρ h):=rfl
theorem Jv:kC D ρ (.ok a h)=V6 a (D ρ h):=rfl
theorem Hl:V6 a (.ok J h)=.ok (a::J) h:=rfl
def kOr(g:Ex)(ρ:Ev)(r:Res PV):Res PV:=r.bind fun p h1=>match p with|.bl b=>if b=true then .ok (.bl true) h1 else g ρ h1|_=>.bad
theorem Jf:Tt x I ρ h=kOr I ρ (x ρ h):=rfl
theorem Jr:kOr x ρ (.ok (.bl L) h)=if L=true then .ok (.bl true) h else x ρ h:=rfl
def X5(f g:Ex)(ρ:Ev)(r:Res Bool):Res PV:=r.bind fun b h1=>if b=true then f ρ h1 else g ρ h1
theorem GR:Ac M x I ρ h=X5 x I ρ (M ρ h):=rfl
theorem Hg:X5 x I ρ (.ok L h)=if L=true then x ρ h else I ρ h:=rfl
def V3(f:PV→Option Int→Option Int→List PO→Res PV)(hi:Ox)(ρ:Ev)(p:PV)(r:Res (Option Int)):Res PV:=r.bind fun l h2=>kg (f p l) (hi ρ h2)
def X3(f:PV→Option Int→Option Int→List PO→Res PV)(lo hi:Ox)(ρ:Ev)(r:Res PV):Res PV:=r.bind fun p h1=>V3 f hi ρ p (lo ρ h1)
theorem GO:mD x P Q ρ h=X3 lR P Q ρ (x ρ h):=rfl
theorem He:X3 R P Q ρ (.ok a h)=V3 R Q ρ a (P ρ h):=rfl
theorem Hc:V3 R P ρ a (.ok S h)=kg (R a S) (P ρ h):=rfl
def kO(r:Res PV):Res (Option Int):=r.bind fun p h1=>match p with|.int i=>.ok (some i) h1|_=>.bad
theorem BN:gU x ρ h=kO (x ρ h):=rfl
theorem KC:kO (.ok (.int T) h)=.ok (some T) h:=rfl
def kM(recv:List PO→PV→Bool)(g:PV→List PV→List PO→Res PV)(as:Ax)(ρ:Ev)(r:Res PV):Res PV:=r.bind fun p h1=>if recv h1 p=true then kg (g p) (as ρ h1)else .bad
theorem Ji:cM U V x D ρ h=kM U V D ρ (x ρ h):=rfl
theorem Js:kM U V D ρ (.ok a h)=if U h a=true then kg (V a) (D ρ h)else .bad:=rfl
def V1(h:List PO)(o:Option Bool):Res Bool:=match o with|some b=>.ok b h|none=>.bad
def XQ(r:Res PV):Res Bool:=r.bind fun p h1=>V1 h1 (sC h1 p)
theorem DU:kj x ρ h=XQ (x ρ h):=rfl
theorem GZ:XQ (.ok a h)=V1 h (sC h a):=rfl
theorem Jp:V1 h (some L)=.ok L h:=rfl
def X8(r:Res PV):Res Bool:=r.bind fun p h1=>match p with|.bl b=>.ok b h1|_=>.bad
theorem DV:aI x ρ h=X8 (x ρ h):=rfl
theorem Ju:X8 (.ok (.bl L) h)=.ok L h:=rfl
def XR(g:Tx)(ρ:Ev)(r:Res Bool):Res Bool:=r.bind fun b h1=>if b=true then g ρ h1 else .ok false h1
theorem DW:iX M W ρ h=XR W ρ (M ρ h):=rfl
theorem Ha:XR M ρ (.ok L h)=if L=true then M ρ h else .ok false h:=rfl
def XM(g:Tx)(ρ:Ev)(r:Res Bool):Res Bool:=r.bind fun b h1=>if b=true then .ok true h1 else g ρ h1
theorem GN:jr M W ρ h=XM W ρ (M ρ h):=rfl
theorem GY:XM M ρ (.ok L h)=if L=true then .ok true h else M ρ h:=rfl
def XS(ps:List PV)(h1:List PO):Res (List PV):=match ps with|[.int j]=>if Oh 4611686018427387904 j=true then .ok ((List.range j.toNat).map fun i=>PV.int (0+(i:Nat))) h1 else .bad|_=>.bad
theorem zN:gR D ρ h=kg XS (D ρ h):=rfl
theorem Jq(j:Int):XS [.int j] h=if Oh 4611686018427387904 j=true then .ok ((List.range j.toNat).map fun i=>PV.int (0+(i:Nat))) h else .bad:=rfl
def X7(m9:List Nat)(tt:Tx)(te:Ex)(ρ:Ev)(r:Res (List PV)):Res (List PV):=r.bind fun xs h1=>if xs.length<sizeLine then(cT tt te (dg m9 ρ) xs h1).calm else .bad
theorem BR:dI X D M x ρ h=X7 X M x ρ (D ρ h):=rfl
theorem Hk:X7 X M x ρ (.ok J h)=if J.length<sizeLine then(cT M x (dg X ρ) J h).calm else .bad:=rfl
def V2(r:Res PV):SR:=ez r fun v h1=>.rt v h1
theorem DZ:bw x ρ h=V2 (x ρ h):=rfl
theorem Hb(v:PV):V2 (.ok v h)=.rt v h:=rfl
theorem Ef(v:PV):V2 (.exc v h)=.exc v h:=rfl
def V5(ρ:Ev)(r:Res PV):SR:=ez r fun _ h1=>.nx ρ h1
theorem BM:dk x ρ h=V5 ρ (x ρ h):=rfl
theorem Hi:V5 ρ (.ok a h)=.nx ρ h:=rfl
theorem Eg:V5 ρ (.exc a h)=.exc a h:=rfl
def X4(f g:Sx)(ρ:Ev)(r:Res Bool):SR:=Fx r fun b h1=>if b=true then f ρ h1 else g ρ h1
theorem GP:J7 M z A ρ h=X4 z A ρ (M ρ h):=rfl
theorem Hf:X4 z A ρ (.ok L h)=if L=true then z ρ h else A ρ h:=rfl
def X6(g:Gx)(body:Sx)(ρ:Ev)(r:Res (List PV)):SR:=BK r fun xs h1=>aR g body xs ρ h1
theorem Ea:gh D Y z ρ h=X6 Y z ρ (D ρ h):=rfl
theorem Hh:X6 Y z ρ (.ok J h)=aR Y z J ρ h:=rfl
def VN(s:PV→PV→PV→Ev→List PO→SR)(ρ:Ev)(v o:PV)(r:Res PV):SR:=ez r fun i h3=>s v o i ρ h3
def VP(s:PV→PV→PV→Ev→List PO→SR)(fi:Ex)(ρ:Ev)(v:PV)(r:Res PV):SR:=ez r fun o h2=>VN s ρ v o (fi ρ h2)
def V0(s:PV→PV→PV→Ev→List PO→SR)(fo fi:Ex)(ρ:Ev)(r:Res PV):SR:=ez r fun v h1=>VP s fi ρ v (fo ρ h1)
theorem BL:jH x I O ρ h=V0 jg x I ρ (O ρ h):=rfl
theorem DX:km x I O ρ h=V0 mK x I ρ (O ρ h):=rfl
theorem GX:V0 Z x I ρ (.ok a h)=VP Z I ρ a (x ρ h):=rfl
theorem GW:VP Z x ρ a (.ok K h)=VN Z ρ a K (x ρ h):=rfl
theorem GU:VN Z ρ a K (.ok xa h)=Z a K xa ρ h:=rfl
def V7(h:List PO)(o:Option Ev):SR:=match o with|some ρ1=>.nx ρ1 h|none=>.bad
def Yb(g:Gx)(ρ:Ev)(r:Res PV):SR:=ez r fun v h1=>V7 h1 (g v ρ)
theorem GS:FZ Y x ρ h=Yb Y ρ (x ρ h):=rfl
theorem Hm:Yb Y ρ (.ok a h)=V7 h (Y a ρ):=rfl
theorem Jw:V7 h (some ρ)=.nx ρ h:=rfl
def kG(gs:Ri)(r:List PV)(o:Option Ev):Option Ev:=match o with|some ρ1=>gs r ρ1|none=>none
theorem KB:aU Y xb (a::J) ρ=kG xb J (Y a ρ):=rfl
theorem KD:kG xb J (some ρ)=xb J ρ:=rfl
def Vc(h:List PO)(o:Option PV):Res PV:=match o with|some v=>.ok (am h v) h|none=>.bad
theorem Jt:Vc h (some a)=.ok (am h a) h:=rfl
theorem Jc:d7 (.tup J) (.int T) h=Vc h (LQ J T):=rfl
theorem Jd:d7 (.lst J) (.int T) h=Vc h (LQ J T):=rfl
theorem Je:d7 (.Nz J) (.int T) h=Vc h (LQ J T):=rfl
end
section
variable(ρ:Ev)(h:List PO)(a b:PV)(w j:Nat)(x y:Ex)(z g:Sx)(C:List PV→List PO→Res PV)(D:Ax)(J:List PV)(o:Option (Nat×List PV))(f:Nat→Bool)(i:Nat)
theorem Bp:lC C D ρ h=kg C (D ρ h):=rfl
def U6(C:List PV→List PO→Res PV)(p:PV)(r:Res (List PV)):Res PV:=r.bind fun ps h2=>C (p::ps) h2
def U5(w:Nat)(C:List PV→List PO→Res PV)(D:Ax)(ρ:Ev)(r:Res PV):Res PV:=r.bind fun p h1=>if(qU w h1 p).isSome=true then U6 C p (D ρ h1)else .bad
theorem xY:gA w C x D ρ h=U5 w C D ρ (x ρ h):=by
 unfold gA U5
 cases x ρ h with
 |ok p h1=>
  show(match qU w h1 p with|some _=>_|none=>_)=_
  cases q:qU w h1 p with
  |none=>simp[Res.bind,q]
  |some _=>simp[Res.bind,q,U6]
 |exc _ _=>rfl
 |bad=>rfl
theorem GC:U5 w C D ρ (.ok a h)=if(qU w h a).isSome=true then U6 C a (D ρ h)else .bad:=rfl
theorem GD:U6 C a (.ok J h)=C (a::J) h:=rfl
theorem Gu:Ab w C D ρ h=kg (Tj w C) (D ρ h):=rfl
def GA(w j:Nat)(ρ:Ev)(v:PV)(r:Res PV):SR:=ez r fun o h2=>AE w j v o ρ h2
def IT(w j:Nat)(fo:Ex)(ρ:Ev)(r:Res PV):SR:=ez r fun v h1=>GA w j ρ v (fo ρ h1)
theorem Dz:pQ w j x y ρ h=IT w j x ρ (y ρ h):=rfl
theorem DN:IT w j x ρ (.ok a h)=GA w j ρ a (x ρ h):=rfl
theorem DM:GA w j ρ a (.ok b h)=AE w j a b ρ h:=rfl
theorem Gr:Ih D ρ h=kg Ag (D ρ h):=rfl
theorem FG(J K:List PV):Ag [.tup J,.tup K] h=.ok (Qj J K) h:=rfl
end
end L3
namespace Ly
open PySem L2 L3
local macro_rules | `(tactic| simp $c:optConfig only [EV,$xs,*])=>do let a←(("Cq Res.Nj EJ KM HA Cn Hy EA Cm zV Co HB HJ Kf HF HG HE HH HL HN HK EE FP GE IG IR HU KF Ei JC IY BD Fd GM DP FM Go DH JM Ix Dg Df xI Ej Hv BZ zT Bq Iw Iv tJ szl CY ze HM zU EB IZ yA JF JO EP EN Ke Kc FW JG IX JU KL HD IB EU GL IW ZS ZR ZQ ZP ZM ZJ ZG ZF ZD Zz Kw Kv Ku Kt DY ks0 ks1 ks2 ks3 ks4 Z_ Z9 Z8 Z7 Z6 KA Kz Ky Kx GT yg ET IA FQ Jn Jk Jh Ec BP Ed BQ Jg Jj Jx Eb Jv Hl Jf Jr GR Hg GO He Hc BN KC Ji Js DU GZ Jp DV Ju DW Ha GN GY zN Jq BR Hk DZ Hb Ef BM Hi Eg GP Hf Ea Hh BL DX GX GW GU GS Hm Jw KB KD Jt Jc Jd Je Bp xY GC GD Gu Dz DN DM Gr FG".splitOn.map fun n=>`L3++n.toName)++("List.getElem?_cons_zero List.getElem?_cons_succ List.set_cons_zero List.set_cons_succ List.map_cons List.map_nil List.append_nil List.nil_append List.cons_append if_true if_false reduceIte Bool.not_true Bool.not_false Bool.true_and Bool.false_and Bool.and_true Bool.and_false Bool.true_or Bool.false_or Bool.or_true Bool.or_false Bool.not_not eq_self_iff_true true_and and_true Bool.false_eq_true reduceCtorEq List.length_cons List.length_nil List.replicate Nat.sub_self Nat.zero_add Option.isSome_some Option.isSome_none Nat.reduceAdd Nat.reduceLeDiff Int.reduceLT Int.reduceLE decide_true decide_false Int.reduceNeg Int.reducePow Nat.reducePow Int.reduceAdd Int.reduceMul Int.reduceSub Nat.reduceSub and_self Nat.reduceMul Nat.reduceEqDiff".splitOn.map fun n=>n.toName)).toArray.mapM fun n=>`(Lean.Parser.Tactic.simpLemma| $(Lean.mkIdent n):term);`(tactic| simp $c:optConfig only [$a,*,$xs,*])
structure G7 where
 a:List Nat
 f:List (List Nat)
noncomputable def J0(p:G7):PV:=.tup (.str p.a::p.f.map PV.str)
def de(l:List G7):List PV:=l.map J0
noncomputable def nms(l:List (List Nat)):PV:=.tup (l.map PV.str)
mutual
inductive Nd where
 |text (s:List Nat)
 |place (p:G7) (w:List Nat)
 |loop (n:List Nat) (p:G7) (ns:w6) (b:List Nat)
 |choice (p:G7) (y n:w6)
 |use (n:List Nat) (ps:List G7)
 |j8 (n:List Nat) (ps:List G7) (h:List (List Nat)) (b:w6)
 |body (ps:List G7)
inductive w6 where
 |nil
 |cons (n:Nd) (r:w6)
end
abbrev tT:List Nat:=[116,101,120,116]
abbrev tP:List Nat:=[112,108,97,99,101]
abbrev tL:List Nat:=[108,111,111,112]
abbrev tC:List Nat:=[99,104,111,105,99,101]
abbrev tU:List Nat:=[117,115,101]
abbrev tB:List Nat:=[98,111,100,121]
abbrev tI:List Nat:=[112,105,101,99,101]
mutual
def nd:Nd→PV
 |.text s=>.tup [.str tT,.str s]
 |.place p w=>.tup [.str tP,J0 p,.str w]
 |.loop n p ns b=>.tup [.str tL,.str n,J0 p,.tup (j6 ns),.str b]
 |.choice p y n=>.tup [.str tC,J0 p,.tup (j6 y),.tup (j6 n)]
 |.use n ps=>.tup [.str tU,.str n,.tup (de ps),.non,.non]
 |.j8 n ps h b=>.tup [.str tU,.str n,.tup (de ps),nms h,.tup (j6 b)]
 |.body ps=>.tup [.str tB,.tup (de ps)]
def j6:w6→List PV
 |.nil=> []
 |.cons n r=>nd n::j6 r
end
structure Pc where
 n:List Nat
 ns:List (List Nat)
 m:Option Int
 b:w6
noncomputable def v9:Option Int→PV
 |none=>.non
 |some i=>.int i
def pc(q:Pc):PV:=.tup [.str tI,.str q.n,nms q.ns,v9 q.m,.tup (j6 q.b)]
def bk(l:List Pc):PV:=.tup (l.map pc)
noncomputable def out(ns:List (List Nat))(p:G7):Bool:=!ns.contains p.a
noncomputable def look(E:List Pc)(n:List Nat):Option Pc:=E.find? fun q=>q.n==n
def dup(l:List (List Nat)):Bool:=decide (nK l<l.length)
def O_(ps:List G7)(q:Pc):Option (List (List Nat))→Bool
 |none=>ps.length !=q.ns.length||q.m.isSome
 |some l=>ps.length !=q.ns.length||match q.m with
  |none=>true
  |some m=>(l.length:Int) !=m||dup l
def M9(E:List Pc)(m:Option Int)(ns:List (List Nat)):Nd→Bool
 |.text _=>false
 |.place p _=>out ns p
 |.loop _ p _ _=>out ns p
 |.choice p _ _=>out ns p
 |.use n ps=>ps.any (out ns)||match look E n with
  |none=>true
  |some q=>O_ ps q none
 |.j8 n ps h _=>ps.any (out ns)||match look E n with
  |none=>true
  |some q=>O_ ps q (some h)
 |.body ps=>ps.any (out ns)||match m with
  |none=>true
  |some i=>(ps.length:Int) !=i
mutual
def Qh(E:List Pc)(m:Option Int)(w:List Int)(ns:List (List Nat)):Nd→Option (List Int)
 |.loop n _ b _=>MK E m w 0 (ns++ [n]) b
 |.choice _ y n=>(MK E m (w++ [0]) 0 ns y).or (MK E m (w++ [1]) 0 ns n)
 |.j8 _ _ h b=>MK E m w 0 (ns++h) b
 |_=>none
def MK(E:List Pc)(m:Option Int)(w:List Int)(k:Nat)(ns:List (List Nat)):w6→Option (List Int)
 |.nil=>none
 |.cons n r=>if M9 E m ns n=true then some (w++ [(k:Int)])else(Qh E m (w++ [(k:Int)]) ns n).or (MK E m w (k+1) ns r)
end
def Ou(len:Nat):List Pc→List Pc→Option (List Int)
 |_,[]=>none
 |E,q::r=>if((E.map (·.n)).contains q.n||dup q.ns||(decide (E.length+1=len)&&q.m.isSome))=true then some [(E.length:Int)]else(MK E q.m [(E.length:Int)] 0 q.ns q.b).or (Ou len (E++ [q]) r)
theorem cI{g:Gx}{b:Sx}{p:PV}{r:List PV}{ρ ρ1 ρ2:Ev}{h h2:List PO}(hg:g p ρ=some ρ1)(hb:b ρ1 h=.nx ρ2 h2):aR g b (p::r) ρ h=aR g b r ρ2 h2:=by simp only[aR,hg,hb]
theorem MP{α:Type}(a:α)(l:List α):LQ (a::l) 0=some a:=fF (by decide) rfl
theorem at1{α:Type}(a b:α)(l:List α):LQ (a::b::l) 1=some b:=fF (by decide) rfl
theorem at2{α:Type}(a b c:α)(l:List α):LQ (a::b::c::l) 2=some c:=fF (by decide) rfl
theorem QM{α:Type}(a b c d:α)(l:List α):LQ (a::b::c::d::l) 3=some d:=fF (by decide) rfl
theorem Ut{α:Type}(a b c d e:α)(l:List α):LQ (a::b::c::d::e::l) 4=some e:=fF (by decide) rfl
theorem K5{a b:List Nat}(c:Bool)(e:(match J3 (.str a) (.str b) []with|.ok (.bl d) _=>d==c|_=>false)=true:=by kernel_rfl)(h:List PO):J3 (.str a) (.str b) h=.ok (.bl c) h:=by
 unfold J3 at e ⊢
 split at e
 ·rename_i d h' z
  split at z
  ·rename_i ok
   cases z
   have:LC h (.str a)=true∧LC h (.str b)=true:=ok;rw[if_pos this];have q:=eq_of_beq e;rw[show Lz h (.str a)=Lz [] (.str a)from rfl,show Lz h (.str b)=Lz [] (.str b)from rfl,q]
  ·cases z
 ·cases e
theorem aW:∀l:List (List Nat),aq (l.map PV.str)=true
 |[]=>rfl
 |a::r=>by rw[List.map_cons,aq,aW r];rfl
theorem eT(p:G7):(J0 p).pure=true:=by unfold J0;rw[PV.pure,aq,aW];rfl
theorem aQ:∀l:List G7,aq (de l)=true
 |[]=>rfl
 |a::r=>by show aq (J0 a::de r)=true;rw[aq,eT,aQ r];rfl
theorem bP(l:List (List Nat)):(nms l).pure=true:=by unfold nms;rw[PV.pure];exact aW l
mutual
theorem bz:∀n:Nd,(nd n).pure=true
 |.text s=>by simp[nd,PV.pure,aq]
 |.place p w=>by simp[nd,PV.pure,aq,eT]
 |.loop n p ns b=>by simp[nd,PV.pure,aq,eT,bt ns]
 |.choice p y n=>by simp[nd,PV.pure,aq,eT,bt y,bt n]
 |.use n ps=>by simp[nd,PV.pure,aq,aQ]
 |.j8 n ps h b=>by simp[nd,PV.pure,aq,aQ,bP,bt b]
 |.body ps=>by simp[nd,PV.pure,aq,aQ]
theorem bt:∀n:w6,aq (j6 n)=true
 |.nil=>by simp[j6,aq]
 |.cons n r=>by simp[j6,aq,bz n,bt r]
end
theorem ew{p:PV}{h:List L3.PO}(hp:p.pure=true):ii p h=.ok p:=by unfold ii;rw[gw h hp]
theorem ka(h:List PO)(p:G7):am h (J0 p)=J0 p:=rfl
theorem nX(h:List PO)(p:List (List Nat)):am h (nms p)=nms p:=rfl
noncomputable def pa:Nd→List G7
 |.text _=> []
 |.place p _=> [p]
 |.loop _ p _ _=> [p]
 |.choice p _ _=> [p]
 |.use _ ps=>ps
 |.j8 _ ps _ _=>ps
 |.body ps=>ps
theorem Bc(k:Nat)(n:Nd):F (k+1) .I_ [nd n]=.ok (.tup (de (pa n))):=by
 show bx (dH (F k)) 1 1 [nd n]=_
 cases n with
 |text s=>simp only[EV,nd,bx,dH,ka,MP,at1,at2,K5 (a:=tT) (b:=tT) true,pa];exact ew (by rw[PV.pure];first|exact aQ _|exact aQ []|exact aQ [_])
 |place p w=>simp only[EV,nd,bx,dH,ka,MP,at1,at2,K5 (a:=tP) (b:=tT) false,K5 (a:=tP) (b:=tL) false,K5 (a:=tP) (b:=tU) false,K5 (a:=tP) (b:=tB) false,pa];exact ew (by rw[PV.pure];first|exact aQ _|exact aQ []|exact aQ [_])
 |loop n p ns b=>simp only[EV,nd,bx,dH,ka,MP,at1,at2,K5 (a:=tL) (b:=tT) false,K5 (a:=tL) (b:=tL) true,pa];exact ew (by rw[PV.pure];first|exact aQ _|exact aQ []|exact aQ [_])
 |choice p y n=>simp only[EV,nd,bx,dH,ka,MP,at1,at2,K5 (a:=tC) (b:=tT) false,K5 (a:=tC) (b:=tL) false,K5 (a:=tC) (b:=tU) false,K5 (a:=tC) (b:=tB) false,pa];exact ew (by rw[PV.pure];first|exact aQ _|exact aQ []|exact aQ [_])
 |use n ps=>simp only[EV,nd,bx,dH,ka,MP,at1,at2,K5 (a:=tU) (b:=tT) false,K5 (a:=tU) (b:=tL) false,K5 (a:=tU) (b:=tU) true,pa];exact ew (by rw[PV.pure];first|exact aQ _|exact aQ []|exact aQ [_])
 |j8 n ps h b=>simp only[EV,nd,bx,dH,ka,MP,at1,at2,K5 (a:=tU) (b:=tT) false,K5 (a:=tU) (b:=tL) false,K5 (a:=tU) (b:=tU) true,pa];exact ew (by rw[PV.pure];first|exact aQ _|exact aQ []|exact aQ [_])
 |body ps=>simp only[EV,nd,bx,dH,ka,MP,at1,at2,K5 (a:=tB) (b:=tT) false,K5 (a:=tB) (b:=tL) false,K5 (a:=tB) (b:=tU) false,K5 (a:=tB) (b:=tB) true,pa];exact ew (by rw[PV.pure];first|exact aQ _|exact aQ []|exact aQ [_])
def Nq(w:List Int)(ns:List (List Nat))(b:w6):PV:=.tup [.tup (w.map PV.int),nms ns,.tup (j6 b)]
noncomputable def prs:Nd→List (List Int×List (List Nat)×w6)
 |.loop n _ b _=> [([],[n],b)]
 |.choice _ y n=> [([0],[],y),([1],[],n)]
 |.j8 _ _ h b=> [([],h,b)]
 |_=> []
theorem Ba(w:List Int)(ns:List (List Nat))(b:w6):(Nq w ns b).pure=true:=by
 have:∀w:List Int,aq (w.map PV.int)=true:=fun w=>by induction w with
  |nil=>rfl
  |cons a r ih=>rw[List.map_cons,aq,ih];rfl
 unfold Nq;simp[PV.pure,aq,this,bP,bt]
theorem uW(k:Nat)(n:Nd):F (k+1) .m8 [nd n]=.ok (.lst ((prs n).map fun x=>Nq x.1 x.2.1 x.2.2)):=by
 show bx (bR (F k)) 1 1 [nd n]=_
 have fin:∀(l:List (List Int×List (List Nat)×w6)),ii (.lst (l.map fun x=>Nq x.1 x.2.1 x.2.2)) []=.ok (.lst (l.map fun x=>Nq x.1 x.2.1 x.2.2)):=fun l=>ew (by
  rw[PV.pure]
  induction l with
  |nil=>rfl
  |cons a r ih=>rw[List.map_cons,aq,Ba,ih];rfl)
 have nn:∀(x:List PV) h,ig (.tup x) .non h=.ok (.bl true) h:=fun _ _=>rfl;have n0:∀h,ig .non .non h=.ok (.bl false) h:=fun _=>rfl
 cases n with
 |text s=>simp only[EV,nd,bx,bR,MP,K5 (a:=tT) (b:=tL) false,K5 (a:=tT) (b:=tC) false,K5 (a:=tT) (b:=tU) false];exact fin []
 |place p w=>simp only[EV,nd,bx,bR,MP,K5 (a:=tP) (b:=tL) false,K5 (a:=tP) (b:=tC) false,K5 (a:=tP) (b:=tU) false];exact fin []
 |body ps=>simp only[EV,nd,bx,bR,MP,K5 (a:=tB) (b:=tL) false,K5 (a:=tB) (b:=tC) false,K5 (a:=tB) (b:=tU) false];exact fin []
 |use m ps=>simp only[EV,nd,bx,bR,MP,Ut,n0,K5 (a:=tU) (b:=tL) false,K5 (a:=tU) (b:=tC) false,K5 (a:=tU) (b:=tU) true];exact fin []
 |loop m p ns b=>simp only[EV,nd,bx,bR,MP,at1,QM,K5 (a:=tL) (b:=tL) true];exact fin [([],[m],ns)]
 |choice p y m=>simp only[EV,nd,bx,bR,MP,at2,QM,K5 (a:=tC) (b:=tL) false,K5 (a:=tC) (b:=tC) true];exact fin [([0],[],y),([1],[],m)]
 |j8 m ps hh b=>simp only[EV,nd,bx,bR,MP,QM,Ut,nn,nX,K5 (a:=tU) (b:=tL) false,K5 (a:=tU) (b:=tC) false,K5 (a:=tU) (b:=tU) true];exact fin [([],hh,b)]
noncomputable def sg(l:List Nat):Bool:=l.all fun c=>decide (c<1114112)
theorem kF{l:List Nat}(h:sg l=true):∀c∈l,c<1114112:=fun c hc=>of_decide_eq_true (List.all_eq_true.mp h c hc)
def H_(l:List (List Nat)):Bool:=l.all sg
theorem wk{l:List (List Nat)}(h:H_ l=true):∀x∈l,∀c∈x,c<1114112:=fun x hx=>kF (List.all_eq_true.mp h x hx)
theorem iY:∀l:List (List Nat),fC (l.map PV.str)=some l
 |[]=>rfl
 |a::r=>by rw[List.map_cons,fC,iY r];rfl
theorem pF(k:Nat)(l:List (List Nat))(hl:l.length<60):F (k+1) .v7 [nms l]=.ok (.bl (dup l)):=by
 show bx (jf (F k)) 1 1 [nms l]=_;have q:l.length+1<scanBound:=Nat.lt_of_lt_of_le (Nat.succ_lt_succ hl) (by decide);have e:decide (((nK l:Nat):Int)<((l.length:Nat):Int))=dup l:=by unfold dup;simp
 simp only[EV,nms,bx,jf,iY,q,List.length_map,e,ii]
theorem qY:kq .non=true:=rfl
theorem tH(i:Int):kq (.int i)=false:=rfl
theorem vx(l:List PV):kq (.tup l)=false:=rfl
theorem yq:∀{l:List PV}(h:List PO),aq l=true→Nx l h=some (l,h)
 |[],_,_=>rfl
 |p::r,h,e=>by rw[aq,Bool.and_eq_true]at e;rw[Nx,gw h e.1];dsimp only;rw[yq h e.2]
theorem aZ{fn:List PV→Out}{ps:List PV}{v:PV}(h:List PO)(hp:aq ps=true)(e:fn ps=.ok v):bO fn ps h=.ok v h:=by rw[zZ,yq h hp];dsimp only;rw[e]
theorem CW(k:Nat)(n:List Nat)(ps:List G7)(q:Pc):F (k+1) .o9 [nd (.use n ps),pc q]=.ok (.bl (O_ ps q none)):=by
 show bx (bG (F k)) 2 2 [nd (.use n ps),pc q]=_
 by_cases e:ps.length=q.ns.length
 ·have e1:decide (((ps.length:Nat):Int)=((q.ns.length:Nat):Int))=true:=decide_eq_true (by omega);have e2:(ps.length !=q.ns.length)=false:=by simp[e]
  cases hm:q.m with
  |none=>simp only[EV,nd,pc,de,nms,v9,hm,bx,bG,at2,QM,jP,qY,tH,vx,List.length_map,e1,e2,O_,Option.isSome_none,ii]
  |some i=>simp only[EV,nd,pc,de,nms,v9,hm,bx,bG,at2,QM,jP,qY,tH,vx,List.length_map,e1,e2,O_,Option.isSome_some,ii]
 ·have e1:decide (((ps.length:Nat):Int)=((q.ns.length:Nat):Int))=false:=decide_eq_false (by omega);have e2:(ps.length !=q.ns.length)=true:=by simp[e]
  simp only[EV,nd,pc,de,nms,bx,bG,at2,jP,qY,tH,vx,List.length_map,e1,e2,O_,ii]
theorem As(k:Nat)(n:List Nat)(ps:List G7)(hs:List (List Nat))(b:w6)(q:Pc)(hl:hs.length<60):F (k+2) .o9 [nd (.j8 n ps hs b),pc q]=.ok (.bl (O_ ps q (some hs))):=by
 show bx (bG (F (k+1))) 2 2 [nd (.j8 n ps hs b),pc q]=_
 by_cases e:ps.length=q.ns.length
 ·have e1:decide (((ps.length:Nat):Int)=((q.ns.length:Nat):Int))=true:=decide_eq_true (by omega);have e2:(ps.length !=q.ns.length)=false:=by simp[e]
  cases hm:q.m with
  |none=>simp only[EV,nd,pc,de,nms,v9,hm,bx,bG,at2,QM,jP,qY,tH,vx,List.length_map,e1,e2,O_,ii]
  |some i=>
   have tw:=pF k hs hl
   by_cases e3:(hs.length:Int)=i
   ·have d3:decide (((hs.length:Nat):Int)=i)=true:=decide_eq_true e3;have b3:(((hs.length:Nat):Int) !=i)=false:=by simp[e3]
    have cw:∀h,bO (F (k+1) .v7) [.tup (hs.map PV.str)] h=.ok (.bl (dup hs)) h:=fun h=>aZ h (by rw[aq,PV.pure,aW];rfl) tw;simp only[EV,nd,pc,de,nms,v9,hm,bx,bG,at2,QM,jP,qY,tH,vx,List.length_map,e1,e2,d3,b3,cw,O_,ii]
   ·have d3:decide (((hs.length:Nat):Int)=i)=false:=decide_eq_false e3;have b3:(((hs.length:Nat):Int) !=i)=true:=by simp[e3]
    simp only[EV,nd,pc,de,nms,v9,hm,bx,bG,at2,QM,jP,qY,tH,vx,List.length_map,e1,e2,d3,b3,O_,ii]
 ·have e1:decide (((ps.length:Nat):Int)=((q.ns.length:Nat):Int))=false:=decide_eq_false (by omega);have e2:(ps.length !=q.ns.length)=true:=by simp[e]
  simp only[EV,nd,pc,de,nms,bx,bG,at2,jP,qY,tH,vx,List.length_map,e1,e2,O_,ii]
def u9(E:List Pc):List (PK×PV):=E.map fun q=>(.inr q.n,pc q)
theorem mG(n:List Nat):∀E:List Pc,dq (u9 E) (.inr n)=(look E n).map pc
 |[]=>rfl
 |q::r=>by
  have e:u9 (q::r)=(.inr q.n,pc q)::u9 r:=rfl;rw[e]
  by_cases h:q.n=n
  ·subst h;simp[dq,look]
  ·have i:=mG n r;unfold look at i ⊢;rw[List.find?_cons_of_neg (by simpa using h),← i];simp[dq,h]
theorem tK(n:List Nat)(E:List Pc)(r:List PO):fQ (.str n) (.ref 0) (.dct (u9 E)::r)=.ok (.bl (!(look E n).isSome)) (.dct (u9 E)::r):=by show(match some (dq (u9 E) (.inr n)).isSome with|some b=>Res.ok (PV.bl (!b)) (.dct (u9 E)::r)|none=>Res.bad)=_;rw[mG,Option.isSome_map]
theorem eJ(q:Pc):(pc q).pure=true:=by
 unfold pc
 cases h:q.m<;>simp[PV.pure,aq,bP,bt,v9]
theorem BT(n:List Nat)(E:List Pc)(r:List PO){q:Pc}(e:look E n=some q):d7 (.ref 0) (.str n) (.dct (u9 E)::r)=.ok (pc q) (.dct (u9 E)::r):=by show(match dq (u9 E) (.inr n)with|some v=>Res.ok (am (.dct (u9 E)::r) v) (.dct (u9 E)::r)|none=>Res.bad)=_;rw[mG,e];rfl
theorem iO(h:List PO)(m:Option Int):am h (v9 m)=v9 m:=by cases m<;>rfl
theorem jz(h:List PO)(n:Nd):am h (nd n)=nd n:=aG (h:=h) (bz n)
theorem Gj(p:G7)(h:List PO):d7 (J0 p) (.int 0) h=.ok (.str p.a) h:=by show(match LQ (PV.str p.a::p.f.map PV.str) 0 with|some v=>Res.ok (am h v) h|none=>Res.bad)=_;rw[MP];rfl
def Sd(l:List G7):Bool:=l.all fun p=>sg p.a
theorem rB(C:CC)(ns:List (List Nat))(hn:H_ ns=true)(a m:PV)(h:List PO):∀(ps:List G7),Sd ps=true→∀x4,(ps.any (out ns)=true∧aR (D_ 4) (cU C) (de ps) [some a,some (nms ns),some m,some (.ref 0),x4] h=.rt (.bl true) h)∨
  (ps.any (out ns)=false∧∃y4,aR (D_ 4) (cU C) (de ps) [some a,some (nms ns),some m,some (.ref 0),x4] h=.nx [some a,some (nms ns),some m,some (.ref 0),y4] h)
 |[],_,x4=>.inr ⟨rfl,x4,rfl⟩
 |p::r,hp,x4=>by
  simp only[Sd,List.all_cons,Bool.and_eq_true]at hp
  have ni:fQ (.str p.a) (nms ns) h=.ok (.bl (out ns p)) h:=by unfold nms;rw[Fb (kF hp.1) (wk hn)];unfold out;simp
  have e:de (p::r)=J0 p::de r:=rfl
  have b:cU C [some a,some (nms ns),some m,some (.ref 0),some (J0 p)] h=if out ns p=true then .rt (.bl true) h else .nx [some a,some (nms ns),some m,some (.ref 0),some (J0 p)] h:=by simp only[EV,cU,ka,nX,Gj,ni]
  rw[e]
  cases o:out ns p with
  |true=>
   left
   refine⟨by simp[o],?_⟩;rw[o,if_pos rfl]at b;rw[aR];show(match cU C [some a,some (nms ns),some m,some (.ref 0),some (J0 p)] h with|.nx ρ2 h2=>_|.ct ρ2 h2=>_|.bk ρ2 h2=>_|.rt v h2=>_|.exc v h2=>_|.bad=>_)=_;rw[b]
  |false=>
   rw[o,if_neg (by decide)]at b
   have st:aR (D_ 4) (cU C) (J0 p::de r) [some a,some (nms ns),some m,some (.ref 0),x4] h=aR (D_ 4) (cU C) (de r) [some a,some (nms ns),some m,some (.ref 0),some (J0 p)] h:=by rw[aR];show(match cU C [some a,some (nms ns),some m,some (.ref 0),some (J0 p)] h with|.nx ρ2 h2=>_|.ct ρ2 h2=>_|.bk ρ2 h2=>_|.rt v h2=>_|.exc v h2=>_|.bad=>_)=_;rw[b]
   rw[st,List.any_cons,o,Bool.false_or];exact rB C ns hn a m h r hp.2 _
def wp(p:G7):Bool:=sg p.a&&(H_ p.f&&decide (p.f.length≤10))
def wps(l:List G7):Bool:=l.all wp&&decide (l.length<60)
mutual
def wN:Nd→Bool
 |.text s=>sg s&&decide (s.length≤1000)
 |.place p w=>wp p&&sg w
 |.loop n p b t=>sg n&&(wp p&&(wS b&&sg t))
 |.choice p y n=>wp p&&(wS y&&wS n)
 |.use n ps=>sg n&&wps ps
 |.j8 n ps h b=>sg n&&(wps ps&&(H_ h&&(decide (h.length<60)&&wS b)))
 |.body ps=>wps ps
def wS:w6→Bool
 |.nil=>true
 |.cons n r=>wN n&&wS r
end
theorem vU{l:List G7}(h:wps l=true):Sd l=true:=by
 unfold wps at h;rw[Bool.and_eq_true]at h
 exact List.all_eq_true.mpr fun p hp=>by have:=List.all_eq_true.mp h.1 p hp;unfold wp at this;rw[Bool.and_eq_true]at this;exact this.1
theorem IF{n:Nd}(h:wN n=true):Sd (pa n)=true:=by
 cases n with
 |text s=>rfl
 |place p w=>rw[wN,wp,Bool.and_eq_true,Bool.and_eq_true]at h;simp[pa,Sd,h.1.1]
 |loop n p b t=>rw[wN,wp,Bool.and_eq_true,Bool.and_eq_true,Bool.and_eq_true]at h;simp[pa,Sd,h.2.1.1]
 |choice p y n=>rw[wN,wp,Bool.and_eq_true,Bool.and_eq_true]at h;simp[pa,Sd,h.1.1]
 |use n ps=>rw[wN,Bool.and_eq_true]at h;exact vU h.2
 |j8 n ps hh b=>rw[wN,Bool.and_eq_true,Bool.and_eq_true]at h;exact vU h.2.1
 |body ps=>rw[wN]at h;exact vU h
theorem um(k:Nat)(E:List Pc)(m:Option Int)(ns:List (List Nat))(hn:H_ ns=true)(n:Nd)(hw:wN n=true):L (k+3) .E_ [nd n,nms ns,v9 m,.ref 0] [.dct (u9 E)]=.ok (.bl (M9 E m ns n)) [.dct (u9 E)]:=by
 show ei (bX (F (k+2))) 4 5 [nd n,nms ns,v9 m,.ref 0] [.dct (u9 E)]=_;have cp:∀h,bO (F (k+2) .I_) [nd n] h=.ok (.tup (de (pa n))) h:=fun h=>aZ h (by rw[aq,bz];rfl) (Bc (k+1) n)
 have fin:∀b:Bool,eU 1 (.bl b) [.dct (u9 E)]=.ok (.bl b) [.dct (u9 E)]:=fun b=>by
  have ep:aS (u9 E)=true:=by
   rw[fP];unfold u9;rw[List.map_map]
   induction E with
   |nil=>rfl
   |cons q r ih=>rw[List.map_cons,aq,ih];simp[eJ]
  unfold eU fV;simp[gx,PV.pure,aT,PO.pure,ep]
 have run:bX (F (k+2)) [some (nd n),some (nms ns),some (v9 m),some (.ref 0),none] [.dct (u9 E)]=.rt (.bl (M9 E m ns n)) [.dct (u9 E)]:=by
  rcases rB (F (k+2)) ns hn (nd n) (v9 m) [.dct (u9 E)] (pa n) (IF hw) none with⟨a1,a2⟩|⟨a1,y4,a2⟩
  ·have:M9 E m ns n=true:=by cases n<;>simp only[pa,List.any_cons,List.any_nil,Bool.or_false]at a1<;>simp[M9,a1]
   rw[this];simp only[EV,bX,jz,cp,a2]
  ·cases n with
   |text s=>simp only[EV,bX,jz,cp,a2,M9];simp only[EV,nd,MP,K5 (a:=tT) (b:=tU) false,K5 (a:=tT) (b:=tB) false]
   |place p w=>simp only[pa,List.any_cons,List.any_nil,Bool.or_false]at a1;simp only[EV,bX,jz,cp,a2,M9,a1];simp only[EV,nd,MP,K5 (a:=tP) (b:=tU) false,K5 (a:=tP) (b:=tB) false]
   |loop x p b t=>simp only[pa,List.any_cons,List.any_nil,Bool.or_false]at a1;simp only[EV,bX,jz,cp,a2,M9,a1];simp only[EV,nd,MP,K5 (a:=tL) (b:=tU) false,K5 (a:=tL) (b:=tB) false]
   |choice p y z=>simp only[pa,List.any_cons,List.any_nil,Bool.or_false]at a1;simp only[EV,bX,jz,cp,a2,M9,a1];simp only[EV,nd,MP,K5 (a:=tC) (b:=tU) false,K5 (a:=tC) (b:=tB) false]
   |body ps=>
    simp only[pa]at a1;simp only[EV,bX,jz,cp,a2,M9,a1]
    cases m with
    |none=>simp only[EV,nd,v9,MP,qY,K5 (a:=tB) (b:=tU) false,K5 (a:=tB) (b:=tB) true]
    |some i=>
     simp only[EV,nd,v9,MP,at1,tH,jP,de,List.length_map,K5 (a:=tB) (b:=tU) false,K5 (a:=tB) (b:=tB) true]
     by_cases e:(ps.length:Int)=i<;>simp[e]
   |use x ps=>
    simp only[pa]at a1;simp only[EV,bX,jz,cp,a2,M9,a1]
    cases l:look E x with
    |none=>simp only[EV,nd,MP,at1,tK,l,K5 (a:=tU) (b:=tU) true]
    |some q=>
     have cw:∀h,bO (F (k+2) .o9) [nd (.use x ps),pc q] h=.ok (.bl (O_ ps q none)) h:=fun h=>aZ h (by rw[aq,aq,bz,eJ];rfl) (CW (k+1) x ps q);have i1:d7 (nd (.use x ps)) (.int 1) [.dct (u9 E)]=.ok (.str x) [.dct (u9 E)]:=by rw[nd];rfl
     have i0:d7 (nd (.use x ps)) (.int 0) [.dct (u9 E)]=.ok (.str tU) [.dct (u9 E)]:=by rw[nd];rfl
     simp only[EV,i0,i1,jz,tK,BT x E [] l,l,cw,K5 (a:=tU) (b:=tU) true]
   |j8 x ps hh b=>
    simp only[pa]at a1;rw[wN,Bool.and_eq_true,Bool.and_eq_true,Bool.and_eq_true,Bool.and_eq_true]at hw;simp only[EV,bX,jz,cp,a2,M9,a1]
    cases l:look E x with
    |none=>simp only[EV,nd,MP,at1,tK,l,K5 (a:=tU) (b:=tU) true]
    |some q=>
     have cw:∀h,bO (F (k+2) .o9) [nd (.j8 x ps hh b),pc q] h=.ok (.bl (O_ ps q (some hh))) h:=fun h=>aZ h (by rw[aq,aq,bz,eJ];rfl) (As k x ps hh b q (of_decide_eq_true hw.2.2.2.1));have i1:d7 (nd (.j8 x ps hh b)) (.int 1) [.dct (u9 E)]=.ok (.str x) [.dct (u9 E)]:=by rw[nd];rfl
     have i0:d7 (nd (.j8 x ps hh b)) (.int 0) [.dct (u9 E)]=.ok (.str tU) [.dct (u9 E)]:=by rw[nd];rfl
     simp only[EV,i0,i1,jz,tK,BT x E [] l,l,cw,K5 (a:=tU) (b:=tU) true]
 have r2:∀p1 p2 p3 p4:PV,ei (bX (F (k+2))) 4 5 [p1,p2,p3,p4] [.dct (u9 E)]=match bX (F (k+2)) [some p1,some p2,some p3,some p4,none] [.dct (u9 E)]with|.nx _ h1=>fV 1 .non h1|.rt v h1=>eU 1 v h1|_=>.bad:=fun _ _ _ _=>rfl
 rw[r2,run];exact fin _
mutual
def dN:Nd→Nat
 |.loop _ _ b _=>dS b+1
 |.choice _ y n=>max (dS y) (dS n)+1
 |.j8 _ _ _ b=>dS b+1
 |_=>0
def dS:w6→Nat
 |.nil=>0
 |.cons n r=>max (dN n) (dS r)
end
theorem ye:∀(l:List PV),aq l=true→Ot (l++ [.ref 0])=[0]∧QG 0 (l++ [.ref 0])=l++ [.ref 0]∧jU (l++ [.ref 0])=true
 |[],_=>⟨rfl,rfl,rfl⟩
 |p::r,h=>by
  rw[aq,Bool.and_eq_true]at h;obtain⟨i1,i2,i3⟩:=ye r h.2;have np:∀i,p≠.ref i:=fun i e=>by have:=h.1;subst e;simp[PV.pure]at this
  have q3:jU (p::(r++ [.ref 0]))=(p.pure&&jU (r++ [.ref 0])):=by cases p<;>first|rfl|exact(np _ rfl).elim
  refine⟨?_,?_,?_⟩
  ·rw[List.cons_append];cases p<;>first|exact i1|exact(np _ rfl).elim
  ·rw[List.cons_append];cases p<;>first|exact congrArg _ i2|exact(np _ rfl).elim
  ·rw[List.cons_append,q3,h.1,i3];rfl
theorem cG{fn:List PV→List PO→Res PV}(l:List PV){o:PO}(hl:aq l=true)(ho:o.pure=true):
  (∀v,v.pure=true→fn (l++ [.ref 0]) [o]=.ok v [o]→w7 fn (l++ [.ref 0]) [o]=.ok v [o])∧(∀v,v.pure=true→fn (l++ [.ref 0]) [o]=.exc v [o]→w7 fn (l++ [.ref 0]) [o]=.exc v [o]):=by
 obtain⟨q1,q2,q3⟩:=ye l hl;have q4:kY [o] [0]=some [o]:=rfl;have q5:(jU (l++ [.ref 0])&&aT [o]&&jj [0])=true:=by rw[q3];simp[aT,ho,jj]
 refine⟨fun v hv e=>?_,fun v hv e=>?_⟩<;>
 ·unfold w7;rw[q1,q4];dsimp only;rw[if_pos q5,q2,e];dsimp only;rw[if_pos ⟨hv,by simp[aT,ho],rfl⟩];rfl
noncomputable def wy(w:List Int):PV:=.tup (w.map PV.int)
theorem io(w:List Int):(wy w).pure=true:=by
 unfold wy;rw[PV.pure]
 induction w with
 |nil=>rfl
 |cons a r ih=>rw[List.map_cons,aq,ih];rfl
theorem gX(E:List Pc):(PO.dct (u9 E)).pure=true:=by
 show aS (u9 E)=true;rw[fP];unfold u9;rw[List.map_map]
 induction E with
 |nil=>rfl
 |cons q r ih=>rw[List.map_cons,aq,ih];simp[eJ]
def yV(E:List Pc):Option (List Int)→Res PV
 |none=>.ok .non [.dct (u9 E)]
 |some w=>.exc (.Nh 2 (wy w)) [.dct (u9 E)]
theorem mF(a b:List PV)(h:List PO)(q:a.length+b.length≤sizeLine):aN (.tup a) (.tup b) h=.ok (.tup (a++b)) h:=by
 cases a with
 |nil=>rfl
 |cons x r=>show(if(x::r).isEmpty=false∧(x::r).length+b.length≤sizeLine then Res.ok (PV.tup (x::r++b)) h else .bad)=_;rw[if_pos ⟨rfl,q⟩]
theorem CI(w:List Int)(x:List Int)(h:List PO)(hl:w.length+x.length≤10000):aN (wy w) (wy x) h=.ok (wy (w++x)) h:=by unfold wy;rw[List.map_append];exact mF _ _ h (by rw[List.length_map,List.length_map];exact Nat.le_trans hl (by decide))
theorem yN(w:List (List Nat))(x:List (List Nat))(h:List PO)(hl:w.length+x.length≤100000):aN (nms w) (nms x) h=.ok (nms (w++x)) h:=by unfold nms;rw[List.map_append];exact mF _ _ h (by rw[List.length_map,List.length_map];exact Nat.le_trans hl (by decide))
theorem oT{a b:List (List Nat)}(ha:H_ a=true)(hb:H_ b=true):H_ (a++b)=true:=by unfold H_ at*;rw[List.all_append,ha,hb];rfl
def qZ(E:List Pc)(ρ:Ev):Option (List Int)→SR
 |none=>.nx ρ [.dct (u9 E)]
 |some w=>.exc (.Nh 2 (wy w)) [.dct (u9 E)]
theorem Bd(k:Nat)(E:List Pc)(m:Option Int)(a c:PV)(i:PV)(w x:List Int)(ns ys:List (List Nat))(b:w6)(n:Nd)(r:Option (List Int))(hw:w.length+x.length≤10000)(hn:ns.length+ys.length≤100000)
  (e:X_ k .g_ [.tup (j6 b),wy (w++x),nms (ns++ys),v9 m,.ref 0] [.dct (u9 E)]=yV E r):
  cC (F k) (X_ k) [some a,some c,some (nms ns),some (v9 m),some (.ref 0),some i,some (nd n),some (wy w),some (Nq x ys b)] [.dct (u9 E)]=qZ E [some a,some c,some (nms ns),some (v9 m),some (.ref 0),some i,some (nd n),some (wy w),some (Nq x ys b)] r:=by
 have p0:∀h,d7 (Nq x ys b) (.int 0) h=.ok (wy x) h:=fun h=>rfl;have p1:∀h,d7 (Nq x ys b) (.int 1) h=.ok (nms ys) h:=fun h=>rfl;have p2:∀h,d7 (Nq x ys b) (.int 2) h=.ok (.tup (j6 b)) h:=fun h=>rfl;have dp:∀h,am h (Nq x ys b)=Nq x ys b:=fun h=>rfl;have dw:∀h,am h (wy w)=wy w:=fun h=>rfl;have mp:(v9 m).pure=true:=by cases m<;>rfl
 obtain⟨c1,c2⟩:=cG (fn:=X_ k .g_) [.tup (j6 b),wy (w++x),nms (ns++ys),v9 m] (o:=.dct (u9 E)) (by simp[aq,PV.pure,bt b,io,bP,mp]) (gX E)
 cases r with
 |none=>have cc:=c1 .non rfl e;simp only[List.cons_append,List.nil_append]at cc;simp only[EV,cC,p0,p1,p2,dp,dw,nX,iO,CI w x _ hw,yN ns ys _ hn,cc,qZ]
 |some v=>have cc:=c2 (.Nh 2 (wy v)) (by rw[PV.pure];exact io v) e;simp only[List.cons_append,List.nil_append]at cc;simp only[EV,cC,p0,p1,p2,dp,dw,nX,iO,CI w x _ hw,yN ns ys _ hn,cc,qZ,Res.Nk]
noncomputable def kT:Nd→List Nat
 |.text _=>tT
 |.place _ _=>tP
 |.loop _ _ _ _=>tL
 |.choice _ _ _=>tC
 |.use _ _=>tU
 |.j8 _ _ _ _=>tU
 |.body _=>tB
theorem Z5(s:List Nat):kT (.text s)=tT:=rfl
theorem Z4(p:G7)(s:List Nat):kT (.place p s)=tP:=rfl
theorem Z2(x:List Nat)(p:G7)(b:w6)(t:List Nat):kT (.loop x p b t)=tL:=rfl
theorem Z1(p:G7)(y z:w6):kT (.choice p y z)=tC:=rfl
theorem Z0(x:List Nat)(ps:List G7):kT (.use x ps)=tU:=rfl
theorem ZW(x:List Nat)(ps:List G7)(h:List (List Nat))(b:w6):kT (.j8 x ps h b)=tU:=rfl
theorem ZV(ps:List G7):kT (.body ps)=tB:=rfl
abbrev qE(a b:List Nat)(c:Bool)(h:List PO):Prop:=J3 (.str a) (.str b) h=.ok (.bl c) h
section
variable(h:List PO)
theorem YZ:qE tT tT true h∧qE tT tP false h∧qE tT tL false h∧qE tT tC false h∧qE tT tU false h∧qE tT tB false h∧qE tP tT false h∧qE tP tP true h∧qE tP tL false h∧qE tP tC false h∧qE tP tU false h∧qE tP tB false h∧qE tL tT false h∧qE tL tP false h∧qE tL tL true h∧qE tL tC false h∧qE tL tU false h∧qE tL tB false h∧qE tC tT false h∧qE tC tP false h∧qE tC tL false h∧qE tC tC true h∧qE tC tU false h∧qE tC tB false h∧qE tU tT false h∧qE tU tP false h∧qE tU tL false h∧qE tU tC false h∧qE tU tU true h∧qE tU tB false h∧qE tB tT false h∧qE tB tP false h∧qE tB tL false h∧qE tB tC false h∧qE tB tU false h∧qE tB tB true h:=by
 repeat' apply And.intro
 all_goals exact K5 _ (h:=h)
theorem Ks(n:Nd):d7 (nd n) (.int 0) h=.ok (.str (kT n)) h:=by cases n<;>(rw[nd];rfl)
theorem JD(p:G7)(w:List Nat):d7 (nd (.place p w)) (.int 1) h=.ok (J0 p) h∧d7 (nd (.place p w)) (.int 2) h=.ok (.str w) h:=by rw[nd];exact⟨rfl,rfl⟩
theorem JE(x:List Nat)(p:G7)(b:w6)(t:List Nat):d7 (nd (.loop x p b t)) (.int 1) h=.ok (.str x) h∧d7 (nd (.loop x p b t)) (.int 2) h=.ok (J0 p) h∧d7 (nd (.loop x p b t)) (.int 3) h=.ok (.tup (j6 b)) h∧d7 (nd (.loop x p b t)) (.int 4) h=.ok (.str t) h:=by rw[nd];exact⟨rfl,rfl,rfl,rfl⟩
theorem JH(p:G7)(y z:w6):d7 (nd (.choice p y z)) (.int 1) h=.ok (J0 p) h∧d7 (nd (.choice p y z)) (.int 2) h=.ok (.tup (j6 y)) h∧d7 (nd (.choice p y z)) (.int 3) h=.ok (.tup (j6 z)) h:=by rw[nd];exact⟨rfl,rfl,rfl⟩
theorem JA(x:List Nat)(ps:List G7):d7 (nd (.use x ps)) (.int 1) h=.ok (.str x) h∧d7 (nd (.use x ps)) (.int 2) h=.ok (.tup (de ps)) h∧d7 (nd (.use x ps)) (.int 3) h=.ok .non h∧d7 (nd (.use x ps)) (.int 4) h=.ok .non h:=by rw[nd];exact⟨rfl,rfl,rfl,rfl⟩
theorem Jz(x:List Nat)(ps:List G7)(hs:List (List Nat))(b:w6):d7 (nd (.j8 x ps hs b)) (.int 1) h=.ok (.str x) h∧d7 (nd (.j8 x ps hs b)) (.int 2) h=.ok (.tup (de ps)) h∧d7 (nd (.j8 x ps hs b)) (.int 3) h=.ok (nms hs) h∧d7 (nd (.j8 x ps hs b)) (.int 4) h=.ok (.tup (j6 b)) h:=by rw[nd];exact⟨rfl,rfl,rfl,rfl⟩
theorem JI(ps:List G7):d7 (nd (.body ps)) (.int 1) h=.ok (.tup (de ps)) h:=by rw[nd];rfl
variable(q:Pc)
theorem zv:d7 (pc q) (.int 1) h=.ok (.str q.n) h∧d7 (pc q) (.int 2) h=.ok (nms q.ns) h∧d7 (pc q) (.int 3) h=.ok (v9 q.m) h∧d7 (pc q) (.int 4) h=.ok (.tup (j6 q.b)) h:=by refine⟨rfl,rfl,?_,rfl⟩;show Res.ok (am h (v9 q.m)) h=_;rw[iO]
theorem xP:am h (pc q)=pc q:=rfl
theorem Kj(B:List Pc):am h (bk B)=bk B:=rfl
theorem Ip(w:List Int):am h (wy w)=wy w:=rfl
theorem HX(B:List Pc):dZ [bk B] h=.ok (.int B.length) h:=by unfold bk;rw[BD,List.length_map]
theorem DF(l:List (List Nat)):dZ [nms l] h=.ok (.int l.length) h:=by unfold nms;rw[BD,List.length_map]
end
theorem GH(m:Option Int):kq (v9 m)=!m.isSome:=by cases m<;>rfl
abbrev qD(n:Int):Prop:=decide (0<n∧n<1073741824)=true
theorem mls(x:Int):gV 3 x=true∧gV 5 x=true∧gV 7 x=true∧gV 12 x=true∧gV 31 x=true∧gV 7919 x=true∧gV x 48271=true:=by refine⟨?_,?_,?_,?_,?_,?_,tq (by decide)⟩<;>exact GF (by decide)
local macro_rules | `(tactic| simp $c:optConfig only [EX,$xs,*])=>do let a←(("jz nX Kj xP Ip ka iO zv MP at1 at2 QM Ut qY tH vx Gm jP Ks Z5 Z4 Z2 Z1 Z0 ZW ZV YZ JD JE JH JA Jz HX DF GH mls".splitOn.map fun n=>n.toName)).toArray.mapM fun n=>`(Lean.Parser.Tactic.simpLemma| $(Lean.mkIdent n):term);`(tactic| simp $c:optConfig only [EV,$a,*,$xs,*])
theorem qm(k:Nat)(E:List Pc)(m:Option Int)(a c i:PV)(w:List Int)(ns:List (List Nat))(n:Nd)(f:List Int×List (List Nat)×w6→Option (List Int)):
  ∀(l:List (List Int×List (List Nat)×w6))(x8:Option PV),(∀x∈l,w.length+x.1.length≤10000∧ns.length+x.2.1.length≤100000∧X_ k .g_ [.tup (j6 x.2.2),wy (w++x.1),nms (ns++x.2.1),v9 m,.ref 0] [.dct (u9 E)]=yV E (f x))→
  ∃y8,aR (D_ 8) (cC (F k) (X_ k)) (l.map fun x=>Nq x.1 x.2.1 x.2.2) [some a,some c,some (nms ns),some (v9 m),some (.ref 0),some i,some (nd n),some (wy w),x8] [.dct (u9 E)]=
   qZ E [some a,some c,some (nms ns),some (v9 m),some (.ref 0),some i,some (nd n),some (wy w),y8] (l.findSome? f)
 |[],x8,_=>⟨x8,rfl⟩
 |x::r,x8,hx=>by
  obtain⟨h1,h2,h3⟩:=hx x List.mem_cons_self;have one:=Bd k E m a c i w x.1 ns x.2.1 x.2.2 n (f x) h1 h2 h3;obtain⟨y8,ih⟩:=qm k E m a c i w ns n f r (some (Nq x.1 x.2.1 x.2.2)) fun z hz=>hx z (List.mem_cons_of_mem _ hz);rw[List.map_cons,aR]
  cases e:f x with
  |none=>rw[e]at one;refine⟨y8,?_⟩;rw[List.findSome?_cons_of_isNone (by rw[e];rfl)];show(match cC (F k) (X_ k) [some a,some c,some (nms ns),some (v9 m),some (.ref 0),some i,some (nd n),some (wy w),some (Nq x.1 x.2.1 x.2.2)] [.dct (u9 E)]with|.nx ρ2 h2=>_|.ct ρ2 h2=>_|.bk ρ2 h2=>_|.rt v h2=>_|.exc v h2=>_|.bad=>_)=_;rw[one];exact ih
  |some v=>rw[e]at one;refine⟨x8,?_⟩;rw[List.findSome?_cons_of_isSome (by rw[e];rfl),e];show(match cC (F k) (X_ k) [some a,some c,some (nms ns),some (v9 m),some (.ref 0),some i,some (nd n),some (wy w),some (Nq x.1 x.2.1 x.2.2)] [.dct (u9 E)]with|.nx ρ2 h2=>_|.ct ρ2 h2=>_|.bk ρ2 h2=>_|.rt v h2=>_|.exc v h2=>_|.bad=>_)=_;rw[one];rfl
theorem yp(E:List Pc)(m:Option Int)(w:List Int)(ns:List (List Nat))(n:Nd):Qh E m w ns n=(prs n).findSome? fun x=>MK E m (w++x.1) 0 (ns++x.2.1) x.2.2:=by
 cases n with
 |choice p y z=>
  rw[Qh,prs,List.findSome?_cons,List.findSome?_cons,List.findSome?_nil];dsimp only;rw[List.append_nil]
  cases MK E m (w++ [0]) 0 ns y with
  |some v=>rfl
  |none=>cases MK E m (w++ [1]) 0 ns z<;>rfl
 |loop x p b t=>rw[Qh,prs,List.findSome?_cons,List.findSome?_nil];dsimp only;rw[List.append_nil];cases MK E m w 0 (ns++ [x]) b<;>rfl
 |j8 x p h b=>rw[Qh,prs,List.findSome?_cons,List.findSome?_nil];dsimp only;rw[List.append_nil];cases MK E m w 0 (ns++h) b<;>rfl
 |text s=>rfl
 |place p s=>rfl
 |use x p=>rfl
 |body p=>rfl
theorem Bv(k:Nat)(E:List Pc)(m:Option Int)(a:PV)(w:List Int)(ns:List (List Nat))(i:Nat)(n:Nd)(x7 x8:Option PV)(hn:H_ ns=true)(hw:wN n=true)(lw:w.length+10≤10000)
  (hx:∀x∈prs n,(w++ [(i:Int)]).length+x.1.length≤10000∧ns.length+x.2.1.length≤100000∧X_ (k+3) .g_ [.tup (j6 x.2.2),wy (w++ [(i:Int)]++x.1),nms (ns++x.2.1),v9 m,.ref 0] [.dct (u9 E)]=yV E (MK E m (w++ [(i:Int)]++x.1) 0 (ns++x.2.1) x.2.2)):
  ∃y7 y8,bI (F (k+3)) (L (k+3)) (X_ (k+3)) (Nat.ble 2 (k+3)) [some a,some (wy w),some (nms ns),some (v9 m),some (.ref 0),some (.int i),some (nd n),x7,x8] [.dct (u9 E)]=
   qZ E [some a,some (wy w),some (nms ns),some (v9 m),some (.ref 0),some (.int i),some (nd n),y7,y8] (if M9 E m ns n=true then some (w++ [(i:Int)])else Qh E m (w++ [(i:Int)]) ns n):=by
 have ad:aN (wy w) (.tup [.int i]) [.dct (u9 E)]=.ok (wy (w++ [(i:Int)])) [.dct (u9 E)]:=CI w [(i:Int)] _ (by simp;omega);have mp:(v9 m).pure=true:=by cases m<;>rfl
 have cw:w7 (L (k+3) .E_) [nd n,nms ns,v9 m,.ref 0] [.dct (u9 E)]=.ok (.bl (M9 E m ns n)) [.dct (u9 E)]:=
  (cG (fn:=L (k+3) .E_) [nd n,nms ns,v9 m] (o:=.dct (u9 E)) (by simp[aq,bz,bP,mp]) (gX E)).1 _ rfl (um k E m ns hn n hw)
 have cp:∀h,bO (F (k+3) .m8) [nd n] h=.ok (.lst ((prs n).map fun x=>Nq x.1 x.2.1 x.2.2)) h:=fun h=>aZ h (by rw[aq,bz];rfl) (uW (k+2) n);have hz:Nat.ble 2 (k+3)=true:=by simp[Nat.ble]
 cases e:M9 E m ns n with
 |true=>rw[e]at cw;refine⟨some (wy (w++ [(i:Int)])),x8,?_⟩;simp only[EX,bI,ad,cw,jX _ _ _ _ _ hz,qZ]
 |false=>rw[e]at cw;obtain⟨y8,lp⟩:=qm (k+3) E m a (wy w) (.int i) (w++ [(i:Int)]) ns n (fun x=>MK E m (w++ [(i:Int)]++x.1) 0 (ns++x.2.1) x.2.2) (prs n) x8 hx;rw[← yp]at lp;refine⟨some (wy (w++ [(i:Int)])),y8,?_⟩;simp only[EX,bI,ad,cw,cp,lp]
theorem Ar{n:Nd}(hw:wN n=true):∀x∈prs n,wS x.2.2=true∧H_ x.2.1=true∧dS x.2.2<dN n∧x.1.length≤1∧x.2.1.length≤60:=by
 intro x hx
 cases n with
 |loop y p b t=>
  rw[wN,Bool.and_eq_true,Bool.and_eq_true,Bool.and_eq_true]at hw
  cases List.mem_singleton.mp hx
  exact⟨hw.2.2.1,by simp[H_,hw.1],by rw[dN];exact Nat.lt_succ_self _,Nat.zero_le _,by simp⟩
 |choice p y z=>
  rw[wN,Bool.and_eq_true,Bool.and_eq_true]at hw;rcases List.mem_cons.mp hx with e|e
  ·subst e;exact⟨hw.2.1,rfl,by rw[dN];exact Nat.lt_succ_of_le (Nat.le_max_left _ _),Nat.le_refl _,Nat.zero_le _⟩
  ·cases List.mem_singleton.mp e
   exact⟨hw.2.2,rfl,by rw[dN];exact Nat.lt_succ_of_le (Nat.le_max_right _ _),Nat.le_refl _,Nat.zero_le _⟩
 |j8 y p h b=>
  rw[wN,Bool.and_eq_true,Bool.and_eq_true,Bool.and_eq_true,Bool.and_eq_true]at hw
  cases List.mem_singleton.mp hx
  exact⟨hw.2.2.2.2,hw.2.2.1,by rw[dN];exact Nat.lt_succ_self _,Nat.zero_le _,Nat.le_of_lt (of_decide_eq_true hw.2.2.2.1)⟩
 |text s=>cases hx
 |place p s=>cases hx
 |use y p=>cases hx
 |body p=>cases hx
def yP(d:Nat):Prop:=∀(b:w6)(E:List Pc)(m:Option Int)(w:List Int)(ns:List (List Nat))(k:Nat),dS b≤d→wS b=true→H_ ns=true→dS b+4≤k→w.length+2 * dS b+10≤10000→ns.length+60 * dS b+60≤100000→
 X_ k .g_ [.tup (j6 b),wy w,nms ns,v9 m,.ref 0] [.dct (u9 E)]=yV E (MK E m w 0 ns b)
theorem qr(d k:Nat)(ok:∀d',d'<d→yP d')(E:List Pc)(m:Option Int)(a:PV)(w:List Int)(ns:List (List Nat))(hn:H_ ns=true)(hk:d+4≤k+4)(lw:w.length+2 * d+10≤10000)(ln:ns.length+60 * d+60≤100000):
  ∀(b:w6)(j:Nat)(x5 x6 x7 x8:Option PV),dS b≤d→wS b=true→∃y5 y6 y7 y8,
   aR aau (bI (F (k+3)) (L (k+3)) (X_ (k+3)) (Nat.ble 2 (k+3))) (Ma j (j6 b)) [some a,some (wy w),some (nms ns),some (v9 m),some (.ref 0),x5,x6,x7,x8] [.dct (u9 E)]=
    qZ E [some a,some (wy w),some (nms ns),some (v9 m),some (.ref 0),y5,y6,y7,y8] (MK E m w j ns b)
 |.nil,j,x5,x6,x7,x8,_,_=>⟨x5,x6,x7,x8,by rw[j6,Ma,aR,MK];rfl⟩
 |.cons n r,j,x5,x6,x7,x8,hd,hw=>by
  rw[dS]at hd;rw[wS,Bool.and_eq_true]at hw;have dn:dN n≤d:=Nat.le_trans (Nat.le_max_left _ _) hd;have dr:dS r≤d:=Nat.le_trans (Nat.le_max_right _ _) hd
  obtain⟨y7,y8,one⟩:=Bv k E m a w ns j n x7 x8 hn hw.1 (by omega) fun x hx=>by
   obtain⟨h1,h2,h3,h4,h5⟩:=Ar hw.1 x hx;have l1:(w++ [(j:Int)]).length=w.length+1:=by simp
   refine⟨by omega,by omega,ok (dS x.2.2) (by omega) x.2.2 E m _ _ (k+3) (Nat.le_refl _) h1 (oT hn h2) (by omega) ?_ ?_⟩
   ·rw[List.length_append,l1];omega
   ·rw[List.length_append];omega
  have st:∀(R:SR),bI (F (k+3)) (L (k+3)) (X_ (k+3)) (Nat.ble 2 (k+3)) [some a,some (wy w),some (nms ns),some (v9 m),some (.ref 0),some (.int j),some (nd n),x7,x8] [.dct (u9 E)]=R→
    aR aau (bI (F (k+3)) (L (k+3)) (X_ (k+3)) (Nat.ble 2 (k+3))) (Ma j (nd n::j6 r)) [some a,some (wy w),some (nms ns),some (v9 m),some (.ref 0),x5,x6,x7,x8] [.dct (u9 E)]=
    match R with
    |.nx ρ2 h2=>aR aau (bI (F (k+3)) (L (k+3)) (X_ (k+3)) (Nat.ble 2 (k+3))) (Ma (j+1) (j6 r)) ρ2 h2
    |.ct ρ2 h2=>aR aau (bI (F (k+3)) (L (k+3)) (X_ (k+3)) (Nat.ble 2 (k+3))) (Ma (j+1) (j6 r)) ρ2 h2
    |.bk ρ2 h2=>.nx ρ2 h2
    |.rt v h2=>.rt v h2
    |.exc v h2=>.exc v h2
    |.bad=>.bad:=fun R e=>by subst e;rfl
  rw[j6,st _ one,MK]
  cases e:M9 E m ns n with
  |true=>exact⟨x5,x6,x7,x8,rfl⟩
  |false=>
   rw[if_neg (by decide),if_neg (by decide)]
   cases e2:Qh E m (w++ [(j:Int)]) ns n with
   |some v=>exact⟨x5,x6,x7,x8,rfl⟩
   |none=>exact qr d k ok E m a w ns hn hk lw ln r (j+1) (some (.int j)) (some (nd n)) y7 y8 dr hw.2
theorem Bs:∀d,yP d:=by
 intro d
 induction d using Nat.strongRecOn with
 |ind d ih=>
  intro b E m w ns k hd hw hn hk lw ln;obtain⟨k',rfl⟩:∃k',k=k'+4:=⟨k - 4,by omega⟩
  have lp:=qr (dS b) k' (fun d' h=>ih d' (by omega)) E m (.tup (j6 b)) w ns hn hk lw ln b 0 none none none none (Nat.le_refl _) hw;obtain⟨y5,y6,y7,y8,lp⟩:=lp;show nN (fj (F (k'+3)) (L (k'+3)) (X_ (k'+3)) (Nat.ble 2 (k'+3))) 5 9 [.tup (j6 b),wy w,nms ns,v9 m,.ref 0] [.dct (u9 E)]=_;have ru:fj (F (k'+3)) (L (k'+3)) (X_ (k'+3)) (Nat.ble 2 (k'+3)) [some (.tup (j6 b)),some (wy w),some (nms ns),some (v9 m),some (.ref 0),none,none,none,none] [.dct (u9 E)]=qZ E [some (.tup (j6 b)),some (wy w),some (nms ns),some (v9 m),some (.ref 0),y5,y6,y7,y8] (MK E m w 0 ns b):=lp
  have r2:nN (fj (F (k'+3)) (L (k'+3)) (X_ (k'+3)) (Nat.ble 2 (k'+3))) 5 9 [.tup (j6 b),wy w,nms ns,v9 m,.ref 0] [.dct (u9 E)]=match fj (F (k'+3)) (L (k'+3)) (X_ (k'+3)) (Nat.ble 2 (k'+3)) [some (.tup (j6 b)),some (wy w),some (nms ns),some (v9 m),some (.ref 0),none,none,none,none] [.dct (u9 E)]with
   |.nx _ h1=>fV 1 .non h1
   |.rt v h1=>eU 1 v h1
   |.exc e h1=>vD 1 e h1
   |_=>.bad:=rfl
  have ep:=gX E;rw[r2,ru]
  cases MK E m w 0 ns b with
  |none=>simp[qZ,yV,fV,aT,ep]
  |some v=>
   have:(PV.Nh 2 (wy v)).pure=true:=by rw[PV.pure];exact io v
   simp[qZ,yV,vD,aT,ep,this]
theorem mS(q:Pc)(E:List Pc)(h:(E.map (·.n)).contains q.n=false):bK (u9 E) (.inr q.n) (pc q)=u9 (E++ [q]):=by
 have a:((u9 E).any fun kv=>decide (kv.1=.inr q.n))=false:=by
  rw[List.any_eq_false];intro kv hk;obtain⟨p,hp,rfl⟩:=List.mem_map.mp hk;intro z;have e:p.n=q.n:=Sum.inr.inj (of_decide_eq_true z);have:(E.map (·.n)).contains q.n=true:=by rw[List.contains_iff_mem,← e];exact List.mem_map.mpr ⟨p,hp,rfl⟩
  rw[h]at this;cases this
 unfold bK;rw[a,if_neg (by decide)];unfold u9;rw[List.map_append];rfl
theorem mZ(E:List Pc)(n:List Nat):(look E n).isSome=(E.map (·.n)).contains n:=by
 unfold look
 induction E with
 |nil=>rfl
 |cons q r ih=>
  rw[List.map_cons,List.contains_cons,List.find?_cons]
  cases e:q.n==n with
  |true=>have:q.n=n:=eq_of_beq e;subst this;simp
  |false=>
   have:(n==q.n)=false:=by rw[beq_eq_false_iff_ne];intro z;subst z;simp at e
   rw[this,Bool.false_or];exact ih
theorem iA(n:List Nat)(E:List Pc)(r:List PO):PB (.str n) (.ref 0) (.dct (u9 E)::r)=.ok (.bl ((E.map (·.n)).contains n)) (.dct (u9 E)::r):=by show(match some (dq (u9 E) (.inr n)).isSome with|some b=>Res.ok (PV.bl b) (.dct (u9 E)::r)|none=>Res.bad)=_;rw[mG,Option.isSome_map,mZ]
def wC(q:Pc):Bool:=sg q.n&&(H_ q.ns&&(decide (q.ns.length<60)&&(wS q.b&&decide (dS q.b≤20))))
def ED(ρ:Ev)(E:List Pc):Option (List Int)→SR
 |none=>.nx ρ [.dct (u9 E)]
 |some w=>.exc (.Nh 2 (wy w)) [.dct (u9 E)]
theorem zq(k:Nat)(B:List Pc)(E:List Pc)(q:Pc)(hw:wC q=true)(hk:44≤k)(lE:E.length≤1000)(x4:Option PV):
  ∃y4,(if((E.map (·.n)).contains q.n||dup q.ns||(decide (E.length+1=B.length)&&q.m.isSome))=true then
   aM (F k) (X_ k) (Nat.ble 2 (dl k)) [some (bk B),some (.ref 0),some (.int E.length),some (pc q),x4] [.dct (u9 E)]=.exc (.Nh 2 (wy [(E.length:Int)])) [.dct (u9 E)]
  else match MK E q.m [(E.length:Int)] 0 q.ns q.b with
   |some w=>aM (F k) (X_ k) (Nat.ble 2 (dl k)) [some (bk B),some (.ref 0),some (.int E.length),some (pc q),x4] [.dct (u9 E)]=.exc (.Nh 2 (wy w)) [.dct (u9 E)]
   |none=>aM (F k) (X_ k) (Nat.ble 2 (dl k)) [some (bk B),some (.ref 0),some (.int E.length),some (pc q),x4] [.dct (u9 E)]=.nx [some (bk B),some (.ref 0),some (.int E.length),some (pc q),y4] [.dct (u9 (E++ [q]))]):=by
 simp only[wC,Bool.and_eq_true,decide_eq_true_eq]at hw;obtain⟨w1,w2,w3,w4,w5⟩:=hw
 have p3:∀h,d7 (pc q) (.int 3) h=.ok (v9 q.m) h:=fun h=>by show Res.ok (am h (v9 q.m)) h=_;rw[iO]
 have el:decide ((E.length:Int)=(B.length:Int) - 1)=decide (E.length+1=B.length):=by
  by_cases e:E.length+1=B.length
  ·rw[decide_eq_true e];exact decide_eq_true (by omega)
  ·rw[decide_eq_false e];exact decide_eq_false (by omega)
 obtain⟨k',rfl⟩:∃k',k=k'+1:=⟨k - 1,by omega⟩
 have tw:∀h,bO (F (k'+1) .v7) [nms q.ns] h=.ok (.bl (dup q.ns)) h:=fun h=>aZ h (by rw[aq,bP];rfl) (pF k' q.ns w3);have hz:Nat.ble 2 (dl (k'+1))=true:=rfl;have mp:(v9 q.m).pure=true:=by cases q.m<;>rfl
 have nk:=Bs (dS q.b) q.b E q.m [(E.length:Int)] q.ns (k'+1) (Nat.le_refl _) w4 w2 (by omega) (by simp;omega) (by omega);obtain⟨c1,c2⟩:=cG (fn:=X_ (k'+1) .g_) [.tup (j6 q.b),wy [(E.length:Int)],nms q.ns,v9 q.m] (o:=.dct (u9 E)) (by simp[aq,PV.pure,bt q.b,io,bP,mp]) (gX E);have sz:(u9 E).length<16777216:=by unfold u9;rw[List.length_map];omega
 cases h1:(E.map (·.n)).contains q.n with
 |true=>refine⟨x4,?_⟩;rw[if_pos (by simp)];simp only[EX,aM,el,iA,h1,jX _ _ _ _ _ hz];rfl
 |false=>
  cases h2:dup q.ns with
  |true=>refine⟨x4,?_⟩;rw[if_pos (by simp)];simp only[EX,aM,el,iA,h1,tw,h2,jX _ _ _ _ _ hz];rfl
  |false=>
   have go:aM (F (k'+1)) (X_ (k'+1)) (Nat.ble 2 (dl (k'+1))) [some (bk B),some (.ref 0),some (.int E.length),some (pc q),x4] [.dct (u9 E)]=
     if(decide (E.length+1=B.length)&&q.m.isSome)=true then .exc (.Nh 2 (wy [(E.length:Int)])) [.dct (u9 E)]else
     match MK E q.m [(E.length:Int)] 0 q.ns q.b with
     |some w=>.exc (.Nh 2 (wy w)) [.dct (u9 E)]
     |none=>.nx [some (bk B),some (.ref 0),some (.int E.length),some (pc q),some (.bl (decide (E.length+1=B.length)))] [.dct (u9 (E++ [q]))]:=by
    cases h3:decide (E.length+1=B.length)&&q.m.isSome with
    |true=>rw[Bool.and_eq_true]at h3;rw[if_pos rfl];simp only[EX,aM,p3,el,iA,h1,tw,h2,h3.1,h3.2,jX _ _ _ _ _ hz];rfl
    |false=>
     rw[if_neg (by decide)]
     cases e:MK E q.m [(E.length:Int)] 0 q.ns q.b with
     |some w=>
      rw[e]at nk;have cc:=c2 (.Nh 2 (wy w)) (by rw[PV.pure];exact io w) nk;simp only[List.cons_append,List.nil_append]at cc;have RZ:w7 (X_ (k'+1) .g_) [.tup (j6 q.b),.tup [.int E.length],nms q.ns,v9 q.m,.ref 0] [.dct (u9 E)]=.exc (.Nh 2 (wy w)) [.dct (u9 E)]:=cc
      cases d:decide (E.length+1=B.length)with
      |false=>simp only[EX,aM,p3,el,iA,h1,tw,h2,d,RZ,Res.Nk]
      |true=>rw[d,Bool.true_and]at h3;simp only[EX,aM,p3,el,iA,h1,tw,h2,d,h3,RZ,Res.Nk]
     |none=>
      rw[e]at nk;have cc:=c1 .non rfl nk;simp only[List.cons_append,List.nil_append]at cc;have RZ:w7 (X_ (k'+1) .g_) [.tup (j6 q.b),.tup [.int E.length],nms q.ns,v9 q.m,.ref 0] [.dct (u9 E)]=.ok .non [.dct (u9 E)]:=cc
      cases d:decide (E.length+1=B.length)with
      |false=>simp only[EX,aM,p3,el,iA,h1,tw,h2,d,RZ,sz,mS q E h1]
      |true=>rw[d,Bool.true_and]at h3;simp only[EX,aM,p3,el,iA,h1,tw,h2,d,h3,RZ,sz,mS q E h1]
   refine⟨some (.bl (decide (E.length+1=B.length))),?_⟩;rw[Bool.false_or,Bool.false_or,go]
   split
   ·rfl
   ·cases MK E q.m [(E.length:Int)] 0 q.ns q.b<;>rfl
theorem qt(k:Nat)(B:List Pc)(hk:44≤k)(lB:B.length≤1000):∀(r E:List Pc)(x2 x3 x4:Option PV),E.length+r.length=B.length→(∀q∈r,wC q=true)→∃y2 y3 y4 E',
  aR aav (aM (F k) (X_ k) (Nat.ble 2 (dl k))) (Ma E.length (r.map pc)) [some (bk B),some (.ref 0),x2,x3,x4] [.dct (u9 E)]=ED [some (bk B),some (.ref 0),y2,y3,y4] E' (Ou B.length E r)
 |[],E,x2,x3,x4,_,_=>⟨x2,x3,x4,E,by rw[List.map_nil,Ma,aR,Ou];rfl⟩
 |q::r,E,x2,x3,x4,hl,hw=>by
  rw[List.length_cons]at hl;obtain⟨y4,one⟩:=zq k B E q (hw q List.mem_cons_self) hk (by omega) x4
  have st:∀(R:SR),aM (F k) (X_ k) (Nat.ble 2 (dl k)) [some (bk B),some (.ref 0),some (.int E.length),some (pc q),x4] [.dct (u9 E)]=R→
    aR aav (aM (F k) (X_ k) (Nat.ble 2 (dl k))) (Ma E.length (pc q::r.map pc)) [some (bk B),some (.ref 0),x2,x3,x4] [.dct (u9 E)]=
    match R with
    |.nx ρ2 h2=>aR aav (aM (F k) (X_ k) (Nat.ble 2 (dl k))) (Ma (E.length+1) (r.map pc)) ρ2 h2
    |.ct ρ2 h2=>aR aav (aM (F k) (X_ k) (Nat.ble 2 (dl k))) (Ma (E.length+1) (r.map pc)) ρ2 h2
    |.bk ρ2 h2=>.nx ρ2 h2
    |.rt v h2=>.rt v h2
    |.exc v h2=>.exc v h2
    |.bad=>.bad:=fun R e=>by subst e;rfl
  rw[List.map_cons,Ou]
  split at one
  ·rename_i c;rw[st _ one,if_pos c];exact⟨x2,x3,x4,E,rfl⟩
  ·rename_i c;rw[if_neg c]
   split at one
   ·rename_i w e;rw[st _ one,e];exact⟨x2,x3,x4,E,rfl⟩
   ·rename_i e;rw[st _ one,e];have l1:(E++ [q]).length=E.length+1:=by simp
    have ih:=qt k B hk lB r (E++ [q]) (some (.int E.length)) (some (pc q)) y4 (by rw[l1];omega) fun z hz=>hw z (List.mem_cons_of_mem _ hz);rw[l1]at ih;exact ih
theorem By(k:Nat)(B:List Pc)(hk:44≤k)(lB:B.length≤1000)(hw:∀q∈B,wC q=true):X_ (k+1) .m7 [bk B] []=match Ou B.length [] B with|none=>.ok .non []|some w=>.exc (.Nh 2 (wy w)) []:=by
 obtain⟨y2,y3,y4,E',lp⟩:=qt k B hk lB B [] none none none (by simp) hw;show nN (fm (F k) (X_ k) (Nat.ble 2 (dl k))) 1 5 [bk B] []=_;have ru:fm (F k) (X_ k) (Nat.ble 2 (dl k)) [some (bk B),none,none,none,none] []=ED [some (bk B),some (.ref 0),y2,y3,y4] E' (Ou B.length [] B):=lp
 have r2:nN (fm (F k) (X_ k) (Nat.ble 2 (dl k))) 1 5 [bk B] []=match fm (F k) (X_ k) (Nat.ble 2 (dl k)) [some (bk B),none,none,none,none] []with
   |.nx _ h1=>fV 0 .non h1
   |.rt v h1=>eU 0 v h1
   |.exc e h1=>vD 0 e h1
   |_=>.bad:=rfl
 rw[r2,ru]
 cases Ou B.length [] B with
 |none=>simp[ED,fV,aT]
 |some v=>
  have:(PV.Nh 2 (wy v)).pure=true:=by rw[PV.pure];exact io v
  simp[ED,vD,aT,this]
mutual
def Ls:Nd→Nat
 |.loop _ _ b _=>J8 b
 |.choice _ y n=>J8 y+J8 n
 |.j8 _ _ _ b=>J8 b
 |_=>0
def J8:w6→Nat
 |.nil=>0
 |.cons n r=>Ls n+1+J8 r
end
section
variable{h:List PO}{i:Nat}{acc:List PV}
theorem HI(e:h[i]? =some (.lst acc)):am h (.ref i)=.ref i:=by show(match h[i]? with|some (.G6 q)=>q|_=>PV.ref i)=_;rw[e]
theorem FC(e:h[i]? =some (.lst acc))(x:PV)(hl:acc.length<16000000):bU (.ref i) [x] h=.ok .non (h.set i (.lst (acc++ [x]))):=by
 have e2:lX h (.ref i)=some (i,acc):=by unfold lX;simp only[e]
 unfold bU;rw[e2];dsimp only;rw[if_pos (Nat.lt_trans hl (by decide))]
theorem Ig(e:h[i]? =some (.lst acc))(ys:List PV)(hl:acc.length+ys.length≤16000000):aN (.ref i) (.lst ys) h=.ok (.lst (acc++ys)) h:=by show zA (.ref i) (.lst ys) h=_;unfold zA;simp only[Ra,e];rw[if_pos (Nat.le_trans hl (by decide))]
end
def fd(d:Nat)(p:PV):Prop:=(toD p).canLay0=true∧(toD p).depth≤d∧p.pure=true
def fds(d:Nat)(l:List PV):Prop:=PyData.canLayAll0 (jq l)=true∧PyData.depthAll (jq l)≤d∧aq l=true
theorem cY(d:Nat):fds d []:=⟨by simp[jq,PyData.canLayAll0],by simp[jq,PyData.depthAll],by simp[aq]⟩
theorem aH{d:Nat}{p:PV}{l:List PV}(h:fd d p)(t:fds d l):fds d (p::l):=by
 refine⟨?_,?_,?_⟩
 ·simp only[jq,PyData.canLayAll0,h.1,t.1,Bool.and_self]
 ·simp only[jq,PyData.depthAll];exact Nat.max_le.mpr ⟨h.2.1,t.2.1⟩
 ·simp only[aq,h.2.2,t.2.2,Bool.and_self]
theorem cJ{d:Nat}{l:List PV}(h:fds d l):fd (d+1) (.tup l):=by
 refine⟨?_,?_,?_⟩
 ·simp only[toD,PyData.canLay0,h.1]
 ·simp only[toD,PyData.depth];have:=h.2.1;omega
 ·simpa[PV.pure]using h.2.2
theorem bE{d e:Nat}{p:PV}(h:fd d p)(le:d≤e):fd e p:=⟨h.1,Nat.le_trans h.2.1 le,h.2.2⟩
theorem vA{d e:Nat}{l:List PV}(h:fds d l)(le:d≤e):fds e l:=⟨h.1,Nat.le_trans h.2.1 le,h.2.2⟩
theorem EC{l:List PV}(hl:fds 59 l)(h:List L3.PO):J3 (.lst l) (.lst []) h=.ok (.bl l.isEmpty) h:=by
 have ok:LC h (.lst l)=true:=by unfold LC Lz;have:=hl.2.1;simp only[toD,PyData.canLay0,PyData.depth,hl.1,Bool.true_and,decide_eq_true_eq];omega
 unfold J3;rw[if_pos ⟨ok,rfl⟩]
 cases l<;>rfl
theorem DJ{l:List PV}(hl:fds 59 l)(h:List L3.PO):NZ (.lst l) (.lst []) h=.ok (.bl (!l.isEmpty)) h:=by
 have ok:LC h (.lst l)=true:=by unfold LC Lz;have:=hl.2.1;simp only[toD,PyData.canLay0,PyData.depth,hl.1,Bool.true_and,decide_eq_true_eq];omega
 unfold NZ;rw[if_pos ⟨ok,rfl⟩]
 cases l<;>rfl
theorem HP{α:Type}(l:List α)(b:Nat):cut l none (some (b:Int))=l.take b:=by
 unfold cut;rw[HT.Lg,HT.Pj,List.drop_zero,Nat.sub_zero];rcases Nat.le_total b l.length with q|q
 ·rw[Nat.min_eq_left q]
 ·rw[Nat.min_eq_right q,List.take_of_length_le (Nat.le_refl _),List.take_of_length_le q]
theorem Dc(xs:List PV)(lo hi:Option Int)(h:List PO):lR (.tup xs) lo hi h=.ok (.tup (cut xs lo hi)) h:=by
 unfold lR;dsimp only
 split
 ·rename_i hz;unfold cut;rw[hz.1,hz.2];simp
 ·rfl
theorem FT(xs:List PV)(j:Nat)(h:List PO):lR (.tup xs) none (some (j:Int)) h=.ok (.tup (xs.take j)) h:=by rw[Dc,HP]
theorem cQ{d:Nat}{l:List Nat}(h:sg l=true):fd d (.str l):=⟨by simp only[toD,PyData.canLay0];simp[PyData.strOk,S];exact fun c hc=>kF h c hc,by simp[toD,PyData.depth],by simp[PV.pure]⟩
theorem Ci(d:Nat)(i:Int):fd d (.int i):=⟨by simp[toD,PyData.canLay0],by simp[toD,PyData.depth],by simp[PV.pure]⟩
theorem xk(d:Nat):fd d .non:=⟨by simp[toD,PyData.canLay0],by simp[toD,PyData.depth],by simp[PV.pure]⟩
theorem iR{d:Nat}:∀{l:List (List Nat)},H_ l=true→fds d (l.map PV.str)
 |[],_=>cY d
 |a::r,h=>by rw[H_,List.all_cons,Bool.and_eq_true]at h;exact aH (cQ h.1) (iR h.2)
theorem Ch{d:Nat}{l:List (List Nat)}(h:H_ l=true):fd (d+1) (nms l):=cJ (iR h)
theorem tV{d:Nat}{p:G7}(h:wp p=true):fd (d+1) (J0 p):=by rw[wp,Bool.and_eq_true,Bool.and_eq_true]at h;exact cJ (aH (cQ h.1) (iR h.2.1))
theorem nv{d:Nat}:∀{l:List G7},l.all wp=true→fds (d+1) (de l)
 |[],_=>cY _
 |a::r,h=>by rw[List.all_cons,Bool.and_eq_true]at h;exact aH (tV h.1) (nv h.2)
theorem sw{l:List G7}(h:wps l=true):l.all wp=true:=by rw[wps,Bool.and_eq_true]at h;exact h.1
theorem ko:sg tT=true∧sg tP=true∧sg tL=true∧sg tC=true∧sg tU=true∧sg tB=true∧sg tI=true:=by decide
mutual
theorem Fo:∀{n:Nd},wN n=true→fd (2 * dN n+4) (nd n)
 |.text s,h=>by rw[wN]at h;rw[nd];exact bE (cJ (aH (cQ ko.1) (aH (cQ ((Bool.and_eq_true _ _).mp h).1) (cY 0)))) (by omega)
 |.place p w,h=>by rw[wN,Bool.and_eq_true]at h;rw[nd];exact bE (cJ (d:=1) (aH (cQ ko.2.1) (aH (tV h.1) (aH (cQ h.2) (cY 1))))) (by omega)
 |.loop x p b t,h=>by rw[wN,Bool.and_eq_true,Bool.and_eq_true,Bool.and_eq_true]at h;rw[nd,dN];have q:=cJ (qB h.2.2.1);exact bE (cJ (aH (cQ ko.2.2.1) (aH (cQ h.1) (aH (bE (tV (d:=0) h.2.1) (by omega)) (aH q (aH (cQ h.2.2.2) (cY _))))))) (by omega)
 |.choice p y z,h=>by rw[wN,Bool.and_eq_true,Bool.and_eq_true]at h;rw[nd,dN];have m1:=Nat.le_max_left (dS y) (dS z);have m2:=Nat.le_max_right (dS y) (dS z);have q1:=bE (e:=2 * max (dS y) (dS z)+5) (cJ (qB h.2.1)) (by omega);have q2:=bE (e:=2 * max (dS y) (dS z)+5) (cJ (qB h.2.2)) (by omega);exact bE (cJ (aH (cQ ko.2.2.2.1) (aH (bE (tV (d:=0) h.1) (by omega)) (aH q1 (aH q2 (cY _)))))) (by omega)
 |.use x ps,h=>by rw[wN,Bool.and_eq_true]at h;rw[nd];exact bE (cJ (d:=2) (aH (cQ ko.2.2.2.2.1) (aH (cQ h.1) (aH (cJ (nv (sw h.2))) (aH (xk _) (aH (xk _) (cY 2))))))) (by omega)
 |.j8 x ps hs b,h=>by rw[wN,Bool.and_eq_true,Bool.and_eq_true,Bool.and_eq_true,Bool.and_eq_true]at h;rw[nd,dN];have q:=cJ (qB h.2.2.2.2);exact bE (cJ (aH (cQ ko.2.2.2.2.1) (aH (cQ h.1) (aH (bE (cJ (nv (d:=0) (sw h.2.1))) (by omega)) (aH (bE (Ch (d:=0) h.2.2.1) (by omega)) (aH q (cY _))))))) (by omega)
 |.body ps,h=>by rw[wN]at h;rw[nd];exact bE (cJ (d:=2) (aH (cQ ko.2.2.2.2.2.1) (aH (cJ (nv (sw h))) (cY 2)))) (by omega)
theorem qB:∀{b:w6},wS b=true→fds (2 * dS b+4) (j6 b)
 |.nil,_=>by rw[j6];exact cY _
 |.cons n r,h=>by rw[wS,Bool.and_eq_true]at h;rw[j6,dS];have m1:=Nat.le_max_left (dN n) (dS r);have m2:=Nat.le_max_right (dN n) (dS r);exact aH (bE (Fo h.1) (by omega)) (vA (qB h.2) (by omega))
end
theorem qA{α:Type}{tt:Tx}{te:Ex}{cp:Ev}{h:List PO}(f:α→PV)(T:α→Bool)(g:α→PV):∀l:List α,(∀x∈l,tt (some (f x)::cp) h=.ok (T x) h)→(∀x∈l,te (some (f x)::cp) h=.ok (g x) h)→cT tt te cp (l.map f) h=.ok ((l.filter T).map g) h
 |[],_,_=>rfl
 |x::r,h1,h2=>by
  have ih:=qA f T g r (fun z hz=>h1 z (List.mem_cons_of_mem _ hz)) fun z hz=>h2 z (List.mem_cons_of_mem _ hz);rw[List.map_cons,cT,h1 x List.mem_cons_self];simp only[Res.Nj]
  cases e:T x with
  |true=>rw[if_pos rfl,h2 x List.mem_cons_self,List.filter_cons_of_pos e];simp only[Res.Nj,ih,List.map_cons]
  |false=>rw[if_neg (by decide),ih,List.filter_cons_of_neg (by rw[e];decide)]
theorem JJ{B:List Pc}{i:Nat}{q:Pc}(e:B[i]? =some q)(h:List PO):d7 (bk B) (.int i) h=.ok (pc q) h:=by show(match LQ (B.map pc) (i:Int)with|some v=>Res.ok (am h v) h|none=>Res.bad)=_;rw[fF (v:=pc q) (by omega) (by rw[Int.toNat_natCast,List.getElem?_map,e];rfl)];rfl
theorem Kb{a b:List Nat}(ha:sg a=true)(hb:sg b=true)(h:List PO):J3 (.str a) (.str b) h=.ok (.bl (decide (a=b))) h:=Bi a b h (kF ha) (kF hb)
theorem tx{α:Type}{te:Ex}{cp:Ev}{h:List PO}(f g:α→PV)(l:List α)(h2:∀x∈l,te (some (f x)::cp) h=.ok (g x) h):cT dD te cp (l.map f) h=.ok (l.map g) h:=by rw[qA f (fun _=>true) g l (fun _ _=>rfl) h2,List.filter_eq_self.mpr fun _ _=>rfl]
theorem ju:∀B:List Pc,aq (B.map pc)=true
 |[]=>rfl
 |q::r=>by rw[List.map_cons,aq,eJ,ju r];rfl
theorem eh(B:List Pc):(bk B).pure=true:=by unfold bk;rw[PV.pure];exact ju B
abbrev Sz:=Int×Int×Int×Int
noncomputable def K9(s:Sz):PV:=.tup [.int s.1,.int s.2.1,.int s.2.2.1,.int s.2.2.2]
def bd(X:Nat)(s:Sz):Prop:=(0≤s.1∧s.1≤X)∧(0≤s.2.1∧s.2.1≤X)∧(0≤s.2.2.1∧s.2.2.1≤X)∧(0≤s.2.2.2∧s.2.2.2≤X)
theorem lL{X Y:Nat}{s:Sz}(h:bd X s)(le:X≤Y):bd Y s:=by unfold bd at*;omega
section
variable(s:Sz)(h:List PO)
theorem uy:d7 (K9 s) (.int 0) h=.ok (.int s.1) h:=rfl
theorem ux:d7 (K9 s) (.int 1) h=.ok (.int s.2.1) h:=rfl
theorem wf:d7 (K9 s) (.int 2) h=.ok (.int s.2.2.1) h:=rfl
theorem Ay:d7 (K9 s) (.int 3) h=.ok (.int s.2.2.2) h:=rfl
theorem lU:am h (K9 s)=K9 s:=rfl
theorem gN:(K9 s).pure=true:=rfl
end
noncomputable def QF(a b:Sz):Sz:=(a.1+b.1,(if b.2.1>a.2.1 then b.2.1 else a.2.1),a.2.2.1+b.2.2.1,(if b.2.2.2>a.2.2.2 then b.2.2.2 else a.2.2.2))
noncomputable def Oe(a:Sz):Sz:=(a.1+1,a.2.1+1,a.2.2.1,if(a.2.2.1 !=0)=true then a.2.2.2+1 else 0)
noncomputable def Rm(p b:Sz):Sz:=if p.2.2.1=0 then(p.1,p.2.1,0,0)else(p.1+p.2.2.1 * b.1,(if p.2.2.2+b.2.1>p.2.1 then p.2.2.2+b.2.1 else p.2.1),p.2.2.1 * b.2.2.1,if(b.2.2.1 !=0)=true then p.2.2.2+b.2.2.2 else 0)
theorem Dd(k X Y:Nat)(a b:Sz)(ha:bd X a)(hb:bd Y b):bd (X+Y) (QF a b)∧F (k+1) .v8 [K9 a,K9 b]=.ok (K9 (QF a b)):=by
 refine⟨?_,?_⟩
 ·unfold bd QF at*;dsimp only;refine⟨by omega,by split<;>omega,by omega,by split<;>omega⟩
 ·show bx (gB (F k)) 2 2 [K9 a,K9 b]=_;simp only[EX,bx,gB,lU,uy,ux,wf,Ay];rfl
theorem yQ(k X:Nat)(a:Sz)(ha:bd X a):bd (X+1) (Oe a)∧F (k+1) .m_ [K9 a]=.ok (K9 (Oe a)):=by
 unfold bd at ha
 cases e:a.2.2.1 !=0 with
 |true=>refine⟨by unfold bd Oe;rw[e];dsimp only;simp only[if_true];omega,?_⟩;unfold Oe;rw[e];show bx (eF (F k)) 1 2 [K9 a]=_;simp only[EX,bx,eF,lU,uy,ux,wf,Ay,e];rfl
 |false=>refine⟨by unfold bd Oe;rw[e];dsimp only;simp only[Bool.false_eq_true,if_false];omega,?_⟩;unfold Oe;rw[e];show bx (eF (F k)) 1 2 [K9 a]=_;simp only[EX,bx,eF,lU,uy,ux,wf,Ay,e];rfl
mutual
def Mj(kn:List (List Nat)):Nd→Bool
 |.loop _ _ b _=>Mg kn b
 |.choice _ y n=>Mg kn y&&Mg kn n
 |.use x _=>kn.contains x
 |.j8 x _ _ b=>kn.contains x&&Mg kn b
 |_=>true
def Mg(kn:List (List Nat)):w6→Bool
 |.nil=>true
 |.cons n r=>Mj kn n&&Mg kn r
end
noncomputable def M7:w6→w6→w6
 |.nil,z=>z
 |.cons n r,z=>.cons n (M7 r z)
theorem tj:∀(y z:w6),j6 (M7 y z)=j6 y++j6 z
 |.nil,z=>by rw[M7,j6];rfl
 |.cons n r,z=>by rw[M7,j6,j6,tj r z];rfl
theorem Fq:∀(y z:w6),dS (M7 y z)=max (dS y) (dS z)
 |.nil,z=>by rw[M7,dS,Nat.zero_max]
 |.cons n r,z=>by rw[M7,dS,dS,Fq r z,Nat.max_assoc]
theorem ub:∀(y z:w6),J8 (M7 y z)=J8 y+J8 z
 |.nil,z=>by rw[M7,J8];omega
 |.cons n r,z=>by rw[M7,J8,J8,ub r z];omega
theorem wc(kn:List (List Nat)):∀(y z:w6),Mg kn (M7 y z)=(Mg kn y&&Mg kn z)
 |.nil,z=>by rw[M7,Mg];simp
 |.cons n r,z=>by rw[M7,Mg,Mg,wc kn r z,Bool.and_assoc]
theorem mX:∀b:w6,(j6 b).length≤J8 b
 |.nil=>by rw[j6,J8];simp
 |.cons n r=>by rw[j6,J8,List.length_cons];have:=mX r;omega
def J5(S:List (List Nat×Sz)):PO:=.dct (S.map fun x=>(.inr x.1,K9 x.2))
theorem gf(S:List (List Nat×Sz)):(J5 S).pure=true:=by
 show aS _=true;rw[fP,List.map_map]
 induction S with
 |nil=>rfl
 |cons q r ih=>rw[List.map_cons,aq,ih];rfl
theorem uo(n:List Nat):∀S:List (List Nat×Sz),(S.map (·.1)).contains n=true→∃x∈S,S.find? (fun x=>x.1==n)=some x∧dq (S.map fun x=>(Sum.inr x.1,K9 x.2)) (.inr n)=some (K9 x.2)
 |[],h=>by cases h
 |x::r,h=>by
  by_cases e:x.1=n
  ·subst e;exact⟨x,List.mem_cons_self,by simp,by simp[dq]⟩
  ·rw[List.map_cons,List.contains_cons,Bool.or_eq_true]at h;rcases h with h|h
   ·exact(e (eq_of_beq h).symm).elim
   ·obtain⟨y,hy,zf,z⟩:=uo n r h;refine⟨y,List.mem_cons_of_mem _ hy,?_,?_⟩
    ·rw[List.find?_cons_of_neg (by simpa using e)];exact zf
    ·rw[← z];simp[dq,e]
mutual
def Lx(S:List Nat→Sz):Nd→Sz
 |.loop _ _ b _=>Oe (Li S (0,0,0,0) b)
 |.choice _ y n=>Oe (Li S (Li S (0,0,0,0) y) n)
 |.use x _=>Oe ((S x).1,(S x).2.1,0,0)
 |.j8 x _ _ b=>Oe (Rm (S x) (Li S (0,0,0,0) b))
 |.body _=>(1,1,1,1)
 |_=>(1,1,0,0)
def Li(S:List Nat→Sz)(a:Sz):w6→Sz
 |.nil=>a
 |.cons n r=>Li S (QF a (Lx S n)) r
end
theorem wj(S:List Nat→Sz):∀(y:w6)(a:Sz)(z:w6),Li S a (M7 y z)=Li S (Li S a y) z
 |.nil,a,z=>by rw[M7,Li]
 |.cons n r,a,z=>by rw[M7,Li,Li];exact wj S r _ z
def K8(S:List (List Nat×Sz))(n:List Nat):Sz:=((S.find? fun x=>x.1==n).map (·.2)).getD (0,0,0,0)
theorem xf(n:List Nat)(S:List (List Nat×Sz))(e:(S.map (·.1)).contains n=true):∃x∈S,K8 S n=x.2∧∀r,d7 (.ref 0) (.str n) (J5 S::r)=.ok (K9 x.2) (J5 S::r):=by obtain⟨x,hx,zf,z⟩:=uo n S e;refine⟨x,hx,by unfold K8;rw[zf];rfl,fun r=>?_⟩;show(match dq (S.map fun x=>(Sum.inr x.1,K9 x.2)) (.inr n)with|some v=>Res.ok (am (J5 S::r) v) (J5 S::r)|none=>Res.bad)=_;rw[z];rfl
def CM(S:List (List Nat×Sz))(c d:Nat):Prop:=∀(b:w6)(k:Nat),dS b≤d→Mg (S.map (·.1)) b=true→J8 b≤1000000→3 * dS b+4≤k→
 bd (J8 b * (2 ^ c) ^ (dS b+1)) (Li (K8 S) (0,0,0,0) b)∧L k .h_ [.tup (j6 b),.ref 0] [J5 S]=.ok (K9 (Li (K8 S) (0,0,0,0) b)) [J5 S]
theorem tO{v:PV}{o:PO}(hv:v.pure=true)(ho:o.pure=true):eU 1 v [o]=.ok v [o]:=by unfold eU;rw[gw _ hv];dsimp only;unfold fV;simp[aT,ho]
theorem yJ{x:Int}{n:Nat}(h0:0≤x)(h:x<2 ^ n):Builtin.Int.intBits x≤n:=intBits_le_iff.mpr (by
 have:((x.natAbs:Nat):Int)<((2 ^ n:Nat):Int):=by rw[Int.natCast_pow];show _<(2:Int) ^ n;omega
 omega)
theorem DL{a b c d q:Nat}(h:a≤b)(hq:1≤q)(hc:c≤d):a * q ^ c≤b * q ^ d:=Nat.mul_le_mul h (Nat.pow_le_pow_right hq hc)
theorem yX(S:List (List Nat×Sz))(c d:Nat)(hS:∀x∈S,bd (2 ^ c - 1) x.2)(hc:8 * c+30≤134217728)(hd:d≤6)(ok:∀d',d'<d→CM S c d')(n:Nd)(k:Nat)(dn:dN n≤d)(us:Mj (S.map (·.1)) n=true)(ct:Ls n≤1000000)(hk:3 * dN n+3≤k):
  bd ((Ls n+1) * (2 ^ c) ^ (dN n+1)) (Lx (K8 S) n)∧L k .n_ [nd n,.ref 0] [J5 S]=.ok (K9 (Lx (K8 S) n)) [J5 S]:=by
 obtain⟨k',rfl⟩:∃k',k=k'+3:=⟨k - 3,by omega⟩
 have q1:1≤2 ^ c:=Nat.one_le_two_pow;have fin:∀s:Sz,eU 1 (K9 s) [J5 S]=.ok (K9 s) [J5 S]:=fun s=>tO (gN s) (gf S);have d0:am [J5 S] (.ref 0)=.ref 0:=rfl;have r2:∀p1 p2:PV,ei (bn (F (k'+2)) (L (k'+2))) 2 2 [p1,p2] [J5 S]=match bn (F (k'+2)) (L (k'+2)) [some p1,some p2] [J5 S]with|.nx _ h1=>fV 1 .non h1|.rt v h1=>eU 1 v h1|_=>.bad:=fun _ _=>rfl
 have leaf:∀s:Sz,Lx (K8 S) n=s→bd 1 s→bn (F (k'+2)) (L (k'+2)) [some (nd n),some (.ref 0)] [J5 S]=.rt (K9 s) [J5 S]→bd ((Ls n+1) * (2 ^ c) ^ (dN n+1)) (Lx (K8 S) n)∧L (k'+3) .n_ [nd n,.ref 0] [J5 S]=.ok (K9 (Lx (K8 S) n)) [J5 S]:=fun s es hs e=>by
  rw[es]
  exact⟨lL hs (Nat.mul_pos (by omega) (Nat.pow_pos q1)),by show ei (bn (F (k'+2)) (L (k'+2))) 2 2 [nd n,.ref 0] [J5 S]=_;rw[r2,e];exact fin s⟩
 have wi:∀(X:Nat)(s:Sz),Lx (K8 S) n=Oe s→bd X s→X+1≤(Ls n+1) * (2 ^ c) ^ (dN n+1)→(∀s',(∀h,bO (F (k'+2) .m_) [K9 s] h=.ok (K9 s') h)→bn (F (k'+2)) (L (k'+2)) [some (nd n),some (.ref 0)] [J5 S]=.rt (K9 s') [J5 S])→
   bd ((Ls n+1) * (2 ^ c) ^ (dN n+1)) (Lx (K8 S) n)∧L (k'+3) .n_ [nd n,.ref 0] [J5 S]=.ok (K9 (Lx (K8 S) n)) [J5 S]:=fun X s es hs hX e=>by
  obtain⟨b',e'⟩:=yQ (k'+1) X s hs;rw[es];refine⟨lL b' hX,?_⟩;show ei (bn (F (k'+2)) (L (k'+2))) 2 2 [nd n,.ref 0] [J5 S]=_;rw[r2,e (Oe s) fun h=>aZ h (by rw[aq,gN];rfl) e'];exact fin _
 cases n with
 |text s=>exact leaf (1,1,0,0) rfl (by unfold bd;dsimp only;omega) (by simp only[EX,nd,bn];rfl)
 |place p s=>exact leaf (1,1,0,0) rfl (by unfold bd;dsimp only;omega) (by simp only[EX,nd,bn];rfl)
 |body p=>exact leaf (1,1,1,1) rfl (by unfold bd;dsimp only;omega) (by simp only[EX,nd,bn];rfl)
 |loop x p b t=>
  rw[dN]at dn hk;rw[Mj]at us;rw[Ls]at ct;obtain⟨bs,e⟩:=ok (dS b) (by omega) b (k'+2) (Nat.le_refl _) us ct (by omega);obtain⟨s,es⟩:∃s,Li (K8 S) (0,0,0,0) b=s:=⟨_,rfl⟩
  rw[es]at bs e;have cc:=(cG (fn:=L (k'+2) .h_) [.tup (j6 b)] (o:=J5 S) (by simp[aq,PV.pure,bt b]) (gf S)).1 _ (gN s) e;simp only[List.cons_append,List.nil_append]at cc;refine wi _ s (by rw[Lx,es]) bs ?_ fun s' cw=>?_
  ·rw[dN,Ls,Nat.add_mul];exact Nat.add_le_add (DL (Nat.le_refl _) q1 (by omega)) (Nat.mul_pos (by omega) (Nat.pow_pos q1))
  ·have i0:∀h,d7 (nd (.loop x p b t)) (.int 0) h=.ok (.str tL) h:=fun h=>by rw[nd];rfl
   simp only[EX,bn,i0,d0,cc,cw]
 |choice p y z=>
  rw[dN]at dn hk;rw[Mj,Bool.and_eq_true]at us;rw[Ls]at ct;have da:=Fq y z;obtain⟨bs,e⟩:=ok (dS (M7 y z)) (by omega) (M7 y z) (k'+2) (Nat.le_refl _) (by rw[wc,us.1,us.2];rfl) (by rw[ub];exact ct) (by omega);obtain⟨s,es⟩:∃s,Li (K8 S) (0,0,0,0) (M7 y z)=s:=⟨_,rfl⟩
  rw[es]at bs e;rw[wj]at es;rw[tj]at e;have cc:=(cG (fn:=L (k'+2) .h_) [.tup (j6 y++j6 z)] (o:=J5 S) (by rw[← tj];simp[aq,PV.pure,bt]) (gf S)).1 _ (gN s) e;simp only[List.cons_append,List.nil_append]at cc;have ly:∀b:w6,(j6 b).length≤J8 b:=fun b=>mX b;refine wi _ s (by rw[Lx,es]) bs ?_ fun s' cw=>?_
  ·rw[dN,Ls,Nat.add_mul,ub,da];exact Nat.add_le_add (DL (Nat.le_refl _) q1 (by omega)) (Nat.mul_pos (by omega) (Nat.pow_pos q1))
  ·have i0:∀h,d7 (nd (.choice p y z)) (.int 0) h=.ok (.str tC) h:=fun h=>by rw[nd];rfl
   have aa:∀h,aN (.tup (j6 y)) (.tup (j6 z)) h=.ok (.tup (j6 y++j6 z)) h:=fun h=>mF _ _ h (by have:=ly y;have:=ly z;exact Nat.le_trans (by omega:_≤1000000) (by decide));simp only[EX,bn,i0,d0,aa,cc,cw]
 |use x ps=>
  rw[Mj]at us;obtain⟨y,hy,yl,ix⟩:=xf x S us;have Vn:=hS y hy
  have e:L (k'+2) .n8 [nd (.use x ps),.ref 0] [J5 S]=.ok (K9 (y.2.1,y.2.2.1,0,0)) [J5 S]:=by
   show ei (bH (F (k'+1)) (L (k'+1))) 2 6 [nd (.use x ps),.ref 0] [J5 S]=_
   have ru:bH (F (k'+1)) (L (k'+1)) [some (nd (.use x ps)),some (.ref 0),none,none,none,none] [J5 S]=.rt (K9 (y.2.1,y.2.2.1,0,0)) [J5 S]:=by simp only[EX,bH,d0,ix,lU,uy,ux,wf];rfl
   have r3:ei (bH (F (k'+1)) (L (k'+1))) 2 6 [nd (.use x ps),.ref 0] [J5 S]=match bH (F (k'+1)) (L (k'+1)) [some (nd (.use x ps)),some (.ref 0),none,none,none,none] [J5 S]with|.nx _ h1=>fV 1 .non h1|.rt v h1=>eU 1 v h1|_=>.bad:=rfl
   rw[r3,ru];exact fin _
  have cc:=(cG (fn:=L (k'+2) .n8) [nd (.use x ps)] (o:=J5 S) (by simp[aq,bz]) (gf S)).1 _ (gN _) e;simp only[List.cons_append,List.nil_append]at cc;refine wi (2 ^ c - 1) (y.2.1,y.2.2.1,0,0) (by rw[Lx,yl]) (by unfold bd at*;dsimp only;omega) ?_ fun s' cw=>?_
  ·have z1:dN (.use x ps)=0:=rfl;have z2:Ls (.use x ps)=0:=rfl;rw[z1,z2,Nat.zero_add,Nat.one_mul,Nat.pow_one];omega
  ·have i0:∀h,d7 (nd (.use x ps)) (.int 0) h=.ok (.str tU) h:=fun h=>by rw[nd];rfl
   simp only[EX,bn,i0,d0,cc,cw]
 |j8 x ps hs b=>
  rw[dN]at dn hk;rw[Mj,Bool.and_eq_true]at us;rw[Ls]at ct;obtain⟨y,hy,yl,ix⟩:=xf x S us.1;have Vn:=hS y hy;obtain⟨bs,e⟩:=ok (dS b) (by omega) b (k'+1) (Nat.le_refl _) us.2 ct (by omega);obtain⟨s,es⟩:∃s,Li (K8 S) (0,0,0,0) b=s:=⟨_,rfl⟩
  rw[es]at bs e;have cn:=(cG (fn:=L (k'+1) .h_) [.tup (j6 b)] (o:=J5 S) (by simp[aq,PV.pure,bt b]) (gf S)).1 _ (gN s) e;simp only[List.cons_append,List.nil_append]at cn
  have key:∃s2,s2=Rm y.2 s∧bd ((2 ^ c - 1) * (J8 b * (2 ^ c) ^ (dS b+1))+(J8 b * (2 ^ c) ^ (dS b+1))+(2 ^ c - 1)) s2∧L (k'+2) .n8 [nd (.j8 x ps hs b),.ref 0] [J5 S]=.ok (K9 s2) [J5 S]:=by
   have r3:∀s2,bH (F (k'+1)) (L (k'+1)) [some (nd (.j8 x ps hs b)),some (.ref 0),none,none,none,none] [J5 S]=.rt (K9 s2) [J5 S]→L (k'+2) .n8 [nd (.j8 x ps hs b),.ref 0] [J5 S]=.ok (K9 s2) [J5 S]:=fun s2 ru=>by
    have r4:L (k'+2) .n8 [nd (.j8 x ps hs b),.ref 0] [J5 S]=match bH (F (k'+1)) (L (k'+1)) [some (nd (.j8 x ps hs b)),some (.ref 0),none,none,none,none] [J5 S]with|.nx _ h1=>fV 1 .non h1|.rt v h1=>eU 1 v h1|_=>.bad:=rfl
    rw[r4,ru];exact fin _
   by_cases m0:y.2.2.2.1=0
   ·refine⟨(y.2.1,y.2.2.1,0,0),by unfold Rm;rw[if_pos m0],by unfold bd at*;dsimp only;omega,r3 _ ?_⟩;have z0:decide (y.2.2.2.1=0)=true:=decide_eq_true m0;simp only[EX,bH,d0,ix,lU,uy,ux,wf,z0];rfl
   ·have z0:decide (y.2.2.2.1=0)=false:=decide_eq_false m0;have hq:(2 ^ c) ^ (dS b+1)=2 ^ (c * (dS b+1)):=by rw[Nat.pow_mul]
    have lb:J8 b * (2 ^ c) ^ (dS b+1)<2 ^ (20+c * (dS b+1)):=by rw[hq,Nat.pow_add];exact Nat.mul_lt_mul_of_pos_right (Nat.lt_of_le_of_lt ct (by decide)) (Nat.two_pow_pos _)
    have cl:c * (dS b+1)≤c * 6:=Nat.mul_le_mul_left _ (by omega)
    have bm:∀v:Int,0≤v→v≤((J8 b * (2 ^ c) ^ (dS b+1):Nat):Int)→gV y.2.2.2.1 v=true:=fun v v0 v1=>GG (decide_eq_true (by
     have b1:Builtin.Int.intBits y.2.2.2.1≤c:=yJ (by unfold bd at Vn;omega) (by
      have:((2 ^ c:Nat):Int)=(2:Int) ^ c:=by rw[Int.natCast_pow];rfl
      unfold bd at Vn;omega)
     have b2:Builtin.Int.intBits v≤20+c * (dS b+1):=yJ v0 (by
      have:((2 ^ (20+c * (dS b+1)):Nat):Int)=(2:Int) ^ (20+c * (dS b+1)):=by rw[Int.natCast_pow];rfl
      rw[← this];omega)
     omega))
    have XH:∀v:Int,0≤v→v≤((J8 b * (2 ^ c) ^ (dS b+1):Nat):Int)→0≤y.2.2.2.1 * v∧y.2.2.2.1 * v≤(((2 ^ c - 1) * (J8 b * (2 ^ c) ^ (dS b+1)):Nat):Int):=fun v v0 v1=>by have h3:=Vn.2.2.1;refine⟨Int.mul_nonneg h3.1 v0,?_⟩;rw[Int.natCast_mul];exact Int.mul_le_mul h3.2 v1 v0 (by omega)
    have s0:=bs.1;have s2:=bs.2.2.1;have m1:=bm s.1 s0.1 s0.2;have m2:=bm s.2.2.1 s2.1 s2.2;have n1:=XH s.1 s0.1 s0.2;have n2:=XH s.2.2.1 s2.1 s2.2
    cases t:s.2.2.1 !=0 with
    |true=>
     refine⟨(y.2.1+y.2.2.2.1 * s.1,(if y.2.2.2.2+s.2.1>y.2.2.1 then y.2.2.2.2+s.2.1 else y.2.2.1),y.2.2.2.1 * s.2.2.1,y.2.2.2.2+s.2.2.2),by unfold Rm;rw[if_neg m0,t];rfl,?_,r3 _ ?_⟩
     ·unfold bd at*;dsimp only;refine⟨by omega,by split<;>omega,by omega,by omega⟩
     ·simp only[EX,bH,d0,ix,lU,uy,ux,wf,Ay,z0,cn,t,m1,m2];rfl
    |false=>
     refine⟨(y.2.1+y.2.2.2.1 * s.1,(if y.2.2.2.2+s.2.1>y.2.2.1 then y.2.2.2.2+s.2.1 else y.2.2.1),y.2.2.2.1 * s.2.2.1,0),by unfold Rm;rw[if_neg m0,t];rfl,?_,r3 _ ?_⟩
     ·unfold bd at*;dsimp only;refine⟨by omega,by split<;>omega,by omega,by omega⟩
     ·simp only[EX,bH,d0,ix,lU,uy,ux,wf,Ay,z0,cn,t,m1,m2];rfl
  obtain⟨s2,u2,b2,e2⟩:=key;have cc:=(cG (fn:=L (k'+2) .n8) [nd (.j8 x ps hs b)] (o:=J5 S) (by simp[aq,bz]) (gf S)).1 _ (gN s2) e2;simp only[List.cons_append,List.nil_append]at cc;refine wi _ s2 (by rw[Lx,es,yl,u2]) b2 ?_ fun s' cw=>?_
  ·rw[dN,Ls,Nat.add_mul,Nat.one_mul]
   have a1:(2 ^ c - 1) * (J8 b * (2 ^ c) ^ (dS b+1))+(J8 b * (2 ^ c) ^ (dS b+1))=J8 b * (2 ^ c) ^ (dS b+1+1):=by
    have sc:(2 ^ c - 1).succ=2 ^ c:=by omega
    rw[← Nat.succ_mul,sc,Nat.pow_succ (2 ^ c) (dS b+1),Nat.mul_comm,Nat.mul_assoc]
   have a2:2 ^ c≤(2 ^ c) ^ (dS b+1+1):=by have:=Nat.pow_le_pow_right q1 (show 1≤dS b+1+1 by omega);rw[Nat.pow_one]at this;exact this
   rw[a1];omega
  ·have i0:∀h,d7 (nd (.j8 x ps hs b)) (.int 0) h=.ok (.str tU) h:=fun h=>by rw[nd];rfl
   simp only[EX,bn,i0,d0,cc,cw]
theorem pL(S:List (List Nat×Sz))(c d k:Nat)(hS:∀x∈S,bd (2 ^ c - 1) x.2)(hc:8 * c+30≤134217728)(hd:d≤6)(ok:∀d',d'<d→CM S c d')(hk:3 * d+3≤k)(a:PV):
  ∀(b:w6)(X:Nat)(s:Sz)(x3:Option PV),dS b≤d→Mg (S.map (·.1)) b=true→J8 b≤1000000→bd X s→∃y3,bd (X+J8 b * (2 ^ c) ^ (d+1)) (Li (K8 S) s b)∧
   aR (D_ 3) (cO (F k) (L k)) (j6 b) [some a,some (.ref 0),some (K9 s),x3] [J5 S]=.nx [some a,some (.ref 0),some (K9 (Li (K8 S) s b)),y3] [J5 S]
 |.nil,X,s,x3,_,_,_,hs=>⟨x3,by rw[Li];exact lL hs (Nat.le_add_right _ _),by rw[j6,aR,Li]⟩
 |.cons n r,X,s,x3,dn,us,ct,hs=>by
  rw[dS]at dn;rw[Mg,Bool.and_eq_true]at us;rw[J8]at ct;have m1:=Nat.le_max_left (dN n) (dS r);have m2:=Nat.le_max_right (dN n) (dS r);have q1:1≤2 ^ c:=Nat.one_le_two_pow;obtain⟨b1,e1⟩:=yX S c d hS hc hd ok n k (by omega) us.1 (by omega) (by omega);have cc:=(cG (fn:=L k .n_) [nd n] (o:=J5 S) (by simp[aq,bz]) (gf S)).1 _ (gN _) e1;simp only[List.cons_append,List.nil_append]at cc;obtain⟨k',rfl⟩:∃k',k=k'+1:=⟨k - 1,by omega⟩
  obtain⟨b2,e2⟩:=Dd k' X _ s (Lx (K8 S) n) hs b1;have cw:∀h,bO (F (k'+1) .v8) [K9 s,K9 (Lx (K8 S) n)] h=.ok (K9 (QF s (Lx (K8 S) n))) h:=fun h=>aZ h rfl e2;have d0:am [J5 S] (.ref 0)=.ref 0:=rfl;obtain⟨y3,b3,e3⟩:=pL S c d (k'+1) hS hc hd ok hk a r _ (QF s (Lx (K8 S) n)) (some (nd n)) (by omega) us.2 (by omega) b2;rw[Li];refine⟨y3,lL b3 ?_,?_⟩
  ·have h9:(Ls n+1) * (2 ^ c) ^ (dN n+1)≤(Ls n+1) * (2 ^ c) ^ (d+1):=DL (Nat.le_refl _) q1 (by omega);rw[J8,Nat.add_mul (Ls n+1) (J8 r),← Nat.add_assoc];exact Nat.add_le_add_right (Nat.add_le_add_left h9 _) _
  ·have one:cO (F (k'+1)) (L (k'+1)) [some a,some (.ref 0),some (K9 s),some (nd n)] [J5 S]=.nx [some a,some (.ref 0),some (K9 (QF s (Lx (K8 S) n))),some (nd n)] [J5 S]:=by simp only[EX,cO,lU,d0,cc,cw]
   rw[j6];exact Eq.trans (cI rfl one) e3
theorem FU(S:List (List Nat×Sz))(c:Nat)(hS:∀x∈S,bd (2 ^ c - 1) x.2)(hc:8 * c+30≤134217728):∀d,d≤6→CM S c d:=by
 intro d
 induction d using Nat.strongRecOn with
 |ind d ih=>
  intro hd b k db us ct hk;obtain⟨k',rfl⟩:∃k',k=k'+1:=⟨k - 1,by omega⟩
  obtain⟨y3,bs,e⟩:=pL S c (dS b) k' hS hc (by omega) (fun d' h=>ih d' (by omega) (by omega)) (by omega) (.tup (j6 b)) b 0 (0,0,0,0) none (Nat.le_refl _) us ct (by unfold bd;dsimp only;omega);refine⟨by rw[Nat.zero_add]at bs;exact bs,?_⟩;have r2:L (k'+1) .h_ [.tup (j6 b),.ref 0] [J5 S]=match fL (F k') (L k') [some (.tup (j6 b)),some (.ref 0),none,none] [J5 S]with|.nx _ h1=>fV 1 .non h1|.rt v h1=>eU 1 v h1|_=>.bad:=rfl
  have fo:gh aa7 (D_ 3) (cO (F k') (L k')) [some (.tup (j6 b)),some (.ref 0),some (K9 (0,0,0,0)),none] [J5 S]=aR (D_ 3) (cO (F k') (L k')) (j6 b) [some (.tup (j6 b)),some (.ref 0),some (K9 (0,0,0,0)),none] [J5 S]:=rfl;have s0:aO 2 (cK (.tup mc)) [some (.tup (j6 b)),some (.ref 0),none,none] [J5 S]=.nx [some (.tup (j6 b)),some (.ref 0),some (K9 (0,0,0,0)),none] [J5 S]:=rfl;rw[r2];unfold fL;rw[eK,s0];dsimp only;rw[eK,fo,e];simp only[EX,lU];exact tO (gN _) (gf S)
mutual
theorem Ht(E:List Pc)(m:Option Int)(w:List Int)(ns:List (List Nat)):∀n:Nd,M9 E m ns n=false→Qh E m w ns n=none→Mj (E.map (·.n)) n=true
 |.loop n _ b _,_,h=>by rw[Qh]at h;rw[Mj];exact mA E m _ _ _ b h
 |.choice _ y n,_,h=>by rw[Qh,Option.or_eq_none_iff]at h;rw[Mj,mA E m _ _ _ y h.1,mA E m _ _ _ n h.2];rfl
 |.j8 x ps hh b,e,h=>by
  rw[Qh]at h;rw[Mj,mA E m _ _ _ b h,← mZ];rw[M9,Bool.or_eq_false_iff]at e
  cases l:look E x with
  |none=>rw[l]at e;exact absurd e.2 (by simp)
  |some q=>rfl
 |.use x ps,e,_=>by
  rw[Mj,← mZ];rw[M9,Bool.or_eq_false_iff]at e
  cases l:look E x with
  |none=>rw[l]at e;exact absurd e.2 (by simp)
  |some q=>rfl
 |.text _,_,_=>rfl
 |.place _ _,_,_=>rfl
 |.body _,_,_=>rfl
theorem mA(E:List Pc)(m:Option Int)(w:List Int)(k:Nat)(ns:List (List Nat)):∀b:w6,MK E m w k ns b=none→Mg (E.map (·.n)) b=true
 |.nil,_=>rfl
 |.cons n r,h=>by
  rw[MK]at h
  cases e:M9 E m ns n with
  |true=>rw[e,if_pos rfl]at h;cases h
  |false=>rw[e,if_neg (by decide),Option.or_eq_none_iff]at h;rw[Mg,Ht E m _ _ n e h.1,mA E m _ _ _ r h.2];rfl
end
noncomputable def cB:Nat→Nat
 |0=>0
 |j+1=>7 * cB j+21
theorem Fw{i j:Nat}(h:i≤j):cB i≤cB j:=by
 induction h with
 |refl=>exact Nat.le_refl _
 |step _ ih=>rw[cB];omega
theorem nt{B:List Pc}{q:Pc}(h:List PO):d7 (bk (B++ [q])) (.int (-1)) h=.ok (pc q) h:=by
 show(match LQ ((B++ [q]).map pc) (-1)with|some v=>Res.ok (am h v) h|none=>Res.bad)=_;have:LQ ((B++ [q]).map pc) (-1)=some (pc q):=by rw[List.map_append];exact uh _ _
 rw[this];rfl
def bS(S:List (List Nat×Sz)):List Pc→List (List Nat×Sz)
 |[]=>S
 |q::r=>bS (S++ [(q.n,Li (K8 S) (0,0,0,0) q.b)]) r
theorem pM(k:Nat)(hk:22≤k)(a:PV)(len:Nat):∀(r E:List Pc)(S:List (List Nat×Sz))(x2 x3:Option PV),E.length+r.length≤8→S.map (·.1)=E.map (·.n)→(∀x∈S,bd (2 ^ cB E.length - 1) x.2)→(∀q∈r,dS q.b≤6∧J8 q.b≤1000000)→Ou len E r=none→
  ∃y2,(bS S r).map (·.1)=(E++r).map (·.n)∧aR (D_ 2) (iG (F k) (L k)) (r.map pc) [some a,some (.ref 0),x2,x3] [J5 S]=.nx [some a,some (.ref 0),y2,x3] [J5 (bS S r)]
 |[],E,S,x2,x3,_,hn,_,_,_=>⟨x2,by rw[List.append_nil,bS];exact hn,by rw[List.map_nil,aR,bS]⟩
 |q::r,E,S,x2,x3,hl,hn,hS,hr,hf=>by
  rw[List.length_cons]at hl;have c7:cB E.length≤cB 7:=Fw (by omega);have c8:cB 7=2882397:=by decide
  rw[Ou]at hf
  split at hf
  ·cases hf
  ·rename_i nc;rw[Option.or_eq_none_iff]at hf;have us:=mA E q.m _ _ _ q.b hf.1;rw[← hn]at us;obtain⟨hd,Vi⟩:=hr q List.mem_cons_self;obtain⟨bs,e⟩:=FU S (cB E.length) hS (by omega) (dS q.b) hd q.b k (Nat.le_refl _) us Vi (by omega);rw[bS];generalize Li (K8 S) (0,0,0,0) q.b=s at bs e ⊢;have cc:=(cG (fn:=L k .h_) [.tup (j6 q.b)] (o:=J5 S) (by simp[aq,PV.pure,bt]) (gf S)).1 _ (gN s) e;simp only[List.cons_append,List.nil_append]at cc;have d0:am [J5 S] (.ref 0)=.ref 0:=rfl
   have nin:(S.map (·.1)).contains q.n=false:=by
    rw[hn]
    cases z:(E.map (·.n)).contains q.n with
    |false=>rfl
    |true=>rw[z]at nc;exact absurd rfl nc
   have pu:bK (S.map fun x=>(Sum.inr x.1,K9 x.2)) (.inr q.n) (K9 s)=(S++ [(q.n,s)]).map fun x=>(Sum.inr x.1,K9 x.2):=by
    have an:((S.map fun x=>((Sum.inr x.1:Int ⊕ List Nat),K9 x.2)).any fun kv=>decide (kv.1=.inr q.n))=false:=by
     rw[List.any_eq_false];intro kv hkv;obtain⟨p,hp,rfl⟩:=List.mem_map.mp hkv;intro z;have ee:p.1=q.n:=Sum.inr.inj (of_decide_eq_true z);have:(S.map (·.1)).contains q.n=true:=by rw[List.contains_iff_mem,← ee];exact List.mem_map.mpr ⟨p,hp,rfl⟩
     rw[nin]at this;cases this
    unfold bK;rw[an,if_neg (by decide),List.map_append];rfl
   have lS:S.length≤8:=by have:=congrArg List.length hn;rw[List.length_map,List.length_map]at this;omega
   have one:iG (F k) (L k) [some a,some (.ref 0),some (pc q),x3] [J5 S]=.nx [some a,some (.ref 0),some (pc q),x3] [J5 (S++ [(q.n,s)])]:=by
    have sz:(S.map fun x=>((Sum.inr x.1:Int ⊕ List Nat),K9 x.2)).length<16777216:=by rw[List.length_map];omega
    simp only[EX,iG,d0,cc];simp only[EX,J5,sz,pu]
   have bs':bd (2 ^ cB (E.length+1) - 1) s:=lL bs (by
    have h1:J8 q.b * (2 ^ cB E.length) ^ (dS q.b+1)≤1000000 * (2 ^ cB E.length) ^ 7:=DL Vi Nat.one_le_two_pow (by omega)
    have h2:2 ^ cB (E.length+1)=(2 ^ cB E.length) ^ 7 * 2097152:=by show 2 ^ (7 * cB E.length+21)=_;rw[Nat.pow_add,Nat.mul_comm 7,Nat.pow_mul]
    have h3:1≤(2 ^ cB E.length) ^ 7:=Nat.pow_pos Nat.one_le_two_pow;omega)
   have l1:(E++ [q]).length=E.length+1:=by simp
   obtain⟨y2,g1,g2⟩:=pM k hk a len r (E++ [q]) (S++ [(q.n,s)]) (some (pc q)) x3 (by rw[l1];omega) (by rw[List.map_append,List.map_append,hn];rfl) (fun x hx=>by
    rw[l1];rcases List.mem_append.mp hx with h|h
    ·exact lL (hS x h) (Nat.sub_le_sub_right (Nat.pow_le_pow_right (by decide) (Fw (Nat.le_succ _))) _)
    ·cases List.mem_singleton.mp h;exact bs') (fun z hz=>hr z (List.mem_cons_of_mem _ hz)) hf.2
   refine⟨y2,by rw[g1];simp,?_⟩;rw[List.map_cons];exact Eq.trans (cI rfl one) g2
theorem uz(k:Nat)(hk:22≤k)(B:List Pc)(q:Pc)(hl:B.length+1≤8)(hr:∀p∈B++ [q],dS p.b≤6∧J8 p.b≤1000000)(hf:Ou (B.length+1) [] (B++ [q])=none):F (k+1) .sized [bk (B++ [q])]=.ok (.tup [.int (K8 (bS [] (B++ [q])) q.n).1,.int (K8 (bS [] (B++ [q])) q.n).2.1]):=by
 obtain⟨y2,g1,g2⟩:=pM k hk (bk (B++ [q])) (B.length+1) (B++ [q]) [] [] none none (by simp;omega) rfl (fun x hx=>by cases hx) hr hf;generalize bS [] (B++ [q])=S at g1 g2 ⊢;obtain⟨z,hz,zl,iz⟩:=xf q.n S (by rw[g1];simp);rw[zl]
 have r2:F (k+1) .sized [bk (B++ [q])]=match ph (F k) (L k) [some (bk (B++ [q])),none,none,none] []with
  |.nx _ _=>.ok .non
  |.rt v h=>ii v h
  |_=>.bad:=rfl
 have fo:gh aa7 (D_ 2) (iG (F k) (L k)) [some (bk (B++ [q])),some (.ref 0),none,none] [J5 []]=aR (D_ 2) (iG (F k) (L k)) ((B++ [q]).map pc) [some (bk (B++ [q])),some (.ref 0),none,none] [J5 []]:=rfl;have s0:aO 1 kr [some (bk (B++ [q])),none,none,none] []=.nx [some (bk (B++ [q])),some (.ref 0),none,none] [J5 []]:=rfl;have d0:am [J5 S] (.ref 0)=.ref 0:=rfl;rw[r2];unfold ph;rw[eK,s0];dsimp only;rw[eK,fo,g2];simp only[EX,nt,d0,iz,lU,uy,ux];rfl
theorem BB(i n:Nat)(l2:List PV)(h2:aq l2=true):∀(l1:List PV),aq l1=true→Ot (l1++.ref i::l2)=[i]∧QG n (l1++.ref i::l2)=l1++.ref n::l2∧jU (l1++.ref i::l2)=true
 |[],_=>by
  have e:∀(l:List PV),aq l=true→Ot l= []∧(∀n,QG n l=l)∧jU l=true:=fun l hl=>by
   induction l with
   |nil=>exact⟨rfl,fun _=>rfl,rfl⟩
   |cons p r ih=>
    rw[aq,Bool.and_eq_true]at hl;obtain⟨a,b,c⟩:=ih hl.2;have np:∀i,p≠.ref i:=fun i e=>by have:=hl.1;subst e;simp[PV.pure]at this
    have e:jU (p::r)=(p.pure&&jU r):=by cases p<;>first|rfl|exact(np _ rfl).elim
    refine⟨?_,fun n=>?_,by rw[e,hl.1,c];rfl⟩
    ·cases p<;>first|exact a|exact(np _ rfl).elim
    ·cases p<;>first|exact congrArg _ (b n)|exact(np _ rfl).elim
  obtain⟨a,b,c⟩:=e l2 h2;refine⟨?_,?_,c⟩
  ·show i::Ot l2=_;rw[a]
  ·show PV.ref n::QG (n+1) l2=_;rw[b];rfl
 |p::r,h=>by
  rw[aq,Bool.and_eq_true]at h;obtain⟨a,b,c⟩:=BB i n l2 h2 r h.2;have np:∀i,p≠.ref i:=fun i e=>by have:=h.1;subst e;simp[PV.pure]at this
  have e:jU (p::(r++.ref i::l2))=(p.pure&&jU (r++.ref i::l2)):=by cases p<;>first|rfl|exact(np _ rfl).elim
  rw[List.cons_append];refine⟨?_,?_,by rw[e,h.1,c];rfl⟩
  ·cases p<;>first|exact a|exact(np _ rfl).elim
  ·cases p<;>first|exact congrArg _ b|exact(np _ rfl).elim
theorem bY{fn:List PV→List PO→Res PV}(l1 l2:List PV){h:List PO}{i:Nat}{o o':PO}{v:PV}(h1:aq l1=true)(h2:aq l2=true)(ho:h[i]? =some o)(oo:o.pure=true)(e:fn (l1++.ref 0::l2) [o]=.ok v [o'])(hv:v.pure=true)(Wi:o'.pure=true):
  w7 fn (l1++.ref i::l2) h=.ok v (h.set i o'):=by
 obtain⟨q1,q2,q3⟩:=BB i 0 l2 h2 l1 h1;have e4:kY h [i]=some [o]:=by simp[kY,ho]
 unfold w7;rw[q1,e4];dsimp only;rw[q3,q2,e];have e5:(true&&aT [o]&&jj [i])=true:=by simp[aT,oo,jj]
 rw[if_pos e5];dsimp only;rw[if_pos ⟨hv,by simp[aT,Wi],rfl⟩];rfl
inductive Hd where
 |nil
 |cons (b:w6) (i:Int) (h:Hd)
def hv:Hd→PV
 |.nil=>.non
 |.cons b i h=>.tup [.tup (j6 b),.int i,hv h]
noncomputable def SN(kn:List (List Nat)):Hd→Bool
 |.nil=>true
 |.cons b _ h=>Mg kn b&&(decide (J8 b≤1000000)&&SN kn h)
theorem tN:∀h:Hd,(hv h).pure=true
 |.nil=>rfl
 |.cons b i h=>by simp[hv,PV.pure,aq,bt,tN h]
theorem rL(h:List PO)(x:Hd):am h (hv x)=hv x:=aG (h:=h) (tN x)
abbrev Lr(i:Int):PO:=.lst [.int i]
theorem ng(i:Int):(Lr i).pure=true:=rfl
def PN(t:Bool)(B:List Pc):PV:=if t then .tup (B.map pc)else .lst (B.map pc)
theorem vJ(t:Bool)(B:List Pc):(PN t B).pure=true:=by cases t<;>(unfold PN;simp only[if_true,Bool.false_eq_true,if_false];rw[PV.pure];exact ju B)
theorem qH(t:Bool)(B:List Pc)(h:List PO):am h (PN t B)=PN t B:=by cases t<;>rfl
theorem CB(t:Bool)(B:List Pc)(h:List PO):kI (PN t B) h=.ok (B.map pc) h:=by cases t<;>rfl
theorem CA(t:Bool){B:List Pc}{i:Nat}{q:Pc}(e:B[i]? =some q)(h:List PO):d7 (PN t B) (.int i) h=.ok (pc q) h:=by
 cases t with
 |true=>exact JJ e h
 |false=>show d7 (.lst (B.map pc)) _ h=_;rw[yh,fF (v:=pc q) (by omega) (by rw[Int.toNat_natCast,List.getElem?_map,e];rfl)];rfl
noncomputable def zH:Hd→Hd
 |.nil=>.nil
 |.cons b _ h=>.cons b 0 (zH h)
theorem DQ(B:List Pc)(x:List Nat)(us:(B.map (·.n)).contains x=true):∃(i:Nat)(q:Pc),(B.map (·.n)).idxOf x=i∧i<(B.map (·.n)).length∧B[i]? =some q∧look B x=some q:=by
 induction B with
 |nil=>cases us
 |cons p r ih=>
  by_cases e:p.n=x
  ·subst e;exact⟨0,p,by simp,by simp,rfl,by simp[look]⟩
  ·rw[List.map_cons,List.contains_cons,Bool.or_eq_true]at us;rcases us with z|z
   ·exact(e (eq_of_beq z).symm).elim
   ·obtain⟨i,q,a,b,c,d⟩:=ih z;refine⟨i+1,q,?_,by rw[List.map_cons,List.length_cons];omega,by rw[List.getElem?_cons_succ];exact c,?_⟩
    ·rw[List.map_cons,List.idxOf_cons];rw[show(p.n==x)=false from(by simpa using e),← a];rfl
    ·unfold look at d ⊢;rw[List.find?_cons_of_neg (by simpa using e)];exact d
noncomputable def QD:Option (Nat×Nat)→Option (Nat×Nat)
 |none=>none
 |some a=>some (a.1+1,a.2+1)
noncomputable def cR(g:Nd→Option (Nat×Nat)):w6→Option (Nat×Nat)
 |.nil=>some (0,0)
 |.cons n r=>match g n,cR g r with
  |some a,some b=>some (a.1+b.1,max a.2 b.2)
  |_,_=>none
def Mh(B:List Pc)(rec:w6→Hd→Option (Nat×Nat))(hd:Hd):Nd→Option (Nat×Nat)
 |.loop _ _ b _=>QD (rec b hd)
 |.choice _ y z=>QD (rec (M7 y z) hd)
 |.use x _=>match look B x with
  |none=>none
  |some q=>QD (rec q.b .nil)
 |.j8 x _ _ b=>match look B x with
  |none=>none
  |some q=>QD (rec q.b (.cons b 0 hd))
 |.body _=>match hd with
  |.nil=>some (1,1)
  |.cons b _ h=>QD (rec b h)
 |_=>some (1,1)
def cX(B:List Pc):Nat→w6→Hd→Option (Nat×Nat)
 |0=>fun _ _=>none
 |f+1=>fun b hd=>cR (Mh B (cX B f) hd) b
theorem yI{g h:Nd→Option (Nat×Nat)}(e:∀n r,g n=some r→h n=some r):∀(b:w6)(r:Nat×Nat),cR g b=some r→cR h b=some r
 |.nil,r,z=>z
 |.cons n t,r,z=>by
  rw[cR]at z ⊢
  cases e1:g n with
  |none=>rw[e1]at z;cases z
  |some a=>
   cases e2:cR g t with
   |none=>rw[e1,e2]at z;cases z
   |some b=>rw[e1,e2]at z;rw[e n a e1,yI e t b e2];exact z
theorem fG{a b:Option (Nat×Nat)}(e:∀r,a=some r→b=some r):∀r,QD a=some r→QD b=some r:=fun r h=>by
 cases a with
 |none=>cases h
 |some x=>rw[e x rfl];exact h
theorem lK(B:List Pc):∀(f:Nat)(b:w6)(hd:Hd)(r:Nat×Nat),cX B f b hd=some r→cX B (f+1) b hd=some r
 |0,_,_,_,h=>by cases h
 |f+1,b,hd,r,h=>by
  rw[cX]at h ⊢;refine yI (fun n r hn=>?_) b r h
  cases n with
  |loop x p c t=>exact fG (lK B f c hd) r hn
  |choice p y z=>exact fG (lK B f (M7 y z) hd) r hn
  |use x ps=>
   rw[Mh]at hn ⊢
   cases e:look B x with
   |none=>rw[e]at hn;cases hn
   |some q=>rw[e]at hn;exact fG (lK B f q.b .nil) r hn
  |j8 x ps hs c=>
   rw[Mh]at hn ⊢
   cases e:look B x with
   |none=>rw[e]at hn;cases hn
   |some q=>rw[e]at hn;exact fG (lK B f q.b (.cons c 0 hd)) r hn
  |body ps=>
   cases hd with
   |nil=>exact hn
   |cons c i h2=>exact fG (lK B f c h2) r hn
  |text s=>exact hn
  |place p s=>exact hn
def xx(t:Bool)(B:List Pc)(j:Nat):Prop:=∀(b:w6)(hd:Hd)(i left:Int)(k:Nat),Mg (B.map (·.n)) b=true→J8 b≤1000000→SN (B.map (·.n)) hd=true→ -1≤left→j+1≤k→
 ∃left',(-1≤left'∧left'≤left∧(0≤left'→∃r,cX B (j+1) b (zH hd)=some r))∧L k .C_ [PN t B,.tup (j6 b),.int i,hv hd,.int (41 - (j:Int)),.ref 0] [Lr left]=.ok .non [Lr left']
theorem Fg(h:List PO)(xs:List PV):fB h (.lst xs)=true:=rfl
theorem yG(t:Bool)(B:List Pc)(lB:B.length≤1000)(x:List Nat)(us:(B.map (·.n)).contains x=true):∃(q:Pc)(i':Nat),B[i']? =some q∧look B x=some q∧(∀h,oV (.lst ((B.map (·.n)).map PV.str)) [.str x] h=.ok (.int i') h)∧(B.map pc).length<16777216:=by obtain⟨i,q,a,b,c,d⟩:=DQ B x us;refine⟨q,i,c,d,fun h=>?_,by rw[List.length_map];omega⟩;show(match(some ((B.map (·.n)).map PV.str)).bind fC with|some ls=>if ls.length≤sizeLine∧ls.idxOf x<ls.length then Res.ok (PV.int (ls.idxOf x:Nat)) h else .bad|none=>.bad)=_;rw[Option.bind_some,iY];dsimp only;rw[a,if_pos ⟨by rw[List.length_map];exact Nat.le_trans lB (by decide),b⟩]
theorem yF(B:List Pc)(k:Nat)(ρ:Ev)(h:List PO):cT dD (jY (F k)) (dg [] ρ) (B.map pc) h=.ok ((B.map (·.n)).map PV.str) h:=by
 rw[List.map_map]
 exact tx pc _ B fun p hp=>by show jY (F k) [some (pc p)] h=_;simp only[EX,jY];rfl
abbrev mE(t:Bool)(B:List Pc)(a:PV)(i:Int)(hd:Hd)(j:Nat)(x6 x7 x8:Option PV):Ev:=[some (PN t B),some a,some (.int i),some (hv hd),some (.int (41 - (j:Int))),some (.ref 0),x6,x7,x8]
theorem Cu(t:Bool)(B:List Pc)(lB:B.length≤1000)(hB:∀q∈B,Mg (B.map (·.n)) q.b=true∧J8 q.b≤1000000)(j k:Nat)(hj:j≤40)(ok:∀j',j'<j→xx t B j')(hk:j≤k)(a:PV)(hd:Hd)(i left:Int)(n:Nd)(x7 x8:Option PV)
    (us:Mj (B.map (·.n)) n=true) (ct:Ls n≤1000000) (ho:SN (B.map (·.n)) hd=true) (hl: -1≤left):∃left' y7 y8,(-1≤left'∧left'≤left∧(0≤left'→∃r,Mh B (cX B j) (zH hd) n=some r))∧
    (left'= -1∧bu (F k) (L k) (mE t B a i hd j (some (nd n)) x7 x8) [Lr left]=.rt .non [Lr left']∨
     bu (F k) (L k) (mE t B a i hd j (some (nd n)) x7 x8) [Lr left]=.nx (mE t B a i hd j (some (nd n)) y7 y8) [Lr left']):=by
  have Qx:∀m:Int,d7 (.ref 0) (.int 0) [Lr m]=.ok (.int m) [Lr m]:=fun m=>rfl;have d0:∀m:Int,am [Lr m] (.ref 0)=.ref 0:=fun m=>rfl;have st:∀(v m:Int) ρ,jg (.int v) (.ref 0) (.int 0) ρ [Lr m]=.nx ρ [Lr v]:=fun v m ρ=>rfl
  by_cases c1:left - 1<0
  · have z1:decide (left - 1<0)=true:=decide_eq_true c1
    exact⟨-1,x7,x8,⟨by omega,by omega,fun z=>by omega⟩,.inl ⟨rfl,by simp only[EX,bu,d0,Qx,st,z1]⟩⟩
  have z1:decide (left - 1<0)=false:=decide_eq_false c1
  cases j with
  |zero=>exact⟨-1,x7,x8,⟨by omega,by omega,fun z=>by omega⟩,.inl ⟨rfl,by simp only[EX,bu,d0,Qx,st,z1];rfl⟩⟩
  |succ j=>
    have z2:decide (41 - ((j+1:Nat):Int)>40)=false:=decide_eq_false (by omega);have ad:41 - ((j+1:Nat):Int)+1=41 - (j:Int):=by omega
    have pu:∀(b:w6)(i':Int)(h':Hd),aq [PN t B,.tup (j6 b),.int i',hv h',.int (41 - (j:Int))]=true:=fun b i' h'=>by simp[aq,vJ,PV.pure,bt,tN]
    have go:∀(b:w6)(i':Int)(h':Hd),Mg (B.map (·.n)) b=true→J8 b≤1000000→SN (B.map (·.n)) h'=true→∃left',(-1≤left'∧left'≤left - 1∧(0≤left'→∃r,cX B (j+1) b (zH h')=some r))∧w7 (L k .C_) [PN t B,.tup (j6 b),.int i',hv h',.int (41 - (j:Int)),.ref 0] [Lr (left - 1)]=.ok .non [Lr left']:=fun b i' h' u c o=>by obtain⟨l',g1,g2⟩:=ok j (Nat.lt_succ_self _) b h' i' (left - 1) k u c o (by omega) (by omega);exact⟨l',g1,bY (fn:=L k .C_) [PN t B,.tup (j6 b),.int i',hv h',.int (41 - (j:Int))] [] (pu b i' h') rfl rfl (ng _) g2 rfl (ng _)⟩
    have up:∀{b:w6}{h':Hd}{l':Int}{n:Nd},(-1≤l'∧l'≤left - 1∧(0≤l'→∃r,cX B (j+1) b (zH h')=some r))→Mh B (cX B (j+1)) (zH hd) n=QD (cX B (j+1) b (zH h'))→ -1≤l'∧l'≤left∧(0≤l'→∃r,Mh B (cX B (j+1)) (zH hd) n=some r):=fun g e=>⟨g.1,by have:=g.2.1;omega,fun z=>by obtain⟨r,hr⟩:=g.2.2 z;rw[e,hr];exact⟨_,rfl⟩⟩
    cases n with
    |text s=>exact⟨left - 1,x7,x8,⟨by omega,by omega,fun _=>⟨_,rfl⟩⟩,.inr (by simp only[EX,bu,d0,Qx,st,z1,z2])⟩
    |place p s=>exact⟨left - 1,x7,x8,⟨by omega,by omega,fun _=>⟨_,rfl⟩⟩,.inr (by simp only[EX,bu,d0,Qx,st,z1,z2])⟩
    |loop x p b s=>rw[Mj]at us;rw[Ls]at ct;obtain⟨l',g1,g2⟩:=go b i hd us ct ho;exact⟨l',x7,x8,up g1 rfl,.inr (by simp only[EX,bu,d0,Qx,st,z1,z2,qH,rL,ad,g2])⟩
    |choice p y z=>rw[Mj,Bool.and_eq_true]at us;rw[Ls]at ct;obtain⟨l',g1,g2⟩:=go (M7 y z) i hd (by rw[wc,us.1,us.2];rfl) (by rw[ub];exact ct) ho;rw[tj]at g2;have aa:∀h,aN (.tup (j6 y)) (.tup (j6 z)) h=.ok (.tup (j6 y++j6 z)) h:=fun h=>mF _ _ h (by have:=mX y;have:=mX z;exact Nat.le_trans (by omega:_≤1000000) (by decide));exact⟨l',x7,x8,up g1 rfl,.inr (by simp only[EX,bu,d0,Qx,st,z1,z2,qH,rL,aa,ad,g2])⟩
    |body ps=>
      cases hd with
      |nil=>exact⟨left - 1,x7,x8,⟨by omega,by omega,fun _=>⟨_,rfl⟩⟩,.inr (by simp only[EX,bu,d0,Qx,st,z1,z2,hv])⟩
      |cons b i' h'=>
        rw[SN,Bool.and_eq_true,Bool.and_eq_true]at ho;obtain⟨l',g1,g2⟩:=go b i' h' ho.1 (of_decide_eq_true ho.2.1) ho.2.2;have e0:∀h,d7 (hv (.cons b i' h')) (.int 0) h=.ok (.tup (j6 b)) h:=fun h=>by rw[hv];rfl
        have e1:∀h,d7 (hv (.cons b i' h')) (.int 1) h=.ok (.int i') h:=fun h=>by rw[hv];rfl
        have e2:∀h,d7 (hv (.cons b i' h')) (.int 2) h=.ok (hv h') h:=fun h=>by rw[hv];show Res.ok (am h (hv h')) h=_;rw[rL]
        have en:kq (hv (.cons b i' h'))=false:=by rw[hv];rfl
        exact⟨l',x7,x8,up g1 rfl,.inr (by simp only[EX,bu,d0,Qx,st,z1,z2,qH,rL,e0,e1,e2,en,ad,g2])⟩
    |use x ps=>rw[Mj]at us;obtain⟨q,ax,hq,lk,ia,ll⟩:=yG t B lB x us;have cm:=yF B k;obtain⟨l',g1,g2⟩:=go q.b ax .nil (hB q (List.mem_of_getElem? hq)).1 (hB q (List.mem_of_getElem? hq)).2 rfl;have g3:w7 (L k .C_) [PN t B,.tup (j6 q.b),.int ax,.non,.int (41 - (j:Int)),.ref 0] [Lr (left - 1)]=.ok .non [Lr l']:=g2;exact⟨l',some (.int ax),some .non,up g1 (by rw[Mh,lk];rfl),.inr (by simp only[EX,bu,d0,Qx,st,z1,z2,qH,CB,rL,cm,ll,ia,CA t hq,ad,Fg,g3])⟩
    |j8 x ps hs b=>rw[Mj,Bool.and_eq_true]at us;rw[Ls]at ct;obtain⟨q,ax,hq,lk,ia,ll⟩:=yG t B lB x us.1;have cm:=yF B k;obtain⟨l',g1,g2⟩:=go q.b ax (.cons b i hd) (hB q (List.mem_of_getElem? hq)).1 (hB q (List.mem_of_getElem? hq)).2 (by rw[SN,us.2,ho,decide_eq_true ct];rfl);have g3:w7 (L k .C_) [PN t B,.tup (j6 q.b),.int ax,.tup [.tup (j6 b),.int i,hv hd],.int (41 - (j:Int)),.ref 0] [Lr (left - 1)]=.ok .non [Lr l']:=g2;have dt:∀h,am h (.tup [.tup (j6 b),.int i,hv hd])=.tup [.tup (j6 b),.int i,hv hd]:=fun h=>rfl;exact⟨l',some (.int ax),some (.tup [.tup (j6 b),.int i,hv hd]),up g1 (by rw[Mh,lk];rfl),.inr (by simp only[EX,bu,d0,Qx,st,z1,z2,qH,CB,rL,cm,ll,ia,CA t hq,ad,Fg,dt,g3])⟩
theorem rR(t:Bool)(B:List Pc)(lB:B.length≤1000)(hB:∀q∈B,Mg (B.map (·.n)) q.b=true∧J8 q.b≤1000000)(j k:Nat)(hj:j≤40)(ok:∀j',j'<j→xx t B j')(hk:j≤k)(a:PV)(hd:Hd)(i:Int)(ho:SN (B.map (·.n)) hd=true):
    ∀(b:w6)(left:Int)(x6 x7 x8:Option PV),Mg (B.map (·.n)) b=true→J8 b≤1000000→ -1≤left→∃left' ρ',(-1≤left'∧left'≤left∧(0≤left'→∃r,cX B (j+1) b (zH hd)=some r))∧
      (aR (D_ 6) (bu (F k) (L k)) (j6 b) (mE t B a i hd j x6 x7 x8) [Lr left]=.rt .non [Lr left']∨
       aR (D_ 6) (bu (F k) (L k)) (j6 b) (mE t B a i hd j x6 x7 x8) [Lr left]=.nx ρ' [Lr left'])
  |.nil,left,x6,x7,x8,_,_,hl=>⟨left,_,⟨hl,Int.le_refl _,fun _=>⟨_,rfl⟩⟩,.inr (by rw[j6,aR])⟩
  |.cons n r,left,x6,x7,x8,us,ct,hl=>by
    rw[Mg,Bool.and_eq_true]at us;rw[J8]at ct;obtain⟨l1,y7,y8,g1,g2⟩:=Cu t B lB hB j k hj ok hk a hd i left n x7 x8 us.1 (by omega) ho hl
    have one:0≤l1→(∃r',cX B (j+1) r (zH hd)=some r')→∃r',cX B (j+1) (.cons n r) (zH hd)=some r':=by intro z hz;obtain⟨r2,h2⟩:=hz;obtain⟨r1,h1⟩:=g1.2.2 z;have e2:cR (Mh B (cX B j) (zH hd)) r=some r2:=h2;show∃r',cR (Mh B (cX B j) (zH hd)) (.cons n r)=some r';rw[cR,h1,e2];exact⟨_,rfl⟩
    obtain⟨l2,ρ2,g3,g4⟩:=rR t B lB hB j k hj ok hk a hd i ho r l1 (some (nd n)) y7 y8 us.2 (by omega) g1.1
    have step:aR (D_ 6) (bu (F k) (L k)) (j6 (.cons n r)) (mE t B a i hd j x6 x7 x8) [Lr left]=
        match bu (F k) (L k) (mE t B a i hd j (some (nd n)) x7 x8) [Lr left]with
        |.nx ρ2 h2=>aR (D_ 6) (bu (F k) (L k)) (j6 r) ρ2 h2
        |.ct ρ2 h2=>aR (D_ 6) (bu (F k) (L k)) (j6 r) ρ2 h2
        |.bk ρ2 h2=>.nx ρ2 h2
        |.rt v h2=>.rt v h2
        |.exc v h2=>.exc v h2
        |.bad=>.bad:=by rw[j6];rfl
    rw[step];rcases g2 with⟨e,g2⟩|g2
    · rw[g2];exact⟨l1,[],⟨g1.1,g1.2.1,fun z=>by omega⟩,.inl rfl⟩
    · rw[g2];exact⟨l2,ρ2,⟨g3.1,by have:=g3.2.1;have:=g1.2.1;omega,fun z=>one (by have:=g3.2.1;omega) (g3.2.2 z)⟩,g4⟩
theorem EH(t:Bool)(B:List Pc)(lB:B.length≤1000)(hB:∀q∈B,Mg (B.map (·.n)) q.b=true∧J8 q.b≤1000000):∀j,j≤40→xx t B j:=by
 intro j
 induction j using Nat.strongRecOn with
 |ind j ih=>
  intro hj b hd i left k us ct ho hl hk;obtain⟨k',rfl⟩:∃k',k=k'+1:=⟨k - 1,by omega⟩
  obtain⟨l',ρ',g1,g2⟩:=rR t B lB hB j k' hj (fun j' h=>ih j' h (by omega)) (by omega) (.tup (j6 b)) hd i ho b left none none none us ct hl;refine⟨l',g1,?_⟩;have r2:L (k'+1) .C_ [PN t B,.tup (j6 b),.int i,hv hd,.int (41 - (j:Int)),.ref 0] [Lr left]=match aR (D_ 6) (bu (F k') (L k')) (j6 b) (mE t B (.tup (j6 b)) i hd j none none none) [Lr left]with|.nx _ h1=>fV 1 .non h1|.rt v h1=>eU 1 v h1|_=>.bad:=rfl
  rw[r2];rcases g2 with g2|g2<;>rw[g2]<;>rfl
theorem yd:∀(l:List PV),aq l=true→Ot l= []∧(∀n,QG n l=l)∧jU l=true
 |[],_=>⟨rfl,fun _=>rfl,rfl⟩
 |p::r,hl=>by
  rw[aq,Bool.and_eq_true]at hl;obtain⟨a,b,c⟩:=yd r hl.2;have np:∀i,p≠.ref i:=fun i e=>by have:=hl.1;subst e;simp[PV.pure]at this
  have e:jU (p::r)=(p.pure&&jU r):=by cases p<;>first|rfl|exact(np _ rfl).elim
  refine⟨?_,fun n=>?_,by rw[e,hl.1,c];rfl⟩
  ·cases p<;>first|exact a|exact(np _ rfl).elim
  ·cases p<;>first|exact congrArg _ (b n)|exact(np _ rfl).elim
theorem EK{fn:List PV→List PO→Res PV}(l:List PV)(hl:aq l=true):
  (∀v,v.pure=true→fn l []=.ok v []→w7 fn l []=.ok v [])∧(∀v,v.pure=true→fn l []=.exc v []→w7 fn l []=.exc v []):=by
 obtain⟨q1,q2,q3⟩:=yd l hl;refine⟨fun v hv e=>?_,fun v hv e=>?_⟩<;>
 ·unfold w7;rw[q1];show(if(jU l&&aT []&&jj [])=true then _ else _)=_;rw[q3,if_pos (by simp[aT,jj]),q2,e];dsimp only;rw[if_pos ⟨hv,rfl,rfl⟩];rfl
theorem EL(k:Nat)(B:List Pc)(q:Pc)(hk:45≤k)(lB:B.length+1≤8)(hw:∀p∈B++ [q],wC p=true)(hr:∀p∈B++ [q],dS p.b≤6∧J8 p.b≤1000000):
  (∀w,Ou (B.length+1) [] (B++ [q])=some w→X_ (k+1) .k_ [bk (B++ [q])] []=.exc (.Nh 2 (wy w)) [])∧
  (Ou (B.length+1) [] (B++ [q])=none→X_ (k+1) .k_ [bk (B++ [q])] []=if(decide ((K8 (bS [] (B++ [q])) q.n).1>400)||decide ((K8 (bS [] (B++ [q])) q.n).2.1>24))=true then .exc (.cls 1) []else .ok (nms q.ns) []):=by
 obtain⟨k',rfl⟩:∃k',k=k'+1:=⟨k - 1,by omega⟩
 have l1:(B++ [q]).length=B.length+1:=by simp
 have nm:=By k' (B++ [q]) (by omega) (by omega) hw;rw[l1]at nm;obtain⟨c1,c2⟩:=EK (fn:=X_ (k'+1) .m7) [bk (B++ [q])] (by rw[aq,eh];rfl)
 have r2:X_ (k'+1+1) .k_ [bk (B++ [q])] []=match eO (F (k'+1)) (X_ (k'+1)) [some (bk (B++ [q])),none] []with
   |.nx _ h1=>fV 0 .non h1
   |.rt v h1=>eU 0 v h1
   |.exc e h1=>vD 0 e h1
   |_=>.bad:=rfl
 refine⟨fun w hf=>?_,fun hf=>?_⟩
 ·rw[hf]at nm;have wp:(PV.Nh 2 (wy w)).pure=true:=by rw[PV.pure];exact io w
  have cc:=c2 _ wp nm;rw[r2];simp only[EX,eO,cc,Res.Nk];simp[vD,aT,wp]
 ·rw[hf]at nm;have cc:=c1 .non rfl nm;have sz:=uz k' (by omega) B q lB hr hf;generalize(K8 (bS [] (B++ [q])) q.n).1=x at sz ⊢;generalize(K8 (bS [] (B++ [q])) q.n).2.1=y at sz ⊢;have cs:∀h,bO (F (k'+1) .sized) [bk (B++ [q])] h=.ok (.tup [.int x,.int y]) h:=fun h=>aZ h (by rw[aq,eh];rfl) sz;rw[r2]
  cases e:decide (x>400)||decide (y>24)with
  |true=>
   rw[if_pos rfl]
   cases e1:decide (x>400)with
   |true=>simp only[EX,eO,cc,cs,e1];rfl
   |false=>rw[e1,Bool.false_or]at e;simp only[EX,eO,cc,cs,e1,e];rfl
  |false=>
   rw[if_neg (by decide)];rw[Bool.or_eq_false_iff]at e
   have fi:eU 0 (nms q.ns) []=.ok (nms q.ns) []:=by unfold eU;rw[gw _ (bP _)];rfl
   simp only[EX,eO,cc,cs,e.1,e.2,nt,fi]
theorem pN(f:Nat→List Nat):∀(n:Nat)(x:List Nat),x∈dT f n↔∃i,i<n∧f i=x
 |0,x=>by simp[dT]
 |n+1,x=>by
  rw[dT,vj,pN f n x];constructor
  ·rintro(⟨i,h,e⟩|e)
   ·exact⟨i,by omega,e⟩
   ·exact⟨n,by omega,e.symm⟩
  ·rintro⟨i,h,e⟩
   rcases Nat.lt_or_ge i n with q|q
   ·exact .inl ⟨i,q,e⟩
   ·have:i=n:=by omega
    subst this;exact .inr e.symm
theorem sM(f:Nat→List Nat):∀n,(dT f n).length≤n
 |0=>Nat.le_refl _
 |n+1=>by
  have:=sM f n;rw[dT,oQ]
  split
  ·omega
  ·rw[List.length_append,List.length_singleton];omega
theorem xJ(f:Nat→List Nat):∀n,(dT f n).length=n↔∀i j,i<j→j<n→f i≠f j
 |0=>⟨fun _ i j _ h=>(by omega),fun _=>rfl⟩
 |n+1=>by
  have le:=sM f n;have ih:=xJ f n;rw[dT,oQ]
  split
  ·rename_i hm;obtain⟨i,hi,e⟩:=(pN f n _).mp hm;exact⟨fun z=>by omega,fun z=>(z i n hi (by omega) e).elim⟩
  ·rename_i hm;rw[List.length_append,List.length_singleton];constructor
   ·intro z i j SJ hj e;rcases Nat.lt_or_ge j n with q|q
    ·exact ih.mp (by omega) i j SJ q e
    ·have:j=n:=by omega
     subst this;exact hm ((pN f j _).mpr ⟨i,SJ,e⟩)
   ·intro z;have:=ih.mpr fun i j h g=>z i j h (by omega);omega
theorem jZ(l:List (List Nat)):dup l=false↔l.Nodup:=by
 have h:=xJ (fun i=>l.getD i []) l.length;have le:=sM (fun i=>l.getD i []) l.length;unfold dup nK;rw[decide_eq_false_iff_not];constructor
 ·intro z;have:=h.mp (by omega);rw[List.Nodup,List.pairwise_iff_getElem];intro i j hi hj SJ;have:=this i j SJ hj;simpa[List.getD_eq_getElem?_getD,hi,hj]using this
 ·intro z
  have:∀i j,i<j→j<l.length→l.getD i []≠l.getD j []:=fun i j SJ hj=>by
   rw[List.Nodup,List.pairwise_iff_getElem]at z;have hi:i<l.length:=by omega
   have:=z i j hi hj SJ;simpa[List.getD_eq_getElem?_getD,hi,hj]using this
  have:=h.mpr this;omega
structure Pe where
 n:List Nat
 m:Nat
 h:Option Int
noncomputable def LR(q:Pc):Pe:=⟨q.n,q.ns.length,q.m⟩
noncomputable def Qm(P:List Pe)(x:List Nat):Option Pe:=P.find? fun p=>p.n==x
def Mp(P:List Pe)(x:List Nat)(l:Nat)(h:Option Int):Bool:=match Qm P x with
 |none=>false
 |some p=>decide (p.m=l)&&decide (p.h=h)
abbrev Cx:=List Pe×Option Int×List (List Nat)
noncomputable def Ol(X:Cx)(ps:List G7):Bool:=ps.all fun p=>X.2.2.contains p.a
abbrev U8(X:Cx)(h:List (List Nat)):Cx:=(X.1,X.2.1,X.2.2++h)
mutual
def okN(X:Cx):Nd→Bool
 |.text _=>true
 |.place p _=>Ol X [p]
 |.loop x p b _=>Ol X [p]&&Lh (U8 X [x]) b
 |.choice p y z=>Ol X [p]&&(Lh X y&&Lh X z)
 |.use x ps=>Ol X ps&&Mp X.1 x ps.length none
 |.j8 x ps h b=>Ol X ps&&(Mp X.1 x ps.length (some (h.length:Int))&&(!dup h&&Lh (U8 X h) b))
 |.body ps=>Ol X ps&&decide (X.2.1=some (ps.length:Int))
def Lh(X:Cx):w6→Bool
 |.nil=>true
 |.cons n r=>okN X n&&Lh X r
end
theorem tD(x:List Nat):∀E:List Pc,Qm (E.map LR) x=(look E x).map LR
 |[]=>rfl
 |q::r=>by
  have ih:=tD x r;unfold Qm look at*;rw[List.map_cons,List.find?_cons,List.find?_cons,ih];show(match q.n==x with|true=>_|false=>_)=_
  cases q.n==x<;>rfl
theorem oW{X:Cx}{ps:List G7}(h:Ol X ps=true):ps.any (out X.2.2)=false:=by rw[List.any_eq_false];intro p hp;have:=List.all_eq_true.mp h p hp;unfold out;rw[this];decide
theorem tc{X:Cx}{p:G7}(h:Ol X [p]=true):out X.2.2 p=false:=by have:=oW h;simpa using this
theorem kL{E:List Pc}{x:List Nat}{l:Nat}{h:Option Int}(e:Mp (E.map LR) x l h=true):∃q,look E x=some q∧q.ns.length=l∧q.m=h:=by
 unfold Mp at e;rw[tD]at e
 cases z:look E x with
 |none=>rw[z]at e;cases e
 |some q=>rw[z]at e;simp only[Option.map_some,Bool.and_eq_true,decide_eq_true_eq]at e;exact⟨q,rfl,e.1,e.2⟩
mutual
theorem Hu(E:List Pc)(m:Option Int)(w:List Int)(ns:List (List Nat)):∀n:Nd,okN (E.map LR,m,ns) n=true→M9 E m ns n=false∧Qh E m w ns n=none
 |.loop x p b t,h=>by rw[okN,Bool.and_eq_true]at h;exact⟨by rw[M9];exact tc h.1,by rw[Qh];exact nU E m w 0 _ b h.2⟩
 |.choice p y z,h=>by rw[okN,Bool.and_eq_true,Bool.and_eq_true]at h;exact⟨by rw[M9];exact tc h.1,by rw[Qh,nU E m _ 0 _ y h.2.1,nU E m _ 0 _ z h.2.2];rfl⟩
 |.use x ps,h=>by rw[okN,Bool.and_eq_true]at h;obtain⟨q,q1,q2,q3⟩:=kL h.2;refine⟨?_,rfl⟩;rw[M9,oW h.1,q1];show O_ ps q none=false;simp[O_,q2,q3]
 |.j8 x ps hs b,h=>by
  rw[okN,Bool.and_eq_true,Bool.and_eq_true,Bool.and_eq_true]at h;obtain⟨q,q1,q2,q3⟩:=kL h.2.1;refine⟨?_,by rw[Qh];exact nU E m w 0 _ b h.2.2.2⟩;have dd:dup hs=false:=by have:=h.2.2.1;simpa using this
  rw[M9,oW h.1,q1];show O_ ps q (some hs)=false;simp[O_,q2,q3,dd]
 |.body ps,h=>by rw[okN,Bool.and_eq_true,decide_eq_true_eq]at h;refine⟨?_,rfl⟩;have hm:m=some (ps.length:Int):=h.2;have ha:ps.any (out ns)=false:=oW h.1;subst hm;show(ps.any (out ns)||(ps.length:Int) !=(ps.length:Int))=false;rw[ha];simp
 |.text _,_=>⟨rfl,rfl⟩
 |.place p s,h=>by rw[okN]at h;exact⟨by rw[M9];exact tc h,rfl⟩
theorem nU(E:List Pc)(m:Option Int)(w:List Int)(k:Nat)(ns:List (List Nat)):∀b:w6,Lh (E.map LR,m,ns) b=true→MK E m w k ns b=none
 |.nil,_=>rfl
 |.cons n r,h=>by rw[Lh,Bool.and_eq_true]at h;obtain⟨a,c⟩:=Hu E m (w++ [(k:Int)]) ns n h.1;rw[MK,a,if_neg (by decide),c,nU E m w (k+1) ns r h.2];rfl
end
theorem xX{P:List Pe}{x:List Nat}{l:Nat}{h:Option Int}(e:Mp P x l h=true):(P.map (·.n)).contains x=true:=by
 unfold Mp at e
 cases z:Qm P x with
 |none=>rw[z]at e;cases e
 |some p=>rw[List.contains_iff_mem];have:=List.find?_some z;rw[← eq_of_beq this];exact List.mem_map.mpr ⟨p,List.mem_of_find?_eq_some z,rfl⟩
mutual
theorem Gn(X:Cx):∀n:Nd,okN X n=true→Mj (X.1.map (·.n)) n=true
 |.loop x p b t,h=>by rw[okN,Bool.and_eq_true]at h;rw[Mj];exact mr (U8 X [x]) b h.2
 |.choice p y z,h=>by rw[okN,Bool.and_eq_true,Bool.and_eq_true]at h;rw[Mj,mr X y h.2.1,mr X z h.2.2];rfl
 |.use x ps,h=>by rw[okN,Bool.and_eq_true]at h;rw[Mj];exact xX h.2
 |.j8 x ps hs b,h=>by rw[okN,Bool.and_eq_true,Bool.and_eq_true,Bool.and_eq_true]at h;rw[Mj,xX h.2.1];exact mr (U8 X hs) b h.2.2.2
 |.body _,_=>rfl
 |.text _,_=>rfl
 |.place _ _,_=>rfl
theorem mr(X:Cx):∀b:w6,Lh X b=true→Mg (X.1.map (·.n)) b=true
 |.nil,_=>rfl
 |.cons n r,h=>by rw[Lh,Bool.and_eq_true]at h;rw[Mg,Gn X n h.1,mr X r h.2];rfl
end
def Mi:List Pc→List Pc→Bool
 |_,[]=>true
 |E,q::r=>!(E.map (·.n)).contains q.n&&(!dup q.ns&&(Lh (E.map LR,q.m,q.ns) q.b&&Mi (E++ [q]) r))
theorem vb(q:Pc):∀(r E:List Pc),Mi E r=true→q.n∉(E++r).map (·.n)→dup q.ns=false→Lh ((E++r).map LR,q.m,q.ns) q.b=true→Mi E (r++ [q])=true
 |[],E,_,h1,h2,h3=>by
  rw[List.append_nil]at h1 h3
  have e:(E.map (·.n)).contains q.n=false:=by
   cases z:(E.map (·.n)).contains q.n with
   |false=>rfl
   |true=>exact(h1 (List.contains_iff_mem.mp z)).elim
  rw[List.nil_append,Mi,e,h2,h3,Mi];rfl
 |p::r,E,h,h1,h2,h3=>by rw[Mi,Bool.and_eq_true,Bool.and_eq_true,Bool.and_eq_true]at h;rw[List.cons_append,Mi,h.1,h.2.1,h.2.2.1];rw[show E++p::r=E++ [p]++r by simp]at h1 h3;exact vb q r (E++ [p]) h.2.2.2 h1 h2 h3
theorem BY(len:Nat):∀(r E:List Pc),Mi E r=true→E.length+r.length=len→(∀C q,r=C++ [q]→q.m=none)→Ou len E r=none
 |[],_,_,_,_=>rfl
 |q::r,E,h,hl,hm=>by
  rw[Mi,Bool.and_eq_true,Bool.and_eq_true,Bool.and_eq_true]at h;rw[List.length_cons]at hl;have e1:(E.map (·.n)).contains q.n=false:=by simpa using h.1
  have e2:dup q.ns=false:=by simpa using h.2.1
  have e3:(decide (E.length+1=len)&&q.m.isSome)=false:=by
   cases r with
   |nil=>rw[hm [] q rfl];simp
   |cons a t=>rw[decide_eq_false (by rw[List.length_cons]at hl;omega)];rfl
  rw[Ou,e1,e2,e3,if_neg (by decide),nU E q.m _ 0 q.ns q.b h.2.2.1,BY len r (E++ [q]) h.2.2.2 (by rw[List.length_append,List.length_singleton];omega) fun C p e=>hm (q::C) p (by rw[e];rfl)];rfl
theorem wl{l m:List Nat}(h:sg l=true)(hm:∀c∈m,c∈l):sg m=true:=List.all_eq_true.mpr fun c hc=>List.all_eq_true.mp h c (hm c hc)
theorem nA{α:Type}{l:List α}{a b:Option Int}{x:α}(h:x∈cut l a b):x∈l:=by unfold cut at h;exact List.mem_of_mem_drop (List.mem_of_mem_take h)
theorem FV{l:List Nat}(h:sg l=true)(a b:Option Int):sg (cut l a b)=true:=wl h fun _ hc=>nA hc
theorem AB{a b:List Nat}(ha:sg a=true)(hb:sg b=true):sg (a++b)=true:=by unfold sg at*;rw[List.all_append,ha,hb];rfl
theorem kd{α:Type}(l:List α)(a b:Option Int):(cut l a b).length≤l.length:=by unfold cut;rw[List.length_take,List.length_drop];omega
theorem ua{α β:Type}(f:α→β)(l:List α)(a b:Option Int):cut (l.map f) a b=(cut l a b).map f:=by unfold cut;rw[List.length_map,List.map_take,List.map_drop]
theorem AA{l:List (List Nat)}(h:H_ l=true):sg l.flatten=true:=List.all_eq_true.mpr fun c hc=>by obtain⟨x,hx,hc⟩:=List.mem_flatten.mp hc;exact List.all_eq_true.mp (List.all_eq_true.mp h x hx) c hc
theorem sI{l m:List (List Nat)}(h:H_ l=true)(hm:∀c∈m,c∈l):H_ m=true:=List.all_eq_true.mpr fun c hc=>List.all_eq_true.mp h c (hm c hc)
theorem FN{l:List (List Nat)}(h:∀x∈l,x.length≤1):(l.map (fun l=>l.length)).sum≤l.length:=by
 induction l with
 |nil=>exact Nat.le_refl _
 |cons a r ih=>have:=ih fun x hx=>h x (List.mem_cons_of_mem _ hx);have:=h a List.mem_cons_self;simp only[List.map_cons,List.sum_cons,List.length_cons];omega
def Us(i:Int):Nat:=bN.getD (i % 26).toNat 0
theorem xp:bN.length=26:=by decide
theorem CE(i:Int):LQ bN (i % 26)=some (Us i):=CF 0 (Int.emod_nonneg _ (by decide)) (by rw[xp];exact Int.emod_lt_of_pos _ (by decide))
theorem HZ(i:Int):sg [Us i]=true:=by have h0:=Int.emod_nonneg i (by decide:(26:Int)≠0);have h1:=Int.emod_lt_of_pos i (by decide:(0:Int)<26);exact wl (l:=bN) (by decide) fun c hc=>by rw[List.mem_singleton.mp hc];exact iP (by rw[xp];omega)
def w8(W:List (List Nat)):Prop:=W.length=8∧H_ W=true∧∀x∈W,x.length≤1
theorem sy{W V:List (List Nat)}(h:w8 W)(hm:∀x∈V,x∈W)(hl:V.length≤100)(hp:List PO):sg V.flatten=true∧V.flatten.length≤100∧mU (.str []) [.lst (V.map PV.str)] hp=.ok (.str V.flatten) hp:=by have s:=FN fun x hx=>h.2.2 x (hm x hx);exact⟨AA (sI h.2.1 hm),by rw[List.length_flatten];exact Nat.le_trans s hl,Dw (by omega)⟩
theorem EO(a b:List PV)(h:List PO)(q:a.length+b.length≤16777216):aN (.lst a) (.lst b) h=.ok (.lst (a++b)) h:=by show zA (.lst a) (.lst b) h=_;rw[Ic,if_pos (Nat.le_trans q (by decide))]
noncomputable def Oi:List (List Nat):=[[102,105,114,115,116],[115,101,99,111,110,100],[116,104,105,114,100],[102,111,117,114,116,104],[102,105,102,116,104],[115,105,120,116,104],[115,101,118,101,110,116,104],[101,105,103,104,116,104]]
def wB(b:Nat):List Nat:=(List.range 8).map fun i=>bN.getD ((b+5 * i) % 26) 0
noncomputable def QS(l:List Nat):List (List Nat):=l.map fun c=> [c]
theorem mJ(l:List Nat):(QS l).flatten=l:=by
 induction l with
 |nil=>rfl
 |cons a r ih=>unfold QS at*;rw[List.map_cons,List.flatten_cons,ih];rfl
theorem oZ(l:List Nat)(a b:Option Int):cut (QS l) a b=QS (cut l a b):=ua _ l a b
theorem Zi:((List.range 26).all fun b=>(List.range 8).all fun e=>!Oi.contains (cut (wB b) none (some (1+(e:Int)))))=true:=by kernel_rfl
theorem Zh:((List.range 26).all fun b=>(List.range 8).all fun a=>(List.range 9).all fun z=>Oi.all fun w=>!decide ((cut (wB b) none (some (z:Int))).set a 0=w.set a 0))=true:=by kernel_rfl
theorem Zg:((List.range 26).all fun b=>(List.range 12).all fun j=>!Oi.contains (cut (cut (wB b) (some ((j:Int) % 8)) none++cut (wB b) none (some ((j:Int) % 8))) none (some (8 - (j:Int) / 8))))=true:=by kernel_rfl
def QZ(l:List Nat):Prop:=l∉Oi
theorem Bo{l:List Nat}(h:(!Oi.contains l)=true):QZ l:=fun z=>by rw[← List.contains_iff_mem]at z;rw[z]at h;cases h
theorem EF(l:List Nat)(a:Nat)(s:Nat)(z:Option Int):(cut (l.set a s) none z).set a 0=(cut l none z).set a 0:=by unfold cut;rw[List.length_set,HT.Pj,List.drop_zero,List.drop_zero,List.take_set,List.set_set]
theorem jJ{n:Nat}{f:Nat→Bool}(h:(List.range n).all f=true){i:Nat}(hi:i<n):f i=true:=List.all_eq_true.mp h i (List.mem_range.mpr hi)
noncomputable def bB(n j:Int):Nat:=((n / 192+3 * (j / 8) * (if decide (n % 3=0)=true then 1 else 0)) % 26).toNat
theorem Kk(n j:Int):bB n j<26:=by unfold bB;omega
theorem Ir(b:Nat):w8 (QS (wB b)):=by
 refine⟨by simp[QS,wB],List.all_eq_true.mpr fun x hx=>?_,fun x hx=>?_⟩
 ·obtain⟨c,hc,rfl⟩:=List.mem_map.mp hx;obtain⟨i,_,rfl⟩:=List.mem_map.mp hc;exact wl (l:=bN) (by decide) fun c hc=>by rw[List.mem_singleton.mp hc];exact iP (by rw[xp];omega)
 ·obtain⟨c,hc,rfl⟩:=List.mem_map.mp hx;exact Nat.le_refl _
theorem zI(k:Nat)(n:Int)(ρ:Ev)(j:Int)(hc:dg [1,0,5] ρ=[some (.str bN),some (.int n),some (.int j)])(h:List PO):cT dD (lc (F k)) (dg [1,0,5] ρ) ((List.range (Int.toNat 8)).map fun i=>PV.int (0+(i:Nat))) h=.ok ((QS (wB (bB n j))).map PV.str) h:=by
 unfold QS wB;rw[hc,List.map_map,List.map_map];refine tx (fun i=>PV.int (0+(i:Nat))) _ (List.range 8) fun i _=>?_;have mi:∀x:Int,gV x (if decide (n % 3=0)=true then 1 else 0)=true:=fun x=>tq (by split<;>decide);have az:=CE (n / 192+5 * (0+(i:Int))+3 * (j / 8) * (if decide (n % 3=0)=true then 1 else 0))
 have ee:Us (n / 192+5 * (0+(i:Int))+3 * (j / 8) * (if decide (n % 3=0)=true then 1 else 0))=bN.getD ((bB n j+5 * i) % 26) 0:=by
  unfold Us bB;generalize 3 * (j / 8) * (if decide (n % 3=0)=true then 1 else 0)=z
  congr 1
  omega
 rw[ee]at az;have zl:bN.length≤16777216:=by decide
 simp only[EX,lc,mi,az,zl];rfl
theorem zJ(k:Nat)(n sz ax:Int)(hs:0≤sz∧sz≤8)(ha:0≤ax∧ax<8)(j:Nat)(hj:j<12)(x6 x7:Option PV)(acc:List (List Nat))(la:acc.length<16777216)(rest:List PO):∃l QV y6,(sg l=true∧QZ l)∧
  eR (F k) [some (.int n),some (.str bN),some (.int sz),some (.int ax),some (.ref 0),some (.int (0+(j:Nat))),x6,x7] (.lst (acc.map PV.str)::rest)=.nx [some (.int n),some (.str bN),some (.int sz),some (.int ax),some (.ref 0),some (.int (0+(j:Nat))),y6,x7] (.lst ((acc++ [l]).map PV.str)::QV):=by
 have cm:=zI k n [some (.int n),some (.str bN),some (.int sz),some (.int ax),some (.ref 0),some (.int (0+(j:Nat))),x6,x7] (0+(j:Nat)) rfl;have hb:=Kk n (0+(j:Nat));generalize bB n (0+(j:Nat))=b at cm hb;have hW:=Ir b;obtain⟨W,eW⟩:∃W,QS (wB b)=W:=⟨_,rfl⟩
 rw[eW]at cm hW;have b8:Oh 4611686018427387904 8=true:=rfl;have ln:((List.range (Int.toNat 8)).map fun i=>PV.int (0+(i:Nat))).length<16777216:=by decide
 have nl:∀(xs:List PV)(o:PO),qX xs (o::rest)=.ok (.ref (rest.length+1)) (o::(rest++ [.lst xs])):=fun _ _=>rfl;have d0:∀(xs:List PV) r,am (.lst xs::r) (.ref 0)=.ref 0:=fun xs r=>rfl;have dW:∀(xs ys:List PV),am (.lst xs::(rest++ [.lst ys])) (.ref (rest.length+1))=.ref (rest.length+1):=fun xs ys=>HI (acc:=ys) (by simp)
 have sW:∀(xs:List PV)(V:List (List Nat)) lo hi,lR (.ref (rest.length+1)) lo hi (.lst xs::(rest++ [.lst (V.map PV.str)]))=.ok (.lst ((cut V lo hi).map PV.str)) (.lst xs::(rest++ [.lst (V.map PV.str)])):=fun xs V lo hi=>by
  show(match Ra (.lst xs::(rest++ [.lst (V.map PV.str)])) (.ref (rest.length+1))with|some ys=>Res.ok (PV.lst (cut ys lo hi)) _|none=>.bad)=_;have:Ra (.lst xs::(rest++ [.lst (V.map PV.str)])) (.ref (rest.length+1))=some (V.map PV.str):=by simp[Ra]
  rw[this,← ua]
 have ap:∀(l:List Nat) r,bU (.ref 0) [.str l] (.lst (acc.map PV.str)::r)=.ok .non (.lst (acc.map PV.str++ [.str l])::r):=fun l r=>by rw[Ia,if_pos (by rw[List.length_map];exact Nat.lt_of_lt_of_le la (by decide))]
 have cl:∀(V:List (List Nat)) lo hi,V.length=8→(cut V lo hi).length≤100:=fun V lo hi h=>by have:=kd V lo hi;omega
 have ic:=Ho
 by_cases q0:n % 3=0
 ·have e0:decide (n % 3=0)=true:=decide_eq_true q0;obtain⟨j1,_,j3⟩:=sy (V:=cut W none (some (1+(0+(j:Nat)) % 8))) hW (fun x hx=>nA hx) (cl _ _ _ hW.1) (.lst (acc.map PV.str)::(rest++ [.lst (W.map PV.str)]))
  have nw:QZ (cut W none (some (1+(0+(j:Nat)) % 8))).flatten:=by rw[← eW,oZ,mJ];have:=Bo (jJ (jJ Zi hb) (show j % 8<8 by omega));rw[show(1+(0+((j:Nat):Int)) % 8)=1+((j % 8:Nat):Int) by omega];exact this
  refine⟨_,rest++ [.lst (W.map PV.str)],some (.ref (rest.length+1)),⟨j1,nw⟩,?_⟩;simp only[EX,eR,b8,ln,cm,nl,e0,d0,dW,sW,ic,j3,ap,List.map_append]
 ·have e0:decide (n % 3=0)=false:=decide_eq_false q0
  by_cases q1:n % 3=1
  ·have e1:decide (n % 3=1)=true:=decide_eq_true q1;have az:=CE (n / 192+7 * (0+(j:Nat))+1);have ao:=HZ (n / 192+7 * (0+(j:Nat))+1);have zl:bN.length≤16777216:=by decide
   generalize Us (n / 192+7 * (0+(j:Nat))+1)=s at az ao
   have hV:w8 (W.set ax.toNat [s]):=by
    refine⟨by rw[List.length_set];exact hW.1,List.all_eq_true.mpr fun x hx=>?_,fun x hx=>?_⟩
    ·rcases List.mem_or_eq_of_mem_set hx with h|h
     ·exact List.all_eq_true.mp hW.2.1 x h
     ·subst h;exact ao
    ·rcases List.mem_or_eq_of_mem_set hx with h|h
     ·exact hW.2.2 x h
     ·subst h;exact Nat.le_refl _
   have si:∀ ρ,jg (.str [s]) (.ref (rest.length+1)) (.int ax) ρ (.lst (acc.map PV.str)::(rest++ [.lst (W.map PV.str)]))=.nx ρ (.lst (acc.map PV.str)::(rest++ [.lst ((W.set ax.toNat [s]).map PV.str)])):=fun ρ=>by
    unfold jg;have e2:lX (.lst (acc.map PV.str)::(rest++ [.lst (W.map PV.str)])) (.ref (rest.length+1))=some (rest.length+1,W.map PV.str):=by unfold lX;simp
    have e3:Qe (W.map PV.str).length ax=some ax.toNat:=by unfold Qe;rw[List.length_map,hW.1,if_pos ha.1,if_pos (by omega)]
    rw[e2];dsimp only;rw[e3];dsimp only;rw[List.set_cons_succ,List.set_append_right _ _ (Nat.le_refl _),Nat.sub_self,List.set_cons_zero,List.map_set]
   obtain⟨j1,_,j3⟩:=sy (V:=cut (W.set ax.toNat [s]) none (some sz)) hV (fun x hx=>nA hx) (cl _ _ _ hV.1) (.lst (acc.map PV.str)::(rest++ [.lst ((W.set ax.toNat [s]).map PV.str)]))
   have nw:QZ (cut (W.set ax.toNat [s]) none (some sz)).flatten:=by
    have es:W.set ax.toNat [s]=QS ((wB b).set ax.toNat s):=by rw[← eW];unfold QS;rw[List.map_set]
    rw[es,oZ,mJ];intro z;have h1:=jJ (jJ (jJ Zh hb) (show ax.toNat<8 by omega)) (show sz.toNat<9 by omega);have h2:=List.all_eq_true.mp h1 _ z;rw[EF,show((sz.toNat:Nat):Int)=sz by omega]at h2;simp at h2
   refine⟨_,rest++ [.lst ((W.set ax.toNat [s]).map PV.str)],some (.ref (rest.length+1)),⟨j1,nw⟩,?_⟩;simp only[EX,eR,b8,ln,cm,nl,e0,e1,d0,dW,sW,ic,az,zl,si,j3,ap,List.map_append]
  ·have e1:decide (n % 3=1)=false:=decide_eq_false q1;have l1:=cl W (some ((0+(j:Nat)) % 8)) none hW.1;have l2:=cl W none (some ((0+(j:Nat)) % 8)) hW.1;have l1':=kd W (some ((0+(j:Nat)) % 8)) none;have l2':=kd W none (some ((0+(j:Nat)) % 8));have w8l:=hW.1;have aa:=EO ((cut W (some ((0+(j:Nat)) % 8)) none).map PV.str) ((cut W none (some ((0+(j:Nat)) % 8))).map PV.str) (.lst (acc.map PV.str)::(rest++ [.lst (W.map PV.str)])) (by rw[List.length_map,List.length_map];omega);rw[← List.map_append]at aa
   obtain⟨j1,j2,j3⟩:=sy (V:=cut W (some ((0+(j:Nat)) % 8)) none++cut W none (some ((0+(j:Nat)) % 8))) hW (fun x hx=>by rcases List.mem_append.mp hx with h|h<;>exact nA h) (by rw[List.length_append];omega) (.lst (acc.map PV.str)::(rest++ [.lst (W.map PV.str)]))
   have jl:(cut W (some ((0+(j:Nat)) % 8)) none++cut W none (some ((0+(j:Nat)) % 8))).flatten.length≤16777216:=by omega
   have nw:QZ (cut (cut W (some ((0+(j:Nat)) % 8)) none++cut W none (some ((0+(j:Nat)) % 8))).flatten none (some (8 - (0+(j:Nat)) / 8))):=by rw[← eW,oZ,oZ,List.flatten_append,mJ,mJ];have:=Bo (jJ (jJ Zg hb) hj);rw[Int.zero_add];exact this
   refine⟨_,rest++ [.lst (W.map PV.str)],some (.ref (rest.length+1)),⟨FV j1 none (some (8 - (0+(j:Nat)) / 8)),nw⟩,?_⟩;have ma:∀l,(acc++ [l]).map PV.str=acc.map PV.str++ [.str l]:=fun l=>by rw[List.map_append];rfl
   simp only[EX,eR,b8,ln,cm,nl,e0,e1,d0,dW,sW,ic,aa,j3,jl,ap,ma]
theorem rF(k:Nat)(n sz ax:Int)(hs:0≤sz∧sz≤8)(ha:0≤ax∧ax<8)(x7:Option PV):∀(js:List Nat)(x5 x6:Option PV)(acc:List (List Nat))(rest:List PO),(∀j∈js,j<12)→acc.length+js.length<16777216→H_ acc=true→(∀x∈acc,QZ x)→∃(ls:List (List Nat))(y5 y6:Option PV)(QV:List PO),ls.length=acc.length+js.length∧(H_ ls=true∧∀x∈ls,QZ x)∧
  aR (D_ 5) (eR (F k)) (js.map fun j=>PV.int (0+(j:Nat))) [some (.int n),some (.str bN),some (.int sz),some (.int ax),some (.ref 0),x5,x6,x7] (.lst (acc.map PV.str)::rest)=.nx [some (.int n),some (.str bN),some (.int sz),some (.int ax),some (.ref 0),y5,y6,x7] (.lst (ls.map PV.str)::QV)
 |[],x5,x6,acc,rest,_,_,ho,hn=>⟨acc,x5,x6,rest,rfl,⟨ho,hn⟩,by rw[List.map_nil,aR]⟩
 |j::r,x5,x6,acc,rest,hj,hl,ho,hn=>by
  rw[List.length_cons]at hl;obtain⟨l,TQ,YK,⟨ol,nl⟩,e⟩:=zJ k n sz ax hs ha j (hj j List.mem_cons_self) x6 x7 acc (by omega) rest
  obtain⟨ls,y5,y6,TP,e1,e2,e3⟩:=rF k n sz ax hs ha x7 r (some (.int (0+(j:Nat)))) YK (acc++ [l]) TQ (fun z hz=>hj z (List.mem_cons_of_mem _ hz)) (by rw[List.length_append,List.length_singleton];omega) (oT ho (by simp[H_,ol])) (fun z hz=>by
   rcases List.mem_append.mp hz with q|q
   ·exact hn z q
   ·cases List.mem_singleton.mp q;exact nl)
  refine⟨ls,y5,y6,TP,by rw[e1,List.length_append];simp only[List.length_cons,List.length_nil];omega,e2,?_⟩;rw[List.map_cons];exact Eq.trans (cI rfl e) e3
noncomputable def KZ(ms:List (List Nat)):PV:=.lst (ms.map PV.str)
theorem wV(h:List PO)(ms:List (List Nat)):am h (KZ ms)=KZ ms:=rfl
noncomputable def HO:List (List Nat):=[[97],[98],[97,98],[98,97],[105,116,101,109],[105,116,101,109,115],[99],[120],[120,121],[121],[114,111,119],[114,111,119,115]]
noncomputable def jF:List (List Nat):=[[97,115],[98,101,116,119,101,101,110],[98,111,100,121],[101,108,115,101],[101,110,100],[102,111,114],[105,102],[105,110],[112,105,101,99,101],[117,115,101],[119,105,116,104]]
theorem zM(k:Nat)(n:Int):∃ls:List (List Nat),ls.length=12∧H_ ls=true∧(ls.Nodup∧∀x∈ls,QZ x)∧F (k+1) .I9 [.int n]=.ok (KZ ls):=by
 have s0:=Int.emod_nonneg (n / 3) (by decide:(8:Int)≠0);have s1:=Int.emod_lt_of_pos (n / 3) (by decide:(0:Int)<8);have t0:=Int.emod_nonneg (n / 24) (by omega:1+n / 3 % 8≠0);have t1:=Int.emod_lt_of_pos (n / 24) (by omega:0<1+n / 3 % 8);obtain⟨ls,y5,y6,rest,e1,⟨e2,Zf⟩,e3⟩:=rF k n (1+n / 3 % 8) (n / 24 % (1+n / 3 % 8)) (by omega) (by omega) none (List.range 12) none none [] [] (fun j hj=>List.mem_range.mp hj) (by simp) rfl (fun x hx=>by cases hx);have Vb:ls.length=12:=by rw[e1];simp
 have p4:decide (0<1+n / 3 % 8)=true:=decide_eq_true (by omega);have W4:Oh 4611686018427387904 12=true:=rfl;have r12:(List.range (Int.toNat 12))=List.range 12:=rfl;have WK:aR (D_ 5) (eR (F k)) ((List.range 12).map fun j=>PV.int (0+(j:Nat))) [some (.int n),some (.str bN),some (.int (1+n / 3 % 8)),some (.int (n / 24 % (1+n / 3 % 8))),some (.ref 0),none,none,none] [.lst []]=.nx [some (.int n),some (.str bN),some (.int (1+n / 3 % 8)),some (.int (n / 24 % (1+n / 3 % 8))),some (.ref 0),y5,y6,none] (.lst (ls.map PV.str)::rest):=e3;have d0:∀(xs:List PV) r,am (.lst xs::r) (.ref 0)=.ref 0:=fun xs r=>rfl;have dz:∀(q:PV) r,am (.G6 q::r) (.ref 0)=q:=fun xs r=>rfl;have sc:ls.length+1<scanBound:=by rw[Vb];decide
 have lz:jv (.ref 0) (.lst (ls.map PV.str)::rest)=.ok (.int (nK ls:Nat)) (.lst (ls.map PV.str)::rest):=by show(match fC (ls.map PV.str)with|some ls=>if ls.length+1<scanBound then Res.ok (PV.int (nK ls:Nat)) _ else .bad|none=>.bad)=_;rw[iY];dsimp only;rw[if_pos sc]
 have fd:∃b:Bool,(b=true→F (k+1) .I9 [.int n]=.ok (KZ HO))∧(b=false→dup ls=false∧F (k+1) .I9 [.int n]=.ok (KZ ls)):=by
  have r2:F (k+1) .I9 [.int n]=match iJ (F k) [some (.int n),none,none,none,none,none,none,none] []with
   |.nx _ _=>.ok .non
   |.rt v h=>ii v h
   |_=>.bad:=rfl
  by_cases c1:((nK ls:Nat):Int)<12
  ·have z1:decide (((nK ls:Nat):Int)<12)=true:=decide_eq_true c1;refine⟨true,fun _=>?_,fun h=>by cases h⟩;rw[r2];simp only[EX,iJ,p4,W4,r12,WK,d0,lz,z1];rfl
  ·have z1:decide (((nK ls:Nat):Int)<12)=false:=decide_eq_false c1
   have sq:kI (.ref 0) (.lst (ls.map PV.str)::rest)=.ok (ls.map PV.str) (.G6 (.lst (ls.map PV.str))::rest):=by
    show(match gx (.lst (ls.map PV.str)::rest) (.ref 0)with|some (.lst xs,h2)=>Res.ok xs h2|_=>.bad)=_
    have:gx (.lst (ls.map PV.str)::rest) (.ref 0)=some (.lst (ls.map PV.str),.G6 (.lst (ls.map PV.str))::rest):=by unfold gx;simp only[List.getElem?_cons_zero,aW,if_true,List.set_cons_zero]
    rw[this]
   have ln:(ls.map PV.str).length<16777216:=by rw[List.length_map,Vb];decide
   have cm:∀ ρ h,dg [7] ρ=[some (.lst (jF.map PV.str))]→cT (kE (F k)) (kZ (F k)) (dg [7] ρ) (ls.map PV.str) h=.ok ((ls.filter fun x=>decide (x∈jF)).map PV.str) h:=fun ρ h hc=>by
    rw[hc];refine qA PV.str (fun x=>decide (x∈jF)) PV.str ls (fun x hx=>?_) fun x hx=>?_
    ·have i1:=JN (x:=x) (ls:=jF) (kF (List.all_eq_true.mp e2 x hx)) (by decide) h;simp only[EX,kE,i1]
    ·simp only[EX,kZ]
   have nn:∀h,NZ (.lst ((ls.filter fun x=>decide (x∈jF)).map PV.str)) (.lst []) h=.ok (.bl (!((ls.filter fun x=>decide (x∈jF)).map PV.str).isEmpty)) h:=fun h=>DJ (iR (sI e2 fun x hx=>(List.mem_filter.mp hx).1)) h;generalize(ls.filter fun x=>decide (x∈jF)).map PV.str=fl at cm nn;have Rv:=cm [some (.int n),some (.str bN),some (.int (1+n / 3 % 8)),some (.int (n / 24 % (1+n / 3 % 8))),some (.ref 0),y5,y6,some (.lst (jF.map PV.str))] (.G6 (.lst (ls.map PV.str))::rest) rfl;simp only[jF,List.map_cons,List.map_nil]at Rv;refine⟨!fl.isEmpty,fun h=>?_,fun h=>?_⟩
   ·rw[r2];simp only[EX,iJ,p4,W4,r12,WK,d0,lz,z1,sq,ln,Rv,nn,h];rfl
   ·refine⟨by unfold dup;rw[Vb];exact decide_eq_false (by omega),?_⟩;rw[r2];have fi:ii (.lst (ls.map PV.str)) (.G6 (.lst (ls.map PV.str))::rest)=.ok (KZ ls):=ew (by rw[PV.pure];exact aW ls);simp only[EX,iJ,p4,W4,r12,WK,d0,lz,z1,sq,ln,Rv,nn,h,dz,fi]
 obtain⟨b,h1,h2⟩:=fd
 cases b with
 |true=>exact⟨HO,rfl,by decide,⟨by decide,fun x hx=>Bo (List.all_eq_true.mp (by decide:(HO.all fun x=>!Oi.contains x)=true) x hx)⟩,h1 rfl⟩
 |false=>exact⟨ls,Vb,e2,⟨(jZ ls).mp (h2 rfl).1,Zf⟩,(h2 rfl).2⟩
theorem Ff(n:Nd):sg (kT n)=true:=by cases n<;>rfl
noncomputable def Qf:Nd→Bool
 |.text _=>true
 |_=>false
theorem vw(n:Nd)(h:List PO):J3 (.str (kT n)) (.str tT) h=.ok (.bl (Qf n)) h:=by
 rw[Kb (Ff n) ko.1]
 cases n<;>rfl
noncomputable def O4:Nd→Nat
 |.text s=>s.length
 |_=>0
def Lw(l:List Nd):Nat:=(l.map O4).sum
noncomputable def O6(l:List Nd):Nat:=(l.map fun n=>Ls n+1).sum
structure Rw(kn:Cx)(d c t:Nat)(l:List Nd):Prop where
 w:∀n∈l,wN n=true∧okN kn n=true∧dN n≤d
 c:O6 l≤c
 t:Lw l≤t
theorem ud(l:List Nd):l.length≤O6 l:=by
 induction l with
 |nil=>exact Nat.le_refl _
 |cons a r ih=>unfold O6 at*;rw[List.map_cons,List.sum_cons,List.length_cons];omega
theorem yD(a b:List Nd):O6 (a++b)=O6 a+O6 b:=by unfold O6;rw[List.map_append,List.sum_append]
theorem iq(a b:List Nd):Lw (a++b)=Lw a+Lw b:=by unfold Lw;rw[List.map_append,List.sum_append]
theorem Rw.mono{kn:Cx}{d c t d' c' t':Nat}{l:List Nd}(h:Rw kn d c t l)(hd:d≤d')(hc:c≤c')(ht:t≤t'):Rw kn d' c' t' l:=
 ⟨fun n hn=>⟨(h.w n hn).1,(h.w n hn).2.1,Nat.le_trans (h.w n hn).2.2 hd⟩,Nat.le_trans h.c hc,Nat.le_trans h.t ht⟩
theorem Rw.app{kn:Cx}{d c t c' t':Nat}{l m:List Nd}(h:Rw kn d c t l)(g:Rw kn d c' t' m):Rw kn d (c+c') (t+t') (l++m):=
 ⟨fun n hn=>by rcases List.mem_append.mp hn with z|z<;>first|exact h.w n z|exact g.w n z,by rw[yD];exact Nat.add_le_add h.c g.c,by rw[iq];exact Nat.add_le_add h.t g.t⟩
theorem yu{l:List Nd}(h:∀n∈l,wN n=true∧dN n≤20):fds 59 (l.map nd):=by
 induction l with
 |nil=>exact cY _
 |cons a r ih=>have:=h a List.mem_cons_self;exact aH (bE (Fo this.1) (by omega)) (ih fun n hn=>h n (List.mem_cons_of_mem _ hn))
theorem Gz{l:List PV}(hl:fds 59 l):NZ (.ref 0) (.lst []) [.lst l]=.ok (.bl (!l.isEmpty)) [.lst l]:=by
 have ok:LC [.lst l] (.ref 0)=true:=by unfold LC Lz;have:=hl.2.1;simp only[List.getElem?_cons_zero,PyData.canLay0,PyData.depth,hl.1,Bool.true_and,decide_eq_true_eq];omega
 unfold NZ;rw[if_pos ⟨ok,rfl⟩]
 cases l<;>rfl
theorem bQ:∀l:List Nd,aq (l.map nd)=true
 |[]=>rfl
 |a::r=>by rw[List.map_cons,aq,bz,bQ r];rfl
theorem Bj(k:Nat)(v:PV)(acc:List Nd)(n:Nd)(hf:∀n∈acc,wN n=true∧dN n≤20)(hl:acc.length<16777216)(ht:Lw acc+O4 n≤1000)(x2:Option PV):∃Ob,fR (F k) [some v,some (.ref 0),some (nd n)] [.lst (acc.map nd)]=.nx [some v,some (.ref 0),some (nd n)] [.lst (Ob.map nd)]∧
  (Ob=acc++ [n]∨∃B u s,acc=B++ [.text u]∧n=.text s∧Ob=B++ [.text (u++s)]):=by
 have d0:∀xs:List PV,am [.lst xs] (.ref 0)=.ref 0:=fun xs=>rfl;have li:∀xs,fB [.lst xs] (.ref 0)=true:=fun _=>rfl;have ne:=Gz (yu hf)
 have ap:bU (.ref 0) [nd n] [.lst (acc.map nd)]=.ok .non [.lst ((acc++ [n]).map nd)]:=by rw[Ia,if_pos (by rw[List.length_map];exact Nat.lt_of_lt_of_le hl (by decide)),List.map_append];rfl
 cases t:Qf n with
 |false=>refine⟨acc++ [n],?_,.inl rfl⟩;simp only[EX,fR,vw,t,d0,li,ap]
 |true=>
  obtain⟨s,rfl⟩:∃s,n=.text s:=by cases n<;>first|exact⟨_,rfl⟩|cases t
  rcases List.eq_nil_or_concat acc with rfl|⟨B,m,rfl⟩
  ·refine⟨[.text s],?_,.inl rfl⟩;have e0:(!(([]:List Nd).map nd).isEmpty)=false:=rfl;rw[e0]at ne;simp only[List.map_nil]at ne ap ⊢;simp only[EX,fR,vw,t,d0,li,ne,ap]
  ·rw[List.concat_eq_append]at ne ap hl ht ⊢;have e0:(!((B++ [m]).map nd).isEmpty)=true:=by simp
   rw[e0]at ne
   have T9:d7 (.ref 0) (.int (-1)) [.lst ((B++ [m]).map nd)]=.ok (nd m) [.lst ((B++ [m]).map nd)]:=by
    show(match LQ ((B++ [m]).map nd) (-1)with|some v=>Res.ok (am [.lst ((B++ [m]).map nd)] v) [.lst ((B++ [m]).map nd)]|none=>.bad)=_;have q:LQ ((B++ [m]).map nd) (-1)=some (nd m):=by rw[List.map_append];exact uh _ _
    rw[q];show Res.ok (am _ (nd m)) _=_;rw[jz]
   cases tm:Qf m with
   |false=>refine⟨B++ [m]++[.text s],?_,.inl rfl⟩;simp only[EX,fR,vw,t,tm,d0,li,ne,T9,ap]
   |true=>
    obtain⟨u,rfl⟩:∃u,m=.text u:=by cases m<;>first|exact⟨_,rfl⟩|cases tm
    refine⟨B++ [.text (u++s)],?_,.inr ⟨B,u,s,rfl,rfl,rfl⟩⟩;have al:u.length+s.length≤16777216:=by rw[iq]at ht;simp only[Lw,List.map_cons,List.map_nil,List.sum_cons,List.sum_nil,O4]at ht;omega
    have st:∀ ρ v,jg v (.ref 0) (.int (-1)) ρ [.lst ((B++ [Nd.text u]).map nd)]=.nx ρ [.lst (B.map nd++ [v])]:=fun ρ v=>by
     show(match Qe ((B++ [Nd.text u]).map nd).length (-1)with|some j=>SR.nx ρ [.lst (((B++ [Nd.text u]).map nd).set j v)]|none=>.bad)=_;have:Qe ((B++ [Nd.text u]).map nd).length (-1)=some B.length:=by unfold Qe;simp;omega
     rw[this];dsimp only;rw[List.map_append]
     congr 3
     rw[List.set_append_right _ _ (by simp)];simp
    have i1:∀z h,d7 (nd (.text z)) (.int 1) h=.ok (.str z) h:=fun z h=>by rw[nd];rfl
    have ma:(B++ [Nd.text (u++s)]).map nd=B.map nd++ [.tup [.str tT,.str (u++s)]]:=by simp[nd]
    simp only[EX,fR,vw,t,tm,d0,li,ne,T9,st,i1,al,ma]
theorem uZ(kn:Cx)(d c t k:Nat)(hd:d≤20)(hc:c≤1000000)(ht:t≤1000)(v:PV):∀(r acc:List Nd)(x2:Option PV),Rw kn d c t (acc++r)→∃Ob y2,Rw kn d c t Ob∧
  aR (D_ 2) (fR (F k)) (r.map nd) [some v,some (.ref 0),x2] [.lst (acc.map nd)]=.nx [some v,some (.ref 0),y2] [.lst (Ob.map nd)]
 |[],acc,x2,h=>⟨acc,x2,by rw[List.append_nil]at h;exact h,by rw[List.map_nil,aR]⟩
 |n::r,acc,x2,h=>by
  have hl:=ud (acc++n::r);have Yk:=h.c;have htt:=h.t;rw[List.length_append,List.length_cons]at hl;have e1:Lw (acc++n::r)=Lw acc+(O4 n+Lw r):=by rw[iq];rfl
  obtain⟨Uu,s1,s2⟩:=Bj k v acc n (fun z hz=>⟨(h.w z (List.mem_append_left _ hz)).1,Nat.le_trans (h.w z (List.mem_append_left _ hz)).2.2 hd⟩) (by omega) (by omega) x2
  have h1:Rw kn d c t (Uu++r):=by
   rcases s2 with rfl|⟨B,u,s,rfl,rfl,rfl⟩
   ·rw[List.append_assoc];exact h
   ·have wu:=h.w (.text u) (by simp);have ws:=h.w (.text s) (by simp);refine⟨fun z hz=>?_,?_,?_⟩
    ·rw[List.append_assoc]at hz;rcases List.mem_append.mp hz with z1|z1
     ·exact h.w z (by simp[z1])
     ·rcases List.mem_cons.mp z1 with z2|z2
      ·subst z2;refine⟨?_,rfl,Nat.zero_le _⟩;have a1:=wu.1;have a2:=ws.1;rw[wN,Bool.and_eq_true]at a1 a2 ⊢;have:=h.t;simp only[iq]at this;simp only[Lw,List.map_cons,List.map_nil,List.sum_cons,List.sum_nil,O4]at this;exact⟨AB a1.1 a2.1,decide_eq_true (by rw[List.length_append];omega)⟩
      ·exact h.w z (by simp[show z∈r from z2])
    ·have:=h.c;simp only[yD]at this ⊢;simp only[O6,List.map_cons,List.map_nil,List.sum_cons,List.sum_nil,Ls]at this ⊢;omega
    ·have:=h.t;simp only[iq]at this ⊢;simp only[Lw,List.map_cons,List.map_nil,List.sum_cons,List.sum_nil,O4,List.length_append]at this ⊢;omega
  obtain⟨W8,y2,r1,r2⟩:=uZ kn d c t k hd hc ht v r Uu (some (nd n)) h1;refine⟨W8,y2,r1,?_⟩;rw[List.map_cons];exact Eq.trans (cI rfl s1) r2
noncomputable def tv(b:Bool)(xs:List PV):PV:=if b then .tup xs else .lst xs
theorem Iu(b:Bool)(xs:List PV)(h:List PO):am h (tv b xs)=tv b xs:=by cases b<;>rfl
theorem It(b:Bool)(xs:List PV)(h:List PO):kI (tv b xs) h=.ok xs h:=by cases b<;>rfl
theorem wM(kn:Cx)(d c t k:Nat)(hd:d≤20)(hc:c≤1000000)(ht:t≤1000)(b:Bool)(l:List Nd)(h:Rw kn d c t l):∃l',Rw kn d c t l'∧F (k+1) .K4 [tv b (l.map nd)]=.ok (.tup (l'.map nd)):=by
 obtain⟨l',y2,r1,r2⟩:=uZ kn d c t k hd hc ht (tv b (l.map nd)) l [] none h;refine⟨l',r1,?_⟩
 have e2:F (k+1) .K4 [tv b (l.map nd)]=match pj (F k) [some (tv b (l.map nd)),none,none] []with
   |.nx _ _=>.ok .non
   |.rt v h=>ii v h
   |_=>.bad:=rfl
 have VD:aR (D_ 2) (fR (F k)) (l.map nd) [some (tv b (l.map nd)),some (.ref 0),none] [.lst []]=.nx [some (tv b (l.map nd)),some (.ref 0),y2] [.lst (l'.map nd)]:=r2;have d0:∀xs:List PV,am [.lst xs] (.ref 0)=.ref 0:=fun xs=>rfl;have tp:dG [.ref 0] [.lst (l'.map nd)]=.ok (.tup (l'.map nd)) [.lst (l'.map nd)]:=rfl;rw[e2];simp only[EX,pj,Iu,It,VD,d0,tp];exact ew (by rw[PV.pure];exact bQ l')
noncomputable def cv(cs:List Int):PV:=.Nz (cs.map PV.int)
theorem kc(cs:List Int):(cv cs).pure=true:=by
 unfold cv;rw[PV.pure]
 induction cs with
 |nil=>rfl
 |cons a r ih=>rw[List.map_cons,aq,ih];rfl
theorem Cr(cs:List Int)(h:List PO):am h (cv cs)=cv cs:=rfl
abbrev I6(n m:Int):PO:=.lst [.int n,.int m]
theorem cA(n m:Int):(I6 n m).pure=true:=rfl
theorem EI(k:Nat)(cs:List Int)(hc:cs.length≤63)(n m:Int)(h0:0≤n)(h1:n≤2000000):∃v,0≤v∧v<400000000∧L (k+1) .G3 [cv cs,.ref 0] [I6 n m]=.ok (.int v) [I6 (n+1) m]:=by
 have Qx:∀i:Int,d7 (.ref 0) (.int 0) [I6 i m]=.ok (.int i) [I6 i m]:=fun m=>rfl;have d0:∀i:Int,am [I6 i m] (.ref 0)=.ref 0:=fun m=>rfl;have st:∀ ρ,jg (.int (n+1)) (.ref 0) (.int 0) ρ [I6 n m]=.nx ρ [I6 (n+1) m]:=fun ρ=>rfl;have ln:∀h,dZ [.Nz (cs.map PV.int)] h=.ok (.int cs.length) h:=fun h=>by rw[Fe,List.length_map]
 have m3:∀x:Int,gV x (n+1)=true:=fun x=>tq (eN.mpr ⟨by omega,by omega⟩);have fin:∀b:Int,0≤b * 48271 % 2147483647 / 7∧b * 48271 % 2147483647 / 7<400000000:=fun b=>by omega
 have ct:∀v:Int,eU 1 (.int v) [I6 (n+1) m]=.ok (.int v) [I6 (n+1) m]:=fun v=>rfl
 cases cs with
 |nil=>
  refine⟨_,(fin (31 * (n+1) * (n+1)+7919 * (n+1))).1,(fin _).2,?_⟩;show ei (jB (F k)) 2 4 [.Nz [],.ref 0] [I6 n m]=_;have Zv:∀h,dZ [.Nz []] h=.ok (.int 0) h:=fun h=>rfl;have g0:decide ((0:Int)<0)=false:=by decide
  simp -implicitDefEqProofs only [EX,Cr,ei,jB,Qx,d0,st,Zv,m3,ct,Int.reduceLT]
 |cons a r=>
  have Rt:(0:Int)<(((a::r).length:Nat):Int):=by rw[List.length_cons];omega
  have hl1:(((a::r).length:Nat):Int)<1073741824:=by omega
  have q0:0≤(n+1) % (((a::r).length:Nat):Int):=Int.emod_nonneg _ (by omega);have q1:(n+1) % (((a::r).length:Nat):Int)<(((a::r).length:Nat):Int):=Int.emod_lt_of_pos _ Rt
  have ax:LQ ((a::r).map PV.int) ((n+1) % (((a::r).length:Nat):Int))=some (.int ((a::r).getD ((n+1) % (((a::r).length:Nat):Int)).toNat 0)):=by refine fF q0 ?_;rw[List.getElem?_map,List.getD_eq_getElem?_getD,List.getElem?_eq_getElem (by omega)];rfl
  have dv0:0≤(n+1) / (((a::r).length:Nat):Int):=Int.ediv_nonneg (by omega) (by omega);have dv1:(n+1) / (((a::r).length:Nat):Int)≤n+1:=Int.ediv_le_self _ (by omega);have m5:∀x:Int,gV x (1+(n+1) / (((a::r).length:Nat):Int))=true:=fun x=>tq (eN.mpr ⟨by omega,by omega⟩);have p3:decide ((0:Int)<(((a::r).length:Nat):Int))=true:=decide_eq_true Rt;have p4:decide ((0:Int)<(((a::r).length:Nat):Int)∧(((a::r).length:Nat):Int)<1073741824)=true:=decide_eq_true ⟨Rt,hl1⟩;unfold cv;generalize hL:(((a::r).length:Nat):Int)=Ln at*;generalize hC:(a::r).map PV.int=cl at*;refine⟨_,(fin (31 * (n+1) * (n+1)+7919 * (n+1)+(a::r).getD ((n+1) % Ln).toNat 0 * (1+(n+1) / Ln))).1,(fin _).2,?_⟩;show ei (jB (F k)) 2 4 [.Nz cl,.ref 0] [I6 n m]=_;simp -implicitDefEqProofs only [EX,Cr,ei,jB,Qx,d0,st,ln,p3,ax,m3,m5,p4,ct]
def J9(p:Pe):PV:=.tup [.str p.n,.int p.m,v9 p.h]
structure At where
 ns:List (List Nat)
 ps:List Pe
 h:Option Int
 ms:List (List Nat)
abbrev kN:List Nat:=[110,97,109,101,115]
abbrev kP:List Nat:=[112,105,101,99,101,115]
abbrev kH:List Nat:=[104,97,110,100,101,100]
abbrev kM:List Nat:=[109,101,110,117]
def av(A:At):PV:=.dct [(.inr kN,nms A.ns),(.inr kP,.lst (A.ps.map J9)),(.inr kH,v9 A.h),(.inr kM,KZ A.ms)]
def hO:Option Int→Prop
 |none=>True
 |some i=>0≤i∧i≤3
abbrev Qz(A:At):Cx:=(A.ps,A.h,A.ns)
structure Q6(j:Nat)(A:At):Prop where
 n:H_ A.ns=true
 l:A.ns.length≤j
 pl:A.ps.length≤1000
 p:∀p∈A.ps,sg p.n=true∧p.m≤4∧hO p.h
 h:hO A.h
 ml:A.ms.length=12
 m:H_ A.ms=true
 mn:A.ms.Nodup
 pn:(A.ps.map (·.n)).Nodup
theorem mY(m:Option Int):(v9 m).pure=true:=by cases m<;>rfl
theorem kQ(m:List (List Nat)):(KZ m).pure=true:=by unfold KZ;rw[PV.pure];exact aW m
theorem lI:∀l:List Pe,aq (l.map J9)=true
 |[]=>rfl
 |a::r=>by rw[List.map_cons,aq,lI r];simp[J9,PV.pure,aq,mY]
theorem iF(A:At):(av A).pure=true:=by simp[av,PV.pure,aS,bP,lI,mY,kQ]
section
variable(A:At)(h:List PO)
theorem Kl:am h (av A)=av A:=rfl
theorem KR:d7 (av A) (.str kN) h=.ok (nms A.ns) h:=rfl
theorem KQ:d7 (av A) (.str kP) h=.ok (.lst (A.ps.map J9)) h:=rfl
theorem KT:d7 (av A) (.str kH) h=.ok (v9 A.h) h:=by show Res.ok (am h (v9 A.h)) h=_;rw[iO]
theorem KS:d7 (av A) (.str kM) h=.ok (KZ A.ms) h:=rfl
end
theorem wU{ms:List (List Nat)}(hl:ms.length=12)(hs:H_ ms=true)(i:Int)(h0:0≤i)(h1:i<12):∃l,sg l=true∧(∀h,d7 (KZ ms) (.int i) h=.ok (.str l) h)∧l∈ms:=by
 have hi:i.toNat<ms.length:=by omega
 refine⟨ms.getD i.toNat [],List.all_eq_true.mp hs _ (iP hi),fun h=>?_,iP hi⟩;unfold KZ;rw[yh,fF (v:=PV.str (ms.getD i.toNat [])) h0 (by rw[List.getElem?_map,List.getD_eq_getElem?_getD,List.getElem?_eq_getElem hi];rfl)];rfl
theorem dK(x:Int){m:Int}(h:0<m):0≤x % m∧x % m<m:=⟨Int.emod_nonneg _ (by omega),Int.emod_lt_of_pos _ h⟩
theorem BA{α:Type}{te:Ex}{cp:Ev}{h:List PO}(f:α→PV)(R:List Nat→Prop):∀l:List α,(∀x∈l,∃s,R s∧te (some (f x)::cp) h=.ok (.str s) h)→∃ss:List (List Nat),ss.length=l.length∧(∀s∈ss,R s)∧cT dD te cp (l.map f) h=.ok (ss.map PV.str) h
 |[],_=>⟨[],rfl,by simp,rfl⟩
 |x::r,hx=>by
  obtain⟨s,h1,h2⟩:=hx x List.mem_cons_self;obtain⟨ss,g0,g1,g2⟩:=BA f R r fun z hz=>hx z (List.mem_cons_of_mem _ hz);refine⟨s::ss,by simp[g0],fun z hz=>?_,?_⟩
  ·rcases List.mem_cons.mp hz with q|q
   ·subst q;exact h1
   ·exact g1 z q
  ·rw[List.map_cons,cT];simp only[dD,Res.Nj,if_true,h2,g2,List.map_cons]
local macro_rules | `(tactic| simp $c:optConfig only [EY,$xs,*])=>do let a←(("wV Cr Kl KR KQ KT KS".splitOn.map fun n=>n.toName)).toArray.mapM fun n=>`(Lean.Parser.Tactic.simpLemma| $(Lean.mkIdent n):term);`(tactic| simp $c:optConfig only [EX,$a,*,$xs,*])
theorem qk(k:Nat){j:Nat}(A:At)(hA:Q6 j A)(hn:A.ns≠ [])(lj:j≤1000)(n:Int):∃p,(wp p=true∧Ol (Qz A) [p]=true)∧F (k+1) .z_ [.int n,av A]=.ok (J0 p):=by
 obtain⟨m0,m1⟩:=dK (n / 13) (by decide:(0:Int)<6)
 obtain⟨c,hc0,hc3,ec⟩:∃c:Int,0≤c∧c≤3∧LQ [PV.int 0,.int 0,.int 1,.int 2,.int 3,.int 1] (n / 13 % 6)=some (.int c):=by rcases(show n / 13 % 6=0∨n / 13 % 6=1∨n / 13 % 6=2∨n / 13 % 6=3∨n / 13 % 6=4∨n / 13 % 6=5 by omega)with q|q|q|q|q|q<;>rw[q]<;>exact⟨_,by decide,by decide,rfl⟩
 have bc:Oh 4611686018427387904 c=true:=eN.mpr ⟨by omega,by omega⟩
 obtain⟨ss,g0,g1,g2⟩:=BA (te:=jn (F k)) (cp:=[some (av A),some (.int n)]) (h:=[]) (fun i:Nat=>PV.int (0+(i:Nat))) (fun s=>sg s=true) (List.range c.toNat) fun i _=>by obtain⟨q0,q1⟩:=dK (n / 97+5 * (0+(i:Nat))) (by decide:(0:Int)<12);obtain⟨l,l1,l2,_⟩:=wU hA.ml hA.m _ q0 q1;exact⟨l,l1,by simp only[EY,jn,l2]⟩
 have l3:((List.range c.toNat).map fun i=>PV.int (0+(i:Nat))).length<16777216:=by rw[List.length_map,List.length_range];omega
 have Rt:(0:Int)<(A.ns.length:Nat):=by have:=List.length_pos_iff.mpr hn;omega
 obtain⟨q0,q1⟩:=dK n Rt;have p5:decide ((0:Int)<(A.ns.length:Nat))=true:=decide_eq_true Rt;have hi:(n % (A.ns.length:Nat)).toNat<A.ns.length:=by omega
 have ix:∀h,d7 (nms A.ns) (.int (n % (A.ns.length:Nat))) h=.ok (.str (A.ns.getD (n % (A.ns.length:Nat)).toNat [])) h:=fun h=>by unfold nms;rw[JB,fF (v:=PV.str (A.ns.getD (n % (A.ns.length:Nat)).toNat [])) q0 (by rw[List.getElem?_map,List.getD_eq_getElem?_getD,List.getElem?_eq_getElem hi];rfl)];rfl
 refine⟨⟨A.ns.getD (n % (A.ns.length:Nat)).toNat [],ss⟩,⟨?_,?_⟩,?_⟩
 ·rw[wp,Bool.and_eq_true];exact⟨List.all_eq_true.mp hA.n _ (iP hi),by rw[Bool.and_eq_true];exact⟨List.all_eq_true.mpr g1,decide_eq_true (by show ss.length≤10;rw[g0,List.length_range];omega)⟩⟩
 ·have:A.ns.contains (A.ns.getD (n % (A.ns.length:Nat)).toNat [])=true:=List.contains_iff_mem.mpr (iP hi);simp only[Ol,List.all_cons,List.all_nil,Bool.and_true];exact this
 ·have r2:F (k+1) .z_ [.int n,av A]=match jd (F k) [some (.int n),some (av A),none] []with
   |.nx _ _=>.ok .non
   |.rt v h=>ii v h
   |_=>.bad:=rfl
  have cp:∀x,dg [1,0] [some (.int n),some (av A),x]=[some (av A),some (.int n)]:=fun _=>rfl;have aa:∀h,aN (.tup [.str (A.ns.getD (n % (A.ns.length:Nat)).toNat [])]) (.tup (ss.map PV.str)) h=.ok (J0 ⟨A.ns.getD (n % (A.ns.length:Nat)).toNat [],ss⟩) h:=fun h=>mF _ _ h (by rw[List.length_map,g0,List.length_range];exact Nat.le_trans (by simp;omega:_≤10) (by decide));have dp:∀h,am h (PV.tup (ss.map PV.str))=.tup (ss.map PV.str):=fun _=>rfl;rw[r2];simp only[EY,jd,ec,bc,l3,cp,g2,p5,ix,aa,dp];exact ew (eT _)
theorem tX{α β:Type}{te:Ex}{cp:Ev}{m:Int}(f:α→PV)(g:β→PV)(R:β→Prop)(c:Int)(hc:0≤c)(hi:Int):∀(l:List α)(n:Int),0≤n→n+c * l.length≤hi→(∀x∈l,∀n,0≤n→n+c≤hi→∃y n',R y∧n≤n'∧n'≤n+c∧te (some (f x)::cp) [I6 n m]=.ok (g y) [I6 n' m])→
  ∃(ys:List β)(n':Int),ys.length=l.length∧(∀y∈ys,R y)∧n≤n'∧n'≤n+c * l.length∧cT dD te cp (l.map f) [I6 n m]=.ok (ys.map g) [I6 n' m]
 |[],n,_,_,_=>⟨[],n,rfl,by simp,Int.le_refl _,by simp,rfl⟩
 |x::r,n,h0,hn,hx=>by
  have e:c * ((x::r).length:Int)=c * (r.length:Int)+c:=by rw[List.length_cons,Int.natCast_add,Int.mul_add];simp
  have hr:0≤c * (r.length:Int):=Int.mul_nonneg hc (by omega);rw[e]at hn;obtain⟨y,n1,y1,y2,y3,y4⟩:=hx x List.mem_cons_self n h0 (by omega);obtain⟨ys,n2,z0,z1,z2,z3,z4⟩:=tX f g R c hc hi r n1 (by omega) (by omega) fun z hz=>hx z (List.mem_cons_of_mem _ hz);refine⟨y::ys,n2,by simp[z0],fun z hz=>?_,by omega,by rw[e];omega,?_⟩
  ·rcases List.mem_cons.mp hz with q|q
   ·subst q;exact y1
   ·exact z1 z q
  ·rw[List.map_cons,cT];simp only[dD,Res.Nj,if_true,y4,z4,List.map_cons]
theorem iI(k:Nat)(cs:List Int)(hc:cs.length≤63)(n m:Int)(h0:0≤n)(h1:n≤2000000)(r:List PO):∃v,0≤v∧v<400000000∧w7 (L (k+1) .G3) [cv cs,.ref 0] (I6 n m::r)=.ok (.int v) (I6 (n+1) m::r):=by obtain⟨v,v0,v1,e⟩:=EI k cs hc n m h0 h1;exact⟨v,v0,v1,bY (fn:=L (k+1) .G3) [cv cs] [] (by rw[aq,kc];rfl) rfl rfl (cA _ _) e rfl (cA _ _)⟩
theorem AZ(l:List G7):l.map J0=de l:=rfl
theorem uU(k:Nat){j:Nat}(cs:List Int)(hc:cs.length≤63)(A:At)(hA:Q6 j A)(lj:j≤1000)(c:Int)(c0:0≤c)(c4:c≤4)(hn:c=0∨A.ns≠ [])(n m:Int)(h0:0≤n)(h1:n≤1900000):
  ∃ps n',(wps ps=true∧Ol (Qz A) ps=true∧(ps.length:Int)=c)∧n≤n'∧n'≤n+4∧L (k+2) .u6 [cv cs,.ref 0,av A,.int c] [I6 n m]=.ok (.tup (de ps)) [I6 n' m]:=by
 have bc:Oh 4611686018427387904 c=true:=eN.mpr ⟨by omega,by omega⟩;have l3:((List.range c.toNat).map fun i=>PV.int (0+(i:Nat))).length<16777216:=by rw[List.length_map,List.length_range];omega
 obtain⟨ps,n',g0,g1,g2,g3,g4⟩:=tX (te:=iS (F (k+1)) (L (k+1))) (cp:=[some (av A),some (cv cs),some (.ref 0)]) (m:=m) (fun i:Nat=>PV.int (0+(i:Nat))) J0 (fun p=>wp p=true∧Ol (Qz A) [p]=true) 1 (by decide) 2000000 (List.range c.toNat) n h0 (by rw[List.length_range];omega) fun i hi n h0 h1=>by
  obtain⟨v,_,_,e⟩:=iI k cs hc n m h0 (by omega) []
  have cn:A.ns≠ []:=by
   rcases hn with q|q
   ·subst q;simp at hi
   ·exact q
  obtain⟨p,p1,p2⟩:=qk k A hA cn lj v;have cp:∀h,bO (F (k+1) .z_) [.int v,av A] h=.ok (J0 p) h:=fun h=>aZ h (by simp[aq,PV.pure,iF]) p2;have d0:am [I6 n m] (.ref 0)=.ref 0:=rfl;exact⟨p,n+1,p1,by omega,by omega,by simp only[EY,iS,d0,e,cp]⟩
 rw[List.length_range]at g0 g3;refine⟨ps,n',⟨?_,List.all_eq_true.mpr fun p hp=>by have:=(g1 p hp).2;simpa[Ol]using this,by omega⟩,g2,by omega,?_⟩
 ·rw[wps,Bool.and_eq_true];exact⟨List.all_eq_true.mpr fun p hp=>(g1 p hp).1,decide_eq_true (by omega)⟩
 ·have r2:L (k+2) .u6 [cv cs,.ref 0,av A,.int c] [I6 n m]=match iE (F (k+1)) (L (k+1)) [some (cv cs),some (.ref 0),some (av A),some (.int c)] [I6 n m]with|.nx _ h1=>fV 1 .non h1|.rt v h1=>eU 1 v h1|_=>.bad:=rfl
  have cp:dg [2,0,1] [some (cv cs),some (.ref 0),some (av A),some (.int c)]=[some (av A),some (cv cs),some (.ref 0)]:=rfl;rw[r2];simp only[EY,iE,bc,l3,cp,g4,AZ];exact tO (by rw[PV.pure];exact aQ ps) (cA _ _)
theorem rh(k:Nat)(A:At)(xs:List (List Nat))(hl:A.ns.length+xs.length≤100000):F (k+1) .G5 [av A,nms xs]=.ok (av { A with ns:=A.ns++xs }):=by
 have r2:F (k+1) .G5 [av A,nms xs]=match kh (F k) [some (av A),some (nms xs),none] []with
   |.nx _ _=>.ok .non
   |.rt v h=>ii v h
   |_=>.bad:=rfl
 have an:=yN A.ns xs [PO.dct [(.inr kN,nms A.ns),(.inr kP,.lst (A.ps.map J9)),(.inr kH,v9 A.h),(.inr kM,KZ A.ms)]] hl;have dm:jS [av A] []=.ok (.ref 0) [.dct [(.inr kN,nms A.ns),(.inr kP,.lst (A.ps.map J9)),(.inr kH,v9 A.h),(.inr kM,KZ A.ms)]]:=rfl;rw[r2];have z4:(4<16777216)=True:=by decide
 have fz:O1 (.ref 0) [.dct (bK [(.inr kN,nms A.ns),(.inr kP,.lst (A.ps.map J9)),(.inr kH,v9 A.h),(.inr kM,KZ A.ms)] (.inr kN) (nms (A.ns++xs)))]=.ok (av { A with ns:=A.ns++xs }) [.G6 (av { A with ns:=A.ns++xs })]:=by
  have e:bK [(.inr kN,nms A.ns),(.inr kP,.lst (A.ps.map J9)),(.inr kH,v9 A.h),(.inr kM,KZ A.ms)] (.inr kN) (nms (A.ns++xs))=[(.inr kN,nms (A.ns++xs)),(.inr kP,.lst (A.ps.map J9)),(.inr kH,v9 A.h),(.inr kM,KZ A.ms)]:=rfl;rw[e];have pp:aS [((Sum.inr kN:Int ⊕ List Nat),nms (A.ns++xs)),(.inr kP,.lst (A.ps.map J9)),(.inr kH,v9 A.h),(.inr kM,KZ A.ms)]=true:=by simp[aS,PV.pure,bP,lI,mY,kQ]
  show(match(if aS _=true then some (PV.dct _,[PO.G6 (PV.dct _)])else none)with|some (q,h2)=>Res.ok q h2|none=>.bad)=_;rw[if_pos pp];rfl
 simp only[EY,kh,dm,an,z4,fz];exact ew (iF _)
theorem DR{P:List Pe}{p:Pe}(h:(P.map (·.n)).Nodup)(hp:p∈P):Qm P p.n=some p:=by
 unfold Qm
 induction P with
 |nil=>cases hp
 |cons q r ih=>
  rw[List.map_cons,List.nodup_cons]at h;rcases List.mem_cons.mp hp with z|z
  ·subst z;rw[List.find?_cons_of_pos (by simp)]
  ·rw[List.find?_cons_of_neg,ih h.2 z];intro e;rw[eq_of_beq e]at h;exact h.1 (List.mem_map.mpr ⟨p,z,rfl⟩)
theorem HQ{l:List (List Nat)}(h:l.Nodup){a b:Option Int}:(cut l a b).Nodup:=by unfold cut;exact List.Sublist.nodup ((List.take_sublist _ _).trans (List.drop_sublist _ _)) h
theorem HS{l:List (List Nat)}(hl:l.length=12){a b:Int}(a0:0≤a)(a1:a<9)(b0:0≤b)(b1:b≤3):(cut l (some a) (some (a+b))).length=b.toNat:=by obtain⟨a,rfl⟩:=Int.eq_ofNat_of_zero_le a0;obtain⟨b,rfl⟩:=Int.eq_ofNat_of_zero_le b0;unfold cut;rw[show((a:Int)+(b:Int))=((a+b:Nat):Int) by omega,HT.Lg,HT.Lg,List.length_take,List.length_drop,hl,Nat.min_eq_left (by clear hl;omega),Nat.min_eq_left (by clear hl;omega),Nat.min_eq_left (by clear hl;omega),Nat.add_sub_cancel_left];rfl
noncomputable def H6:List Nd→w6
 |[]=>.nil
 |n::r=>.cons n (H6 r)
theorem gv:∀l:List Nd,j6 (H6 l)=l.map nd
 |[]=>by rw[H6,j6];rfl
 |n::r=>by rw[H6,j6,gv r];rfl
theorem kf:∀l:List Nd,J8 (H6 l)=O6 l
 |[]=>by rw[H6,J8];rfl
 |n::r=>by rw[H6,J8,kf r];unfold O6;rw[List.map_cons,List.sum_cons]
theorem Rw.j6{kn:Cx}{d c t:Nat}:∀{l:List Nd},Rw kn d c t l→wS (H6 l)=true∧Lh kn (H6 l)=true∧dS (H6 l)≤d
 |[],_=>⟨rfl,rfl,Nat.zero_le _⟩
 |n::r,h=>by
  have e1:O6 (n::r)=Ls n+1+O6 r:=by unfold O6;rw[List.map_cons,List.sum_cons]
  have e2:Lw (n::r)=O4 n+Lw r:=by unfold Lw;rw[List.map_cons,List.sum_cons]
  have hc:=h.c;have ht:=h.t;obtain⟨a,b,e⟩:=Rw.j6 (kn:=kn) (d:=d) (c:=c) (t:=t) (l:=r) ⟨fun z hz=>h.w z (List.mem_cons_of_mem _ hz),by omega,by omega⟩;obtain⟨w1,w2,w3⟩:=h.w n List.mem_cons_self;rw[H6,wS,Lh,dS,w1,w2,a,b];exact⟨rfl,rfl,Nat.max_le.mpr ⟨w3,e⟩⟩
noncomputable def gg:Nat→Nat
 |0=>3
 |d+1=>3 * (1+2 * gg d)
def gn:Nat→Nat
 |0=>1
 |d+1=>1+2 * gg d
noncomputable def cg:Nat→Nat
 |0=>19
 |d+1=>1+3 * (6+2 * cg d)
def cn:Nat→Nat
 |0=>6
 |d+1=>6+2 * cg d
theorem JT(d:Nat):gg d=3 * gn d:=by cases d<;>rfl
theorem Ft(d:Nat):cg d=1+3 * cn d:=by cases d<;>rfl
structure NR(kn:Cx)(D:Nat)(x:Nd):Prop where
 w:wN x=true
 u:okN kn x=true
 d:dN x≤D
 c:Ls x+1≤gn D
 t:O4 x≤4
theorem qy:∀d:Nat,1≤gn d
 |0=>Nat.le_refl _
 |d+1=>Nat.le_add_right _ _
def lN(d:Nat):Prop:=∀(K:Nat)(cs:List Int)(A:At)(j:Nat)(n m:Int),3 * d+6≤K→cs.length≤63→Q6 j A→j+12 * d≤100→0≤n→n+cg d≤1900000→
 ∃l n',Rw (Qz A) d (gg d) 12 l∧n≤n'∧n'≤n+cg d∧L K .t_ [cv cs,.ref 0,av A,.int d] [I6 n m]=.ok (.tup (l.map nd)) [I6 n' m]
theorem gJ{d:Nat}(ok:lN d)(K:Nat)(cs:List Int)(A:At)(j:Nat)(n m:Int)(hK:3 * d+6≤K)(hc:cs.length≤63)(hA:Q6 j A)(hj:j+12 * d≤100)(h0:0≤n)(h1:n+cg d≤1900000)(r:List PO):
  ∃l n',Rw (Qz A) d (gg d) 12 l∧n≤n'∧n'≤n+cg d∧w7 (L K .t_) [cv cs,.ref 0,av A,.int d] (I6 n m::r)=.ok (.tup (l.map nd)) (I6 n' m::r):=by
 obtain⟨l,n',a,b,c,e⟩:=ok K cs A j n m hK hc hA hj h0 h1;exact⟨l,n',a,b,c,bY (fn:=L K .t_) [cv cs] [av A,.int d] (by rw[aq,kc];rfl) (by simp[aq,iF,PV.pure]) rfl (cA _ _) e (by rw[PV.pure];exact bQ l) (cA _ _)⟩
theorem DI{l:List PV}(hl:fds 59 l)(h:List PO):NZ (.tup l) (.tup []) h=.ok (.bl (!l.isEmpty)) h:=by
 have ok:LC h (.tup l)=true:=by unfold LC Lz;have:=hl.2.1;simp only[toD,PyData.canLay0,PyData.depth,hl.1,Bool.true_and,decide_eq_true_eq];omega
 unfold NZ;rw[if_pos ⟨ok,rfl⟩]
 cases l<;>rfl
theorem yv{l:List PV}(hl:fds 59 l)(h:List PO):J3 (.tup l) (.tup []) h=.ok (.bl l.isEmpty) h:=by
 have ok:LC h (.tup l)=true:=by unfold LC Lz;have:=hl.2.1;simp only[toD,PyData.canLay0,PyData.depth,hl.1,Bool.true_and,decide_eq_true_eq];omega
 unfold J3;rw[if_pos ⟨ok,rfl⟩]
 cases l<;>rfl
theorem Bw{l:List (List Nat)}(hs:H_ l=true)(h:List PO):NZ (nms l) (.tup []) h=.ok (.bl (!l.isEmpty)) h:=by unfold nms;rw[DI (iR hs),List.isEmpty_map]
theorem DG{l:List (List Nat)}(hs:H_ l=true)(h:List PO):J3 (nms l) (.tup []) h=.ok (.bl l.isEmpty) h:=by unfold nms;rw[yv (iR hs),List.isEmpty_map]
theorem Q6.more{j:Nat}{A:At}(h:Q6 j A)(xs:List (List Nat))(hs:H_ xs=true)(hl:xs.length≤12):Q6 (j+12) { A with ns:=A.ns++xs }:=
 ⟨oT h.n hs,by show(A.ns++xs).length≤_;rw[List.length_append];have:=h.l;omega,h.pl,h.p,h.h,h.ml,h.m,h.mn,h.pn⟩
theorem qj(K:Nat){j:Nat}(cs:List Int)(hc:cs.length≤63)(A:At)(hA:Q6 j A)(lj:j≤1000)(c:Int)(c0:0≤c)(c4:c≤4)(hn:c=0∨A.ns≠ [])(n m:Int)(h0:0≤n)(h1:n≤1900000):
  ∃ps n',(wps ps=true∧Ol (Qz A) ps=true∧(ps.length:Int)=c)∧n≤n'∧n'≤n+4∧w7 (L (K+2) .u6) [cv cs,.ref 0,av A,.int c] [I6 n m]=.ok (.tup (de ps)) [I6 n' m]:=by
 obtain⟨ps,n',a,b,c',e⟩:=uU K cs hc A hA lj c c0 c4 hn n m h0 h1;exact⟨ps,n',a,b,c',bY (fn:=L (K+2) .u6) [cv cs] [av A,.int c] (by rw[aq,kc];rfl) (by simp[aq,iF,PV.pure]) rfl (cA _ _) e (by rw[PV.pure];exact aQ ps) (cA _ _)⟩
theorem Cg{l:List Pe}(h:∀p∈l,sg p.n=true):fds 59 (l.map J9):=by
 induction l with
 |nil=>exact cY _
 |cons a r ih=>
  refine aH (bE (cJ (d:=1) (aH (cQ (h a List.mem_cons_self)) (aH (Ci _ _) (aH ?_ (cY _))))) (by decide)) (ih fun p hp=>h p (List.mem_cons_of_mem _ hp))
  cases a.h with
  |none=>exact xk _
  |some i=>exact Ci _ i
theorem vX(d:Nat)(ok:lN d)(K:Nat)(cs:List Int)(A:At)(j:Nat)(n m more:Int)(hK:3 * d+6≤K)(hc:cs.length≤63)(hA:Q6 j A)(hj:j+12 * (d+1)≤100)(h0:0≤n)(h1:n+4+cg d≤1900000)(lp:A.ps.length≤1000):
  ∃x n',NR (Qz A) (d+1) x∧n≤n'∧n'≤n+4+cg d∧L (K+1) .G8 [cv cs,.ref 0,av A,.int ((d+1:Nat):Int),.int more] [I6 n m]=.ok (nd x) [I6 n' m]:=by
 have r2:∀x,fU (F K) (L K) [some (cv cs),some (.ref 0),some (av A),some (.int ((d+1:Nat):Int)),some (.int more),none,none,none,none,none,none,none] [I6 n m]=x→L (K+1) .G8 [cv cs,.ref 0,av A,.int ((d+1:Nat):Int),.int more] [I6 n m]=match x with|.nx _ h1=>fV 1 .non h1|.rt v h1=>eU 1 v h1|_=>.bad:=fun x e=>by subst e;rfl
 have lq:(A.ps.map J9).length<16777216:=by rw[List.length_map];omega
 have cm:∀ ρ h,dg [2] ρ=[some (av A)]→cT (gM (F K)) (gP (F K)) (dg [2] ρ) (A.ps.map J9) h=.ok ((A.ps.filter fun p=>decide ((p.m:Int)=0)||!A.ns.isEmpty).map J9) h:=fun ρ h hc=>by
  rw[hc];refine qA J9 (fun p=>decide ((p.m:Int)=0)||!A.ns.isEmpty) J9 A.ps (fun p hp=>?_) fun p hp=>?_
  ·have i1:d7 (J9 p) (.int 1) h=.ok (.int p.m) h:=rfl;have dp:am h (J9 p)=J9 p:=rfl;have nn:=Bw hA.n h
   cases e:decide ((p.m:Int)=0)<;>simp only[EY,gM,dp,i1,e,nn]
  ·have dp:am h (J9 p)=J9 p:=rfl;simp only[EY,gP,dp]
 have hf:∀p∈A.ps.filter (fun p=>decide ((p.m:Int)=0)||!A.ns.isEmpty),p∈A.ps∧((p.m:Int)=0∨A.ns≠ []):=fun p hp=>by
  obtain⟨a,b⟩:=List.mem_filter.mp hp;refine⟨a,?_⟩;rw[Bool.or_eq_true,decide_eq_true_eq]at b;rcases b with b|b
  ·exact .inl b
  ·exact .inr (by intro z;rw[z]at b;cases b)
 have en:∀h,J3 (.lst ((A.ps.filter fun p=>decide ((p.m:Int)=0)||!A.ns.isEmpty).map J9)) (.lst []) h=.ok (.bl ((A.ps.filter fun p=>decide ((p.m:Int)=0)||!A.ns.isEmpty).map J9).isEmpty) h:=fun h=>EC (Cg fun p hp=>(hA.p p (hf p hp).1).1) h;generalize A.ps.filter (fun p=>decide ((p.m:Int)=0)||!A.ns.isEmpty)=fl at cm hf en;have Rv:∀(x:Option PV) h,cT (gM (F K)) (gP (F K)) (dg [2] [some (cv cs),some (.ref 0),some (av A),some (.int ((d+1:Nat):Int)),some (.int more),none,none,none,none,none,none,none]) (A.ps.map J9) h=.ok (fl.map J9) h:=fun _ h=>cm _ h rfl;have d0:∀(n:Int),am [I6 n m] (.ref 0)=.ref 0:=fun n=>rfl;have cg1:=Ft d
 cases fl with
 |nil=>simp only[List.map_nil,List.isEmpty_nil]at Rv en;refine⟨.text [110,111,110,101],n,⟨by rw[wN];rfl,rfl,Nat.zero_le _,qy _,by show 4≤4;omega⟩,by omega,by omega,?_⟩;rw[r2 _ rfl];simp only[EY,fU,lq,Rv none,en];rw[nd];exact tO rfl (cA _ _)
 |cons p0 r0=>
  have Rt:(0:Int)<((p0::r0).length:Nat):=by rw[List.length_cons];omega
  obtain⟨q0,q1⟩:=dK more Rt;have hi:(more % ((p0::r0).length:Nat)).toNat<(p0::r0).length:=by omega
  obtain⟨p,hp,ip⟩:∃p∈p0::r0,∀h,d7 (.lst ((p0::r0).map J9)) (.int (more % ((p0::r0).length:Nat))) h=.ok (J9 p) h:=by refine⟨(p0::r0)[(more % ((p0::r0).length:Nat)).toNat],List.getElem_mem hi,fun h=>?_⟩;rw[yh,fF (v:=J9 ((p0::r0)[(more % ((p0::r0).length:Nat)).toNat])) q0 (by rw[List.getElem?_map,List.getElem?_eq_getElem hi];rfl)];rfl
  obtain⟨hm,hz⟩:=hf p hp;obtain⟨p1,p2,p3⟩:=hA.p p hm;have hl:∀h,dZ [.lst ((p0::r0).map J9)] h=.ok (.int ((p0::r0).length:Nat)) h:=fun h=>by rw[Fd,List.length_map]
  have pz:decide ((0:Int)<((p0::r0).length:Nat))=true:=decide_eq_true Rt;have e0:((p0::r0).map J9).isEmpty=false:=rfl;rw[e0]at en;generalize(p0::r0).map J9=fv at Rv en ip hl;generalize(((p0::r0).length:Nat):Int)=fn at ip hl pz;obtain⟨K',rfl⟩:∃K',K=K'+2:=⟨K - 2,by omega⟩
  obtain⟨ps,n1,⟨w1,Xe,w1l⟩,w2,w3,w4⟩:=qj K' cs hc A hA (by omega) p.m (by omega) (by omega) hz n m h0 (by omega);have kn:Qm A.ps p.n=some p:=DR hA.pn hm;have kl:p.m=ps.length:=by omega
  have dp:∀h,am h (PV.tup (de ps))=.tup (de ps):=fun _=>rfl
  cases hh:p.h with
  |none=>refine⟨.use p.n ps,n1,⟨by rw[wN,p1,w1];rfl,by rw[okN,Xe,Mp];show(true&&match Qm A.ps p.n with|none=>false|some p=>decide (p.m=ps.length)&&decide (p.h=none))=true;rw[kn];simp[kl,hh],Nat.zero_le _,qy _,Nat.zero_le _⟩,w2,by omega,?_⟩;rw[r2 _ rfl];simp only[EY,fU,lq,Rv none,en,hl,pz,ip];simp only[EY,J9,hh,v9,d0,w4,dp];rw[nd];exact tO (by simp[PV.pure,aq,aQ]) (cA _ _)
  |some i=>
   let xs:=cut A.ms (some (more / 8 % 9)) (some (more / 8 % 9+i));have sx:H_ xs=true:=sI hA.m fun x hx=>nA hx;have lx:xs.length≤12:=by have:=kd A.ms (some (more / 8 % 9)) (some (more / 8 % 9+i));rw[hA.ml]at this;exact this
   obtain⟨l,n2,g1,g2,g3,g4⟩:=gJ ok (K'+2) cs { A with ns:=A.ns++xs } (j+12) n1 m hK hc (hA.more xs sx lx) (by omega) (by omega) (by omega) [];obtain⟨e1,e2,e3⟩:=g1.j6
   have xl:xs.length=i.toNat:=by have f0:=dK (more / 8) (by decide:(0:Int)<9);have hi:=p3;rw[hh]at hi;have:=hi.1;have:=hi.2;exact HS hA.ml (by omega) (by omega) (by omega) (by omega)
   have xd:dup xs=false:=(jZ xs).mpr (HQ hA.mn);have i0:(xs.length:Int)=i:=by have hi:=p3;rw[hh]at hi;have:=hi.1;omega
   have sl:∀h,lR (KZ A.ms) (some (more / 8 % 9)) (some (more / 8 % 9+i)) h=.ok (KZ xs) h:=fun h=>by unfold KZ;rw[EU,ua]
   have tp:∀h,dG [KZ xs] h=.ok (nms xs) h:=fun h=>rfl;have wi:∀h,bO (F (K'+2) .G5) [av A,nms xs] h=.ok (av { A with ns:=A.ns++xs }) h:=fun h=>aZ h (by simp[aq,iF,bP]) (rh (K'+1) A xs (by have:=hA.l;omega));have dd:((d+1:Nat):Int) - 1=(d:Int):=by omega
   refine⟨.j8 p.n ps xs (H6 l),n2,⟨by rw[wN,p1,w1,sx,decide_eq_true (show xs.length<60 by omega),e1];rfl,by rw[okN,Xe,Mp];show(true&&((match Qm A.ps p.n with|none=>false|some p=>decide (p.m=ps.length)&&decide (p.h=some (xs.length:Int)))&&_))=true;rw[kn,xd];simp[kl,hh,i0];exact e2,by rw[dN];omega,?_,Nat.zero_le _⟩,by omega,by omega,?_⟩
   ·rw[Ls,kf];have:=g1.c;show O6 l+1≤1+2 * gg d;omega
   ·rw[r2 _ rfl];simp only[EY,fU,lq,Rv none,en,hl,pz,ip];simp only[EY,J9,hh,v9,d0,w4,dp,sl,tp,wi,dd,g4];rw[nd,gv];exact tO (by simp[PV.pure,aq,aQ,bP,bQ]) (cA _ _)
theorem wQ(d:Nat)(ok:∀e,e+1=d→lN e)(K:Nat)(cs:List Int)(A:At)(j:Nat)(n m:Int)(hK:3 * d+4≤K)(hc:cs.length≤63)(hA:Q6 j A)(hj:j+12 * d≤100)(h0:0≤n)(h1:n+cn d≤1900000):
  ∃x n',NR (Qz A) d x∧n≤n'∧n'≤n+cn d∧L (K+1) .G9 [cv cs,.ref 0,av A,.int d] [I6 n m]=.ok (nd x) [I6 n' m]:=by
 obtain⟨K',rfl⟩:∃K',K=K'+2:=⟨K - 2,by omega⟩
 have cn6:6≤cn d:=by cases d with
  |zero=>exact Nat.le_refl _
  |succ d=>exact Nat.le_add_right _ _
 obtain⟨v,v0,v1,ce⟩:=iI (K'+1) cs hc n m h0 (by omega) [];have d0:∀(n:Int),am [I6 n m] (.ref 0)=.ref 0:=fun n=>rfl;have i0:∀(n:Int),d7 (.ref 0) (.int 0) [I6 n m]=.ok (.int n) [I6 n m]:=fun n=>rfl;have i1:∀(n:Int),d7 (.ref 0) (.int 1) [I6 n m]=.ok (.int m) [I6 n m]:=fun n=>rfl
 have s4:aO 4 (c2 gT (bj ((L (K'+2)) .G3) aaI) aae) [some (cv cs),some (.ref 0),some (av A),some (.int d),none,none,none,none,none,none,none] [I6 n m]=.nx [some (cv cs),some (.ref 0),some (av A),some (.int d),some (.int (v / 3)),none,none,none,none,none,none] [I6 (n+1) m]:=by simp only[EY,d0,ce]
 have s5:aO 5 (c2 eG (ai 4) abj) [some (cv cs),some (.ref 0),some (av A),some (.int d),some (.int (v / 3)),none,none,none,none,none,none] [I6 (n+1) m]=.nx [some (cv cs),some (.ref 0),some (av A),some (.int d),some (.int (v / 3)),some (.int (v / 3 % 9)),none,none,none,none,none] [I6 (n+1) m]:=by simp only[EY,if_true]
 have s6:aO 6 (c2 gT (ai 4) abj) [some (cv cs),some (.ref 0),some (av A),some (.int d),some (.int (v / 3)),some (.int (v / 3 % 9)),none,none,none,none,none] [I6 (n+1) m]=.nx [some (cv cs),some (.ref 0),some (av A),some (.int d),some (.int (v / 3)),some (.int (v / 3 % 9)),some (.int (v / 3 / 9)),none,none,none,none] [I6 (n+1) m]:=by simp only[EY,if_true]
 obtain⟨κ,k0,k1,k2,s7⟩:∃ κ:Int,0≤κ∧κ≤8∧(d=0→κ<3)∧J7 abf abO cD [some (cv cs),some (.ref 0),some (av A),some (.int d),some (.int (v / 3)),some (.int (v / 3 % 9)),some (.int (v / 3 / 9)),none,none,none,none] [I6 (n+1) m]=.nx [some (cv cs),some (.ref 0),some (av A),some (.int d),some (.int (v / 3)),some (.int κ),some (.int (v / 3 / 9)),none,none,none,none] [I6 (n+1) m]:=by
  have a1:=dK (v / 3) (by decide:(0:Int)<9);have a2:=dK (v / 3 % 9) (by decide:(0:Int)<3)
  cases c1:decide (n+1>m)with
  |true=>exact⟨v / 3 % 9 % 3,by omega,by omega,fun _=>by omega,by simp only[EY,d0,i0,i1,c1]⟩
  |false=>
   cases c2:decide ((d:Int)<1)with
   |true=>exact⟨v / 3 % 9 % 3,by omega,by omega,fun _=>by omega,by simp only[EY,d0,i0,i1,c1,c2]⟩
   |false=>have:=of_decide_eq_false c2;exact⟨v / 3 % 9,by omega,by omega,fun z=>by omega,by simp only[EY,d0,i0,i1,c1,c2]⟩
 have fin:∀(x:Nd)(n':Int),eU 1 (nd x) [I6 n' m]=.ok (nd x) [I6 n' m]:=fun x n'=>tO (bz x) (cA _ _);have r2:∀T,gY (F (K'+2)) (L (K'+2)) [some (cv cs),some (.ref 0),some (av A),some (.int d),none,none,none,none,none,none,none] [I6 n m]=T→L (K'+2+1) .G9 [cv cs,.ref 0,av A,.int d] [I6 n m]=match T with|.nx _ h1=>fV 1 .non h1|.rt v h1=>eU 1 v h1|_=>.bad:=fun T e=>by subst e;rfl
 suffices S:∃x n',NR (Qz A) d x∧n≤n'∧n'≤n+cn d∧gY (F (K'+2)) (L (K'+2)) [some (cv cs),some (.ref 0),some (av A),some (.int d),none,none,none,none,none,none,none] [I6 n m]=.rt (nd x) [I6 n' m] by obtain⟨x,n',a,b,c,e⟩:=S;exact⟨x,n',a,b,c,by rw[r2 _ e];exact fin x n'⟩
 unfold gY;rw[eK,s4];dsimp only;rw[eK,s5];dsimp only;rw[eK,s6];dsimp only;rw[eK,s7];dsimp only;have nn:=Bw hA.n;have ne:=DG hA.n
 have Vw:∀(l:List (List Nat))(i:Int),H_ l=true→0≤i→i<l.length→∃s∈l,sg s=true∧LQ (l.map PV.str) i=some (.str s):=fun l i hs h0 h1=>by
  have hi:i.toNat<l.length:=by omega
  exact⟨l[i.toNat],List.getElem_mem hi,List.all_eq_true.mp hs _ (List.getElem_mem hi),fF h0 (by rw[List.getElem?_map,List.getElem?_eq_getElem hi];rfl)⟩
 have t6:=dK (v / 3 / 9) (by decide:(0:Int)<6);obtain⟨s,sm,_,st⟩:=Vw [[97],[123],[10],[60,98,62],[125,125],[32,126]] (v / 3 / 9 % 6) (by decide) t6.1 t6.2;simp only[List.map_cons,List.map_nil]at st
 have sl:sg s=true∧s.length≤4:=by
  have:∀x∈([[97],[123],[10],[60,98,62],[125,125],[32,126]]:List (List Nat)),sg x=true∧x.length≤4:=by decide
  exact this s sm
 have txt:NR (Qz A) d (.text s):=⟨by rw[wN,Bool.and_eq_true];exact⟨sl.1,decide_eq_true (by omega)⟩,rfl,Nat.zero_le _,qy _,sl.2⟩
 have U0:nd (.text s)=.tup [.str tT,.str s]:=by rw[nd]
 by_cases c1:κ>5∧κ<8
 ·have b1:decide (κ>5)=true:=decide_eq_true c1.1;have b2:decide (κ<8)=true:=decide_eq_true c1.2;obtain⟨e,rfl⟩:∃e,d=e+1:=⟨d - 1,by have:=k2;omega⟩
  have ec:cn (e+1)=6+2 * cg e:=rfl;obtain⟨x,n',a,b,c,u⟩:=vX e (ok e rfl) (K'+1) cs A j (n+1) m (v / 3 / 9) (by omega) hc hA (by omega) (by omega) (by omega) hA.pl;have cu:=bY (fn:=L (K'+1+1) .G8) [cv cs] [av A,.int ((e+1:Nat):Int),.int (v / 3 / 9)] (h:=[I6 (n+1) m]) (i:=0) (by rw[aq,kc];rfl) (by simp[aq,iF,PV.pure]) rfl (cA _ _) u (bz x) (cA _ _);simp only[List.cons_append,List.nil_append,List.set_cons_zero]at cu;exact⟨x,n',a,by omega,by omega,by simp only[EY,b1,b2,d0,cu]⟩
 by_cases c8:κ=8
 ·have b1:decide (κ>5)=true:=decide_eq_true (by omega);have b2:decide (κ<8)=false:=decide_eq_false (by omega);have b8:decide (κ=8)=true:=decide_eq_true c8;have b0:decide (κ=0)=false:=decide_eq_false (by omega)
  cases hh:A.h with
  |none=>refine⟨.text s,n+1,txt,by omega,by omega,?_⟩;simp only[EY,b1,b2,b8,b0,hh,v9,st,U0]
  |some i=>
   have ho:=hA.h;rw[hh]at ho
   by_cases ci:i=0∨A.ns≠ []
   ·obtain⟨ps,n',⟨a,ao,al⟩,b,c,e⟩:=qj K' cs hc A hA (by omega) i ho.1 (by have:=ho.2;omega) ci (n+1) m (by omega) (by omega);refine⟨.body ps,n',⟨by rw[wN];exact a,by rw[okN,ao];show(true&&decide (A.h=some (ps.length:Int)))=true;rw[hh,al];simp,Nat.zero_le _,qy _,Nat.zero_le _⟩,by omega,by omega,?_⟩;have nb:nd (.body ps)=.tup [.str tB,.tup (de ps)]:=by rw[nd]
    have hs:(decide (i=0)||!A.ns.isEmpty)=true:=by
     rcases ci with z|z
     ·simp[z]
     ·rw[show A.ns.isEmpty=false by cases h:A.ns<;>simp_all];simp
    cases z0:decide (i=0)with
    |true=>simp only[EY,b1,b2,b8,hh,v9,z0,d0,e,nb]
    |false=>rw[z0,Bool.false_or]at hs;simp only[EY,b1,b2,b8,hh,v9,z0,nn,hs,d0,e,nb]
   ·have hz0:decide (i=0)=false:=decide_eq_false fun z=>ci (.inl z)
    have hs:(!A.ns.isEmpty)=false:=by
     cases h:A.ns with
     |nil=>rfl
     |cons a r=>exact(ci (.inr (by rw[h];simp))).elim
    refine⟨.text s,n+1,txt,by omega,by omega,?_⟩;simp only[EY,b1,b2,b8,b0,hh,v9,hz0,nn,hs,st,U0]
 have b8:decide (κ=8)=false:=decide_eq_false c8;have b5:decide (κ>5)=false:=decide_eq_false fun z=>c1 ⟨z,by omega⟩
 by_cases c0:κ=0
 ·have b0:decide (κ=0)=true:=decide_eq_true c0;refine⟨.text s,n+1,txt,by omega,by omega,?_⟩;simp only[EY,b5,b8,b0,st,U0]
 have b0:decide (κ=0)=false:=decide_eq_false c0
 by_cases Yr:A.ns= []
 ·have hs:A.ns.isEmpty=true:=by rw[Yr];rfl
  refine⟨.text s,n+1,txt,by omega,by omega,?_⟩;simp only[EY,b5,b8,b0,ne,hs,st,U0]
 have hs:A.ns.isEmpty=false:=by cases h:A.ns<;>simp_all
 obtain⟨v',_,_,Uq⟩:=iI (K'+1) cs hc (n+1) m (by omega) (by omega) [];obtain⟨p,⟨Vs,Vt⟩,pe⟩:=qk (K'+1) A hA Yr (by omega) v';have cp:∀h,bO (F (K'+2) .z_) [.int v',av A] h=.ok (J0 p) h:=fun h=>aZ h (by simp[aq,PV.pure,iF]) pe
 by_cases c3:κ<3
 ·have b3:decide (κ<3)=true:=decide_eq_true c3;have t5:=dK (v / 3 / 9) (by decide:(0:Int)<5);obtain⟨w,_,wm,wt⟩:=Vw [[119,111,114,100],[110,117,109,98,101,114],[113,117,111,116,101,100],[112,108,97,105,110],[108,105,110,101]] (v / 3 / 9 % 5) (by decide) t5.1 t5.2;simp only[List.map_cons,List.map_nil]at wt;refine⟨.place p w,n+1+1,⟨by rw[wN,Vs,wm];rfl,by rw[okN];exact Vt,Nat.zero_le _,qy _,Nat.zero_le _⟩,by omega,by omega,?_⟩;have np:nd (.place p w)=.tup [.str tP,J0 p,.str w]:=by rw[nd]
  simp only[EY,b5,b8,b0,ne,hs,d0,Uq,cp,b3,wt,np]
 have b3:decide (κ<3)=false:=decide_eq_false c3;obtain⟨e,rfl⟩:∃e,d=e+1:=⟨d - 1,by have:=k2;omega⟩
 have ec:cn (e+1)=6+2 * cg e:=rfl;have gc:gn (e+1)=1+2 * gg e:=rfl;have dd:((e+1:Nat):Int) - 1=(e:Int):=by omega
 by_cases c5:κ<5
 ·have W3:decide (κ<5)=true:=decide_eq_true c5;have TG:=dK (v / 3 / 9) (by decide:(0:Int)<12);obtain⟨x,xs,xi,_⟩:=wU hA.ml hA.m _ TG.1 TG.2;have t3:=dK (v / 3 / 9 / 12) (by decide:(0:Int)<3);obtain⟨w,_,wm,wt⟩:=Vw [[],[44,32],[10]] (v / 3 / 9 / 12 % 3) (by decide) t3.1 t3.2;simp only[List.map_cons,List.map_nil]at wt;obtain⟨l,n',g1,g2,g3,g4⟩:=gJ (ok e rfl) (K'+2) cs { A with ns:=A.ns++ [x] } (j+12) (n+1+1) m (by omega) hc (hA.more [x] (by simp[H_,xs]) (by simp)) (by omega) (by omega) (by omega) [];obtain⟨e1,e2,e3⟩:=g1.j6;have wi:∀h,bO (F (K'+2) .G5) [av A,.tup [.str x]] h=.ok (av { A with ns:=A.ns++ [x] }) h:=fun h=>aZ h (by simp[aq,iF,PV.pure]) (rh (K'+1) A [x] (by have:=hA.l;simp;omega));refine⟨.loop x p (H6 l) w,n',⟨by rw[wN,xs,Vs,e1,wm];rfl,by rw[okN,Vt];exact e2,by rw[dN];omega,by rw[Ls,kf,gc];have:=g1.c;omega,Nat.zero_le _⟩,by omega,by omega,?_⟩;have np:nd (.loop x p (H6 l) w)=.tup [.str tL,.str x,J0 p,.tup (l.map nd),.str w]:=by rw[nd,gv]
  simp only[EY,b5,b8,b0,ne,hs,d0,Uq,cp,b3,W3,xi,wi,dd,g4,wt,np]
 have W3:decide (κ<5)=false:=decide_eq_false c5;obtain⟨y,n2,g1,g2,g3,g4⟩:=gJ (ok e rfl) (K'+2) cs A j (n+1+1) m (by omega) hc hA (by omega) (by omega) (by omega) [];obtain⟨z,n3,f1,f2,f3,f4⟩:=gJ (ok e rfl) (K'+2) cs A j n2 m (by omega) hc hA (by omega) (by omega) (by omega) [];obtain⟨e1,e2,e3⟩:=g1.j6;obtain⟨u1,u2,u3⟩:=f1.j6;refine⟨.choice p (H6 y) (H6 z),n3,⟨by rw[wN,Vs,e1,u1];rfl,by rw[okN,Vt,e2,u2];rfl,by rw[dN];omega,by rw[Ls,kf,kf,gc];have:=g1.c;have:=f1.c;omega,Nat.zero_le _⟩,by omega,by omega,?_⟩;have np:nd (.choice p (H6 y) (H6 z))=.tup [.str tC,J0 p,.tup (y.map nd),.tup (z.map nd)]:=by rw[nd,gv,gv]
 simp only[EY,b5,b8,b0,ne,hs,d0,Uq,cp,b3,W3,dd,g4,f4,np]
theorem Rw.of{kn:Cx}{d:Nat}:∀{l:List Nd},(∀x∈l,NR kn d x)→Rw kn d (gn d * l.length) (4 * l.length) l
 |[],_=>⟨fun x hx=>(by cases hx),by simp[O6],by simp[Lw]⟩
 |n::r,h=>by
  have ih:=Rw.of fun x hx=>h x (List.mem_cons_of_mem _ hx);have hn:=h n List.mem_cons_self;have e1:O6 (n::r)=Ls n+1+O6 r:=by unfold O6;rw[List.map_cons,List.sum_cons]
  have e2:Lw (n::r)=O4 n+Lw r:=by unfold Lw;rw[List.map_cons,List.sum_cons]
  refine⟨fun x hx=>?_,?_,?_⟩
  ·rcases List.mem_cons.mp hx with q|q
   ·subst q;exact⟨hn.w,hn.u,hn.d⟩
   ·exact ih.w x q
  ·rw[e1,List.length_cons,Nat.mul_add];have:=ih.c;have:=hn.c;omega
  ·rw[e2,List.length_cons];have:=ih.t;have:=hn.t;omega
theorem qx(d:Nat)(hd:d≤4)(ok:∀e,e+1=d→lN e):lN d:=fun K cs A j n m hK hc hA hj h0 h1=>by
 obtain⟨K',rfl⟩:∃K',K=K'+2:=⟨K - 2,by omega⟩
 have c1:=Ft d;have g1:=JT d;obtain⟨v,v0,v1,ce⟩:=iI K' cs hc n m h0 (by omega) [];have t4:=dK (v / 5) (by decide:(0:Int)<4);generalize hr:v / 5 % 4=r at t4;have bc:Oh 4611686018427387904 r=true:=eN.mpr ⟨by omega,by omega⟩;have l3:((List.range r.toNat).map fun i=>PV.int (0+(i:Nat))).length<16777216:=by rw[List.length_map,List.length_range];omega
 have lr:(List.range r.toNat).length≤3:=by rw[List.length_range];omega
 have d0:∀(n:Int),am [I6 n m] (.ref 0)=.ref 0:=fun n=>rfl;have Ys:(0:Int)≤cn d:=by omega
 have cl:(cn d:Int) * ((List.range r.toNat).length:Nat)≤cn d * 3:=Int.mul_le_mul_of_nonneg_left (by omega) Ys
 obtain⟨ys,n',y0,y1,y2,y3,y4⟩:=tX (te:=lh (F (K'+1)) (L (K'+1))) (cp:=[some (cv cs),some (.ref 0),some (av A),some (.int d)]) (m:=m) (fun i:Nat=>PV.int (0+(i:Nat))) nd (NR (Qz A) d) (cn d) Ys 1900000 (List.range r.toNat) (n+1) (by omega) (by omega) fun i _ n h0 h1=>by obtain⟨x,n',a,b,c,e⟩:=wQ d ok K' cs A j n m (by omega) hc hA hj h0 h1;have cu:=bY (fn:=L (K'+1) .G9) [cv cs] [av A,.int d] (h:=[I6 n m]) (i:=0) (by rw[aq,kc];rfl) (by simp[aq,iF,PV.pure]) rfl (cA _ _) e (bz x) (cA _ _);simp only[List.cons_append,List.nil_append,List.set_cons_zero]at cu;exact⟨x,n',a,b,c,by simp only[EY,lh,d0,cu]⟩
 have R:=Rw.of y1;have hy:ys.length≤3:=by omega
 have hg:gn d * ys.length≤gn d * 3:=Nat.mul_le_mul_left _ hy;have R':Rw (Qz A) d (gg d) 12 ys:=R.mono (Nat.le_refl _) (by omega) (by omega);obtain⟨l,o1,o2⟩:=wM (Qz A) d (gg d) 12 K' (by omega) ((by decide:∀d≤4,gg d≤1000000) d hd) (by decide) false ys R';refine⟨l,n',o1,by omega,by omega,?_⟩;have co:∀h,bO (F (K'+1) .K4) [.lst (ys.map nd)] h=.ok (.tup (l.map nd)) h:=fun h=>aZ h (by simp[aq,PV.pure,bQ]) o2;have r2:L (K'+2) .t_ [cv cs,.ref 0,av A,.int d] [I6 n m]=match lM (F (K'+1)) (L (K'+1)) [some (cv cs),some (.ref 0),some (av A),some (.int d)] [I6 n m]with|.nx _ h1=>fV 1 .non h1|.rt v h1=>eU 1 v h1|_=>.bad:=rfl
 have cp:dg [0,1,2,3] [some (cv cs),some (.ref 0),some (av A),some (.int d)]=[some (cv cs),some (.ref 0),some (av A),some (.int d)]:=rfl;rw[r2];simp only[EY,lM,d0,ce,hr,bc,l3,cp,y4,co];exact tO (by rw[PV.pure];exact bQ l) (cA _ _)
theorem vy:∀d,d≤4→lN d:=by
 intro d
 induction d with
 |zero=>exact fun h=>qx 0 h fun e h=>by omega
 |succ d ih=>exact fun h=>qx (d+1) h fun e q=>by cases q;exact ih (by omega)
mutual
theorem Av{a b:List (List Nat)}(h:∀x∈a,x∈b):∀n:Nd,Mj a n=true→Mj b n=true
 |.loop _ _ c _,e=>by rw[Mj]at e ⊢;exact fY h c e
 |.choice _ y z,e=>by rw[Mj,Bool.and_eq_true]at e ⊢;exact⟨fY h y e.1,fY h z e.2⟩
 |.use x _,e=>by rw[Mj,List.contains_iff_mem]at e ⊢;exact h x e
 |.j8 x _ _ c,e=>by rw[Mj,Bool.and_eq_true,List.contains_iff_mem]at e ⊢;exact⟨h x e.1,fY h c e.2⟩
 |.text _,_=>rfl
 |.place _ _,_=>rfl
 |.body _,_=>rfl
theorem fY{a b:List (List Nat)}(h:∀x∈a,x∈b):∀c:w6,Mg a c=true→Mg b c=true
 |.nil,_=>rfl
 |.cons n r,e=>by rw[Mg,Bool.and_eq_true]at e ⊢;exact⟨Av h n e.1,fY h r e.2⟩
end
theorem sG(g:Nd→Nat)(f:Nd→Bool):∀l:List Nd,((l.filter f).map g).sum≤(l.map g).sum
 |[]=>Nat.le_refl _
 |a::r=>by
  have:=sG g f r;rw[List.filter_cons,List.map_cons,List.sum_cons]
  split
  ·rw[List.map_cons,List.sum_cons];omega
  ·omega
theorem Rw.filter{kn:Cx}{d c t:Nat}{l:List Nd}(h:Rw kn d c t l)(f:Nd→Bool):Rw kn d c t (l.filter f):=
 ⟨fun n hn=>h.w n (List.mem_filter.mp hn).1,Nat.le_trans (sG _ f l) h.c,Nat.le_trans (sG _ f l) h.t⟩
theorem Be(B:List Pc):(B.map LR).map (·.n)=B.map (·.n):=by rw[List.map_map];rfl
theorem vo{m:Option Int}{ns:List (List Nat)}(P:List Pe)(B:List Pc)(f:Nat):∀{l:List Nd},(∀n∈l,okN ([],m,ns) n=true∧dN n≤0)→(∀n∈l,okN (P,m,ns) n=true)∧∃r,cX B (f+1) (H6 l) .nil=some r
 |[],_=>⟨fun n hn=>(by cases hn),_,rfl⟩
 |n::r,h=>by
  obtain⟨a,r',b⟩:=vo P B f fun z hz=>h z (List.mem_cons_of_mem _ hz)
  have one:okN (P,m,ns) n=true∧Mh B (cX B f) .nil n=some (1,1):=by
   obtain⟨o,d⟩:=h n List.mem_cons_self
   cases n with
   |text s=>exact⟨rfl,rfl⟩
   |place p s=>exact⟨o,rfl⟩
   |body ps=>exact⟨o,rfl⟩
   |loop x p b t=>rw[dN]at d;omega
   |choice p y z=>rw[dN]at d;omega
   |j8 x ps hs b=>rw[dN]at d;omega
   |use x ps=>rw[okN,Bool.and_eq_true]at o;exact absurd o.2 (by simp[Mp,Qm])
  refine⟨fun z hz=>?_,?_⟩
  ·rcases List.mem_cons.mp hz with q|q
   ·subst q;exact one.1
   ·exact a z q
  ·have e2:cR (Mh B (cX B f) .nil) (H6 r)=some r':=b;show∃r',cR (Mh B (cX B f) .nil) (H6 (n::r))=some r';rw[H6,cR,one.2,e2];exact⟨_,rfl⟩
theorem BE{P:List Pe}{m:Option Int}{ns:List (List Nat)}{n:Nd}(h:okN (P,m,ns) n=true)(k:decide (kT n∈ [tT,tP,tB])=true):okN ([],m,ns) n=true∧dN n≤0:=by
 cases n with
 |text s=>exact⟨rfl,Nat.le_refl _⟩
 |place p s=>exact⟨h,Nat.le_refl _⟩
 |body ps=>exact⟨h,Nat.le_refl _⟩
 |loop x p b t=>exact absurd k (by rw[kT];decide)
 |choice p y z=>exact absurd k (by rw[kT];decide)
 |j8 x ps hs b=>exact absurd k (by rw[kT];decide)
 |use x ps=>exact absurd k (by rw[kT];decide)
theorem Hx(K:Nat)(hK:42≤K)(B:List Pc)(nm:List Nat)(ns:List (List Nat))(mm:Option Int)(l:List Nd)(lB:B.length≤100)(hB:∀q∈B,Mg (B.map (·.n)) q.b=true∧J8 q.b≤1000000){d c t:Nat}(hl:Rw (B.map LR,mm,ns) d c t l)(hd:d≤20)(hc:c≤1000000)(ht:t≤1000):
  ∃l',Rw (B.map LR,mm,ns) d c t l'∧(∃r,cX (B++ [⟨nm,ns,mm,H6 l'⟩]) 41 (H6 l') .nil=some r)∧L (K+1) .Lq [.ref 0,pc ⟨nm,ns,mm,H6 l⟩] [.lst (B.map pc)]=.ok (pc ⟨nm,ns,mm,H6 l'⟩) [.lst (B.map pc)]:=by
 have mo:∀x∈B.map (·.n),x∈(B++ [(⟨nm,ns,mm,H6 l⟩:Pc)]).map (·.n):=fun x hx=>by rw[List.map_append];exact List.mem_append_left _ hx
 obtain⟨e1,e2',e3⟩:=hl.j6;have e2:Mg (B.map (·.n)) (H6 l)=true:=by have:=mr _ _ e2';rw[Be]at this;exact this
 have ct:=kf l;have Tn:=hl.c
 obtain⟨left,g1,g2⟩:=EH false (B++ [⟨nm,ns,mm,H6 l⟩]) (by simp;omega) (fun q hq=>by
  rcases List.mem_append.mp hq with h|h
  ·exact⟨fY mo _ (hB q h).1,(hB q h).2⟩
  ·cases List.mem_singleton.mp h;exact⟨fY mo _ e2,by show J8 (H6 l)≤_;omega⟩) 40 (by decide) (H6 l) .nil B.length 500 K (fY mo _ e2) (by omega) rfl (by decide) (by omega)
 have g3:L K .C_ ([PN false (B++ [(⟨nm,ns,mm,H6 l⟩:Pc)]),.tup (j6 (H6 l)),.int B.length,.non,.int 1]++.ref 0:: []) [Lr 500]=.ok .non [Lr left]:=g2;have cl:=bY (fn:=L K .C_) [PN false (B++ [(⟨nm,ns,mm,H6 l⟩:Pc)]),.tup (j6 (H6 l)),.int B.length,.non,.int 1] [] (h:=[.lst (B.map pc),Lr 500]) (i:=1) (by simp[aq,vJ,PV.pure,bt]) rfl rfl (ng _) g3 rfl (ng _);simp only[List.cons_append,List.nil_append]at cl;have Vm:w7 (L K .C_) [.lst ((B++ [(⟨nm,ns,mm,H6 l⟩:Pc)]).map pc),.tup (j6 (H6 l)),.int B.length,.non,.int 1,.ref 1] [.lst (B.map pc),Lr 500]=.ok .non [.lst (B.map pc),Lr left]:=cl;have d0:∀(a:List PV) r,am (.lst a::r) (.ref 0)=.ref 0:=fun _ _=>rfl;have d1:∀(a:PO)(i:Int),am [a,Lr i] (.ref 1)=.ref 1:=fun _ _=>rfl;have i1:∀(a:PO)(i:Int),d7 (.ref 1) (.int 0) [a,Lr i]=.ok (.int i) [a,Lr i]:=fun _ _=>rfl;have ad:=Ig (h:=[.lst (B.map pc),Lr 500]) (i:=0) rfl [pc ⟨nm,ns,mm,H6 l⟩] (by rw[List.length_map];simp;omega);have Qp:aN (.ref 0) (.lst [pc ⟨nm,ns,mm,H6 l⟩]) [.lst (B.map pc),Lr 500]=.ok (.lst ((B++ [(⟨nm,ns,mm,H6 l⟩:Pc)]).map pc)) [.lst (B.map pc),Lr 500]:=by rw[ad,List.map_append];rfl
 have ln:dZ [.ref 0] [.lst (B.map pc),Lr 500]=.ok (.int B.length) [.lst (B.map pc),Lr 500]:=by show Res.ok (PV.int (B.map pc).length) _=_;rw[List.length_map]
 have mk:gu [.int 500] [.lst (B.map pc)]=.ok (.ref 1) [.lst (B.map pc),Lr 500]:=rfl;have r2:∀T,nB (F K) (L K) [some (.ref 0),some (pc ⟨nm,ns,mm,H6 l⟩),none] [.lst (B.map pc)]=T→L (K+1) .Lq [.ref 0,pc ⟨nm,ns,mm,H6 l⟩] [.lst (B.map pc)]=match T with|.nx _ h1=>fV 1 .non h1|.rt v h1=>eU 1 v h1|_=>.bad:=fun T e=>by subst e;rfl
 have fin:∀(q:Pc)(a:PO),eU 1 (pc q) [.lst (B.map pc),a]=.ok (pc q) [.lst (B.map pc)]:=fun q a=>by unfold eU;rw[gw _ (eJ q)];dsimp only;unfold fV;simp[aT,PO.pure,ju]
 cases c0:decide (left≥0)with
 |true=>refine⟨l,hl,g1.2.2 (of_decide_eq_true c0),?_⟩;rw[r2 _ rfl];simp only[EY,nB,mk,d0,d1,Qp,ln,Vm,i1,c0];exact fin _ _
 |false=>
  have fw:∀(ρ:Ev) h,cT (nI (F K)) (nW (F K)) (dg [] ρ) (j6 (H6 l)) h=.ok ((l.filter fun n=>decide (kT n∈ [tT,tP,tB])).map nd) h:=fun ρ h=>by
   rw[gv];refine qA nd _ nd l (fun n hn=>?_) fun n hn=>?_
   ·have it:=KH (x:=kT n) (ls:=[tT,tP,tB]) (kF (Ff n)) (by decide) h;simp only[List.map_cons,List.map_nil]at it;simp only[EY,nI,it]
   ·simp only[EY,nW]
  have ll:(j6 (H6 l)).length<16777216:=by have:=mX (H6 l);omega
  have hf:=hl.filter fun n=>decide (kT n∈ [tT,tP,tB])
  have hf':Rw ([],mm,ns) 0 c t (l.filter fun n=>decide (kT n∈ [tT,tP,tB])):=⟨fun n hn=>by have:=BE (hf.w n hn).2.1 (List.mem_filter.mp hn).2;exact⟨(hf.w n hn).1,this⟩,hf.c,hf.t⟩
  obtain⟨l',o1,o2⟩:=wM ([],mm,ns) 0 c t (K - 1) (by decide) hc ht false _ hf';obtain⟨p1,p2⟩:=vo (B.map LR) (B++ [⟨nm,ns,mm,H6 l'⟩]) 40 fun n hn=>(o1.w n hn).2;have o3:Rw (B.map LR,mm,ns) d c t l':=⟨fun n hn=>⟨(o1.w n hn).1,p1 n hn,Nat.le_trans (o1.w n hn).2.2 (Nat.zero_le _)⟩,o1.c,o1.t⟩
  have co:∀h,bO (F K .K4) [.lst ((l.filter fun n=>decide (kT n∈ [tT,tP,tB])).map nd)] h=.ok (.tup (l'.map nd)) h:=fun h=>aZ h (by simp[aq,PV.pure,bQ]) (by rw[show K=K - 1+1 by omega];exact o2)
  have sl:∀h,lR (pc ⟨nm,ns,mm,H6 l⟩) none (some 4) h=.ok (.tup [.str tI,.str nm,nms ns,v9 mm]) h:=fun h=>by unfold pc;exact FT _ 4 h
  have aa:∀h,aN (.tup [.str tI,.str nm,nms ns,v9 mm]) (.tup [.tup (l'.map nd)]) h=.ok (pc ⟨nm,ns,mm,H6 l'⟩) h:=fun h=>by rw[mF _ _ h (by simp;exact Nat.le_trans (by decide:5≤10) (by decide))];unfold pc;rw[gv];rfl
  refine⟨l',o3,p2,?_⟩;rw[r2 _ rfl];simp only[EY,nB,mk,d0,d1,Qp,ln,Vm,i1,c0,ll,fw,co,sl,aa];exact fin _ _
theorem lV{a b:Sx}{ρ:Ev}{h:List PO}{Q:SR→Prop}(ρ1:Ev)(h1:List PO)(e:a ρ h=.nx ρ1 h1)(k:Q (b ρ1 h1)):Q (aB a b ρ h):=by rw[eK,e];exact k
theorem AF{α:Type}{a b:Sx}{ρ:Ev}{h:List PO}{Q:SR→Prop}(f:α→Ev)(g:α→List PO)(R:α→Prop)(e:∃x,R x∧a ρ h=.nx (f x) (g x))(k:∀x,R x→Q (b (f x) (g x))):Q (aB a b ρ h):=by obtain⟨x,hx,e⟩:=e;exact lV _ _ e (k x hx)
theorem IS{l:List (List Nat)}(h:l.Nodup){i j:Nat}(hi:i<l.length)(hj:j<l.length)(e:i≠j):l.getD i []≠l.getD j []:=by
 rw[List.Nodup,List.pairwise_iff_getElem]at h;rw[List.getD_eq_getElem?_getD,List.getD_eq_getElem?_getD,List.getElem?_eq_getElem hi,List.getElem?_eq_getElem hj];rcases Nat.lt_or_ge i j with q|q
 ·exact h i j hi hj q
 ·exact fun z=>h j i hj hi (by omega) z.symm
theorem GI{ms:List (List Nat)}(hl:ms.length=12)(i:Int)(h:List PO):d7 (KZ ms) (.int (i % 12)) h=.ok (.str (ms.getD (i % 12).toNat [])) h:=by
 have hi:(i % 12).toNat<ms.length:=by omega
 unfold KZ;rw[yh,fF (v:=PV.str (ms.getD (i % 12).toNat [])) (by omega) (by rw[List.getElem?_map,List.getD_eq_getElem?_getD,List.getElem?_eq_getElem hi];rfl)];rfl
theorem Iq(k:Nat)(hk:k<8):sg (Oi.getD k [])=true∧Oi.getD k []∈Oi.take (k+1)∧Oi.getD k []∉Oi.take k:=(by decide:∀k<8,sg (Oi.getD k [])=true∧Oi.getD k []∈Oi.take (k+1)∧Oi.getD k []∉Oi.take k) k hk
theorem BX:∀(E r:List Pc),Mi E r=true→∀q∈r,Mg ((E++r).map (·.n)) q.b=true
 |_,[],_,q,hq=>by cases hq
 |E,p::r,h,q,hq=>by
  rw[Mi,Bool.and_eq_true,Bool.and_eq_true,Bool.and_eq_true]at h;rcases List.mem_cons.mp hq with z|z
  ·subst z;have:=mr _ _ h.2.2.1;rw[Be]at this;exact fY (fun x hx=>by rw[List.map_append];exact List.mem_append_left _ hx) _ this
  ·have:=BX (E++ [p]) r h.2.2.2 q z;rw[List.append_assoc]at this;exact this
noncomputable def RL(ms:List (List Nat))(v:Int):List (List Nat):=(List.range (v % 5).toNat).map fun(i:Nat)=>ms.getD ((v / 5+(i:Int)) % 12).toNat []
theorem Gw{ms:List (List Nat)}(hl:ms.length=12)(h:ms.Nodup)(v:Int):dup (RL ms v)=false:=by rw[jZ];unfold RL List.Nodup;rw[List.pairwise_map];refine List.Pairwise.imp_of_mem (R:=fun a b=>a<b) ?_ List.pairwise_lt_range;intro i j hi hj SJ;have:=List.mem_range.mp hi;have:=List.mem_range.mp hj;exact IS h (by omega) (by omega) (by omega)
structure BI(ms:List (List Nat))(many:Int)(k:Nat)(n:Int)(B:List Pc)(P:List Pe):Prop where
 lB:B.length=k
 nm:P=B.map LR
 pe:∀p∈P,sg p.n=true∧p.m≤4∧hO p.h
 gb:∀q∈B,wC q=true∧dS q.b≤4∧J8 q.b≤10000
 ok:Mi [] B=true
 nd:(B.map (·.n)).Nodup
 wn:∀q∈B,q.n∈ms∨q.n∈Oi.take k
 cx:∀E q,B=E++ [q]→∃r,cX B 41 q.b .nil=some r
 lm:∀E q,B=E++ [q]→many≤k→q.m=none
 n0:0≤n
 n1:n≤1+60000 * k
abbrev hB(n m:Int)(B:List Pc)(P:List Pe):List PO:=[I6 n m,.lst (B.map pc),.lst (P.map J9)]
abbrev gE(cs:List Int)(ms:List (List Nat))(many:Int)(x6 x7 x8 x9 O9 NQ M8:Option PV):Ev:=[some (cv cs),some (.ref 0),some (KZ ms),some (.ref 1),some (.ref 2),some (.int many),x6,x7,x8,x9,O9,NQ,M8]
def GQ(cs:List Int)(ms:List (List Nat))(many:Int)(k:Nat)(R:SR):Prop:=∃n m B P y7 y8 y9 TF Qu Qt,BI ms many (k+1) n B P∧R=.nx (gE cs ms many (some (.int (0+(k:Nat)))) y7 y8 y9 TF Qu Qt) (hB n m B P)
theorem zS(K:Nat)(hK:43≤K)(cs:List Int)(hc:cs.length≤63)(ms:List (List Nat))(ml:ms.length=12)(hm:H_ ms=true)(md:ms.Nodup)(mw:∀x∈ms,QZ x)(many:Int)(k:Nat)(hk:k<8)(n m:Int)(B:List Pc)(P:List Pe)(I:BI ms many k n B P)(x7 x8 x9 O9 NQ M8:Option PV):
  GQ cs ms many k (fJ (F K) (L K) (gE cs ms many (some (.int (0+(k:Nat)))) x7 x8 x9 O9 NQ M8) (hB n m B P)):=by
 have lB:=I.lB;have lP:P.length=k:=by rw[I.nm,List.length_map];exact lB
 have nP:P.map (·.n)=B.map (·.n):=by rw[I.nm,Be]
 have n0:=I.n0;have n1:=I.n1;have d0:∀n m B P,am (hB n m B P) (.ref 0)=.ref 0:=fun _ _ _ _=>rfl;have d1:∀n m B P,am (hB n m B P) (.ref 1)=.ref 1:=fun _ _ _ _=>rfl;have d2:∀n m B P,am (hB n m B P) (.ref 2)=.ref 2:=fun _ _ _ _=>rfl;obtain⟨K',rfl⟩:∃K',K=K'+1:=⟨K - 1,by omega⟩
 obtain⟨v,v0,v1,ce⟩:=iI K' cs hc n m n0 (by omega) [.lst (B.map pc),.lst (P.map J9)];unfold fJ;refine lV _ _ (by simp only[EY,d0,ce];rfl) ?_;have t5:=dK v (by decide:(0:Int)<5);have bc:Oh 4611686018427387904 (v % 5)=true:=eN.mpr ⟨by omega,by omega⟩;have l3:((List.range (v % 5).toNat).map fun i=>PV.int (0+(i:Nat))).length<16777216:=by rw[List.length_map,List.length_range];omega
 have g2:cT dD (im (F (K'+1))) [some (KZ ms),some (.int v)] ((List.range (v % 5).toNat).map fun i=>PV.int (0+(i:Nat))) (hB (n+1) m B P)=.ok ((RL ms v).map PV.str) (hB (n+1) m B P):=by unfold RL;rw[List.map_map];refine tx (fun i=>PV.int (0+(i:Nat))) _ (List.range (v % 5).toNat) fun i _=>?_;have e0:(0:Int)+(i:Nat)=(i:Nat):=Int.zero_add _;have l2:=GI ml (v / 5+(i:Nat));simp only[EY,im,e0,l2];rfl
 have g0:(RL ms v).length=(v % 5).toNat:=by unfold RL;rw[List.length_map,List.length_range]
 have Rr:H_ (RL ms v)=true:=List.all_eq_true.mpr fun x hx=>by obtain⟨i,_,rfl⟩:=List.mem_map.mp hx;exact List.all_eq_true.mp hm _ (iP (by omega))
 have Nb:=Gw ml md v;generalize RL ms v=ns at g2 g0 Rr Nb;have cp:∀a b c d e f g h i j k,dg [2,7] [a,b,some (KZ ms),c,d,e,f,some (.int v),g,h,i,j,k]=[some (KZ ms),some (.int v)]:=fun _ _ _ _ _ _ _ _ _ _ _=>rfl;refine lV (gE cs ms many (some (.int (0+(k:Nat)))) (some (.int v)) (some (nms ns)) x9 O9 NQ M8) (hB (n+1) m B P) (by simp only[EY,bc,l3,cp,g2];rfl) ?_;refine lV _ _ (by simp only[EY,if_true];rfl) ?_;refine AF (fun hd=>(gE cs ms many (some (.int (0+(k:Nat)))) (some (.int v)) (some (nms ns)) (some (v9 hd)) O9 NQ M8)) (fun _=>hB (n+1) m B P) (fun hd=>hO hd∧(many≤k+1→hd=none)) ?_ fun hd hh'=>?_
 ·have t4:=dK (v / 180) (by decide:(0:Int)<4)
  cases c1:decide (v / 60 % 3>0)with
  |false=>exact⟨none,⟨trivial,fun _=>rfl⟩,by simp only[EY,c1,v9]⟩
  |true=>
   cases c2:decide (0+((k:Nat):Int)<many - 1)with
   |false=>exact⟨none,⟨trivial,fun _=>rfl⟩,by simp only[EY,c1,c2,v9]⟩
   |true=>exact⟨some (v / 180 % 4),⟨⟨t4.1,by omega⟩,fun z=>by have:=of_decide_eq_true c2;omega⟩,by simp only[EY,c1,c2,v9]⟩
 obtain⟨hh,Ub⟩:=hh';have pl:xS [.ref 2] (hB (n+1) m B P)=.ok (.lst (P.map J9)) (hB (n+1) m B P):=rfl;have dm:∀h,am h (v9 hd)=v9 hd:=fun h=>iO h hd
 refine lV (gE cs ms many (some (.int (0+(k:Nat)))) (some (.int v)) (some (nms ns)) (some (v9 hd)) (some (av ⟨ns,P,hd,ms⟩)) NQ M8) (hB (n+1) m B P) (by simp only[EY,Cz,og,qv,d2,pl,dm];rfl) ?_
 obtain⟨m2,hm2⟩:∃m2:Int,∀ ρ,jg (.int m2) (.ref 0) (.int 1) ρ (hB (n+1) m B P)=.nx ρ (hB (n+1) m2 B P)∧m2=n+1+30 - 12 * (if decide (many>5)=true then 1 else 0):=⟨_,fun ρ=>⟨rfl,rfl⟩⟩
 have i0:∀n m B P,d7 (.ref 0) (.int 0) (hB n m B P)=.ok (.int n) (hB n m B P):=fun _ _ _ _=>rfl
 refine lV (gE cs ms many (some (.int (0+(k:Nat)))) (some (.int v)) (some (nms ns)) (some (v9 hd)) (some (av ⟨ns,P,hd,ms⟩)) NQ M8) (hB (n+1) m2 B P) (by have:=(hm2 []).2;simp only[EY,d0,i0,← this,fun ρ=>(hm2 ρ).1]) ?_
 have hA:Q6 4 ⟨ns,P,hd,ms⟩:=⟨Rr,by show ns.length≤4;omega,by show P.length≤1000;omega,I.pe,hh,ml,hm,md,by show(P.map (·.n)).Nodup;rw[nP];exact I.nd⟩
 have c4:cg 4=29545:=rfl;have g4:gg 4=4665:=rfl;obtain⟨l1,n2,a1,a2,a3,a4⟩:=gJ (vy 4 (Nat.le_refl _)) (K'+1) cs ⟨ns,P,hd,ms⟩ 4 (n+1) m2 (by omega) hc hA (by decide) (by omega) (by omega) [.lst (B.map pc),.lst (P.map J9)];have a4':w7 (L (K'+1) .t_) [cv cs,.ref 0,av ⟨ns,P,hd,ms⟩,.int 4] (hB (n+1) m2 B P)=.ok (.tup (l1.map nd)) (hB n2 m2 B P):=a4;refine lV _ _ (by simp only[EY,d0,a4'];rfl) ?_;have a1':Rw (P,hd,ns) 4 9330 24 l1:=a1.mono (Nat.le_refl _) (by omega) (by omega);refine AF (fun(x:List Nd×Int)=>(gE cs ms many (some (.int (0+(k:Nat)))) (some (.int v)) (some (nms ns)) (some (v9 hd)) (some (av ⟨ns,P,hd,ms⟩)) (some (.tup (x.1.map nd))) M8)) (fun x=>hB x.2 m2 B P) (fun x=>Rw (P,hd,ns) 4 9330 24 x.1∧n≤x.2∧x.2≤n+59999) ?_ fun x hx=>?_
 ·obtain⟨l2,n3,b1,b2,b3,b4⟩:=gJ (vy 4 (Nat.le_refl _)) (K'+1) cs ⟨ns,P,hd,ms⟩ 4 n2 m2 (by omega) hc hA (by decide) (by omega) (by omega) [.lst (B.map pc),.lst (P.map J9)];have Yw:w7 (L (K'+1) .t_) [cv cs,.ref 0,av ⟨ns,P,hd,ms⟩,.int 4] (hB n2 m2 B P)=.ok (.tup (l2.map nd)) (hB n3 m2 B P):=b4;have en:=yv (yu fun z hz=>⟨(a1.w z hz).1,Nat.le_trans (a1.w z hz).2.2 (by decide)⟩) (hB n2 m2 B P);have la:=ud l1;have lb:=ud l2;have ac:=a1.c;have bc:=b1.c
  have ad:∀h,aN (.tup (l1.map nd)) (.tup (l2.map nd)) h=.ok (.tup ((l1++l2).map nd)) h:=fun h=>by rw[mF _ _ h (by rw[List.length_map,List.length_map];exact Nat.le_trans (by omega:_≤10000) (by decide)),List.map_append]
  have Yx:Rw (P,hd,ns) 4 9330 24 (l1++l2):=(a1.app b1).mono (Nat.le_refl _) (by omega) (by omega)
  cases c1:(l1.map nd).isEmpty with
  |true=>exact⟨(l1++l2,n3),⟨Yx,by dsimp only;omega,by dsimp only;omega⟩,by simp only[EY,en,c1,d0,Yw,ad]⟩
  |false=>
   cases c2:decide (v / 720 % 3=1)with
   |true=>exact⟨(l1++l2,n3),⟨Yx,by dsimp only;omega,by dsimp only;omega⟩,by simp only[EY,en,c1,c2,d0,Yw,ad]⟩
   |false=>exact⟨(l1,n2),⟨a1',by dsimp only;omega,by dsimp only;omega⟩,by simp only[EY,en,c1,c2]⟩
 obtain⟨l,n3⟩:=x;obtain⟨hl,hn3,hn4⟩:=hx;dsimp only at hl hn3 hn4 ⊢;have TG:=dK (v / 2160+(0+((k:Nat):Int))) (by decide:(0:Int)<12);obtain⟨nm,Xz,Zk,Zj⟩:=wU ml hm _ TG.1 TG.2;refine lV _ _ (by simp only[EY,Zk];rfl) ?_
 have sP:∀x∈P.map (·.n),∀c∈x,c<1114112:=fun x hx=>by obtain⟨p,hp,rfl⟩:=List.mem_map.mp hx;exact kF (I.pe p hp).1
 have lq:(P.map J9).length<16777216:=by rw[List.length_map];exact Nat.lt_of_le_of_lt (by omega:_≤10) (by decide)
 have cq:∀(te:Ex)(ρ:Ev)(x:List Nat),(∀p∈P,te [some (J9 p)] []=.ok (.str p.n) [])→ρ[4]? =some (some (.ref 2))→ρ[12]? =some (some (.str x))→sg x=true→tQ 4 (aI (c2 PB (ai 12) (cN N6 (dI [] abh dD te)))) ρ (hB n3 m2 B P)=.ok (decide (x∈P.map (·.n))) (hB n3 m2 B P):=fun te ρ x ht hr hx sx=>by
  have l4:4<ρ.length:=(List.getElem?_eq_some_iff.mp hr).1
  have v4:ai 4 ((ρ.map oy).set 4 (some (.lst (P.map J9)))) []=.ok (.lst (P.map J9)) []:=by unfold ai;rw[List.getElem?_set_self (by simpa using l4)];rfl
  have YM:ai 12 ((ρ.map oy).set 4 (some (.lst (P.map J9)))) []=.ok (.str x) []:=by unfold ai;rw[List.getElem?_set_ne (by decide),List.getElem?_map,hx];rfl
  have cm:cT dD te (dg [] ((ρ.map oy).set 4 (some (.lst (P.map J9))))) (P.map J9) []=.ok ((P.map (·.n)).map PV.str) []:=by rw[List.map_map];exact tx J9 _ P ht
  have q:aI (c2 PB (ai 12) (cN N6 (dI [] abh dD te))) ((ρ.map oy).set 4 (some (.lst (P.map J9)))) []=.ok (decide (x∈P.map (·.n))) []:=by simp only[EY,YM,v4,xI,lq,cm,JN (kF sx) sP []]
  unfold tQ;rw[hr];show(if aq (P.map J9)=true then(match aI (c2 PB (ai 12) (cN N6 (dI [] abh dD te))) ((ρ.map oy).set 4 (some (.lst (P.map J9)))) []with|.ok b []=>Res.ok b (hB n3 m2 B P)|_=>Res.bad)else Res.bad)=_;rw[if_pos (lI P),q]
 have e2:∀p:Pe,ik (F (K'+1)) [some (J9 p)] []=.ok (.str p.n) []:=fun p=>rfl;have e3:∀p:Pe,ij (F (K'+1)) [some (J9 p)] []=.ok (.str p.n) []:=fun p=>rfl;refine AF (fun x=>(gE cs ms many (some (.int (0+(k:Nat)))) (some (.int v)) (some (nms ns)) (some (v9 hd)) (some (av ⟨ns,P,hd,ms⟩)) (some (.tup (l.map nd))) (some (.str x)))) (fun _=>hB n3 m2 B P) (fun x=>sg x=true∧x∉P.map (·.n)∧(x∈ms∨x∈Oi.take (k+1))) ?_ fun y hx=>?_
 ·have c2:=cq (ik (F (K'+1))) (gE cs ms many (some (.int (0+(k:Nat)))) (some (.int v)) (some (nms ns)) (some (v9 hd)) (some (av ⟨ns,P,hd,ms⟩)) (some (.tup (l.map nd))) (some (.str nm))) nm (fun p _=>e2 p) rfl rfl Xz
  by_cases z:nm∈P.map (·.n)
  ·rw[decide_eq_true z]at c2
   have w3:LQ [PV.str [102,105,114,115,116],.str [115,101,99,111,110,100],.str [116,104,105,114,100],.str [102,111,117,114,116,104],.str [102,105,102,116,104],.str [115,105,120,116,104],.str [115,101,118,101,110,116,104],.str [101,105,103,104,116,104]] (0+((k:Nat):Int))=some (.str (Oi.getD k [])):=by rcases(show k=0∨k=1∨k=2∨k=3∨k=4∨k=5∨k=6∨k=7 by omega)with q|q|q|q|q|q|q|q<;>rw[q]<;>rfl
   obtain⟨w1,w2,w4⟩:=Iq k hk;refine⟨Oi.getD k [],⟨w1,fun y=>?_,.inr w2⟩,by simp only[EY,c2,w3]⟩;rw[nP]at y;obtain⟨q,hq,e⟩:=List.mem_map.mp y;rcases I.wn q hq with h|h
   ·rw[e]at h;exact mw _ h (List.mem_of_mem_take w2)
   ·rw[e]at h;exact w4 h
  ·rw[decide_eq_false z]at c2;exact⟨nm,⟨Xz,z,.inl Zj⟩,by simp only[EY,c2]⟩
 obtain⟨hy,Yd,hyw⟩:=hx
 refine lV (gE cs ms many (some (.int (0+(k:Nat)))) (some (.int v)) (some (nms ns)) (some (v9 hd)) (some (av ⟨ns,P,hd,ms⟩)) (some (.tup (l.map nd))) (some (.str y))) (hB n3 m2 B P) (by have c2:=cq (ij (F (K'+1))) (gE cs ms many (some (.int (0+(k:Nat)))) (some (.int v)) (some (nms ns)) (some (v9 hd)) (some (av ⟨ns,P,hd,ms⟩)) (some (.tup (l.map nd))) (some (.str y))) y (fun p _=>e3 p) rfl rfl hy;rw[decide_eq_false Yd]at c2;simp only[EY,c2]) ?_
 rw[I.nm]at hl;obtain⟨lo,o1,o2⟩:=wM (B.map LR,hd,ns) 4 9330 24 K' (by decide) (by decide) (by decide) true l hl;have co:∀h,bO (F (K'+1) .K4) [.tup (l.map nd)] h=.ok (.tup (lo.map nd)) h:=fun h=>aZ h (by simp[aq,PV.pure,bQ]) o2;obtain⟨lf,f1,fx,f2⟩:=Hx K' (by omega) B y ns hd lo (by omega) (fun q hq=>⟨BX [] B I.ok q hq,by have:=(I.gb q hq).2.2;omega⟩) o1 (by decide) (by decide) (by decide);have cf:=bY (fn:=L (K'+1) .Lq) [] [pc ⟨y,ns,hd,H6 lo⟩] (h:=hB n3 m2 B P) (i:=1) rfl (by rw[aq,eJ];rfl) rfl (by simp[PO.pure,ju]) f2 (eJ _) (by simp[PO.pure,ju])
 have cf':w7 (L (K'+1) .Lq) [.ref 1,.tup [.str tI,.str y,nms ns,v9 hd,.tup (lo.map nd)]] (hB n3 m2 B P)=.ok (pc ⟨y,ns,hd,H6 lf⟩) (hB n3 m2 B P):=by rw[← gv lo];exact cf
 have i1:fB (hB n3 m2 B P) (.ref 1)=true:=rfl
 have ap:bU (.ref 1) [pc ⟨y,ns,hd,H6 lf⟩] (hB n3 m2 B P)=.ok .non (hB n3 m2 (B++ [⟨y,ns,hd,H6 lf⟩]) P):=by rw[FC (h:=hB n3 m2 B P) (i:=1) (acc:=B.map pc) rfl _ (by rw[List.length_map];omega)];show Res.ok PV.non [I6 n3 m2,.lst (B.map pc++ [pc ⟨y,ns,hd,H6 lf⟩]),.lst (P.map J9)]=_;rw[show B.map pc++ [pc ⟨y,ns,hd,H6 lf⟩]=(B++ [(⟨y,ns,hd,H6 lf⟩:Pc)]).map pc by rw[List.map_append];rfl]
 refine lV (gE cs ms many (some (.int (0+(k:Nat)))) (some (.int v)) (some (nms ns)) (some (v9 hd)) (some (av ⟨ns,P,hd,ms⟩)) (some (.tup (l.map nd))) (some (.str y))) (hB n3 m2 (B++ [⟨y,ns,hd,H6 lf⟩]) P) (by simp only[EY,d1,i1,dm,co,cf',ap]) ?_
 have i2:fB (hB n3 m2 (B++ [⟨y,ns,hd,H6 lf⟩]) P) (.ref 2)=true:=rfl
 have ap2:bU (.ref 2) [J9 ⟨y,ns.length,hd⟩] (hB n3 m2 (B++ [⟨y,ns,hd,H6 lf⟩]) P)=.ok .non (hB n3 m2 (B++ [⟨y,ns,hd,H6 lf⟩]) (P++ [⟨y,ns.length,hd⟩])):=by rw[FC (h:=hB n3 m2 (B++ [(⟨y,ns,hd,H6 lf⟩:Pc)]) P) (i:=2) (acc:=P.map J9) rfl _ (by rw[List.length_map];omega)];show Res.ok PV.non [I6 n3 m2,_,.lst (P.map J9++ [J9 ⟨y,ns.length,hd⟩])]=_;rw[show P.map J9++ [J9 ⟨y,ns.length,hd⟩]=(P++ [(⟨y,ns.length,hd⟩:Pe)]).map J9 by rw[List.map_append];rfl]
 have W6:bU (.ref 2) [.tup [.str y,.int ns.length,v9 hd]] (hB n3 m2 (B++ [⟨y,ns,hd,H6 lf⟩]) P)=.ok .non (hB n3 m2 (B++ [⟨y,ns,hd,H6 lf⟩]) (P++ [⟨y,ns.length,hd⟩])):=ap2;obtain⟨f5,f6,f7⟩:=f1.j6;have fc:=f1.c;have fs:=kf lf;have yB:y∉B.map (·.n):=fun z=>Yd (by rw[nP];exact z);have sn:∀{E:List Pc}{q:Pc},B++ [(⟨y,ns,hd,H6 lf⟩:Pc)]=E++ [q]→q=⟨y,ns,hd,H6 lf⟩:=fun e=>(List.singleton_inj.mp (List.append_inj_right' e rfl)).symm
 refine⟨n3,m2,B++ [⟨y,ns,hd,H6 lf⟩],P++ [⟨y,ns.length,hd⟩],_,_,_,_,_,_,⟨by rw[List.length_append,lB];rfl,by rw[I.nm,List.map_append];rfl,fun p hp=>?_,fun q hq=>?_,vb ⟨y,ns,hd,H6 lf⟩ B [] I.ok yB Nb f6,?_,fun q hq=>?_,fun E q e=>?_,fun E q e h=>?_,by omega,by omega⟩,by simp only[EY,d2,i2,dm,W6];rfl⟩
 ·rcases List.mem_append.mp hp with z|z
  ·exact I.pe p z
  ·cases List.mem_singleton.mp z;exact⟨hy,by show ns.length≤4;omega,hh⟩
 ·rcases List.mem_append.mp hq with z|z
  ·exact I.gb q z
  ·cases List.mem_singleton.mp z
   refine⟨?_,f7,by show J8 (H6 lf)≤_;omega⟩;simp only[wC,hy,Rr,f5,Bool.true_and,Bool.and_eq_true,decide_eq_true_eq];omega
 ·rw[List.map_append];exact List.nodup_append.mpr ⟨I.nd,by simp,fun a ha b hb e=>by subst e;rw[List.map_cons,List.map_nil,List.mem_singleton]at hb;subst hb;exact yB ha⟩
 ·rcases List.mem_append.mp hq with z|z
  ·exact(I.wn q z).imp id fun h=>by rw[List.take_succ];exact List.mem_append_left _ h
  ·cases List.mem_singleton.mp z;exact hyw
 ·rw[sn e];exact fx
 ·rw[sn e];exact Ub (by omega)
theorem rO(K:Nat)(hK:43≤K)(cs:List Int)(hc:cs.length≤63)(ms:List (List Nat))(ml:ms.length=12)(hm:H_ ms=true)(md:ms.Nodup)(mw:∀x∈ms,QZ x)(many:Int):∀(r s:Nat),s+r≤8→∀(n m:Int)(B:List Pc)(P:List Pe)(x6 x7 x8 x9 O9 NQ M8:Option PV),BI ms many s n B P→
  ∃n' m' B' P' ρ',BI ms many (s+r) n' B' P'∧aR (D_ 6) (fJ (F K) (L K)) ((List.range' s r).map fun i=>PV.int (0+(i:Nat))) (gE cs ms many x6 x7 x8 x9 O9 NQ M8) (hB n m B P)=.nx ρ' (hB n' m' B' P')∧ρ'[3]? =some (some (.ref 1))
 |0,s,_,n,m,B,P,x6,x7,x8,x9,O9,NQ,M8,I=>⟨n,m,B,P,_,I,by rw[List.range',List.map_nil,aR],rfl⟩
 |r+1,s,hs,n,m,B,P,x6,x7,x8,x9,O9,NQ,M8,I=>by obtain⟨n1,m1,B1,P1,y7,y8,y9,TF,Qu,Qt,I1,e⟩:=zS K hK cs hc ms ml hm md mw many s (by omega) n m B P I x7 x8 x9 O9 NQ M8;obtain⟨n2,m2,B2,P2,ρ2,I2,e2,e3⟩:=rO K hK cs hc ms ml hm md mw many r (s+1) (by omega) n1 m1 B1 P1 (some (.int (0+(s:Nat)))) y7 y8 y9 TF Qu Qt I1;refine⟨n2,m2,B2,P2,ρ2,by rw[show s+(r+1)=s+1+r by omega];exact I2,?_,e3⟩;rw[List.range'_succ,List.map_cons];exact Eq.trans (cI rfl e) e2
theorem Eo(K:Nat)(hK:43≤K)(cs:List Int)(hc:cs.length≤63)(ms:List (List Nat))(ml:ms.length=12)(hm:H_ ms=true)(md:ms.Nodup)(mw:∀x∈ms,QZ x):
  ∃B n m,1≤B.length∧B.length≤8∧(∀q∈B,wC q=true∧dS q.b≤4∧J8 q.b≤10000)∧Mi [] B=true∧((B.map (·.n)).Nodup∧∀q∈B,q.ns.length≤4∧hO q.m)∧(∀E q,B=E++ [q]→q.m=none∧∃r,cX B 41 q.b .nil=some r)∧L (K+1) .u_ [cv cs,.ref 0,KZ ms] [I6 0 30]=.ok (bk B) [I6 n m]:=by
 obtain⟨K',rfl⟩:∃K',K=K'+1:=⟨K - 1,by omega⟩
 obtain⟨v,v0,v1,ce⟩:=iI K' cs hc 0 30 (by decide) (by decide) [.lst [],.lst []];have t8:=dK (v / 7) (by decide:(0:Int)<8)
 obtain⟨c,c1,c8,ec⟩:∃c:Nat,1≤c∧c≤8∧LQ [PV.int 1,.int 2,.int 3,.int 4,.int 5,.int 3,.int 4,.int 8] (v / 7 % 8)=some (.int (c:Nat)):=by
  rcases(show v / 7 % 8=0∨v / 7 % 8=1∨v / 7 % 8=2∨v / 7 % 8=3∨v / 7 % 8=4∨v / 7 % 8=5∨v / 7 % 8=6∨v / 7 % 8=7 by omega)with q|q|q|q|q|q|q|q<;>rw[q]
  ·exact⟨1,by decide,by decide,rfl⟩
  ·exact⟨2,by decide,by decide,rfl⟩
  ·exact⟨3,by decide,by decide,rfl⟩
  ·exact⟨4,by decide,by decide,rfl⟩
  ·exact⟨5,by decide,by decide,rfl⟩
  ·exact⟨3,by decide,by decide,rfl⟩
  ·exact⟨4,by decide,by decide,rfl⟩
  ·exact⟨8,by decide,by decide,rfl⟩
 obtain⟨n',m',B,P,ρ',I,e,e3⟩:=rO (K'+1) hK cs hc ms ml hm md mw c c 0 (by omega) 1 30 [] [] none none none none none none none ⟨rfl,rfl,fun p hp=>(by cases hp),fun q hq=>(by cases hq),rfl,List.nodup_nil,fun q hq=>(by cases hq),fun E q e=>(by simp at e),fun E q e=>(by simp at e),by decide,by decide⟩;rw[Nat.zero_add]at I;refine⟨B,n',m',by rw[I.lB];exact c1,by rw[I.lB];exact c8,I.gb,I.ok,⟨I.nd,fun q hq=>by have:=I.pe (LR q) (by rw[I.nm];exact List.mem_map.mpr ⟨q,hq,rfl⟩);exact this.2⟩,fun E q e=>⟨I.lm E q e (Int.le_refl _),I.cx E q e⟩,?_⟩;have r2:L (K'+1+1) .u_ [cv cs,.ref 0,KZ ms] [I6 0 30]=match gQ (F (K'+1)) (L (K'+1)) [some (cv cs),some (.ref 0),some (KZ ms),none,none,none,none,none,none,none,none,none,none] [I6 0 30]with|.nx _ h1=>fV 1 .non h1|.rt v h1=>eU 1 v h1|_=>.bad:=rfl
 have d0:∀n m B P,am (hB n m B P) (.ref 0)=.ref 0:=fun _ _ _ _=>rfl;have s3:aO 3 (cN gu au) [some (cv cs),some (.ref 0),some (KZ ms),none,none,none,none,none,none,none,none,none,none] [I6 0 30]=.nx [some (cv cs),some (.ref 0),some (KZ ms),some (.ref 1),none,none,none,none,none,none,none,none,none] [I6 0 30,.lst []]:=rfl;have s4:aO 4 (cN gu au) [some (cv cs),some (.ref 0),some (KZ ms),some (.ref 1),none,none,none,none,none,none,none,none,none] [I6 0 30,.lst []]=.nx [some (cv cs),some (.ref 0),some (KZ ms),some (.ref 1),some (.ref 2),none,none,none,none,none,none,none,none] (hB 0 30 [] []):=rfl;have bc:Oh 4611686018427387904 ((c:Nat):Int)=true:=eN.mpr ⟨by omega,by omega⟩;have rg:(List.range ((c:Nat):Int).toNat)=List.range' 0 c:=by rw[Int.toNat_natCast,List.range_eq_range']
 have Uq:w7 (L (K'+1) .G3) [cv cs,.ref 0] (hB 0 30 [] [])=.ok (.int v) (hB 1 30 [] []):=ce;rw[r2];unfold gQ;rw[eK,s3];dsimp only;rw[eK,s4];dsimp only;simp only[EY,Hz,d0,Uq,ec,bc,rg,e,e3];show eU 1 (bk B) (hB n' m' B P)=_;unfold eU;rw[gw _ (eh B)];rfl
structure VR(B:List Pc)(f:Nat)(hd:Hd)(s:Sz)(c d:Nat):Prop where
 n0:0≤s.2.2.1
 n1:0≤s.2.2.2
 a:s.2.2.1=0∨hd=.nil→(c:Int)=s.1∧(d:Int)=s.2.1
 b:s.2.2.1≠0→∀b' i h',hd=.cons b' i h'→∃m e:Nat,cX B f b' h'=some (m,e)∧(c:Int)=s.1+s.2.2.1 * m∧(d:Int)=max s.2.1 (s.2.2.2+e)
 z:s.2.2.1=0→s.2.2.2=0
theorem VR.mono{B:List Pc}{f:Nat}{hd:Hd}{s:Sz}{c d:Nat}(h:VR B f hd s c d):VR B (f+1) hd s c d:=
 ⟨h.n0,h.n1,h.a,fun n b' i h' e=>by obtain⟨m,e,g,r⟩:=h.b n b' i h' e;exact⟨m,e,lK B f b' h' _ g,r⟩,h.z⟩
theorem V_(a b:Int):(if b>a then b else a)=max a b:=by
 rw[Int.max_def]
 split
 ·rename_i z;rw[if_pos (Int.le_of_lt z)]
 ·rename_i z
  split
  ·exact Int.le_antisymm ‹_› (Int.not_lt.mp z)
  ·rfl
theorem U7(a b:Nat):((max a b:Nat):Int)=max (a:Int) b:=by omega
theorem XF(a b c:Int):max (max a b) c=max (max a c) b:=by rw[Int.max_assoc,Int.max_comm b c,Int.max_assoc]
theorem XD(b d e:Int):max b d+e=max (b+e) (d+e):=by
 rcases Int.le_total b d with h|h
 ·rw[Int.max_eq_right h,Int.max_eq_right (Int.add_le_add_right h e)]
 ·rw[Int.max_eq_left h,Int.max_eq_left (Int.add_le_add_right h e)]
theorem Zr(a b c d e:Int):max (max a (b+e)) (max c (d+e))=max (max a c) (max b d+e):=by rw[XD,← Int.max_assoc,XF a,Int.max_assoc (max a c)]
theorem Zq(a b c x:Int):max a (b+max c x)=max (max a (b+c)) (b+x):=by rw[Int.add_comm b (max c x),XD,Int.max_assoc,Int.add_comm c,Int.add_comm x]
theorem VR.side{B:List Pc}{f:Nat}{hd:Hd}{s t:Sz}{c d c' d':Nat}(h:VR B f hd s c d)(g:VR B f hd t c' d'):VR B f hd (QF s t) (c+c') (max d d'):=by
 obtain⟨s1,s2,s3,s4⟩:=s;obtain⟨t1,t2,t3,t4⟩:=t;obtain⟨h0,h1,ha,hb,hz⟩:=h;obtain⟨g0,g1,ga,gb,gz⟩:=g;dsimp only at h0 h1 ha hb hz g0 g1 ga gb gz;have zz:s3+t3=0→s3=0∧t3=0:=fun e=>by clear ha hb hz ga gb gz;omega
 unfold QF;simp only[V_];refine⟨Int.add_nonneg h0 g0,Int.le_trans h1 (Int.le_max_left ..),fun q=>?_,fun q b' i h' e=>?_,fun q=>?_⟩
 ·have a1:=ha (q.imp (fun z=>(zz z).1) id);have a2:=ga (q.imp (fun z=>(zz z).2) id);exact⟨by rw[Int.natCast_add,a1.1,a2.1],by rw[U7,a1.2,a2.2]⟩
 ·dsimp only at q ⊢
  by_cases hs:s3=0
  ·obtain⟨a1,a2⟩:=ha (.inl hs);have h4:=hz hs;subst hs h4;obtain⟨m,e2,r1,r2,r3⟩:=gb (fun z=>q (by rw[z];rfl)) b' i h' e;refine⟨m,e2,r1,?_,?_⟩
   ·rw[Int.natCast_add,a1,r2,Int.zero_add,Int.add_assoc]
   ·rw[U7,a2,r3,Int.max_eq_right g1,Int.max_assoc]
  ·obtain⟨m,e2,r1,r2,r3⟩:=hb hs b' i h' e
   by_cases ht:t3=0
   ·obtain⟨a1,a2⟩:=ga (.inl ht);have h4:=gz ht;subst ht h4;refine⟨m,e2,r1,?_,?_⟩
    ·rw[Int.natCast_add,a1,r2,Int.add_zero,Int.add_right_comm]
    ·rw[U7,a2,r3,Int.max_eq_left h1,XF]
   ·obtain⟨m',e3,q1,q2,q3⟩:=gb ht b' i h' e;rw[r1]at q1
    cases q1
    refine⟨m,e2,r1,?_,?_⟩
    ·rw[Int.natCast_add,r2,q2,Int.add_mul];omega
    ·rw[U7,r3,q3,Zr]
 ·obtain⟨a,b⟩:=zz q;rw[hz a,gz b];rfl
theorem VR.wi{B:List Pc}{f:Nat}{hd:Hd}{s:Sz}{c d:Nat}(h:VR B f hd s c d):VR B f hd (Oe s) (c+1) (d+1):=by
 have h0:=h.n0;have h1:=h.n1;refine⟨h0,by simp only[Oe];split<;>omega,fun q=>?_,fun q b' i h' e=>?_,fun q=>?_⟩
 ·have a1:=h.a q;simp only[Oe];omega
 ·obtain⟨m,e2,r1,r2,r3⟩:=h.b q b' i h' e;have:(s.2.2.1 !=0)=true:=by simpa[Oe]using q
  refine⟨m,e2,r1,?_,?_⟩
  ·simp only[Oe];omega
  ·simp only[Oe,this,if_true];omega
 ·have q':s.2.2.1=0:=q;simp[Oe,q']
theorem VR.zero(B:List Pc)(f:Nat)(hd:Hd):VR B f hd (0,0,0,0) 0 0:=⟨by decide,by decide,fun _=>⟨rfl,rfl⟩,fun q=>absurd rfl q,fun _=>rfl⟩
theorem VR.leaf(B:List Pc)(f:Nat)(hd:Hd):VR B f hd (1,1,0,0) 1 1:=⟨by decide,by decide,fun _=>⟨rfl,rfl⟩,fun q=>absurd rfl q,fun _=>rfl⟩
theorem VR.use{B:List Pc}{f:Nat}{hd:Hd}{p s:Sz}{b:w6}{c d:Nat}(h:VR B f (.cons b 0 hd) p c d)(g:∀m e,cX B f b hd=some (m,e)→VR B f hd s m e)(s0:0≤s.2.2.1∧0≤s.2.2.2):VR B f hd (Rm p s) c d:=by
 have h0:=h.n0;have h1:=h.n1;unfold Rm
 by_cases p0:p.2.2.1=0
 ·rw[if_pos p0];have a1:=h.a (.inl p0);exact⟨Int.le_refl _,Int.le_refl _,fun _=>a1,fun q=>absurd rfl q,fun _=>rfl⟩
 ·rw[if_neg p0];obtain⟨m,e,r1,r2,r3⟩:=h.b p0 b 0 hd rfl;have G:=g m e r1;have pp:0<p.2.2.1:=by omega
  have mz:p.2.2.1 * s.2.2.1=0↔s.2.2.1=0:=by
   constructor
   ·intro z;rcases Int.mul_eq_zero.mp z with y|y
    ·exact(p0 y).elim
    ·exact y
   ·intro z;rw[z,Int.mul_zero]
  refine⟨Int.mul_nonneg h0 s0.1,by dsimp only;split<;>omega,fun q=>?_,fun q b' i h' e'=>?_,fun q=>?_⟩
  ·have a2:=G.a (q.imp mz.mp id);refine⟨?_,?_⟩
   ·rw[r2,a2.1]
   ·dsimp only;rw[r3,V_,a2.2]
  ·have sn:s.2.2.1≠0:=fun z=>q (mz.mpr z);obtain⟨m',e2,q1,q2,q3⟩:=G.b sn b' i h' e';have t:(s.2.2.1 !=0)=true:=by simpa using sn
   refine⟨m',e2,q1,?_,?_⟩
   ·dsimp only;rw[r2,q2,Int.mul_add,Int.mul_assoc];omega
   ·dsimp only;rw[r3,q3,t,V_,if_pos rfl,Zq,Int.add_assoc]
  ·have:s.2.2.1=0:=mz.mp q;simp[this]
def nn(s:Sz):Prop:=0≤s.2.2.1∧0≤s.2.2.2
theorem IQ{s t:Sz}(h:nn s)(g:nn t):nn (QF s t):=by unfold nn QF at*;dsimp only;refine⟨by omega,?_⟩;split<;>omega
theorem xZ{s:Sz}(h:nn s):nn (Oe s):=by unfold nn Oe at*;dsimp only;refine⟨h.1,?_⟩;split<;>omega
theorem IP{p s:Sz}(h:nn p)(g:nn s):nn (Rm p s):=by
 unfold Rm
 split
 ·exact⟨Int.le_refl _,Int.le_refl _⟩
 ·refine⟨Int.mul_nonneg h.1 g.1,?_⟩;unfold nn at h g;dsimp only;split<;>omega
mutual
theorem Kr{S:List Nat→Sz}(hS:∀x,nn (S x)):∀n:Nd,nn (Lx S n)
 |.loop _ _ b _=>by rw[Lx];exact xZ (wR hS b ⟨Int.le_refl _,Int.le_refl _⟩)
 |.choice _ y z=>by rw[Lx];exact xZ (wR hS z (wR hS y ⟨Int.le_refl _,Int.le_refl _⟩))
 |.use x _=>by rw[Lx];exact xZ ⟨Int.le_refl _,Int.le_refl _⟩
 |.j8 x _ _ b=>by rw[Lx];exact xZ (IP (hS x) (wR hS b ⟨Int.le_refl _,Int.le_refl _⟩))
 |.body _=>⟨Int.le_of_lt Int.one_pos,Int.le_of_lt Int.one_pos⟩
 |.text _=>⟨Int.le_refl _,Int.le_refl _⟩
 |.place _ _=>⟨Int.le_refl _,Int.le_refl _⟩
theorem wR{S:List Nat→Sz}(hS:∀x,nn (S x)):∀(b:w6){a:Sz},nn a→nn (Li S a b)
 |.nil,a,h=>by rw[Li];exact h
 |.cons n r,a,h=>by rw[Li];exact wR hS r (IQ h (Kr hS n))
end
theorem Fu(B:List Pc)(S:List Nat→Sz)(hN:∀x,nn (S x))(hS:∀x q,look B x=some q→S x=Li S (0,0,0,0) q.b):∀(f:Nat)(b:w6)(hd:Hd)(c d:Nat),cX B f b hd=some (c,d)→VR B f hd (Li S (0,0,0,0) b) c d
 |0,_,_,_,_,h=>by cases h
 |f+1,b,hd,c,d,h=>by
  have ih:=Fu B S hN hS f
  have node:∀(n:Nd)(c d:Nat),Mh B (cX B f) hd n=some (c,d)→VR B f hd (Lx S n) c d:=fun n c d hn=>by
   have up:∀{o:Option (Nat×Nat)},QD o=some (c,d)→∃c' d',o=some (c',d')∧c=c'+1∧d=d'+1:=fun{o} z=>by
    cases o with
    |none=>cases z
    |some a=>cases z;exact⟨_,_,rfl,rfl,rfl⟩
   cases n with
   |loop x p b t=>obtain⟨c',d',e,rfl,rfl⟩:=up hn;rw[Lx];exact(ih b hd c' d' e).wi
   |choice p y z=>obtain⟨c',d',e,rfl,rfl⟩:=up hn;rw[Lx,← wj];exact(ih (M7 y z) hd c' d' e).wi
   |use x ps=>
    rw[Mh]at hn
    cases l:look B x with
    |none=>rw[l]at hn;cases hn
    |some q=>rw[l]at hn;obtain⟨c',d',e,rfl,rfl⟩:=up hn;have:=(ih q.b .nil c' d' e).a (.inr rfl);rw[Lx];refine VR.wi ⟨Int.le_refl _,Int.le_refl _,fun _=>?_,fun q=>absurd rfl q,fun _=>rfl⟩;rw[hS x q l];exact this
   |j8 x ps hs b=>
    rw[Mh]at hn
    cases l:look B x with
    |none=>rw[l]at hn;cases hn
    |some q=>rw[l]at hn;obtain⟨c',d',e,rfl,rfl⟩:=up hn;rw[Lx];refine VR.wi (VR.use (b:=b) (by rw[hS x q l];exact ih q.b (.cons b 0 hd) c' d' e) (fun m e he=>ih b hd m e he) (wR hN b ⟨Int.le_refl _,Int.le_refl _⟩))
   |body ps=>
    cases hd with
    |nil=>
     cases hn
     exact⟨Int.le_of_lt Int.one_pos,Int.le_of_lt Int.one_pos,fun _=>⟨rfl,rfl⟩,fun _ b' i h' z=>(by cases z),fun z=>(Int.one_ne_zero z).elim⟩
    |cons b' i h'=>
     obtain⟨c',d',e,rfl,rfl⟩:=up hn;refine⟨Int.le_of_lt Int.one_pos,Int.le_of_lt Int.one_pos,fun z=>?_,fun _ b2 i2 h2 z=>?_,fun z=>(Int.one_ne_zero z).elim⟩
     ·rcases z with z|z
      ·exact(Int.one_ne_zero z).elim
      ·cases z
     ·cases z
      refine⟨c',d',e,?_,?_⟩
      ·show((c'+1:Nat):Int)=1+1 * (c':Int);omega
      ·show((d'+1:Nat):Int)=max 1 (1+(d':Int));omega
   |text s=>cases hn;exact VR.leaf B f hd
   |place p s=>cases hn;exact VR.leaf B f hd
  have row:∀(b:w6)(a:Sz)(c0 d0 c d:Nat),VR B f hd a c0 d0→cR (Mh B (cX B f) hd) b=some (c,d)→VR B f hd (Li S a b) (c0+c) (max d0 d):=fun b=>by
   induction b using w6.rec (motive_1:=fun _=>True)with
   |nil=>intro a c0 d0 c d h z;cases z;rw[Li];simpa using h
   |cons n r _ ihr=>
    intro a c0 d0 c d h z;rw[cR]at z
    cases e1:Mh B (cX B f) hd n with
    |none=>rw[e1]at z;cases z
    |some x=>
     cases e2:cR (Mh B (cX B f) hd) r with
     |none=>rw[e1,e2]at z;cases z
     |some y=>
      rw[e1,e2]at z
      cases z
      have:=ihr (QF a (Lx S n)) (c0+x.1) (max d0 x.2) y.1 y.2 (h.side (node n x.1 x.2 e1)) e2;rw[Li,← Nat.add_assoc,← Nat.max_assoc];exact this
   |_=>trivial
  have:=row b (0,0,0,0) 0 0 c d (VR.zero B f hd) h;rw[Nat.zero_add,Nat.max_eq_right (Nat.zero_le _)]at this;exact this.mono
mutual
theorem FS{S T:List Nat→Sz}{kn:List (List Nat)}(h:∀x∈kn,S x=T x):∀n:Nd,Mj kn n=true→Lx S n=Lx T n
 |.loop _ _ b _,u=>by rw[Mj]at u;rw[Lx,Lx,nJ h b u]
 |.choice _ y z,u=>by rw[Mj,Bool.and_eq_true]at u;rw[Lx,Lx,nJ h y u.1,nJ h z u.2]
 |.use x _,u=>by rw[Mj,List.contains_iff_mem]at u;rw[Lx,Lx,h x u]
 |.j8 x _ _ b,u=>by rw[Mj,Bool.and_eq_true,List.contains_iff_mem]at u;rw[Lx,Lx,nJ h b u.2,h x u.1]
 |.body _,_=>rfl
 |.text _,_=>rfl
 |.place _ _,_=>rfl
theorem nJ{S T:List Nat→Sz}{kn:List (List Nat)}(h:∀x∈kn,S x=T x):∀(b:w6){a:Sz},Mg kn b=true→Li S a b=Li T a b
 |.nil,a,_=>by rw[Li,Li]
 |.cons n r,a,u=>by rw[Mg,Bool.and_eq_true]at u;rw[Li,Li,FS h n u.1];exact nJ h r u.2
end
theorem yf{S T:List (List Nat×Sz)}{x:List Nat}(h:x∈S.map (·.1)):K8 (S++T) x=K8 S x:=by
 unfold K8;rw[List.find?_append]
 cases e:S.find? fun y=>y.1==x with
 |some y=>rfl
 |none=>obtain⟨y,hy,rfl⟩:=List.mem_map.mp h;exact absurd (List.find?_eq_none.mp e y hy) (by simp)
theorem CD:∀(r:List Pc)(S:List (List Nat×Sz)),∃T,bS S r=S++T
 |[],S=>⟨[],by rw[bS,List.append_nil]⟩
 |q::r,S=>by obtain⟨T,e⟩:=CD r (S++ [(q.n,Li (K8 S) (0,0,0,0) q.b)]);exact⟨_,by rw[bS,e,List.append_assoc]⟩
theorem FA(len:Nat):∀(r E:List Pc)(S:List (List Nat×Sz)),S.map (·.1)=E.map (·.n)→Ou len E r=none→∀q∈r,K8 (bS S r) q.n=Li (K8 (bS S r)) (0,0,0,0) q.b
 |[],_,_,_,_,q,hq=>by cases hq
 |p::r,E,S,hn,hf,q,hq=>by
  rw[Ou]at hf
  split at hf
  ·cases hf
  ·rename_i nc;rw[Option.or_eq_none_iff]at hf;have us:=mA E p.m _ _ _ p.b hf.1;rw[bS];rcases List.mem_cons.mp hq with z|z
   ·subst z;obtain⟨T,e⟩:=CD r (S++ [(q.n,Li (K8 S) (0,0,0,0) q.b)])
    have nin:q.n∉S.map (·.1):=fun hm=>by rw[hn,← List.contains_iff_mem]at hm;rw[hm]at nc;exact absurd rfl nc
    have k:∀x∈E.map (·.n),K8 S x=K8 (S++ [(q.n,Li (K8 S) (0,0,0,0) q.b)]++T) x:=fun x hx=>by rw[← hn]at hx;rw[List.append_assoc,yf hx]
    rw[e,← nJ k q.b us,yf (by simp)];unfold K8
    rw[List.find?_append,List.find?_eq_none.mpr fun y hy=>by intro w;exact nin (List.mem_map.mpr ⟨y,hy,eq_of_beq w⟩)]
    simp
   ·exact FA len r (E++ [p]) _ (by rw[List.map_append,List.map_append,hn];rfl) hf.2 q z
mutual
def Zo:Nd→Bool
 |.loop _ _ b _=>Ti b
 |.choice _ y z=>Ti y&&Ti z
 |.j8 _ _ _ b=>Ti b
 |.body _=>false
 |_=>true
def Ti:w6→Bool
 |.nil=>true
 |.cons n r=>Zo n&&Ti r
end
noncomputable def hb(b:w6):Hd→Bool
 |.nil=>Ti b
 |.cons c _ h=>hb c h
noncomputable def pS(s:List Nat→List Nat)(p:G7):G7:=⟨s p.a,p.f⟩
noncomputable def Oj(s:List Nat→List Nat):List (List Nat)→List (List Nat)→(List Nat→List Nat)
 |x::r,y::t=>Oj (fun z=>if z=x then y else s z) r t
 |_,_=>s
noncomputable def evs(ev:Nat→List Nat)(lv n:Nat):List (List Nat):=(List.range n).map fun i=>ev (lv+i)
theorem fK(ev:Nat→List Nat)(lv n:Nat):(evs ev lv n).length=n:=by simp[evs]
mutual
def rN(ev:Nat→List Nat)(an s:List Nat→List Nat)(lv:Nat):Nd→Nd
 |.text t=>.text t
 |.place p w=>.place (pS s p) w
 |.loop x p b t=>.loop (ev lv) (pS s p) (rS ev an (fun z=>if z=x then ev lv else s z) (lv+1) b) t
 |.choice p y z=>.choice (pS s p) (rS ev an s lv y) (rS ev an s lv z)
 |.use x ps=>.use (an x) (ps.map (pS s))
 |.j8 x ps h b=>.j8 (an x) (ps.map (pS s)) (evs ev lv h.length) (rS ev an (Oj s h (evs ev lv h.length)) (lv+h.length) b)
 |.body ps=>.body (ps.map (pS s))
def rS(ev:Nat→List Nat)(an s:List Nat→List Nat)(lv:Nat):w6→w6
 |.nil=>.nil
 |.cons n r=>.cons (rN ev an s lv n) (rS ev an s lv r)
end
theorem EW(ev:Nat→List Nat)(an s:List Nat→List Nat)(lv:Nat):∀y z:w6,rS ev an s lv (M7 y z)=M7 (rS ev an s lv y) (rS ev an s lv z)
 |.nil,z=>rfl
 |.cons n r,z=>by rw[M7,rS,EW ev an s lv r z,rS,M7]
mutual
def Og:Nd→Nat
 |.loop _ _ b _=>NP b+1
 |.choice _ y z=>max (NP y) (NP z)
 |.j8 _ _ h b=>NP b+h.length
 |_=>0
def NP:w6→Nat
 |.nil=>0
 |.cons n r=>max (Og n) (NP r)
end
theorem lZ(s:List Nat→List Nat):∀(h e:List (List Nat)),h.length=e.length→∀y,(y∈h→Oj s h e y∈e)∧(y∉h→Oj s h e y=s y)
 |[],[],_,y=>⟨fun z=>(nomatch z),fun _=>rfl⟩
 |x::r,v::t,l,y=>by
  obtain⟨a,b⟩:=lZ (fun z=>if z=x then v else s z) r t (by simpa using l) y;rw[Oj]
  by_cases hy:y∈r
  ·exact⟨fun _=>List.mem_cons_of_mem _ (a hy),fun z=>absurd (List.mem_cons_of_mem _ hy) z⟩
  ·rw[b hy]
   by_cases e:y=x
   ·simp[e]
   ·simp[e,hy]
structure Rz(ev:Nat→List Nat)(mx:Nat):Prop where
 inj:∀i j,i<mx→j<mx→ev i=ev j→i=j
theorem tW{ev:Nat→List Nat}{mx lv n:Nat}(h:Rz ev mx)(l:lv+n≤mx):(evs ev lv n).Nodup:=by rw[evs,List.Nodup,List.pairwise_map];refine List.Pairwise.imp_of_mem (fun{i j} hi hj ne=>?_) List.nodup_range;simp at hi hj;exact fun e=>ne (by have:=h.inj _ _ (by omega) (by omega) e;omega)
theorem rE{P P':List Pe}{m:Option Int}{ns Pk:List (List Nat)}{s:List Nat→List Nat}{ps:List G7}(hs:∀x∈ns,s x∈Pk)(h:Ol (P,m,ns) ps=true):Ol (P',m,Pk) (ps.map (pS s))=true:=by unfold Ol at h ⊢;rw[List.all_eq_true]at h ⊢;intro p hp;obtain⟨q,hq,rfl⟩:=List.mem_map.mp hp;exact List.contains_iff_mem.mpr (hs _ (List.contains_iff_mem.mp (h q hq)))
mutual
theorem II{P P':List Pe}{m:Option Int}{ev:Nat→List Nat}{an:List Nat→List Nat}{mx:Nat}(M6:Rz ev mx)(hP:∀x l h,Mp P x l h=true→Mp P' (an x) l h=true):∀(n:Nd)(ns Pk:List (List Nat))(s:List Nat→List Nat)(lv:Nat),(∀x∈ns,s x∈Pk)→lv+Og n≤mx→okN (P,m,ns) n=true→okN (P',m,Pk) (rN ev an s lv n)=true
 |.text t,_,_,_,_,_,_,_=>rfl
 |.place p w,ns,Pk,s,lv,hs,_,h=>by rw[okN]at h;rw[rN,okN];exact rE hs h
 |.loop x p b t,ns,Pk,s,lv,hs,l,h=>by
  rw[okN,Bool.and_eq_true]at h;rw[rN,okN,Bool.and_eq_true];rw[Og]at l
  exact⟨rE (ps:=[p]) hs h.1,rC M6 hP b _ _ _ _ (fun y hy=>by
   rcases List.mem_append.mp hy with z|z
   ·by_cases e:y=x
    ·simp[e]
    ·simp only[if_neg e];exact List.mem_append_left _ (hs y z)
   ·rw[List.mem_singleton.mp z];simp) (by omega) h.2⟩
 |.choice p y z,ns,Pk,s,lv,hs,l,h=>by rw[okN,Bool.and_eq_true,Bool.and_eq_true]at h;rw[rN,okN,Bool.and_eq_true,Bool.and_eq_true];rw[Og]at l;exact⟨rE (ps:=[p]) hs h.1,rC M6 hP y _ _ _ _ hs (by omega) h.2.1,rC M6 hP z _ _ _ _ hs (by omega) h.2.2⟩
 |.use x ps,ns,Pk,s,lv,hs,_,h=>by rw[okN,Bool.and_eq_true]at h;rw[rN,okN,Bool.and_eq_true,List.length_map];exact⟨rE hs h.1,hP _ _ _ h.2⟩
 |.j8 x ps hh b,ns,Pk,s,lv,hs,l,h=>by
  rw[okN,Bool.and_eq_true,Bool.and_eq_true,Bool.and_eq_true]at h;rw[rN,okN,Bool.and_eq_true,Bool.and_eq_true,Bool.and_eq_true,List.length_map,fK];rw[Og]at l;refine⟨rE hs h.1,hP _ _ _ h.2.1,?_,rC M6 hP b _ _ _ _ (fun y hy=>?_) (by omega) h.2.2.2⟩
  ·have:=(jZ (evs ev lv hh.length)).mpr (tW M6 (by omega));rw[this];rfl
  ·obtain⟨a,c⟩:=lZ s hh (evs ev lv hh.length) (fK ..).symm y
   by_cases z:y∈hh
   ·exact List.mem_append_right _ (a z)
   ·rw[c z];exact List.mem_append_left _ (hs y ((List.mem_append.mp hy).resolve_right z))
 |.body ps,ns,Pk,s,lv,hs,_,h=>by rw[okN,Bool.and_eq_true]at h;rw[rN,okN,Bool.and_eq_true,List.length_map];exact⟨rE hs h.1,h.2⟩
theorem rC{P P':List Pe}{m:Option Int}{ev:Nat→List Nat}{an:List Nat→List Nat}{mx:Nat}(M6:Rz ev mx)(hP:∀x l h,Mp P x l h=true→Mp P' (an x) l h=true):∀(b:w6)(ns Pk:List (List Nat))(s:List Nat→List Nat)(lv:Nat),(∀x∈ns,s x∈Pk)→lv+NP b≤mx→Lh (P,m,ns) b=true→Lh (P',m,Pk) (rS ev an s lv b)=true
 |.nil,_,_,_,_,_,_,_=>rfl
 |.cons n r,ns,Pk,s,lv,hs,l,h=>by rw[Lh,Bool.and_eq_true]at h;rw[rS,Lh,Bool.and_eq_true];rw[NP]at l;exact⟨II M6 hP n _ _ _ _ hs (by omega) h.1,rC M6 hP r _ _ _ _ hs (by omega) h.2⟩
end
inductive Vr(an:List Nat→List Nat):Hd→Hd→Prop where
 |nil:Vr an .nil .nil
 |cons {b:w6} {i i':Int} {h h':Hd} (ev:Nat→List Nat) (s:List Nat→List Nat) (lv:Nat) (r:Vr an h h'):Vr an (.cons b i h) (.cons (rS ev an s lv b) i' h')
def YB(B B':List Pc)(an:List Nat→List Nat):Prop:=∀x q,look B x=some q→∃q' ev s lv,look B' (an x)=some q'∧q'.b=rS ev an s lv q.b
theorem Ki{an:List Nat→List Nat}{g g':Nd→Option (Nat×Nat)}(ev:Nat→List Nat)(s:List Nat→List Nat)(lv:Nat)(k:∀n r,g n=some r→g' (rN ev an s lv n)=some r):∀(b:w6)(r:Nat×Nat),cR g b=some r→cR g' (rS ev an s lv b)=some r
 |.nil,r,h=>h
 |.cons n t,r,h=>by
  rw[cR]at h;rw[rS,cR]
  cases e1:g n with
  |none=>rw[e1]at h;cases h
  |some a=>
   cases e2:cR g t with
   |none=>rw[e1,e2]at h;cases h
   |some c=>rw[e1,e2]at h;rw[k n a e1,Ki ev s lv k t c e2];exact h
theorem Aa{B B':List Pc}{an:List Nat→List Nat}(hB:YB B B' an):∀(f:Nat)(b:w6)(hd OJ:Hd)(ev:Nat→List Nat)(s:List Nat→List Nat)(lv:Nat)(r:Nat×Nat),Vr an hd OJ→cX B f b hd=some r→cX B' f (rS ev an s lv b) OJ=some r
 |0,_,_,_,_,_,_,_,_,h=>by cases h
 |f+1,b,hd,OJ,ev,s,lv,r,hr,h=>by
  rw[cX]at h ⊢;refine Ki ev s lv (fun n r hn=>?_) b r h
  cases n with
  |loop x p c t=>rw[rN];exact fG (fun r hc=>Aa hB f c hd OJ _ _ _ r hr hc) r hn
  |choice p y z=>rw[rN,Mh,← EW];exact fG (fun r hc=>Aa hB f (M7 y z) hd OJ _ _ _ r hr hc) r hn
  |use x ps=>
   rw[rN];rw[Mh]at hn ⊢
   cases e:look B x with
   |none=>rw[e]at hn;cases hn
   |some q=>rw[e]at hn;obtain⟨q',QL,s2,QJ,e1,e2⟩:=hB x q e;rw[e1];dsimp only;rw[e2];exact fG (fun r hc=>Aa hB f q.b .nil .nil _ _ _ r .nil hc) r hn
  |j8 x ps hs c=>
   rw[rN];rw[Mh]at hn ⊢
   cases e:look B x with
   |none=>rw[e]at hn;cases hn
   |some q=>rw[e]at hn;obtain⟨q',QL,s2,QJ,e1,e2⟩:=hB x q e;rw[e1];dsimp only;rw[e2];exact fG (fun r hc=>Aa hB f q.b (.cons c 0 hd) _ _ _ _ r (.cons _ _ _ hr) hc) r hn
  |body ps=>
   rw[rN]
   cases hr with
   |nil=>exact hn
   |cons QL s2 QJ h2=>exact fG (fun r hc=>Aa hB f _ _ _ _ _ _ r h2 hc) r hn
  |text s=>exact hn
  |place p s=>exact hn
abbrev Mf:=List Nat→Option G7
inductive Hj where
 |nil
 |cons (h:List (List Nat)) (b:w6) (M:Mf) (r:Hj)
noncomputable def er:Hj→Hd
 |.nil=>.nil
 |.cons _ b _ r=>.cons b 0 (er r)
noncomputable def st(M:Mf)(p:G7):Option G7:=match M p.a with
 |some m=>some ⟨m.a,m.f++p.f⟩
 |none=>none
def Nm(M:Mf):List G7→Option (List G7)
 |[]=>some []
 |p::r=>match st M p,Nm M r with
  |some q,some l=>some (q::l)
  |_,_=>none
noncomputable def up1(M:Mf)(x:List Nat)(v:G7):Mf:=fun y=>if y=x then some v else M y
def Mx(M:Mf):List (List Nat)→List G7→Mf
 |x::r,v::t=>Mx (up1 M x v) r t
 |_,_=>M
noncomputable def no:Mf:=fun _=>none
noncomputable def hM(l:List Nd):Nd→List Nd
 |.text s=>match l.getLast? with
  |some (.text t)=>l.dropLast++ [.text (t++s)]
  |_=>l++ [.text s]
 |n=>l++ [n]
def Oz(n:Nat):List Nat:=118::qM n
def jR(g:Nat→Nd→Option (List Nd×Nat)):Nat→List Nd→w6→Option (List Nd×Nat)
 |lp,acc,.nil=>some (acc,lp)
 |lp,acc,.cons n r=>match g lp n with
  |some m=>jR g m.2 (m.1.foldl hM acc) r
  |none=>none
def jN(B:List Pc)(rec:Nat→w6→Mf→Hj→Option (List Nd×Nat))(M:Mf)(hd:Hj)(lp:Nat):Nd→Option (List Nd×Nat)
 |.text s=>some ([.text s],lp)
 |.place p w=>match st M p with
  |some q=>some ([.place q w],lp)
  |none=>none
 |.loop x p b t=>match st M p,rec (lp+1) b (up1 M x ⟨Oz lp,[]⟩) hd with
  |some q,some l=>some ([.loop (Oz lp) q (H6 l.1) t],l.2)
  |_,_=>none
 |.choice p y z=>match st M p,rec lp y M hd with
  |some q,some l=>match rec l.2 z M hd with
   |some k=>some ([.choice q (H6 l.1) (H6 k.1)],k.2)
   |none=>none
  |_,_=>none
 |.use x ps=>match look B x,Nm M ps with
  |some q,some vs=>rec lp q.b (Mx no q.ns vs) .nil
  |_,_=>none
 |.j8 x ps h b=>match look B x,Nm M ps with
  |some q,some vs=>rec lp q.b (Mx no q.ns vs) (.cons h b M hd)
  |_,_=>none
 |.body ps=>match hd with
  |.nil=>none
  |.cons h b M0 r=>match Nm M ps with
   |some vs=>rec lp b (Mx M0 h vs) r
   |none=>none
def J(B:List Pc):Nat→Nat→w6→Mf→Hj→Option (List Nd×Nat)
 |0=>fun _ _ _ _=>none
 |f+1=>fun lp b M hd=>jR (jN B (J B f) M hd) lp [] b
def vQ(ns:List (List Nat))(s:List Nat→List Nat)(M M':Mf):Prop:=∀x∈ns,M' (s x)=M x
def Fr(ns:List (List Nat))(s:List Nat→List Nat)(ev:Nat→List Nat)(lv mx:Nat):Prop:=∀x∈ns,∀i,lv≤i→i<mx→s x≠ev i
theorem pU:∀(h e:List (List Nat))(vs:List G7)(ns:List (List Nat))(s:List Nat→List Nat)(M M':Mf),h.length=e.length→h.length=vs.length→e.Nodup→(∀x∈ns,s x∉e)→vQ ns s M M'→vQ (ns++h) (Oj s h e) (Mx M h vs) (Mx M' e vs)
 |[],[],[],ns,s,M,M',_,_,_,_,h=>by rw[List.append_nil];exact h
 |x::r,y::t,v::u,ns,s,M,M',l1,l2,nd,fr,h=>by
  rw[List.nodup_cons]at nd;rw[Oj,Mx,Mx,show ns++x::r=(ns++ [x])++r by simp];refine pU r t u _ _ _ _ (by simpa using l1) (by simpa using l2) nd.2 (fun z hz=>?_) fun z hz=>?_
  ·by_cases e:z=x
   ·simp only[e,if_true];exact nd.1
   ·simp only[if_neg e];have:z∈ns:=(List.mem_append.mp hz).resolve_right fun q=>e (List.mem_singleton.mp q);exact fun q=>fr z this (List.mem_cons_of_mem _ q)
  ·unfold up1
   by_cases e:z=x
   ·simp only[e,if_true]
   ·simp only[if_neg e];have:z∈ns:=(List.mem_append.mp hz).resolve_right fun q=>e (List.mem_singleton.mp q);rw[if_neg fun q=>fr z this (by rw[q];exact List.mem_cons_self),h z this]
theorem Cc{ns h:List (List Nat)}{s:List Nat→List Nat}{ev:Nat→List Nat}{lv mx:Nat}(M6:Rz ev mx)(l:lv+h.length≤mx)(f:Fr ns s ev lv mx):Fr (ns++h) (Oj s h (evs ev lv h.length)) ev (lv+h.length) mx:=fun x hx i h1 h2 e=>by
 obtain⟨a,c⟩:=lZ s h (evs ev lv h.length) (fK ..).symm x
 by_cases z:x∈h
 ·have:=a z;rw[e,evs,List.mem_map]at this;obtain⟨j,hj,ej⟩:=this;have hj:=List.mem_range.mp hj;have:=M6.inj _ _ (by omega) h2 ej;omega
 ·rw[c z]at e;exact f x ((List.mem_append.mp hx).resolve_right z) i (by omega) h2 e
theorem Hw{ns:List (List Nat)}{s:List Nat→List Nat}{ev:Nat→List Nat}{lv mx n:Nat}(f:Fr ns s ev lv mx)(l:lv+n≤mx):∀x∈ns,s x∉evs ev lv n:=fun x hx h=>by rw[evs,List.mem_map]at h;obtain⟨j,hj,ej⟩:=h;have hj:=List.mem_range.mp hj;exact f x hx _ (by omega) (by omega) ej.symm
theorem Db{ns:List (List Nat)}{s:List Nat→List Nat}{M M':Mf}(h:vQ ns s M M'){p:G7}(hp:p.a∈ns):st M' (pS s p)=st M p:=by unfold st pS;dsimp only;rw[h _ hp]
theorem xF{ns:List (List Nat)}{s:List Nat→List Nat}{M M':Mf}(h:vQ ns s M M'):∀{ps:List G7},(∀p∈ps,p.a∈ns)→Nm M' (ps.map (pS s))=Nm M ps
 |[],_=>rfl
 |p::r,hp=>by rw[List.map_cons,Nm,Nm,Db h (hp p (by simp)),xF h fun q hq=>hp q (by simp[hq])]
theorem ft{M:Mf}:∀{ps vs:List G7},Nm M ps=some vs→vs.length=ps.length
 |[],_,e=>by cases e;rfl
 |p::r,vs,e=>by
  rw[Nm]at e
  split at e
  ·cases e;simp[ft ‹_›]
  ·cases e
theorem eH{X:Cx}{ps:List G7}(h:Ol X ps=true):∀p∈ps,p.a∈X.2.2:=fun p hp=>by unfold Ol at h;exact List.contains_iff_mem.mp (List.all_eq_true.mp h p hp)
inductive Vq(P:List Pe)(an:List Nat→List Nat)(mx:Nat):Option Int→Hj→Hj→Prop where
 |nil:Vq P an mx none .nil .nil
 |cons {h ns:List (List Nat)} {b:w6} {M M':Mf} {r r':Hj} {m:Option Int} (ev:Nat→List Nat) (s:List Nat→List Nat) (lv:Nat) (M6:Rz ev mx) (l:lv+h.length+NP b≤mx) (hm:vQ ns s M M') (hf:Fr ns s ev lv mx) (ok:Lh (P,m,ns++h) b=true) (t:Vq P an mx m r r'):
  Vq P an mx (some (h.length:Int)) (.cons h b M r) (.cons (evs ev lv h.length) (rS ev an (Oj s h (evs ev lv h.length)) (lv+h.length) b) M' r')
structure YC(B B':List Pc)(an:List Nat→List Nat)(mx:Nat):Prop where
 r:∀x q,look B x=some q→Lh (B.map LR,q.m,q.ns) q.b=true∧∃q' ev s lv,look B' (an x)=some q'∧q'.b=rS ev an s lv q.b∧Rz ev mx∧lv+NP q.b≤mx∧Fr q.ns s ev lv mx∧∀vs:List G7,vs.length=q.ns.length→vQ q.ns s (Mx no q.ns vs) (Mx no q'.ns vs)
theorem xV{B:List Pc}{x:List Nat}{q:Pc}{l:Nat}{h:Option Int}(e:look B x=some q)(ok:Mp (B.map LR) x l h=true):q.ns.length=l∧q.m=h:=by obtain⟨q',e',a,b⟩:=kL ok;rw[e]at e';cases e';exact⟨a,b⟩
theorem Jy{P:List Pe}{m:Option Int}{ns:List (List Nat)}{an:List Nat→List Nat}{g g':Nat→Nd→Option (List Nd×Nat)}(ev:Nat→List Nat)(s:List Nat→List Nat)(lv mx:Nat)(k:∀n lp r,okN (P,m,ns) n=true→lv+Og n≤mx→g lp n=some r→g' lp (rN ev an s lv n)=some r):∀(b:w6)(lp:Nat)(acc:List Nd)(r:List Nd×Nat),Lh (P,m,ns) b=true→lv+NP b≤mx→jR g lp acc b=some r→jR g' lp acc (rS ev an s lv b)=some r
 |.nil,lp,acc,r,_,_,h=>h
 |.cons n t,lp,acc,r,ok,l,h=>by
  rw[Lh,Bool.and_eq_true]at ok;rw[NP]at l;rw[jR]at h;rw[rS,jR]
  cases e:g lp n with
  |none=>rw[e]at h;cases h
  |some x=>rw[e]at h;rw[k n lp x ok.1 (by omega) e];exact Jy ev s lv mx k t _ _ r ok.2 (by omega) h
theorem S7{B B':List Pc}{an:List Nat→List Nat}{mx:Nat}(hB:YC B B' an mx):∀(f lp:Nat)(b:w6)(M M':Mf)(hd OJ:Hj)(ns:List (List Nat))(s:List Nat→List Nat)(ev:Nat→List Nat)(lv:Nat)(m:Option Int)(r:List Nd×Nat),Rz ev mx→lv+NP b≤mx→vQ ns s M M'→Fr ns s ev lv mx→Vq (B.map LR) an mx m hd OJ→Lh (B.map LR,m,ns) b=true→J B f lp b M hd=some r→J B' f lp (rS ev an s lv b) M' OJ=some r
 |0,_,_,_,_,_,_,_,_,_,_,_,_,_,_,_,_,_,_,h=>by cases h
 |f+1,lp,b,M,M',hd,OJ,ns,s,ev,lv,m,r,M6,hl,hm,hf,hh,ok,h=>by
  rw[J]at h ⊢;refine Jy ev s lv mx (fun n lp r ok l hn=>?_) b lp [] r ok hl h
  cases n with
  |text t=>exact hn
  |place p w=>rw[okN]at ok;rw[rN];rw[jN]at hn ⊢;rw[Db hm (eH ok p (by simp))];exact hn
  |loop x p c t=>
   rw[okN,Bool.and_eq_true]at ok;rw[Og]at l;rw[rN];rw[jN]at hn ⊢;rw[Db hm (eH ok.1 p (by simp))]
   split at hn
   ·rename_i q k e1 e2;rw[e1];have rm:=pU [x] [ev lv] [⟨Oz lp,[]⟩] ns s M M' rfl rfl (by simp) (fun z hz=>by simp;exact hf z hz lv (Nat.le_refl _) (by omega)) hm;have ff:=Cc (h:=[x]) M6 (by simp;omega) hf;have q2:J B' f (lp+1) (rS ev an (fun z=>if z=x then ev lv else s z) (lv+1) c) (up1 M' (ev lv) ⟨Oz lp,[]⟩) OJ=some k:=S7 hB f _ c _ _ hd OJ (ns++ [x]) _ ev (lv+1) m k M6 (by omega) rm ff hh ok.2 e2;rw[q2];exact hn
   ·cases hn
  |choice p y z=>
   rw[okN,Bool.and_eq_true,Bool.and_eq_true]at ok;rw[Og]at l;rw[rN];rw[jN]at hn ⊢;rw[Db hm (eH ok.1 p (by simp))]
   split at hn
   ·rename_i q k e1 e2;rw[e1,S7 hB f _ y _ _ hd OJ ns _ ev lv m k M6 (by omega) hm hf hh ok.2.1 e2];dsimp only
    split at hn
    ·rename_i k2 e3;rw[S7 hB f _ z _ _ hd OJ ns _ ev lv m k2 M6 (by omega) hm hf hh ok.2.2 e3];exact hn
    ·cases hn
   ·cases hn
  |use x ps=>
   rw[okN,Bool.and_eq_true]at ok;rw[rN];rw[jN]at hn ⊢;rw[xF hm (eH ok.1)]
   split at hn
   ·rename_i q vs e1 e2;obtain⟨o1,q',QL,s2,QJ,a1,a2,a3,a4,a5,a6⟩:=hB.r x q e1;obtain⟨u1,u2⟩:=xV e1 ok.2;rw[a1,e2];dsimp only;rw[a2];exact S7 hB f _ q.b _ _ .nil .nil q.ns s2 QL QJ q.m r a3 a4 (a6 vs (by rw[ft e2,u1])) a5 (by rw[u2];exact .nil) o1 hn
   ·cases hn
  |j8 x ps hs c=>
   rw[okN,Bool.and_eq_true,Bool.and_eq_true,Bool.and_eq_true]at ok;rw[Og]at l;rw[rN];rw[jN]at hn ⊢;rw[xF hm (eH ok.1)]
   split at hn
   ·rename_i q vs e1 e2;obtain⟨o1,q',QL,s2,QJ,a1,a2,a3,a4,a5,a6⟩:=hB.r x q e1;obtain⟨u1,u2⟩:=xV e1 ok.2.1;rw[a1,e2];dsimp only;rw[a2];exact S7 hB f _ q.b _ _ _ _ q.ns s2 QL QJ q.m r a3 a4 (a6 vs (by rw[ft e2,u1])) a5 (by rw[u2];exact .cons ev s lv M6 (by omega) hm hf ok.2.2.2 hh) o1 hn
   ·cases hn
  |body ps=>
   rw[okN,Bool.and_eq_true,decide_eq_true_eq]at ok;rw[rN]
   cases hh with
   |nil=>cases hn
   |@cons h2 U3 b2 M2 YD r2 VD m2 QL s2 QJ SM l2 hm2 hf2 Tg t2=>
    have hn:(match Nm M ps with|some vs=>J B f lp b2 (Mx M2 h2 vs) r2|none=>none)=some r:=hn;show(match Nm M' (ps.map (pS s))with|some vs=>J B' f lp (rS QL an (Oj s2 h2 (evs QL QJ h2.length)) (QJ+h2.length) b2) (Mx YD (evs QL QJ h2.length) vs) VD|none=>none)=some r;rw[xF hm (eH ok.1)]
    split at hn
    ·rename_i vs e2
     have ll:h2.length=vs.length:=by have:=ok.2;have:=ft e2;simp at*;omega
     exact S7 hB f _ b2 _ _ _ _ (U3++h2) _ QL (QJ+h2.length) m2 r SM (by omega) (pU h2 (evs QL QJ h2.length) vs U3 s2 M2 YD (fK ..).symm ll (tW SM (by omega)) (Hw hf2 (by omega)) hm2) (Cc SM (by omega) hf2) t2 Tg hn
    ·cases hn
theorem xH(x:PV)(r:List PV)(h:List PO):lR (.tup (x::r)) (some 1) none h=.ok (.tup r) h:=by
 have e1:HT.J6 (x::r).length 0 (some 1)=1:=by have:=HT.Lg (x::r).length 0 1;rw[show((1:Nat):Int)=1 from rfl]at this;rw[this,List.length_cons];omega
 have e2:HT.J6 (x::r).length (x::r).length none=(x::r).length:=rfl;unfold lR;dsimp only;rw[if_neg (by rw[e1];intro z;cases z.1)];unfold cut;rw[e1,e2];simp
theorem jm{v:PV}(h:List PO)(p:v.pure=true):ii v h=.ok v:=by unfold ii;rw[gw h p]
noncomputable def H9(d:List (PK×PV))(b:PV):PV:=.tup [.dct d,b]
theorem ky(d:List (PK×PV))(k k':PK)(v:PV):dq (bK d k v) k'=if k'=k then some v else dq d k':=by
 have hit:∀l:List (PK×PV),(l.any fun kv=>decide (kv.1=k))=true→dq (l.map fun kv=>if kv.1=k then(kv.1,v)else kv) k'=if k'=k then some v else dq l k':=by
  intro l
  induction l with
  |nil=>intro h;cases h
  |cons a r ih=>
   intro h
   by_cases e:a.1=k
   ·by_cases e2:k'=k
    ·rw[if_pos e2];unfold dq;rw[List.map_cons,if_pos e,List.find?_cons_of_pos (by simp[e,e2])];rfl
    ·rw[if_neg e2]
     have miss:∀t:List (PK×PV),dq (t.map fun kv=>if kv.1=k then(kv.1,v)else kv) k'=dq t k':=by
      intro t
      induction t with
      |nil=>rfl
      |cons b t it=>
       unfold dq at it ⊢;rw[List.map_cons]
       by_cases f:b.1=k
       ·rw[if_pos f,List.find?_cons_of_neg (by simp[f];exact fun z=>e2 z.symm),List.find?_cons_of_neg (by simp[f];exact fun z=>e2 z.symm)];exact it
       ·rw[if_neg f]
        by_cases g:b.1=k'
        ·rw[List.find?_cons_of_pos (by simp[g]),List.find?_cons_of_pos (by simp[g])]
        ·rw[List.find?_cons_of_neg (by simp[g]),List.find?_cons_of_neg (by simp[g])];exact it
     exact miss (a::r)
   ·have h':(r.any fun kv=>decide (kv.1=k))=true:=by simpa[List.any_cons,e]using h
    have i2:=ih h';unfold dq at i2 ⊢;rw[List.map_cons,if_neg e]
    by_cases g:a.1=k'
    ·have:k'≠k:=fun z=>e (g.trans z);rw[if_neg this,List.find?_cons_of_pos (by simp[g]),List.find?_cons_of_pos (by simp[g])]
    ·rw[List.find?_cons_of_neg (by simp[g]),List.find?_cons_of_neg (by simp[g])];exact i2
 unfold bK
 split
 ·rename_i h;exact hit d h
 ·rename_i h;unfold dq;rw[List.find?_append];have T4:∀x∈d,x.1≠k:=fun x hx z=>h (List.any_eq_true.mpr ⟨x,hx,by simp[z]⟩)
  by_cases e:k'=k
  ·rw[if_pos e];have:d.find? (fun kv=>decide (kv.1=k'))=none:=List.find?_eq_none.mpr fun x hx=>by simp[e];exact T4 x hx
   rw[this,e];simp
  ·rw[if_neg e];have: [(k,v)].find? (fun kv=>decide (kv.1=k'))=none:=by simp;exact fun z=>e z.symm
   rw[this,Option.or_none]
theorem Iz(k:Nat)(x:List Nat)(r:List PV)(a:PV)(ref:List PV)(d:List (PK×PV))(b:PV)(e:dq d (.inr x)=some (.tup (a::ref)))(hd:(PV.dct d).pure=true)(hr:aq r=true)(hf:aq (a::ref)=true)(hl:ref.length+r.length≤1000):F (k+1) .j9 [.tup (.str x::r),H9 d b]=.ok (.tup (a::ref++r)):=by
 show bx (jb (F k)) 2 2 [.tup (.str x::r),.tup [.dct d,b]]=_;have q:(PV.tup (a::ref)).pure=true:=by simpa[PV.pure]using hf
 have ad:aN (.tup (a::ref)) (.tup r) []=.ok (.tup (a::ref++r)) []:=by show(if(a::ref).isEmpty=false∧(a::ref).length+r.length≤sizeLine then Res.ok (PV.tup (a::ref++r)) []else .bad)=_;rw[if_pos ⟨rfl,Nat.le_trans (by rw[List.length_cons];omega:(a::ref).length+r.length≤1001) (by decide)⟩]
 simp only[EV,bx,jb,MP,xH,aG _ hd,e,aG _ q,ad];refine jm _ ?_;rw[PV.pure]
 have pa:∀(l m:List PV),aq l=true→aq m=true→aq (l++m)=true:=fun l m hl hm=>by
  induction l with
  |nil=>exact hm
  |cons x t ih=>rw[aq,Bool.and_eq_true]at hl;rw[List.cons_append,aq,hl.1,ih hl.2];rfl
 exact pa _ _ hf hr
theorem gG:∀(d:List (PK×PV))(k:PK)(v:PV),aS d=true→v.pure=true→aS (bK d k v)=true:=by
 intro d k v hd hv
 have mp:∀l:List (PK×PV),aS l=true→aS (l.map fun kv=>if kv.1=k then(kv.1,v)else kv)=true:=by
  intro l
  induction l with
  |nil=>intro _;rfl
  |cons a r ih=>
   intro h;obtain⟨a1,a2⟩:=a;rw[aS,Bool.and_eq_true]at h;rw[List.map_cons]
   by_cases e:a1=k
   ·rw[if_pos e,aS,hv,ih h.2];rfl
   ·rw[if_neg e,aS,h.1,ih h.2];rfl
 have ap:∀l:List (PK×PV),aS l=true→aS (l++ [(k,v)])=true:=by
  intro l
  induction l with
  |nil=>intro _;show aS [(k,v)]=true;rw[aS,hv];rfl
  |cons a r ih=>intro h;obtain⟨a1,a2⟩:=a;rw[aS,Bool.and_eq_true]at h;rw[List.cons_append,aS,h.1,ih h.2];rfl
 unfold bK
 split
 ·exact mp d hd
 ·exact ap d hd
theorem AW{d:List (PK×PV)}(hd:(PV.dct d).pure=true)(k:PK){v:PV}(hv:v.pure=true):(PV.dct (bK d k v)).pure=true:=by rw[PV.pure]at hd ⊢;exact gG d k v hd hv
theorem Em(k:Nat)(x:List Nat)(m:List PV)(d:List (PK×PV))(b:PV)(hd:(PV.dct d).pure=true)(hb:b.pure=true)(hm:aq m=true)(hl:d.length≤1000):F (k+1) .q8 [.str x,.tup m,H9 d b]=.ok (H9 (bK d (.inr x) (.tup m)) b):=by
 have q:(PV.tup m).pure=true:=by simpa[PV.pure]using hm
 have l2:d.length<16777216:=Nat.lt_of_le_of_lt hl (by decide);show bx (fM (F k)) 3 4 [.str x,.tup m,.tup [.dct d,b]]=_;simp only[Res.Nj,Cq,List.getElem?_cons_zero,List.getElem?_cons_succ,List.set_cons_zero,List.set_cons_succ,List.map_cons,List.map_nil,List.append_nil,List.nil_append,List.cons_append,if_true,if_false,reduceIte,Bool.not_true,Bool.not_false,Bool.true_and,Bool.false_and,Bool.and_true,Bool.and_false,Bool.true_or,Bool.false_or,Bool.or_true,Bool.or_false,Bool.not_not,eq_self_iff_true,true_and,and_true,Bool.false_eq_true,reduceCtorEq,List.length_cons,List.length_nil,List.replicate,Nat.sub_self,Nat.zero_add,Option.isSome_some,Option.isSome_none,Nat.reduceAdd,Nat.reduceLeDiff,Int.reduceLT,Int.reduceLE,decide_true,decide_false,szl,Int.reduceNeg,Int.reducePow,Nat.reducePow,Int.reduceAdd,Int.reduceMul,Int.reduceSub,Nat.reduceSub,and_self,Nat.reduceMul,Nat.reduceEqDiff,ZS,ZR,ZQ,ZP,ZM,ZJ,ZG,ZF,ZD,Zz,Kw,Kv,Ku,KM,Jk,Jn,Jj,Jx,Jh,HA,Eb,Jv,Hl,Jf,Jr,GR,Hg,He,Hc,Cn,BN,KC,Ji,Js,Ec,DU,GZ,Jp,DV,Ju,DW,Ha,GN,GY,zN,Jq,Ed,BR,Hk,EA,yg,ET,IA,FQ,DZ,Hb,Ef,Cm,BM,Hi,Eg,GP,Hf,DY,ks0,ks1,ks2,ks3,ks4,Z_,Z9,Z8,Z7,Z6,KA,Kz,Ky,Ea,Hh,HB,HJ,Kf,HF,HG,HE,HH,HL,EE,FP,GE,IG,IR,HU,KF,Ei,JC,Jc,Jt,Jd,Je,BD,Fd,GM,DP,FM,Go,DH,JM,Df,xI,Ej,Hv,Iw,Iv,tJ,CY,BL,GX,GW,GU,Jg,DX,EP,EN,Ke,FW,JG,GS,Hm,Jw,JU,KB,KD,KL,GO,IB,EU,GL,BP,IW,zU,ze,EJ,Kt,Hy,Kx,GT,zV,Co,HN,HK,IY,Ix,Dg,Eu,Et,Es,Ew,BZ,zT,Bq,EB,IZ,yA,JF,JO,Kc,IX,BQ,HD,HM,Bp,xY,GC,GD,Gu,Dz,DN,DM,Gr,FG,bx,fM,MP,at1,aG _ hd,aG _ q,aG _ hb,l2,yn _ (show aS (bK d (.inr x) (.tup m))=true from gG d _ _ (by rw[PV.pure]at hd;exact hd) q)]
 refine jm _ ?_;rw[PV.pure,aq,aq,hb,AW hd _ q];rfl
abbrev Tr:=List Nat×List PV×List PV
def Nb(acc:List (PK×PV)):List Tr→List (PK×PV)
 |[]=>acc
 |t::r=>Nb (bK acc (.inr t.1) (.tup t.2.2)) r
theorem rM(k:Nat)(a b c:Option PV)(S:PV)(hS:S.pure=true):∀(ts:List Tr)(acc:List (PK×PV))(x y:Option PV),(∀t∈ts,F k .j9 [.tup t.2.1,S]=.ok (.tup t.2.2)∧aq t.2.1=true∧aq t.2.2=true)→acc.length+ts.length≤1000→
  ∃x' y',aR abF (eP (F k)) (Qj (ts.map fun t=>PV.str t.1) (ts.map fun t=>PV.tup t.2.1)) [some (.ref 0),b,c,some S,x,y] [.dct acc]=.nx [some (.ref 0),b,c,some S,x',y'] [.dct (Nb acc ts)]
 |[],acc,x,y,_,_=>⟨x,y,rfl⟩
 |t::r,acc,x,y,h,hl=>by
  obtain⟨e,p1,p2⟩:=h t List.mem_cons_self;have l2:acc.length<16777216:=Nat.lt_of_le_of_lt (by rw[List.length_cons]at hl;omega:acc.length≤1000) (by decide)
  have pl:(bK acc (.inr t.1) (.tup t.2.2)).length≤acc.length+1:=by
   unfold bK
   split
   ·rw[List.length_map];omega
   ·rw[List.length_append];exact Nat.le_refl _
  obtain⟨x',y',lp⟩:=rM k a b c S hS r (bK acc (.inr t.1) (.tup t.2.2)) (some (.str t.1)) (some (.tup t.2.1)) (fun u hu=>h u (List.mem_cons_of_mem _ hu)) (by rw[List.length_cons]at hl;omega);refine⟨x',y',?_⟩;rw[List.map_cons,List.map_cons,Qj];have q:(PV.tup t.2.1).pure=true:=by simpa[PV.pure]using p1
  have q2:(PV.tup t.2.2).pure=true:=by simpa[PV.pure]using p2
  have z:∀hh,bO (F k .j9) [.tup t.2.1,S] hh=.ok (.tup t.2.2) hh:=fun hh=>aZ hh (by simp[aq,q,hS]) e;refine(cI rfl ?_).trans lp;simp only[EV,eP,aG _ q,aG _ hS,z,l2]
theorem BS(n:Nat):∀d:List (PK×PV),aS d=true→(d.all fun x=>Qd n x.2)=true
 |[],_=>rfl
 |(a,b)::r,h=>by rw[aS,Bool.and_eq_true]at h;rw[List.all_cons,BS n r h.2,Bool.and_true];exact vk h.1
theorem kX:∀(ts:List Tr)(acc:List (PK×PV)),aS acc=true→(∀t∈ts,aq t.2.2=true)→aS (Nb acc ts)=true
 |[],_,h,_=>h
 |t::r,acc,h,g=>kX r _ (gG acc _ _ h (by have:=g t List.mem_cons_self;simpa[PV.pure]using this)) fun u hu=>g u (List.mem_cons_of_mem _ hu)
def Tf(k:Nat)(S:PV)(ts:List Tr):Prop:=∀t∈ts,F k .j9 [.tup t.2.1,S]=.ok (.tup t.2.2)∧aq t.2.1=true∧aq t.2.2=true
noncomputable def Py(ts:List Tr):PV:=.tup (ts.map fun t=>PV.str t.1)
noncomputable def Qk(ts:List Tr):PV:=.tup (ts.map fun t=>PV.tup t.2.1)
theorem kD:∀ts:List Tr,(Py ts).pure=true
 |[]=>rfl
 |_::r=>by have:=kD r;unfold Py at this ⊢;rw[PV.pure]at this ⊢;rw[List.map_cons,aq,this];rfl
theorem kB{k:Nat}{S:PV}:∀{ts:List Tr},Tf k S ts→(Qk ts).pure=true
 |[],_=>rfl
 |t::r,h=>by
  have:=kB (ts:=r) fun u hu=>h u (List.mem_cons_of_mem _ hu);have q:(PV.tup t.2.1).pure=true:=by have:=(h t List.mem_cons_self).2.1;simpa[PV.pure]using this
  unfold Qk at this ⊢;rw[PV.pure]at this ⊢;rw[List.map_cons,aq,this,q];rfl
theorem hand(k:Nat)(S:PV)(hS:S.pure=true)(ts:List Tr)(acc:List (PK×PV))(h:Tf k S ts)(ha:aS acc=true)(hl:acc.length+ts.length≤1000):X_ (k+1) .m6 [.ref 0,Py ts,Qk ts,S] [.dct acc]=.ok (.ref 0) [.dct (Nb acc ts)]:=by
 obtain⟨x',y',lp⟩:=rM k none (some (Py ts)) (some (Qk ts)) S hS ts acc none none h hl;show gC (eZ (F k)) 4 6 [.ref 0,Py ts,Qk ts,S] [.dct acc]=_;have z:∀hh,Ag [Py ts,Qk ts] hh=.ok (Qj (ts.map fun t=>PV.str t.1) (ts.map fun t=>PV.tup t.2.1)) hh:=fun hh=>rfl;simp only[EV,gC,eZ,aG _ (kD ts),aG _ (kB h),z,lp]
 have e:([PO.dct (Nb acc ts)].take 1).all (Ql 1)=true:=by show((Nb acc ts).all (fun x=>Qd 1 x.2)&&true)=true;rw[BS 1 _ (kX ts acc ha fun t ht=>(h t ht).2.2)];rfl
 show vz 1 (.ref 0) [.dct (Nb acc ts)]=_;unfold vz;rw[if_pos (show Qd 1 (PV.ref 0)=true from rfl)];unfold vE;rw[e];rfl
theorem Hp(k:Nat)(S hs bd a b c e m nn:PV)(hS:S.pure=true)(ts:List Tr)(h:Tf k S ts)(hl:ts.length≤1000)(p1:hs.pure=true)(p2:bd.pure=true)(nb:kq bd=false)(fz:a.pure=true∧b.pure=true∧c.pure=true∧e.pure=true∧m.pure=true∧nn.pure=true):
  F (k+2) .o7 [.tup [a,b,Qk ts,hs,bd],.tup [c,e,Py ts,m,nn],S]=.ok (H9 (Nb [] ts) (.tup [hs,bd,S])):=by
 have w:=hand k S hS ts [] h rfl (by rw[List.length_nil];omega);show bx (dO (F (k+1)) (X_ (k+1))) 3 4 [.tup [a,b,Qk ts,hs,bd],.tup [c,e,Py ts,m,nn],S]=_;have pk:=kX ts [] rfl fun t ht=>(h t ht).2.2;simp only[EV,bx,dO,at2,QM,Ut,aG _ hS,aG _ p1,aG _ p2,aG _ (kD ts),aG _ (kB h),nb,w,yn _ pk];refine jm _ ?_;simp only[PV.pure,aq,pk,p1,p2,hS];rfl
theorem El(k:Nat)(S hs a b c e m nn:PV)(hS:S.pure=true)(ts:List Tr)(h:Tf k S ts)(hl:ts.length≤1000):
  F (k+2) .o7 [.tup [a,b,Qk ts,hs,.non],.tup [c,e,Py ts,m,nn],S]=.ok (H9 (Nb [] ts) .non):=by
 have w:=hand k S hS ts [] h rfl (by rw[List.length_nil];omega);show bx (dO (F (k+1)) (X_ (k+1))) 3 4 [.tup [a,b,Qk ts,hs,.non],.tup [c,e,Py ts,m,nn],S]=_;have pk:=kX ts [] rfl fun t ht=>(h t ht).2.2;simp only[EV,bx,dO,at2,QM,Ut,aG _ hS,aG _ (kD ts),aG _ (kB h),qY,w,yn _ pk];refine jm _ ?_;simp only[PV.pure,aq,pk];rfl
theorem En(k:Nat)(d0:List (PK×PV))(b0 hs bd:PV)(D:List (PK×PV))(p0:aS d0=true)(pb:b0.pure=true)(ps:hs.pure=true)(pd:bd.pure=true)(pD:aS D=true)(ts:List Tr)(hh:hs=Py ts)(h:Tf k (H9 D (.tup [hs,bd,H9 d0 b0])) ts)(hl:d0.length+ts.length≤1000):
  F (k+2) .q9 [Qk ts,H9 D (.tup [hs,bd,H9 d0 b0])]=.ok (H9 (Nb d0 ts) b0):=by
 have hS:(H9 D (.tup [hs,bd,H9 d0 b0])).pure=true:=by simp only[H9,PV.pure,aq,pD,ps,pd,p0,pb];rfl
 have q1:(PV.tup [hs,bd,H9 d0 b0]).pure=true:=by simp only[H9,PV.pure,aq,ps,pd,p0,pb];rfl
 have q2:(H9 d0 b0).pure=true:=by simp only[H9,PV.pure,aq,p0,pb];rfl
 have q3:(PV.dct d0).pure=true:=by rw[PV.pure];exact p0
 have w:=hand k _ hS ts d0 h p0 hl;have pk:=kX ts d0 p0 fun t ht=>(h t ht).2.2;subst hh;have i1:∀g,d7 (H9 D (.tup [Py ts,bd,H9 d0 b0])) (.int 1) g=.ok (.tup [Py ts,bd,H9 d0 b0]) g:=fun g=>by show Res.ok (am g _) g=_;rw[aG g q1]
 have i2:∀g,d7 (H9 d0 b0) (.int 0) g=.ok (.dct d0) g:=fun g=>rfl;have i3:∀g,d7 (H9 d0 b0) (.int 1) g=.ok b0 g:=fun g=>by show Res.ok (am g b0) g=_;rw[aG g pb]
 show bx (fN (F (k+1)) (X_ (k+1))) 2 4 [Qk ts,H9 D (.tup [Py ts,bd,H9 d0 b0])]=_;simp only[EV,bx,fN,MP,at1,at2,i1,i2,i3,aG _ hS,aG _ q1,aG _ q2,aG _ (kD ts),aG _ (kB h),w,yn _ pk];refine jm _ ?_;simp only[PV.pure,aq,pk,pb];rfl
theorem yO{l:List Nd}{n:Nd}(h:Qf n=false):hM l n=l++ [n]:=by cases n<;>first|rfl|cases h
theorem CL(n:Nd):hM [] n= [n]:=by cases n<;>rfl
theorem CJ{l:List Nd}{m n:Nd}(h:Qf m=false):hM (l++ [m]) n=l++ [m]++[n]:=by
 cases n with
 |text s=>rw[hM,List.getLast?_concat];cases m<;>first|rfl|cases h
 |_=>rfl
theorem CK(l:List Nd)(u s:List Nat):hM (l++ [.text u]) (.text s)=l++ [.text (u++s)]:=by rw[hM,List.getLast?_concat,List.dropLast_concat]
theorem CH(k:Nat)(acc:List Nd)(n:Nd)(hl:acc.length<1000000)(ht:Lw acc+O4 n≤1000000):eX (F k) [some (.ref 0),some (nd n)] [.lst (acc.map nd)]=.nx [some (.ref 0),some (nd n)] [.lst ((hM acc n).map nd)]:=by
 have d0:∀xs:List PV,am [.lst xs] (.ref 0)=.ref 0:=fun xs=>rfl;have li:∀xs,fB [.lst xs] (.ref 0)=true:=fun _=>rfl;have tr:∀xs:List PV,sC [.lst xs] (.ref 0)=some (!xs.isEmpty):=fun _=>rfl
 have ap:bU (.ref 0) [nd n] [.lst (acc.map nd)]=.ok .non [.lst ((acc++ [n]).map nd)]:=by rw[Ia,if_pos (by rw[List.length_map];exact Nat.lt_of_lt_of_le hl (by decide)),List.map_append];rfl
 cases t:Qf n with
 |false=>rw[yO t];simp only[EX,eX,vw,t,d0,li,ap]
 |true=>
  obtain⟨s,rfl⟩:∃s,n=.text s:=by cases n<;>first|exact⟨_,rfl⟩|cases t
  rcases List.eq_nil_or_concat acc with rfl|⟨B,m,rfl⟩
  ·rw[CL];have e0:(!(([]:List Nd).map nd).isEmpty)=false:=rfl;simp only[List.map_nil]at ap e0 ⊢;simp only[EX,eX,vw,t,d0,li,tr,e0,ap]
  ·rw[List.concat_eq_append]at ap hl ht ⊢;have e0:(!((B++ [m]).map nd).isEmpty)=true:=by simp
   have T9:d7 (.ref 0) (.int (-1)) [.lst ((B++ [m]).map nd)]=.ok (nd m) [.lst ((B++ [m]).map nd)]:=by
    show(match LQ ((B++ [m]).map nd) (-1)with|some v=>Res.ok (am [.lst ((B++ [m]).map nd)] v) [.lst ((B++ [m]).map nd)]|none=>.bad)=_;have q:LQ ((B++ [m]).map nd) (-1)=some (nd m):=by rw[List.map_append];exact uh _ _
    rw[q];show Res.ok (am _ (nd m)) _=_;rw[jz]
   cases tm:Qf m with
   |false=>rw[CJ tm];simp only[EX,eX,vw,t,tm,d0,li,tr,e0,T9,ap]
   |true=>
    obtain⟨u,rfl⟩:∃u,m=.text u:=by cases m<;>first|exact⟨_,rfl⟩|cases tm
    rw[CK];have al:u.length+s.length≤16777216:=by rw[iq]at ht;simp only[Lw,List.map_cons,List.map_nil,List.sum_cons,List.sum_nil,O4]at ht;omega
    have st:∀ ρ v,jg v (.ref 0) (.int (-1)) ρ [.lst ((B++ [Nd.text u]).map nd)]=.nx ρ [.lst (B.map nd++ [v])]:=fun ρ v=>by
     show(match Qe ((B++ [Nd.text u]).map nd).length (-1)with|some j=>SR.nx ρ [.lst (((B++ [Nd.text u]).map nd).set j v)]|none=>.bad)=_;have:Qe ((B++ [Nd.text u]).map nd).length (-1)=some B.length:=by unfold Qe;simp;omega
     rw[this];dsimp only;rw[List.map_append]
     congr 3
     rw[List.set_append_right _ _ (by simp)];simp
    have i1:∀z h,d7 (nd (.text z)) (.int 1) h=.ok (.str z) h:=fun z h=>by rw[nd];rfl
    have ma:(B++ [Nd.text (u++s)]).map nd=B.map nd++ [.tup [.str tT,.str (u++s)]]:=by simp[nd]
    simp only[EX,eX,vw,t,tm,d0,li,tr,e0,T9,st,i1,al,ma]
theorem Ie(k:Nat)(acc:List Nd)(n:Nd)(hl:acc.length<1000000)(ht:Lw acc+O4 n≤1000000):L (k+1) .H7 [.ref 0,nd n] [.lst (acc.map nd)]=.ok .non [.lst ((hM acc n).map nd)]:=by
 have r2:L (k+1) .H7 [.ref 0,nd n] [.lst (acc.map nd)]=match eX (F k) [some (.ref 0),some (nd n)] [.lst (acc.map nd)]with|.nx _ h1=>fV 1 .non h1|.rt v h1=>eU 1 v h1|_=>.bad:=rfl
 rw[r2,CH k acc n hl ht];show(if(aT [PO.lst ((hM acc n).map nd)]&&true)=true then _ else _)=_;have:aT [PO.lst ((hM acc n).map nd)]=true:=by simp[aT,PO.pure,bQ]
 rw[this];rfl
def pD(B:List Pc):List (PK×PV):=B.map fun q=>(Sum.inr q.n,pc q)
def hJ(D0:PV)(lp:Nat)(B:List Pc)(t:List PO):List PO:=.G6 D0::.obj 602 [.int (lp:Nat),.ref 2]::.dct (pD B)::t
theorem xT:∀B:List Pc,aS (pD B)=true
 |[]=>rfl
 |q::r=>by show((pc q).pure&&aS (pD r))=true;rw[eJ,xT r];rfl
theorem EZ(x:List Nat):∀B:List Pc,dq (pD B) (.inr x)=(look B x).map pc
 |[]=>rfl
 |q::r=>by
  have ih:=EZ x r;unfold dq look pD at*;rw[List.map_cons,List.find?_cons,List.find?_cons]
  by_cases e:q.n=x
  ·subst e;simp
  ·have e1:decide ((Sum.inr q.n:PK)=.inr x)=false:=decide_eq_false fun z=>e (by injection z);have e2:(q.n==x)=false:=beq_eq_false_iff_ne.mpr e;rw[e1,e2];exact ih
section
variable{D0:PV}{lp:Nat}{B:List Pc}{t:List PO}
theorem xh:qU 602 (hJ D0 lp B t) (.ref 1)=some (1,[.int (lp:Nat),.ref 2]):=rfl
theorem xj:am (hJ D0 lp B t) (.ref 1)=.ref 1:=rfl
theorem JR:sZ 602 1 (.ref 1) (hJ D0 lp B t)=.ok (.ref 2) (hJ D0 lp B t):=rfl
theorem KK:sZ 602 0 (.ref 1) (hJ D0 lp B t)=.ok (.int (lp:Nat)) (hJ D0 lp B t):=rfl
theorem JQ{x:List Nat}{q:Pc}(e:look B x=some q):d7 (.ref 2) (.str x) (hJ D0 lp B t)=.ok (pc q) (hJ D0 lp B t):=by show(match dq (pD B) (.inr x)with|some v=>Res.ok (am (hJ D0 lp B t) v) (hJ D0 lp B t)|none=>.bad)=_;rw[EZ,e];show Res.ok (am (hJ D0 lp B t) (pc q)) _=_;rw[aG _ (eJ q)]
theorem KJ(n:Nat)(ρ:Ev):AE 602 0 (.int (n:Nat)) (.ref 1) ρ (hJ D0 lp B t)=.nx ρ (hJ D0 n B t):=rfl
theorem JY{v:PV}(t2:List PO)(hv:v.pure=true)(ht:aT t=true):vz (3+t.length) v (hJ D0 lp B (t++t2))=.ok v (hJ D0 lp B t):=by
 have tk:(hJ D0 lp B (t++t2)).take (3+t.length)=hJ D0 lp B t:=by unfold hJ;rw[Nat.add_comm,List.take_succ_cons,List.take_succ_cons,List.take_succ_cons,List.take_left]
 have al:(hJ D0 lp B t).all (Ql (3+t.length))=true:=by
  show(true&&(Ql (3+t.length) (.obj 602 [.int (lp:Nat),.ref 2])&&(Ql (3+t.length) (.dct (pD B))&&t.all (Ql (3+t.length)))))=true;rw[Z.lH ht];have a:Ql (3+t.length) (.obj 602 [.int (lp:Nat),.ref 2])=true:=by simp[Ql,Qd,PV.pure];omega
  have b:Ql (3+t.length) (.dct (pD B))=true:=BS _ _ (xT B);rw[a,b];rfl
 unfold vz;rw[if_pos (vk hv)];unfold vE;rw[tk,al,if_pos (by rw[Bool.true_and];exact Nat.ble_eq_true_of_le (by simp only[hJ,List.length_cons,List.length_append];omega))]
theorem oA{v:PV}(hv:v.pure=true)(ht:aT t=true):vz (3+t.length) v (hJ D0 lp B t)=.ok v (hJ D0 lp B t):=by
 have:=JY (D0:=D0) (lp:=lp) (B:=B) [] hv ht
 rwa [List.append_nil]at this
end
section
variable{D0:PV}
structure MO(f:Nat)(d:List (PK×PV))(M:Mf):Prop where
 r:∀x,dq d (.inr x)=(M x).map J0
 p:aS d=true
 l:d.length+10 * f≤500
 w:∀x q,M x=some q→sg q.a=true∧H_ q.f=true∧q.f.length+10 * f≤500
theorem xG{f k:Nat}{d:List (PK×PV)}{M:Mf}{p q:G7}{v:PV}(h:MO f d M)(hp:wp p=true)(e:st M p=some q):F (k+1) .j9 [J0 p,H9 d v]=.ok (J0 q):=by
 unfold st at e
 split at e
 ·rename_i m em
  cases e
  have w:=(h.w _ _ em).2.2;unfold wp at hp;simp only[Bool.and_eq_true,decide_eq_true_eq]at hp;have:=Iz k p.a (p.f.map PV.str) (.str m.a) (m.f.map PV.str) d v (by rw[h.r,em];rfl) (by rw[PV.pure];exact h.p) (aW _) (by rw[aq,aW];rfl) (by simp;omega);unfold J0;rw[this,List.map_append];rfl
 ·cases e
theorem Da{f:Nat}{d:List (PK×PV)}{M:Mf}{p q:G7}(h:MO (f+1) d M)(hp:wp p=true)(e:st M p=some q):sg q.a=true∧H_ q.f=true∧q.f.length+10 * f≤500:=by
 unfold st at e
 split at e
 ·rename_i m em
  cases e
  obtain⟨a,b,c⟩:=h.w _ _ em;unfold wp at hp;simp only[Bool.and_eq_true,decide_eq_true_eq]at hp;refine⟨a,?_,by simp;omega⟩;unfold H_ at*;rw[List.all_append,b,hp.2.1];rfl
 ·cases e
theorem dX{d:List (PK×PV)}{v:PV}(h:aS d=true)(hv:v.pure=true):(H9 d v).pure=true:=by simp only[H9,PV.pure,aq,h,hv];rfl
theorem AV(k lp:Nat)(B:List Pc)(t:List PO)(ht:aT t=true)(s:List Nat)(S:PV)(hS:S.pure=true):X_ (k+1) .f9 [.ref 1,nd (.text s),S] (hJ D0 lp B t)=.ok (.tup [nd (.text s)]) (hJ D0 lp B t):=by
 show gC (aP (F k) (X_ k)) 3 8 [.ref 1,nd (.text s),S] (hJ D0 lp B t)=_;simp only[EX,gC,aP];have e:(hJ D0 lp B t).length=3+t.length:=by simp[hJ];omega
 rw[e];exact oA (by simp[PV.pure,aq,bz]) ht
theorem zm(k f lp:Nat)(B:List Pc)(t:List PO)(ht:aT t=true)(p q:G7)(w:List Nat){d:List (PK×PV)}{M:Mf}{v:PV}(h:MO f d M)(hv:v.pure=true)(hp:wp p=true)(e:st M p=some q):X_ (k+2) .f9 [.ref 1,nd (.place p w),H9 d v] (hJ D0 lp B t)=.ok (.tup [nd (.place q w)]) (hJ D0 lp B t):=by
 have z:∀h,bO (F (k+1) .j9) [J0 p,H9 d v] h=.ok (J0 q) h:=fun g=>aZ g (by rw[aq,eT,aq,dX h.p hv];rfl) (xG h hp e);show gC (aP (F (k+1)) (X_ (k+1))) 3 8 [.ref 1,nd (.place p w),H9 d v] (hJ D0 lp B t)=_;simp only[EX,gC,aP,aG _ (dX h.p hv),z];have e:(hJ D0 lp B t).length=3+t.length:=by simp[hJ];omega
 rw[e];show vz _ (.tup [nd (.place q w)]) _=_;exact oA (by simp[PV.pure,aq,bz]) ht
theorem CZ(n:Nat)(h:n≤1000):(qM (n:Int)).length≤1000:=by
 have:∀n:Nat,n≤1000→((qM (n:Int)).length≤1000):=by decide+kernel
 exact this n h
theorem wI(k f lp l1 l2:Nat)(B:List Pc)(t:List PO)(ht:aT t=true)(p q:G7)(y z:w6)(ly lz:List Nd){d:List (PK×PV)}{M:Mf}{v:PV}(h:MO f d M)(hv:v.pure=true)(hp:wp p=true)(e:st M p=some q)
  (e1:X_ (k+1) .b_ [.ref 1,.tup (j6 y),H9 d v] (hJ D0 lp B t)=.ok (.tup (ly.map nd)) (hJ D0 l1 B t)) (e2:X_ (k+1) .b_ [.ref 1,.tup (j6 z),H9 d v] (hJ D0 l1 B t)=.ok (.tup (lz.map nd)) (hJ D0 l2 B t)):
  X_ (k+2) .f9 [.ref 1,nd (.choice p y z),H9 d v] (hJ D0 lp B t)=.ok (.tup [nd (.choice q (H6 ly) (H6 lz))]) (hJ D0 l2 B t):=by
 have w:∀h,bO (F (k+1) .j9) [J0 p,H9 d v] h=.ok (J0 q) h:=fun g=>aZ g (by rw[aq,eT,aq,dX h.p hv];rfl) (xG h hp e);have p1:(PV.tup (ly.map nd)).pure=true:=by rw[PV.pure];exact bQ _
 have p2:(PV.tup (lz.map nd)).pure=true:=by rw[PV.pure];exact bQ _
 show gC (aP (F (k+1)) (X_ (k+1))) 3 8 [.ref 1,nd (.choice p y z),H9 d v] (hJ D0 lp B t)=_;simp only[EX,gC,aP,aG _ (dX h.p hv),w,xh,xj,e1,e2,aG _ p1,aG _ p2];have e:(hJ D0 lp B t).length=3+t.length:=by simp[hJ];omega
 rw[e];have np:nd (.choice q (H6 ly) (H6 lz))=.tup [.str tC,J0 q,.tup (ly.map nd),.tup (lz.map nd)]:=by rw[nd,gv,gv]
 rw[← np];exact oA (by simp[PV.pure,aq,bz]) ht
theorem AX(k f lp l1:Nat)(B:List Pc)(t:List PO)(ht:aT t=true)(x:List Nat)(p q:G7)(b:w6)(s:List Nat)(l:List Nd){d:List (PK×PV)}{M:Mf}{v:PV}(h:MO f d M)(hv:v.pure=true)(hp:wp p=true)(hl:lp≤1000)(e:st M p=some q)
  (e1:X_ (k+1) .b_ [.ref 1,.tup (j6 b),H9 (bK d (.inr x) (.tup [.str (Oz lp)])) v] (hJ D0 (lp+1) B t)=.ok (.tup (l.map nd)) (hJ D0 l1 B t)):
  X_ (k+3) .f9 [.ref 1,nd (.loop x p b s),H9 d v] (hJ D0 lp B t)=.ok (.tup [nd (.loop (Oz lp) q (H6 l) s)]) (hJ D0 l1 B t):=by
 have hd:(PV.dct d).pure=true:=by rw[PV.pure];exact h.p
 have dl:=h.l;have w:∀h,bO (F (k+1) .j9) [J0 p,H9 d v] h=.ok (J0 q) h:=fun g=>aZ g (by rw[aq,eT,aq,dX h.p hv];rfl) (xG h hp e);have sl:∀h,bO (F (k+1) .q8) [.str x,.tup [.str (Oz lp)],H9 d v] h=.ok (H9 (bK d (.inr x) (.tup [.str (Oz lp)])) v) h:=fun g=>aZ g (by rw[aq,aq,aq,dX h.p hv];rfl) (Em k x [.str (Oz lp)] d v hd hv rfl (by omega));have p1:(PV.tup (l.map nd)).pure=true:=by rw[PV.pure];exact bQ _
 have lg:((lp:Nat):Int).natAbs.log2<1920:=by
  have:(lp:Int).natAbs=lp:=by omega
  rw[this];exact Nat.lt_of_le_of_lt (Nat.log2_le_self lp) (by omega)
 have vn:∀g,aN (.str [118]) (.str (qM (lp:Int))) g=.ok (.str (Oz lp)) g:=fun g=>by have:(qM (lp:Int)).length≤1000:=CZ lp hl;show(if 1+(qM (lp:Int)).length≤sizeLine then Res.ok (PV.str (Oz lp)) g else .bad)=_;rw[if_pos (Nat.le_trans (by omega:_≤1001) (by decide))]
 have ad:∀g,aN (.int (lp:Nat)) (.int 1) g=.ok (.int ((lp+1:Nat):Nat)) g:=fun g=>rfl
 have U9:X_ (k+2) .d9 [.ref 1,nd (.loop x p b s),H9 d v] (hJ D0 lp B t)=.ok (nd (.loop (Oz lp) q (H6 l) s)) (hJ D0 l1 B t):=by
  show gC (dv (F (k+1)) (X_ (k+1))) 3 5 [.ref 1,nd (.loop x p b s),H9 d v] (hJ D0 lp B t)=_;simp only[EX,gC,dv,aG _ (dX h.p hv),w,sl,xh,xj,KK,KJ,lg,vn,ad,e1,aG _ p1];have e:(hJ D0 lp B t).length=3+t.length:=by simp[hJ];omega
  rw[e];have np:nd (.loop (Oz lp) q (H6 l) s)=.tup [.str tL,.str (Oz lp),J0 q,.tup (l.map nd),.str s]:=by rw[nd,gv]
  rw[← np];exact oA (bz _) ht
 show gC (aP (F (k+2)) (X_ (k+2))) 3 8 [.ref 1,nd (.loop x p b s),H9 d v] (hJ D0 lp B t)=_;simp only[EX,gC,aP,aG _ (dX h.p hv),xh,xj,U9];have e:(hJ D0 lp B t).length=3+t.length:=by simp[hJ];omega
 rw[e];exact oA (by simp[PV.pure,aq,bz]) ht
end
section
variable{D0:PV}
abbrev Te(p:G7):List PV:=.str p.a::p.f.map PV.str
theorem uT(p:G7):aq (Te p)=true:=by rw[aq,aW];rfl
noncomputable def NT:List (List Nat)→List G7→List G7→List Tr
 |x::r,p::a,v::b=>(x,Te p,Te v)::NT r a b
 |_,_,_=> []
theorem xD:∀(ns:List (List Nat))(ps vs:List G7),ns.length=ps.length→vs.length=ps.length→Py (NT ns ps vs)=nms ns∧Qk (NT ns ps vs)=.tup (de ps)∧(NT ns ps vs).length=ns.length
 |[],[],[],_,_=>⟨rfl,rfl,rfl⟩
 |x::r,p::a,v::b,h,g=>by
  obtain⟨e1,e2,e3⟩:=xD r a b (by simpa using h) (by simpa using g);unfold Py Qk nms de at*;simp only[NT,List.map_cons,List.length_cons,e3];injection e1 with e1
  injection e2 with e2
  rw[e1,e2];exact⟨rfl,rfl,trivial⟩
theorem sD{f k:Nat}{d:List (PK×PV)}{M:Mf}{v:PV}(h:MO f d M):∀(ns:List (List Nat))(ps vs:List G7),(∀p∈ps,wp p=true)→Nm M ps=some vs→Tf (k+1) (H9 d v) (NT ns ps vs)
 |[],_,_,_,_=>fun t ht=>(nomatch ht)
 |x::r,[],_,_,e=>fun t ht=>by cases e;cases ht
 |x::r,p::a,vs,hp,e=>by
  rw[Nm]at e
  split at e
  ·rename_i q l e1 e2
   cases e
   intro t ht;rcases List.mem_cons.mp ht with z|z
   ·subst z;exact⟨xG h (hp p (by simp)) e1,uT _,uT _⟩
   ·exact sD h r a l (fun q hq=>hp q (by simp[hq])) e2 t z
  ·cases e
theorem xE{f:Nat}{d:List (PK×PV)}{M:Mf}(h:MO (f+1) d M):∀(ps vs:List G7),(∀p∈ps,wp p=true)→Nm M ps=some vs→∀q∈vs,sg q.a=true∧H_ q.f=true∧q.f.length+10 * f≤500
 |[],_,_,e=>by cases e;intro q hq;cases hq
 |p::a,vs,hp,e=>by
  rw[Nm]at e
  split at e
  ·rename_i q l e1 e2
   cases e
   intro x hx;rcases List.mem_cons.mp hx with z|z
   ·subst z;exact Da h (hp p (by simp)) e1
   ·exact xE h a l (fun q hq=>hp q (by simp[hq])) e2 x z
  ·cases e
theorem kJ(d:List (PK×PV))(k:PK)(v:PV):(bK d k v).length≤d.length+1:=by unfold bK;split<;>simp
theorem MO.mono{f:Nat}{d:List (PK×PV)}{M:Mf}(h:MO (f+1) d M):MO f d M:=⟨h.r,h.p,by have:=h.l;omega,fun x q e=>by obtain⟨a,b,c⟩:=h.w x q e;exact⟨a,b,by omega⟩⟩
theorem MO.put{f:Nat}{d:List (PK×PV)}{M:Mf}(x:List Nat){v:G7}(r:∀x,dq d (.inr x)=(M x).map J0)(p:aS d=true)(l:d.length+1+10 * f≤500)(w:∀x q,M x=some q→sg q.a=true∧H_ q.f=true∧q.f.length+10 * f≤500)(hv:sg v.a=true∧H_ v.f=true∧v.f.length+10 * f≤500):MO f (bK d (.inr x) (J0 v)) (up1 M x v):=by
 refine⟨fun y=>?_,gG _ _ _ p (eT v),by have:=kJ d (.inr x) (J0 v);omega,fun y q e=>?_⟩
 ·rw[ky];unfold up1
  by_cases e:y=x
  ·subst e;simp
  ·rw[if_neg (fun z=>e (by injection z)),if_neg e];exact r y
 ·unfold up1 at e
  split at e
  ·cases e;exact hv
  ·exact w y q e
theorem MO.hand{f:Nat}:∀(ns:List (List Nat))(ps vs:List G7)(d:List (PK×PV))(M:Mf),ns.length=ps.length→vs.length=ps.length→(∀x,dq d (.inr x)=(M x).map J0)→aS d=true→d.length+ns.length+10 * f≤500→(∀x q,M x=some q→sg q.a=true∧H_ q.f=true∧q.f.length+10 * f≤500)→(∀q∈vs,sg q.a=true∧H_ q.f=true∧q.f.length+10 * f≤500)→MO f (Nb d (NT ns ps vs)) (Mx M ns vs)
 |[],[],[],d,M,_,_,r,p,l,w,_=>⟨r,p,by have:d.length+0+10 * f≤500:=l;exact this,w⟩
 |x::rr,q::a,v::b,d,M,h,g,r,p,l,w,z=>by have m:=MO.put (f:=f) x r p (by simp at l;omega) w (z v (by simp));rw[NT,Nb,Mx];refine MO.hand rr a b _ _ (by simpa using h) (by simpa using g) m.r m.p ?_ m.w fun y hy=>z y (by simp[hy]);have:=kJ d (.inr x) (J0 v);simp at l;show(bK d (.inr x) (J0 v)).length+rr.length+10 * f≤500;omega
theorem jy(b:w6):(PV.tup (j6 b)).pure=true:=by rw[PV.pure];exact bt b
theorem Dq(k f lp l1:Nat)(B:List Pc)(t:List PO)(ht:aT t=true)(x:List Nat)(ps vs:List G7)(q:Pc)(l:List Nd){d:List (PK×PV)}{M:Mf}{v:PV}(h:MO f d M)(hv:v.pure=true)(hp:∀p∈ps,wp p=true)(hq:look B x=some q)(hn:q.ns.length=ps.length)(hl:ps.length≤100)(e:Nm M ps=some vs)
  (e1:X_ (k+3) .b_ [.ref 1,.tup (j6 q.b),H9 (Nb [] (NT q.ns ps vs)) .non] (hJ D0 lp B t)=.ok (.tup (l.map nd)) (hJ D0 l1 B t)):
  X_ (k+4) .f9 [.ref 1,nd (.use x ps),H9 d v] (hJ D0 lp B t)=.ok (.tup (l.map nd)) (hJ D0 l1 B t):=by
 have hS:=dX h.p hv;obtain⟨t1,t2,t3⟩:=xD q.ns ps vs hn (ft e);have iu:=El (k+1) (H9 d v) .non (.str tU) (.str x) (.str tI) (.str q.n) (v9 q.m) (.tup (j6 q.b)) hS (NT q.ns ps vs) (sD h q.ns ps vs hp e) (by omega);rw[t1,t2]at iu;have sc:∀g,bO (F (k+3) .o7) [nd (.use x ps),pc q,H9 d v] g=.ok (H9 (Nb [] (NT q.ns ps vs)) .non) g:=fun g=>aZ g (by rw[aq,bz,aq,eJ,aq,hS];rfl) (by rw[nd];exact iu);show gC (aP (F (k+3)) (X_ (k+3))) 3 8 [.ref 1,nd (.use x ps),H9 d v] (hJ D0 lp B t)=_;simp only[EX,gC,aP,aG _ hS,xh,xj,JR,JQ hq,sc,e1];have e:(hJ D0 lp B t).length=3+t.length:=by simp[hJ];omega
 rw[e];exact oA (by rw[PV.pure];exact bQ l) ht
theorem AU(k f lp l1:Nat)(B:List Pc)(t:List PO)(ht:aT t=true)(x:List Nat)(ps vs:List G7)(hs:List (List Nat))(b:w6)(q:Pc)(l:List Nd){d:List (PK×PV)}{M:Mf}{v:PV}(h:MO f d M)(hv:v.pure=true)(hp:∀p∈ps,wp p=true)(hq:look B x=some q)(hn:q.ns.length=ps.length)(hl:ps.length≤100)(e:Nm M ps=some vs)
  (e1:X_ (k+3) .b_ [.ref 1,.tup (j6 q.b),H9 (Nb [] (NT q.ns ps vs)) (.tup [nms hs,.tup (j6 b),H9 d v])] (hJ D0 lp B t)=.ok (.tup (l.map nd)) (hJ D0 l1 B t)):
  X_ (k+4) .f9 [.ref 1,nd (.j8 x ps hs b),H9 d v] (hJ D0 lp B t)=.ok (.tup (l.map nd)) (hJ D0 l1 B t):=by
 have hS:=dX h.p hv;obtain⟨t1,t2,t3⟩:=xD q.ns ps vs hn (ft e);have iu:=Hp (k+1) (H9 d v) (nms hs) (.tup (j6 b)) (.str tU) (.str x) (.str tI) (.str q.n) (v9 q.m) (.tup (j6 q.b)) hS (NT q.ns ps vs) (sD h q.ns ps vs hp e) (by omega) (bP _) (jy b) rfl ⟨rfl,rfl,rfl,rfl,mY q.m,jy q.b⟩;rw[t1,t2]at iu;have sc:∀g,bO (F (k+3) .o7) [nd (.j8 x ps hs b),pc q,H9 d v] g=.ok (H9 (Nb [] (NT q.ns ps vs)) (.tup [nms hs,.tup (j6 b),H9 d v])) g:=fun g=>aZ g (by rw[aq,bz,aq,eJ,aq,hS];rfl) (by rw[nd];exact iu);show gC (aP (F (k+3)) (X_ (k+3))) 3 8 [.ref 1,nd (.j8 x ps hs b),H9 d v] (hJ D0 lp B t)=_;simp only[EX,gC,aP,aG _ hS,xh,xj,JR,JQ hq,sc,e1];have e:(hJ D0 lp B t).length=3+t.length:=by simp[hJ];omega
 rw[e];exact oA (by rw[PV.pure];exact bQ l) ht
theorem AY(k f lp l1:Nat)(B:List Pc)(t:List PO)(ht:aT t=true)(ps vs:List G7)(hs:List (List Nat))(b:w6)(l:List Nd){d d0:List (PK×PV)}{M:Mf}{v:PV}(h:MO f d M)(p0:aS d0=true)(hv:v.pure=true)(hp:∀p∈ps,wp p=true)(hn:hs.length=ps.length)(hl:d0.length+ps.length≤1000)(e:Nm M ps=some vs)
  (e1:X_ (k+3) .b_ [.ref 1,.tup (j6 b),H9 (Nb d0 (NT hs ps vs)) v] (hJ D0 lp B t)=.ok (.tup (l.map nd)) (hJ D0 l1 B t)):
  X_ (k+4) .f9 [.ref 1,nd (.body ps),H9 d (.tup [nms hs,.tup (j6 b),H9 d0 v])] (hJ D0 lp B t)=.ok (.tup (l.map nd)) (hJ D0 l1 B t):=by
 obtain⟨t1,t2,t3⟩:=xD hs ps vs hn (ft e);have q1:(PV.tup [nms hs,.tup (j6 b),H9 d0 v]).pure=true:=by rw[PV.pure,aq,aq,aq,bP,jy,dX p0 hv];rfl
 have hS:=dX h.p q1;have ib:=En (k+1) d0 v (nms hs) (.tup (j6 b)) d p0 hv (bP _) (jy b) h.p (NT hs ps vs) t1.symm (sD h hs ps vs hp e) (by omega);rw[t2]at ib;have i1:∀g,d7 (H9 d (.tup [nms hs,.tup (j6 b),H9 d0 v])) (.int 1) g=.ok (.tup [nms hs,.tup (j6 b),H9 d0 v]) g:=fun g=>by show Res.ok (am g _) g=_;rw[aG g q1]
 have i2:∀g,d7 (.tup [nms hs,.tup (j6 b),H9 d0 v]) (.int 1) g=.ok (.tup (j6 b)) g:=fun g=>by show Res.ok (am g _) g=_;rw[aG g (jy b)]
 have pp:(PV.tup (de ps)).pure=true:=by rw[PV.pure];exact aQ ps
 have sc:∀g,bO (F (k+3) .q9) [.tup (de ps),H9 d (.tup [nms hs,.tup (j6 b),H9 d0 v])] g=.ok (H9 (Nb d0 (NT hs ps vs)) v) g:=fun g=>aZ g (by rw[aq,pp,aq,hS];rfl) ib;show gC (aP (F (k+3)) (X_ (k+3))) 3 8 [.ref 1,nd (.body ps),H9 d (.tup [nms hs,.tup (j6 b),H9 d0 v])] (hJ D0 lp B t)=_;simp only[EX,gC,aP,JI,aG _ hS,aG _ q1,xh,xj,i1,i2,sc,e1];have e:(hJ D0 lp B t).length=3+t.length:=by simp[hJ];omega
 rw[e];exact oA (by rw[PV.pure];exact bQ l) ht
end
mutual
def wF:Nd→Bool
 |.text s=>sg s
 |.place p w=>sg p.a&&(H_ p.f&&sg w)
 |.loop n p b t=>sg n&&(sg p.a&&(H_ p.f&&(RD b&&sg t)))
 |.choice p y z=>sg p.a&&(H_ p.f&&(RD y&&RD z))
 |_=>false
def RD:w6→Bool
 |.nil=>true
 |.cons n r=>wF n&&RD r
end
structure FO(x:List Nd)(c d:Nat):Prop where
 l:x.length≤c
 t:Lw x≤1000 * c
 w:∀n∈x,wF n=true∧dN n≤d
theorem FO.le{l:List Nd}{c d c' d':Nat}(h:FO l c d)(hc:c≤c')(hd:d≤d'):FO l c' d':=⟨Nat.le_trans h.l hc,Nat.le_trans h.t (Nat.mul_le_mul_left _ hc),fun n hn=>⟨(h.w n hn).1,Nat.le_trans (h.w n hn).2 hd⟩⟩
theorem FO.nil:FO [] 0 0:=⟨Nat.le_refl _,Nat.le_refl _,fun _ h=>(nomatch h)⟩
theorem su(l:List Nd)(n:Nd):(hM l n).length≤l.length+1∧Lw (hM l n)=Lw l+O4 n∧∀d,(∀x∈l,wF x=true∧dN x≤d)→wF n=true∧dN n≤d→∀x∈hM l n,wF x=true∧dN x≤d:=by
 have ap:(l++ [n]).length≤l.length+1∧Lw (l++ [n])=Lw l+O4 n∧∀d,(∀x∈l,wF x=true∧dN x≤d)→wF n=true∧dN n≤d→∀x∈l++ [n],wF x=true∧dN x≤d:=
  ⟨by simp,by rw[iq];rfl,fun d h g x hx=>(List.mem_append.mp hx).elim (h x) fun z=>by rw[List.mem_singleton.mp z];exact g⟩
 cases t:Qf n with
 |false=>rw[yO t];exact ap
 |true=>
  obtain⟨s,rfl⟩:∃s,n=.text s:=by cases n<;>first|exact⟨_,rfl⟩|cases t
  rcases List.eq_nil_or_concat l with rfl|⟨B,m,rfl⟩
  ·rw[CL];exact ap
  ·rw[List.concat_eq_append]at ap ⊢
   cases tm:Qf m with
   |false=>rw[CJ tm];exact ap
   |true=>
    obtain⟨u,rfl⟩:∃u,m=.text u:=by cases m<;>first|exact⟨_,rfl⟩|cases tm
    rw[CK];refine⟨by simp,?_,fun d h g x hx=>?_⟩
    ·rw[iq,iq];simp only[Lw,List.map_cons,List.map_nil,List.sum_cons,List.sum_nil,O4,List.length_append];omega
    ·rcases List.mem_append.mp hx with z|z
     ·exact h x (List.mem_append_left _ z)
     ·rw[List.mem_singleton.mp z];have a:=(h (.text u) (by simp)).1;have b:=g.1;rw[wF]at a b ⊢;exact⟨AB a b,Nat.zero_le _⟩
theorem qz:∀(m acc:List Nd),(m.foldl hM acc).length≤acc.length+m.length∧Lw (m.foldl hM acc)=Lw acc+Lw m∧∀d,(∀x∈acc,wF x=true∧dN x≤d)→(∀x∈m,wF x=true∧dN x≤d)→∀x∈m.foldl hM acc,wF x=true∧dN x≤d
 |[],acc=>⟨Nat.le_refl _,by simp[Lw],fun d h _=>h⟩
 |n::r,acc=>by obtain⟨a1,a2,a3⟩:=su acc n;obtain⟨b1,b2,b3⟩:=qz r (hM acc n);rw[List.foldl_cons];refine⟨by simp;omega,?_,fun d h g=>b3 d (a3 d h (g n (by simp))) fun x hx=>g x (by simp[hx])⟩;rw[b2,a2];simp only[Lw,List.map_cons,List.sum_cons];omega
theorem FO.add{m acc:List Nd}{c d c0 d0:Nat}(h:FO acc c0 d0)(g:FO m c d):FO (m.foldl hM acc) (c0+c) (max d0 d):=by obtain⟨a,b,e⟩:=qz m acc;have:=h.l;have:=g.l;have:=h.t;have:=g.t;exact⟨by omega,by rw[b];omega,e _ (fun x hx=>⟨(h.w x hx).1,Nat.le_trans (h.w x hx).2 (Nat.le_max_left _ _)⟩) fun x hx=>⟨(g.w x hx).1,Nat.le_trans (g.w x hx).2 (Nat.le_max_right _ _)⟩⟩
theorem ym(D0:PV)(lp:Nat)(B:List Pc)(t:List PO)(o:PO):(hJ D0 lp B (t++ [o]))[3+t.length]? =some o:=by unfold hJ;rw[Nat.add_comm,List.getElem?_cons_succ,List.getElem?_cons_succ,List.getElem?_cons_succ,List.getElem?_append_right (Nat.le_refl _)];simp
theorem Hr(D0:PV)(lp:Nat)(B:List Pc)(t:List PO)(o o':PO):(hJ D0 lp B (t++ [o])).set (3+t.length) o'=hJ D0 lp B (t++ [o']):=by unfold hJ;rw[Nat.add_comm,List.set_cons_succ,List.set_cons_succ,List.set_cons_succ,List.set_append_right _ _ (Nat.le_refl _)];simp
theorem vO(D0:PV)(K lp:Nat)(B:List Pc)(t:List PO)(C:CC)(a b:Option PV)(S x4:Option PV):∀(m acc:List Nd)(x5:Option PV),acc.length+m.length<1000000→Lw acc+Lw m≤1000000→∃y5,aR (D_ 5) (ch C (L (K+1))) (m.map nd) [a,b,S,some (.ref (3+t.length)),x4,x5] (hJ D0 lp B (t++ [.lst (acc.map nd)]))=.nx [a,b,S,some (.ref (3+t.length)),x4,y5] (hJ D0 lp B (t++ [.lst ((m.foldl hM acc).map nd)]))
 |[],acc,x5,_,_=>⟨x5,rfl⟩
 |n::r,acc,x5,hl,ht=>by
  have tl:Lw (n::r)=O4 n+Lw r:=by simp[Lw]
  rw[tl]at ht;obtain⟨a1,a2,_⟩:=su acc n;rw[List.length_cons]at hl;obtain⟨y5,e⟩:=vO D0 K lp B t C a b S x4 r (hM acc n) (some (nd n)) (by omega) (by omega);refine⟨y5,?_⟩;have cl:=bY (fn:=L (K+1) .H7) [] [nd n] (h:=hJ D0 lp B (t++ [.lst (acc.map nd)])) (i:=3+t.length) (o:=.lst (acc.map nd)) (o':=.lst ((hM acc n).map nd)) (v:=.non) rfl (by rw[aq,bz];rfl) (ym D0 lp B t _) (by simp[PO.pure,bQ]) (Ie K acc n (by omega) (by omega)) rfl (by simp[PO.pure,bQ]);rw[Hr]at cl;have dr:am (hJ D0 lp B (t++ [.lst (acc.map nd)])) (.ref (3+t.length))=.ref (3+t.length):=HI (ym D0 lp B t _)
  have st:ch C (L (K+1)) [a,b,S,some (.ref (3+t.length)),x4,some (nd n)] (hJ D0 lp B (t++ [.lst (acc.map nd)]))=.nx [a,b,S,some (.ref (3+t.length)),x4,some (nd n)] (hJ D0 lp B (t++ [.lst ((hM acc n).map nd)])):=by have Vm:w7 (L (K+1) .H7) [.ref (3+t.length),nd n] (hJ D0 lp B (t++ [.lst (acc.map nd)]))=.ok .non (hJ D0 lp B (t++ [.lst ((hM acc n).map nd)])):=cl;simp only[EX,ch,dr,Vm]
  rw[List.map_cons,List.foldl_cons];exact Eq.trans (cI rfl st) e
theorem xO{o:PO}:∀{t:List PO},aT t=true→o.pure=true→aT (t++ [o])=true
 |[],_,h=>by show(o.pure&&true)=true;rw[h];rfl
 |a::r,h,g=>by rw[aT,Bool.and_eq_true]at h;show(a.pure&&aT (r++ [o]))=true;rw[h.1,xO h.2 g];rfl
def NO(B:List Pc)(f:Nat)(M:Mf)(hd:Hj)(S:PV)(K:Nat)(X:Cx):Prop:=∀(n:Nd)(lp c d:Nat),Mh B (cX B f) (er hd) n=some (c,d)→okN X n=true→wN n=true→lp+c≤900→∃l M_,jN B (J B f) M hd lp n=some (l,M_)∧M_≤lp+c∧FO l c d∧∀(D0:PV) t,aT t=true→X_ K .f9 [.ref 1,nd n,S] (hJ D0 lp B t)=.ok (.tup (l.map nd)) (hJ D0 M_ B t)
theorem AK{B:List Pc}{f K:Nat}{M:Mf}{hd:Hj}{S:PV}{X:Cx}(no:NO B f M hd S (K+1) X)(hS:S.pure=true)(bv:Option PV):∀(b:w6)(lp:Nat)(acc:List Nd)(c d c0 d0:Nat),cR (Mh B (cX B f) (er hd)) b=some (c,d)→Lh X b=true→wS b=true→lp+c≤900→c0+c≤900→FO acc c0 d0→
  ∃l M_,jR (jN B (J B f) M hd) lp acc b=some (l,M_)∧M_≤lp+c∧FO l (c0+c) (max d0 d)∧∀(D0:PV) t,aT t=true→∀x4 x5,∃y4 y5,aR (D_ 4) (bM (F (K+1)) (L (K+1)) (X_ (K+1))) (j6 b) [some (.ref 1),bv,some S,some (.ref (3+t.length)),x4,x5] (hJ D0 lp B (t++ [.lst (acc.map nd)]))=.nx [some (.ref 1),bv,some S,some (.ref (3+t.length)),y4,y5] (hJ D0 M_ B (t++ [.lst (l.map nd)]))
 |.nil,lp,acc,c,d,c0,d0,h,_,_,_,_,fo=>by
  cases h
  exact⟨acc,lp,rfl,Nat.le_refl _,fo.le (Nat.le_refl _) (Nat.le_max_left _ _),fun D0 t ht x4 x5=>⟨x4,x5,rfl⟩⟩
 |.cons n r,lp,acc,c,d,c0,d0,h,ok,w,hl,h0,fo=>by
  rw[cR]at h;rw[Lh,Bool.and_eq_true]at ok;rw[wS,Bool.and_eq_true]at w
  split at h
  ·rename_i a b e1 e2
   cases h
   obtain⟨m,l1,j1,j2,j3,j4⟩:=no n lp a.1 a.2 e1 ok.1 w.1 (by omega);obtain⟨l,l2,k1,k2,k3,k4⟩:=AK no hS bv r l1 (m.foldl hM acc) b.1 b.2 (c0+a.1) (max d0 a.2) e2 ok.2 w.2 (by omega) (by omega) (fo.add j3);refine⟨l,l2,by rw[jR,j1];exact k1,by omega,k3.le (by omega) (by rw[Nat.max_assoc];exact Nat.le_refl _),fun D0 t ht x4 x5=>?_⟩;have pt:aT (t++ [.lst (acc.map nd)])=true:=xO ht (by simp[PO.pure,bQ]);obtain⟨y5,al⟩:=vO D0 K l1 B t (F (K+1)) (some (.ref 1)) bv (some S) (some (nd n)) m acc x5 (by have:=fo.l;have:=j3.l;omega) (by have:=fo.t;have:=j3.t;omega);obtain⟨z4,z5,e⟩:=k4 D0 t ht (some (nd n)) y5;refine⟨z4,z5,?_⟩;have pm:(PV.tup (m.map nd)).pure=true:=by rw[PV.pure];exact bQ m
   have st:bM (F (K+1)) (L (K+1)) (X_ (K+1)) [some (.ref 1),bv,some S,some (.ref (3+t.length)),some (nd n),x5] (hJ D0 lp B (t++ [.lst (acc.map nd)]))=.nx [some (.ref 1),bv,some S,some (.ref (3+t.length)),some (nd n),y5] (hJ D0 l1 B (t++ [.lst ((m.foldl hM acc).map nd)])):=by simp only[EX,bM,aG _ hS,xj,xh,j4 D0 _ pt,al]
   rw[j6];exact Eq.trans (cI rfl st) e
  ·cases h
inductive Rh(P:List Pe)(f:Nat):Option Int→Hj→PV→Prop where
 |nil:Rh P f none .nil .non
 |cons {h ns:List (List Nat)} {b:w6} {M:Mf} {r:Hj} {d:List (PK×PV)} {v:PV} {m:Option Int} (mo:MO f d M) (cov:∀x∈ns,(M x).isSome=true) (ok:Lh (P,m,ns++h) b=true) (wb:wS b=true) (hl:h.length≤10) (t:Rh P f m r v):Rh P f (some (h.length:Int)) (.cons h b M r) (.tup [nms h,.tup (j6 b),H9 d v])
theorem Rh.mono{P:List Pe}{f:Nat}{m:Option Int}{hd:Hj}{v:PV}(h:Rh P (f+1) m hd v):Rh P f m hd v:=by
 induction h with
 |nil=>exact .nil
 |cons mo cov ok wb hl _ ih=>exact .cons mo.mono cov ok wb hl ih
theorem Rh.pure{P:List Pe}{f:Nat}{m:Option Int}{hd:Hj}{v:PV}(h:Rh P f m hd v):v.pure=true:=by
 induction h with
 |nil=>rfl
 |cons mo _ _ _ _ _ ih=>rw[PV.pure,aq,aq,aq,bP,jy,dX mo.p ih];rfl
structure BO(B:List Pc):Prop where
 r:∀x q,look B x=some q→Lh (B.map LR,q.m,q.ns) q.b=true∧wS q.b=true∧q.ns.length≤10∧∀i,q.m=some i→i≤10
theorem oS{M:Mf}{p:G7}(h:(M p.a).isSome=true):∃q,st M p=some q:=by
 unfold st
 cases e:M p.a with
 |none=>rw[e]at h;cases h
 |some m=>exact⟨_,rfl⟩
theorem mI{M:Mf}:∀{ps:List G7},(∀p∈ps,(M p.a).isSome=true)→∃vs,Nm M ps=some vs
 |[],_=>⟨[],rfl⟩
 |p::r,h=>by obtain⟨q,e⟩:=oS (h p (by simp));obtain⟨l,e2⟩:=mI (ps:=r) fun x hx=>h x (by simp[hx]);exact⟨q::l,by rw[Nm,e,e2]⟩
theorem kA{a:Option (Nat×Nat)}{c d:Nat}(h:QD a=some (c,d)):∃c' d',a=some (c',d')∧c=c'+1∧d=d'+1:=by
 cases a with
 |none=>cases h
 |some x=>cases h;exact⟨_,_,rfl,rfl,rfl⟩
theorem Fv{g:Nd→Option (Nat×Nat)}(z:w6):∀(y:w6)(c d:Nat),cR g (M7 y z)=some (c,d)→∃c1 d1 c2 d2,cR g y=some (c1,d1)∧cR g z=some (c2,d2)∧c=c1+c2∧d1≤d∧d2≤d
 |.nil,c,d,h=>⟨0,0,c,d,rfl,h,by omega,Nat.zero_le _,Nat.le_refl _⟩
 |.cons n r,c,d,h=>by
  rw[M7,cR]at h
  split at h
  ·rename_i a b e1 e2;obtain⟨c1,d1,c2,d2,x1,x2,x3,x4,x5⟩:=Fv z r b.1 b.2 e2
   cases h
   refine⟨a.1+c1,max a.2 d1,c2,d2,by rw[cR,e1,x1],x2,by omega,?_,?_⟩
   ·exact Nat.max_le.mpr ⟨Nat.le_max_left _ _,Nat.le_trans x4 (Nat.le_max_right _ _)⟩
   ·exact Nat.le_trans x5 (Nat.le_max_right _ _)
  ·cases h
theorem FJ(n:Nat)(h:n≤1000):sg (Oz n)=true:=by
 have:∀n:Nat,n≤1000→sg (Oz n)=true:=by decide+kernel
 exact this n h
theorem FO.dS{l:List Nd}{c d:Nat}(h:FO l c d):dS (H6 l)≤d∧RD (H6 l)=true:=by
 have:=h.w;clear h
 induction l with
 |nil=>exact⟨Nat.zero_le _,rfl⟩
 |cons n r ih=>obtain⟨a,b⟩:=ih fun x hx=>this x (by simp[hx]);obtain⟨a1,b1⟩:=this n (by simp);rw[H6,Ly.dS,RD,a1,b];exact⟨Nat.max_le.mpr ⟨b1,a⟩,rfl⟩
theorem FO.one{n:Nd}{c d:Nat}(h:wF n=true)(hd:dN n≤d)(hc:1≤c)(ht:O4 n≤1000 * c):FO [n] c d:=⟨hc,by simpa[Lw]using ht,fun x hx=>by rw[List.mem_singleton.mp hx];exact⟨h,hd⟩⟩
theorem vV{ps:List G7}(h:wps ps=true):(∀p∈ps,wp p=true)∧ps.length<60:=by unfold wps at h;rw[Bool.and_eq_true,decide_eq_true_eq]at h;exact⟨List.all_eq_true.mp h.1,h.2⟩
theorem vZ:∀(h:List (List Nat))(vs:List G7)(M:Mf)(y:List Nat),y∉h→Mx M h vs y=M y
 |[],_,_,_,_=>by unfold Mx;rfl
 |x::r,[],_,_,_=>rfl
 |x::r,v::u,M,y,h=>by rw[Mx,vZ r u _ y fun z=>h (List.mem_cons_of_mem _ z),up1,if_neg fun z=>h (by rw[z];exact List.mem_cons_self)]
theorem qG:∀(h:List (List Nat))(vs:List G7)(M:Mf),vs.length=h.length→∀y∈h,(Mx M h vs y).isSome=true
 |x::r,v::u,M,l,y,hy=>by
  rw[Mx]
  by_cases z:y∈r
  ·exact qG r u _ (by simpa using l) y z
  ·rw[vZ r u _ y z];rcases List.mem_cons.mp hy with e|e
   ·rw[e,up1,if_pos rfl];rfl
   ·exact absurd e z
def ES(B:List Pc)(f:Nat):Prop:=∀(K lp:Nat)(b:w6)(d:List (PK×PV))(M:Mf)(hd:Hj)(v:PV)(ns:List (List Nat))(m:Option Int)(c dp:Nat),3 * f+3≤K→cX B f b (er hd)=some (c,dp)→MO f d M→(∀x∈ns,(M x).isSome=true)→Rh (B.map LR) f m hd v→Lh (B.map LR,m,ns) b=true→wS b=true→lp+c≤900→
 ∃l M_,J B f lp b M hd=some (l,M_)∧M_≤lp+c∧FO l c dp∧∀(D0:PV) t,aT t=true→X_ K .b_ [.ref 1,.tup (j6 b),H9 d v] (hJ D0 lp B t)=.ok (.tup (l.map nd)) (hJ D0 M_ B t)
theorem DE{B:List Pc}(hB:BO B)(f:Nat)(ih:ES B f)(K:Nat)(hK:3 * f+5≤K)(d:List (PK×PV))(M:Mf)(hd:Hj)(v:PV)(ns:List (List Nat))(m:Option Int)(mo:MO (f+1) d M)(cov:∀x∈ns,(M x).isSome=true)(hv:Rh (B.map LR) (f+1) m hd v):NO B f M hd (H9 d v) K (B.map LR,m,ns):=by
 intro n lp c dp hc ok w hl;have pv:=hv.pure;have m1:=mo.mono;have h1:=hv.mono
 cases n with
 |text s=>
  cases hc
  obtain⟨K',rfl⟩:∃K',K=K'+1:=⟨K - 1,by omega⟩
  rw[wN,Bool.and_eq_true,decide_eq_true_eq]at w;exact⟨[.text s],lp,rfl,by omega,FO.one (by rw[wF];exact w.1) (Nat.zero_le _) (Nat.le_refl _) (by rw[O4];omega),fun D0 t ht=>AV K' lp B t ht s _ (dX mo.p pv)⟩
 |place p s=>
  cases hc
  obtain⟨K',rfl⟩:∃K',K=K'+2:=⟨K - 2,by omega⟩
  rw[okN]at ok;rw[wN,Bool.and_eq_true]at w;obtain⟨q,e⟩:=oS (cov _ (eH ok p (by simp)));obtain⟨a1,a2,_⟩:=Da mo w.1 e;refine⟨[.place q s],lp,by rw[jN,e],by omega,FO.one ?_ (Nat.zero_le _) (Nat.le_refl _) (Nat.zero_le _),fun D0 t ht=>zm K' _ lp B t ht p q s mo pv w.1 e⟩;rw[wF,a1,a2,w.2];rfl
 |loop x p b s=>
  obtain⟨c',d',e0,rfl,rfl⟩:=kA hc;obtain⟨K',rfl⟩:∃K',K=K'+3:=⟨K - 3,by omega⟩
  rw[okN,Bool.and_eq_true]at ok;rw[wN,Bool.and_eq_true,Bool.and_eq_true,Bool.and_eq_true]at w;obtain⟨q,e⟩:=oS (cov _ (eH ok.1 p (by simp)));obtain⟨a1,a2,_⟩:=Da mo w.2.1 e;have VL:=mo.l;have vs:=FJ lp (by omega);have m2:MO f (bK d (.inr x) (J0 ⟨Oz lp,[]⟩)) (up1 M x ⟨Oz lp,[]⟩):=MO.put x m1.r m1.p (by omega) m1.w ⟨vs,rfl,by simp;omega⟩
  obtain⟨l,l1,j1,j2,j3,j4⟩:=ih (K'+1) (lp+1) b _ _ hd v (ns++ [x]) m c' d' (by omega) e0 m2 (fun y hy=>by
   unfold up1
   by_cases z:y=x
   ·rw[if_pos z];rfl
   ·rw[if_neg z];exact cov y ((List.mem_append.mp hy).resolve_right fun q=>z (List.mem_singleton.mp q))) h1 ok.2 w.2.2.1 (by omega)
  obtain⟨f1,f2⟩:=j3.dS;refine⟨[.loop (Oz lp) q (H6 l) s],l1,by rw[jN,e,j1],by omega,FO.one ?_ ?_ (by omega) (Nat.zero_le _),fun D0 t ht=>AX K' _ lp l1 B t ht x p q b s l mo pv w.2.1 (by omega) e (j4 D0 t ht)⟩
  ·rw[wF,vs,a1,a2,f2,w.2.2.2];rfl
  ·rw[dN];omega
 |choice p y z=>
  obtain⟨c',d',e0,rfl,rfl⟩:=kA hc;obtain⟨K',rfl⟩:∃K',K=K'+2:=⟨K - 2,by omega⟩
  rw[okN,Bool.and_eq_true,Bool.and_eq_true]at ok;rw[wN,Bool.and_eq_true,Bool.and_eq_true]at w;obtain⟨q,e⟩:=oS (cov _ (eH ok.1 p (by simp)));obtain⟨a1,a2,_⟩:=Da mo w.1 e
  obtain⟨f',rfl⟩:∃f',f=f'+1:=by
   cases f with
   |zero=>cases e0
   |succ f'=>exact⟨f',rfl⟩
  rw[cX]at e0;obtain⟨c1,d1,c2,d2,x1,x2,x3,x4,x5⟩:=Fv z y c' d' e0;obtain⟨ly,l1,j1,j2,j3,j4⟩:=ih (K'+1) lp y d M hd v ns m c1 d1 (by omega) (by rw[cX];exact x1) m1 cov h1 ok.2.1 w.2.1 (by omega);obtain⟨lz,l2,k1,k2,k3,k4⟩:=ih (K'+1) l1 z d M hd v ns m c2 d2 (by omega) (by rw[cX];exact x2) m1 cov h1 ok.2.2 w.2.2 (by omega);obtain⟨f1,f2⟩:=j3.dS;obtain⟨g1,g2⟩:=k3.dS;refine⟨[.choice q (H6 ly) (H6 lz)],l2,by rw[jN,e,j1];dsimp only;rw[k1],by omega,FO.one ?_ ?_ (by omega) (Nat.zero_le _),fun D0 t ht=>wI K' _ lp l1 l2 B t ht p q y z ly lz mo pv w.1 e (j4 D0 t ht) (k4 D0 t ht)⟩
  ·rw[wF,a1,a2,f2,g2];rfl
  ·rw[dN];have:max (dS (H6 ly)) (dS (H6 lz))≤d':=Nat.max_le.mpr ⟨by omega,by omega⟩;omega
 |use x ps=>
  rw[Mh]at hc;obtain⟨K',rfl⟩:∃K',K=K'+4:=⟨K - 4,by omega⟩
  rw[okN,Bool.and_eq_true]at ok;rw[wN,Bool.and_eq_true]at w;obtain⟨RB,Xd⟩:=vV w.2
  split at hc
  ·cases hc
  ·rename_i q hq;obtain⟨c',d',e0,rfl,rfl⟩:=kA hc;obtain⟨u1,u2⟩:=xV hq ok.2;obtain⟨o1,o2,o3,o4⟩:=hB.r x q hq;obtain⟨vs,e⟩:=mI fun p hp=>cov _ (eH ok.1 p hp);have VL:=mo.l;have m2:MO f (Nb [] (NT q.ns ps vs)) (Mx no q.ns vs):=MO.hand q.ns ps vs [] no u1 (ft e) (fun x=>rfl) rfl (by simp;omega) (fun x q h=>by cases h) (xE mo ps vs RB e);obtain⟨l,l1,j1,j2,j3,j4⟩:=ih (K'+3) lp q.b _ _ .nil .non q.ns q.m c' d' (by omega) e0 m2 (qG q.ns vs no (by rw[ft e,u1])) (by rw[u2];exact .nil) o1 o2 (by omega);exact⟨l,l1,by rw[jN,hq,e];exact j1,by omega,j3.le (by omega) (by omega),fun D0 t ht=>Dq K' _ lp l1 B t ht x ps vs q l mo pv RB hq u1 (by omega) e (j4 D0 t ht)⟩
 |j8 x ps hs b=>
  rw[Mh]at hc;obtain⟨K',rfl⟩:∃K',K=K'+4:=⟨K - 4,by omega⟩
  rw[okN,Bool.and_eq_true,Bool.and_eq_true,Bool.and_eq_true]at ok;rw[wN,Bool.and_eq_true,Bool.and_eq_true,Bool.and_eq_true,Bool.and_eq_true]at w;obtain⟨RB,Xd⟩:=vV w.2.1
  split at hc
  ·cases hc
  ·rename_i q hq;obtain⟨c',d',e0,rfl,rfl⟩:=kA hc;obtain⟨u1,u2⟩:=xV hq ok.2.1;obtain⟨o1,o2,o3,o4⟩:=hB.r x q hq;obtain⟨vs,e⟩:=mI fun p hp=>cov _ (eH ok.1 p hp);have VL:=mo.l;have h10:=o4 _ u2;have m2:MO f (Nb [] (NT q.ns ps vs)) (Mx no q.ns vs):=MO.hand q.ns ps vs [] no u1 (ft e) (fun x=>rfl) rfl (by simp;omega) (fun x q h=>by cases h) (xE mo ps vs RB e);obtain⟨l,l1,j1,j2,j3,j4⟩:=ih (K'+3) lp q.b _ _ (.cons hs b M hd) (.tup [nms hs,.tup (j6 b),H9 d v]) q.ns q.m c' d' (by omega) e0 m2 (qG q.ns vs no (by rw[ft e,u1])) (by rw[u2];exact .cons m1 cov ok.2.2.2 w.2.2.2.2 (by omega) h1) o1 o2 (by omega);exact⟨l,l1,by rw[jN,hq,e];exact j1,by omega,j3.le (by omega) (by omega),fun D0 t ht=>AU K' _ lp l1 B t ht x ps vs hs b q l mo pv RB hq u1 (by omega) e (j4 D0 t ht)⟩
 |body ps=>
  obtain⟨K',rfl⟩:∃K',K=K'+4:=⟨K - 4,by omega⟩
  rw[okN,Bool.and_eq_true,decide_eq_true_eq]at ok;rw[wN]at w;obtain⟨RB,Xd⟩:=vV w
  cases hv with
  |nil=>cases ok.2
  |@cons h2 U3 b2 M2 r2 d2 v2 m2 T5 WW Tg YL hl2 t2=>
   obtain⟨c',d',e0,rfl,rfl⟩:=kA hc;obtain⟨vs,e⟩:=mI fun p hp=>cov _ (eH ok.1 p hp);have ll:h2.length=ps.length:=by have:=ok.2;simp at this;omega
   have VL:=T5.l;have m3:MO f (Nb d2 (NT h2 ps vs)) (Mx M2 h2 vs):=MO.hand h2 ps vs d2 M2 ll (ft e) T5.r T5.p (by omega) T5.mono.w (xE mo ps vs RB e)
   obtain⟨l,l1,j1,j2,j3,j4⟩:=ih (K'+3) lp b2 _ _ r2 v2 (U3++h2) m2 c' d' (by omega) e0 m3 (fun y hy=>by
    by_cases z:y∈h2
    ·exact qG h2 vs M2 (by rw[ft e,ll]) y z
    ·rw[vZ h2 vs M2 y z];exact WW y ((List.mem_append.mp hy).resolve_right z)) t2.mono Tg YL (by omega)
   exact⟨l,l1,by show(match Nm M ps with|some vs=>J B f lp b2 (Mx M2 h2 vs) r2|none=>none)=_;rw[e];exact j1,by omega,j3.le (by omega) (by omega),fun D0 t ht=>AY K' _ lp l1 B t ht ps vs h2 b2 l mo T5.p t2.pure RB ll (by omega) e (j4 D0 t ht)⟩
theorem Fp{B:List Pc}(hB:BO B):∀f,ES B f
 |0=>fun K lp b d M hd v ns m c dp _ h=>by cases h
 |f+1=>fun K lp b d M hd v ns m c dp hK h mo cov hv ok w hl=>by
  obtain⟨K',rfl⟩:∃K',K=K'+2:=⟨K - 2,by omega⟩
  have no:=DE hB f (Fp hB f) (K'+1) (by omega) d M hd v ns m mo cov hv;have hS:=dX mo.p hv.pure;obtain⟨l,M_,j1,j2,j3,j4⟩:=AK no hS (some (.tup (j6 b))) b lp [] c dp 0 0 h ok w hl (by omega) FO.nil;refine⟨l,M_,j1,j2,j3.le (by omega) (by omega),fun D0 t ht=>?_⟩;obtain⟨y4,y5,e⟩:=j4 D0 t ht none none;show gC (dh (F (K'+1)) (L (K'+1)) (X_ (K'+1))) 3 6 [.ref 1,.tup (j6 b),H9 d v] (hJ D0 lp B t)=_;have en:(hJ D0 lp B t).length=3+t.length:=by simp[hJ];omega
  have mk:∀ ρ,cN gu au ρ (hJ D0 lp B t)=.ok (.ref (3+t.length)) (hJ D0 lp B (t++ [.lst []])):=fun ρ=>by show Res.ok (PV.ref (hJ D0 lp B t).length) (hJ D0 lp B t++ [PO.lst []])=_;rw[en];rfl
  have tp:dG [.ref (3+t.length)] (hJ D0 M_ B (t++ [.lst (l.map nd)]))=.ok (.tup (l.map nd)) (hJ D0 M_ B (t++ [.lst (l.map nd)])):=by show(match(match(hJ D0 M_ B (t++ [PO.lst (l.map nd)]))[3+t.length]? with|some (PO.lst xs)=>some xs|_=>none)with|some xs=>Res.ok (PV.tup xs) (hJ D0 M_ B (t++ [PO.lst (l.map nd)]))|none=>Res.bad)=_;rw[ym]
  have dr:am (hJ D0 M_ B (t++ [.lst (l.map nd)])) (.ref (3+t.length))=.ref (3+t.length):=HI (ym D0 M_ B t _);have e':aR (D_ 4) (bM (F (K'+1)) (L (K'+1)) (X_ (K'+1))) (j6 b) [some (.ref 1),some (.tup (j6 b)),some (H9 d v),some (.ref (3+t.length)),none,none] (hJ D0 lp B (t++ [.lst []]))=.nx [some (.ref 1),some (.tup (j6 b)),some (H9 d v),some (.ref (3+t.length)),y4,y5] (hJ D0 M_ B (t++ [.lst (l.map nd)])):=e
  have s3:aO 3 (cN gu au) [some (.ref 1),some (.tup (j6 b)),some (H9 d v),none,none,none] (hJ D0 lp B t)=.nx [some (.ref 1),some (.tup (j6 b)),some (H9 d v),some (.ref (3+t.length)),none,none] (hJ D0 lp B (t++ [.lst []])):=by unfold aO;rw[mk];rfl
  unfold dh;simp only[gC,List.length_cons,List.length_nil,Nat.reduceAdd,if_true,List.map_cons,List.map_nil,List.cons_append,List.nil_append,Nat.reduceSub,List.replicate,yg,s3,ET];simp only[EX,e',dr,tp,en];exact JY [.lst (l.map nd)] (by rw[PV.pure];exact bQ l) ht
noncomputable def ids(ns:List (List Nat)):List G7:=ns.map fun x=>⟨x,[]⟩
theorem tM(ns:List (List Nat)):(ids ns).length=ns.length:=by simp[ids]
theorem nr(K:Nat)(a b:Option PV):∀(ns:List (List Nat))(d:List (PK×PV))(x3:Option PV),d.length+ns.length≤1000→∃y3,aR (D_ 3) (jD (F K)) (ns.map PV.str) [a,b,some (.ref 0),x3] [.dct d]=.nx [a,b,some (.ref 0),y3] [.dct (Nb d (NT ns (ids ns) (ids ns)))]
 |[],d,x3,_=>⟨x3,rfl⟩
 |x::r,d,x3,h=>by
  rw[List.length_cons]at h;have pl:=kJ d (.inr x) (.tup (Te ⟨x,[]⟩));obtain⟨y3,e⟩:=nr K a b r (bK d (.inr x) (.tup (Te ⟨x,[]⟩))) (some (.str x)) (by omega);have l2:d.length<16777216:=by omega
  refine⟨y3,?_⟩
  have st:jD (F K) [a,b,some (.ref 0),some (.str x)] [.dct d]=.nx [a,b,some (.ref 0),some (.str x)] [.dct (bK d (.inr x) (.tup (Te ⟨x,[]⟩)))]:=by simp only[EX,jD,l2];rfl
  rw[List.map_cons];exact Eq.trans (cI rfl st) e
theorem Dr{E:List Pc}{q:Pc}(h:q.n∉E.map (·.n)):bK (pD E) (.inr q.n) (pc q)=pD (E++ [q]):=by
 unfold bK;rw[if_neg]
 ·unfold pD;rw[List.map_append];rfl
 ·intro z;obtain⟨y,hy,e⟩:=List.any_eq_true.mp z;unfold pD at hy;obtain⟨p,hp,rfl⟩:=List.mem_map.mp hy;have e:=of_decide_eq_true e;injection e with e
  exact h (List.mem_map.mpr ⟨p,hp,e⟩)
theorem rK(K:Nat)(b:Option PV)(d:List (PK×PV)):∀(r E:List Pc)(x2:Option PV),((E++r).map (·.n)).Nodup→E.length+r.length≤1000→∃y2,aR (D_ 2) (di (F K)) (r.map pc) [some (.ref 1),b,x2] [.dct d,.obj 602 [.int 0,.ref 2],.dct (pD E)]=.nx [some (.ref 1),b,y2] [.dct d,.obj 602 [.int 0,.ref 2],.dct (pD (E++r))]
 |[],E,x2,_,_=>⟨x2,by rw[List.append_nil];rfl⟩
 |q::r,E,x2,nd,l=>by
  rw[show E++q::r=(E++ [q])++r by simp]at nd ⊢;obtain⟨y2,e⟩:=rK K b d r (E++ [q]) (some (pc q)) nd (by simp at l ⊢;omega);refine⟨y2,?_⟩
  have nq:q.n∉E.map (·.n):=fun z=>by rw[List.map_append,List.map_append,List.nodup_append,List.nodup_append]at nd;exact nd.1.2.2 _ z _ (by simp) rfl
  have l2:(pD E).length<sizeLine:=by unfold pD;rw[List.length_map];exact Nat.lt_of_le_of_lt (by simp at l;omega:E.length≤1000) (by decide)
  have fl:∀h,sZ 602 1 (.ref 1) (.dct d::.obj 602 [.int 0,.ref 2]::.dct (pD E)::h)=.ok (.ref 2) (.dct d::.obj 602 [.int 0,.ref 2]::.dct (pD E)::h):=fun h=>rfl;have d1:am [.dct d,.obj 602 [.int 0,.ref 2],.dct (pD E)] (.ref 1)=.ref 1:=rfl
  have sd:∀ ρ,mK (pc q) (.ref 2) (.str q.n) ρ [.dct d,.obj 602 [.int 0,.ref 2],.dct (pD E)]=.nx ρ [.dct d,.obj 602 [.int 0,.ref 2],.dct (pD (E++ [q]))]:=fun ρ=>by show(if(pD E).length<sizeLine then SR.nx ρ [.dct d,.obj 602 [.int 0,.ref 2],.dct (bK (pD E) (.inr q.n) (pc q))]else .bad)=_;rw[if_pos l2,Dr nq]
  have st:di (F K) [some (.ref 1),b,some (pc q)] [.dct d,.obj 602 [.int 0,.ref 2],.dct (pD E)]=.nx [some (.ref 1),b,some (pc q)] [.dct d,.obj 602 [.int 0,.ref 2],.dct (pD (E++ [q]))]:=by simp only[EX,di,fl,d1,sd]
  rw[List.map_cons];exact Eq.trans (cI rfl st) e
theorem Ek(k:Nat)(B:List Pc)(d:List (PK×PV))(nd:(B.map (·.n)).Nodup)(l:B.length≤1000):X_ (k+1) .d8 [.ref 1,bk B] [.dct d,.obj 602 []]=.ok .non [.dct d,.obj 602 [.int 0,.ref 2],.dct (pD B)]:=by
 obtain⟨y2,e⟩:=rK k (some (bk B)) d B [] none (by simpa using nd) (by simpa using l);show wo (cL (F k)) 2 3 [.ref 1,bk B] [.dct d,.obj 602 []]=_;have s1:pQ 602 0 (ai 0) aad [some (.ref 1),some (bk B),none] [.dct d,.obj 602 []]=.nx [some (.ref 1),some (bk B),none] [.dct d,.obj 602 [.int 0]]:=rfl;have s2:pQ 602 1 (ai 0) kr [some (.ref 1),some (bk B),none] [.dct d,.obj 602 [.int 0]]=.nx [some (.ref 1),some (bk B),none] [.dct d,.obj 602 [.int 0,.ref 2],.dct (pD [])]:=rfl;have it:fH (ai 1) [some (.ref 1),some (bk B),none] [.dct d,.obj 602 [.int 0,.ref 2],.dct (pD [])]=.ok (B.map pc) [.dct d,.obj 602 [.int 0,.ref 2],.dct (pD [])]:=rfl;have r2:wo (cL (F k)) 2 3 [.ref 1,bk B] [.dct d,.obj 602 []]=match cL (F k) [some (.ref 1),some (bk B),none] [.dct d,.obj 602 []]with|.nx _ h1=>.ok .non h1|_=>.bad:=rfl
 rw[r2];unfold cL;rw[eK,s1];dsimp only;rw[eK,s2];dsimp only;unfold gh;rw[it,BJ,e];rfl
theorem zQ(f K:Nat)(E:List Pc)(q:Pc)(hK:3 * f+3≤K)(hf:f≤48)(hB:BO (E++ [q]))(nd:((E++ [q]).map (·.n)).Nodup)(l:E.length+1≤1000)(hw:wS q.b=true)(hs:H_ q.ns=true)(hn:q.ns.length≤10)(ok:Lh ((E++ [q]).map LR,none,q.ns) q.b=true)(c dp:Nat)(hc:cX (E++ [q]) f q.b .nil=some (c,dp))(c9:c≤900):
  ∃l M_,J (E++ [q]) f 0 q.b (Mx no q.ns (ids q.ns)) .nil=some (l,M_)∧FO l c dp∧F (K+1) .joined [bk (E++ [q])]=.ok (.tup (l.map Ly.nd)):=by
 have mo:MO f (Nb [] (NT q.ns (ids q.ns) (ids q.ns))) (Mx no q.ns (ids q.ns)):=MO.hand q.ns (ids q.ns) (ids q.ns) [] no (tM _).symm rfl (fun x=>rfl) rfl (by simp;omega) (fun x q h=>by cases h) fun p hp=>by unfold ids at hp;obtain⟨x,hx,rfl⟩:=List.mem_map.mp hp;exact⟨List.all_eq_true.mp hs x hx,rfl,by simp;omega⟩
 obtain⟨ll,M_,j1,j2,j3,j4⟩:=Fp hB f K 0 q.b _ _ .nil .non q.ns none c dp hK hc mo (qG q.ns (ids q.ns) no (tM _)) .nil ok hw (by omega);refine⟨ll,M_,j1,j3,?_⟩;obtain⟨k,rfl⟩:∃k,K=k+1:=⟨K - 1,by omega⟩
 obtain⟨y3,lo⟩:=nr (k+1) (some (bk (E++ [q]))) (some (pc q)) q.ns [] none (by rw[List.length_nil];omega);have Yc:=Ek k (E++ [q]) (Nb [] (NT q.ns (ids q.ns) (ids q.ns))) nd (by rw[List.length_append];exact l);have pk:aS (Nb [] (NT q.ns (ids q.ns) (ids q.ns)))=true:=mo.p;generalize Nb [] (NT q.ns (ids q.ns) (ids q.ns))=d at mo j4 lo Yc pk;have j5:=j4 (.dct d) [] rfl
 have mk:∀ ρ,Ab 602 (X_ (k+1) .d8) aaj (some (bk (E++ [q]))::ρ) [.dct d]=.ok (.ref 1) [.dct d,.obj 602 [.int 0,.ref 2],.dct (pD (E++ [q]))]:=fun ρ=>by show(match X_ (k+1) Fn.d8 [PV.ref 1,bk (E++ [q])] [PO.dct d,PO.obj 602 []]with|.ok .non h2=>Res.ok (PV.ref 1) h2|_=>Res.bad)=_;rw[Yc]
 have fz:O1 (.ref 0) [.dct d,.obj 602 [.int 0,.ref 2],.dct (pD (E++ [q]))]=.ok (.dct d) (hJ (.dct d) 0 (E++ [q]) []):=by show(match(if aS d=true then some (PV.dct d,([.dct d,.obj 602 [.int 0,.ref 2],.dct (pD (E++ [q]))]:List PO).set 0 (.G6 (.dct d)))else none)with|some (q,h2)=>Res.ok q h2|none=>Res.bad)=_;rw[if_pos pk];rfl
 have rt:∀y,gA 602 (X_ (k+1) .b_) (Ab 602 (X_ (k+1) .d8) aaj) aaq [some (bk (E++ [q])),some (pc q),some (.ref 0),y] [.dct d]=.ok (.tup (ll.map Ly.nd)) (hJ (.dct d) M_ (E++ [q]) []):=fun y=>by
  unfold gA;rw[mk];show(aaq [some (bk (E++ [q])),some (pc q),some (.ref 0),y] [.dct d,.obj 602 [.int 0,.ref 2],.dct (pD (E++ [q]))]).bind (fun ps h2=>X_ (k+1) .b_ (.ref 1::ps) h2)=_;have c3:PL (ai 2) [some (bk (E++ [q])),some (pc q),some (.ref 0),y] [.dct d,.obj 602 [.int 0,.ref 2],.dct (pD (E++ [q]))]=.ok (.dct d) (hJ (.dct d) 0 (E++ [q]) []):=fz
  have c4:aaq [some (bk (E++ [q])),some (pc q),some (.ref 0),y] [.dct d,.obj 602 [.int 0,.ref 2],.dct (pD (E++ [q]))]=.ok [.tup (j6 q.b),H9 d .non] (hJ (.dct d) 0 (E++ [q]) []):=by simp only[EX,zv,fz];rfl
  rw[c4];exact j5
 show bx (nE (F (k+1)) (X_ (k+1))) 1 4 [bk (E++ [q])]=_
 have Y9:U5 602 (X_ (k+1) Fn.b_) (af (c2 d7 (ai 1) (cK (PV.int 4))) (af (cN bA (af (PL (ai 2)) (af (cK PV.non) au))) au)) [some (bk (E++ [q])),some (pc q),some (PV.ref 0),y3] (Tj 602 (X_ (k+1) Fn.d8) [bk (E++ [q])] [PO.dct d])=.ok (.tup (ll.map Ly.nd)) (hJ (.dct d) M_ (E++ [q]) []):=by have e:=rt y3;rw[xY]at e;exact e
 simp only[EX,bx,nE,nt,zv,xP,nms,lo,Y9];exact jm _ (by rw[PV.pure];exact bQ ll)
structure SD(d:List (PK×PV))(s:List Nat→List Nat)(ns:List (List Nat))(lv:Nat):Prop where
 p:aS d=true
 l:d.length≤lv+10
 v:∀x∈ns,dq d (.inr x)=some (.str (s x))
theorem uV(k:Nat){d:List (PK×PV)}{s:List Nat→List Nat}{ns:List (List Nat)}{lv:Nat}(h:SD d s ns lv)(p:G7)(hp:p.a∈ns)(hw:wp p=true):F (k+1) .i_ [J0 p,.dct d]=.ok (J0 (pS s p)):=by
 have e:=h.v _ hp;have hd:(PV.dct d).pure=true:=by rw[PV.pure];exact h.p
 have hl:p.f.length≤10:=by unfold wp at hw;rw[Bool.and_eq_true,Bool.and_eq_true]at hw;exact of_decide_eq_true hw.2.2
 have ad:∀g,aN (.tup [.str (s p.a)]) (.tup (p.f.map PV.str)) g=.ok (J0 (pS s p)) g:=fun g=>by show(if([PV.str (s p.a)]:List PV).isEmpty=false∧([PV.str (s p.a)]:List PV).length+(p.f.map PV.str).length≤sizeLine then Res.ok (PV.tup ([PV.str (s p.a)]++p.f.map PV.str)) g else .bad)=_;rw[if_pos ⟨rfl,Nat.le_trans (by rw[List.length_map];simp;omega:([PV.str (s p.a)]:List PV).length+(p.f.map PV.str).length≤1001) (by decide)⟩];rfl
 show bx (fO (F k)) 2 2 [.tup (.str p.a::p.f.map PV.str),.dct d]=_;simp only[EX,bx,fO,MP,xH,aG _ hd,e,ad];exact jm _ (eT _)
theorem lJ(k:Nat){d:List (PK×PV)}{s:List Nat→List Nat}{ns:List (List Nat)}{lv:Nat}(h:SD d s ns lv)(p:G7)(hp:p.a∈ns)(hw:wp p=true)(g:List PO):bO (F (k+1) .i_) [J0 p,.dct d] g=.ok (J0 (pS s p)) g:=
 aZ g (by rw[aq,eT,aq,PV.pure,h.p];rfl) (uV k h p hp hw)
theorem vF{α:Type}{te:Ex}{cp:Ev}(f g:α→PV)(h:List PO):∀(l:List α),(∀x∈l,te (some (f x)::cp) h=.ok (g x) h)→cT dD te cp (l.map f) h=.ok (l.map g) h
 |[],_=>rfl
 |x::r,e=>by rw[List.map_cons,List.map_cons,cT];show((Res.ok true h:Res Bool).bind _)=_;rw[Res.bind,if_pos rfl,e x (by simp),Res.bind,vF f g h r fun y hy=>e y (by simp[hy])];rfl
theorem mj(k:Nat){d:List (PK×PV)}{s:List Nat→List Nat}{ns:List (List Nat)}{lv:Nat}(h:SD d s ns lv)(P:List Pe)(m:Option Int)(ps:List G7)(ok:Ol (P,m,ns) ps=true)(hw:wps ps=true)(g:List PO):
  cT dD (fA (F (k+1))) [some (.dct d)] (de ps) g=.ok (de (ps.map (pS s))) g∧(de ps).length<16777216:=by
 unfold wps at hw;rw[Bool.and_eq_true]at hw;refine⟨?_,by have:=of_decide_eq_true hw.2;unfold de;rw[List.length_map];omega⟩
 have:=vF (te:=fA (F (k+1))) (cp:=[some (.dct d)]) J0 (fun p=>J0 (pS s p)) g ps fun p hp=>by
  have c:=lJ k h p (List.contains_iff_mem.mp (List.all_eq_true.mp ok p hp)) (List.all_eq_true.mp hw.1 p hp) g;have hd:(PV.dct d).pure=true:=by rw[PV.pure];exact h.p
  have d1:am g (J0 p)=J0 p:=rfl;simp only[EX,fA,aG _ hd,d1,c]
 unfold de;rw[this,List.map_map];rfl
structure AD(ad:List (PK×PV))(an:List Nat→List Nat)(P:List Pe):Prop where
 p:aS ad=true
 v:∀x l h,Mp P x l h=true→dq ad (.inr x)=some (.str (an x))
theorem uu(k:Nat){d ad:List (PK×PV)}{s an:List Nat→List Nat}{ns:List (List Nat)}{lv:Nat}{P:List Pe}(h:SD d s ns lv)(ha:AD ad an P)(m:Option Int)(E:List (List Nat))(x:List Nat)(ps:List G7)(ok:okN (P,m,ns) (.use x ps)=true)(hw:wN (.use x ps)=true):
  L (k+2) .o8 [nd (.use x ps),.dct d,.lst (E.map PV.str),.int lv,.ref 0] [.dct ad]=.ok (nd (.use (an x) (ps.map (pS s)))) [.dct ad]:=by
 rw[okN,Bool.and_eq_true]at ok;rw[wN,Bool.and_eq_true]at hw;obtain⟨c1,c2⟩:=mj k h P m ps ok.1 hw.2 [.dct ad];have hd:(PV.dct d).pure=true:=by rw[PV.pure];exact h.p
 have hE:(PV.lst (E.map PV.str)).pure=true:=by rw[PV.pure];exact aW E
 have va:=ha.v _ _ _ ok.2;have cp:dg [1] [some (nd (.use x ps)),some (.dct d),some (.lst (E.map PV.str)),some (.int lv),some (.ref 0),none,none,none]=[some (.dct d)]:=rfl;have pn:∀l,am [.dct ad] (.tup (de l))=.tup (de l):=fun l=>rfl
 have ix:d7 (.ref 0) (.str x) [.dct ad]=.ok (.str (an x)) [.dct ad]:=by show(match dq ad (.inr x)with|some v=>Res.ok (am [.dct ad] v) [.dct ad]|none=>_)=_;rw[va];rfl
 show ei (dQ (F (k+1)) (L (k+1))) 5 8 [nd (.use x ps),.dct d,.lst (E.map PV.str),.int lv,.ref 0] [.dct ad]=_;rw[nd]at cp ⊢;simp only[EX,ei,dQ,aG _ hd,aG _ hE,cp,c1,c2,pn,ix];exact tO (bz (.use (an x) (ps.map (pS s)))) (by rw[PO.pure];exact ha.p)
abbrev G4(E:List (List Nat))(i:Nat):List Nat:=(E[i]?).getD []
theorem Cs(E:List (List Nat))(lv n:Nat)(l:lv+n≤E.length):cut (E.map PV.str) (some (lv:Int)) (some ((lv:Int)+(n:Int)))=(evs (G4 E) lv n).map PV.str:=by
 unfold cut;rw[HT.Lg,show((lv:Int)+(n:Int))=((lv+n:Nat):Int) by omega,HT.Lg,List.length_map,Nat.min_eq_left (a:=lv+n) l,Nat.min_eq_left (a:=lv) (by omega),Nat.add_sub_cancel_left];apply List.ext_getElem?;intro i;rw[evs,List.map_map,List.getElem?_map,List.getElem?_take]
 by_cases hi:i<n
 ·rw[if_pos hi,List.getElem?_drop,List.getElem?_map,List.getElem?_range hi,List.getElem?_eq_getElem (by omega)];show some _=some (PV.str (G4 E (lv+i)));unfold G4;rw[List.getElem?_eq_getElem (by omega)];rfl
 ·rw[if_neg hi,List.getElem?_eq_none (by rw[List.length_range];omega)];rfl
noncomputable def zl:List (List Nat)→List (List Nat)→List (PK×PV)
 |x::r,y::t=>(.inr x,.str y)::zl r t
 |_,_=> []
theorem sv:∀h e:List (List Nat),Q9 (h.map PV.str) (e.map PV.str)=some (zl h e)
 |x::r,y::t=>by rw[List.map_cons,List.map_cons,Q9,sv r t];rfl
 |[],_=>by rw[List.map_nil];unfold Q9 zl;rfl
 |_::_,[]=>rfl
abbrev iU(d l:List (PK×PV)):List (PK×PV):=l.foldl (fun acc kv=>bK acc kv.1 kv.2) d
theorem uR:∀(h e:List (List Nat))(d:List (PK×PV))(s:List Nat→List Nat)(ns:List (List Nat)),h.length=e.length→(∀x∈ns,dq d (.inr x)=some (.str (s x)))→∀x,x∈ns∨x∈h→dq (iU d (zl h e)) (.inr x)=some (.str (Oj s h e x))
 |[],[],d,s,ns,_,hv,x,hx=>hv x (by simpa using hx)
 |a::r,v::t,d,s,ns,l,hv,x,hx=>by
  have:=uR r t (bK d (.inr a) (.str v)) (fun z=>if z=a then v else s z) (a::ns) (by simpa using l) (fun y hy=>by
   rw[ky]
   by_cases e:y=a
   ·rw[if_pos (by rw[e]),if_pos e]
   ·rw[if_neg (fun z=>e (by injection z)),if_neg e];exact hv y ((List.mem_cons.mp hy).resolve_left e)) x (by
   rcases hx with z|z
   ·exact .inl (List.mem_cons_of_mem _ z)
   ·rcases List.mem_cons.mp z with z|z
    ·exact .inl (by rw[z];simp)
    ·exact .inr z)
  exact this
theorem iH:∀(h e:List (List Nat))(d:List (PK×PV)),aS d=true→aS (iU d (zl h e))=true∧(iU d (zl h e)).length≤d.length+h.length
 |[],e,d,p=>⟨p,by simp[zl]⟩
 |_::_,[],d,p=>⟨p,by simp[zl]⟩
 |a::r,v::t,d,p=>by obtain⟨x,y⟩:=iH r t (bK d (.inr a) (.str v)) (gG d _ _ p rfl);have:=kJ d (.inr a) (.str v);refine⟨x,?_⟩;rw[List.length_cons];exact Nat.le_trans y (by omega)
theorem Fc:∀(h e:List (List Nat))(d:List (PK×PV)),h.Nodup→(∀k∈d,∀x∈h,k.1≠.inr x)→iU d (zl h e)=d++zl h e
 |[],_,d,_,_=>by simp[zl]
 |_::_,[],d,_,_=>by simp[zl]
 |a::r,v::t,d,nd,hd=>by
  rw[List.nodup_cons]at nd
  have p1:bK d (.inr a) (.str v)=d++ [(.inr a,.str v)]:=by unfold bK;rw[if_neg];intro z;obtain⟨y,hy,e⟩:=List.any_eq_true.mp z;exact hd y hy a (by simp) (of_decide_eq_true e)
  show iU (bK d (.inr a) (.str v)) (zl r t)=_
  rw[p1,Fc r t _ nd.2 (fun k hk x hx=>by
   rcases List.mem_append.mp hk with z|z
   ·exact hd k z x (by simp[hx])
   ·rw[List.mem_singleton.mp z];exact fun z=>nd.1 (by injection z with z;rw[z];exact hx)),zl,List.append_assoc]
  rfl
theorem wW(h e:List (List Nat))(nd:h.Nodup):Sh (zl h e)=zl h e:=Fc h e [] nd (fun k hk=>by cases hk)
theorem SD.up{d:List (PK×PV)}{s:List Nat→List Nat}{ns:List (List Nat)}{lv:Nat}(h:SD d s ns lv)(hs e:List (List Nat))(l:hs.length=e.length):SD (iU d (zl hs e)) (Oj s hs e) (ns++hs) (lv+hs.length) where
 p:=(iH hs e d h.p).1
 l:=by have:=(iH hs e d h.p).2;have:=h.l;omega
 v:=fun x hx=>uR hs e d s ns l h.v x (List.mem_append.mp hx)
theorem SD.one{d:List (PK×PV)}{s:List Nat→List Nat}{ns:List (List Nat)}{lv:Nat}(h:SD d s ns lv)(x v:List Nat):SD (bK d (.inr x) (.str v)) (fun z=>if z=x then v else s z) (ns++ [x]) (lv+1):=h.up [x] [v] rfl
theorem JZ{v:PV}{o:PO}(t:List PO)(hv:v.pure=true)(ho:o.pure=true):eU 1 v (o::t)=.ok v [o]:=by unfold eU;rw[gw _ hv];dsimp only;unfold fV;simp[aT,ho]
def kU(y:Ex)(ρ:Ev)(r:Res PV):Res PV:=r.bind fun p h1=>if(gW h1 p).isSome=true then kg (Au p) (y ρ h1)else .bad
theorem Gs(x y:Ex)(ρ:Ev)(h:List PO):HV x y ρ h=kU y ρ (x ρ h):=rfl
theorem Jo(y:Ex)(ρ:Ev)(p:PV)(h:List PO):kU y ρ (.ok p h)=if(gW h p).isSome=true then kg (Au p) (y ρ h)else .bad:=rfl
theorem vY(k:Nat){d ad:List (PK×PV)}{s an:List Nat→List Nat}{ns:List (List Nat)}{lv:Nat}{P:List Pe}(h:SD d s ns lv)(ha:AD ad an P)(m:Option Int)(E:List (List Nat))(x:List Nat)(ps:List G7)(hs:List (List Nat))(b b':w6)(ok:okN (P,m,ns) (.j8 x ps hs b)=true)(hw:wN (.j8 x ps hs b)=true)(l:lv+hs.length≤40)(lE:40≤E.length)
  (e1:L (k+1) .q_ [.tup (j6 b),.dct (iU d (zl hs (evs (G4 E) lv hs.length))),.lst (E.map PV.str),.int ((lv+hs.length:Nat):Int),.ref 0] [.dct ad]=.ok (.tup (j6 b')) [.dct ad]):
  L (k+2) .o8 [nd (.j8 x ps hs b),.dct d,.lst (E.map PV.str),.int lv,.ref 0] [.dct ad]=.ok (nd (.j8 (an x) (ps.map (pS s)) (evs (G4 E) lv hs.length) b')) [.dct ad]:=by
 rw[okN,Bool.and_eq_true,Bool.and_eq_true,Bool.and_eq_true]at ok;rw[wN,Bool.and_eq_true,Bool.and_eq_true]at hw;have pa:(PO.dct ad).pure=true:=by rw[PO.pure];exact ha.p
 obtain⟨c1,c2⟩:=mj k h P m ps ok.1 hw.2.1 [.dct ad];have Zn:hs.Nodup:=(jZ hs).mp (by have:=ok.2.2.1;simpa using this);have hd:(PV.dct d).pure=true:=by rw[PV.pure];exact h.p
 have hE:(PV.lst (E.map PV.str)).pure=true:=by rw[PV.pure];exact aW E
 have va:=ha.v _ _ _ ok.2.1;have hn:∀g,dZ [nms hs] g=.ok (.int (hs.length:Int)) g:=fun g=>by show Res.ok (PV.int ((hs.map PV.str).length:Int)) g=_;rw[List.length_map]
 have cp:dg [1] [some (nd (.j8 x ps hs b)),some (.dct d),some (.lst (E.map PV.str)),some (.int lv),some (.ref 0),none,none,none]=[some (.dct d)]:=rfl;have pn:∀l g,am g (.tup (de l))=.tup (de l):=fun l g=>rfl;have pm:∀l g,am g (nms l)=nms l:=fun l g=>rfl;have inn:kq (nms hs)=false:=rfl;have Zu:∀g,(gW (.dct ad::.dct d::g) (.ref 1)).isSome=true:=fun g=>rfl;have cu:=Cs E lv hs.length (by omega);have es:=fK (G4 E) lv hs.length;have up:=h.up hs (evs (G4 E) lv hs.length) es.symm;have dl:=h.l;have zp:=sv hs (evs (G4 E) lv hs.length);have mz:=wW hs (evs (G4 E) lv hs.length) Zn;generalize evs (G4 E) lv hs.length=e at*;have zk:aS (zl hs e)=true:=(iH hs e [] rfl).1|>fun z=>by rw[show iU [] (zl hs e)=zl hs e from mz]at z;exact z
 have YH:(zl hs e).length≤hs.length:=by have:=(iH hs e [] rfl).2;rw[show iU [] (zl hs e)=zl hs e from mz]at this;simpa using this
 have dz:mq [nms hs,.tup (e.map PV.str)] [.dct ad,.dct d]=.ok (.ref 2) [.dct ad,.dct d,.dct (zl hs e)]:=by show(match Q9 (hs.map PV.str) (e.map PV.str)with|some l=>Res.ok (PV.ref 2) [PO.dct ad,.dct d,.dct (Sh l)]|none=>.bad)=_;rw[zp];dsimp only;rw[mz]
 have ur:Au (.ref 1) (.ref 2) [.dct ad,.dct d,.dct (zl hs e)]=.ok .non [.dct ad,.dct (iU d (zl hs e)),.dct (zl hs e)]:=by show(if(DA 1 (.ref 2)=true∧d.length+(zl hs e).length≤sizeLine)then Res.ok PV.non [PO.dct ad,.dct (iU d (zl hs e)),.dct (zl hs e)]else .bad)=_;rw[if_pos ⟨rfl,Nat.le_trans (by omega:d.length+(zl hs e).length≤1000) (by decide)⟩]
 have fz:O1 (.ref 1) [.dct ad,.dct (iU d (zl hs e)),.dct (zl hs e)]=.ok (.dct (iU d (zl hs e))) [.dct ad,.G6 (.dct (iU d (zl hs e))),.dct (zl hs e)]:=by simp[O1,Ru,gW,up.p]
 have pu:(PV.dct (iU d (zl hs e))).pure=true:=by rw[PV.pure];exact up.p
 have ix:∀g,d7 (.ref 0) (.str x) (.dct ad::g)=.ok (.str (an x)) (.dct ad::g):=fun g=>by show(match dq ad (.inr x)with|some v=>Res.ok (am (.dct ad::g) v) (.dct ad::g)|none=>_)=_;rw[va];rfl
 have cl:w7 (L (k+1) .q_) [.tup (j6 b),.dct (iU d (zl hs e)),.lst (E.map PV.str),.int ((lv+hs.length:Nat):Int),.ref 0] [.dct ad,.G6 (.dct (iU d (zl hs e))),.dct (zl hs e)]=.ok (.tup (j6 b')) [.dct ad,.G6 (.dct (iU d (zl hs e))),.dct (zl hs e)]:=
  bY [.tup (j6 b),.dct (iU d (zl hs e)),.lst (E.map PV.str),.int ((lv+hs.length:Nat):Int)] [] (by simp only[aq,PV.pure,bt,aW,up.p];rfl) rfl rfl pa e1 (by rw[PV.pure];exact bt b') pa
 have eq:((lv:Int)+(((e.map PV.str).length:Nat):Int))=((lv+hs.length:Nat):Int):=by rw[List.length_map,es];omega
 show ei (dQ (F (k+1)) (L (k+1))) 5 8 [nd (.j8 x ps hs b),.dct d,.lst (E.map PV.str),.int lv,.ref 0] [.dct ad]=_;rw[nd]at cp ⊢;simp only[EX,ei,dQ,aG _ hd,aG _ hE,cp,c1,c2,pn,pm,ix,hn,cu,dz,ur,fz,cl,inn,Gs,Jo,Zu,eq];exact JZ _ (bz (.j8 (an x) (ps.map (pS s)) e b')) pa
abbrev cE(bv:Option PV)(d:List (PK×PV))(E:List (List Nat))(lv:Nat)(x6 x7 x8 x9:Option PV):Ev:=[bv,some (.dct d),some (.lst (E.map PV.str)),some (.int (lv:Int)),some (.ref 0),some (.ref 1),x6,x7,x8,x9]
def CS(P:List Pe)(E:List (List Nat))(an:List Nat→List Nat)(ad:List (PK×PV))(b:w6):Prop:=∀(K:Nat)(m:Option Int)(d:List (PK×PV))(s:List Nat→List Nat)(ns:List (List Nat))(lv:Nat),2 * dS b+3≤K→SD d s ns lv→Lh (P,m,ns) b=true→wS b=true→lv+NP b≤40→J8 b≤10000→
 L K .q_ [.tup (j6 b),.dct d,.lst (E.map PV.str),.int (lv:Int),.ref 0] [.dct ad]=.ok (.tup (j6 (rS (G4 E) an s lv b))) [.dct ad]
def R5(P:List Pe)(E:List (List Nat))(an:List Nat→List Nat)(ad:List (PK×PV))(n:Nd):Prop:=∀(K:Nat)(m:Option Int)(d:List (PK×PV))(s:List Nat→List Nat)(ns:List (List Nat))(lv:Nat),2 * dN n+2≤K→SD d s ns lv→okN (P,m,ns) n=true→wN n=true→lv+Og n≤40→Ls n≤10000→
 ∀(bv:Option PV)(acc:List PV)(t:List PO)(x7 x8 x9:Option PV),acc.length≤10000→∃y7 y8 y9 t',cH (F K) (L K) (cE bv d E lv (some (nd n)) x7 x8 x9) (.dct ad::.lst acc::t)=.nx (cE bv d E lv (some (nd (rN (G4 E) an s lv n))) y7 y8 y9) (.dct ad::.lst (acc++ [nd (rN (G4 E) an s lv n)])::t')
variable{P:List Pe}{E:List (List Nat)}{an:List Nat→List Nat}{ad:List (PK×PV)}
theorem xr(acc:List PV)(l:acc.length≤10000)(v:PV)(t:List PO):bU (.ref 1) [v] (.dct ad::.lst acc::t)=.ok .non (.dct ad::.lst (acc++ [v])::t):=by show(if acc.length<sizeLine then Res.ok PV.non _ else .bad)=_;rw[if_pos (Nat.lt_of_le_of_lt l (by decide))];rfl
theorem xg(acc:List PV)(t:List PO):fB (.dct ad::.lst acc::t) (.ref 1)=true:=rfl
theorem vB(acc:List PV)(t:List PO):am (.dct ad::.lst acc::t) (.ref 1)=.ref 1:=rfl
theorem tY(o:PO)(t:List PO):am (.dct ad::o::t) (.ref 0)=.ref 0:=rfl
theorem zD(x:List Nat):R5 P E an ad (.text x):=fun K m d s ns lv hK h ok w l c bv acc t x7 x8 x9 la=>by
 have hd:(PV.dct d).pure=true:=by rw[PV.pure];exact h.p
 refine⟨x7,x8,x9,t,?_⟩;rw[rN,nd];simp only[EX,cH,cE,xr acc la,xg,vB,tY]
theorem wP(p:G7)(x:List Nat):R5 P E an ad (.place p x):=fun K m d s ns lv hK h ok w l c bv acc t x7 x8 x9 la=>by
 obtain⟨k,rfl⟩:∃k,K=k+1:=⟨K - 1,by omega⟩
 have hd:(PV.dct d).pure=true:=by rw[PV.pure];exact h.p
 rw[okN]at ok;rw[wN,Bool.and_eq_true]at w;have TV:=lJ k h p (List.contains_iff_mem.mp (List.all_eq_true.mp ok p (by simp))) w.1;have dp:∀g q,am g (J0 q)=J0 q:=fun g q=>rfl;refine⟨x7,x8,x9,t,?_⟩;rw[rN,nd,nd];simp only[EX,cH,cE,xr acc la,xg,vB,tY,TV,aG _ hd,dp]
theorem V9(l:Nat)(lv:Nat)(h:lv<l)(lE:l≤E.length)(g:List PO):d7 (.lst (E.map PV.str)) (.int (lv:Int)) g=.ok (.str (G4 E lv)) g:=by show(match LQ (E.map PV.str) (lv:Int)with|some v=>Res.ok (am g v) g|none=>Res.bad)=_;rw[fF (v:=.str (G4 E lv)) (by omega) (by rw[Int.toNat_natCast,List.getElem?_map,List.getElem?_eq_getElem (by omega),G4,List.getElem?_eq_getElem (by omega)];rfl)];rfl
theorem CS.call(ha:AD ad an P){b:w6}(cs:CS P E an ad b){K:Nat}{m:Option Int}{d:List (PK×PV)}{s:List Nat→List Nat}{ns:List (List Nat)}{lv:Nat}(hK:2 * dS b+3≤K)(h:SD d s ns lv)(ok:Lh (P,m,ns) b=true)(w:wS b=true)(l:lv+NP b≤40)(c:J8 b≤10000)(t:List PO):
  w7 (L K .q_) [.tup (j6 b),.dct d,.lst (E.map PV.str),.int (lv:Int),.ref 0] (.dct ad::t)=.ok (.tup (j6 (rS (G4 E) an s lv b))) (.dct ad::t):=by
 have pa:(PO.dct ad).pure=true:=by rw[PO.pure];exact ha.p
 exact bY [.tup (j6 b),.dct d,.lst (E.map PV.str),.int (lv:Int)] [] (by simp only[aq,PV.pure,bt,aW,h.p];rfl) rfl rfl pa (cs K m d s ns lv hK h ok w l c) (by rw[PV.pure];exact bt _) pa
theorem zF(ps:List G7):R5 P E an ad (.body ps):=fun K m d s ns lv hK h ok w l c bv acc t x7 x8 x9 la=>by
 obtain⟨k,rfl⟩:∃k,K=k+1:=⟨K - 1,by omega⟩
 have hd:(PV.dct d).pure=true:=by rw[PV.pure];exact h.p
 rw[okN,Bool.and_eq_true]at ok;rw[wN]at w;obtain⟨c1,c2⟩:=mj k h P m ps ok.1 w (.dct ad::.lst acc::t);have c1:cT dD (nz (F (k+1))) [some (.dct d)] (de ps) (.dct ad::.lst acc::t)=.ok (de (ps.map (pS s))) (.dct ad::.lst acc::t):=c1;have dp:∀g q,am g (.tup (de q))=.tup (de q):=fun g q=>rfl;refine⟨x7,x8,x9,t,?_⟩;have cp:∀q,dg [1] (cE bv d E lv q x7 x8 x9)=[some (.dct d)]:=fun q=>rfl;unfold cE at cp;rw[rN,nd,nd];simp only[EX,cH,cE,cp,c1,c2,xr acc la,xg,vB,tY,aG _ hd,dp]
theorem Bt(ha:AD ad an P)(x:List Nat)(ps:List G7):R5 P E an ad (.use x ps):=fun K m d s ns lv hK h ok w l c bv acc t x7 x8 x9 la=>by
 obtain⟨k,rfl⟩:∃k,K=k+2:=⟨K - 2,by omega⟩
 have hd:(PV.dct d).pure=true:=by rw[PV.pure];exact h.p
 have hE:(PV.lst (E.map PV.str)).pure=true:=by rw[PV.pure];exact aW E
 have pa:(PO.dct ad).pure=true:=by rw[PO.pure];exact ha.p
 have cu:w7 (L (k+2) .o8) [nd (.use x ps),.dct d,.lst (E.map PV.str),.int (lv:Int),.ref 0] (.dct ad::.lst acc::t)=.ok (nd (.use (an x) (ps.map (pS s)))) (.dct ad::.lst acc::t):=
  bY [nd (.use x ps),.dct d,.lst (E.map PV.str),.int (lv:Int)] [] (by simp only[aq,bz,PV.pure,aW,h.p];rfl) rfl rfl pa (uu k h ha m E x ps ok w) (bz _) pa
 refine⟨x7,x8,x9,t,?_⟩;rw[rN];rw[nd,nd]at*;simp only[EX,cH,cE,xr acc la,xg,vB,tY,aG _ hd,aG _ hE,cu]
theorem zC(ha:AD ad an P)(lE:40≤E.length)(x:List Nat)(ps:List G7)(hs:List (List Nat))(b:w6)(cs:CS P E an ad b):R5 P E an ad (.j8 x ps hs b):=fun K m d s ns lv hK h ok w l c bv acc t x7 x8 x9 la=>by
 obtain⟨k,rfl⟩:∃k,K=k+2:=⟨K - 2,by omega⟩
 have hd:(PV.dct d).pure=true:=by rw[PV.pure];exact h.p
 have hE:(PV.lst (E.map PV.str)).pure=true:=by rw[PV.pure];exact aW E
 have pa:(PO.dct ad).pure=true:=by rw[PO.pure];exact ha.p
 rw[dN]at hK;rw[Og]at l;rw[Ls]at c;have Tg:=ok;rw[okN,Bool.and_eq_true,Bool.and_eq_true,Bool.and_eq_true]at Tg;have w2:=w;rw[wN,Bool.and_eq_true,Bool.and_eq_true,Bool.and_eq_true,Bool.and_eq_true]at w2;have uc:=vY k h ha m E x ps hs b _ ok w (by omega) lE (cs (k+1) m _ _ (ns++hs) (lv+hs.length) (by omega) (h.up hs _ (fK ..).symm) Tg.2.2.2 w2.2.2.2.2 (by omega) c)
 have cu:w7 (L (k+2) .o8) [nd (.j8 x ps hs b),.dct d,.lst (E.map PV.str),.int (lv:Int),.ref 0] (.dct ad::.lst acc::t)=.ok (nd (rN (G4 E) an s lv (.j8 x ps hs b))) (.dct ad::.lst acc::t):=
  bY [nd (.j8 x ps hs b),.dct d,.lst (E.map PV.str),.int (lv:Int)] [] (by simp only[aq,bz,PV.pure,aW,h.p];rfl) rfl rfl pa (by rw[rN];exact uc) (bz _) pa
 refine⟨x7,x8,x9,t,?_⟩;have dn:∀g,am g (nd (rN (G4 E) an s lv (.j8 x ps hs b)))=nd (rN (G4 E) an s lv (.j8 x ps hs b)):=fun g=>aG g (bz _);generalize nd (rN (G4 E) an s lv (.j8 x ps hs b))=z at*;rw[nd]at*;simp only[EX,cH,cE,xr acc la,xg,vB,tY,aG _ hd,aG _ hE,cu,dn]
theorem vf(ha:AD ad an P)(p:G7)(y z:w6)(cy:CS P E an ad y)(cz:CS P E an ad z):R5 P E an ad (.choice p y z):=fun K m d s ns lv hK h ok w l c bv acc t x7 x8 x9 la=>by
 obtain⟨k,rfl⟩:∃k,K=k+1:=⟨K - 1,by omega⟩
 have hd:(PV.dct d).pure=true:=by rw[PV.pure];exact h.p
 have hE:(PV.lst (E.map PV.str)).pure=true:=by rw[PV.pure];exact aW E
 rw[dN]at hK;rw[Og]at l;rw[Ls]at c;rw[okN,Bool.and_eq_true,Bool.and_eq_true]at ok;rw[wN,Bool.and_eq_true,Bool.and_eq_true]at w;have TV:=lJ k h p (List.contains_iff_mem.mp (List.all_eq_true.mp ok.1 p (by simp))) w.1;have ly:=cy.call ha (K:=k+1) (by omega) h ok.2.1 w.2.1 (by omega) (by omega) (.lst acc::t);have lz:=cz.call ha (K:=k+1) (by omega) h ok.2.2 w.2.2 (by omega) (by omega) (.lst acc::t);have dp:∀g q,am g (J0 q)=J0 q:=fun g q=>rfl;have dt:∀g q,am g (.tup q)=.tup q:=fun g q=>rfl;have cp:dg [1,2,3,4,6] (cE bv d E lv (some (.tup [.str tC,J0 p,.tup (j6 y),.tup (j6 z)])) x7 x8 x9)=[some (.dct d),some (.lst (E.map PV.str)),some (.int (lv:Int)),some (.ref 0),some (.tup [.str tC,J0 p,.tup (j6 y),.tup (j6 z)])]:=rfl;unfold cE at cp
 have e2:dE (F (k+1)) (L (k+1)) [some (.int 2),some (.dct d),some (.lst (E.map PV.str)),some (.int (lv:Int)),some (.ref 0),some (.tup [.str tC,J0 p,.tup (j6 y),.tup (j6 z)])] (.dct ad::.lst acc::t)=.ok (.tup (j6 (rS (G4 E) an s lv y))) (.dct ad::.lst acc::t):=by simp only[EX,dE,at2,dt,tY,aG _ hd,aG _ hE,ly]
 have e3:dE (F (k+1)) (L (k+1)) [some (.int 3),some (.dct d),some (.lst (E.map PV.str)),some (.int (lv:Int)),some (.ref 0),some (.tup [.str tC,J0 p,.tup (j6 y),.tup (j6 z)])] (.dct ad::.lst acc::t)=.ok (.tup (j6 (rS (G4 E) an s lv z))) (.dct ad::.lst acc::t):=by simp only[EX,dE,QM,dt,tY,aG _ hd,aG _ hE,lz]
 have co:cT dD (dE (F (k+1)) (L (k+1))) [some (.dct d),some (.lst (E.map PV.str)),some (.int (lv:Int)),some (.ref 0),some (.tup [.str tC,J0 p,.tup (j6 y),.tup (j6 z)])] [.int 2,.int 3] (.dct ad::.lst acc::t)=.ok [.tup (j6 (rS (G4 E) an s lv y)),.tup (j6 (rS (G4 E) an s lv z))] (.dct ad::.lst acc::t):=by unfold cT;show((dE (F (k+1)) (L (k+1)) _ _).bind _)=_;rw[e2];show((cT _ _ _ _ _).bind _)=_;unfold cT;show(((dE (F (k+1)) (L (k+1)) _ _).bind _).bind _)=_;rw[e3];rfl
 refine⟨some (.lst [.tup (j6 (rS (G4 E) an s lv y)),.tup (j6 (rS (G4 E) an s lv z))]),x8,x9,t,?_⟩;rw[rN,nd,nd];simp only[EX,cH,cE,xr acc la,xg,vB,tY,TV,aG _ hd,dp,dt,cp,co,show(2:Nat)<16777216 by decide]
theorem zE(ha:AD ad an P)(lE:40≤E.length)(x:List Nat)(p:G7)(b:w6)(u:List Nat)(cb:CS P E an ad b):R5 P E an ad (.loop x p b u):=fun K m d s ns lv hK h ok w l c bv acc t x7 x8 x9 la=>by
 obtain⟨k,rfl⟩:∃k,K=k+1:=⟨K - 1,by omega⟩
 have hd:(PV.dct d).pure=true:=by rw[PV.pure];exact h.p
 have hE:(PV.lst (E.map PV.str)).pure=true:=by rw[PV.pure];exact aW E
 rw[dN]at hK;rw[Og]at l;rw[Ls]at c;rw[okN,Bool.and_eq_true]at ok;rw[wN,Bool.and_eq_true,Bool.and_eq_true,Bool.and_eq_true]at w;have dl:=h.l;have TV:=lJ k h p (List.contains_iff_mem.mp (List.all_eq_true.mp ok.1 p (by simp))) w.2.1;have ho:=h.one x (G4 E lv);have pu:(PV.dct (bK d (.inr x) (.str (G4 E lv)))).pure=true:=by rw[PV.pure];exact ho.p
 have lb:=cb.call ha (K:=k+1) (by omega) ho ok.2 w.2.2.1 (by omega) c (.lst acc::(t++ [.G6 (.dct (bK d (.inr x) (.str (G4 E lv))))]));have ix:=V9 (E:=E) 40 lv (by omega) lE;have dp:∀g q,am g (J0 q)=J0 q:=fun g q=>rfl;have dt:∀g q,am g (.tup q)=.tup q:=fun g q=>rfl;have gt:∀o:PO,((.dct ad::.lst acc::(t++ [o])):List PO)[t.length+2]? =some o:=fun o=>by simp
 have se:∀o o':PO,((.dct ad::.lst acc::(t++ [o])):List PO).set (t.length+2) o'=.dct ad::.lst acc::(t++ [o']):=fun o o'=>by simp
 have sd:∀ ρ,mK (.str (G4 E lv)) (.ref (t.length+2)) (.str x) ρ (.dct ad::.lst acc::(t++ [.dct d]))=.nx ρ (.dct ad::.lst acc::(t++ [.dct (bK d (.inr x) (.str (G4 E lv)))])):=fun ρ=>by unfold mK gW;dsimp only;rw[gt];show(if d.length<sizeLine then _ else SR.bad)=_;rw[if_pos (Nat.lt_of_le_of_lt (by omega:d.length≤1000) (by decide)),se]
 have fz:O1 (.ref (t.length+2)) (.dct ad::.lst acc::(t++ [.dct (bK d (.inr x) (.str (G4 E lv)))]))=.ok (.dct (bK d (.inr x) (.str (G4 E lv)))) (.dct ad::.lst acc::(t++ [.G6 (.dct (bK d (.inr x) (.str (G4 E lv))))])):=by unfold O1 Ru gW;dsimp only;rw[gt];dsimp only;rw[if_pos ho.p,se]
 have dr:∀o,am (.dct ad::.lst acc::(t++ [.dct o])) (.ref (t.length+2))=.ref (t.length+2):=fun o=>by unfold am;dsimp only;rw[gt]
 have lg:(PO.dct ad::.lst acc::t).length=t.length+2:=rfl;have ap:(PO.dct ad::.lst acc::t)++[.dct d]=.dct ad::.lst acc::(t++ [.dct d]):=rfl;have eq:((lv:Int)+1)=((lv+1:Nat):Int):=by omega
 refine⟨x7,some (.ref (t.length+2)),some (.tup (j6 (rS (G4 E) an (fun z=>if z=x then G4 E lv else s z) (lv+1) b))),t++ [.G6 (.dct (bK d (.inr x) (.str (G4 E lv))))],?_⟩;rw[rN,nd,nd];simp only[EX,cH,cE,xr acc la,xg,vB,tY,TV,aG _ hd,aG _ hE,dp,dt,ix,sd,fz,dr,eq,lb,yA]
def Ik(P:List Pe)(E:List (List Nat))(an:List Nat→List Nat)(ad:List (PK×PV))(b:w6):Prop:=∀(K:Nat)(m:Option Int)(d:List (PK×PV))(s:List Nat→List Nat)(ns:List (List Nat))(lv:Nat),2 * dS b+2≤K→SD d s ns lv→Lh (P,m,ns) b=true→wS b=true→lv+NP b≤40→
 ∀(bv:Option PV)(acc:List PV)(t:List PO)(x6 x7 x8 x9:Option PV),acc.length+J8 b≤10000→∃y6 y7 y8 y9 t',aR (D_ 6) (cH (F K) (L K)) (j6 b) (cE bv d E lv x6 x7 x8 x9) (.dct ad::.lst acc::t)=.nx (cE bv d E lv y6 y7 y8 y9) (.dct ad::.lst (acc++j6 (rS (G4 E) an s lv b))::t')
theorem Ik.cs(ha:AD ad an P){b:w6}(cr:Ik P E an ad b):CS P E an ad b:=fun K m d s ns lv hK h ok w l c=>by
 obtain⟨k,rfl⟩:∃k,K=k+1:=⟨K - 1,by omega⟩
 have hd:(PV.dct d).pure=true:=by rw[PV.pure];exact h.p
 have hE:(PV.lst (E.map PV.str)).pure=true:=by rw[PV.pure];exact aW E
 have pa:(PO.dct ad).pure=true:=by rw[PO.pure];exact ha.p
 obtain⟨y6,y7,y8,y9,t',e⟩:=cr k m d s ns lv (by omega) h ok w l (some (.tup (j6 b))) [] [] none none none none (by simpa using c);unfold cE at e;rw[List.nil_append]at e;show ei (ki (F k) (L k)) 5 10 [.tup (j6 b),.dct d,.lst (E.map PV.str),.int (lv:Int),.ref 0] [.dct ad]=_;have pt:dG [.ref 1] (.dct ad::.lst (j6 (rS (G4 E) an s lv b))::t')=.ok (.tup (j6 (rS (G4 E) an s lv b))) (.dct ad::.lst (j6 (rS (G4 E) an s lv b))::t'):=rfl;simp only[EX,ei,ki,e,pt,vB];exact JZ _ (by rw[PV.pure];exact bt _) pa
mutual
theorem Cv(ha:AD ad an P)(lE:40≤E.length):∀n:Nd,R5 P E an ad n
 |.text x=>zD x
 |.place p x=>wP p x
 |.loop x p b u=>zE ha lE x p b u ((jA ha lE b).cs ha)
 |.choice p y z=>vf ha p y z ((jA ha lE y).cs ha) ((jA ha lE z).cs ha)
 |.use x ps=>Bt ha x ps
 |.j8 x ps hs b=>zC ha lE x ps hs b ((jA ha lE b).cs ha)
 |.body ps=>zF ps
theorem jA(ha:AD ad an P)(lE:40≤E.length):∀b:w6,Ik P E an ad b
 |.nil=>fun K m d s ns lv hK h ok w l bv acc t x6 x7 x8 x9 la=>⟨x6,x7,x8,x9,t,by rw[rS,j6,List.append_nil];rfl⟩
 |.cons n r=>fun K m d s ns lv hK h ok w l bv acc t x6 x7 x8 x9 la=>by rw[Lh,Bool.and_eq_true]at ok;rw[wS,Bool.and_eq_true]at w;rw[NP]at l;rw[J8]at la;rw[dS]at hK;obtain⟨y7,y8,y9,t1,e1⟩:=Cv ha lE n K m d s ns lv (by omega) h ok.1 w.1 (by omega) (by omega) bv acc t x7 x8 x9 (by omega);obtain⟨z6,z7,z8,z9,t2,e2⟩:=jA ha lE r K m d s ns lv (by omega) h ok.2 w.2 (by omega) bv (acc++ [nd (rN (G4 E) an s lv n)]) t1 (some (nd (rN (G4 E) an s lv n))) y7 y8 y9 (by rw[List.length_append,List.length_singleton];omega);refine⟨z6,z7,z8,z9,t2,?_⟩;rw[j6,rS,j6];rw[List.append_assoc]at e2;exact Eq.trans (cI rfl e1) e2
end
theorem Cw(ha:AD ad an P)(lE:40≤E.length)(b:w6):CS P E an ad b:=(jA ha lE b).cs ha
noncomputable def lF(E:List (List Nat))(x:List Nat):List (List Nat):=if x∈E then E else E++ [x]
noncomputable def bZ:List Nat:=(List.range 26).map (· +97)
def more(E:List (List Nat)):List Nat→List (List Nat)
 |[]=>E
 |c::r=>more (lF (lF E [c,106]) [106,c]) r
theorem qI{E:List (List Nat)}{x:List Nat}(nd:E.Nodup)(hs:H_ E=true)(hx:sg x=true):(lF E x).Nodup∧H_ (lF E x)=true∧(lF E x).length≤E.length+1∧E.length≤(lF E x).length∧x∈lF E x∧∀y∈E,y∈lF E x:=by
 unfold lF
 split
 ·rename_i h;exact⟨nd,hs,by omega,Nat.le_refl _,h,fun y h=>h⟩
 ·rename_i h;refine⟨?_,?_,by simp,by simp,by simp,fun y hy=>List.mem_append_left _ hy⟩
  ·rw[List.nodup_append];exact⟨nd,by simp,fun a ha b hb e=>h (by rw[List.mem_singleton]at hb;rw[← hb,← e];exact ha)⟩
  ·unfold H_ at hs ⊢;rw[List.all_append,hs];simp[hx]
theorem wT:∀(cs:List Nat)(E:List (List Nat)),(∀c∈cs,sg [c,106]=true∧sg [106,c]=true)→E.Nodup→H_ E=true→(more E cs).Nodup∧H_ (more E cs)=true∧(more E cs).length≤E.length+2 * cs.length∧(∀y∈E,y∈more E cs)∧∀c∈cs,[c,106]∈more E cs∧ [106,c]∈more E cs
 |[],E,_,nd,hs=>⟨nd,hs,by simp[more],fun y h=>h,fun c h=>by cases h⟩
 |c::r,E,hc,nd,hs=>by
  obtain⟨a1,a2,a3,_,a4,a5⟩:=qI nd hs (hc c (by simp)).1;obtain⟨b1,b2,b3,_,b4,b5⟩:=qI a1 a2 (hc c (by simp)).2;obtain⟨c1,c2,c3,c4,c5⟩:=wT r _ (fun x hx=>hc x (by simp[hx])) b1 b2;rw[more];refine⟨c1,c2,by rw[List.length_cons];omega,fun y hy=>c4 y (b5 y (a5 y hy)),fun x hx=>?_⟩;rcases List.mem_cons.mp hx with rfl|hx
  ·exact⟨c4 _ (b5 _ a4),c4 _ b4⟩
  ·exact c5 x hx
theorem tE{α:Type}[BEq α][LawfulBEq α]:∀(l m:List α),l.Nodup→(∀x∈l,x∈m)→l.length≤m.length
 |[],m,_,_=>by simp
 |a::r,m,nd,h=>by rw[List.nodup_cons]at nd;have:=tE r (m.erase a) nd.2 fun x hx=>(List.mem_erase_of_ne (fun e=>nd.1 (by rw[← e];exact hx))).mpr (h x (by simp[hx]));have ha:=h a (by simp);rw[List.length_erase_of_mem ha]at this;have:=List.length_pos_of_mem ha;rw[List.length_cons];omega
theorem mB(E:List (List Nat))(h:∀c∈bZ,[c,106]∈E∧ [106,c]∈E):51≤E.length:=by
 have:=tE (bZ.map (fun c=> [c,106])++(bZ.filter (· ≠106)).map (fun c=> [106,c])) E (by decide) fun x hx=>by
  rcases List.mem_append.mp hx with z|z
  ·obtain⟨c,hc,rfl⟩:=List.mem_map.mp z;exact(h c hc).1
  ·obtain⟨c,hc,rfl⟩:=List.mem_map.mp z;exact(h c (List.mem_filter.mp hc).1).2
 exact Nat.le_trans (by decide) this
abbrev aE(b m:Option PV)(t:Int)(x4 x5:Option PV):Ev:=[b,m,some (.int t),some (.ref 0),x4,x5,none,none,none,none,none,none,none,none,none]
theorem vN(K:Nat)(b m x4:Option PV)(t:Int)(E:List (List Nat))(x:List Nat)(hs:H_ E=true)(hx:sg x=true)(l:E.length≤200):dA (F K) (aE b m t x4 (some (.str x))) [.lst (E.map PV.str)]=.nx (aE b m t x4 (some (.str x))) [.lst ((lF E x).map PV.str)]:=by
 have ni:fQ (.str x) (.ref 0) [.lst (E.map PV.str)]=.ok (.bl (!decide (x∈E))) [.lst (E.map PV.str)]:=by unfold fQ;rw[show uX (.str x) (.ref 0) [.lst (E.map PV.str)]=uX (.str x) (.lst (E.map PV.str)) []from rfl,Fi (kF hx) (wk hs)]
 have ap:bU (.ref 0) [.str x] [.lst (E.map PV.str)]=.ok .non [.lst (E.map PV.str++ [.str x])]:=by show(if(E.map PV.str).length<sizeLine then Res.ok PV.non _ else .bad)=_;rw[if_pos (Nat.lt_of_le_of_lt (by rw[List.length_map];exact l:(E.map PV.str).length≤200) (by decide))];rfl
 have d0:∀l,am [.lst l] (.ref 0)=.ref 0:=fun l=>rfl;have il:∀l,fB [.lst l] (.ref 0)=true:=fun l=>rfl;unfold lF
 by_cases h:x∈E
 ·have nd:decide (x∈E)=true:=decide_eq_true h;rw[if_pos h];simp only[EX,dA,aE,d0,ni,nd]
  try rfl
 ·have nd:decide (x∈E)=false:=decide_eq_false h;rw[if_neg h,List.map_append,List.map_singleton];simp only[EX,dA,aE,d0,ni,nd,ap,il]
  try rfl
theorem EM(K:Nat)(b m x5:Option PV)(t:Int)(E:List (List Nat))(c:Nat)(hs:H_ E=true)(nd:E.Nodup)(h1:sg [c,106]=true)(h2:sg [106,c]=true)(l:E.length≤199):eI (F K) (aE b m t (some (.str [c])) x5) [.lst (E.map PV.str)]=.nx (aE b m t (some (.str [c])) (some (.str [106,c]))) [.lst ((lF (lF E [c,106]) [106,c]).map PV.str)]:=by
 obtain⟨a1,a2,a3,_,a4,a5⟩:=qI nd hs h1;have e1:=vN K b m (some (.str [c])) t E [c,106] hs h1 (by omega);have e2:=vN K b m (some (.str [c])) t _ [106,c] a2 h2 (by omega)
 have lo:aR (D_ 5) (dA (F K)) [.str [c,106],.str [106,c]] (aE b m t (some (.str [c])) x5) [.lst (E.map PV.str)]=.nx (aE b m t (some (.str [c])) (some (.str [106,c]))) [.lst ((lF (lF E [c,106]) [106,c]).map PV.str)]:=by refine Eq.trans (cI (ρ1:=aE b m t (some (.str [c])) (some (.str [c,106]))) rfl e1) ?_;exact Eq.trans (cI (ρ1:=aE b m t (some (.str [c])) (some (.str [106,c]))) rfl e2) rfl
 have i1:aN (.str [c]) (.str [106]) [.lst (E.map PV.str)]=.ok (.str [c,106]) [.lst (E.map PV.str)]:=rfl;have i2:aN (.str [106]) (.str [c]) [.lst (E.map PV.str)]=.ok (.str [106,c]) [.lst (E.map PV.str)]:=rfl;unfold aE at lo;simp only[EX,eI,aE,i1,i2,lo]
theorem yM(K:Nat)(b m:Option PV)(t:Int):∀(cs:List Nat)(E:List (List Nat))(x4 x5:Option PV),(∀c∈cs,sg [c,106]=true∧sg [106,c]=true)→H_ E=true→E.Nodup→E.length+2 * cs.length≤200→∃y4 y5,aR (D_ 4) (eI (F K)) (cs.map fun c=>.str [c]) (aE b m t x4 x5) [.lst (E.map PV.str)]=.nx (aE b m t y4 y5) [.lst ((more E cs).map PV.str)]
 |[],E,x4,x5,_,_,_,_=>⟨x4,x5,rfl⟩
 |c::r,E,x4,x5,hc,hs,nd,l=>by rw[List.length_cons]at l;obtain⟨a1,a2,a3,_,a4,a5⟩:=qI nd hs (hc c (by simp)).1;obtain⟨b1,b2,b3,_,b4,b5⟩:=qI a1 a2 (hc c (by simp)).2;obtain⟨y4,y5,e⟩:=yM K b m t r (lF (lF E [c,106]) [106,c]) (some (.str [c])) (some (.str [106,c])) (fun x hx=>hc x (by simp[hx])) b2 b1 (by omega);exact⟨y4,y5,Eq.trans (cI (ρ1:=aE b m t (some (.str [c])) x5) rfl (EM K b m x5 t E c hs nd (hc c (by simp)).1 (hc c (by simp)).2 (by omega))) e⟩
theorem Jl{c d e f g i j k l m n o p q:Option PV}{a:PV}{b:Ev}{h:List PO}:ai 14 (c::d::e::f::g::i::j::k::l::m::n::o::p::q::some a::b) h=.ok (am h a) h:=rfl
theorem Jm{c d e f g i j k l m n o p q r:Option PV}{a:PV}{b:Ev}{h:List PO}:Pq 14 (c::d::e::f::g::i::j::k::l::m::n::o::p::q::r::b) (.ok a h)=.nx (c::d::e::f::g::i::j::k::l::m::n::o::p::q::some a::b) h:=rfl
noncomputable def rj(E:List (List Nat))(t:Int):List (List Nat):=
 let R:=E.drop (t % (E.length:Int)).toNat++E.take (t % (E.length:Int)).toNat
 if t / 64 % 2=1 then R.reverse else R
theorem CX{E:List (List Nat)}(t:Int)(nd:E.Nodup)(hs:H_ E=true):(rj E t).Nodup∧H_ (rj E t)=true∧(rj E t).length=E.length:=by
 have h:∀a,(E.drop a++E.take a).Nodup∧H_ (E.drop a++E.take a)=true∧(E.drop a++E.take a).length=E.length:=fun a=>by
  have p:(E.drop a++E.take a).Perm E:=by have:=List.perm_append_comm (l₁:=E.drop a) (l₂:=E.take a);rw[List.take_append_drop]at this;exact this
  exact⟨p.nodup_iff.mpr nd,by unfold H_ at hs ⊢;rw[List.all_eq_true]at hs ⊢;exact fun x hx=>hs x (p.mem_iff.mp hx),p.length_eq⟩
 unfold rj;obtain⟨a,b,c⟩:=h (t % (E.length:Int)).toNat;dsimp only
 split
 ·refine⟨by rw[List.Nodup,List.pairwise_reverse];exact a.imp fun h=>h.symm,?_,by rw[List.length_reverse];exact c⟩;unfold H_ at b ⊢;rw[List.all_reverse];exact b
 ·exact⟨a,b,c⟩
abbrev pH(x0:List PV)(ad:List (PK×PV))(f:List PV)(t:List PO):List PO:=.lst x0::.dct ad::.lst f::t
abbrev pE(bv mv:Option PV)(tn:Int)(E:List (List Nat))(x4 x5 x6 x9 O9 NQ M8 P_ P0:Option PV):Ev:=[bv,mv,some (.int tn),some (.lst (E.map PV.str)),x4,x5,x6,some (.ref 1),some (.ref 2),x9,O9,NQ,M8,P_,P0]
abbrev Lk(tn:Int)(k:Nat):Nat:=((tn / 128+7 * (k:Int)) % 40).toNat
variable{P:List Pe}{an:List Nat→List Nat}
theorem zu(K k:Nat)(Oc:List PV)(mv x4 x5 x6 NQ M8 P_ P0:Option PV)(tn:Int)(E:List (List Nat))(lE:40≤E.length)(x0:List PV)(ad:List (PK×PV))(f:List PV)(t:List PO)(q:Pc)
  (hk:k+1<Oc.length) (lb:Oc.length≤100) (la:ad.length≤100) (lf:f.length≤100) (pf:aq f=true) (VH:q.ns.Nodup) (ln:q.ns.length≤10)
  (ha:AD (bK ad (.inr q.n) (.str (G4 E (Lk tn k)))) an P) (ok:Lh (P,q.m,q.ns) q.b=true) (hw:wS q.b=true) (hl:q.ns.length+NP q.b≤40) (hc:J8 q.b≤10000) (hK:2 * dS q.b+3≤K):
  ∃Qu Qt Rk Rj t',bD (F K) (L K) (pE (some (.tup Oc)) mv tn E x4 x5 x6 (some (.int (k:Int))) (some (pc q)) NQ M8 P_ P0) (pH x0 ad f t)=.nx (pE (some (.tup Oc)) mv tn E x4 x5 x6 (some (.int (k:Int))) (some (pc q)) Qu Qt Rk Rj) (pH x0 (bK ad (.inr q.n) (.str (G4 E (Lk tn k)))) (f++ [pc ⟨G4 E (Lk tn k),evs (G4 E) 0 q.ns.length,q.m,rS (G4 E) an (Oj (fun x=>x) q.ns (evs (G4 E) 0 q.ns.length)) q.ns.length q.b⟩]) t'):=by
 have hE:(PV.lst (E.map PV.str)).pure=true:=by rw[PV.pure];exact aW E
 have pa:(PO.dct (bK ad (.inr q.n) (.str (G4 E (Lk tn k))))).pure=true:=by rw[PO.pure];exact ha.p
 have es:=fK (G4 E) 0 q.ns.length;have Vx:SD [] (fun x=>x) [] 0:=⟨rfl,by simp,fun x h=>by cases h⟩
 have up:=Vx.up q.ns (evs (G4 E) 0 q.ns.length) es.symm;have mz:=wW q.ns (evs (G4 E) 0 q.ns.length) VH;rw[show iU [] (zl q.ns (evs (G4 E) 0 q.ns.length))=zl q.ns (evs (G4 E) 0 q.ns.length)from mz,List.nil_append,Nat.zero_add]at up;have zp:=sv q.ns (evs (G4 E) 0 q.ns.length);have cu:=Cs E 0 q.ns.length (by omega)
 have cu2:cut (E.map PV.str) none (some (q.ns.length:Int))=(evs (G4 E) 0 q.ns.length).map PV.str:=by rw[← cu];unfold cut;rw[show((0:Nat):Int)+(q.ns.length:Int)=(q.ns.length:Int) by omega];rfl
 have cs:=Cw (E:=E) ha lE q.b K q.m _ _ q.ns q.ns.length hK up ok hw hl hc;have W9:Lk tn k<40:=by have:=Int.emod_lt_of_pos (tn / 128+7 * (k:Int)) (by decide:(0:Int)<40);have:=Int.emod_nonneg (tn / 128+7 * (k:Int)) (by decide:(40:Int)≠0);unfold Lk;omega
 have V8:∀g,d7 (.lst (E.map PV.str)) (.int ((tn / 128+7 * (k:Int)) % 40)) g=.ok (.str (G4 E (Lk tn k))) g:=fun g=>by have:=V9 (E:=E) 40 (Lk tn k) W9 lE g;rw[show((Lk tn k:Nat):Int)=(tn / 128+7 * (k:Int)) % 40 by have:=Int.emod_nonneg (tn / 128+7 * (k:Int)) (by decide:(40:Int)≠0);unfold Lk;omega]at this;exact this
 generalize G4 E (Lk tn k)=a at*;generalize he:evs (G4 E) 0 q.ns.length=e at*
 have sd:∀ ρ,mK (.str a) (.ref 1) (.str q.n) ρ (pH x0 ad f t)=.nx ρ (pH x0 (bK ad (.inr q.n) (.str a)) f t):=fun ρ=>by show(if ad.length<sizeLine then SR.nx ρ (pH x0 (bK ad (.inr q.n) (.str a)) f t)else .bad)=_;rw[if_pos (Nat.lt_of_le_of_lt la (by decide))]
 generalize hA:bK ad (.inr q.n) (.str a)=A at*
 have dz:mq [nms q.ns,.tup (e.map PV.str)] (pH x0 A f t)=.ok (.ref (t.length+3)) (pH x0 A f (t++ [PO.dct (zl q.ns e)])):=by show(match Q9 (q.ns.map PV.str) (e.map PV.str)with|some l=>Res.ok (PV.ref (t.length+3)) (pH x0 A f (t++ [PO.dct (Sh l)]))|none=>.bad)=_;rw[zp];dsimp only;rw[mz]
 have gt:∀o:PO,(pH x0 A f (t++ [o]))[t.length+3]? =some o:=fun o=>by simp
 have se:∀o o':PO,(pH x0 A f (t++ [o])).set (t.length+3) o'=pH x0 A f (t++ [o']):=fun o o'=>by simp
 have fz:O1 (.ref (t.length+3)) (pH x0 A f (t++ [PO.dct (zl q.ns e)]))=.ok (.dct (zl q.ns e)) (pH x0 A f (t++ [PO.G6 (.dct (zl q.ns e))])):=by unfold O1 Ru gW;dsimp only;rw[gt];dsimp only;rw[if_pos up.p,se]
 have WD:∀g,O1 (.lst (E.map PV.str)) g=.ok (.lst (E.map PV.str)) g:=fun g=>by unfold O1 Ru;show(match gx g (.lst (E.map PV.str))with|some (q,h2)=>Res.ok q h2|none=>.bad)=_;rw[gw g hE]
 have ix:∀g,d7 (.ref 1) (.str q.n) (pH x0 A f g)=.ok (.str a) (pH x0 A f g):=fun g=>by show(match dq A (.inr q.n)with|some v=>Res.ok (am (pH x0 A f g) v) (pH x0 A f g)|none=>_)=_;rw[← hA,ky,if_pos rfl];rfl
 have hz:(PV.dct (zl q.ns e)).pure=true:=by rw[PV.pure];exact up.p
 have cl:w7 (L K .q_) [.tup (j6 q.b),.dct (zl q.ns e),.lst (E.map PV.str),.int (q.ns.length:Int),.ref 1] (pH x0 A f (t++ [PO.G6 (.dct (zl q.ns e))]))=.ok (.tup (j6 (rS (G4 E) an (Oj (fun x=>x) q.ns e) q.ns.length q.b))) (pH x0 A f (t++ [PO.G6 (.dct (zl q.ns e))])):=
  bY (i:=1) [.tup (j6 q.b),.dct (zl q.ns e),.lst (E.map PV.str),.int (q.ns.length:Int)] [] (by simp only[aq,PV.pure,bt,aW,up.p];rfl) rfl rfl pa cs (by rw[PV.pure];exact bt _) pa
 have ap:∀v,bU (.ref 2) [v] (pH x0 A f (t++ [PO.G6 (.dct (zl q.ns e))]))=.ok .non (pH x0 A (f++ [v]) (t++ [PO.G6 (.dct (zl q.ns e))])):=fun v=>by show(if f.length<sizeLine then Res.ok PV.non _ else .bad)=_;rw[if_pos (Nat.lt_of_le_of_lt lf (by decide))];rfl
 have hn:∀g,dZ [nms q.ns] g=.ok (.int (q.ns.length:Int)) g:=fun g=>by show Res.ok (PV.int ((q.ns.map PV.str).length:Int)) g=_;rw[List.length_map]
 have ln2:(((e.map PV.str).length:Nat):Int)=(q.ns.length:Int):=by rw[List.length_map,es]
 have ne:decide ((k:Int)=((Oc.length:Nat):Int) - 1)=false:=decide_eq_false (by omega);have WQ:∀A f g,am (pH x0 A f g) (.ref 1)=.ref 1:=fun A f g=>rfl;have WM:∀A f g,am (pH x0 A f g) (.ref 2)=.ref 2:=fun A f g=>rfl;have il:∀A f g,fB (pH x0 A f g) (.ref 2)=true:=fun A f g=>rfl;have VK:∀g,am g (v9 q.m)=v9 q.m:=fun g=>iO g _;refine⟨some (nms e),some (.lst (E.map PV.str)),some (.int (q.ns.length:Int)),some (.dct (zl q.ns e)),t++ [PO.G6 (.dct (zl q.ns e))],?_⟩;unfold pE;unfold pH at*;simp only[EX,bD,zv,xP,cu2,V8,sd,aG _ hE,aG _ hz,hn,ln2,ne,dz,fz,WD,ix,cl,ap,WQ,WM,il,VK,Jl,Jm];rfl
theorem vG{tt:Tx}{te:Ex}{cp:Ev}(f:List Nat→Bool)(h:List PO):∀(l:List (List Nat)),(∀x∈l,tt (some (.str x)::cp) h=.ok (f x) h∧te (some (.str x)::cp) h=.ok (.str x) h)→cT tt te cp (l.map PV.str) h=.ok ((l.filter f).map PV.str) h
 |[],_=>rfl
 |x::r,e=>by
  obtain⟨e1,e2⟩:=e x (by simp);have ih:=vG f h r fun y hy=>e y (by simp[hy]);rw[List.map_cons,cT,e1,Res.bind]
  cases hf:f x with
  |true=>rw[if_pos rfl,e2,Res.bind,ih,List.filter_cons,if_pos hf,List.map_cons];rfl
  |false=>rw[if_neg (by decide),ih,List.filter_cons,if_neg (by simp[hf])]
theorem yr(E ns:List (List Nat))(nd:E.Nodup):E.length≤(E.filter fun x=>!decide (x∈ns)).length+ns.length:=by
 have:=tE E ((E.filter fun x=>!decide (x∈ns))++ns) nd fun x hx=>by
  by_cases h:x∈ns
  ·exact List.mem_append_right _ h
  ·exact List.mem_append_left _ (List.mem_filter.mpr ⟨hx,by simp[h]⟩)
 rw[List.length_append]at this;exact this
variable{P:List Pe}{an:List Nat→List Nat}
theorem wL(K k:Nat)(Oc:List PV)(mv x4 x5 x6 NQ M8 P_ P0:Option PV)(tn:Int)(E:List (List Nat))(lE:40≤E.length)(x0:List PV)(ad:List (PK×PV))(f:List PV)(t:List PO)(q:Pc)
  (hk:k+1=Oc.length) (sn:H_ q.ns=true) (sE:H_ E=true) (lO:40≤(E.filter fun x=>!decide (x∈q.ns)).length) (lE2:E.length≤200) (lb:Oc.length≤100) (la:ad.length≤100) (lf:f.length≤100) (pf:aq f=true) (VH:q.ns.Nodup) (ln:q.ns.length≤10)
  (ha:AD (bK ad (.inr q.n) (.str (G4 E (Lk tn k)))) an P) (ok:Lh (P,q.m,q.ns) q.b=true) (hw:wS q.b=true) (hl:NP q.b≤40) (hc:J8 q.b≤10000) (hK:2 * dS q.b+3≤K):
  ∃Qu Qt Rk Rj t',bD (F K) (L K) (pE (some (.tup Oc)) mv tn E x4 x5 x6 (some (.int (k:Int))) (some (pc q)) NQ M8 P_ P0) (pH x0 ad f t)=.nx (pE (some (.tup Oc)) mv tn E x4 x5 x6 (some (.int (k:Int))) (some (pc q)) Qu Qt Rk Rj) (pH x0 (bK ad (.inr q.n) (.str (G4 E (Lk tn k)))) (f++ [pc ⟨G4 E (Lk tn k),q.ns,q.m,rS (G4 (E.filter fun x=>!decide (x∈q.ns))) an (Oj (fun x=>x) q.ns q.ns) 0 q.b⟩]) t'):=by
 have hE:(PV.lst (E.map PV.str)).pure=true:=by rw[PV.pure];exact aW E
 have pa:(PO.dct (bK ad (.inr q.n) (.str (G4 E (Lk tn k))))).pure=true:=by rw[PO.pure];exact ha.p
 have Vx:SD [] (fun x=>x) [] 0:=⟨rfl,by simp,fun x h=>by cases h⟩
 have up:=Vx.up q.ns q.ns rfl;have mz:=wW q.ns q.ns VH;rw[show iU [] (zl q.ns q.ns)=zl q.ns q.ns from mz,List.nil_append,Nat.zero_add]at up;have up:SD (zl q.ns q.ns) (Oj (fun x=>x) q.ns q.ns) q.ns 0:=⟨up.p,by have:=(iH q.ns q.ns [] rfl).2;rw[show iU [] (zl q.ns q.ns)=zl q.ns q.ns from mz]at this;simp at this;omega,up.v⟩
 have zp:=sv q.ns q.ns
 have flt:∀h,cT (fZ (F K)) (gy (F K)) [some (nms q.ns)] (E.map PV.str) h=.ok ((E.filter fun x=>!decide (x∈q.ns)).map PV.str) h:=fun h=>vG _ h E fun x hx=>by have ni:=Fb (kF (List.all_eq_true.mp sE x hx)) (wk sn) h;have dn:am h (nms q.ns)=nms q.ns:=rfl;have ni:fQ (.str x) (nms q.ns) h=.ok (.bl (!decide (x∈q.ns))) h:=ni;exact⟨by simp only[EX,fZ,dn,ni],by simp only[EX,gy]⟩
 have l2:(E.map PV.str).length<16777216:=by rw[List.length_map];omega
 generalize hO:(E.filter fun x=>!decide (x∈q.ns))=O at*;have pO:(PV.lst (O.map PV.str)).pure=true:=by rw[PV.pure];exact aW O
 have cs:=Cw (E:=O) ha lO q.b K q.m _ _ q.ns 0 hK up ok hw (by omega) hc;have W9:Lk tn k<40:=by have:=Int.emod_lt_of_pos (tn / 128+7 * (k:Int)) (by decide:(0:Int)<40);have:=Int.emod_nonneg (tn / 128+7 * (k:Int)) (by decide:(40:Int)≠0);unfold Lk;omega
 have V8:∀g,d7 (.lst (E.map PV.str)) (.int ((tn / 128+7 * (k:Int)) % 40)) g=.ok (.str (G4 E (Lk tn k))) g:=fun g=>by have:=V9 (E:=E) 40 (Lk tn k) W9 lE g;rw[show((Lk tn k:Nat):Int)=(tn / 128+7 * (k:Int)) % 40 by have:=Int.emod_nonneg (tn / 128+7 * (k:Int)) (by decide:(40:Int)≠0);unfold Lk;omega]at this;exact this
 generalize G4 E (Lk tn k)=a at*
 have sd:∀ ρ,mK (.str a) (.ref 1) (.str q.n) ρ (pH x0 ad f t)=.nx ρ (pH x0 (bK ad (.inr q.n) (.str a)) f t):=fun ρ=>by show(if ad.length<sizeLine then SR.nx ρ (pH x0 (bK ad (.inr q.n) (.str a)) f t)else .bad)=_;rw[if_pos (Nat.lt_of_le_of_lt la (by decide))]
 generalize hA:bK ad (.inr q.n) (.str a)=A at*;have nl:∀l,qX l (pH x0 A f t)=.ok (.ref (t.length+3)) (pH x0 A f (t++ [PO.lst l])):=fun l=>rfl
 have dz:mq [nms q.ns,nms q.ns] (pH x0 A f (t++ [PO.lst (O.map PV.str)]))=.ok (.ref (t.length+4)) (pH x0 A f (t++ [PO.lst (O.map PV.str),PO.dct (zl q.ns q.ns)])):=by show(match Q9 (q.ns.map PV.str) (q.ns.map PV.str)with|some l=>Res.ok (PV.ref (pH x0 A f (t++ [PO.lst (O.map PV.str)])).length) (pH x0 A f (t++ [PO.lst (O.map PV.str)])++[PO.dct (Sh l)])|none=>.bad)=_;rw[zp];dsimp only;rw[mz];simp
 have gt:∀o o':PO,(pH x0 A f (t++ [o,o']))[t.length+3]? =some o:=fun o o'=>by simp
 have gt2:∀o o':PO,(pH x0 A f (t++ [o,o']))[t.length+4]? =some o':=fun o o'=>by show(t++ [o,o'])[t.length+1]? =some o';rw[List.getElem?_append_right (by omega),Nat.add_sub_cancel_left];rfl
 have se:∀o o' o2:PO,(pH x0 A f (t++ [o,o'])).set (t.length+3) o2=pH x0 A f (t++ [o2,o']):=fun o o' o2=>by simp
 have Y8:∀o o' o2:PO,(pH x0 A f (t++ [o,o'])).set (t.length+4) o2=pH x0 A f (t++ [o,o2]):=fun o o' o2=>by show PO.lst x0::PO.dct A::PO.lst f::(t++ [o,o']).set (t.length+1) o2=_;rw[List.set_append_right _ _ (by omega),Nat.add_sub_cancel_left];rfl
 have fz:O1 (.ref (t.length+4)) (pH x0 A f (t++ [PO.lst (O.map PV.str),PO.dct (zl q.ns q.ns)]))=.ok (.dct (zl q.ns q.ns)) (pH x0 A f (t++ [PO.lst (O.map PV.str),PO.G6 (.dct (zl q.ns q.ns))])):=by unfold O1 Ru gW;dsimp only;rw[gt2];dsimp only;rw[if_pos up.p,Y8]
 have WD:O1 (.ref (t.length+3)) (pH x0 A f (t++ [PO.lst (O.map PV.str),PO.G6 (.dct (zl q.ns q.ns))]))=.ok (.lst (O.map PV.str)) (pH x0 A f (t++ [PO.G6 (.lst (O.map PV.str)),PO.G6 (.dct (zl q.ns q.ns))])):=by unfold O1 Ru gW gx;dsimp only;rw[gt];dsimp only;rw[if_pos (aW O),se]
 have ix:∀g,d7 (.ref 1) (.str q.n) (pH x0 A f g)=.ok (.str a) (pH x0 A f g):=fun g=>by show(match dq A (.inr q.n)with|some v=>Res.ok (am (pH x0 A f g) v) (pH x0 A f g)|none=>_)=_;rw[← hA,ky,if_pos rfl];rfl
 have hz:(PV.dct (zl q.ns q.ns)).pure=true:=by rw[PV.pure];exact up.p
 have cl:w7 (L K .q_) [.tup (j6 q.b),.dct (zl q.ns q.ns),.lst (O.map PV.str),.int 0,.ref 1] (pH x0 A f (t++ [PO.G6 (.lst (O.map PV.str)),PO.G6 (.dct (zl q.ns q.ns))]))=.ok (.tup (j6 (rS (G4 O) an (Oj (fun x=>x) q.ns q.ns) 0 q.b))) (pH x0 A f (t++ [PO.G6 (.lst (O.map PV.str)),PO.G6 (.dct (zl q.ns q.ns))])):=
  bY (i:=1) [.tup (j6 q.b),.dct (zl q.ns q.ns),.lst (O.map PV.str),.int 0] [] (by simp only[aq,PV.pure,bt,aW,up.p];rfl) rfl rfl pa cs (by rw[PV.pure];exact bt _) pa
 have ap:∀v g,bU (.ref 2) [v] (pH x0 A f g)=.ok .non (pH x0 A (f++ [v]) g):=fun v g=>by show(if f.length<sizeLine then Res.ok PV.non _ else .bad)=_;rw[if_pos (Nat.lt_of_le_of_lt lf (by decide))];rfl
 have ne:decide ((k:Int)=((Oc.length:Nat):Int) - 1)=true:=decide_eq_true (by omega);have WQ:∀A f g,am (pH x0 A f g) (.ref 1)=.ref 1:=fun A f g=>rfl;have WM:∀A f g,am (pH x0 A f g) (.ref 2)=.ref 2:=fun A f g=>rfl
 have dr3:∀l o,am (pH x0 A f (t++ [PO.lst l,o])) (.ref (t.length+3))=.ref (t.length+3):=fun l o=>by unfold am;dsimp only;rw[gt]
 have il:∀A f g,fB (pH x0 A f g) (.ref 2)=true:=fun A f g=>rfl;have VK:∀g,am g (v9 q.m)=v9 q.m:=fun g=>iO g _;have Zm:∀g,am g (nms q.ns)=nms q.ns:=fun g=>rfl;have cp:∀M8 P_ P0,dg [11] (pE (some (.tup Oc)) mv tn E x4 x5 x6 (some (.int (k:Int))) (some (pc q)) (some (nms q.ns)) M8 P_ P0)=[some (nms q.ns)]:=fun M8 P_ P0=>rfl;refine⟨some (nms q.ns),some (.ref (t.length+3)),some (.int 0),some (.dct (zl q.ns q.ns)),t++ [PO.G6 (.lst (O.map PV.str)),PO.G6 (.dct (zl q.ns q.ns))],?_⟩;unfold pE at cp ⊢;unfold pH at*;simp only[EX,bD,zv,xP,V8,sd,aG _ hE,aG _ hz,ne,cp,flt,l2,nl,dz,fz,WD,ix,cl,ap,WQ,WM,dr3,il,VK,Zm,Jl,Jm];rfl
def GK(E:List (List Nat))(tn:Int)(an:List Nat→List Nat)(k:Nat)(q:Pc):Pc:=⟨G4 E (Lk tn k),evs (G4 E) 0 q.ns.length,q.m,rS (G4 E) an (Oj (fun x=>x) q.ns (evs (G4 E) 0 q.ns.length)) q.ns.length q.b⟩
def nR(E:List (List Nat))(tn:Int)(an:List Nat→List Nat)(k:Nat)(q:Pc):Pc:=⟨G4 E (Lk tn k),q.ns,q.m,rS (G4 (E.filter fun x=>!decide (x∈q.ns))) an (Oj (fun x=>x) q.ns q.ns) 0 q.b⟩
def iV(E:List (List Nat))(tn:Int)(an:List Nat→List Nat):Nat→List Pc→List Pc
 |_,[]=>[]
 |k,q::r=>GK E tn an k q::iV E tn an (k+1) r
theorem uS:∀(l m:List PV),aq l=true→aq m=true→aq (l++m)=true
 |[],m,_,h=>h
 |a::r,m,hl,h=>by rw[aq,Bool.and_eq_true]at hl;rw[List.cons_append,aq,hl.1,uS r m hl.2 h];rfl
structure IV(ad:List (PK×PV))(an:List Nat→List Nat)(C:List Pc):Prop where
 p:aS ad=true
 l:ad.length≤C.length
 v:∀x∈C.map (·.n),dq ad (.inr x)=some (.str (an x))
theorem IV.put{ad:List (PK×PV)}{an:List Nat→List Nat}{C:List Pc}(h:IV ad an C)(q:Pc){a:List Nat}(e:an q.n=a):IV (bK ad (.inr q.n) (.str a)) an (C++ [q]) where
 p:=gG _ _ _ h.p rfl
 l:=by have:=kJ ad (.inr q.n) (.str a);have:=h.l;rw[List.length_append];simp;omega
 v:=fun x hx=>by
  rw[ky]
  by_cases z:x=q.n
  ·rw[if_pos (by rw[z]),z,e]
  ·rw[if_neg (fun w=>z (by injection w))];refine h.v x ?_;rw[List.map_append]at hx;exact(List.mem_append.mp hx).resolve_right (fun w=>z (List.mem_singleton.mp w))
theorem IV.adr{ad:List (PK×PV)}{an:List Nat→List Nat}{C:List Pc}(h:IV ad an C)(P:List Pe)(hP:∀x l m,Mp P x l m=true→x∈C.map (·.n)):AD ad an P:=⟨h.p,fun x l m ok=>h.v x (hP x l m ok)⟩
theorem xW{C:List Pc}{x:List Nat}{l:Nat}{m:Option Int}(h:Mp (C.map LR) x l m=true):x∈C.map (·.n):=by obtain⟨q,e,_⟩:=kL h;have:=mZ C x;rw[e]at this;exact List.contains_iff_mem.mp this.symm
structure QO(q:Pc):Prop where
 w:wC q=true
 d:dS q.b≤6
 c:J8 q.b≤10000
 n:q.ns.length≤10
 b:q.ns.length+NP q.b≤40
theorem sp(K:Nat)(hK:15≤K)(Oc:List PV)(lb:Oc.length≤100)(mv x4 x5 x6:Option PV)(tn:Int)(E:List (List Nat))(an:List Nat→List Nat)(lE:40≤E.length)(x0:List PV):∀(r C:List Pc)(ad:List (PK×PV))(f:List PV)(t:List PO)(x9 O9 NQ M8 P_ P0:Option PV)(tl:List PV),C.length+r.length<Oc.length→f.length=C.length→aq f=true→IV ad an C→Mi C r=true→(∀i q,r[i]? =some q→an q.n=G4 E (Lk tn (C.length+i)))→(∀q∈r,QO q)→
  ∃Qp t' y9 TF Qu Qt Rk Rj,IV Qp an (C++r)∧aR aaG (bD (F K) (L K)) (Ma C.length (r.map pc++tl)) (pE (some (.tup Oc)) mv tn E x4 x5 x6 x9 O9 NQ M8 P_ P0) (pH x0 ad f t)=aR aaG (bD (F K) (L K)) (Ma (C.length+r.length) tl) (pE (some (.tup Oc)) mv tn E x4 x5 x6 y9 TF Qu Qt Rk Rj) (pH x0 Qp (f++(iV E tn an C.length r).map pc) t')
 |[],C,ad,f,t,x9,O9,NQ,M8,P_,P0,tl,_,_,_,iv,_,_,_=>⟨ad,t,x9,O9,NQ,M8,P_,P0,by rw[List.append_nil];exact iv,by rw[iV,List.map_nil,List.append_nil];rfl⟩
 |q::r,C,ad,f,t,x9,O9,NQ,M8,P_,P0,tl,hl,lf,pf,iv,ok,Qg,hq=>by
  rw[List.length_cons]at hl;rw[Mi,Bool.and_eq_true,Bool.and_eq_true,Bool.and_eq_true]at ok;have ea:=Qg 0 q rfl;rw[Nat.add_zero]at ea;have Vd:=iv.put q ea;have o:=hq q (by simp);have hw:=o.w;unfold wC at hw;rw[Bool.and_eq_true,Bool.and_eq_true,Bool.and_eq_true,Bool.and_eq_true]at hw;have il:=iv.l;have od:=o.d;obtain⟨Qu,Qt,Rk,Rj,t1,e1⟩:=zu K C.length Oc mv x4 x5 x6 NQ M8 P_ P0 tn E lE x0 ad f t q (by omega) lb (by omega) (by omega) pf ((jZ q.ns).mp (by have:=ok.2.1;simpa using this)) o.n (Vd.adr (C.map LR) fun x l m h=>by rw[List.map_append];exact List.mem_append_left _ (xW h)) ok.2.2.1 hw.2.2.2.1 o.b o.c (by omega);have l1:(C++ [q]).length=C.length+1:=by simp
  obtain⟨Qp,t',z9,Xa,UL,UJ,UG,Uz,j1,j2⟩:=sp K hK Oc lb mv x4 x5 x6 tn E an lE x0 r (C++ [q]) _ (f++ [pc (GK E tn an C.length q)]) t1 (some (.int (C.length:Int))) (some (pc q)) Qu Qt Rk Rj tl (by rw[l1];omega) (by rw[List.length_append,lf,l1];rfl) (by exact uS f _ pf (by rw[aq,eJ];rfl)) Vd ok.2.2.2 (fun i p hp=>by rw[l1,Nat.add_assoc,Nat.add_comm 1 i];exact Qg (i+1) p hp) (fun p hp=>hq p (by simp[hp]));refine⟨Qp,t',z9,Xa,UL,UJ,UG,Uz,by rw[show C++q::r=C++ [q]++r by simp];exact j1,?_⟩;rw[List.map_cons,List.cons_append,Ma];refine Eq.trans (cI (ρ1:=pE (some (.tup Oc)) mv tn E x4 x5 x6 (some (.int (C.length:Int))) (some (pc q)) NQ M8 P_ P0) rfl e1) ?_;rw[l1]at j2;rw[iV,List.map_cons,List.length_cons,show C.length+(r.length+1)=C.length+1+r.length by omega];rw[List.append_assoc]at j2;exact j2
theorem BV:∀(l:List (List Nat))(i:Nat)(x:List Nat),l.Nodup→l[i]? =some x→l.idxOf x=i
 |[],_,_,_,h=>by simp at h
 |a::r,0,x,_,h=>by
  have h:a=x:=by simpa using h
  subst h;rw[List.idxOf_cons_self]
 |a::r,i+1,x,nd,h=>by
  rw[List.nodup_cons]at nd;have h':r[i]? =some x:=by simpa using h
  have m:x∈r:=List.mem_of_getElem? h';have ne:a≠x:=fun e=>nd.1 (by rw[e];exact m);have z:(a==x)=false:=by simpa using ne
  rw[List.idxOf_cons,z,BV r i x nd.2 h'];rfl
noncomputable def QB(B:List Pc)(E:List (List Nat))(tn:Int)(x:List Nat):List Nat:=G4 E (Lk tn ((B.map (·.n)).idxOf x))
theorem xt{B:List Pc}(E:List (List Nat))(tn:Int)(nd:(B.map (·.n)).Nodup){i:Nat}{q:Pc}(h:B[i]? =some q):QB B E tn q.n=G4 E (Lk tn i):=by unfold QB;rw[BV _ i q.n nd (by rw[List.getElem?_map,h];rfl)]
def dJ(ms:List (List Nat))(tn:Int):List (List Nat):=rj (more ms bZ) tn
theorem Cl{ms:List (List Nat)}(tn:Int)(ml:ms.length=12)(hm:H_ ms=true)(md:ms.Nodup):(dJ ms tn).Nodup∧H_ (dJ ms tn)=true∧51≤(dJ ms tn).length∧(dJ ms tn).length≤64:=by obtain⟨a,b,c,_,e⟩:=wT bZ ms (by decide) md hm;obtain⟨x,y,z⟩:=CX tn a b;have l:=mB _ e;have ll:bZ.length=26:=rfl;exact⟨x,y,by unfold dJ;omega,by unfold dJ;omega⟩
abbrev hH(ms:List (List Nat))(tn:Int)(D:List Pc)(q:Pc):List Pc:=iV (dJ ms tn) tn (QB (D++ [q]) (dJ ms tn) tn) 0 D++ [nR (dJ ms tn) tn (QB (D++ [q]) (dJ ms tn) tn) D.length q]
theorem yL(K:Nat)(hK:15≤K)(ms:List (List Nat))(ml:ms.length=12)(hm:H_ ms=true)(md:ms.Nodup)(tn:Int)(D:List Pc)(q:Pc)(lD:D.length+1≤8)(ok:Mi [] (D++ [q])=true)(nd:((D++ [q]).map (·.n)).Nodup)(hq:∀p∈D++ [q],QO p):
  F (K+1) .j_ [bk (D++ [q]),KZ ms,.int tn]=.ok (bk (hH ms tn D q)):=by
 obtain⟨m1,m2,m3,_,m4⟩:=wT bZ ms (by decide) md hm;obtain⟨e1,e2,e3,e4⟩:=Cl tn ml hm md;have ll:bZ.length=26:=rfl;obtain⟨y4,y5,lo⟩:=yM K (some (bk (D++ [q]))) (some (KZ ms)) tn bZ ms none none (by decide) hm md (by omega)
 have VF:Mi [] D=true∧dup q.ns=false∧Lh (D.map LR,q.m,q.ns) q.b=true:=by
  have:∀(r C:List Pc),Mi C (r++ [q])=true→Mi C r=true∧dup q.ns=false∧Lh ((C++r).map LR,q.m,q.ns) q.b=true:=fun r=>by
   induction r with
   |nil=>intro C h;rw[List.nil_append,Mi,Bool.and_eq_true,Bool.and_eq_true,Bool.and_eq_true]at h;exact⟨rfl,by simpa using h.2.1,by rw[List.append_nil];exact h.2.2.1⟩
   |cons p r ih=>intro C h;rw[List.cons_append,Mi,Bool.and_eq_true,Bool.and_eq_true,Bool.and_eq_true]at h;obtain⟨a,b,c⟩:=ih _ h.2.2.2;exact⟨by rw[Mi,h.1,h.2.1,h.2.2.1,a];rfl,b,by rw[show C++p::r=C++ [p]++r by simp];exact c⟩
  exact this D [] ok
 have hE:(PV.lst ((dJ ms tn).map PV.str)).pure=true:=by rw[PV.pure];exact aW _
 have oq:=hq q (by simp);have hw:=oq.w;unfold wC at hw;rw[Bool.and_eq_true,Bool.and_eq_true,Bool.and_eq_true,Bool.and_eq_true]at hw;have XK:((D++ [q]).map pc).length=D.length+1:=by simp
 obtain⟨Qp,t',z9,Xa,UL,UJ,UG,Uz,iv,lp⟩:=sp K hK ((D++ [q]).map pc) (by omega) (some (KZ ms)) y4 y5 (some (.int (tn % ((more ms bZ).length:Int)))) tn (dJ ms tn) (QB (D++ [q]) (dJ ms tn) tn) (by omega) ((more ms bZ).map PV.str) D [] [] [] [] none none none none none none [pc q] (by rw[XK,List.length_nil];omega) rfl rfl ⟨rfl,by simp,fun x h=>by cases h⟩ VF.1 (fun i p hp=>by rw[List.length_nil,Nat.zero_add];exact xt _ _ nd (by rw[List.getElem?_append_left (by exact(List.getElem?_eq_some_iff.mp hp).1)];exact hp)) (fun p hp=>hq p (List.mem_append_left _ hp))
 rw[List.nil_append]at iv lp;have ea:QB (D++ [q]) (dJ ms tn) tn q.n=G4 (dJ ms tn) (Lk tn D.length):=xt _ _ nd (by rw[List.getElem?_append_right (Nat.le_refl _),Nat.sub_self];rfl);have Vd:=iv.put q ea;have il:=iv.l;have od:=oq.d
 have lm:∀(r:List Pc)(k:Nat) E tn an,(iV E tn an k r).length=r.length:=fun r=>by
  induction r with
  |nil=>intro k E tn an;rfl
  |cons p r ih=>intro k E tn an;rw[iV,List.length_cons,ih,List.length_cons]
 have fl:=yr (dJ ms tn) q.ns e1;have on:=oq.n;have ob:=oq.b
 obtain⟨Qu,Qt,Rk,Rj,t2,la⟩:=wL K D.length ((D++ [q]).map pc) (some (KZ ms)) y4 y5 (some (.int (tn % ((more ms bZ).length:Int)))) UL UJ UG Uz tn (dJ ms tn) (by omega) ((more ms bZ).map PV.str) Qp ((iV (dJ ms tn) tn (QB (D++ [q]) (dJ ms tn) tn) 0 D).map pc) t' q XK.symm hw.2.1 e2 (by omega) (by omega) (by omega) (by omega) (by rw[List.length_map,lm];omega) (by
   have:∀l:List Pc,aq (l.map pc)=true:=fun l=>by induction l with|nil=>rfl|cons a r ih=>rw[List.map_cons,aq,eJ,ih];rfl
   exact this _) ((jZ q.ns).mp VF.2.1) on (Vd.adr (D.map LR) fun x l m h=>by rw[List.map_append];exact List.mem_append_left _ (xW h)) VF.2.2 hw.2.2.2.1 (by omega) oq.c (by omega)
 have U9:aR aaG (bD (F K) (L K)) (Ma 0 ((D++ [q]).map pc)) (pE (some (.tup ((D++ [q]).map pc))) (some (KZ ms)) tn (dJ ms tn) y4 y5 (some (.int (tn % ((more ms bZ).length:Int)))) none none none none none none) (pH ((more ms bZ).map PV.str) [] [] [])=.nx (pE (some (.tup ((D++ [q]).map pc))) (some (KZ ms)) tn (dJ ms tn) y4 y5 (some (.int (tn % ((more ms bZ).length:Int)))) (some (.int (D.length:Int))) (some (pc q)) Qu Qt Rk Rj) (pH ((more ms bZ).map PV.str) (bK Qp (.inr q.n) (.str (G4 (dJ ms tn) (Lk tn D.length)))) ((hH ms tn D q).map pc) t2):=by rw[show Ma 0 ((D++ [q]).map pc)=Ma 0 (D.map pc++ [pc q]) by rw[List.map_append];rfl];refine lp.trans ?_;rw[List.length_nil,Nat.zero_add,Ma];refine Eq.trans (cI (ρ1:=pE (some (.tup ((D++ [q]).map pc))) (some (KZ ms)) tn (dJ ms tn) y4 y5 (some (.int (tn % ((more ms bZ).length:Int)))) (some (.int (D.length:Int))) (some (pc q)) UL UJ UG Uz) rfl la) ?_;rw[show(hH ms tn D q).map pc=(iV (dJ ms tn) tn (QB (D++ [q]) (dJ ms tn) tn) 0 D).map pc++ [pc (nR (dJ ms tn) tn (QB (D++ [q]) (dJ ms tn) tn) D.length q)] by unfold hH;rw[List.map_append];rfl];rfl
 have W5:=Int.emod_nonneg tn (show((more ms bZ).length:Int)≠0 by have:=mB _ m4;omega);have aaV:=Int.emod_lt_of_pos tn (show(0:Int)<((more ms bZ).length:Int) by have:=mB _ m4;omega);have T7:decide (0<((more ms bZ).length:Int))=true:=decide_eq_true (by omega);have az:bN=bZ:=by decide
 unfold aE at lo;unfold pE pH at U9;have XJ:sY [KZ ms] []=.ok (.ref 0) [.lst (ms.map PV.str)]:=rfl;have d0:∀l,am [.lst l] (.ref 0)=.ref 0:=fun l=>rfl
 have len0:dZ [.ref 0] [.lst ((more ms bZ).map PV.str)]=.ok (.int ((more ms bZ).length:Int)) [.lst ((more ms bZ).map PV.str)]:=by show Res.ok (PV.int ((((more ms bZ).map PV.str).length:Nat):Int)) _=_;rw[List.length_map]
 have it:kI (.str bN) [.lst (ms.map PV.str)]=.ok (bZ.map fun c=>.str [c]) [.lst (ms.map PV.str)]:=by rw[az];rfl
 have VJ:((more ms bZ).map PV.str).length=(more ms bZ).length:=List.length_map ..;obtain⟨a,ha⟩:∃a:Nat,tn % ((more ms bZ).length:Int)=(a:Int):=⟨_,(Int.toNat_of_nonneg W5).symm⟩
 have ta:(tn % ((more ms bZ).length:Int)).toNat=a:=by rw[ha];rfl
 have s1:lR (.ref 0) (some (tn % ((more ms bZ).length:Int))) none [.lst ((more ms bZ).map PV.str)]=.ok (.lst (((more ms bZ).drop a).map PV.str)) [.lst ((more ms bZ).map PV.str)]:=by show Res.ok (PV.lst (cut _ _ _)) _=_;unfold cut;rw[ha,HT.Lg,VJ,Nat.min_eq_left (by omega),List.map_drop];rw[List.take_of_length_le (by rw[List.length_drop,VJ];exact Nat.le_refl _)]
 have s2:lR (.ref 0) none (some (tn % ((more ms bZ).length:Int))) [.lst ((more ms bZ).map PV.str)]=.ok (.lst (((more ms bZ).take a).map PV.str)) [.lst ((more ms bZ).map PV.str)]:=by show Res.ok (PV.lst (cut _ _ _)) _=_;unfold cut;rw[ha,HT.Lg,VJ,Nat.min_eq_left (by omega),List.map_take];rfl
 have Yz:∀g,aN (.lst (((more ms bZ).drop a).map PV.str)) (.lst (((more ms bZ).take a).map PV.str)) g=.ok (.lst (((more ms bZ).drop a++(more ms bZ).take a).map PV.str)) g:=fun g=>by show(if(((more ms bZ).drop a).map PV.str).length+(((more ms bZ).take a).map PV.str).length≤sizeLine then Res.ok (PV.lst _) g else .bad)=_;rw[if_pos (Nat.le_trans (by rw[List.length_map,List.length_map,List.length_drop,List.length_take];omega:_≤200) (by decide)),List.map_append]
 have ev_:dJ ms tn=if tn / 64 % 2=1 then((more ms bZ).drop a++(more ms bZ).take a).reverse else(more ms bZ).drop a++(more ms bZ).take a:=by unfold dJ rj;rw[ta]
 have Oc:∀l g,xU (.lst l) (.int (-1)) g=.ok (.lst l.reverse) g:=fun l g=>rfl;have hR:∀(l:List PV) g,am g (.lst l)=.lst l:=fun l g=>rfl;show bx (eA (F K) (L K)) 3 15 [bk (D++ [q]),KZ ms,.int tn]=_;have nD:∀ ρ,kr ρ [.lst ((more ms bZ).map PV.str)]=.ok (.ref 1) [.lst ((more ms bZ).map PV.str),.dct []]:=fun ρ=>rfl;have nL:gu [] [.lst ((more ms bZ).map PV.str),.dct []]=.ok (.ref 2) [.lst ((more ms bZ).map PV.str),.dct [],.lst []]:=rfl;have en:∀g,Cp [bk (D++ [q])] g=.ok (Ma 0 ((D++ [q]).map pc)) g:=fun g=>rfl;have bd:∀g,am g (bk (D++ [q]))=bk (D++ [q]):=fun g=>rfl;have pt:∀f,dG [.ref 2] (.lst ((more ms bZ).map PV.str)::.dct (bK Qp (.inr q.n) (.str (G4 (dJ ms tn) (Lk tn D.length))))::.lst f::t2)=.ok (.tup f) (.lst ((more ms bZ).map PV.str)::.dct (bK Qp (.inr q.n) (.str (G4 (dJ ms tn) (Lk tn D.length))))::.lst f::t2):=fun f=>rfl;have d2:∀f,am (.lst ((more ms bZ).map PV.str)::.dct (bK Qp (.inr q.n) (.str (G4 (dJ ms tn) (Lk tn D.length))))::.lst f::t2) (.ref 2)=.ref 2:=fun f=>rfl;have pB:(PV.tup ((hH ms tn D q).map pc)).pure=true:=eh _;rw[show bk (hH ms tn D q)=.tup ((hH ms tn D q).map pc)from rfl];generalize(hH ms tn D q).map pc=R at*;have T8:aR aaG (bD (F K) (L K)) (Ma 0 ((D++ [q]).map pc)) [some (bk (D++ [q])),some (KZ ms),some (.int tn),some (.lst ((dJ ms tn).map PV.str)),y4,y5,some (.int (tn % ((more ms bZ).length:Int))),some (.ref 1),some (.ref 2),none,none,none,none,none,none] [.lst ((more ms bZ).map PV.str),.dct [],.lst []]=_:=U9;generalize bK Qp (.inr q.n) (.str (G4 (dJ ms tn) (Lk tn D.length)))=A at*
 rw[ev_]at T8
 by_cases h:tn / 64 % 2=1
 ·have hd:decide (tn / 64 % 2=1)=true:=decide_eq_true h;rw[if_pos h,List.map_reverse]at T8;simp only[EX,bx,eA,XJ,wV,it,lo,d0,len0,T7,s1,s2,Yz,hd,Oc,hR,nD,nL,en,bd,T8,pt,d2];exact jm _ pB
 ·have hd:decide (tn / 64 % 2=1)=false:=decide_eq_false h;rw[if_neg h]at T8;simp only[EX,bx,eA,XJ,wV,it,lo,d0,len0,T7,s1,s2,Yz,hd,hR,nD,nL,en,bd,T8,pt,d2];exact jm _ pB
mutual
theorem KO(ev:Nat→List Nat)(an:List Nat→List Nat):∀(n:Nd)(s:List Nat→List Nat)(lv:Nat),dN (rN ev an s lv n)=dN n∧Ls (rN ev an s lv n)=Ls n
 |.text _,_,_=>⟨rfl,rfl⟩
 |.place _ _,_,_=>⟨rfl,rfl⟩
 |.loop x p b t,s,lv=>by obtain⟨a,c⟩:=vC ev an b (fun z=>if z=x then ev lv else s z) (lv+1);rw[rN,dN,dN,Ls,Ls,a,c];exact⟨rfl,rfl⟩
 |.choice p y z,s,lv=>by obtain⟨a,c⟩:=vC ev an y s lv;obtain⟨a2,c2⟩:=vC ev an z s lv;rw[rN,dN,dN,Ls,Ls,a,c,a2,c2];exact⟨rfl,rfl⟩
 |.use _ _,_,_=>⟨rfl,rfl⟩
 |.j8 x ps h b,s,lv=>by obtain⟨a,c⟩:=vC ev an b (Oj s h (evs ev lv h.length)) (lv+h.length);rw[rN,dN,dN,Ls,Ls,a,c];exact⟨rfl,rfl⟩
 |.body _,_,_=>⟨rfl,rfl⟩
theorem vC(ev:Nat→List Nat)(an:List Nat→List Nat):∀(b:w6)(s:List Nat→List Nat)(lv:Nat),dS (rS ev an s lv b)=dS b∧J8 (rS ev an s lv b)=J8 b
 |.nil,_,_=>⟨rfl,rfl⟩
 |.cons n r,s,lv=>by obtain⟨a,c⟩:=KO ev an n s lv;obtain⟨a2,c2⟩:=vC ev an r s lv;rw[rS,dS,dS,J8,J8,a,c,a2,c2];exact⟨rfl,rfl⟩
end
theorem CV{s:List Nat→List Nat}{ns:List (List Nat)}(hs:∀x∈ns,sg (s x)=true){p:G7}(hp:p.a∈ns)(h:wp p=true):wp (pS s p)=true:=by unfold wp at h ⊢;rw[Bool.and_eq_true]at h;rw[Bool.and_eq_true];exact⟨hs _ hp,h.2⟩
theorem Aq{s:List Nat→List Nat}{ns:List (List Nat)}(hs:∀x∈ns,sg (s x)=true){ps:List G7}(hp:∀p∈ps,p.a∈ns)(h:wps ps=true):wps (ps.map (pS s))=true:=by unfold wps at h ⊢;rw[Bool.and_eq_true]at h;rw[Bool.and_eq_true,List.length_map];refine⟨List.all_eq_true.mpr fun q hq=>?_,h.2⟩;obtain⟨p,RN,rfl⟩:=List.mem_map.mp hq;exact CV hs (hp p RN) (List.all_eq_true.mp h.1 p RN)
theorem Ck{ev:Nat→List Nat}{mx lv n:Nat}(h:∀i,i<mx→sg (ev i)=true)(l:lv+n≤mx):∀x∈evs ev lv n,sg x=true:=fun x hx=>by rw[evs,List.mem_map]at hx;obtain⟨i,hi,rfl⟩:=hx;exact h _ (by have:=List.mem_range.mp hi;omega)
mutual
theorem Ko{P:List Pe}{ev:Nat→List Nat}{an:List Nat→List Nat}{mx:Nat}(M6:∀i,i<mx→sg (ev i)=true)(Qg:∀x l h,Mp P x l h=true→sg (an x)=true):∀(n:Nd)(m:Option Int)(ns:List (List Nat))(s:List Nat→List Nat)(lv:Nat),(∀x∈ns,sg (s x)=true)→lv+Og n≤mx→okN (P,m,ns) n=true→wN n=true→wN (rN ev an s lv n)=true
 |.text t,_,_,_,_,_,_,_,w=>w
 |.place p x,m,ns,s,lv,hs,_,ok,w=>by rw[okN]at ok;rw[wN,Bool.and_eq_true]at w;rw[rN,wN,Bool.and_eq_true];exact⟨CV hs (eH ok p (by simp)) w.1,w.2⟩
 |.loop x p b t,m,ns,s,lv,hs,l,ok,w=>by
  rw[okN,Bool.and_eq_true]at ok;rw[wN,Bool.and_eq_true,Bool.and_eq_true,Bool.and_eq_true]at w;rw[Og]at l;rw[rN,wN,Bool.and_eq_true,Bool.and_eq_true,Bool.and_eq_true];refine⟨M6 _ (by omega),CV hs (eH ok.1 p (by simp)) w.2.1,yR M6 Qg b m _ _ _ (fun y hy=>?_) (by omega) ok.2 w.2.2.1,w.2.2.2⟩
  by_cases e:y=x
  ·rw[if_pos e];exact M6 _ (by omega)
  ·rw[if_neg e];exact hs y ((List.mem_append.mp hy).resolve_right fun z=>e (List.mem_singleton.mp z))
 |.choice p y z,m,ns,s,lv,hs,l,ok,w=>by rw[okN,Bool.and_eq_true,Bool.and_eq_true]at ok;rw[wN,Bool.and_eq_true,Bool.and_eq_true]at w;rw[Og]at l;rw[rN,wN,Bool.and_eq_true,Bool.and_eq_true];exact⟨CV hs (eH ok.1 p (by simp)) w.1,yR M6 Qg y m _ _ _ hs (by omega) ok.2.1 w.2.1,yR M6 Qg z m _ _ _ hs (by omega) ok.2.2 w.2.2⟩
 |.use x ps,m,ns,s,lv,hs,_,ok,w=>by rw[okN,Bool.and_eq_true]at ok;rw[wN,Bool.and_eq_true]at w;rw[rN,wN,Bool.and_eq_true];exact⟨Qg _ _ _ ok.2,Aq hs (eH ok.1) w.2⟩
 |.j8 x ps h b,m,ns,s,lv,hs,l,ok,w=>by
  rw[okN,Bool.and_eq_true,Bool.and_eq_true,Bool.and_eq_true]at ok;rw[wN,Bool.and_eq_true,Bool.and_eq_true,Bool.and_eq_true,Bool.and_eq_true]at w;rw[Og]at l;rw[rN,wN,Bool.and_eq_true,Bool.and_eq_true,Bool.and_eq_true,Bool.and_eq_true,fK];have es:=Ck (lv:=lv) (n:=h.length) M6 (by omega);refine⟨Qg _ _ _ ok.2.1,Aq hs (eH ok.1) w.2.1,List.all_eq_true.mpr es,w.2.2.2.1,yR M6 Qg b m _ _ _ (fun y hy=>?_) (by omega) ok.2.2.2 w.2.2.2.2⟩;obtain⟨a,c⟩:=lZ s h (evs ev lv h.length) (fK ..).symm y
  by_cases z:y∈h
  ·exact es _ (a z)
  ·rw[c z];exact hs y ((List.mem_append.mp hy).resolve_right z)
 |.body ps,m,ns,s,lv,hs,_,ok,w=>by rw[okN,Bool.and_eq_true]at ok;rw[wN]at w;rw[rN,wN];exact Aq hs (eH ok.1) w
theorem yR{P:List Pe}{ev:Nat→List Nat}{an:List Nat→List Nat}{mx:Nat}(M6:∀i,i<mx→sg (ev i)=true)(Qg:∀x l h,Mp P x l h=true→sg (an x)=true):∀(b:w6)(m:Option Int)(ns:List (List Nat))(s:List Nat→List Nat)(lv:Nat),(∀x∈ns,sg (s x)=true)→lv+NP b≤mx→Lh (P,m,ns) b=true→wS b=true→wS (rS ev an s lv b)=true
 |.nil,_,_,_,_,_,_,_,_=>rfl
 |.cons n r,m,ns,s,lv,hs,l,ok,w=>by rw[Lh,Bool.and_eq_true]at ok;rw[wS,Bool.and_eq_true]at w;rw[NP]at l;rw[rS,wS,Bool.and_eq_true];exact⟨Ko M6 Qg n m ns s lv hs (by omega) ok.1 w.1,yR M6 Qg r m ns s lv hs (by omega) ok.2 w.2⟩
end
mutual
theorem HY{P:List Pe}(hP:∀p∈P,hO p.h):∀(n:Nd)(m:Option Int)(ns:List (List Nat)),okN (P,m,ns) n=true→Og n≤3 * dN n
 |.text _,_,_,_=>Nat.zero_le _
 |.place _ _,_,_,_=>Nat.zero_le _
 |.loop x p b t,m,ns,ok=>by rw[okN,Bool.and_eq_true]at ok;have:=oh hP b m _ ok.2;rw[Og,dN];omega
 |.choice p y z,m,ns,ok=>by rw[okN,Bool.and_eq_true,Bool.and_eq_true]at ok;have:=oh hP y m _ ok.2.1;have:=oh hP z m _ ok.2.2;rw[Og,dN];omega
 |.use _ _,_,_,_=>Nat.zero_le _
 |.j8 x ps h b,m,ns,ok=>by
  rw[okN,Bool.and_eq_true,Bool.and_eq_true,Bool.and_eq_true]at ok;have:=oh hP b m _ ok.2.2.2
  have h3:h.length≤3:=by
   have u:=ok.2.1;unfold Mp at u
   cases e:Qm P x with
   |none=>rw[show((P,m,ns):Cx).1=P from rfl,e]at u;cases u
   |some p=>rw[show((P,m,ns):Cx).1=P from rfl,e]at u;have u2:=of_decide_eq_true ((Bool.and_eq_true _ _).mp u).2;have:=hP p (List.mem_of_find?_eq_some e);rw[u2]at this;have:=this.2;omega
  rw[Og,dN];omega
 |.body _,_,_,_=>Nat.zero_le _
theorem oh{P:List Pe}(hP:∀p∈P,hO p.h):∀(b:w6)(m:Option Int)(ns:List (List Nat)),Lh (P,m,ns) b=true→NP b≤3 * dS b
 |.nil,_,_,_=>Nat.zero_le _
 |.cons n r,m,ns,ok=>by rw[Lh,Bool.and_eq_true]at ok;have:=HY hP n m ns ok.1;have:=oh hP r m ns ok.2;rw[NP,dS];omega
end
theorem ny{E:List (List Nat)}{i:Nat}(h:i<E.length):G4 E i∈E:=by unfold G4;rw[List.getElem?_eq_getElem h];exact List.getElem_mem h
theorem zW{E:List (List Nat)}{mx:Nat}(nd:E.Nodup)(l:mx≤E.length):Rz (G4 E) mx:=⟨fun i j hi hj e=>by unfold G4 at e;rw[List.getElem?_eq_getElem (by omega),List.getElem?_eq_getElem (by omega)]at e;exact(List.getElem_inj nd).mp e⟩
theorem EQ{tn:Int}{i j:Nat}(hi:i<8)(hj:j<8)(h:Lk tn i=Lk tn j):i=j:=by unfold Lk at h;omega
theorem xv(tn:Int)(i:Nat):Lk tn i<40:=by unfold Lk;omega
structure RP(an:List Nat→List Nat)(q q':Pc):Prop where
 ex:∃ev s lv,q'.b=rS ev an s lv q.b∧Rz ev 40∧(∀i,i<40→sg (ev i)=true)∧lv+NP q.b≤40∧Fr q.ns s ev lv 40∧(∀vs:List G7,vs.length=q.ns.length→vQ q.ns s (Mx no q.ns vs) (Mx no q'.ns vs))∧∀x∈q.ns,s x∈q'.ns
 l:q'.ns.length=q.ns.length
 m:q'.m=q.m
 nd:q'.ns.Nodup
 sg:H_ q'.ns=true
def AR(an:List Nat→List Nat):List Pc→List Pc→Prop
 |[],[]=>True
 |q::r,q'::r'=>(RP an q q'∧q'.n=an q.n)∧AR an r r'
 |_,_=>False
theorem GJ{E:List (List Nat)}(tn:Int)(an:List Nat→List Nat)(k:Nat){q:Pc}(nd:E.Nodup)(sE:H_ E=true)(lE:40≤E.length)(b:q.ns.length+NP q.b≤40):RP an q (GK E tn an k q) where
 ex:=⟨G4 E,_,q.ns.length,rfl,zW nd lE,fun i hi=>List.all_eq_true.mp sE _ (ny (by omega)),b,by
   have:=Cc (ns:=[]) (h:=q.ns) (s:=fun x=>x) (lv:=0) (zW nd lE) (by omega) (fun x hx=>by cases hx);rw[List.nil_append,Nat.zero_add]at this;exact this,fun vs hv=>by
   have:=pU q.ns (evs (G4 E) 0 q.ns.length) vs [] (fun x=>x) no no (fK ..).symm hv.symm (tW (zW nd lE) (by omega)) (fun x hx=>by cases hx) (fun x hx=>by cases hx);rw[List.nil_append]at this;exact this,fun x hx=>(lZ _ q.ns _ (fK ..).symm x).1 hx⟩
 l:=fK ..
 m:=rfl
 nd:=tW (zW nd lE) (by omega)
 sg:=List.all_eq_true.mpr (Ck (mx:=40) (fun i hi=>List.all_eq_true.mp sE _ (ny (by omega))) (by omega))
theorem DT{E:List (List Nat)}(tn:Int)(an:List Nat→List Nat)(k:Nat){q:Pc}(nd:E.Nodup)(sE:H_ E=true)(lO:40≤(E.filter fun x=>!decide (x∈q.ns)).length)(U4:q.ns.Nodup)(sq:H_ q.ns=true)(b:NP q.b≤40):RP an q (nR E tn an k q) where
 ex:=⟨G4 (E.filter fun x=>!decide (x∈q.ns)),_,0,rfl,zW (nd.filter _) lO,fun i hi=>List.all_eq_true.mp sE _ (List.mem_filter.mp (ny (by omega))).1,by omega,fun x hx i _ h2 e=>by
   have a:=(lZ (fun x=>x) q.ns q.ns rfl x).1 hx;have c:=(List.mem_filter.mp (ny (show i<(E.filter fun x=>!decide (x∈q.ns)).length by omega))).2;rw[e]at a;simp[a]at c,fun vs hv=>by
   have:=pU q.ns q.ns vs [] (fun x=>x) no no rfl hv.symm U4 (fun x hx=>by cases hx) (fun x hx=>by cases hx);rw[List.nil_append]at this;exact this,fun x hx=>(lZ _ q.ns _ rfl x).1 hx⟩
 l:=rfl
 m:=rfl
 nd:=U4
 sg:=sq
mutual
theorem Bk{P P':List Pe}(hP:∀x l h,Mp P x l h=true→Mp P' x l h=true):∀(n:Nd)(m:Option Int)(ns:List (List Nat)),okN (P,m,ns) n=true→okN (P',m,ns) n=true
 |.text _,_,_,_=>rfl
 |.place _ _,_,_,h=>h
 |.loop x p b t,m,ns,h=>by rw[okN,Bool.and_eq_true]at h ⊢;exact⟨h.1,jw hP b m _ h.2⟩
 |.choice p y z,m,ns,h=>by rw[okN,Bool.and_eq_true,Bool.and_eq_true]at h ⊢;exact⟨h.1,jw hP y m _ h.2.1,jw hP z m _ h.2.2⟩
 |.use x ps,m,ns,h=>by rw[okN,Bool.and_eq_true]at h ⊢;exact⟨h.1,hP _ _ _ h.2⟩
 |.j8 x ps hs b,m,ns,h=>by rw[okN,Bool.and_eq_true,Bool.and_eq_true,Bool.and_eq_true]at h ⊢;exact⟨h.1,hP _ _ _ h.2.1,h.2.2.1,jw hP b m _ h.2.2.2⟩
 |.body _,_,_,h=>h
theorem jw{P P':List Pe}(hP:∀x l h,Mp P x l h=true→Mp P' x l h=true):∀(b:w6)(m:Option Int)(ns:List (List Nat)),Lh (P,m,ns) b=true→Lh (P',m,ns) b=true
 |.nil,_,_,_=>rfl
 |.cons n r,m,ns,h=>by rw[Lh,Bool.and_eq_true]at h ⊢;exact⟨Bk hP n m ns h.1,jw hP r m ns h.2⟩
end
theorem Dx{P R:List Pe}{x:List Nat}{l:Nat}{h:Option Int}(e:Mp P x l h=true):Mp (P++R) x l h=true:=by
 unfold Mp at e ⊢
 cases z:Qm P x with
 |none=>rw[z]at e;cases e
 |some p=>
  rw[z]at e
  have:Qm (P++R) x=some p:=by unfold Qm at z ⊢;rw[List.find?_append,z];rfl
  rw[this];exact e
theorem ja:∀(r C:List Pc),Mi C r=true→∀q∈r,Lh ((C++r).map LR,q.m,q.ns) q.b=true∧dup q.ns=false
 |[],_,_,q,hq=>by cases hq
 |p::r,C,h,q,hq=>by
  rw[Mi,Bool.and_eq_true,Bool.and_eq_true,Bool.and_eq_true]at h;rcases List.mem_cons.mp hq with rfl|hq
  ·refine⟨?_,by simpa using h.2.1⟩;rw[List.map_append];exact jw (fun x l m e=>Dx e) q.b _ _ h.2.2.1
  ·have:=ja r (C++ [p]) h.2.2.2 q hq;rw[List.append_assoc]at this;exact this
theorem wZ{C:List Pc}{x:List Nat}{p:Pc}(h:look C x=some p):p∈C∧p.n=x:=by unfold look at h;exact⟨List.mem_of_find?_eq_some h,by have:=List.find?_some h;simpa using this⟩
theorem xc(q:Pc)(r:List Pc)(x:List Nat):look (q::r) x=if q.n=x then some q else look r x:=by
 unfold look;rw[List.find?_cons]
 by_cases e:q.n=x
 ·rw[if_pos e,show(q.n==x)=true by simpa using e]
 ·rw[if_neg e,show(q.n==x)=false by simpa using e]
theorem AR.look{an:List Nat→List Nat}:∀{C C':List Pc},AR an C C'→(C'.map (·.n)).Nodup→∀{x:List Nat}{p:Pc},look C x=some p→∃p',look C' (an x)=some p'∧RP an p p'
 |[],[],_,_,x,p,h=>by cases h
 |q::r,q'::r',a,nd,x,p,h=>by
  rw[List.map_cons,List.nodup_cons]at nd;rw[xc]at h
  by_cases e:q.n=x
  ·rw[if_pos e]at h
   cases h
   refine⟨q',?_,a.1.1⟩;rw[xc,if_pos (by rw[a.1.2,e])]
  ·rw[if_neg e]at h;obtain⟨p',h1,h2⟩:=AR.look a.2 nd.2 h;refine⟨p',?_,h2⟩;rw[xc,if_neg,h1];intro z;obtain⟨m,n⟩:=wZ h1;exact nd.1 (List.mem_map.mpr ⟨p',m,by rw[n,z]⟩)
theorem AR.app{an:List Nat→List Nat}{q q':Pc}(h:RP an q q'∧q'.n=an q.n):∀{C C':List Pc},AR an C C'→AR an (C++ [q]) (C'++ [q'])
 |[],[],_=>⟨h,trivial⟩
 |_::_,_::_,a=>⟨a.1,AR.app h a.2⟩
theorem AR.mem{an:List Nat→List Nat}:∀{C C':List Pc},AR an C C'→∀q'∈C',∃q∈C,RP an q q'∧q'.n=an q.n
 |[],[],_,q',h=>by cases h
 |q::r,p::r',a,q',h=>by
  rcases List.mem_cons.mp h with rfl|h
  ·exact⟨q,by simp,a.1⟩
  ·obtain⟨z,h1,h2⟩:=AR.mem a.2 q' h;exact⟨z,by simp[h1],h2⟩
theorem AR.Mp{an:List Nat→List Nat}{C C':List Pc}(a:AR an C C')(nd:(C'.map (·.n)).Nodup){x:List Nat}{l:Nat}{m:Option Int}(h:Mp (C.map LR) x l m=true):Ly.Mp (C'.map LR) (an x) l m=true:=by obtain⟨q,h1,h2,h3⟩:=kL h;obtain⟨q',e,r⟩:=a.look nd h1;unfold Ly.Mp;rw[tD,e];show(decide (q'.ns.length=l)&&decide (q'.m=m))=true;rw[r.l,r.m,h2,h3];simp
theorem AR.Mi{an:List Nat→List Nat}:∀{r r' C C':List Pc},AR an C C'→AR an r r'→((C'++r').map (·.n)).Nodup→Mi C r=true→Ly.Mi C' r'=true
 |[],[],_,_,_,_,_,_=>rfl
 |q::r,q'::r',C,C',ac,a,nd,h=>by
  rw[Ly.Mi,Bool.and_eq_true,Bool.and_eq_true,Bool.and_eq_true]at h;have Ro:=nd;rw[show C'++q'::r'=C'++ [q']++r' by simp]at Ro;have ih:=AR.Mi (ac.app a.1) a.2 Ro h.2.2.2;rw[List.map_append,List.nodup_append]at nd;obtain⟨ev,s,lv,e,M6,_,l,_,_,hs⟩:=a.1.1.ex;have o:=rC (m:=q.m) M6 (fun x l m u=>ac.Mp nd.1 u) q.b q.ns q'.ns s lv hs l h.2.2.1
  have n1:(C'.map (·.n)).contains q'.n=false:=by
   cases z:(C'.map (·.n)).contains q'.n with
   |false=>rfl
   |true=>exact(nd.2.2 _ (List.contains_iff_mem.mp z) _ (by simp) rfl).elim
  have n2:dup q'.ns=false:=(jZ q'.ns).mpr a.1.1.nd;rw[Ly.Mi,ih,n1,n2,a.1.1.m,e,o];rfl
theorem Gk(k:Nat)(E:List Pc)(m:Option Int)(a c:PV)(i:PV)(w x:List Int)(ns ys:List (List Nat))(b:w6)(n:Nd)(hw:w.length+x.length≤10000)(hn:ns.length+ys.length≤100000)
  (e:L k .g_ [.tup (j6 b),wy (w++x),nms (ns++ys),v9 m,.ref 0] [.dct (u9 E)]=.ok .non [.dct (u9 E)]):
  fX (F k) (L k) [some a,some c,some (nms ns),some (v9 m),some (.ref 0),some i,some (nd n),some (wy w),some (Nq x ys b)] [.dct (u9 E)]=.nx [some a,some c,some (nms ns),some (v9 m),some (.ref 0),some i,some (nd n),some (wy w),some (Nq x ys b)] [.dct (u9 E)]:=by
 have p0:∀h,d7 (Nq x ys b) (.int 0) h=.ok (wy x) h:=fun h=>rfl;have p1:∀h,d7 (Nq x ys b) (.int 1) h=.ok (nms ys) h:=fun h=>rfl;have p2:∀h,d7 (Nq x ys b) (.int 2) h=.ok (.tup (j6 b)) h:=fun h=>rfl;have dp:∀h,am h (Nq x ys b)=Nq x ys b:=fun h=>rfl;have dw:∀h,am h (wy w)=wy w:=fun h=>rfl;have mp:(v9 m).pure=true:=by cases m<;>rfl
 obtain⟨c1,c2⟩:=cG (fn:=L k .g_) [.tup (j6 b),wy (w++x),nms (ns++ys),v9 m] (o:=.dct (u9 E)) (by simp[aq,PV.pure,bt b,io,bP,mp]) (gX E);have cc:=c1 .non rfl e;simp only[List.cons_append,List.nil_append]at cc;simp only[EV,fX,p0,p1,p2,dp,dw,nX,iO,CI w x _ hw,yN ns ys _ hn,cc]
theorem xQ(k:Nat)(E:List Pc)(m:Option Int)(a c i:PV)(w:List Int)(ns:List (List Nat))(n:Nd):
  ∀(l:List (List Int×List (List Nat)×w6))(x8:Option PV),(∀x∈l,w.length+x.1.length≤10000∧ns.length+x.2.1.length≤100000∧L k .g_ [.tup (j6 x.2.2),wy (w++x.1),nms (ns++x.2.1),v9 m,.ref 0] [.dct (u9 E)]=.ok .non [.dct (u9 E)])→
  ∃y8,aR (D_ 8) (fX (F k) (L k)) (l.map fun x=>Nq x.1 x.2.1 x.2.2) [some a,some c,some (nms ns),some (v9 m),some (.ref 0),some i,some (nd n),some (wy w),x8] [.dct (u9 E)]=.nx [some a,some c,some (nms ns),some (v9 m),some (.ref 0),some i,some (nd n),some (wy w),y8] [.dct (u9 E)]
 |[],x8,_=>⟨x8,rfl⟩
 |x::r,x8,hx=>by obtain⟨h1,h2,h3⟩:=hx x List.mem_cons_self;have one:=Gk k E m a c i w x.1 ns x.2.1 x.2.2 n h1 h2 h3;obtain⟨y8,ih⟩:=xQ k E m a c i w ns n r (some (Nq x.1 x.2.1 x.2.2)) fun z hz=>hx z (List.mem_cons_of_mem _ hz);exact⟨y8,Eq.trans (cI rfl one) ih⟩
theorem Gy(k:Nat)(E:List Pc)(m:Option Int)(a:PV)(w:List Int)(ns:List (List Nat))(i:Nat)(n:Nd)(x7 x8:Option PV)(hn:H_ ns=true)(hw:wN n=true)(lw:w.length+10≤10000)(e:M9 E m ns n=false)
  (hx:∀x∈prs n,(w++ [(i:Int)]).length+x.1.length≤10000∧ns.length+x.2.1.length≤100000∧L (k+3) .g_ [.tup (j6 x.2.2),wy (w++ [(i:Int)]++x.1),nms (ns++x.2.1),v9 m,.ref 0] [.dct (u9 E)]=.ok .non [.dct (u9 E)]):
  ∃y7 y8,fW (F (k+3)) (L (k+3)) [some a,some (wy w),some (nms ns),some (v9 m),some (.ref 0),some (.int i),some (nd n),x7,x8] [.dct (u9 E)]=.nx [some a,some (wy w),some (nms ns),some (v9 m),some (.ref 0),some (.int i),some (nd n),y7,y8] [.dct (u9 E)]:=by
 have ad:aN (wy w) (.tup [.int i]) [.dct (u9 E)]=.ok (wy (w++ [(i:Int)])) [.dct (u9 E)]:=CI w [(i:Int)] _ (by simp;omega);have mp:(v9 m).pure=true:=by cases m<;>rfl
 have cw:w7 (L (k+3) .E_) [nd n,nms ns,v9 m,.ref 0] [.dct (u9 E)]=.ok (.bl (M9 E m ns n)) [.dct (u9 E)]:=
  (cG (fn:=L (k+3) .E_) [nd n,nms ns,v9 m] (o:=.dct (u9 E)) (by simp[aq,bz,bP,mp]) (gX E)).1 _ rfl (um k E m ns hn n hw)
 have cp:∀h,bO (F (k+3) .m8) [nd n] h=.ok (.lst ((prs n).map fun x=>Nq x.1 x.2.1 x.2.2)) h:=fun h=>aZ h (by rw[aq,bz];rfl) (uW (k+2) n);rw[e]at cw;obtain⟨y8,lp⟩:=xQ (k+3) E m a (wy w) (.int i) (w++ [(i:Int)]) ns n (prs n) x8 hx;refine⟨some (wy (w++ [(i:Int)])),y8,?_⟩;simp only[EX,fW,ad,cw,cp,lp]
def CP(d:Nat):Prop:=∀(b:w6)(E:List Pc)(m:Option Int)(w:List Int)(ns:List (List Nat))(k:Nat),dS b≤d→wS b=true→H_ ns=true→dS b+4≤k→w.length+2 * dS b+10≤10000→ns.length+60 * dS b+60≤100000→MK E m w 0 ns b=none→
 L k .g_ [.tup (j6 b),wy w,nms ns,v9 m,.ref 0] [.dct (u9 E)]=.ok .non [.dct (u9 E)]
theorem vd(d k:Nat)(ok:∀d',d'<d→CP d')(E:List Pc)(m:Option Int)(a:PV)(w:List Int)(ns:List (List Nat))(hn:H_ ns=true)(hk:d+4≤k+4)(lw:w.length+2 * d+10≤10000)(ln:ns.length+60 * d+60≤100000):
  ∀(b:w6)(j:Nat)(x5 x6 x7 x8:Option PV),dS b≤d→wS b=true→MK E m w j ns b=none→∃y5 y6 y7 y8,
   aR aau (fW (F (k+3)) (L (k+3))) (Ma j (j6 b)) [some a,some (wy w),some (nms ns),some (v9 m),some (.ref 0),x5,x6,x7,x8] [.dct (u9 E)]=.nx [some a,some (wy w),some (nms ns),some (v9 m),some (.ref 0),y5,y6,y7,y8] [.dct (u9 E)]
 |.nil,j,x5,x6,x7,x8,_,_,_=>⟨x5,x6,x7,x8,by rw[j6,Ma,aR]⟩
 |.cons n r,j,x5,x6,x7,x8,hd,hw,hf=>by
  rw[dS]at hd;rw[wS,Bool.and_eq_true]at hw;have dn:dN n≤d:=Nat.le_trans (Nat.le_max_left _ _) hd;have dr:dS r≤d:=Nat.le_trans (Nat.le_max_right _ _) hd;rw[MK]at hf
  cases e:M9 E m ns n with
  |true=>rw[e,if_pos rfl]at hf;cases hf
  |false=>
   rw[e,if_neg (by decide),Option.or_eq_none_iff]at hf;have hp:=hf.1;rw[yp,List.findSome?_eq_none_iff]at hp
   obtain⟨y7,y8,one⟩:=Gy k E m a w ns j n x7 x8 hn hw.1 (by omega) e fun x hx=>by
    obtain⟨h1,h2,h3,h4,h5⟩:=Ar hw.1 x hx;have l1:(w++ [(j:Int)]).length=w.length+1:=by simp
    refine⟨by omega,by omega,ok (dS x.2.2) (by omega) x.2.2 E m _ _ (k+3) (Nat.le_refl _) h1 (oT hn h2) (by omega) ?_ ?_ (hp x hx)⟩
    ·rw[List.length_append,l1];omega
    ·rw[List.length_append];omega
   obtain⟨z5,z6,z7,z8,ih⟩:=vd d k ok E m a w ns hn hk lw ln r (j+1) (some (.int j)) (some (nd n)) y7 y8 dr hw.2 hf.2;refine⟨z5,z6,z7,z8,?_⟩;rw[j6,Ma];exact Eq.trans (cI (ρ1:=[some a,some (wy w),some (nms ns),some (v9 m),some (.ref 0),some (.int j),some (nd n),x7,x8]) rfl one) ih
theorem DB:∀d,CP d:=by
 intro d
 induction d using Nat.strongRecOn with
 |ind d ih=>
  intro b E m w ns k hd hw hn hk lw ln hf;obtain⟨k',rfl⟩:∃k',k=k'+4:=⟨k - 4,by omega⟩
  obtain⟨y5,y6,y7,y8,lp⟩:=vd (dS b) k' (fun d' h=>ih d' (by omega)) E m (.tup (j6 b)) w ns hn hk lw ln b 0 none none none none (Nat.le_refl _) hw hf;have ru:iC (F (k'+3)) (L (k'+3)) [some (.tup (j6 b)),some (wy w),some (nms ns),some (v9 m),some (.ref 0),none,none,none,none] [.dct (u9 E)]=.nx [some (.tup (j6 b)),some (wy w),some (nms ns),some (v9 m),some (.ref 0),y5,y6,y7,y8] [.dct (u9 E)]:=lp
  have r2:L (k'+4) .g_ [.tup (j6 b),wy w,nms ns,v9 m,.ref 0] [.dct (u9 E)]=match iC (F (k'+3)) (L (k'+3)) [some (.tup (j6 b)),some (wy w),some (nms ns),some (v9 m),some (.ref 0),none,none,none,none] [.dct (u9 E)]with
   |.nx _ h1=>fV 1 .non h1
   |.rt v h1=>eU 1 v h1
   |_=>.bad:=rfl
  have ep:=gX E;rw[r2,ru];simp[fV,aT,ep]
theorem Dt(k:Nat)(B:List Pc)(E:List Pc)(q:Pc)(hw:wC q=true)(hk:44≤k)(lE:E.length≤1000)(x4:Option PV)(h1:(E.map (·.n)).contains q.n=false)(h2:dup q.ns=false)(h3:(decide (E.length+1=B.length)&&q.m.isSome)=false)(e:MK E q.m [(E.length:Int)] 0 q.ns q.b=none):
  ∃y4,eQ (F k) (L k) [some (bk B),some (.ref 0),some (.int E.length),some (pc q),x4] [.dct (u9 E)]=.nx [some (bk B),some (.ref 0),some (.int E.length),some (pc q),y4] [.dct (u9 (E++ [q]))]:=by
 simp only[wC,Bool.and_eq_true,decide_eq_true_eq]at hw;obtain⟨w1,w2,w3,w4,w5⟩:=hw
 have p3:∀h,d7 (pc q) (.int 3) h=.ok (v9 q.m) h:=fun h=>by show Res.ok (am h (v9 q.m)) h=_;rw[iO]
 have el:decide ((E.length:Int)=(B.length:Int) - 1)=decide (E.length+1=B.length):=by
  by_cases e:E.length+1=B.length
  ·rw[decide_eq_true e];exact decide_eq_true (by omega)
  ·rw[decide_eq_false e];exact decide_eq_false (by omega)
 obtain⟨k',rfl⟩:∃k',k=k'+1:=⟨k - 1,by omega⟩
 have tw:∀h,bO (F (k'+1) .v7) [nms q.ns] h=.ok (.bl (dup q.ns)) h:=fun h=>aZ h (by rw[aq,bP];rfl) (pF k' q.ns w3);have mp:(v9 q.m).pure=true:=by cases q.m<;>rfl
 have nk:=DB (dS q.b) q.b E q.m [(E.length:Int)] q.ns (k'+1) (Nat.le_refl _) w4 w2 (by omega) (by simp;omega) (by omega) e;obtain⟨c1,c2⟩:=cG (fn:=L (k'+1) .g_) [.tup (j6 q.b),wy [(E.length:Int)],nms q.ns,v9 q.m] (o:=.dct (u9 E)) (by simp[aq,PV.pure,bt q.b,io,bP,mp]) (gX E);have sz:(u9 E).length<16777216:=by unfold u9;rw[List.length_map];omega
 have cc:=c1 .non rfl nk;simp only[List.cons_append,List.nil_append]at cc;have RZ:w7 (L (k'+1) .g_) [.tup (j6 q.b),.tup [.int E.length],nms q.ns,v9 q.m,.ref 0] [.dct (u9 E)]=.ok .non [.dct (u9 E)]:=cc;refine⟨some (.bl (decide (E.length+1=B.length))),?_⟩
 cases d:decide (E.length+1=B.length)with
 |false=>simp only[EX,eQ,p3,el,iA,h1,tw,h2,d,RZ,sz,mS q E h1]
 |true=>rw[d,Bool.true_and]at h3;simp only[EX,eQ,p3,el,iA,h1,tw,h2,d,h3,RZ,sz,mS q E h1]
theorem yb(k:Nat)(B:List Pc)(hk:44≤k)(lB:B.length≤1000):∀(r E:List Pc)(x2 x3 x4:Option PV),E.length+r.length=B.length→(∀q∈r,wC q=true)→Ou B.length E r=none→∃y2 y3 y4,
  aR aav (eQ (F k) (L k)) (Ma E.length (r.map pc)) [some (bk B),some (.ref 0),x2,x3,x4] [.dct (u9 E)]=.nx [some (bk B),some (.ref 0),y2,y3,y4] [.dct (u9 (E++r))]
 |[],E,x2,x3,x4,_,_,_=>⟨x2,x3,x4,by rw[List.map_nil,Ma,aR,List.append_nil]⟩
 |q::r,E,x2,x3,x4,hl,hw,hf=>by
  rw[List.length_cons]at hl;rw[Ou]at hf
  split at hf
  ·cases hf
  ·rename_i c;rw[Option.or_eq_none_iff]at hf;rw[Bool.not_eq_true,Bool.or_eq_false_iff,Bool.or_eq_false_iff]at c;obtain⟨y4,one⟩:=Dt k B E q (hw q List.mem_cons_self) hk (by omega) x4 c.1.1 c.1.2 c.2 hf.1;have l1:(E++ [q]).length=E.length+1:=by simp
   obtain⟨z2,z3,z4,ih⟩:=yb k B hk lB r (E++ [q]) (some (.int E.length)) (some (pc q)) y4 (by rw[l1];omega) (fun z hz=>hw z (List.mem_cons_of_mem _ hz)) hf.2;rw[l1]at ih;refine⟨z2,z3,z4,?_⟩;rw[List.map_cons,Ma,show E++q::r=E++ [q]++r by simp];exact Eq.trans (cI (ρ1:=[some (bk B),some (.ref 0),some (.int E.length),some (pc q),x4]) rfl one) ih
theorem HW(k:Nat)(B:List Pc)(q:Pc)(hk:45≤k)(lB:B.length+1≤8)(hw:∀p∈B++ [q],wC p=true)(hr:∀p∈B++ [q],dS p.b≤6∧J8 p.b≤1000000)(hf:Ou (B.length+1) [] (B++ [q])=none)(m1:(K8 (bS [] (B++ [q])) q.n).1≤400)(m2:(K8 (bS [] (B++ [q])) q.n).2.1≤24):F (k+1) .k_ [bk (B++ [q])]=.ok (nms q.ns):=by
 obtain⟨k',rfl⟩:∃k',k=k'+1:=⟨k - 1,by omega⟩
 have l1:(B++ [q]).length=B.length+1:=by simp
 obtain⟨y2,y3,y4,lp⟩:=yb k' (B++ [q]) (by omega) (by omega) (B++ [q]) [] none none none (by simp) hw (by rw[l1];exact hf);have ru:iD (F k') (L k') [some (bk (B++ [q])),none,none,none,none] []=.nx [some (bk (B++ [q])),some (.ref 0),y2,y3,y4] [.dct (u9 (B++ [q]))]:=lp
 have r2:F (k'+1) .m7 [bk (B++ [q])]=match iD (F k') (L k') [some (bk (B++ [q])),none,none,none,none] []with
   |.nx _ _=>.ok .non
   |.rt v h=>ii v h
   |_=>.bad:=rfl
 rw[ru]at r2;have cn:∀h,bO (F (k'+1) .m7) [bk (B++ [q])] h=.ok .non h:=fun h=>aZ h (by rw[aq,eh];rfl) r2;have sz:=uz k' (by omega) B q lB hr hf;generalize(K8 (bS [] (B++ [q])) q.n).1=x at sz m1;generalize(K8 (bS [] (B++ [q])) q.n).2.1=y at sz m2;have cs:∀h,bO (F (k'+1) .sized) [bk (B++ [q])] h=.ok (.tup [.int x,.int y]) h:=fun h=>aZ h (by rw[aq,eh];rfl) sz;have e1:decide (x>400)=false:=decide_eq_false (by omega);have e2:decide (y>24)=false:=decide_eq_false (by omega);show bx (jc (F (k'+1))) 1 2 [bk (B++ [q])]=_;simp only[EX,bx,jc,cn,cs,e1,e2,nt,zv];exact jm _ (bP _)
theorem zX(k:Nat)(ns:List Int)(j:Nat):F (k+1) .v5 [cv ns,.int (j:Int)]=.ok (.int (ns.getD j 0)):=by
 have r2:F (k+1) .v5 [cv ns,.int (j:Int)]=match gZ (F k) [some (cv ns),some (.int (j:Int))] []with
   |.nx _ _=>.ok .non
   |.rt v h=>ii v h
   |_=>.bad:=rfl
 have ln:∀h,dZ [cv ns] h=.ok (.int ns.length) h:=fun h=>by unfold cv;rw[Fe,List.length_map]
 rw[r2]
 by_cases c:j<ns.length
 ·have d1:decide ((j:Int)<(ns.length:Int))=true:=decide_eq_true (by omega)
  have ix:∀h,d7 (cv ns) (.int (j:Int)) h=.ok (.int (ns.getD j 0)) h:=fun h=>by unfold cv;show(match LQ (ns.map PV.int) (j:Int)with|some v=>Res.ok (am h v) h|none=>Res.bad)=_;rw[fF (v:=PV.int (ns.getD j 0)) (by omega) (by rw[Int.toNat_natCast,List.getElem?_map,List.getD_eq_getElem?_getD,List.getElem?_eq_getElem c];rfl)];rfl
  simp only[EY,gZ,ln,d1,ix];rfl
 ·have d1:decide ((j:Int)<(ns.length:Int))=false:=decide_eq_false (by omega);have e:ns.getD j 0=0:=by rw[List.getD_eq_getElem?_getD,List.getElem?_eq_none (by omega)];rfl
  simp only[EY,gZ,ln,d1,e];rfl
theorem lu(k:Nat)(ns:List Int)(i:Int)(hi:0≤i):∃v:Int,∀h,bO (F (k+1) .v5) [cv ns,.int i] h=.ok (.int v) h:=by have e:=zX k ns i.toNat;rw[Int.toNat_of_nonneg hi]at e;exact⟨_,fun h=>aZ h (by simp[aq,kc,PV.pure]) e⟩
theorem BC{S:List (List Nat×Sz)}(h:∀y∈S,nn y.2)(x:List Nat):nn (K8 S x):=by
 unfold K8
 cases e:S.find? fun y=>y.1==x with
 |none=>exact⟨Int.le_refl _,Int.le_refl _⟩
 |some y=>exact h y (List.mem_of_find?_eq_some e)
theorem Fy:∀(r:List Pc)(S:List (List Nat×Sz)),(∀y∈S,nn y.2)→∀y∈bS S r,nn y.2
 |[],S,h=>by rw[bS];exact h
 |q::r,S,h=>by
  rw[bS];refine Fy r _ fun y hy=>?_;rcases List.mem_append.mp hy with z|z
  ·exact h y z
  ·cases List.mem_singleton.mp z;exact wR (BC h) q.b ⟨Int.le_refl _,Int.le_refl _⟩
theorem IH{v:PV}(h:List PO)(hp:fd 59 v)(hs:∀i,v≠.ref i):Lz h v=toD v∧LC h v=true:=by
 have e:Lz h v=toD v:=by cases v<;>first|rfl|exact(hs _ rfl).elim
 refine⟨e,?_⟩;unfold LC;rw[e,hp.1];exact decide_eq_true (Nat.le_trans hp.2.1 (by decide))
theorem ya{v:PV}(h:List PO)(hp:fd 59 v)(hs:∀i,v≠.ref i):NZ v v h=.ok (.bl false) h:=by obtain⟨e,ok⟩:=IH h hp hs;unfold NZ;rw[if_pos ⟨ok,ok⟩,e,PySem.SeqAt.eqv_refl _ hp.1];rfl
theorem tS{d:Nat}{p:G7}(h1:sg p.a=true)(h2:H_ p.f=true):fd (d+1) (J0 p):=cJ (aH (cQ h1) (iR h2))
mutual
theorem Fm:∀{n:Nd},wF n=true→fd (2 * dN n+4) (nd n)
 |.text s,h=>by rw[wF]at h;rw[nd];exact bE (cJ (aH (cQ ko.1) (aH (cQ h) (cY 0)))) (by omega)
 |.place p w,h=>by rw[wF,Bool.and_eq_true,Bool.and_eq_true]at h;rw[nd];exact bE (cJ (d:=1) (aH (cQ ko.2.1) (aH (tS h.1 h.2.1) (aH (cQ h.2.2) (cY 1))))) (by omega)
 |.loop x p b t,h=>by rw[wF,Bool.and_eq_true,Bool.and_eq_true,Bool.and_eq_true,Bool.and_eq_true]at h;rw[nd,dN];have q:=cJ (tR h.2.2.2.1);exact bE (cJ (aH (cQ ko.2.2.1) (aH (cQ h.1) (aH (bE (tS (d:=0) h.2.1 h.2.2.1) (by omega)) (aH q (aH (cQ h.2.2.2.2) (cY _))))))) (by omega)
 |.choice p y z,h=>by rw[wF,Bool.and_eq_true,Bool.and_eq_true,Bool.and_eq_true]at h;rw[nd,dN];have m1:=Nat.le_max_left (dS y) (dS z);have m2:=Nat.le_max_right (dS y) (dS z);have q1:=bE (e:=2 * max (dS y) (dS z)+5) (cJ (tR h.2.2.1)) (by omega);have q2:=bE (e:=2 * max (dS y) (dS z)+5) (cJ (tR h.2.2.2)) (by omega);exact bE (cJ (aH (cQ ko.2.2.2.1) (aH (bE (tS (d:=0) h.1 h.2.1) (by omega)) (aH q1 (aH q2 (cY _)))))) (by omega)
theorem tR:∀{b:w6},RD b=true→fds (2 * dS b+4) (j6 b)
 |.nil,_=>by rw[j6];exact cY _
 |.cons n r,h=>by rw[RD,Bool.and_eq_true]at h;rw[j6,dS];have m1:=Nat.le_max_left (dN n) (dS r);have m2:=Nat.le_max_right (dN n) (dS r);exact aH (bE (Fm h.1) (by omega)) (vA (tR h.2) (by omega))
end
theorem yt{d:Nat}:∀{l:List Nd},(∀n∈l,wF n=true∧dN n≤d)→fds (2 * d+4) (l.map nd)
 |[],_=>cY _
 |n::r,h=>by have:=(h n (by simp)).2;exact aH (bE (Fm (h n (by simp)).1) (by omega)) (yt fun x hx=>h x (by simp[hx]))
structure GB(D:List Pc)(q:Pc)(c d:Nat):Prop where
 l:D.length+1≤8
 w:∀p∈D++ [q],wC p=true
 r:∀p∈D++ [q],dS p.b≤4∧J8 p.b≤10000
 ok:Mi [] (D++ [q])=true
 nd:((D++ [q]).map (·.n)).Nodup
 n4:∀p∈D++ [q],p.ns.length≤4∧hO p.m
 m:q.m=none
 x:cX (D++ [q]) 41 q.b .nil=some (c,d)
variable{D:List Pc}{q:Pc}{c d:Nat}
theorem GB.f(H:GB D q c d):Ou (D.length+1) [] (D++ [q])=none:=BY _ _ [] H.ok (by simp) fun C p e=>by have:q=p:=List.singleton_inj.mp (List.append_inj_right' e rfl);rw[← this];exact H.m
theorem GB.num(H:GB D q c d):(K8 (bS [] (D++ [q])) q.n).1=c∧(K8 (bS [] (D++ [q])) q.n).2.1=d:=by
 have hS:=FA _ (D++ [q]) [] [] rfl H.f;have nS:∀x,nn (K8 (bS [] (D++ [q])) x):=BC (Fy _ [] fun y hy=>by cases hy)
 have hL:∀x p,look (D++ [q]) x=some p→K8 (bS [] (D++ [q])) x=Li (K8 (bS [] (D++ [q]))) (0,0,0,0) p.b:=fun x p hx=>by have e:=List.find?_some hx;rw[← eq_of_beq e];exact hS p (List.mem_of_find?_eq_some hx)
 have vr:=(Fu (D++ [q]) _ nS hL 41 q.b .nil c d H.x).a (.inr rfl);rw[← hS q (by simp)]at vr;exact⟨vr.1.symm,vr.2.symm⟩
theorem GB.need(H:GB D q c d)(k:Nat)(hk:45≤k)(h1:c≤400)(h2:d≤24):F (k+1) .k_ [bk (D++ [q])]=.ok (nms q.ns):=by obtain⟨n1,n2⟩:=H.num;exact HW k D q hk H.l H.w (fun p hp=>⟨Nat.le_trans (H.r p hp).1 (by decide),Nat.le_trans (H.r p hp).2 (by decide)⟩) H.f (by omega) (by omega)
theorem GB.many(H:GB D q c d)(k:Nat)(hk:46≤k):F (k+1) .A_ [bk (D++ [q])]=.ok (.bl (decide (c>400)||decide (d>24))):=by
 obtain⟨k',rfl⟩:∃k',k=k'+1:=⟨k - 1,by omega⟩
 obtain⟨n1,n2⟩:=H.num;have be:=(EL k' D q (by omega) H.l H.w (fun p hp=>⟨Nat.le_trans (H.r p hp).1 (by decide),Nat.le_trans (H.r p hp).2 (by decide)⟩)).2 H.f;rw[n1,n2]at be;have e1:decide ((c:Int)>400)=decide (c>400):=by by_cases z:c>400<;>simp[z]<;>omega
 have e2:decide ((d:Int)>24)=decide (d>24):=by by_cases z:d>24<;>simp[z]<;>omega
 rw[e1,e2]at be
 have r2:F (k'+1+1) .A_ [bk (D++ [q])]=match je (F (k'+1)) (X_ (k'+1)) [some (bk (D++ [q]))] []with
   |.nx _ _=>.ok .non
   |.rt v h=>ii v h
   |_=>.bad:=rfl
 have db:am [] (bk (D++ [q]))=bk (D++ [q]):=rfl;rw[r2];unfold je;rw[eK]
 cases e:decide (c>400)||decide (d>24)with
 |true=>
  rw[e,if_pos rfl]at be
  have se:dk (lC (X_ (k'+1) .k_) aaj) [some (bk (D++ [q]))] []=.exc (.cls 1) []:=by
   simp only[EX,db,be]
   try rfl
  unfold uC;rw[se];rfl
 |false=>
  rw[e,if_neg (by decide)]at be
  have se:dk (lC (X_ (k'+1) .k_) aaj) [some (bk (D++ [q]))] []=.nx [some (bk (D++ [q]))] []:=by
   simp only[EX,db,be]
   try rfl
  unfold uC;rw[se];rfl
theorem JP{m:Option Int}(h:hO m):∀i,m=some i→i≤10:=fun i e=>by subst e;have:=h.2;omega
theorem GB.bo(H:GB D q c d):BO (D++ [q]):=⟨fun x p hx=>by obtain⟨m,_⟩:=wZ hx;have w:=H.w p m;unfold wC at w;rw[Bool.and_eq_true,Bool.and_eq_true,Bool.and_eq_true,Bool.and_eq_true]at w;exact⟨(ja _ [] H.ok p m).1,w.2.2.2.1,Nat.le_trans (H.n4 p m).1 (by decide),JP (H.n4 p m).2⟩⟩
theorem Cy(B:List Pc):∀(f:Nat)(b:w6)(hd:Hd)(c d g:Nat),cX B f b hd=some (c,d)→d≤g→cX B (g+1) b hd=some (c,d)
 |0,_,_,_,_,_,h,_=>by cases h
 |f+1,b,hd,c,d,g,h,hg=>by
  have up:∀(x:w6)(h2:Hd)(a e:Nat),QD (cX B f x h2)=some (a,e)→e≤g→QD (cX B g x h2)=some (a,e):=fun x h2 a e hu he=>by
   cases z:cX B f x h2 with
   |none=>rw[z]at hu;cases hu
   |some r=>
    rw[z]at hu;obtain⟨r1,r2⟩:=r;have Rb:some (r1+1,r2+1)=some (a,e):=hu;injection Rb with Rb
    injection Rb with e1 e2
    obtain⟨g',rfl⟩:∃g',g=g'+1:=⟨g - 1,by omega⟩
    rw[Cy B f x h2 r1 r2 g' z (by omega)];exact hu
  have node:∀(n:Nd)(a e:Nat),Mh B (cX B f) hd n=some (a,e)→e≤g→Mh B (cX B g) hd n=some (a,e):=fun n a e hn he=>by
   cases n with
   |loop x p c t=>exact up _ _ _ _ hn he
   |choice p y z=>exact up _ _ _ _ hn he
   |use x ps=>
    rw[Mh]at hn ⊢
    cases z:look B x with
    |none=>rw[z]at hn;cases hn
    |some q=>rw[z]at hn;exact up _ _ _ _ hn he
   |j8 x ps hs c=>
    rw[Mh]at hn ⊢
    cases z:look B x with
    |none=>rw[z]at hn;cases hn
    |some q=>rw[z]at hn;exact up _ _ _ _ hn he
   |body ps=>
    cases hd with
    |nil=>exact hn
    |cons b2 i h2=>exact up _ _ _ _ hn he
   |text s=>exact hn
   |place p s=>exact hn
  have row:∀(b:w6)(c d:Nat),cR (Mh B (cX B f) hd) b=some (c,d)→d≤g→cR (Mh B (cX B g) hd) b=some (c,d):=fun b=>by
   intro c d
   induction b using w6.rec (motive_1:=fun _=>True) generalizing c d with
   |text=>trivial
   |place=>trivial
   |loop=>trivial
   |choice=>trivial
   |use=>trivial
   |j8=>trivial
   |body=>trivial
   |nil=>exact fun h _=>h
   |cons n r _ ih=>
    intro h hg;rw[cR]at h ⊢
    cases e1:Mh B (cX B f) hd n with
    |none=>rw[e1]at h;cases h
    |some x=>
     cases e2:cR (Mh B (cX B f) hd) r with
     |none=>rw[e1,e2]at h;cases h
     |some y=>
      rw[e1,e2]at h;obtain⟨x1,x2⟩:=x;obtain⟨y1,y2⟩:=y;have h':some (x1+y1,max x2 y2)=some (c,d):=h;injection h' with h'
      injection h' with h1 h2
      rw[node n x1 x2 e1 (by omega),ih y1 y2 e2 (by omega)];exact h
  exact row b c d h hg
theorem GB.joined(H:GB D q c d)(K:Nat)(hK:78≤K)(h1:c≤400)(h2:d≤24):∃l M_,J (D++ [q]) 25 0 q.b (Mx no q.ns (ids q.ns)) .nil=some (l,M_)∧FO l c d∧F (K+1) .joined [bk (D++ [q])]=.ok (.tup (l.map Ly.nd)):=by have w:=H.w q (by simp);unfold wC at w;rw[Bool.and_eq_true,Bool.and_eq_true,Bool.and_eq_true,Bool.and_eq_true]at w;have o:=(ja _ [] H.ok q (by simp)).1;rw[H.m]at o;exact zQ 25 K D q (by omega) (by omega) H.bo H.nd (by have:=H.l;omega) w.2.2.2.1 w.2.1 (Nat.le_trans (H.n4 q (by simp)).1 (by decide)) o c d (Cy _ _ _ _ _ _ 24 H.x h2) (by omega)
theorem GB.qo(H:GB D q c d):∀p∈D++ [q],QO p:=fun p hp=>by have b:=oh (P:=(D++ [q]).map LR) (fun x hx=>by obtain⟨y,hy,rfl⟩:=List.mem_map.mp hx;exact(H.n4 y hy).2) p.b p.m p.ns (ja _ [] H.ok p hp).1;have r:=H.r p hp;have n:=(H.n4 p hp).1;exact⟨H.w p hp,by omega,r.2,by omega,by omega⟩
theorem vh(E:List (List Nat))(tn:Int)(an:List Nat→List Nat):∀(r:List Pc)(k:Nat),(iV E tn an k r).length=r.length
 |[],_=>rfl
 |p::r,k=>by rw[iV,List.length_cons,vh E tn an r,List.length_cons]
theorem Bz(E:List (List Nat))(tn:Int)(an:List Nat→List Nat):∀(r:List Pc)(k:Nat),(iV E tn an k r).map (·.n)=(List.range' k r.length).map fun i=>G4 E (Lk tn i)
 |[],_=>rfl
 |p::r,k=>by rw[iV,List.map_cons,Bz E tn an r,List.length_cons,List.range'_succ,List.map_cons];rfl
theorem yc{E:List (List Nat)}(tn:Int){an:List Nat→List Nat}(nd:E.Nodup)(sE:H_ E=true)(lE:40≤E.length):∀(r:List Pc)(k:Nat),(∀i q,r[i]? =some q→an q.n=G4 E (Lk tn (k+i)))→(∀q∈r,QO q)→AR an r (iV E tn an k r)
 |[],_,_,_=>trivial
 |p::r,k,h,o=>⟨⟨GJ tn an k nd sE lE (o p (by simp)).b,(h 0 p rfl).symm⟩,yc tn nd sE lE r (k+1) (fun i q hq=>by rw[Nat.add_assoc,Nat.add_comm 1 i];exact h (i+1) q hq) fun q hq=>o q (by simp[hq])⟩
variable{D:List Pc}{q:Pc}{c d:Nat}
theorem GB.anew(H:GB D q c d){ms:List (List Nat)}(tn:Int)(ml:ms.length=12)(hm:H_ ms=true)(md:ms.Nodup):
  GB (iV (dJ ms tn) tn (QB (D++ [q]) (dJ ms tn) tn) 0 D) (nR (dJ ms tn) tn (QB (D++ [q]) (dJ ms tn) tn) D.length q) c d∧∀r,J (D++ [q]) 25 0 q.b (Mx no q.ns (ids q.ns)) .nil=some r→J (hH ms tn D q) 25 0 (nR (dJ ms tn) tn (QB (D++ [q]) (dJ ms tn) tn) D.length q).b (Mx no q.ns (ids q.ns)) .nil=some r:=by
 obtain⟨e1,e2,e3,e4⟩:=Cl tn ml hm md;have hq:=H.qo;have oq:=hq q (by simp);have fl:=yr (dJ ms tn) q.ns e1;have n4:=(H.n4 q (by simp)).1;have wq:=H.w q (by simp);unfold wC at wq;rw[Bool.and_eq_true,Bool.and_eq_true,Bool.and_eq_true,Bool.and_eq_true]at wq;have U4:=(jZ q.ns).mp (ja _ [] H.ok q (by simp)).2;have ob:=oq.b;generalize hE:dJ ms tn=E at*;unfold hH;rw[hE];generalize hA:QB (D++ [q]) E tn=an;have Qg:∀i p,(D++ [q])[i]? =some p→an p.n=G4 E (Lk tn i):=fun i p hp=>by rw[← hA];exact xt _ _ H.nd hp
 have asg:∀x,sg (an x)=true:=fun x=>by rw[← hA];exact List.all_eq_true.mp e2 _ (ny (by have:=xv tn (((D++ [q]).map (·.n)).idxOf x);omega))
 have lr:=DT tn an D.length e1 e2 (by omega) U4 wq.2.1 (by omega)
 have ar:AR an (D++ [q]) (iV E tn an 0 D++ [nR E tn an D.length q]):=AR.app ⟨lr,(Qg D.length q (by rw[List.getElem?_append_right (Nat.le_refl _),Nat.sub_self];rfl)).symm⟩ (yc tn e1 e2 (by omega) D 0 (fun i p hp=>by rw[Nat.zero_add];exact Qg i p (by rw[List.getElem?_append_left (by exact(List.getElem?_eq_some_iff.mp hp).1)];exact hp)) fun p hp=>hq p (List.mem_append_left _ hp))
 have lD:=H.l
 have Ro:((iV E tn an 0 D++ [nR E tn an D.length q]).map (·.n)).Nodup:=by
  have:(iV E tn an 0 D++ [nR E tn an D.length q]).map (·.n)=(List.range' 0 (D.length+1)).map fun i=>G4 E (Lk tn i):=by rw[List.map_append,Bz,List.range'_concat,List.map_append];simp[nR]
  rw[this,List.Nodup,List.pairwise_map];refine List.Pairwise.imp_of_mem (fun{i j} hi hj ne=>?_) (List.nodup_range' (step:=1));rw[List.mem_range'_1]at hi hj;intro z;exact ne (EQ (by omega) (by omega) ((zW e1 (Nat.le_refl _)).inj _ _ (by have:=xv tn i;omega) (by have:=xv tn j;omega) z))
 have oB:Ly.Mi [] (iV E tn an 0 D++ [nR E tn an D.length q])=true:=AR.Mi (C:=[]) (C':=[]) trivial ar (by rw[List.nil_append];exact Ro) H.ok
 have Zb:YB (D++ [q]) (iV E tn an 0 D++ [nR E tn an D.length q]) an:=fun x p hx=>by obtain⟨p',h1,h2⟩:=ar.look Ro hx;obtain⟨ev,s,lv,e,_⟩:=h2.ex;exact⟨p',ev,s,lv,h1,e⟩
 have Zc:YC (D++ [q]) (iV E tn an 0 D++ [nR E tn an D.length q]) an 40:=⟨fun x p hx=>by obtain⟨p',h1,h2⟩:=ar.look Ro hx;obtain⟨ev,s,lv,e,a1,a2,a3,a4,a5,a6⟩:=h2.ex;exact⟨(ja _ [] H.ok p (wZ hx).1).1,p',ev,s,lv,h1,e,a1,a3,a4,a5⟩⟩
 have back:∀p'∈iV E tn an 0 D++ [nR E tn an D.length q],∃p∈D++ [q],RP an p p'∧p'.n=an p.n:=ar.mem;refine⟨⟨by rw[vh];exact lD,fun p' RN=>?_,fun p' RN=>?_,oB,Ro,fun p' RN=>?_,H.m,?_⟩,fun r hr=>?_⟩
 ·obtain⟨p,hp,rp,en⟩:=back p' RN;obtain⟨ev,s,lv,e,a1,a2,a3,a4,a5,a6⟩:=rp.ex;have w:=H.w p hp;unfold wC at w ⊢;rw[Bool.and_eq_true,Bool.and_eq_true,Bool.and_eq_true,Bool.and_eq_true]at w;have ws:=yR (P:=(D++ [q]).map LR) a2 (fun x _ _ _=>asg x) p.b p.m p.ns s lv (fun x hx=>List.all_eq_true.mp rp.sg _ (a6 x hx)) a3 (ja _ [] H.ok p hp).1 w.2.2.2.1;rw[en,asg,rp.sg,rp.l,e,ws,(vC ev an p.b s lv).1,w.2.2.1,w.2.2.2.2];rfl
 ·obtain⟨p,hp,rp,en⟩:=back p' RN;obtain⟨ev,s,lv,e,_⟩:=rp.ex;rw[e,(vC ev an p.b s lv).1,(vC ev an p.b s lv).2];exact H.r p hp
 ·obtain⟨p,hp,rp,en⟩:=back p' RN;rw[rp.l,rp.m];exact H.n4 p hp
 ·exact Aa Zb 41 q.b .nil .nil _ _ _ _ .nil H.x
 ·obtain⟨ev,s,lv,e,a1,a2,a3,a4,a5,a6⟩:=lr.ex;have o:=(ja _ [] H.ok q (by simp)).1;rw[H.m]at o;rw[e];exact S7 Zc 25 0 q.b _ _ .nil .nil q.ns s ev lv none r a1 a3 (a5 (ids q.ns) (tM _)) a4 .nil o hr
theorem vp{D:List Pc}{q:Pc}{c d:Nat}(H:GB D q c d){ms:List (List Nat)}(ml:ms.length=12)(hm:H_ ms=true)(md:ms.Nodup)(h1:c≤400)(h2:d≤24)(cs:List Int)(k:Nat)(v:Int)(hv:∀h,bO (F 99 .v5) [cv cs,.int (1+(k:Int))] h=.ok (.int v) h)(hk:k<2)(l:List Nd)(lp:Nat)(hj:J (D++ [q]) 25 0 q.b (Mx no q.ns (ids q.ns)) .nil=some (l,lp))(fo:FO l c d)(x5:Option PV)(h:List PO):
  ∃y5,oR (F 99) [some (cv cs),some (KZ ms),some (bk (D++ [q])),some (.tup (l.map Ly.nd)),some (.int (k:Int)),x5] h=.nx [some (cv cs),some (KZ ms),some (bk (D++ [q])),some (.tup (l.map Ly.nd)),some (.int (k:Int)),y5] h:=by
 obtain⟨G,hJ'⟩:=H.anew (v * (1+47 * (k:Int))+3 * (k:Int)) ml hm md;have ae:=yL 98 (by decide) ms ml hm md (v * (1+47 * (k:Int))+3 * (k:Int)) D q H.l H.ok H.nd H.qo;have ca:∀h,bO (F 99 .j_) [bk (D++ [q]),KZ ms,.int (v * (1+47 * (k:Int))+3 * (k:Int))] h=.ok (bk (hH ms (v * (1+47 * (k:Int))+3 * (k:Int)) D q)) h:=fun h=>aZ h (by rw[aq,eh,aq,kQ];rfl) ae;have ne:=G.need 98 (by decide) h1 h2;have cn:∀h,bO (F 99 .k_) [bk (hH ms (v * (1+47 * (k:Int))+3 * (k:Int)) D q)] h=.ok (nms q.ns) h:=fun h=>aZ h (by rw[aq,eh];rfl) ne;obtain⟨l',M_,j1,j2,j3⟩:=G.joined 98 (by decide) h1 h2;have j0:=hJ' _ hj
 have el:l'=l:=by
  have z:=j0.symm.trans j1;injection z with z
  injection z with z _
  exact z.symm
 subst el;have cj:∀h,bO (F 99 .joined) [bk (hH ms (v * (1+47 * (k:Int))+3 * (k:Int)) D q)] h=.ok (.tup (l'.map Ly.nd)) h:=fun h=>aZ h (by rw[aq,eh];rfl) j3;have wq:=H.w q (by simp);unfold wC at wq;rw[Bool.and_eq_true,Bool.and_eq_true]at wq;have n1:∀h,NZ (nms q.ns) (nms q.ns) h=.ok (.bl false) h:=fun h=>ya h (bE (Ch (d:=0) wq.2.1) (by decide)) fun i z=>by cases z
 have n2:∀h,NZ (.tup (l'.map Ly.nd)) (.tup (l'.map Ly.nd)) h=.ok (.bl false) h:=fun h=>ya h (bE (cJ (yt fo.w)) (by omega)) fun i z=>by cases z
 have hR:(bk (hH ms (v * (1+47 * (k:Int))+3 * (k:Int)) D q)).pure=true:=eh _;generalize bk (hH ms (v * (1+47 * (k:Int))+3 * (k:Int)) D q)=R at*;have dR:am h (bk (D++ [q]))=bk (D++ [q]):=rfl;have dM:am h (KZ ms)=KZ ms:=rfl;have dC:am h (cv cs)=cv cs:=rfl;have ix2:∀h,d7 (pc q) (.int 2) h=.ok (nms q.ns) h:=fun h=>rfl;have dP:am h (pc q)=pc q:=rfl;have dt:am h (.tup (l'.map Ly.nd))=.tup (l'.map Ly.nd):=rfl;have dn:am h (nms q.ns)=nms q.ns:=rfl;have bl:∀x:Int, -1000<x→x<1000→Oh 18446744073709551616 x=true:=fun x a b=>eN.mpr ⟨by omega,by omega⟩;have u1:gV 47 (k:Int)=true:=by unfold gV;rw[bl 47 (by decide) (by decide)];rfl
 have u2:gV v (1+47 * (k:Int))=true:=by unfold gV;rw[bl (1+47 * (k:Int)) (by omega) (by omega)];simp
 have u3:gV 3 (k:Int)=true:=by unfold gV;rw[bl 3 (by decide) (by decide)];rfl
 refine⟨some R,?_⟩;have pR:am h R=R:=aG h hR;simp only[EY,oR,hv,dR,dM,dC,u1,u2,u3,ca,cn,cj,nt,ix2,dP,dt,dn,n1,n2,pR]
theorem BG:∀ns:List Int,ns.length≤63→F 100 .law [.Nz (ns.map PV.int)]=.ok (.bl true):=fun cs hc=>by
 obtain⟨v0,e0⟩:=lu 98 cs 0 (by decide);obtain⟨v1,e1⟩:=lu 98 cs 1 (by decide);obtain⟨v2,e2⟩:=lu 98 cs 2 (by decide);obtain⟨ms,ml,hm,⟨md,mw⟩,en⟩:=zM 98 v0;have cn:∀h,bO (F 99 .I9) [.int v0] h=.ok (KZ ms) h:=fun h=>aZ h rfl en;obtain⟨B,n,m,b1,b8,hB,ho,⟨hn,h4⟩,hx,eg⟩:=Eo 98 (by decide) cs hc ms ml hm md mw;have cg:=bY (fn:=L 99 .u_) [cv cs] [KZ ms] (h:=[I6 0 30]) (i:=0) (by rw[aq,kc];rfl) (by rw[aq,kQ];rfl) rfl (cA _ _) eg (eh B) (cA _ _);have Yv:w7 (L 99 .u_) [cv cs,.ref 0,KZ ms] [I6 0 30]=.ok (bk B) [I6 n m]:=cg;have mk:gu [.int 0,.int 30] []=.ok (.ref 0) [I6 0 30]:=rfl
 obtain⟨D,q,rfl⟩:∃D q,B=D++ [q]:=by
  rcases List.eq_nil_or_concat B with rfl|⟨D,q,rfl⟩
  ·rw[List.length_nil]at b1;omega
  ·exact⟨D,q,by rw[List.concat_eq_append]⟩
 rw[List.length_append,List.length_singleton]at b8;obtain⟨g1,⟨c,d⟩,g2⟩:=hx D q rfl;have H:GB D q c d:=⟨b8,fun p hp=>(hB p hp).1,fun p hp=>(hB p hp).2,ho,hn,h4,g1,g2⟩
 have mn:=H.many 98 (by decide);have cm:∀h,bO (F 99 .A_) [bk (D++ [q])] h=.ok (.bl (decide (c>400)||decide (d>24))) h:=fun h=>aZ h (by rw[aq,eh];rfl) mn;obtain⟨G,_⟩:=H.anew v1 ml hm md;have ae:=yL 98 (by decide) ms ml hm md v1 D q H.l H.ok H.nd H.qo;have ca:∀h,bO (F 99 .j_) [bk (D++ [q]),KZ ms,.int v1] h=.ok (bk (hH ms v1 D q)) h:=fun h=>aZ h (by rw[aq,eh,aq,kQ];rfl) ae;have Yt:∀h,bO (F 99 .A_) [bk (hH ms v1 D q)] h=.ok (.bl (decide (c>400)||decide (d>24))) h:=fun h=>aZ h (by rw[aq,eh];rfl) (G.many 98 (by decide))
 have r2:F 100 .law [.Nz (cs.map PV.int)]=match vK (F 99) (L 99) [some (cv cs),none,none,none,none,none] []with
   |.nx _ _=>.ok .non
   |.rt v h=>ii v h
   |_=>.bad:=rfl
 have dB:∀B h,am h (bk B)=bk B:=fun B h=>rfl;have dM:∀h,am h (KZ ms)=KZ ms:=fun h=>rfl;have dC:∀h,am h (cv cs)=cv cs:=fun h=>rfl;rw[r2]
 cases e:decide (c>400)||decide (d>24)with
 |true=>rw[e]at cm Yt;simp only[EY,vK,mk,e0,e1,cn,Yv,cm,Yt,ca,dB,dM,dC];rfl
 |false=>
  rw[e]at cm;rw[Bool.or_eq_false_iff]at e;have h1:c≤400:=by have:=of_decide_eq_false e.1;omega
  have h2:d≤24:=by have:=of_decide_eq_false e.2;omega
  obtain⟨l,lp,j1,j2,j3⟩:=H.joined 98 (by decide) h1 h2;have cj:∀h,bO (F 99 .joined) [bk (D++ [q])] h=.ok (.tup (l.map Ly.nd)) h:=fun h=>aZ h (by rw[aq,eh];rfl) j3;obtain⟨y5,s1⟩:=vp H ml hm md h1 h2 cs 0 v1 e1 (by decide) l lp j1 j2 none [I6 n m];obtain⟨z5,s2⟩:=vp H ml hm md h1 h2 cs 1 v2 e2 (by decide) l lp j1 j2 y5 [I6 n m];have lo:aR (D_ 4) (oR (F 99)) ((List.range (2:Int).toNat).map fun i=>PV.int (0+(i:Nat))) [some (cv cs),some (KZ ms),some (bk (D++ [q])),some (.tup (l.map Ly.nd)),none,none] [I6 n m]=.nx [some (cv cs),some (KZ ms),some (bk (D++ [q])),some (.tup (l.map Ly.nd)),some (.int (1:Nat)),z5] [I6 n m]:=Eq.trans (cI rfl s1) (Eq.trans (cI rfl s2) rfl);simp only[EY,vK,mk,e0,cn,Yv,cm,cj,dB,dM,dC,lo,show Oh 4611686018427387904 2=true by decide];rfl
end Ly
namespace PySem.W.Fast
open Lean in
local macro_rules|`(command|#check YT)=>do let p:=`PySem.Challenge;let q:=p.str "cw_formsmith_k20_whole_no_names_meet_holds";let c←((List.range 369).map (fun i=>q.str s!"o_{i+43}")++("sts_304 sts_49 env_41 sts_216 sts_388 tree_78 tree_63 heap_39 sts_79 heap_412 sts_253 tree_411 tree_215 view_39 tree_387 sts_123 tree_122 heap_46 tree_47 sts_64 tree_252 tree_303".splitOn.map q.str)++[p.str "pw_formsmith_k20_whole_no_names_meet",p.str "rw_formsmith_k20_whole_no_names_meet"]).mapM fun n=>`(command|theorem $(mkIdent (.mkSimple s!"tw{n.hash}")):ident:True:=⟨⟩);return mkNullNode c.toArray
#check YT
end PySem.W.Fast
open PySem PySem.W PyProof.Rows
set_option maxRecDepth 100000 in
set_option maxHeartbeats 0 in
theorem PySem.Challenge.cw_formsmith_k20_whole_no_names_meet_holds : PySem.Challenge.rw_formsmith_k20_whole_no_names_meet.Holds := by
  w_on; o_law; k_head; (case hw => w_witness2)
  k_fill
  refine Z.BF (l := PySem.Challenge.rw_formsmith_k20_whole_no_names_meet) (k := Ly.dl 100) (x := "_law_script") (fn := Ly.F 100 .law) rfl rfl ⟨by decide, by decide, rfl⟩ (fun w h Y => W.kIn_of Y) Ly.BG ?F
  case F =>
    intro w mg fa h KX G Ua
    refine' Ly.Ib KX G Ua ?Ny ?J4 ?Nr ?Nu ?K_ ?K7 ?M4 ?M5 ?Mq ?K6 ?B_ ?Mw ?Mv ?Mu ?Mt ?Ms ?Mr ?hf ?G_ ?p7 ?Ld ?Nv ?hn
    (case Ny | M4 | M5 | Nr | Nu | K_ | K7 | Mv | Mt | Ms | Mr | G_ | p7 | Ld | Nv=>k_is);(case J4 | Mq => constructor <;> k_is);(case K6 => k_exc)
    (case B_ => kts_exm)
    (case Mw | Mu => first | rfl | kernel_rfl)
    (case hf => intro f; cases f <;> (refine' Ly.fq (Ad := Ly.W7 _ _ _) ?fa ?fl ?fc ?fk ?fb; (case fa => dsimp only [Ly.W7]; first | k_is | ((first | constructor | skip) <;> (repeat' apply And.intro) <;> k_is)); (case fl=>k_is); (case fc=>k_is); (case fk=>k_is); (case fb => intro _ _ _ _ _ _ us hl; first | (obtain rfl := Ly.Xl hl; rfl) | (obtain ⟨_, rfl⟩ := Ly.Xk hl; rfl) | (obtain ⟨_, _, rfl⟩ := Ly.Xj hl; rfl) | (obtain ⟨_, _, _, rfl⟩ := Ly.Xi hl; rfl) | (obtain ⟨_, _, _, _, rfl⟩ := Ly.Xh hl; rfl) | (obtain ⟨_, _, _, _, _, rfl⟩ := Ly.Xg hl; rfl) | (obtain ⟨_, _, _, _, _, _, rfl⟩ := Ly.Xf hl; rfl) | (obtain ⟨_, _, _, _, _, _, _, rfl⟩ := Ly.YQ hl; rfl))))
    (case hn => intro i; cases i <;> k_is)
