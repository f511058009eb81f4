import PyProof.Rows.All
import Wide.All
import OpenK.AllK
import Wide.FinOn
import Lean
import PyProof.EqAt
import PyProof.EqKinds
import PyProof.TupleCall
import PyProof.StationsW
import PyProof.TupleOps
import PyProof.ExcAttrAll.ValueError
import PyProof.ExcClass3
import PyProof.InstStoreFacts
import KE.KDictOf
import PyProof.AttrMissHeap
import KE.LcSums
import KE.KDictList
import PyProof.StrCalls
import PyProof.FactsAll.range_2
import KE.KRevIter
import PyProof.ZipIter
import PyProof.Draws
import PyProof.EnumMake
import PyProof.CompUse
import PySem.Challenge.RW_formsmith_k10_one_node
set_option compiler.extract_closed false
noncomputable section
set_option Elab.async false
set_option linter.all false
set_option maxRecDepth 100000
set_option maxHeartbeats 4000000
set_option autoImplicit false
namespace L3
open PySem PySem.Spec PyProof.Rows
abbrev PK:=Sum Int (List Nat)
def S(l:List Nat):Str:=⟨l.toArray⟩
theorem zi{a b:List Nat}(h:S a=S b):a=b:=by have:=congrArg (fun x=>x.cps.toList) h;simpa [S] using this
theorem Lg(x:Str):S x.cps.toList=x:=by cases x;simp [S]
theorem gI(l:List Nat):(S l).length=l.length:=by show (S l).cps.size=_;simp [S]
inductive PV where
 | non | bl (b:Bool) | int (i:Int) | str (x:List Nat) | ty (n:String) | cls (C:Nat)
 | tup (xs:List PV) | lst (xs:List PV) | giv (xs:List PV) | dct (kvs:List (PK×PV)) | ins (C:Nat) (fs:List (Str×PV))
 | ref (i:Nat) | exc (C:Nat) | exa (C:Nat) (v:PV)
mutual
def PV.pure:PV→Bool
 | .ref _=>false
 | .tup xs=>ai xs
 | .lst xs=>ai xs
 | .giv xs=>ai xs
 | .dct kvs=>aI kvs
 | .ins _ fs=>wJ fs
 | .exa _ v=>v.pure
 | _=>true
def ai:List PV→Bool
 | []=>true
 | x::r=>x.pure&&ai r
def aI:List (PK×PV)→Bool
 | []=>true
 | (_,x)::r=>x.pure&&aI r
def wJ:List (Str×PV)→Bool
 | []=>true
 | (_,x)::r=>x.pure&&wJ r
end
theorem jw:∀ (l:List (PK×PV)),aI l=ai (l.map (·.2))
 | []=>by simp [ai,aI]
 | (k,x)::r=>by simp [ai,aI,jw r]
def xnm(C:Nat):Str:=if C<500 then "at" else "word"
def fnm:Nat→List Str
 | 600=> ["parts","counted"]
 | 601=> ["pen","pieces"]
 | 602=> ["loops","pieces"]
 | 603=> ["numbers","blocks"]
 | 604=> ["text","at"]
 | 605=> ["block","slots","body","place","walks"]
 | 606=> ["things","taken"]
 | 607=> ["program","pen","frames","stack","done","result"]
 | 608=> ["command","nodes","yes","between"]
 | 609=> ["pieces","opened","counted"]
 | _=> []
inductive PO where
 | lst (xs:List PV) | dct (kvs:List (PK×PV)) | froz (v:PV) | obj (C:Nat) (ps:List PV)
inductive Res(α:Type) where
 | ok (a:α) (h:List PO) | exc (e:PV) (h:List PO) | bad
def Res.bind{α β:Type}(r:Res α)(k:α→List PO→Res β):Res β:=match r with
 | .ok a h=>k a h
 | .exc e h=>.exc e h
 | .bad=>.bad
abbrev Ev:=List (Option PV)
abbrev Ex:=Ev→List PO→Res PV
abbrev Tx:=Ev→List PO→Res Bool
abbrev Ax:=Ev→List PO→Res (List PV)
end L3
namespace Z
open PySem PySem.Spec PyProof.Rows L3
def kIs:PK→Value→Bool
 | .inl k,v=>Value.isInt k v
 | .inr x,v=>Value.isStrOf (S x) v
theorem dG:∀ {k:PK} {v:Value},kIs k v=true→(∃ i t,k=Sum.inl i∧v=Value.int i t)∨(∃ x t,k=Sum.inr x∧v=Value.str (S x) t)
 | .inl i,v,h=>let ⟨t,e⟩:=Value.isInt_shape h;.inl ⟨i,t,rfl,e⟩
 | .inr x,v,h=>let ⟨t,e⟩:=Value.isStrOf_shape h;.inr ⟨x,t,rfl,e⟩
def pk(P:Program)(w:World):KeyKind P w PK where
 is:=kIs
 hash:=fun | .inl k=>hashInt k | .inr x=>hashStr w (S x)
 inj:=fun v a b ha hb=>by
  rcases dG ha with ⟨i,t,rfl,rfl⟩ | ⟨x,t,rfl,rfl⟩<;>rcases dG hb with ⟨j,u,rfl,e⟩ | ⟨y,u,rfl,e⟩<;>first | (injection e with e1;first | rw [e1] | rw [zi e1]) | cases e
 byValue:=fun k v h=>by
  rcases dG h with ⟨i,t,rfl,rfl⟩ | ⟨x,t,rfl,rfl⟩<;>rfl
 pyHash:=fun hv h=>by
  rcases dG hv with ⟨i,t,rfl,rfl⟩ | ⟨x,t,rfl,rfl⟩
  ·exact wpAny_pyHash_int h
  ·exact wpAny_pyHash_str h
 eqBool:=fun hu hv h=>by
  rcases dG hu with ⟨i,t,rfl,rfl⟩ | ⟨x,t,rfl,rfl⟩<;>rcases dG hv with ⟨j,u,rfl,rfl⟩ | ⟨y,u,rfl,rfl⟩
  ·exact wpAny_eqBool_int (by rw [Bool.beq_eq_decide_eq];simpa using h)
  ·exact SeqAt.EqAt.int_str i t _ u _ _ _ _ (by simpa using h)
  ·exact SeqAt.EqAt.str_int _ t j u _ _ _ _ (by simpa using h)
  ·exact wpAny_eqBool_str (by rw [show decide (S x=S y)=decide ((Sum.inr x:PK)= .inr y) from decide_eq_decide.mpr ⟨fun e=>by rw [zi e],fun e=>by cases e;rfl⟩];exact h)
 «strs» :=fun k x t v h=>by
  rcases dG h with ⟨i,u,rfl,e⟩ | ⟨y,u,rfl,e⟩<;>cases e
  cases v<;>rfl
structure SC where
 prog:Program
 w:World
 K:PySem.W.Frag
 mg:Str→Option Value
 base:Heap
 T:Nat→Option Addr
abbrev Fz:=Addr→Option Obj
structure Wo where
 F:Fz
 O:Addr→Option Addr
 m:List Addr
 s:Shared
def DO(G:SC)(o:Obj)(kvs:List (PK×Value)):Prop:=o.ExactDict∧∃ es ep,o.data= .dict es ep∧KeysOf (pk G.prog G.w) es∧Pairs (pk G.prog G.w) es.toList kvs∧(kvs.map (·.1)).Nodup
def NsO(o:Obj)(fs:List (Str×Value)):Prop:=∃ es ep,o.data= .dict es ep∧StrKeys es∧UniqKeys es∧∀ n,nsFind es n=fs.lookup n
def sqT:PV→Option (String×List PV)
 | .tup ps=>some ("tuple",ps)
 | .lst ps=>some ("list",ps)
 | .giv ps=>some ("list",ps)
 | _=>none
section
variable (G:SC) (F:Fz) (m:List Addr)
mutual
inductive aX:PV→Value→Prop where
 | non:aX .non .none
 | bl (b:Bool):aX (.bl b) (.bool b)
 | int (i:Int) (t:Tok):aX (.int i) (.int i t)
 | str (x:List Nat) (t:Tok):aX (.str x) (.str (S x) t)
 | ty (n:String):aX (.ty n) (.type n)
 | cls {C:Nat} {a:Addr} (c:G.T C=some a):aX (.cls C) (.ref a)
 | tup {ps:List PV} {a:Addr} {its:Array Value} {n:Nat} (e:F a=some ({ cls:=.type "tuple",data:=.seq its n })) (z:its.size≤sizeLine) (r:av ps its.toList):aX (.tup ps) (.ref a)
 | lst {ps:List PV} {a:Addr} {its:Array Value} {n:Nat} (e:F a=some ({ cls:=.type "list",data:=.seq its n })) (z:its.size≤sizeLine) (r:av ps its.toList):aX (.lst ps) (.ref a)
 | giv {ps:List PV} {a:Addr} {its:Array Value} {n:Nat} (e:F a=some ({ cls:=.type "list",data:=.seq its n })) (z:its.size≤sizeLine) (r:av ps its.toList):aX (.giv ps) (.ref a)
 | dct {kps:List (PK×PV)} {a:Addr} {o:Obj} {kvs:List (PK×Value)} (e:F a=some o) (d:DO G o kvs) (sm:(a==sysModules)=false) (z:kvs.length≤sizeLine) (k:kvs.map (·.1)=kps.map (·.1)) (r:av (kps.map (·.2)) (kvs.map (·.2))):aX (.dct kps) (.ref a)
 | ins {C:Nat} {a Ca dx:Addr} {od:Obj} (c:G.T C=some Ca) (e:F a=some (PySem.W.instObj Ca dx)) (d:F dx=some od) (n:NsO od []):aX (.ins C []) (.ref a)
 | ref {i:Nat} {a:Addr} (e:m[i]? =some a):aX (.ref i) (.ref a)
 | exc {C:Nat} {a Ca:Addr} {o:Obj} {vs:Array Value} (c:G.T C=some Ca) (e:F a=some o) (oc:o.cls= .ref Ca) (d:o.data= .fields vs):aX (.exc C) (.ref a)
 | exa {C:Nat} {a Ca dx:Addr} {o od:Obj} {vs:Array Value} {u:Value} {fs:List (Str×Value)} {p:PV} (c:G.T C=some Ca) (e:F a=some o) (oc:o.cls= .ref Ca) (d:o.data= .fields vs) (od':o.dict=some dx) (e2:F dx=some od) (n:NsO od fs) (l:fs.lookup (xnm C)=some u) (r:aX p u):aX (.exa C p) (.ref a)
inductive av:List PV→List Value→Prop where
 | nil:av [] []
 | cons {p:PV} {v:Value} {ps:List PV} {vs:List Value} (r:aX p v) (t:av ps vs):av (p::ps) (v::vs)
end
def qO(O:Addr→Option Addr)(g:Heap)(a:Addr):PO→Prop
 | .lst ps=>F a=none∧∃ its n,g.get? a=some { cls:=.type "list",data:=.seq its n }∧its.size≤sizeLine∧av G F m ps its.toList
 | .dct kps=>F a=none∧∃ o kvs,g.get? a=some o∧DO G o kvs∧(a==sysModules)=false∧kvs.length≤sizeLine∧kvs.map (·.1)=kps.map (·.1)∧av G F m (kps.map (·.2)) (kvs.map (·.2))
 | .froz p=>aX G F m p (.ref a)∧p.pure=true∧∃ o,F a=some o
 | .obj C ps=>F a=none∧∃ Ca dx od vs,G.T C=some Ca∧g.get? a=some (PySem.W.instObj Ca dx)∧O dx=some a∧g.get? dx=some od∧NsO od ((fnm C).zip vs)∧vs.length≤(fnm C).length∧av G F m ps vs
end
section
variable {G:SC} {F F':Fz} {m m':List Addr}
def Sub(m m':List Addr):Prop:=∀ (i:Nat) (a:Addr),m[i]? =some a→m'[i]? =some a
mutual
theorem aX.mono(hF:∀ a o,F a=some o→F' a=some o):∀ {p:PV} {v:Value},aX G F m p v→p.pure=true∨Sub m m'→aX G F' m' p v
 | _,_,.non,_=>.non
 | _,_,.bl b,_=>.bl b
 | _,_,.int i t,_=>.int i t
 | _,_,.str x t,_=>.str x t
 | _,_,.ty n,_=>.ty n
 | _,_,.cls c,_=>.cls c
 | _,_,.tup e z r,h=>.tup (hF _ _ e) z (av.mono hF r (h.imp_left fun q=>by simpa [PV.pure] using q))
 | _,_,.lst e z r,h=>.lst (hF _ _ e) z (av.mono hF r (h.imp_left fun q=>by simpa [PV.pure] using q))
 | _,_,.giv e z r,h=>.giv (hF _ _ e) z (av.mono hF r (h.imp_left fun q=>by simpa [PV.pure] using q))
 | _,_,.dct e d sm z k r,h=>.dct (hF _ _ e) d sm z k (av.mono hF r (h.imp_left fun q=>by simpa [PV.pure,jw] using q))
 | _,_,.ins c e d n,_=>.ins c (hF _ _ e) (hF _ _ d) n
 | _,_,.ref e,h=>.ref (h.elim (fun q=>by simp [PV.pure] at q) fun q=>q _ _ e)
 | _,_,.exc c e o d,_=>.exc c (hF _ _ e) o d
 | _,_,.exa c e o d o' e2 n l r,h=>.exa c (hF _ _ e) o d o' (hF _ _ e2) n l (aX.mono hF r (h.imp_left fun q=>by simpa [PV.pure] using q))
theorem av.mono(hF:∀ a o,F a=some o→F' a=some o):∀ {p:List PV} {v:List Value},av G F m p v→ai p=true∨Sub m m'→av G F' m' p v
 | _,_,.nil,_=>.nil
 | _,_,.cons r t,h=>.cons (aX.mono hF r (h.imp_left fun q=>by simp only [ai,Bool.and_eq_true] at q;exact q.1)) (av.mono hF t (h.imp_left fun q=>by simp only [ai,Bool.and_eq_true] at q;exact q.2))
end
theorem aX.sq{p:PV}{t:String}{ps:List PV}{a:Addr}{its:Array Value}{n:Nat}(k:sqT p=some (t,ps))(e:F a=some ({ cls:=.type t,data:=.seq its n }))(z:its.size≤sizeLine)(r:av G F m ps its.toList):aX G F m p (.ref a):=by
 unfold sqT at k
 split at k<;>cases k
 ·exact .tup e z r
 ·exact .lst e z r
 ·exact .giv e z r
end
end Z
namespace Z
open PySem PySem.Spec PyProof.Rows L3
structure HR(G:SC)(w:Wo)(h:List PO):Prop where
 sub:∀ a o,w.F a=some o→w.s.heap.get? a=some o
 own:∀ d a,w.O d=some a→(∃ o,w.s.heap.get? d=some o)∧d∉w.m∧w.F d=none
 len:h.length=w.m.length
 nd:w.m.Nodup
 obj:∀ (i:Nat) (o:PO) (a:Addr),h[i]? =some o→w.m[i]? =some a→qO G w.F w.m w.O w.s.heap a o
def Fre(w:Wo)(b:Addr):Prop:=b∉w.m∧w.F b=none∧w.O b=none
def Has(w:Wo)(b:Addr)(o:Obj):Prop:=w.s.heap.get? b=some o∧Fre w b
structure Stp(fs:List Addr)(W:Addr→Prop)(w w':Wo):Prop where
 os:w'.s.os=w.s.os
 ba:AllBare w.s.gens→AllBare w'.s.gens
 fz:∀ a o,w.F a=some o→w'.F a=some o
 ow:∀ d a,w.O d=some a→w'.O d=some a
 pre:∃ t,w'.m=w.m++t
 dom:∀ b o,w.s.heap.get? b=some o→∃ o',w'.s.heap.get? b=some o'
 keep:∀ b o,Has w b o→¬ W b→∃ sl,Has w' b { o with slots:=sl }∧(b∈fs∨sl=o.slots)
section
variable {G:SC} {fs:List Addr} {W W':Addr→Prop} {w w1 w2:Wo} {h h1:List PO} {a b:Addr} {o:Obj} {s':Shared}
theorem Stp.refl:Stp fs W w w:=⟨rfl,id,fun _ _ e=>e,fun _ _ e=>e,⟨[],by simp⟩,fun _ o e=>⟨o,e⟩,fun _ o q _=>⟨o.slots,q,.inr rfl⟩⟩
theorem Stp.trans(x:Stp fs W w w1)(y:Stp fs W w1 w2):Stp fs W w w2:=
 ⟨y.os.trans x.os,y.ba∘x.ba,fun a o e=>y.fz a o (x.fz a o e),fun a o e=>y.ow a o (x.ow a o e),let ⟨t,e⟩:=x.pre;let ⟨u,e'⟩:=y.pre;⟨t++u,by rw [e',e,List.append_assoc]⟩,fun b o e=>let ⟨o',q⟩:=x.dom b o e;y.dom b o' q,fun b o q n=>by
  obtain ⟨sl,q1,z1⟩:=x.keep b o q n
  obtain ⟨sl',q2,z2⟩:=y.keep b _ q1 n
  exact ⟨sl',q2,z1.elim .inl fun z=>z2.imp_right fun z'=>z'.trans z⟩⟩
theorem Stp.weak{fs':List Addr}(x:Stp fs W w w1)(k:∀ b,W b→W' b)(l:∀ b∈fs,b∈fs':=by exact fun _ z=>z):Stp fs' W' w w1:=⟨x.os,x.ba,x.fz,x.ow,x.pre,x.dom,fun b o q n=>let ⟨sl,q,z⟩:=x.keep b o q fun z=>n (k b z);⟨sl,q,z.imp_left (l b)⟩⟩
theorem Stp.sub(x:Stp fs W w w1):Sub w.m w1.m:=fun i a e=>by
 obtain ⟨t,z⟩:=x.pre
 rw [z,List.getElem?_append_left (List.getElem?_eq_some_iff.mp e).1];exact e
theorem Stp.rep(x:Stp fs W w w1){p:PV}{u:Value}(r:aX G w.F w.m p u):aX G w1.F w1.m p u:=r.mono x.fz (.inr x.sub)
theorem Stp.reps(x:Stp fs W w w1){p:List PV}{u:List Value}(r:av G w.F w.m p u):av G w1.F w1.m p u:=r.mono x.fz (.inr x.sub)
theorem HR.there(H:HR G w h)(e:a∈w.m):∃ o,w.s.heap.get? a=some o:=by
 obtain ⟨i,hi,e⟩:=List.mem_iff_getElem.mp e
 have q:=H.obj i (h[i]'(by rw [H.len];exact hi)) a (by simp) (by simp [← e])
 revert q
 cases h[i]'(by rw [H.len];exact hi) with
 | lst ps=>exact fun ⟨_,_,_,e,_⟩=>⟨_,e⟩
 | dct kps=>exact fun ⟨_,_,_,e,_⟩=>⟨_,e⟩
 | froz p=>exact fun ⟨_,_,o,e⟩=>⟨o,H.sub a o e⟩
 | obj C ps=>exact fun ⟨_,_,_,_,_,_,e,_⟩=>⟨_,e⟩
theorem HR.free(H:HR G w h)(e:w.s.heap.get? a=none):Fre w a:=by
 refine ⟨fun z=>?_,?_,?_⟩
 ·obtain ⟨o,q⟩:=H.there z;rw [e] at q;cases q
 ·cases q:w.F a with
  | none=>rfl
  | some x=>rw [H.sub a x q] at e;cases e
 ·cases q:w.O a with
  | none=>rfl
  | some x=>obtain ⟨⟨o,q'⟩,_⟩:=H.own a x q;rw [e] at q';cases q'
theorem HR.at(H:HR G w h)(e:w.F a=some o):w.s.heap.get? a=some o:=H.sub a o e
theorem aM(g:Heap):g.get? g.objs.size=none:=by
 cases q:g.get? g.objs.size with
 | none=>rfl
 | some o=>exact absurd (Heap.lt_size q) (Nat.lt_irrefl _)
theorem qO.on{g g':Heap}{F F':Fz}{m m':List Addr}{O O':Addr→Option Addr}{po:PO}(hF:∀ a o,F a=some o→F' a=some o)(hO:∀ d,O d=some a→O' d=some a)(hm:Sub m m')(q:qO G F m O g a po)(k:∀ b o,g.get? b=some o→b=a∨O b=some a→g'.get? b=some o)(f:F a=none→F' a=none):qO G F' m' O' g' a po:=by
 cases po with
 | lst ps=>obtain ⟨z,its,n,e,l,r⟩:=q;exact ⟨f z,its,n,k _ _ e (.inl rfl),l,r.mono hF (.inr hm)⟩
 | dct kps=>obtain ⟨z,o,kvs,e,d,y,l,c,r⟩:=q;exact ⟨f z,o,kvs,k _ _ e (.inl rfl),d,y,l,c,r.mono hF (.inr hm)⟩
 | froz p=>obtain ⟨r,z,o,e⟩:=q;exact ⟨r.mono hF (.inr hm),z,o,hF _ _ e⟩
 | obj C ps=>obtain ⟨z,Ca,dx,od,vs,c,e,d,e2,n,l,r⟩:=q;exact ⟨f z,Ca,dx,od,vs,c,k _ _ e (.inl rfl),hO _ d,k _ _ e2 (.inr d),n,l,r.mono hF (.inr hm)⟩
theorem HR.on(H:HR G w h)(k:∀ b o,w.s.heap.get? b=some o→¬ Fre w b→s'.heap.get? b=some o):HR G { w with s:=s' } h:=
 have f:∀ {b o},w.F b=some o→¬ Fre w b:=fun e z=>by rw [z.2.1] at e;cases e
 have d:∀ {b a},w.O b=some a→¬ Fre w b:=fun e z=>by rw [z.2.2] at e;cases e
 ⟨fun a o e=>k a o (H.sub a o e) (f e),fun b a e=>let ⟨⟨o,q⟩,z⟩:=H.own b a e;⟨⟨o,k b o q (d e)⟩,z⟩,H.len,H.nd,fun i o a e1 e2=>(H.obj i o a e1 e2).on (fun _ _ e=>e) (fun _ e=>e) (fun _ _ e=>e) (fun b o e z=>k b o e (z.elim (fun z y=>y.1 (z▸List.mem_of_getElem? e2)) d)) id⟩
end
structure Cx extends SC where
 A:Around
 N:List Str
 env:Env
 stack:List Env
 fn:Str→Bool
 calm:Bool
 tr:Bool
 Ep:(Value→Shared→Prop)→Prop
abbrev Cx.L(X:Cx):Addr:=X.env.locals
def frs(l:List Env):List Addr:=l.filterMap (·.frame)
abbrev Cx.fs(X:Cx):List Addr:=frs X.stack
abbrev Cx.M(X:Cx):Model:=model X.prog X.w
def Cx.W(X:Cx)(b:Addr):Prop:=b=X.L∨∃ x,X.fn x=true∧X.env.cells.lookup x=some b
def NoW:Addr→Prop:=fun _=>False
def Nw(X:Cx)(w w':Wo)(h:List PO):Prop:=Stp X.fs NoW w w'∧HR X.toSC w' h
structure Wd(X:Cx)(w:Wo)(h:List PO):Prop extends HR X.toSC w h where
 ba:AllBare w.s.gens
 bs:∀ b o,X.base.get? b=some o→w.F b=some o
 fr:∀ b∈X.fs,∃ o,Has w b o∧∀ vs,o.data≠.fields vs
def wj(env:Env)(g:Heap)(m:Str→Option Value)(x:Str)(u:Value):Prop:=
 (env.kindOf x=some .local∧m x=some u)∨((env.kindOf x=some .cell∨env.kindOf x=some .free)∧∃ c,env.cells.lookup x=some c∧g.IsCell c (some u))
structure Cx.Ok(X:Cx):Prop where
 kin:X.K.In X.base
 gl:X.base.Ns mainGlobals X.mg
 bl:∃ mb,X.base.Ns builtinsNs mb∧∀ x:Str,x≠"__name__"→mb x=bootBuiltins x
 nl:X.base.NoLimit
 kind:X.env.scope.kind= .function
 glob:X.env.globals=mainGlobals
 blt:X.env.builtins=builtinsNs
 inj:∀ x y c,X.env.cells.lookup x=some c→X.env.cells.lookup y=some c→x=y
 has:∀ x,(X.env.kindOf x=some .cell∨X.env.kindOf x=some .free)→∃ c,X.env.cells.lookup x=some c
 hd:X.calm=true→X.A.handled=none
 frames:X.A.frames=some X.stack
 nd:X.N.Nodup
 sf:∀ env∈X.stack,env.scope.kind≠.module∧∃ L,env.frame=some L∧X.base.get? L=none
structure Inv(X:Cx)(w:Wo)(ρ:Ev)(h:List PO):Prop extends Wd X w h where
 ok:X.Ok
 loc:∃ m o,w.s.heap.Ns X.L m∧Has w X.L o∧∀ (i:Nat) (p:PV),ρ[i]? =some (some p)→∃ x u,X.N[i]? =some x∧aX X.toSC w.F w.m p u∧wj X.env w.s.heap m x u
 cel:∀ x c,X.env.cells.lookup x=some c→∃ v o,w.s.heap.IsCell c v∧Has w c o
 ln:ρ.length=X.N.length
section
variable {X:Cx} {w w1 w2:Wo} {ρ:Ev} {h h1:List PO} {b:Addr} {o:Obj}
theorem Nw.trans(x:Nw X w w1 h)(y:Nw X w1 w2 h1):Nw X w w2 h1:=⟨x.1.trans y.1,y.2⟩
theorem uV{g g':Heap}{a:Addr}{m:Str→Option Value}(n:g.Ns a m)(k:∀ o,g.get? a=some o→∃ sl,g'.get? a=some { o with slots:=sl }):g'.Ns a m:=let ⟨o,es,ep,e,r⟩:=n;let ⟨sl,q⟩:=k o e;⟨_,es,ep,q,r⟩
theorem xO{g g':Heap}{a:Addr}{v:Option Value}(n:g.IsCell a v)(k:∀ o,g.get? a=some o→∃ sl,g'.get? a=some { o with slots:=sl }):g'.IsCell a v:=let ⟨o,e,d⟩:=n;let ⟨sl,q⟩:=k o e;⟨_,q,d⟩
theorem Stp.slots{W:Addr→Prop}{fs:List Addr}(x:Stp fs W w w1)(q:Has w b o)(n:¬ W b):∀ o,w.s.heap.get? b=some o→∃ sl,w1.s.heap.get? b=some { o with slots:=sl }:=fun o' e=>by
 rw [q.1] at e;cases e
 obtain ⟨sl,z,_⟩:=x.keep b o q n
 exact ⟨sl,z.1⟩
theorem ss{g base:Heap}:∀ {l:List Env},(∀ env∈l,env.scope.kind≠.module∧∃ L,env.frame=some L∧base.get? L=none)→(∀ b∈frs l,∃ o,g.get? b=some o∧∀ vs,o.data≠.fields vs)→g.FunFrames base l
 | [],_,_=>trivial
 | env::r,h,k=>by
  obtain ⟨a,L,b,c⟩:=h env (by simp)
  have e:frs (env::r)=L::frs r:=by simp [frs,b]
  rw [e] at k
  obtain ⟨o,q,d⟩:=k L (by simp)
  exact ⟨a,⟨L,o,b,c,q,d⟩,ss (fun x hx=>h x (List.mem_cons_of_mem _ hx)) fun x hx=>k x (List.mem_cons_of_mem _ hx)⟩
theorem Wd.on{W:Addr→Prop}(I:Wd X w h)(x:Stp X.fs W w w1)(hw:∀ b∈X.fs,W b→∃ o,Has w1 b o∧∀ vs,o.data≠.fields vs)(H:HR X.toSC w1 h1):Wd X w1 h1:=
 ⟨H,x.ba I.ba,fun b o e=>x.fz _ _ (I.bs b o e),fun b hb=>by
  by_cases z:W b
  ·exact hw b hb z
  ·obtain ⟨o,q,d⟩:=I.fr b hb
   obtain ⟨sl,q',_⟩:=x.keep b o q z
   exact ⟨_,q',d⟩⟩
theorem Inv.on(I:Inv X w ρ h)(x:Nw X w w1 h1):Inv X w1 ρ h1:=by
 obtain ⟨m,o,n,hl,q⟩:=I.loc
 have nw:∀ b,¬ NoW b:=fun _ z=>z
 have cl:∀ x c,X.env.cells.lookup x=some c→∀ v,w.s.heap.IsCell c v→w1.s.heap.IsCell c v:=fun y c e v z=>let ⟨_,_,_,hc⟩:=I.cel y c e;xO z (x.1.slots hc (nw c))
 refine ⟨I.toWd.on x.1 (fun _ _ z=>z.elim) x.2,I.ok,⟨m,?_⟩,fun y c e=>?_,I.ln⟩
 ·obtain ⟨sl,z,_⟩:=x.1.keep _ _ hl (nw _)
  refine ⟨_,uV n (x.1.slots hl (nw _)),z,fun i p e=>?_⟩
  obtain ⟨y,u,e1,r,l⟩:=q i p e
  exact ⟨y,u,e1,x.1.rep r,l.imp_right fun ⟨k,c,e,z⟩=>⟨k,c,e,cl y c e _ z⟩⟩
 ·obtain ⟨v,o,z,hc⟩:=I.cel y c e
  obtain ⟨sl,q',_⟩:=x.1.keep _ _ hc (nw _)
  exact ⟨v,_,cl y c e v z,q'⟩
theorem Wd.bk(I:Wd X w h){b:Addr}{o:Obj}(e:X.base.get? b=some o):w.s.heap.get? b=some o:=I.toHR.at (I.bs b o e)
theorem Inv.kIn(I:Inv X w ρ h):X.K.In w.s.heap:=I.ok.kin.keeps fun _ _ e=>I.bk e
end
def Fst(B:Heap)(l:List Env)(a:Addr)(cls a0:Value)(h:Heap):Prop:=B.StaysIn h∧B.get? a=none∧h.FunFrames B l∧∃ o vs,h.get? a=some o∧o.cls=cls∧o.data= .fields vs∧vs[0]? =some a0∧vs[1]? =some .none
structure Fly(X:Cx)(w w':Wo)(a:Addr)(cls:Value)(dx:Option Addr):Prop where
 f:∃ a0 B,(Heap.FlyingW B X.stack a cls a0 w'.s.heap∨X.tr=true∧Fst B X.stack a cls a0 w'.s.heap)∧(∀ b o,w.s.heap.get? b=some o→b∉X.fs→∃ o',B.get? b=some o')∧∀ b,¬ Fre w' b→∃ o',B.get? b=some o'
 d:∃ o,w'.s.heap.get? a=some o∧o.dict=dx
def XV(G:SC)(F:Fz)(m:List Addr)(cls:Value)(dx:Option Addr):PV→Prop
 | .cls C=>∃ Ca,G.T C=some Ca∧cls= .ref Ca∧dx=none
 | .exa C v=>∃ Ca d od fs y,G.T C=some Ca∧cls= .ref Ca∧dx=some d∧F d=some od∧NsO od fs∧fs.lookup (xnm C)=some y∧aX G F m v y
 | _=>False
def nh(X:Cx)(w w':Wo)(e:PV)(u:Value):Prop:=∃ a cls dx,u= .ref a∧Fly X w w' a cls dx∧XV X.toSC w'.F w'.m cls dx e
theorem nh.to{X:Cx}{w w0 w2 w3:Wo}{e:PV}{u:Value}(r:nh X w w2 e u)(pu:e.pure=true)(hF:w3.F=w2.F)(hs:w3.s=w2.s)(h0:w0.s=w.s)(k:∀ b,¬ Fre w3 b→¬ Fre w2 b∨(∃ o,w.s.heap.get? b=some o)∧b∉X.fs):nh X w0 w3 e u:=by
 obtain ⟨a,cls,dx,rfl,⟨⟨a0,B,f,c1,c2⟩,d⟩,m⟩:=r
 refine ⟨a,cls,dx,rfl,⟨⟨a0,B,hs▸f,h0▸c1,fun b z=>(k b z).elim (c2 b) fun ⟨⟨o,q⟩,n⟩=>c1 b o q n⟩,hs▸d⟩,?_⟩
 rw [hF]
 cases e with
 | exa C v=>obtain ⟨Ca,d,od,fs,y,a,b,c,d',e,f,g⟩:=m;exact ⟨Ca,d,od,fs,y,a,b,c,d',e,f,g.mono (fun _ _ e=>e) (.inl (by simpa [PV.pure] using pu))⟩
 | _=>exact m
abbrev RV(G:SC)(w:Wo):PV→Value→Prop:=aX G w.F w.m
abbrev RVs(G:SC)(w:Wo):List PV→List Value→Prop:=av G w.F w.m
def bH{α β:Type}(X:Cx)(R:Wo→α→β→Prop)(w:Wo)(Q:β→Shared→Prop)(E:Value→Shared→Prop):Res α→Prop
 | .ok a h=>X.Ep E∧∀ w' x,Nw X w w' h→R w' a x→Q x w'.s
 | .exc e h=>X.Ep E∧∀ w' u,Nw X w w' h→nh X w w' e u→E u w'.s
 | .bad=>False
abbrev Wp(X:Cx){β:Type}(t:Sem β)(Q:β→Shared→Prop)(E:Value→Shared→Prop)(s:Shared):Prop:=wpAny (model X.prog X.w) X.A t Q E s
structure RE(X:Cx)(e:Expr)(f:Ex):Prop where
 r:∀ {w:Wo} {ρ:Ev} {h:List PO} {Q:Value→Shared→Prop} {E:Value→Shared→Prop},Inv X w ρ h→bH X (RV X.toSC) w Q E (f ρ h)→Wp X (eval e X.env) Q E w.s
structure RT(X:Cx)(e:Expr)(f:Tx):Prop where
 r:∀ {w:Wo} {ρ:Ev} {h:List PO} {Q:Bool→Shared→Prop} {E:Value→Shared→Prop},Inv X w ρ h→bH X (fun _ a b=>a=b) w Q E (f ρ h)→Wp X (isTrue e X.env (eval e X.env)) Q E w.s
structure RA(X:Cx)(es:List Expr)(f:Ax):Prop where
 r:∀ {w:Wo} {ρ:Ev} {h:List PO} {Q:List Value→Shared→Prop} {E:Value→Shared→Prop} (pos:Pos),Inv X w ρ h→bH X (RVs X.toSC) w Q E (f ρ h)→Wp X (spliced (backTo pos (starEach es X.env))) Q E w.s
section
variable {X:Cx} {w w1:Wo} {ρ:Ev} {h:List PO} {α β γ δ:Type} {R:Wo→α→β→Prop} {R':Wo→γ→δ→Prop} {E:Value→Shared→Prop}
theorem Fly.back{a:Addr}{cls:Value}{dx:Option Addr}{w':Wo}{W:Addr→Prop}{fs:List Addr}(f:Fly X w1 w' a cls dx)(x:Stp fs W w w1):Fly X w w' a cls dx:=
 let ⟨a0,B,y,c,d⟩:=f.f;⟨⟨a0,B,y,fun b o e n=>let ⟨o',q⟩:=x.dom b o e;c b o' q n,d⟩,f.d⟩
theorem nh.back{w':Wo}{e:PV}{u:Value}{W:Addr→Prop}{fs:List Addr}(r:nh X w1 w' e u)(x:Stp fs W w w1):nh X w w' e u:=let ⟨a,c,d,e,f,r⟩:=r;⟨a,c,d,e,f.back x,r⟩
theorem bH.ep{Q:β→Shared→Prop}{r:Res α}(p:bH X R w Q E r):X.Ep E:=match r with
 | .ok _ _=>p.1
 | .exc _ _=>p.1
 | .bad=>p.elim
theorem bH.step{Q:β→Shared→Prop}{r:Res α}{h1:List PO}(p:bH X R w Q E r)(x:Nw X w w1 h1):bH X R w1 Q E r:=match r with
 | .ok _ _=>⟨p.1,fun w' u y=>p.2 w' u (x.trans y)⟩
 | .exc _ _=>⟨p.1,fun w' u y r=>p.2 w' u (x.trans y) (r.back x.1)⟩
 | .bad=>p
theorem bH.bind0{Q:δ→Shared→Prop}{G:β→Shared→Prop}{r:Res α}{k:α→List PO→Res γ}(p:bH X R' w Q E (r.bind k))(c:∀ w1 h1 a x,Nw X w w1 h1→R w1 a x→bH X R' w Q E (k a h1)→G x w1.s):bH X R w G E r:=match r with
 | .ok a h=>⟨p.ep,fun w' x y q=>c w' h a x y q p⟩
 | .exc _ _=>p
 | .bad=>p
theorem bH.bind{Q:δ→Shared→Prop}{G:β→Shared→Prop}{r:Res α}{k:α→List PO→Res γ}(p:bH X R' w Q E (r.bind k))(c:∀ w1 h1 a x,Nw X w w1 h1→R w1 a x→bH X R' w1 Q E (k a h1)→G x w1.s):bH X R w G E r:=p.bind0 fun w1 h1 a x y q p=>c w1 h1 a x y q (p.step y)
theorem bH.now{Q:β→Shared→Prop}{a:α}{x:β}{t:Nat}(p:bH X R w Q E (.ok a h))(H:HR X.toSC w h)(r:R { w with s:= { w.s with toks:=t } } a x):Q x { w.s with toks:=t }:=
 p.2 { w with s:= { w.s with toks:=t } } x ⟨⟨rfl,id,fun _ _ e=>e,fun _ _ e=>e,⟨[],by simp⟩,fun _ o e=>⟨o,e⟩,fun _ o q _=>⟨o.slots,q,.inr rfl⟩⟩,H.on fun _ _ e _=>e⟩ r
theorem bH.here{Q:β→Shared→Prop}{a:α}{x:β}(p:bH X R w Q E (.ok a h))(H:HR X.toSC w h)(r:R w a x):Q x w.s:=p.2 w x ⟨.refl,H⟩ r
end
def iw(F:Fz)(a:Addr)(o:Obj):Fz:=fun b=>if b=a then some o else F b
theorem bu{F:Fz}{a:Addr}{o:Obj}:iw F a o a=some o:=if_pos rfl
theorem kF{F:Fz}{a b:Addr}{o:Obj}(n:b≠a):iw F a o b=F b:=if_neg n
theorem cQ{F:Fz}{a b:Addr}{o:Obj}(n:b≠a)(e:F b=none):iw F a o b=none:=(kF n).trans e
theorem cP{F:Fz}{a:Addr}{o:Obj}(n:F a=none)(b:Addr)(x:Obj)(q:F b=some x):iw F a o b=some x:=by rw [kF];exact q;rintro rfl;rw [n] at q;cases q
theorem Nw.lay{X:Cx}{w:Wo}{h:List PO}{a:Addr}{o:Obj}{s':Shared}(H:HR X.toSC w h)(n:w.s.heap.get? a=none)(k:∀ b o,w.s.heap.get? b=some o→s'.heap.get? b=some o)(e:s'.heap.get? a=some o)(ho:s'.os=w.s.os:=by rfl)(hg:s'.gens=w.s.gens:=by rfl):Nw X w ⟨iw w.F a o,w.O,w.m,s'⟩ h:=by
 obtain ⟨z1,z2,z3⟩:=H.free n
 have ne:∀ {b o},w.s.heap.get? b=some o→b≠a:=fun q z=>by rw [z,n] at q;cases q
 refine ⟨⟨ho,fun q=>hg▸q,cP z2,fun _ _ e=>e,⟨[],by simp⟩,fun b o e=>⟨o,k b o e⟩,fun b ob q _=>⟨ob.slots,⟨k b ob q.1,q.2.1,cQ (ne q.1) q.2.2.1,q.2.2.2⟩,.inr rfl⟩⟩,fun b x q=>?_,fun b a q=>let ⟨⟨o,e⟩,z⟩:=H.own b a q;⟨⟨o,k b o e⟩,z.1,cQ (ne e) z.2⟩,H.len,H.nd,fun i ob b e1 e2=>(H.obj i ob b e1 e2).on (cP z2) (fun _ e=>e) (fun _ _ e=>e) (fun b o e _=>k b o e) (cQ fun z=>z1 (z▸List.mem_of_getElem? e2))⟩
 by_cases z:b=a
 ·subst z;cases bu.symm.trans q;exact e
 ·exact k b x (H.sub b x ((kF z).symm.trans q))
end Z
namespace L3
def ao(h:List PO):PV→PV
 | .ref i=>match h[i]? with
  | some (.froz q)=>q
  | _=>.ref i
 | p=>p
noncomputable def af(i:Nat):Ex:=fun ρ h=>match ρ[i]? with
 | some (some p)=>.ok (ao h p) h
 | _=>.bad
noncomputable def cK(v:PV):Ex:=fun _ h=>.ok v h
def c1(g:PV→List PO→Res PV)(a:Ex):Ex:=fun ρ h=>(a ρ h).bind g
def c2(g:PV→PV→List PO→Res PV)(a b:Ex):Ex:=fun ρ h=>(a ρ h).bind fun x h1=>(b ρ h1).bind fun y h2=>g x y h2
def cN(g:List PV→List PO→Res PV)(a:Ax):Ex:=fun ρ h=>(a ρ h).bind g
noncomputable def aj:Ax:=fun _ h=>.ok [] h
def aa(a:Ex)(r:Ax):Ax:=fun ρ h=>(a ρ h).bind fun x h1=>(r ρ h1).bind fun xs h2=>.ok (x::xs) h2
end L3
namespace Z
open PySem PySem.Spec PyProof.Rows L3
section
variable {X:Cx} {w w1:Wo} {ρ:Ev} {h:List PO} {a b:Expr} {fa fb:Ex} {ta tb:Tx} {pos:Pos} {Q:Value→Shared→Prop} {E:Value→Shared→Prop}
theorem HR.deref{G:SC}(H:HR G w h){p:PV}{v:Value}(r:aX G w.F w.m p v):aX G w.F w.m (ao h p) v:=by
 unfold ao
 split
 ·cases r with
  | ref e=>
   split
   ·rename_i q;exact (H.obj _ _ _ q e).1
   ·exact .ref e
 ·exact r
theorem wj.nm{m:Str→Option Value}{x:Str}{u:Value}{s:Shared}(l:wj X.env s.heap m x u)(n:s.heap.Ns X.L m)(ok:X.Ok)(z:Q u s)(hd:(x==("__debug__":Str))=false)(hcd:(x==("__classdict__":Str))=false):Wp X (eval (.Name x pos) X.env) Q E s:=by
 rcases l with ⟨k,e⟩ | ⟨k | k,c,e,q⟩
 ·exact wpAny_Name (wpAny_loadName_local ok.kind k n e z) hd
 ·exact wpAny_Name (wpAny_loadName_cell ok.kind k e q z) hd
 ·exact wpAny_Name (wpAny_loadName_free ok.kind k e q z hcd) hd
theorem rv(i:Nat){x:Str}(hN:X.N[i]? =some x:=by rfl)(hd:(x==("__debug__":Str))=false:=by decide)(hcd:(x==("__classdict__":Str))=false:=by decide):RE X (.Name x pos) (af i) where
 r I p:=by
  unfold af at p
  split at p
  ·rename_i q
   obtain ⟨m,_,n,_,l⟩:=I.loc
   obtain ⟨y,u,e,r,l⟩:=l i _ q
   cases hN.symm.trans e
   exact l.nm n I.ok (p.here I.toHR (I.deref r)) hd hcd
  ·exact p.elim
theorem ag{i:Int}{j}:RE X (.Constant (.int i) j pos) (cK (.int i)):=⟨fun I p=>wpAny_Constant_int (p.now I.toHR (.int i _))⟩
theorem gC{b:Bool}{j}:RE X (.Constant (.bool b) j pos) (cK (.bl b)):=⟨fun I p=>Constant_bool (p.here I.toHR (.bl b))⟩
theorem ig{j}:RE X (.Constant .none j pos) (cK .non):=⟨fun I p=>Constant_none (p.here I.toHR .non)⟩
theorem Ha(l:List Nat){x:Str}{j}(e:x=S l:=by rfl):RE X (.Constant (.str x) j pos) (cK (.str l)):=⟨fun I p=>Calls.Constant_str (p.now I.toHR (e▸.str l _))⟩
def Op2(X:Cx)(op:Value→Value→Sem Value)(g:PV→PV→List PO→Res PV):Prop:=
 ∀ {w h p q u v Q E},Wd X w h→aX X.toSC w.F w.m p u→aX X.toSC w.F w.m q v→bH X (RV X.toSC) w Q E (g p q h)→Wp X (op u v) Q E w.s
def Op1(X:Cx)(op:Value→Sem Value)(g:PV→List PO→Res PV):Prop:=
 ∀ {w h p u Q E},Wd X w h→aX X.toSC w.F w.m p u→bH X (RV X.toSC) w Q E (g p h)→Wp X (op u) Q E w.s
def OpN(X:Cx)(op:List Value→Sem Value)(g:List PV→List PO→Res PV):Prop:=
 ∀ {w h p u Q E},Wd X w h→av X.toSC w.F w.m p u→bH X (RV X.toSC) w Q E (g p h)→Wp X (op u) Q E w.s
theorem two{op:Value→Value→Sem Value}{g:PV→PV→List PO→Res PV}(o:Op2 X op g)(ha:RE X a fa)(hb:RE X b fb)(I:Inv X w ρ h)(p:bH X (RV X.toSC) w Q E (c2 g fa fb ρ h)):
  Wp X (eval a X.env) (fun v s=>Wp X (eval b X.env) (fun u s=>Wp X (op v u) Q E s) E s) E w.s:=
 ha.r I (p.bind fun _ _ _ _ y r p=>hb.r (I.on y) (p.bind fun _ _ _ _ z r' p=>o ((I.on y).on z).toWd (z.1.rep r) r' p))
theorem qb{op:Operator}{g:PV→PV→List PO→Res PV}(o:Op2 X (binaryOp op) g)(ha:RE X a fa)(hb:RE X b fb):RE X (.BinOp a op b pos) (c2 g fa fb):=⟨fun I p=>wpAny_BinOp (two o ha hb I p)⟩
theorem Jx{op:UnaryOp}{g:PV→List PO→Res PV}(o:Op1 X (unaryOp op) g)(ha:RE X a fa):RE X (.UnaryOp op a pos) (c1 g fa):=⟨fun I p=>UnaryOp_ (ha.r I (p.bind fun _ _ _ _ y r p=>o (I.on y).toWd r p))⟩
theorem iQ{op:CmpOp}{g:PV→PV→List PO→Res PV}(o:Op2 X (compareOp op) g)(hm:behindInMarks op b=false)(ha:RE X a fa)(hb:RE X b fb):RE X (.Compare a [op] [b] pos) (c2 g fa fb):=⟨fun I p=>wpAny_Compare1 (two o ha hb I p) hm⟩
theorem gh:RA X [] aj:=⟨fun _ I p=>Calls.spliced_nil (p.here I.toHR .nil)⟩
theorem ac{e:Expr}{es:List Expr}{f:Ex}{fs:Ax}(ha:RE X e f)(hr:RA X es fs)(hs:starEach (e::es) X.env=(false,eval e X.env)::starEach es X.env:=by rfl):RA X (e::es) (aa f fs):=⟨fun pos I p=>by
 rw [hs]
 exact Calls.spliced_cons (ha.r I (p.bind fun _ _ _ _ y r p=>hr.r pos (I.on y) (p.bind fun _ _ _ _ z r' p=>p.here z.2 (.cons (z.1.rep r) r'))))⟩
end
end Z
namespace L3
open PySem
def lsM(h:List PO):PV→Option (List PV)
 | .lst xs=>some xs
 | .ref i=>match h[i]? with
  | some (.lst xs)=>some xs
  | _=>none
 | _=>none
def lsR(h:List PO):PV→Option (List PV)
 | .giv xs=>some xs
 | p=>lsM h p
def dcR(h:List PO):PV→Option (List (PK×PV))
 | .dct kvs=>some kvs
 | .ref i=>match h[i]? with
  | some (.dct kvs)=>some kvs
  | _=>none
 | _=>none
def sqR(h:List PO):PV→Option (List PV)
 | .tup xs=>some xs
 | p=>lsR h p
end L3
namespace Z
open PySem PySem.Spec PyProof.Rows L3
def SqA(g:Heap)(t:String)(a:Addr)(its:Array Value):Prop:=∃ n,g.get? a=some { cls:=.type t,data:=.seq its n }
theorem SqA.tup{g:Heap}{a:Addr}{its:Array Value}(x:SqA g "tuple" a its):IsTup g a its:=let ⟨n,e⟩:=x;⟨_,e,rfl,n,rfl⟩
theorem SqA.pl{g:Heap}{a:Addr}{its:Array Value}(x:SqA g "list" a its):PlainL g a its:=let ⟨n,e⟩:=x;⟨_,n,e,rfl,rfl,rfl⟩
def sqH(h:List PO):PV→Option (String×List PV)
 | .ref i=>match h[i]? with
  | some (.lst xs)=>some ("list",xs)
  | _=>none
 | p=>sqT p
section
variable {G:SC} {w:Wo} {h:List PO} {p:PV} {u:Value} {t:String} {ps:List PV}
theorem HR.sq(H:HR G w h)(r:aX G w.F w.m p u)(k:sqH h p=some (t,ps)):∃ a its,u= .ref a∧SqA w.s.heap t a its∧its.size≤sizeLine∧av G w.F w.m ps its.toList:=by
 unfold sqH at k
 split at k
 ·split at k
  ·rename_i q
   cases k
   cases r with
   | ref e=>obtain ⟨_,its,n,e,z,r⟩:=H.obj _ _ _ q e;exact ⟨_,its,rfl,⟨n,e⟩,z,r⟩
  ·cases k
 ·cases r with
  | tup e z r=>cases k;exact ⟨_,_,rfl,⟨_,H.at e⟩,z,r⟩
  | lst e z r=>cases k;exact ⟨_,_,rfl,⟨_,H.at e⟩,z,r⟩
  | giv e z r=>cases k;exact ⟨_,_,rfl,⟨_,H.at e⟩,z,r⟩
  | _=>cases k
theorem nH(k:lsM h p=some ps):sqH h p=some ("list",ps):=by
 unfold lsM at k
 split at k
 ·cases k;rfl
 ·unfold sqH
  split at k
  ·rename_i q;cases k;simp only [q]
  ·cases k
 ·cases k
theorem iR(k:lsR h p=some ps):sqH h p=some ("list",ps):=by
 unfold lsR at k
 split at k
 ·cases k;rfl
 ·exact nH k
theorem wt(k:sqR h p=some ps):∃ t,sqH h p=some (t,ps)∧(t="tuple"∨t="list"):=by
 unfold sqR at k
 split at k
 ·cases k;exact ⟨_,rfl,.inl rfl⟩
 ·exact ⟨_,iR k,.inr rfl⟩
theorem av.length{F:Fz}{m:List Addr}:∀ {ps:List PV} {vs:List Value},av G F m ps vs→ps.length=vs.length
 | _,_,.nil=>rfl
 | _,_,.cons _ t=>by simp [av.length t]
theorem av.app{F:Fz}{m:List Addr}:∀ {ps qs:List PV} {vs us:List Value},av G F m ps vs→av G F m qs us→av G F m (ps++qs) (vs++us)
 | _,_,_,_,.nil,s=>s
 | _,_,_,_,.cons r t,s=>.cons r (av.app t s)
theorem av.get{F:Fz}{m:List Addr}{p:PV}:∀ {ps:List PV} {vs:List Value} {i:Nat},av G F m ps vs→ps[i]? =some p→∃ v,vs[i]? =some v∧aX G F m p v
 | _,_,0,.cons r _,e=>by cases e;exact ⟨_,rfl,r⟩
 | _,_,i+1,.cons _ t,e=>av.get (i:=i) t e
theorem av.td{F:Fz}{m:List Addr}:∀ {ps:List PV} {vs:List Value} (n:Nat),av G F m ps vs→av G F m (ps.take n) (vs.take n)∧av G F m (ps.drop n) (vs.drop n)
 | _,_,0,r=>⟨.nil,r⟩
 | _,_,_+1,.nil=>⟨.nil,.nil⟩
 | _,_,n+1,.cons r t=>⟨.cons r (av.td n t).1,(av.td n t).2⟩
theorem av.rep{F:Fz}{m:List Addr}{vs:List Value}(r:av G F m ps vs):∀ n:Nat,av G F m (List.replicate n ps).flatten (List.replicate n vs).flatten
 | 0=>.nil
 | n+1=>by rw [List.replicate_succ,List.replicate_succ,List.flatten_cons,List.flatten_cons];exact r.app (r.rep n)
theorem av.len{F:Fz}{m:List Addr}{its:Array Value}(r:av G F m ps its.toList):ps.length=its.size:=r.length
end
section
variable {X:Cx} {w:Wo} {h:List PO} {pv:PV} {ps:List PV} {Q:Value→Shared→Prop} {E:Value→Shared→Prop} {t:String} {n tk:Nat} {its:Array Value}
theorem bH.seq(p:bH X (RV X.toSC) w Q E (.ok pv h))(H:HR X.toSC w h)(k:sqT pv=some (t,ps))(r:av X.toSC w.F w.m ps its.toList)(z:its.size≤sizeLine):Q (.ref w.s.heap.objs.size) { w.s with heap:=w.s.heap.push { cls:=.type t,data:=.seq its n },toks:=tk }:=
 have y:=Nw.lay (X:=X) (s':= { w.s with heap:=w.s.heap.push { cls:=.type t,data:=.seq its n },toks:=tk }) H (aM _) (fun _ _ e=>Heap.get?_push_of_some _ e) (Heap.get?_push_size _ rfl)
 p.2 _ _ y (.sq k bu z (y.1.reps r))
theorem Nw.mk{s':Shared}{a:Addr}{po:PO}{O:Addr→Option Addr}(H:HR X.toSC w h)(n:w.s.heap.get? a=none)(k:∀ b o,w.s.heap.get? b=some o→s'.heap.get? b=some o)(q:qO X.toSC w.F (w.m++ [a]) O s'.heap a po)(hO:∀ d b,w.O d=some b→O d=some b)(hn:∀ d b,O d=some b→w.O d=some b∨w.s.heap.get? d=none∧d≠a∧∃ o,s'.heap.get? d=some o)(ho:s'.os=w.s.os:=by rfl)(hg:s'.gens=w.s.gens:=by rfl):Nw X w ⟨w.F,O,w.m++ [a],s'⟩ (h++ [po]):=by
 obtain ⟨z1,z2⟩:=H.free n
 have sb:Sub w.m (w.m++ [a]):=fun i b e=>by rw [List.getElem?_append_left (List.getElem?_eq_some_iff.mp e).1];exact e
 refine ⟨⟨ho,fun q=>hg▸q,fun _ _ e=>e,hO,⟨_,rfl⟩,fun b o e=>⟨o,k b o e⟩,fun b ob q _=>⟨ob.slots,⟨k b ob q.1,fun z=>?_,q.2.2.1,?_⟩,.inr rfl⟩⟩,fun b x q=>k b x (H.sub b x q),fun d b q=>?_,by simp [H.len],List.nodup_append.mpr ⟨H.nd,by simp,fun x hx y hy z=>z1 (by simp at hy;rw [← hy,← z];exact hx)⟩,fun i ob b e1 e2=>?_⟩
 ·rcases List.mem_append.mp z with z | z
  ·exact q.2.1 z
  ·have q:=q.1;simp at z;rw [z,n] at q;cases q
 ·cases e:O b with
  | none=>exact e
  | some d=>
   rcases hn b d e with z | ⟨z,_⟩
   ·rw [q.2.2.2] at z;cases z
   ·have q:=q.1;rw [z] at q;cases q
 ·rcases hn d b q with z | ⟨z,y,x⟩
  ·obtain ⟨⟨o,e⟩,z,y⟩:=H.own d b z;exact ⟨⟨o,k d o e⟩,fun q=>(List.mem_append.mp q).elim z fun q=>(by simp at q;rw [q,n] at e;cases e),y⟩
  ·exact ⟨x,fun q=>(List.mem_append.mp q).elim (H.free z).1 fun q=>y (by simpa using q),(H.free z).2.1⟩
 ·rcases Nat.lt_or_ge i h.length with l | l
  ·rw [List.getElem?_append_left l] at e1
   rw [List.getElem?_append_left (H.len▸l)] at e2
   exact (H.obj i ob b e1 e2).on (fun _ _ e=>e) (fun d=>hO d b) sb (fun b o e _=>k b o e) id
  ·rw [List.getElem?_append_right l] at e1
   rw [List.getElem?_append_right (H.len▸l),← H.len] at e2
   cases e:i - h.length with
   | zero=>rw [e] at e1 e2;cases e1;cases e2;exact q
   | succ _=>rw [e] at e1;simp at e1
theorem bH.lm(p:bH X (RV X.toSC) w Q E (.ok (.ref h.length) (h++ [.lst ps])))(H:HR X.toSC w h)(r:av X.toSC w.F w.m ps its.toList)(z:its.size≤sizeLine):Q (.ref w.s.heap.objs.size) { w.s with heap:=w.s.heap.push { cls:=.type "list",data:=.seq its n },toks:=tk }:=
 p.2 _ _ (Nw.mk (s':= { w.s with heap:=w.s.heap.push { cls:=.type "list",data:=.seq its n },toks:=tk }) H (aM _) (fun _ _ e=>Heap.get?_push_of_some _ e) ⟨(H.free (aM _)).2.1,its,n,Heap.get?_push_size _ rfl,z,r.mono (fun _ _ e=>e) (.inr fun i b e=>by rw [List.getElem?_append_left (List.getElem?_eq_some_iff.mp e).1];exact e)⟩ (fun _ _ e=>e) fun _ _ e=>.inl e) (.ref (by rw [H.len];simp))
end
end Z
namespace HT
open PySem PyProof.Rows
section
variable {prog:Program} {w:World} {A:Around} {E:Value→Shared→Prop} {s:Shared}
theorem cat_tup{t b:Addr}{vs ws:List Value}{Q:Value→Shared→Prop}(ht:IsTup s.heap t vs.toArray)(hb:IsTup s.heap b ws.toArray)(hv:vs≠ [])
  (h1:ws= []→Q (.ref t) s) (h2:ws≠ []→Q (.ref s.heap.objs.size) { s with heap:=s.heap.push { cls:=.type "tuple",data:=.seq (vs++ws).toArray } })
  (hsz:vs.length+ws.length≤sizeLine):wpAny (model prog w) A (binaryOp .Add (.ref t) (.ref b)) Q E s:=by
 obtain ⟨⟨cls,dd,data,sl⟩,ho,hc,n,hd⟩:=id ht
 obtain ⟨⟨cls2,dd2,data2,sl2⟩,ho2,hc2,n2,hd2⟩:=id hb
 simp only at hc hd hc2 hd2
 subst hc hd hc2 hd2
 have e:vs.toArray++ws.toArray=(vs++ws).toArray:=by simp
 by_cases hw:ws= []
 ·exact concat_meets ⟨_,ho,rfl⟩ ⟨_,ho2,rfl⟩ noFill_tuple_add seq_tuple_add PySem.F.slot_tuple_add PySem.F.entry_tuple_add (PySem.F.args_tuple_add_2 _ _)
   (tuple_addW1 t b vs.toArray ws.toArray n n2 dd dd2 sl sl2 (by simpa using hv) (by simp [hw])) ⟨ho,ho2,h1 hw⟩
 ·refine concat_meets ⟨_,ho,rfl⟩ ⟨_,ho2,rfl⟩ noFill_tuple_add seq_tuple_add PySem.F.slot_tuple_add PySem.F.entry_tuple_add (PySem.F.args_tuple_add_2 _ _)
   (tuple_addW2 t b vs.toArray ws.toArray n n2 dd dd2 sl sl2 (by simpa using hv) (by simpa using hw) (by rw [List.size_toArray,List.size_toArray];exact hsz)) ⟨ho,ho2,?_⟩
  rw [e]
  exact h2 hw
def sIx(n d:Nat):Option Int→Nat
 | none=>d
 | some v=>if v<0 then (v+(n:Int)).toNat else min v.toNat n
theorem sIx_none(n d:Nat):sIx n d none=d:=rfl
theorem sIx_nat(n d k:Nat):sIx n d (some (k:Int))=min k n:=by
 show (if (k:Int)<0 then ((k:Int)+(n:Int)).toNat else min (k:Int).toNat n)=min k n
 rw [if_neg (by omega),Int.toNat_natCast]
theorem sIx_le(n d:Nat)(hd:d≤n)(o:Option Int):sIx n d o≤n:=by
 cases o with
 | none=>exact hd
 | some v=>
  show (if v<0 then (v+(n:Int)).toNat else min v.toNat n)≤n
  by_cases hv:v<0
  ·rw [if_pos hv];omega
  ·rw [if_neg hv];exact Nat.min_le_right _ _
theorem ze(v:Int)(n d:Nat):(if v<0 then max (v+(n:Int)) 0 else min v (n:Int))=((sIx n d (some v):Nat):Int):=by
 show (if v<0 then max (v+(n:Int)) 0 else min v (n:Int))=(((if v<0 then (v+(n:Int)).toNat else min v.toNat n):Nat):Int)
 by_cases hv:v<0
 ·simp only [if_pos hv];omega
 ·simp only [if_neg hv];omega
theorem xT(lo hi:Option Int)(n:Nat):Builtin.Slice.sliceAdjust lo hi 1 (n:Int)=(((sIx n 0 lo:Nat):Int),((sIx n n hi:Nat):Int)):=by
 have h1:¬ ((1:Int)<0):=by omega
 unfold Builtin.Slice.sliceAdjust
 simp only [h1,if_false]
 refine Prod.ext ?_ ?_
 ·cases lo with
  | none=>rfl
  | some v=>exact ze v n 0
 ·cases hi with
  | none=>rfl
  | some v=>exact ze v n n
theorem wM(i j:Nat):Builtin.Slice.slicePlaces (i:Int) (j:Int) 1=j - i:=by
 unfold Builtin.Slice.slicePlaces
 have h1:(1:Int)>0:=by omega
 simp only [h1,if_true,Int.ediv_one]
 split<;>omega
theorem pJ{v:Value}{o:Option Int}{Q:Option Int→Shared→Prop}(p:IsPart v o)(h:Q o s):wpAny (model prog w) A (Builtin.Slice.slicePartIndex v) Q E s:=by
 cases p with
 | none=>exact slicePart_none h
 | int i t=>exact slicePart_int h
theorem iW{sl:Addr}{vl vu:Value}{lo hi:Option Int}{n:Nat}{Q:Int×Int×Nat→Shared→Prop}(hs:s.heap.IsSliceOf sl vl vu .none)(pl:IsPart vl lo)(pu:IsPart vu hi)
  (h:Q (((sIx n 0 lo:Nat):Int),1,sIx n n hi - sIx n 0 lo) s):wpAny (model prog w) A (Builtin.Slice.sliceApplied (.ref sl) (pure (n:Int))) Q E s:=by
 obtain ⟨os,hos,hcs,hds⟩:=id hs
 unfold Builtin.Slice.sliceApplied Builtin.Slice.sliceFields
 refine wpAny_bind (wpAny_bind (wpAny_field hos hds (x:=vl) rfl (wpAny_bind (wpAny_field hos hds (x:=vu) rfl (wpAny_bind (wpAny_field hos hds (x:=.none) rfl (wpAny_pure ?_)))))))
 refine wpAny_bind (slicePart_none ?_)
 show wpAny _ _ (if ((1:Int)==0)=true then _ else _) _ _ s
 rw [if_neg (by decide)]
 refine wpAny_bind (pJ pl (wpAny_bind (pJ pu (wpAny_bind (wpAny_pure ?_)))))
 show wpAny _ _ (match Builtin.Slice.sliceAdjust lo hi 1 (n:Int) with | (lo,hi)=>pure (lo,(1:Int),Builtin.Slice.slicePlaces lo hi 1)) _ _ s
 rw [xT lo hi n]
 show wpAny _ _ (pure (((sIx n 0 lo:Nat):Int),(1:Int),Builtin.Slice.slicePlaces ((sIx n 0 lo:Nat):Int) ((sIx n n hi:Nat):Int) 1)) _ _ s
 rw [wM]
 exact wpAny_pure h
theorem BJ(xs:Array Value)(i k:Nat):((List.range k).filterMap fun (m:Nat)=>xs[((i:Int)+(m:Int) * 1).toNat]?).toArray=((xs.toList.drop i).take k).toArray:=by
 have e:(fun (m:Nat)=>xs[((i:Int)+(m:Int) * 1).toNat]?)=fun m=>xs[i+m]? :=by
  funext m
  have:((i:Int)+(m:Int) * 1).toNat=i+m:=by omega
  rw [this]
 rw [e]
 have:=pick_run xs i k
 rw [List.filterMap_map] at this
 have e2:((fun x=>xs[x]?)∘fun x=>i+x)=fun m=>xs[i+m]? :=rfl
 rw [e2] at this
 rw [this]
theorem getItem_tuple_cut{t sl:Addr}{items:Array Value}{vl vu:Value}{lo hi:Option Int}{Q:Value→Shared→Prop}(ht:IsTup s.heap t items)(hs:s.heap.IsSliceOf sl vl vu .none)(pl:IsPart vl lo)(pu:IsPart vu hi)
  (hw:¬ (sIx items.size 0 lo=0∧sIx items.size items.size hi=items.size))
  (h:Q (.ref s.heap.objs.size) { s with heap:=s.heap.push { cls:=.type "tuple",data:=.seq ((items.toList.drop (sIx items.size 0 lo)).take (sIx items.size items.size hi - sIx items.size 0 lo)).toArray } })
  (hsz:items.size≤sizeLine):wpAny (model prog w) A (getItem (.ref t) (.ref sl)) Q E s:=by
 have htake:sizeOk (.seq ((items.toList.drop (sIx items.size 0 lo)).take (sIx items.size items.size hi - sIx items.size 0 lo)).toArray):=by
  show ((items.toList.drop (sIx items.size 0 lo)).take (sIx items.size items.size hi - sIx items.size 0 lo)).toArray.size≤sizeLine
  rw [List.size_toArray,List.length_take,List.length_drop,Array.length_toList]
  omega
 have hj:sIx items.size items.size hi≤items.size:=sIx_le _ _ (Nat.le_refl _) hi
 obtain ⟨os,hos,hcs,hds⟩:=id hs
 have hTs:s.TypeIs (.ref sl) "slice":=⟨os,hos,hcs⟩
 unfold getItem
 try with_reducible refine wpAny_holding ?_
 first | refine wpAny_bind (wpAny_pure ?_) | skip
 refine wpAny_bind (wpAny_sequenceKey ht.typeIs (by decide) ?_)
 refine wpAny_bind (wpAny_callSpecial?_slot (name:=Str.ofString "__getitem__") ht.typeIs PyProof.Rows.slot_tuple_getitem
  (wpAny_call_entry PyProof.Rows.slot_tuple_getitem ht.typeIs entry_tuple_getitem ?_ (args_tuple_getitem _ _)))
 show wpAny _ _ (Builtin.Tuple.tupleItemsOf (.ref t) >>= _) _ _ s
 refine wpAny_bind (tupleItemsOf_ ht ?_)
 refine wpAny_bind (wpAny_typeOf hTs ?_)
 rw [if_pos (by decide)]
 refine wpAny_bind (iW hs pl pu ?_)
 have hno:¬ ((((sIx items.size 0 lo:Nat):Int)==0&&(1:Int)==1&&(sIx items.size items.size hi - sIx items.size 0 lo)==items.size)=true):=by
  intro q
  rw [Bool.and_eq_true,Bool.and_eq_true] at q
  have q1:((sIx items.size 0 lo:Nat):Int)=0:=eq_of_beq q.1.1
  have q2:sIx items.size items.size hi - sIx items.size 0 lo=items.size:=eq_of_beq q.2
  exact hw ⟨by omega,by omega⟩
 show wpAny _ _ (if (((sIx items.size 0 lo:Nat):Int)==0&&(1:Int)==1&&(sIx items.size items.size hi - sIx items.size 0 lo)==items.size)=true then _ else _) _ _ s
 rw [if_neg hno,BJ]
 first
  | exact wpAny_bind (m:=Builtin.Tuple.tupleExact _) (wpAny_newObj_type (wpAny_pure ⟨_,rfl,wpAny_pure h⟩) htake)
  | exact wpAny_bind (m:=Builtin.Tuple.tupleExact _) (wpAny_newObj_type (wpAny_bind (wpAny_pure (wpAny_pure ⟨_,rfl,wpAny_pure h⟩))) htake)
  | exact wpAny_bind (wpAny_bind (m:=Builtin.Tuple.tupleExact _) (wpAny_newObj_type (wpAny_pure (wpAny_pure ⟨_,rfl,wpAny_pure h⟩)) htake))
  | exact wpAny_bind (wpAny_bind (m:=Builtin.Tuple.tupleExact _) (wpAny_newObj_type (wpAny_pure ⟨_,rfl,wpAny_pure h⟩) htake))
theorem getItem_tuple_all{t sl:Addr}{items:Array Value}{vl vu:Value}{lo hi:Option Int}{Q:Value→Shared→Prop}(ht:IsTup s.heap t items)(hs:s.heap.IsSliceOf sl vl vu .none)(pl:IsPart vl lo)(pu:IsPart vu hi)
  (hw:sIx items.size 0 lo=0∧sIx items.size items.size hi=items.size) (h:Q (.ref t) s):wpAny (model prog w) A (getItem (.ref t) (.ref sl)) Q E s:=by
 obtain ⟨os,hos,hcs,hds⟩:=id hs
 have hTs:s.TypeIs (.ref sl) "slice":=⟨os,hos,hcs⟩
 unfold getItem
 try with_reducible refine wpAny_holding ?_
 first | refine wpAny_bind (wpAny_pure ?_) | skip
 refine wpAny_bind (wpAny_sequenceKey ht.typeIs (by decide) ?_)
 refine wpAny_bind (wpAny_callSpecial?_slot (name:=Str.ofString "__getitem__") ht.typeIs PyProof.Rows.slot_tuple_getitem
  (wpAny_call_entry PyProof.Rows.slot_tuple_getitem ht.typeIs entry_tuple_getitem ?_ (args_tuple_getitem _ _)))
 show wpAny _ _ (Builtin.Tuple.tupleItemsOf (.ref t) >>= _) _ _ s
 refine wpAny_bind (tupleItemsOf_ ht ?_)
 refine wpAny_bind (wpAny_typeOf hTs ?_)
 rw [if_pos (by decide)]
 refine wpAny_bind (iW hs pl pu ?_)
 have yes:(((sIx items.size 0 lo:Nat):Int)==0&&(1:Int)==1&&(sIx items.size items.size hi - sIx items.size 0 lo)==items.size)=true:=by
  rw [hw.1,hw.2];simp
 show wpAny _ _ (if (((sIx items.size 0 lo:Nat):Int)==0&&(1:Int)==1&&(sIx items.size items.size hi - sIx items.size 0 lo)==items.size)=true then _ else _) _ _ s
 rw [if_pos yes]
 obtain ⟨⟨ct,dt,da,sl'⟩,hot,hct,n,hdt⟩:=id ht
 cases (show ct=Value.type "tuple" from hct)
 wp_walk using AutoSeq1.wpAny_loadPart' hot
 exact ⟨_,rfl,wpAny_pure h⟩
end
end HT
namespace L2
open PySem PySem.Spec PyProof.Rows
theorem nJ(its:List Value):∀ (k:Nat) (acc:List Value),
  List.foldl (fun x1 x2=>x1++x2) acc.toArray (List.replicate k its.toArray)=(acc++(List.replicate k its).flatten).toArray
 | 0,acc=>by simp
 | k+1,acc=>by
  have e:acc.toArray++its.toArray=(acc++its).toArray:=by simp
  have e2:(acc++its)++(List.replicate k its).flatten=acc++(List.replicate (k+1) its).flatten:=by
   rw [List.replicate_succ,List.flatten_cons,List.append_assoc]
  rw [← e2,← nJ its k (acc++its),← e,List.replicate_succ,List.foldl_cons]
theorem tL{α:Type}(xs:List α)(k:Nat):(List.replicate k xs).flatten.length=k * xs.length:=by
 induction k with
 | zero=>simp
 | succ k ih=>rw [List.replicate_succ,List.flatten_cons,List.length_append,ih,Nat.succ_mul,Nat.add_comm]
theorem BT{n:Nat}(h:n≤sizeLine):Builtin.List.listTooLong n=false:=by
 unfold Builtin.List.listTooLong
 exact decide_eq_false (by omega)
theorem zy:fillsNumberSlot (.type "tuple") "mul"=pure false:=by kernel_rfl
theorem ut:seqRepeat? (.type "tuple")=pure (some (.builtin "tuple.__mul__")):=by kernel_rfl
theorem wA(a:Int)(t:Tok)(l:Addr)(its:Array Value)(n:Nat)(dd:Option Addr)(sl:Array (Option Value)):
  Meets (Builtin.«int.__rmul__» ⟨[.int a t,.ref l],[]⟩) (fun _ R s=>s.heap.get? l=some { cls:=.type "tuple",dict:=dd,data:=.seq its n,slots:=sl }∧R (.ok (.ret Value.notImplemented)) s):=
 .of_wp fun prog w A R s h=>by
  obtain ⟨hp,g,d,tk,os⟩:=s
  obtain ⟨hl,h⟩:=h
  wp_walk
  exact ⟨_,rfl,h⟩
theorem zw(l:Addr)(its:List Value)(n:Nat)(dd:Option Addr)(sl:Array (Option Value))(k:Int)(t:Tok)(h1: -(2 ^ 63)≤k)(h2:k<2 ^ 63)(hz:its.length * k.toNat≤sizeLine):
  Meets (Builtin.«tuple.__mul__» ⟨[.ref l,.int k t],[]⟩) (fun _ R s=>s.heap.get? l=some { cls:=.type "tuple",dict:=dd,data:=.seq its.toArray n,slots:=sl }∧
   ((its= []∨k=1)→R (.ok (.ret (.ref l))) s)∧R (.ok (.ret (.ref s.heap.objs.size))) { s with heap:=s.heap.push { cls:=.type "tuple",data:=.seq (List.replicate k.toNat its).flatten.toArray } }):=
 .of_wp fun prog w A R s h=>by
  obtain ⟨hp,g,d,tk,os⟩:=s
  obtain ⟨hl,q1,q2⟩:=h
  have f1:=AutoSeq1.idx_int
  have f2:=AutoSeq1.sub_tuple_tuple
  have b1:¬ ((decide (k< -(2 ^ 63))||decide (k≥2 ^ 63))=true):=by simp;omega
  unfold Builtin.«tuple.__mul__»
  wp_walk using AutoSeq1.wpAny_loadPart' hl
  rw [if_neg b1]
  wp_walk using AutoSeq1.wpAny_loadPart' hl
  have em:its.toArray.isEmpty=its.isEmpty:=by cases its<;>rfl
  have fr:∀ xs:Array Value,xs.size≤sizeLine→xs=(List.replicate k.toNat its).flatten.toArray→wpAny (model prog w) A.in1 (Builtin.Tuple.tupleExact xs >>= fun v=>ret v) (fun fin s'=>∃ v,fin=Fin.done (Flow.ret v)∧R (Except.ok (Flow.ret v)) s') (fun e s'=>R (Except.error e) s') ⟨hp,g,d,tk,os⟩:=fun xs hx e=>by
   unfold Builtin.Tuple.tupleExact
   subst e
   exact wpAny_bind (wpAny_newObj_type (wpAny_pure ⟨_,rfl,q2⟩) hx)
  by_cases c:(its.toArray.isEmpty||k==1)=true
  ·rw [if_pos c]
   wp_walk using AutoSeq1.wpAny_loadPart' hl
   refine ⟨_,rfl,q1 ?_⟩
   rw [Bool.or_eq_true,em,List.isEmpty_iff,beq_iff_eq] at c
   exact c
  ·rw [if_neg c]
   rw [Bool.or_eq_true,not_or,em,List.isEmpty_iff] at c
   by_cases c2:(decide (k≤0)||its.toArray.isEmpty)=true
   ·rw [if_pos c2]
    rw [Bool.or_eq_true,em,List.isEmpty_iff] at c2
    have k0:k.toNat=0:=by
     rcases c2 with z | z
     ·have:=of_decide_eq_true z;omega
     ·exact absurd z c.1
    exact fr #[] (Nat.zero_le _) (by rw [k0];rfl)
   ·rw [if_neg c2]
    have e2:(its.toArray.size:Int) * k=((its.length * k.toNat:Nat):Int):=by
     have:((k.toNat:Nat):Int)=k:=Int.toNat_of_nonneg (by
      simp only [Bool.or_eq_true,not_or,decide_eq_true_eq] at c2;omega)
     rw [List.size_toArray];push_cast;rw [this]
    have sl8:(sizeLine:Nat)≤(2 ^ 63 - 1) / 8:=by decide
    rw [if_neg (by rw [e2];intro z;have:(its.length * k.toNat:Nat)≤(2 ^ 63 - 1) / 8:=Nat.le_trans hz sl8;omega)]
    rw [if_neg (by rw [e2];unfold Builtin.Tuple.tupleTooMany;intro z;have:=of_decide_eq_true z;have h3:((its.length * k.toNat:Nat):Int)≤(sizeLine:Nat):=Int.ofNat_le.mpr hz;omega)]
    have hf:List.foldl (fun x1 x2=>x1++x2) #[] (List.replicate k.toNat its.toArray)=(List.replicate k.toNat its).flatten.toArray:=by
     have:=nJ its k.toNat []
     rw [List.nil_append] at this
     exact this
    refine fr _ ?_ hf
    rw [hf,List.size_toArray,tL,Nat.mul_comm]
    exact hz
theorem sV(lo hi:Option Int)(n:Nat):(sliceBounds lo hi none n).1=((HT.sIx n 0 lo:Nat):Int)∧(sliceBounds lo hi none n).2.1=((HT.sIx n n hi:Nat):Int)∧(sliceBounds lo hi none n).2.2=1:=by
 refine ⟨?_,?_,rfl⟩
 ·cases lo with
  | none=>simp [sliceBounds,HT.sIx]
  | some i=>
   simp only [sliceBounds,HT.sIx,Option.getD_none,show (1:Int)>0 by decide,if_true]
   by_cases h:i<0
   ·simp only [h,if_true]<;>omega
   ·simp only [h,if_false]<;>omega
 ·cases hi with
  | none=>simp [sliceBounds,HT.sIx]
  | some i=>
   simp only [sliceBounds,HT.sIx,Option.getD_none,show (1:Int)>0 by decide,if_true]
   by_cases h:i<0
   ·simp only [h,if_true]<;>omega
   ·simp only [h,if_false]<;>omega
theorem qS(its:List Value)(lo hi:Option Int):slicePick its.toArray lo hi none=((its.drop (HT.sIx its.length 0 lo)).take (HT.sIx its.length its.length hi - HT.sIx its.length 0 lo)).toArray:=by
 obtain ⟨h1,h2,h3⟩:=sV lo hi its.toArray.size
 unfold slicePick
 rw [h1,h2,h3]
 simp only [sliceRange_one,pick_run,List.size_toArray]<;>rfl
end L2
namespace L3
open PySem PySem.Spec PyProof.Rows
def BN(p q:PV)(h:List PO):Res PV:=match p,q with
 | .int i,.int j=>.ok (.int (i+j)) h
 | .int i,.bl b=>.ok (.int (i+b2i b)) h
 | .str a,.str b=>if a.length+b.length≤sizeLine then .ok (.str (a++b)) h else .bad
 | .tup a,.tup b=>if a.isEmpty=false∧a.length+b.length≤sizeLine then .ok (.tup (a++b)) h else .bad
 | p,q=>match lsM h p,lsM h q with
  | some a,some b=>if a.length+b.length≤sizeLine then .ok (.lst (a++b)) h else .bad
  | _,_=>.bad
def aO(p q:PV)(h:List PO):Res PV:=match p,q with
 | .tup [],.tup b=>.ok (.tup b) h
 | p,q=>BN p q h
def pI(C:Int→Int→Bool)(g:Int→Int→Int)(p q:PV)(h:List PO):Res PV:=match p,q with
 | .int i,.int j=>if C i j=true then .ok (.int (g i j)) h else .bad
 | _,_=>.bad
def mG(p q:PV)(h:List PO):Res PV:=match p,q with
 | .int i,.int j=>.ok (.int (i - j)) h
 | _,_=>.bad
abbrev bO:=pI (fun _ j=>decide (0<j)) (fun i j=>i % j)
abbrev cS:=pI (fun _ j=>decide (0<j∧j<1073741824)) (fun i j=>i / j)
abbrev wR:=pI (fun i j=>decide (0≤j∧j≤1000000∧i.natAbs<2 ^ 64)) (fun i j=>i ^ j.toNat)
def bel(n:Nat)(i:Int):Bool:=Nat.blt i.natAbs n
def Lz(i j:Int):Bool:=decide (Builtin.Int.intBits i+Builtin.Int.intBits j≤134217728)
def gV(i j:Int):Bool:=bel 18446744073709551616 i||(bel 18446744073709551616 j||Lz i j)
def ol{α:Type}(xs:List α)(k:Int):List α:=(List.replicate k.toNat xs).flatten
def eF(p q:PV)(h:List PO):Res PV:=match p,q with
 | .int i,.int j=>if gV i j=true then .ok (.int (i * j)) h else .bad
 | .str a,.int k=>if bel 1048576 k=true∧a.length * k.toNat≤1048576 then .ok (.str (ol a k)) h else .bad
 | p,.int k=>match lsM h p with
  | some xs=>if bel 9223372036854775808 k=true∧xs.length * k.toNat≤sizeLine then .ok (.lst (ol xs k)) h else .bad
  | _=>.bad
 | _,_=>.bad
def rJ(p q:PV)(h:List PO):Res PV:=match p,q with
 | .tup xs,.int k=>if bel 9223372036854775808 k=true∧xs.length * k.toNat≤sizeLine then .ok (.tup (ol xs k)) h else .bad
 | p,q=>eF p q h
def zY(p:PV)(h:List PO):Res PV:=match p with
 | .int i=>.ok (.int (-i)) h
 | _=>.bad
theorem bV{n:Nat}{i:Int}:bel n i=true↔ -(n:Int)<i∧i<(n:Int):=by
 unfold bel
 rw [Nat.blt_eq]
 omega
theorem Dl(a b:List Nat):S a++S b=S (a++b):=by
 show (⟨(S a).cps++(S b).cps⟩:Str)=_
 simp [S]
end L3
namespace Z
open PySem PySem.Spec PyProof.Rows L3 L2
section
variable {X:Cx} {a b:Expr} {fa fb:Ex} {pos:Pos}
theorem JH:Op2 X (binaryOp .Add) aO:=fun {w h p q u v Q E} I rp rq k=>by
 unfold aO at k
 split at k
 ·obtain ⟨a,its,rfl,⟨n,e⟩,z,r⟩:=I.sq (ps:= []) rp rfl
  obtain ⟨b,its',rfl,⟨n',e'⟩,_⟩:=I.sq rq rfl
  exact concat_meets ⟨_,e,rfl⟩ ⟨_,e',rfl⟩ noFill_tuple_add seq_tuple_add F.slot_tuple_add F.entry_tuple_add (F.args_tuple_add_2 _ _) (tuple_addW0 a b _ _ n n' _ _ _ _ (by have:=r.len;simpa using this.symm)) ⟨e,e',k.here I.toHR rq⟩
 ·unfold BN at k
  split at k
  ·cases rp;cases rq;exact add_int (k.now I.toHR (.int _ _))
  ·cases rp;cases rq;exact add_int_bool (k.now I.toHR (.int _ _))
  ·split at k
   ·cases rp;cases rq;exact add_str (fun _ _=>by rw [Dl];exact k.now I.toHR (.str _ _)) (by rw [gI,gI];assumption)
   ·exact k.elim
  ·split at k
   ·rename_i xs ys _ c
    obtain ⟨a,its,rfl,x,z,r⟩:=I.sq rp rfl
    obtain ⟨b,its',rfl,y,_,r'⟩:=I.sq rq rfl
    have l:=r.len;have l':=r'.len
    refine HT.cat_tup (vs:=its.toList) (ws:=its'.toList) x.tup y.tup (fun z=>?_) (fun z=>?_) (fun z=>?_) (by simp;omega)
    ·obtain rfl:xs= []:=(by simp at z;simpa [z] using l)
     cases c.1
    ·obtain rfl:ys= []:=(by simp at z;simpa [z] using l')
     rw [List.append_nil] at k;exact k.here I.toHR rp
    ·exact k.seq I.toHR rfl (by simpa using r.app r') (by simp;omega)
   ·exact k.elim
  ·split at k
   ·rename_i xs ys e1 e2
    split at k
    ·obtain ⟨a,its,rfl,⟨_,x⟩,z,r⟩:=I.sq rp (nH e1)
     obtain ⟨b,its',rfl,⟨_,y⟩,_,r'⟩:=I.sq rq (nH e2)
     have l:=r.len;have l':=r'.len
     exact PySem.P.add_list x y (k.seq I.toHR rfl (by simpa using r.app r') (by simp;omega)) (by omega)
    ·exact k.elim
   ·exact k.elim
theorem o_I{op:Operator}{C:Int→Int→Bool}{g:Int→Int→Int}(o:∀ {i j t t' s Q} {E:Value→Shared→Prop},C i j=true→Q (.int (g i j) s.toks) { s with toks:=s.toks+1 }→Wp X (binaryOp op (.int i t) (.int j t')) Q E s):Op2 X (binaryOp op) (pI C g):=fun I rp rq k=>by
 unfold pI at k
 split at k
 ·cases rp;cases rq
  split at k
  ·exact o ‹_› (k.now I.toHR (.int _ _))
  ·exact k.elim
 ·exact k.elim
theorem aJ(ha:RE X a fa)(hb:RE X b fb):RE X (.BinOp a .Add b pos) (c2 aO fa fb):=qb JH ha hb
theorem ia(ha:RE X a fa)(hb:RE X b fb):RE X (.BinOp a .Sub b pos) (c2 mG fa fb):=qb (fun I rp rq k=>by
 unfold mG at k
 split at k
 ·cases rp;cases rq;exact sub_int (k.now I.toHR (.int _ _))
 ·exact k.elim) ha hb
theorem aL(ha:RE X a fa)(hb:RE X b fb):RE X (.BinOp a .Mod b pos) (c2 bO fa fb):=qb (o_I fun {i j t t' s Q E} c q=>by
 have c:=of_decide_eq_true c
 exact mod_int' (by omega) (by rw [Int.fmod_eq_emod_of_nonneg i (by omega)];exact q)) ha hb
theorem aS(ha:RE X a fa)(hb:RE X b fb):RE X (.BinOp a .FloorDiv b pos) (c2 cS fa fb):=qb (o_I fun {i j t t' s Q E} c q=>by
 have c:=of_decide_eq_true c
 exact floordiv_int (by omega) (by rw [Int.fdiv_eq_ediv_of_nonneg i (by omega)];exact q) (.inl (PyProof.noPylong_small (by omega)))) ha hb
theorem qa(ha:RE X a fa)(hb:RE X b fb):RE X (.BinOp a .Pow b pos) (c2 wR fa fb):=qb (o_I fun c q=>have c:=of_decide_eq_true c;pow_int_small c.1 c.2.1 c.2.2 q) ha hb
theorem wE(ha:RE X a fa):RE X (.UnaryOp .USub a pos) (c1 zY fa):=Jx (fun I rp k=>by
 unfold zY at k
 split at k
 ·cases rp;exact neg_int (k.now I.toHR (.int _ _))
 ·exact k.elim) ha
theorem CE(l:Array Value)(k:Nat):List.foldl (fun x1 x2=>x1++x2) #[] (List.replicate k l)=(List.replicate k l.toList).flatten.toArray:=by
 have:=nJ l.toList k []
 simpa using this
theorem Lh(a:List Nat)(k:Int):Txt.mul (S a) k=S (ol a k):=by
 unfold Txt.mul ol
 have f:∀ (k:Nat) (acc:List Nat),(List.replicate k a.toArray).foldl (· ++ ·) acc.toArray=(acc++(List.replicate k a).flatten).toArray:=fun k=>by
  induction k with
  | zero=>simp
  | succ k ih=>intro acc;rw [List.replicate_succ,List.foldl_cons,List.replicate_succ,List.flatten_cons,← List.append_assoc,← ih (acc++a)];congr 1;simp
 split
 ·rw [show k.toNat=0 by omega];rfl
 ·split
  ·rename_i h1 h2
   rcases Bool.or_eq_true _ _▸h2 with z | z
   ·obtain rfl:k=1:=by simpa using z
    simp
   ·obtain rfl:a= []:=by rw [gI] at z;simpa using z
    simp
  ·show (⟨_⟩:Str)=⟨_⟩
   congr 1
   exact (f k.toNat []).trans (by simp)
theorem Ga:Op2 X (binaryOp .Mult) rJ:=fun {w h p q u v Q E} I rp rq k=>by
 unfold rJ at k
 split at k
 ·split at k
  ·rename_i xs n hz
   have hk:=bV.mp hz.1
   cases rq
   obtain ⟨l,its,rfl,⟨_,e⟩,z,r⟩:=I.sq rp rfl
   have ln:=r.len
   refine wpAny_binaryOp_repeat_ref (T:="tuple") (U:="int") (by decide) ⟨_,e,rfl⟩ (fun s'=>typeIs_int s' _ _) zy F.fills_int_mul F.slot_int_rmul ut F.slot_int_index.lookup
    (call_meets F.slot_int_rmul (typeIs_int w.s _ _) F.entry_int_rmul (F.args_int_rmul_2 _ _) (wA _ _ l its _ _ _) ⟨e,rfl,⟨_,e,rfl⟩,call_meets F.slot_tuple_mul ⟨_,e,rfl⟩ F.entry_tuple_mul (F.args_tuple_mul_2 _ _) (zw l its.toList _ _ _ _ _ (by omega) (by omega) (by simp;rw [← ln];exact hz.2)) ⟨e,fun c=>?_,k.seq I.toHR rfl (r.rep _) (by rw [List.size_toArray,tL,← r.length,Nat.mul_comm];exact hz.2)⟩⟩)
   rw [show ol xs n=xs by
    rcases c with c | rfl
    ·obtain rfl:xs= []:=by simp at c;simpa [c] using ln
     simp [ol]
    ·simp [ol]] at k
   exact k.here I.toHR rp
  ·exact k.elim
 ·unfold eF at k
  split at k
  ·cases rp;cases rq
   split at k
   ·rename_i hc
    unfold gV at hc
    rw [Bool.or_eq_true,Bool.or_eq_true,bV,bV] at hc
    exact mul_int (k.now I.toHR (.int _ _)) (by
     rcases hc with c | c | c
     ·exact .of_left (intBits_le_64 c.1 c.2)
     ·exact .of_right (intBits_le_64 c.1 c.2)
     ·exact IntMulOk.of_le (Nat.le_refl _) (Nat.le_refl _) (of_decide_eq_true c))
   ·exact k.elim
  ·rename_i a n _
   cases rp;cases rq
   split at k
   ·rename_i hc
    obtain ⟨h1,h2⟩:=bV.mp hc.1
    have h3:=hc.2
    refine SB.mul ⟨by simp;omega,fun g1 g2=>?_,fun g1 g2=>?_⟩ fun _ _=>by rw [Lh];exact k.now I.toHR (.str _ _)
    ·have:a.length * 1≤a.length * n.toNat:=Nat.mul_le_mul_left _ (by omega)
     have:(2:Int) ^ 20≤(2 ^ 63 - 1) / n:=by
      rw [Int.le_ediv_iff_mul_le (by omega)]
      have:(2:Int) ^ 20 * n≤2 ^ 20 * 2 ^ 20:=Int.mul_le_mul_of_nonneg_left (by omega) (by decide)
      omega
     rw [gI];omega
    ·rw [gI]
     have:(2:Nat) ^ 20≤sizeLine:=by decide
     simp [Builtin.Str.tooLong];omega
   ·exact k.elim
  ·rename_i n _ _ _
   cases rq
   split at k
   ·rename_i xs e'
    split at k
    ·rename_i hz
     have hk:=bV.mp hz.1
     obtain ⟨l,its,rfl,⟨_,e⟩,z,r⟩:=I.sq rp (nH e')
     have ln:=r.len
     have hl:=hz.2
     rw [ln] at hl
     have:(sizeLine:Nat)≤(2 ^ 63 - 1) / 8:=by decide
     refine wpAny_binaryOp_repeat_ref (T:="list") (U:="int") (by decide) ⟨_,e,rfl⟩ (fun s'=>typeIs_int s' _ _) noFill_list_mul F.fills_int_mul F.slot_int_rmul repeat_list F.slot_int_index.lookup
      (call_meets F.slot_int_rmul (typeIs_int w.s _ _) F.entry_int_rmul (F.args_int_rmul_2 _ _) (int___rmul___int_list _ _ l its _) ⟨e,rfl,⟨_,e,rfl⟩,call_meets F.slot_list_mul ⟨_,e,rfl⟩ F.entry_list_mul (F.args_list_mul_2 _ _) (AutoListH.list___mul___list_int_3 l its _ n _ (by rw [fitsIndex_both (by omega) (by omega)];exact Bool.false_ne_true) (by omega) (by rw [BT hl];exact Bool.false_ne_true)) ⟨e,?_⟩⟩)
     rw [CE,show (List.replicate (if its.isEmpty=true then 0 else n.toNat) its.toList).flatten=(List.replicate n.toNat its.toList).flatten by split<;>simp_all]
     exact k.seq I.toHR rfl (r.rep _) (by rw [List.size_toArray,tL,← r.length,Nat.mul_comm];exact hz.2)
    ·exact k.elim
   ·exact k.elim
  ·exact k.elim
end
end Z
namespace L3
open PySem PySem.Spec PyProof.Rows
mutual
def toD:PV→PyData
 | .non=>.none
 | .bl b=>.bool b
 | .int i=>.int i
 | .str l=>.str (S l)
 | .tup xs=>.tuple (iV xs)
 | .lst xs=>.list (iV xs)
 | .giv xs=>.list (iV xs)
 | _=>.dict []
def iV:List PV→List PyData
 | []=> []
 | x::r=>toD x::iV r
end
def dOf(h:List PO):PV→PyData
 | .ref i=>match h[i]? with
  | some (.lst xs)=>.list (iV xs)
  | _=>.dict []
 | p=>toD p
def okD(h:List PO)(p:PV):Bool:=(dOf h p).canLay0&&decide ((dOf h p).depth≤60)
def pEq(p q:PV)(h:List PO):Res PV:=if okD h p=true∧okD h q=true then .ok (.bl (PyData.eqv (dOf h p) (dOf h q))) h else .bad
def pNe(p q:PV)(h:List PO):Res PV:=if okD h p=true∧okD h q=true then .ok (.bl (!PyData.eqv (dOf h p) (dOf h q))) h else .bad
def zZ(g:Int→Int→Bool)(p q:PV)(h:List PO):Res PV:=match p,q with
 | .int i,.int j=>.ok (.bl (g i j)) h
 | _,_=>.bad
abbrev pLt:=zZ fun i j=>decide (i<j)
abbrev pLe:=zZ fun i j=>decide (i≤j)
abbrev pGt:=zZ fun i j=>decide (j<i)
def rZ:PV→Bool
 | .non=>true
 | _=>false
def pIs(p q:PV)(h:List PO):Res PV:=match q with
 | .non=>.ok (.bl (rZ p)) h
 | _=>.bad
def ltL(h:List PO)(p q:PV):Bool:=match lsM h p,lsM h q with
 | some xs,some ys=>decide (xs.length≠ys.length)
 | _,_=>false
def tI(p q:PV)(h:List PO):Res PV:=if ltL h p q=true then .ok (.bl false) h else pEq p q h
def oz(p q:PV)(h:List PO):Res PV:=match p with
 | .dct _=>(match q with
  | .str _=>.ok (.bl false) h
  | _=>.bad)
 | p=>pEq p q h
def ud(g g':PV→PV→List PO→Res PV)(a b c:Ex):Ex:=fun ρ h=>(a ρ h).bind fun x h1=>(b ρ h1).bind fun y h2=>(g x y h2).bind fun z h3=>match z with
 | .bl false=>.ok (.bl false) h3
 | .bl true=>(c ρ h3).bind fun u h4=>g' y u h4
 | _=>.bad
def aW(f:Ex):Tx:=fun ρ h=>(f ρ h).bind fun p h1=>match p with
 | .bl b=>.ok b h1
 | _=>.bad
def eY(f:Tx):Tx:=fun ρ h=>(f ρ h).bind fun b h1=>.ok (!b) h1
def pA(f g:Tx):Tx:=fun ρ h=>(f ρ h).bind fun b h1=>if b=true then g ρ h1 else .ok false h1
def wo(f g:Tx):Tx:=fun ρ h=>(f ρ h).bind fun b h1=>if b=true then .ok true h1 else g ρ h1
def nP(f g:Ex):Ex:=fun ρ h=>(f ρ h).bind fun p h1=>match p with
 | .bl b=>if b=true then g ρ h1 else .ok (.bl false) h1
 | _=>.bad
def IS(f:Ex):Ex:=fun ρ h=>(f ρ h).bind fun p h1=>match p with
 | .bl b=>.ok (.bl (!b)) h1
 | _=>.bad
def vX(t:Tx)(f g:Ex):Ex:=fun ρ h=>(t ρ h).bind fun b h1=>if b=true then f ρ h1 else g ρ h1
def dcM(h:List PO):PV→Option (List (PK×PV))
 | .ref i=>match h[i]? with
  | some (.dct kvs)=>some kvs
  | _=>none
 | _=>none
def sS(h:List PO):PV→Option Bool
 | .non=>some false
 | .bl b=>some b
 | .int i=>some (i !=0)
 | .str l=>if l.length≤sizeLine then some (!l.isEmpty) else none
 | p=>match sqR h p with
  | some xs=>some (!xs.isEmpty)
  | none=>match dcM h p with
   | some kvs=>some (!kvs.isEmpty)
   | none=>none
def cO(f:Ex):Tx:=fun ρ h=>(f ρ h).bind fun p h1=>match sS h1 p with
 | some b=>.ok b h1
 | none=>.bad
end L3
namespace Z
open PySem PySem.Spec PyProof.Rows L3
theorem bH.imp{α β:Type}{X:Cx}{R:Wo→α→β→Prop}{w:Wo}{Q Q':β→Shared→Prop}{E:Value→Shared→Prop}{r:Res α}(p:bH X R w Q E r)(k:∀ x s,Q x s→Q' x s):bH X R w Q' E r:=match r with
 | .ok _ _=>⟨p.1,fun w' x y q=>k _ _ (p.2 w' x y q)⟩
 | .exc _ _=>p
 | .bad=>p
section
variable {G:SC} {w:Wo} {h:List PO}
mutual
theorem aX.reads(H:HR G w h):∀ {p:PV} {u:Value},aX G w.F w.m p u→(toD p).canLay0=true→∃ as,Reads w.s.heap u (toD p) as
 | _,_,.non,_=>by simp only [toD];exact ⟨_,.none⟩
 | _,_,.bl b,_=>by simp only [toD];exact ⟨_,.bool b⟩
 | _,_,.int i t,_=>by simp only [toD];exact ⟨_,.int i t⟩
 | _,_,.str x t,_=>by simp only [toD];exact ⟨_,.str _ t⟩
 | _,_,.tup e _ r,c=>by
  simp only [toD,PyData.canLay0] at c ⊢
  obtain ⟨as,q⟩:=av.reads H r c
  exact ⟨_,.tuple (H.at e) rfl rfl q⟩
 | _,_,.lst e _ r,c=>by
  simp only [toD,PyData.canLay0] at c ⊢
  obtain ⟨as,q⟩:=av.reads H r c
  exact ⟨_,.list (H.at e) rfl rfl q⟩
 | _,_,.giv e _ r,c=>by
  simp only [toD,PyData.canLay0] at c ⊢
  obtain ⟨as,q⟩:=av.reads H r c
  exact ⟨_,.list (H.at e) rfl rfl q⟩
 | _,_,.ty _,c=>by simp [toD,PyData.canLay0] at c
 | _,_,.cls _,c=>by simp [toD,PyData.canLay0] at c
 | _,_,.dct _ _ _ _ _ _,c=>by simp [toD,PyData.canLay0] at c
 | _,_,.ins _ _ _ _,c=>by simp [toD,PyData.canLay0] at c
 | _,_,.ref _,c=>by simp [toD,PyData.canLay0] at c
 | _,_,.exc _ _ _ _,c=>by simp [toD,PyData.canLay0] at c
 | _,_,.exa _ _ _ _ _ _ _ _ _,c=>by simp [toD,PyData.canLay0] at c
theorem av.reads(H:HR G w h):∀ {p:List PV} {u:List Value},av G w.F w.m p u→PyData.canLayAll0 (iV p)=true→∃ as,ReadsAll w.s.heap u (iV p) as
 | _,_,.nil,_=>by simp only [iV];exact ⟨_,.nil⟩
 | _,_,.cons r t,c=>by
  simp only [iV,PyData.canLayAll0,Bool.and_eq_true] at c ⊢
  obtain ⟨as,q⟩:=aX.reads H r c.1
  obtain ⟨bs,q'⟩:=av.reads H t c.2
  exact ⟨_,.cons q q'⟩
end
theorem HR.reads(H:HR G w h){p:PV}{u:Value}(r:aX G w.F w.m p u)(c:(dOf h p).canLay0=true):∃ as,Reads w.s.heap u (dOf h p) as:=by
 unfold dOf at c ⊢
 split
 ·split
  ·rename_i q
   cases r with
   | ref e=>
    obtain ⟨_,its,n,e,_,r⟩:=H.obj _ _ _ q e
    simp only [q,PyData.canLay0] at c
    obtain ⟨as,q⟩:=r.reads H c
    exact ⟨_,.list e rfl rfl q⟩
  ·rename_i q;revert c;dsimp only;split
   ·rename_i q';exact absurd q' (q _)
   ·simp [PyData.canLay0]
 ·rename_i q
  have e:dOf h p=toD p:=by unfold dOf;split;exact absurd rfl (q _);rfl
  exact r.reads H (by rw [← e];exact c)
end
section
variable {X:Cx} {w:Wo} {ρ:Ev} {h:List PO} {a b c:Expr} {fa fb fc:Ex} {ta tb:Tx} {pos:Pos} {rest:List Expr}
theorem bP(b:Expr){op:CmpOp}(h:op≠.In:=by decide)(h2:op≠.NotIn:=by decide):behindInMarks op b=false:=by
 have e1:(op==CmpOp.In)=false:=by cases op<;>first | rfl | exact absurd rfl h
 have e2:(op==CmpOp.NotIn)=false:=by cases op<;>first | rfl | exact absurd rfl h2
 cases b<;>simp [behindInMarks,e1,e2]
theorem Em(hu:X.A.units+64<cLine):Op2 X (compareOp .Eq) pEq:=fun {w h p q u v Q E} I rp rq k=>by
 unfold pEq okD at k
 split at k
 ·rename_i c
  simp only [Bool.and_eq_true,decide_eq_true_eq] at c
  obtain ⟨as,ra⟩:=I.reads rp c.1.1
  obtain ⟨bs,rb⟩:=I.reads rq c.2.1
  exact SeqAt.compareEq_reads ra rb c.1.1 c.2.1 (by have:=Nat.min_le_left (dOf h p).depth (dOf h q).depth;omega) (k.here I.toHR (.bl _))
 ·exact k.elim
theorem BP(hu:X.A.units+64<cLine):Op2 X (compareOp .NotEq) pNe:=fun {w h p q u v Q E} I rp rq k=>by
 unfold pNe okD at k
 split at k
 ·rename_i c
  simp only [Bool.and_eq_true,decide_eq_true_eq] at c
  obtain ⟨as,ra⟩:=I.reads rp c.1.1
  obtain ⟨bs,rb⟩:=I.reads rq c.2.1
  exact SeqAt.compareNe_reads ra rb c.1.1 c.2.1 (by have:=Nat.min_le_left (dOf h p).depth (dOf h q).depth;omega) (k.here I.toHR (.bl _))
 ·exact k.elim
theorem Hi{op:CmpOp}{g:Int→Int→Bool}(o:∀ {i j t t' s Q} {E:Value→Shared→Prop},Q (.bool (g i j)) s→Wp X (compareOp op (.int i t) (.int j t')) Q E s):Op2 X (compareOp op) (zZ g):=fun I rp rq k=>by
 unfold zZ at k
 split at k
 ·cases rp;cases rq;exact o (k.here I.toHR (.bl _))
 ·exact k.elim
theorem Ac:Op2 X (compareOp .Lt) pLt:=Hi lt_int
theorem El:Op2 X (compareOp .LtE) pLe:=Hi le_int
theorem uT:Op2 X (compareOp .Gt) pGt:=Hi gt_int
theorem Ay{G:SC}{F:Fz}{m:List Addr}{p:PV}{u:Value}(r:aX G F m p u):(u==Value.none)=rZ p:=by cases r<;>rfl
theorem JE:Op2 X (compareOp .Is) pIs:=fun I rp rq k=>by
 unfold pIs at k
 split at k
 ·cases rq;exact is_none_gen (Ay rp▸k.here I.toHR (.bl _))
 ·exact k.elim
theorem bS{op:CmpOp}{g:PV→PV→List PO→Res PV}(o:Op2 X (compareOp op) g)(hm:behindInMarks op b=false)(ha:RE X a fa)(hb:RE X b fb):RT X (.Compare a [op] [b] pos) (aW (c2 g fa fb)) where
 r I p:=wpAny_isTrue_Compare1 (two o ha hb I (p.bind fun _ _ q _ y r p=>by
  cases r with
  | bl=>exact wpAny_truthy_bool (p.here y.2 rfl)
  | _=>exact p.elim)) hm
structure RW(X:Cx)(e:Expr)(f:Tx):Prop where
 r:∀ {whole:Sem Value} {w:Wo} {ρ:Ev} {h:List PO} {Q:Bool→Shared→Prop} {E:Value→Shared→Prop},Inv X w ρ h→bH X (fun _ a b=>a=b) w Q E (f ρ h)→Wp X (isTrue e X.env whole) Q E w.s
theorem RW.rt{f:Tx}(h:RW X a f):RT X a f:=⟨h.r⟩
theorem cZ(ha:RT X a ta):RT X (.UnaryOp .Not a pos) (eY ta):=⟨fun I p=>isTrue_not (ha.r I (p.bind fun _ _ _ _ y r p=>p.here y.2 (r▸rfl)))⟩
theorem ml(ha:RT X a ta):RW X (.BoolOp .And [a] pos) ta:=⟨fun {_ _ _ _ Q _} I p=>isTrue_and (ha.r I (bH.imp p fun b s q=>by cases b;exact q;exact isTrue_and_nil q))⟩
theorem pW(ha:RT X a ta):RW X (.BoolOp .Or [a] pos) ta:=⟨fun {_ _ _ _ Q _} I p=>isTrue_or (ha.r I (bH.imp p fun b s q=>by cases b;exact isTrue_or_nil q;exact q))⟩
theorem pX(ha:RT X a ta)(hb:RW X (.BoolOp .And (b::rest) pos) tb):RW X (.BoolOp .And (a::b::rest) pos) (pA ta tb):=⟨fun I p=>isTrue_and (ha.r I (p.bind fun _ _ c _ y r p=>by
 subst r
 cases c
 ·exact p.here y.2 rfl
 ·exact hb.r (I.on y) p))⟩
theorem uy(ha:RT X a ta)(hb:RW X (.BoolOp .Or (b::rest) pos) tb):RW X (.BoolOp .Or (a::b::rest) pos) (wo ta tb):=⟨fun I p=>isTrue_or (ha.r I (p.bind fun _ _ c _ y r p=>by
 subst r
 cases c
 ·exact hb.r (I.on y) p
 ·exact p.here y.2 rfl))⟩
theorem lJ{op}(ha:RE X a fa):RE X (.BoolOp op [a] pos) fa:=⟨fun I p=>BoolOp_one (ha.r I p)⟩
theorem ii(ha:RE X a fa)(hb:RE X (.BoolOp .And (b::rest) pos) fb):RE X (.BoolOp .And (a::b::rest) pos) (nP fa fb):=⟨fun I p=>BoolOp_and (ha.r I (p.bind fun _ _ c _ y r p=>by
 cases r with
 | bl c=>exact wpAny_truthy_bool (by cases c;exact p.here y.2 (.bl _);exact hb.r (I.on y) p)
 | _=>exact p.elim))⟩
theorem Hc(ha:RE X a fa):RE X (.UnaryOp .Not a pos) (IS fa):=⟨fun I p=>UnaryOp_ (ha.r I (p.bind fun _ _ c _ y r p=>by
 cases r with
 | bl c=>exact not_of (wpAny_truthy_bool (p.here y.2 (.bl _)))
 | _=>exact p.elim))⟩
theorem jQ(hc:RT X c ta)(ha:RE X a fa)(hb:RE X b fb):RE X (.IfExp c a b pos) (vX ta fa fb):=⟨fun I p=>wpAny_IfExp (hc.r I (p.bind fun _ _ c _ y r p=>by
 subst r
 cases c
 ·exact hb.r (I.on y) p
 ·exact ha.r (I.on y) p))⟩
end
end Z
namespace L3
open PySem
def cu(ps:List PV)(h:List PO):Res PV:=if ps.length≤sizeLine then .ok (.lst ps) h else .bad
def qn(ps:List PV)(h:List PO):Res PV:=if ps.length≤sizeLine then .ok (.ref h.length) (h++ [.lst ps]) else .bad
def aN(ps:List PV)(h:List PO):Res PV:=if ps.length≤sizeLine then .ok (.tup ps) h else .bad
end L3
namespace Z
open PySem PySem.Spec PyProof.Rows L3
theorem DO.of{G:SC}{o:Obj}{kvs:List (PK×Value)}{g:Heap}{a:Addr}(d:DO G o kvs)(e:g.get? a=some o):g.DictOf (pk G.prog G.w) a kvs:=let ⟨x,es,ep,y,z⟩:=d;⟨o,es,ep,e,x,y,z⟩
section
variable {G:SC} {w:Wo} {h:List PO} {p:PV} {u:Value} {kps:List (PK×PV)}
def IY(G:SC)(w:Wo)(kps:List (PK×PV))(kvs:List (PK×Value)):Prop:=kvs.length≤sizeLine∧kvs.map (·.1)=kps.map (·.1)∧av G w.F w.m (kps.map (·.2)) (kvs.map (·.2))
theorem HR.dc(H:HR G w h)(r:aX G w.F w.m p u)(k:dcR h p=some kps):∃ a kvs,u= .ref a∧(a==sysModules)=false∧w.s.heap.DictOf (pk G.prog G.w) a kvs∧IY G w kps kvs:=by
 unfold dcR at k
 split at k
 ·cases k
  cases r with
  | dct e d y z c r=>exact ⟨_,_,rfl,y,d.of (H.at e),z,c,r⟩
 ·split at k
  ·rename_i q
   cases k
   cases r with
   | ref e=>obtain ⟨_,o,kvs,e,d,y,z⟩:=H.obj _ _ _ q e;exact ⟨_,kvs,rfl,y,d.of e,z⟩
  ·cases k
 ·cases k
theorem av.sz{F:Fz}{m:List Addr}{ps:List PV}{us:List Value}(r:av G F m ps us)(z:ps.length≤sizeLine):us.toArray.size≤sizeLine:=Nat.le_trans (Nat.le_of_eq r.length.symm) z
theorem IY.len{kvs:List (PK×Value)}(r:IY G w kps kvs):kvs.length=kps.length:=by have:=congrArg List.length r.2.1;simpa using this
theorem KV(k:dcM h p=some kps):dcR h p=some kps:=by
 unfold dcM at k
 split at k
 ·exact k
 ·cases k
end
section
variable {X:Cx} {w:Wo} {ρ:Ev} {h:List PO} {a b e:Expr} {es:List Expr} {fa fb:Ex} {f:Ax} {pos p0:Pos} {x:Str} {id:String} {g:List PV→List PO→Res PV}
theorem Wd.tru(I:Wd X w h){p:PV}{u:Value}{c:Bool}{Q:Bool→Shared→Prop}{E:Value→Shared→Prop}(r:aX X.toSC w.F w.m p u)(k:sS h p=some c)(q:bH X (fun _ a b=>a=b) w Q E (.ok c h)):Wp X (truthy u) Q E w.s:=by
 have l:sizeLine=16777216:=sizeLine_eq
 unfold sS at k
 split at k
 ·cases k;cases r;exact truthy_none (q.here I.toHR rfl)
 ·cases k;cases r;exact wpAny_truthy_bool (q.here I.toHR rfl)
 ·cases k;cases r;exact PySem.P.truthy_int (q.here I.toHR rfl)
 ·cases r
  split at k
  ·cases k
   exact PySem.P.truthy_str (by rw [gI];omega) (q.now I.toHR (by rw [gI];cases ‹List Nat›;rfl;symm;simp;omega))
  ·cases k
 ·split at k
  ·rename_i e
   cases k
   obtain ⟨t,e,ht⟩:=wt e
   obtain ⟨a,its,rfl,y,z,r⟩:=I.sq r e
   have n:its.isEmpty=(‹List PV›).isEmpty:=by
    have:=r.len
    cases its;rename_i l;cases l<;>cases ‹List PV› <;>simp_all
   rcases ht with rfl | rfl
   ·exact truthy_tuple y.tup (by omega) (q.now I.toHR (by rw [n]))
   ·exact wpAny_truthy_list y.pl.isList (by omega) (q.now I.toHR (by rw [n]))
  ·split at k
   ·rename_i e
    cases k
    obtain ⟨a,kvs,rfl,y,d,r⟩:=I.dc r (KV e)
    exact wpAny_truthy_dict y d (by have:=r.1;omega) (q.now I.toHR (by have:=r.len;cases kvs<;>cases ‹List (PK×PV)› <;>simp_all))
   ·cases k
theorem bZ(ha:RE X a fa)(he:∀ whole,isTrue a X.env whole=(do let v ← whole;standAt a.pos;holding [v] (truthy v)):=by intro _;rfl):RT X a (cO fa):=⟨fun I p=>isTrue_plain (ha.r I (p.bind fun _ h1 q _ y r p=>by
 cases e:sS h1 q with
 | none=>rw [e] at p;exact p.elim
 | some b=>rw [e] at p;exact (I.on y).toWd.tru r e p)) (he _)⟩
theorem aq{k}(ha:RA X es f):RE X (.Tuple es k pos) (cN aN f):=⟨fun I p=>wpAny_Tuple_spliced (ha.r _ I (p.bind fun _ _ ps us y r p=>by
 unfold aN at p
 split at p
 ·exact ⟨r.length▸ ‹_›,p.seq (ps:=ps) y.2 rfl r (r.sz ‹_›)⟩
 ·exact p.elim))⟩
theorem aZ(ha:RA X es f):RE X (.List es pos) (cN cu f):=⟨fun I p=>wpAny_List_spliced (ha.r _ I (p.bind fun _ _ ps us y r p=>by
 unfold cu at p
 split at p
 ·exact ⟨r.length▸ ‹_›,p.seq (ps:=ps) y.2 rfl r (r.sz ‹_›)⟩
 ·exact p.elim))⟩
theorem oP(ha:RA X es f):RE X (.List es pos) (cN qn f):=⟨fun I p=>wpAny_List_spliced (ha.r _ I (p.bind fun _ _ ps us y r p=>by
 unfold qn at p
 split at p
 ·exact ⟨r.length▸ ‹_›,p.lm (ps:=ps) y.2 r (r.sz ‹_›)⟩
 ·exact p.elim))⟩
def Gl(X:Cx)(x:Str):Prop:=X.env.kindOf x=some .globalImplicit
theorem Inv.glb(I:Inv X w ρ h){u:Value}{Q:Value→Shared→Prop}{E:Value→Shared→Prop}(hg:Gl X x)(hm:X.mg x=some u)(q:Q u w.s)(hd:(x==("__debug__":Str))=false:=by decide):Wp X (eval (.Name x p0) X.env) Q E w.s:=
 Calls.Name_function_global I.ok.kind hg (Calls.loadGlobal_global (by rw [I.ok.glob];exact I.ok.gl.keeps fun _ _ e=>I.bk e) hm q) hd
theorem Inv.blt(I:Inv X w ρ h){u:Value}{Q:Value→Shared→Prop}{E:Value→Shared→Prop}(hg:Gl X x)(hm:X.mg x=none)(hv:bootBuiltins x=some u)(q:Q u w.s)(hn:x≠"__name__":=by decide)(hd:(x==("__debug__":Str))=false:=by decide):Wp X (eval (.Name x p0) X.env) Q E w.s:=
 let ⟨mb,h1,h2⟩:=I.ok.bl
 Calls.Name_function_global I.ok.kind hg (Calls.loadGlobal_builtin (by rw [I.ok.glob];exact I.ok.gl.keeps fun _ _ e=>I.bk e) hm (by rw [I.ok.blt];exact h1.keeps fun _ _ e=>I.bk e) ((h2 x hn).trans hv) q) hd
def OpC(X:Cx)(f:Value)(g:List PV→List PO→Res PV):Prop:=X.Ok→OpN X (fun us=>call f us) g
theorem Bv(o:OpC X (.builtin id) g)(hg:Gl X x)(hm:X.mg x=none)(hv:bootBuiltins x=some (.builtin id))(ha:RA X (e::es) f)(hn:x≠"__name__":=by decide)(hdb:(x==("__debug__":Str))=false:=by decide)(he:starEach (e::es) X.env=(false,eval e X.env)::starEach es X.env:=by rfl)(hpl:(backTo pos (starEach es X.env)).any (·.1)=false:=by rfl):RE X (.Call (.Name x p0) (e::es) [] pos) (cN g f):=
 ⟨fun I p=>wpAny_Call_Name_kw (I.blt hg hm hv (callWith_builtin1 (ha.r pos I (p.bind fun _ _ _ _ y r p=>o I.ok (I.on y).toWd r p)) he hpl) hn hdb)⟩
theorem zL(o:OpC X (.type id) g)(hg:Gl X x)(hm:X.mg x=none)(hv:bootBuiltins x=some (.type id))(ha:RA X (e::es) f)(hn:x≠"__name__":=by decide)(hdb:(x==("__debug__":Str))=false:=by decide)(he:starEach (e::es) X.env=(false,eval e X.env)::starEach es X.env:=by rfl)(hpl:(backTo pos (starEach es X.env)).any (·.1)=false:=by rfl):RE X (.Call (.Name x p0) (e::es) [] pos) (cN g f):=
 ⟨fun I p=>wpAny_Call_Name_kw (I.blt hg hm hv (callWith_type1 (ha.r pos I (p.bind fun _ _ _ _ y r p=>o I.ok (I.on y).toWd r p)) he hpl) hn hdb)⟩
end
end Z
namespace L2
open PySem PySem.Spec PyProof.Rows
def ixN(n:Nat)(i:Int):Option Nat:=if 0≤i then (if i<n then some i.toNat else none) else if -(n:Int)≤i then some (i+n).toNat else none
def atI{α:Type}(xs:List α)(i:Int):Option α:=(ixN xs.length i).bind fun j=>xs[j]?
theorem yE{n:Nat}{i:Int}{j:Nat}(h:ixN n i=some j):seqIndex? i n=some j∧j<n∧ -(n:Int)≤i∧i<n:=by
 unfold ixN at h
 by_cases h0:0≤i
 ·rw [if_pos h0] at h
  by_cases h1:i<n
  ·rw [if_pos h1] at h
   have e:i.toNat=j:=Option.some.inj h
   exact ⟨by rw [seqIndex_of h0 h1,e],by omega,by omega,h1⟩
  ·rw [if_neg h1] at h;cases h
 ·rw [if_neg h0] at h
  by_cases h1: -(n:Int)≤i
  ·rw [if_pos h1] at h
   have e:(i+n).toNat=j:=Option.some.inj h
   exact ⟨by rw [seqIndex_neg (by omega) h1,e],by omega,h1,by omega⟩
  ·rw [if_neg h1] at h;cases h
theorem uf{α:Type}{xs:List α}{i:Int}{v:α}(h:atI xs i=some v):∃ j,seqIndex? i xs.length=some j∧xs[j]? =some v∧j<xs.length∧ -(xs.length:Int)≤i∧i<xs.length:=by
 unfold atI at h
 cases e:ixN xs.length i with
 | none=>rw [e] at h;cases h
 | some j=>
  rw [e] at h
  obtain ⟨h1,h2,h3,h4⟩:=yE e
  exact ⟨j,h1,h,h2,h3,h4⟩
end L2
namespace L3
open PySem PySem.Spec PyProof.Rows L2
def jZ:PV→Option PK
 | .int i=>some (.inl i)
 | .str l=>some (.inr l)
 | _=>none
def bJ(kvs:List (PK×PV))(k:PK):Option PV:=(kvs.find? fun kv=>decide (kv.1=k)).map (·.2)
def pIx(p q:PV)(h:List PO):Res PV:=match p,q with
 | .str l,.int i=>match atI l i with
  | some c=>if l.length≤sizeLine then .ok (.str [c]) h else .bad
  | none=>.bad
 | .tup xs,.int i=>match atI xs i with
  | some v=>.ok (ao h v) h
  | none=>.bad
 | p,q=>match dcR h p with
  | some kvs=>match jZ q with
   | some k=>match bJ kvs k with
    | some v=>.ok (ao h v) h
    | none=>.bad
   | none=>.bad
  | none=>match lsR h p with
   | some xs=>match q with
    | .int i=>match atI xs i with
     | some v=>.ok (ao h v) h
     | none=>.bad
    | _=>.bad
   | none=>.bad
def cut{α:Type}(xs:List α)(lo hi:Option Int):List α:=(xs.drop (HT.sIx xs.length 0 lo)).take (HT.sIx xs.length xs.length hi - HT.sIx xs.length 0 lo)
abbrev Ox:=Ev→List PO→Res (Option Int)
def jX:Ox:=fun _ h=>.ok none h
def jW(f:Ex):Ox:=fun ρ h=>(f ρ h).bind fun p h1=>match p with
 | .int i=>.ok (some i) h1
 | _=>.bad
def pSl(p:PV)(lo hi:Option Int)(h:List PO):Res PV:=match p with
 | .str l=>if l.length≤sizeLine then .ok (.str (cut l lo hi)) h else .bad
 | .tup xs=>if HT.sIx xs.length 0 lo=0∧HT.sIx xs.length xs.length hi=xs.length then .bad else .ok (.tup (cut xs lo hi)) h
 | p=>match lsR h p with
  | some xs=>.ok (.lst (cut xs lo hi)) h
  | none=>.bad
def kS(p:PV)(lo hi:Option Int)(h:List PO):Res PV:=match p with
 | .tup xs=>if HT.sIx xs.length 0 lo=0∧HT.sIx xs.length xs.length hi=xs.length then .ok (.tup xs) h else .ok (.tup (cut xs lo hi)) h
 | p=>pSl p lo hi h
def qL(a:Ex)(lo hi:Ox):Ex:=fun ρ h=>(a ρ h).bind fun p h1=>(lo ρ h1).bind fun l h2=>(hi ρ h2).bind fun u h3=>kS p l u h3
theorem Jo(lo hi:Option Int)(n:Nat):Builtin.Str.strSliceIndices lo hi 1 n=(List.range (HT.sIx n n hi - HT.sIx n 0 lo)).map (HT.sIx n 0 lo+ ·):=by
 rw [← sliceRange_one]
 unfold Builtin.Str.strSliceIndices
 have e1:∀ d:Nat,d≤n→∀ o:Option Int,(match o with | none=>(d:Int) | some i=>(if (1:Int)>0 then max 0 (min (if i<0 then i+(n:Int) else i) n) else max (-1) (min (if i<0 then i+(n:Int) else i) ((n:Int) - 1))))=((HT.sIx n d o:Nat):Int):=by
  intro d hd o
  cases o with
  | none=>rfl
  | some i=>
   simp only [show (1:Int)>0 by decide,if_true,HT.sIx]
   by_cases h:i<0
   ·simp only [h,if_true];omega
   ·simp only [h,if_false];omega
 have e2:=e1 0 (Nat.zero_le _) lo
 have e3:=e1 n (Nat.le_refl _) hi
 simp only [show (1:Int)>0 by decide,if_true] at e2 e3 ⊢
 rw [← e2,← e3]
 rfl
theorem FN(l:List Nat)(lo hi:Option Int):Txt.slice (S l) lo hi=S (cut l lo hi):=by
 unfold Txt.slice
 have hn:(S l).length=l.length:=gI l
 rw [hn,Jo]
 have hlo:=HT.sIx_le l.length 0 (Nat.zero_le _) lo
 have hhi:=HT.sIx_le l.length l.length (Nat.le_refl _) hi
 split
 ·rename_i h
  have h':HT.sIx l.length l.length hi - HT.sIx l.length 0 lo=l.length:=by
   simpa using h
  have e0:HT.sIx l.length 0 lo=0:=by omega
  unfold cut
  rw [h',e0]
  simp
 ·rw [pick_run]
  show (⟨_⟩:Str)=⟨_⟩
  unfold cut
  simp [S]
end L3
namespace Z
open PySem PySem.Spec PyProof.Rows L3 L2
theorem lU{G:SC}{F:Fz}{m:List Addr}{p:PV}{u:Value}{k:PK}(r:aX G F m p u)(e:jZ p=some k):(pk G.prog G.w).is k u=true:=by
 cases r<;>cases e<;>simp [pk,kIs,Value.isInt,Value.isStrOf]
theorem oK{G:SC}{F:Fz}{m:List Addr}:∀ {kps:List (PK×PV)} {kvs:List (PK×Value)},kvs.map (·.1)=kps.map (·.1)→av G F m (kps.map (·.2)) (kvs.map (·.2))→∀ k:PK,(∃ p v,bJ kps k=some p∧valueAt kvs k=some v∧aX G F m p v)∨(bJ kps k=none∧valueAt kvs k=none)
 | [],[],_,_,k=>.inr ⟨rfl,rfl⟩
 | [],_::_,h,_,_=>by simp at h
 | _::_,[],h,_,_=>by simp at h
 | (a,p)::ps,(b,v)::vs,h,.cons r t,k=>by
  simp only [List.map_cons,List.cons.injEq] at h
  obtain ⟨rfl,h⟩:=h
  unfold bJ valueAt
  rw [List.find?_cons,List.find?_cons]
  by_cases z:b=k
  ·simp only [z,decide_true];exact .inl ⟨p,v,rfl,rfl,r⟩
  ·simp only [z,decide_false];exact oK h t k
section
variable {X:Cx} {w:Wo} {ρ:Ev} {h:List PO} {a b:Expr} {fa fb:Ex} {pos p2:Pos} {Q:Value→Shared→Prop} {E:Value→Shared→Prop}
theorem Lw(value slice:Expr)(hs:∀ o i,subscripted slice false o i=operate [o,i] (getItem o i)):Op2 X (subscriptTail value slice) pIx:=fun {w h p q u u2 Q E} I rp rq k=>by
 have hl:sizeLine=16777216:=sizeLine_eq
 unfold pIx at k
 split at k
 ·cases rp;cases rq
  split at k
  ·rename_i c e
   split at k
   ·rename_i z
    obtain ⟨j,h1,h2,h3,h4,h5⟩:=uf e
    exact tail_any (typeIs_str w.s _ _) slot_str_getitem.lookup (getItem_str (c:=c) (by rw [Bool.or_eq_false_iff];exact ⟨decide_eq_false (by omega),decide_eq_false (by omega)⟩) (by rw [gI,h1];simpa [S] using h2) (k.now I.toHR (.str [c] _))) (hs _ _)
   ·exact k.elim
  ·exact k.elim
 ·cases rq
  split at k
  ·rename_i e
   obtain ⟨a,its,rfl,y,z,r⟩:=I.sq rp rfl
   obtain ⟨j,h1,h2,h3,h4,h5⟩:=uf e
   obtain ⟨u,eu,ru⟩:=r.get h2
   have l:=r.len
   exact subscriptTail_builtinR (x:=u) y.tup.typeIs slot_tuple_getitem.lookup (getItem_tuple (j:=j) (Q:=fun r s'=>r=u∧Q r s') y.tup (by omega) (by omega) (by rw [← l];exact h1) (by simpa using eu) ⟨rfl,k.here I.toHR (I.deref ru)⟩) (hs _ _)
  ·exact k.elim
 ·split at k
  ·rename_i ed
   split at k
   ·rename_i kk ek
    split at k
    ·rename_i v ev
     obtain ⟨a,kvs,rfl,y,d,r⟩:=I.dc rp ed
     rcases oK r.2.1 r.2.2 kk with ⟨p1,v1,h1,h2,r1⟩ | ⟨h1,_⟩<;>rw [ev] at h1<;>cases h1
     have hT:w.s.TypeIs (.ref a) "dict":=d.mapOf.typeIs
     unfold subscriptTail
     refine wpAny_bind ?_
     rw [getitemInPython_of_ne hT.not_modules]
     refine wpAny_bind (wpAny_specialOf hT F.slot_dict_getitem.lookup ?_)
     have fin:Wp X (subscripted slice false (.ref a) u2) (fun r s₃=>Wp X (letTemporaryGo value (.ref a) r >>= fun _=>pure r) Q E s₃) E w.s:=by
      rw [hs]
      exact wpAny_operating (wpAny_getItem_of (lU rq ek) d.mapOf h2 (wpAny_bind (wpAny_letTemporaryGo (wpAny_pure (k.now I.toHR (I.deref r1))))))
     first
      | exact wpAny_pure (wpAny_bind fin)
      | exact wpAny_bind (wpAny_pure (wpAny_bind fin))
      | exact wpAny_bind fin
    ·exact k.elim
   ·exact k.elim
  ·split at k
   ·rename_i el
    split at k
    ·rename_i i _ _
     cases rq
     split at k
     ·rename_i e
      obtain ⟨a,its,rfl,y,z,r⟩:=I.sq rp (iR el)
      obtain ⟨j,h1,h2,h3,h4,h5⟩:=uf e
      obtain ⟨u,eu,ru⟩:=r.get h2
      have l:=r.len
      have fin:=k.here I.toHR (I.deref ru)
      by_cases h0:0≤i
      ·exact item_listR y.pl.isList h0 (by omega) (by rw [show i.toNat=j by rw [seqIndex_of h0 h5] at h1;exact Option.some.inj h1];simpa using eu) fin (hs _ _)
      ·exact subscriptTail_builtinR (x:=u) y.pl.isList.typeIs slot_list_getitem.lookup (wpAny_getItem_list_neg (Q:=fun r s'=>r=u∧Q r s') y.pl.isList (by omega) (by omega) (by omega) (by rw [show (i+(its.size:Int)).toNat=j by rw [seqIndex_neg (by omega) h4] at h1;rw [← l];exact Option.some.inj h1];simpa using eu) ⟨rfl,fin⟩) (hs _ _)
     ·exact k.elim
    ·exact k.elim
   ·exact k.elim
theorem aB(ha:RE X a fa)(hb:RE X b fb)(hs:∀ o i,subscripted b false o i=operate [o,i] (getItem o i):=by intro _ _;rfl):RE X (.Subscript a b pos) (c2 pIx fa fb):=⟨fun I p=>Subscript_ (two (Lw a b hs) ha hb I p)⟩
structure RO(X:Cx)(e:Option Expr)(f:Ox):Prop where
 r:∀ {w:Wo} {ρ:Ev} {h:List PO} {Q:Value→Shared→Prop} {E:Value→Shared→Prop},Inv X w ρ h→bH X (fun _ o u=>IsPart u o) w Q E (f ρ h)→Wp X (evalPart e X.env) Q E w.s
theorem iD:RO X none jX:=⟨fun I p=>by rw [evalPart_none];exact wpAny_pure (p.here I.toHR .none)⟩
theorem iC(ha:RE X a fa):RO X (some a) (jW fa):=⟨fun I p=>by
 rw [evalPart_some]
 exact ha.r I (p.bind fun _ _ _ _ y r p=>by
  cases r with
  | int i t=>exact p.here y.2 (.int i t)
  | _=>exact p.elim)⟩
theorem Nw.also{s':Shared}(H:HR X.toSC w h)(k:∀ b o,w.s.heap.get? b=some o→s'.heap.get? b=some o)(ho:s'.os=w.s.os:=by rfl)(hg:s'.gens=w.s.gens:=by rfl):Nw X w { w with s:=s' } h:=
 ⟨⟨ho,fun q=>hg▸q,fun _ _ e=>e,fun _ _ e=>e,⟨[],by simp⟩,fun b o e=>⟨o,k b o e⟩,fun b o q _=>⟨o.slots,⟨k b o q.1,q.2⟩,.inr rfl⟩⟩,H.on fun b o e _=>k b o e⟩
theorem av.cut{G:SC}{F:Fz}{m:List Addr}{ps:List PV}{vs:List Value}(r:av G F m ps vs)(lo hi:Option Int):av G F m (L3.cut ps lo hi) (L3.cut vs lo hi):=by
 unfold L3.cut
 rw [← r.length]
 exact ((r.td _).2.td _).1
theorem oU{α:Type}(xs:List α)(lo hi:Option Int):(L3.cut xs lo hi).length≤xs.length:=by
 unfold L3.cut
 rw [List.length_take,List.length_drop]
 omega
theorem Wd.sl(I:Wd X w h){p:PV}{u vl vu:Value}{lo hi:Option Int}{sl:Addr}(rp:aX X.toSC w.F w.m p u)(hs:w.s.heap.IsSliceOf sl vl vu .none)(pl:IsPart vl lo)(pu:IsPart vu hi)(k:bH X (RV X.toSC) w Q E (kS p lo hi h)):∃ T id,typeLookup (.type T) "__getitem__"=pure (some (.builtin id))∧w.s.TypeIs u T∧Wp X (getItem u (.ref sl)) Q E w.s:=by
 unfold kS at k
 split at k
 ·obtain ⟨a,its,rfl,y,z,r⟩:=I.sq rp rfl
  have l:=r.len
  refine ⟨"tuple",_,slot_tuple_getitem.lookup,y.tup.typeIs,?_⟩
  split at k
  ·exact HT.getItem_tuple_all y.tup hs pl pu (by rw [← l];assumption) (k.here I.toHR rp)
  ·exact HT.getItem_tuple_cut y.tup hs pl pu (by rw [← l];assumption) (k.seq I.toHR rfl (r.cut lo hi) (Nat.le_trans (oU its.toList lo hi) z)) z
 ·unfold pSl at k
  split at k
  ·cases rp
   split at k
   ·refine ⟨"str",_,F.slot_str_getitem.lookup,typeIs_str _ _ _,?_⟩
    have fin:∀ t k,Q (.str (Txt.slice (S _) lo hi) t) { w.s with toks:=k }:=fun t _=>by rw [FN];exact k.now I.toHR (.str _ t)
    have hz:∀ lo hi,(Txt.slice (S _) lo hi).length≤sizeLine:=fun lo hi=>Nat.le_trans (Txt.slice_le _ _ _) (by rw [gI];assumption)
    cases pl with
    | none=>cases pu with
     | none=>exact wpAny_getItem_str_slice (l:=none) (u:=none) (st:=none) hs rfl (post_val_or_str ⟨hz _ _,fin⟩)
     | int j u=>exact wpAny_getItem_str_slice (l:=none) (u:=some (j,u)) (st:=none) hs rfl (post_val_or_str ⟨hz _ _,fin⟩)
    | int i t=>cases pu with
     | none=>exact wpAny_getItem_str_slice (l:=some (i,t)) (u:=none) (st:=none) hs rfl (post_val_or_str ⟨hz _ _,fin⟩)
     | int j u=>exact wpAny_getItem_str_slice (l:=some (i,t)) (u:=some (j,u)) (st:=none) hs rfl (post_val_or_str ⟨hz _ _,fin⟩)
   ·exact k.elim
  ·rename_i n;exact (n _ rfl).elim
  ·split at k
   ·rename_i e
    obtain ⟨a,its,rfl,y,z,r⟩:=I.sq rp (iR e)
    refine ⟨"list",_,slot_list_getitem.lookup,y.pl.isList.typeIs,wpAny_getItem_list_slice y.pl.isList hs pl pu .none (by simp) ?_ z⟩
    rw [show its=its.toList.toArray by simp,qS]
    exact k.seq I.toHR rfl (r.cut lo hi) (Nat.le_trans (oU its.toList lo hi) z)
   ·exact k.elim
theorem fP{lo hi:Option Expr}{fl fu:Ox}(ha:RE X a fa)(hl:RO X lo fl)(hh:RO X hi fu):RE X (.Subscript a (.Slice lo hi none p2) pos) (qL fa fl fu):=⟨fun I k=>Subscript_ (ha.r I (k.bind fun _ _ p u y r k=>wpAny_Slice (hl.r (I.on y) (k.bind fun _ _ l vl y1 pl k=>hh.r ((I.on y).on y1) (k.bind fun w h h' vu y2 pu k=>by
 rw [evalPart_none]
 refine wpAny_pure ?_
 have n:=Nw.also (X:=X) (s':= { w.s with heap:=w.s.heap.push { cls:=.type "slice",data:=.fields #[vl,vu,.none] } }) y2.2 fun b o e=>Heap.get?_push_of_some _ e
 obtain ⟨T,id,a,b,c⟩:=((((I.on y).on y1).on y2).on n).toWd.sl (y2.1.rep (y1.1.rep r)) (Heap.IsSliceOf.new w.s.heap vl vu .none) pl pu (k.step n)
 exact tail_any (ops:= [.ref w.s.heap.objs.size,u]) b a c (by with_unfolding_all rfl))))))⟩
end
end Z
namespace L3
inductive SR where
 | nx (ρ:Ev) (h:List PO) | rt (v:PV) (h:List PO) | bk (ρ:Ev) (h:List PO) | ct (ρ:Ev) (h:List PO) | exc (e:PV) (h:List PO) | bad
abbrev Sx:=Ev→List PO→SR
noncomputable def bG:Sx:=fun ρ h=>.nx ρ h
noncomputable def aA(f g:Sx):Sx:=fun ρ h=>match f ρ h with
 | .nx ρ1 h1=>g ρ1 h1
 | .rt v h1=>.rt v h1
 | .bk ρ1 h1=>.bk ρ1 h1
 | .ct ρ1 h1=>.ct ρ1 h1
 | .exc v h1=>.exc v h1
 | .bad=>.bad
def iG{α:Type}(f:Res α)(k:α→List PO→SR):SR:=match f with
 | .ok v h=>k v h
 | .exc e h=>.exc e h
 | .bad=>.bad
def eH(f:Res PV)(k:PV→List PO→SR):SR:=iG f k
def Gs(f:Res Bool)(k:Bool→List PO→SR):SR:=iG f k
def Gf(f:Res (List PV))(k:List PV→List PO→SR):SR:=iG f k
noncomputable def aY(f:Ex):Sx:=fun ρ h=>eH (f ρ h) fun v h1=>.rt v h1
def dk(f:Ex):Sx:=fun ρ h=>eH (f ρ h) fun _ h1=>.nx ρ h1
def sIf(t:Tx)(f g:Sx):Sx:=fun ρ h=>Gs (t ρ h) fun b h1=>if b=true then f ρ h1 else g ρ h1
def aU(i:Nat)(f:Ex):Sx:=fun ρ h=>eH (f ρ h) fun v h1=>.nx (ρ.set i (some v)) h1
def jN:Sx:=fun _ _=>.bad
abbrev Gx:=PV→Ev→Option Ev
def gNm(i:Nat):Gx:=fun p ρ=>some (ρ.set i (some p))
abbrev Gxs:=List PV→Ev→Option Ev
noncomputable def lf:Gxs:=fun ps ρ=>match ps with
 | []=>some ρ
 | _=>none
def dJ(g:Gx)(gs:Gxs):Gxs:=fun ps ρ=>match ps with
 | p::r=>match g p ρ with
  | some ρ1=>gs r ρ1
  | none=>none
 | _=>none
def gTp(n:Nat)(gs:Gxs):Gx:=fun p ρ=>match p with
 | .tup ps=>if ps.length=n then gs ps ρ else none
 | _=>none
def DI(g:Gx)(f:Ex):Sx:=fun ρ h=>eH (f ρ h) fun v h1=>match g v ρ with
 | some ρ'=>.nx ρ' h1
 | none=>.bad
end L3
namespace Z
open PySem PySem.Spec PyProof.Rows L3 L2
abbrev StS(X:Cx)(w w':Wo):Prop:=Stp X.fs X.W w w'
def bF(X:Cx)(w:Wo)(Q:Flow→Shared→Prop)(E:Value→Shared→Prop):SR→Prop
 | .nx ρ h=>X.Ep E∧∀ w',StS X w w'→Inv X w' ρ h→Q .next w'.s
 | .bk ρ h=>X.Ep E∧∀ w',StS X w w'→Inv X w' ρ h→Q .brk w'.s
 | .ct ρ h=>X.Ep E∧∀ w',StS X w w'→Inv X w' ρ h→Q .cont w'.s
 | .rt v h=>X.Ep E∧∀ w' u ρ,StS X w w'→Inv X w' ρ h→aX X.toSC w'.F w'.m v u→Q (.ret u) w'.s
 | .exc e h=>X.Ep E∧∀ w' u ρ,StS X w w'→Inv X w' ρ h→nh X w w' e u→E u w'.s
 | .bad=>False
structure RS(X:Cx)(st:Stmt)(f:Sx):Prop where
 r:∀ {w:Wo} {ρ:Ev} {h:List PO} {Q:Flow→Shared→Prop} {E:Value→Shared→Prop},Inv X w ρ h→bF X w Q E (f ρ h)→Wp X (exec st X.env) Q E w.s
structure RSs(X:Cx)(st:List Stmt)(f:Sx):Prop where
 r:∀ {w:Wo} {ρ:Ev} {h:List PO} {Q:Flow→Shared→Prop} {E:Value→Shared→Prop},Inv X w ρ h→bF X w Q E (f ρ h)→Wp X (execs st X.env) Q E w.s
structure RG(X:Cx)(tg:Expr)(g:Gx):Prop where
 r:∀ {w:Wo} {ρ ρ':Ev} {h:List PO} {p:PV} {u:Value} {Q:Unit→Shared→Prop} {E:Value→Shared→Prop},Inv X w ρ h→aX X.toSC w.F w.m p u→g p ρ=some ρ'→(∀ w',StS X w w'→Inv X w' ρ' h→Q () w'.s)→Wp X (assign tg X.env u) Q E w.s
section
variable {X:Cx} {w w1:Wo} {ρ:Ev} {h:List PO} {a:Expr} {fa:Ex} {ta:Tx} {pos pos':Pos} {x:Str} {i:Nat} {Q:Flow→Shared→Prop} {E:Value→Shared→Prop} {st:Stmt} {sts sts':List Stmt} {f g:Sx}
theorem Nw.s{h1:List PO}(y:Nw X w w1 h1):StS X w w1:=y.1.weak fun _ z=>z.elim
theorem bF.ep{r:SR}(p:bF X w Q E r):X.Ep E:=by cases r<;>first | exact p.1 | exact p.elim
theorem bF.step{r:SR}(p:bF X w Q E r)(x:StS X w w1):bF X w1 Q E r:=match r with
 | .nx _ _=>⟨p.1,fun w' y=>p.2 w' (x.trans y)⟩
 | .bk _ _=>⟨p.1,fun w' y=>p.2 w' (x.trans y)⟩
 | .ct _ _=>⟨p.1,fun w' y=>p.2 w' (x.trans y)⟩
 | .rt _ _=>⟨p.1,fun w' u ρ y=>p.2 w' u ρ (x.trans y)⟩
 | .exc _ _=>⟨p.1,fun w' u ρ y I r=>p.2 w' u ρ (x.trans y) I (r.back x)⟩
 | .bad=>p
theorem bF.e0{α β:Type}{R:Wo→α→β→Prop}{r:Res α}{k:α→List PO→SR}{G:β→Shared→Prop}(p:bF X w Q E (iG r k))(I:Inv X w ρ h)(c:∀ w1 h1 a x,Nw X w w1 h1→Inv X w1 ρ h1→R w1 a x→bF X w Q E (k a h1)→G x w1.s):bH X R w G E r:=match r with
 | .ok a h=>⟨p.ep,fun w' x y q=>c w' h a x y (I.on y) q p⟩
 | .exc _ _=>⟨p.1,fun w' u y r=>p.2 w' u ρ y.s (I.on y) r⟩
 | .bad=>p
theorem bF.e{α β:Type}{R:Wo→α→β→Prop}{r:Res α}{k:α→List PO→SR}{G:β→Shared→Prop}(p:bF X w Q E (iG r k))(I:Inv X w ρ h)(c:∀ w1 h1 a x,Nw X w w1 h1→Inv X w1 ρ h1→R w1 a x→bF X w1 Q E (k a h1)→G x w1.s):bH X R w G E r:=p.e0 I fun w1 h1 a x y I r p=>c w1 h1 a x y I r (p.step y.s)
theorem bF.here{ρ:Ev}(p:bF X w Q E (.nx ρ h))(I:Inv X w ρ h):Q .next w.s:=p.2 w .refl I
theorem Inv.store{p:PV}{u:Value}{Q:Unit→Shared→Prop}(I:Inv X w ρ h)(hi:X.N[i]? =some x)(hx:X.env.kindOf x=some .local∨(X.env.kindOf x=some .cell∧X.fn x=true))(r:aX X.toSC w.F w.m p u)(q:∀ w',StS X w w'→Inv X w' (ρ.set i (some p)) h→Q () w'.s):Wp X (storeName X.env x u) Q E w.s:=by
 obtain ⟨m,o,n,hl,l⟩:=I.loc
 have hi':i<ρ.length:=by rw [I.ln];exact (List.getElem?_eq_some_iff.mp hi).1
 have go:∀ {a:Addr} {s':Shared} (oa oa':Obj),Has w a oa→X.W a→Heap.SameBut a w.s.heap s'.heap→s'.heap.get? a=some oa'→s'.os=w.s.os→s'.gens=w.s.gens→(∀ vs,oa'.data≠.fields vs)→
   (∃ m',s'.heap.Ns X.L m'∧∀ (j:Nat) (y:Str) (v:Value),X.N[j]? =some y→if j=i then wj X.env s'.heap m' y u else wj X.env w.s.heap m y v→wj X.env s'.heap m' y v)→(∀ y c,X.env.cells.lookup y=some c→∃ v,s'.heap.IsCell c v)→Q () s':=by
  intro a s' oa oa' ha wa sb ea eo eg ed ⟨m',n',lk⟩ cl
  have on:∀ b o,b≠a→w.s.heap.get? b=some o→s'.heap.get? b=some o:=fun b o z e=>(sb.2 b z).trans e
  have hs:∀ b o,Has w b o→∃ o',Has { w with s:=s' } b o'∧(b≠a→o'=o)∧(b=a→o'=oa'):=fun b o q=>by
   by_cases z:b=a
   ·subst z;exact ⟨oa',⟨ea,q.2⟩,fun z=>absurd rfl z,fun _=>rfl⟩
   ·exact ⟨o,⟨on b o z q.1,q.2⟩,fun _=>rfl,fun z'=>absurd z' z⟩
  have st:StS X w { w with s:=s' }:=⟨eo,fun q=>eg▸q,fun _ _ e=>e,fun _ _ e=>e,⟨[],by simp⟩,fun b o e=>by
   by_cases z:b=a
   ·subst z;exact ⟨_,ea⟩
   ·exact ⟨o,on b o z e⟩,fun b o q nw=>⟨o.slots,⟨on b o (fun z=>nw (z▸wa)) q.1,q.2⟩,.inr rfl⟩⟩
  refine q { w with s:=s' } st ⟨I.toWd.on st (fun b hb z=>?_) (I.toHR.on fun b o e z=>on b o ?_ e),I.ok,?_,fun y c e=>?_,by simp [I.ln]⟩
  ·obtain ⟨o,q,d⟩:=I.fr b hb
   obtain ⟨o',q',z1,z2⟩:=hs b o q
   refine ⟨o',q',?_⟩
   by_cases z:b=a
   ·rw [z2 z];exact ed
   ·rw [z1 z];exact d
  ·rintro rfl
   exact z ha.2
  ·obtain ⟨o',q',_⟩:=hs _ _ hl
   refine ⟨m',o',n',q',fun j p' e=>?_⟩
   by_cases z:j=i
   ·subst z
    rw [List.getElem?_set_self hi'] at e
    cases e
    have:=lk j x u hi
    rw [if_pos rfl] at this
    exact ⟨x,u,hi,r,this⟩
   ·rw [List.getElem?_set_ne (Ne.symm z)] at e
    obtain ⟨y,v,e1,r',l'⟩:=l j p' e
    have:=lk j y v e1
    rw [if_neg z] at this
    exact ⟨y,v,e1,r',this l'⟩
  ·obtain ⟨v,o,_,q⟩:=I.cel y c e
   obtain ⟨o',q',_⟩:=hs c o q
   obtain ⟨v',z⟩:=cl y c e
   exact ⟨v',o',z,q'⟩
 have nx:∀ j y,X.N[j]? =some y→j≠i→y≠x:=fun j y e z q=>z (by
  subst q
  obtain ⟨h1,e1⟩:=List.getElem?_eq_some_iff.mp e
  obtain ⟨h2,e2⟩:=List.getElem?_eq_some_iff.mp hi
  exact (List.getElem_inj I.ok.nd).mp (e1.trans e2.symm))
 have cne:∀ y c,X.env.cells.lookup y=some c→c≠X.L:=fun y c e z=>by
  obtain ⟨v,o,⟨o',ho,hd⟩,_⟩:=I.cel y c e
  obtain ⟨o2,es,ep,ho',hd',_⟩:=n
  rw [z,ho'] at ho;cases ho;rw [hd'] at hd;cases hd
 have hcls:(X.env.scope.kind==.class||(X.env.scope.kind==.module&&X.env.locals !=X.env.globals))=false:=by rw [I.ok.kind];rfl
 rcases hx with hk | ⟨hk,hf⟩
 ·refine wpAny_storeName_local hk n (fun h' n' hs=>?_) hcls
  obtain ⟨o',es,ep,e',d',_⟩:=id n'
  refine go o o' hl (.inl rfl) hs e' rfl rfl (fun vs z=>by rw [d'] at z;cases z) ⟨_,n',fun j y v e=>?_⟩ fun y c e=>let ⟨v,_,z,_⟩:=I.cel y c e;⟨v,z.sameBut hs (cne y c e)⟩
  split
  ·rename_i z;subst z;cases e.symm.trans hi;exact .inl ⟨hk,by simp⟩
  ·rename_i z
   rintro (⟨k,e'⟩ | ⟨k,c,e',q'⟩)
   ·exact .inl ⟨k,by simp [nx j y e z,e']⟩
   ·exact .inr ⟨k,c,e',q'.sameBut hs (cne y c e')⟩
 ·obtain ⟨c,hc⟩:=I.ok.has x (.inl hk)
  obtain ⟨v0,oc,z0,hcc⟩:=I.cel x c hc
  refine wpAny_storeName_cell I.ok.kind hk hc z0 (fun h' hc' hs=>?_)
  obtain ⟨o',e',d'⟩:=id hc'
  refine go (s':= { w.s with heap:=h' }) oc o' hcc (.inr ⟨x,hf,hc⟩) hs e' rfl rfl (fun vs z=>by rw [d'] at z;cases z) ⟨m,n.sameBut hs (Ne.symm (cne x c hc)),fun j y v e=>?_⟩ fun y d e=>?_
  ·split
   ·rename_i z;subst z;cases e.symm.trans hi;exact .inr ⟨.inl hk,c,hc,hc'⟩
   ·rename_i z
    rintro (l | ⟨k,d,e',q'⟩)
    ·exact .inl l
    ·exact .inr ⟨k,d,e',q'.sameBut hs fun q=>nx j y e z (I.ok.inj y x c (q▸e') hc)⟩
  ·by_cases z:d=c
   ·subst z;exact ⟨_,hc'⟩
   ·obtain ⟨v,_,q',_⟩:=I.cel y d e;exact ⟨v,q'.sameBut hs z⟩
end
end Z
namespace L3
def bh(g:Gx)(body:Sx):List PV→Sx
 | [],ρ,h=>.nx ρ h
 | p::r,ρ,h=>match g p ρ with
  | some ρ1=>match body ρ1 h with
   | .nx ρ2 h2=>bh g body r ρ2 h2
   | .ct ρ2 h2=>bh g body r ρ2 h2
   | .bk ρ2 h2=>.nx ρ2 h2
   | .rt v h2=>.rt v h2
   | .exc v h2=>.exc v h2
   | .bad=>.bad
  | none=>.bad
def gR(it:Ax)(g:Gx)(body:Sx):Sx:=fun ρ h=>Gf (it ρ h) fun xs h1=>bh g body xs ρ h1
end L3
namespace Z
open PySem PySem.Spec PyProof.Rows L3 L2
section
variable {X:Cx} {w w1:Wo} {ρ:Ev} {h:List PO} {a c:Expr} {fa:Ex} {ta:Tx} {pos pos':Pos} {x:Str} {i:Nat} {Q:Flow→Shared→Prop} {E:Value→Shared→Prop} {st:Stmt} {sts sts':List Stmt} {f g:Sx}
theorem Inv.quiet(I:Inv X w ρ h):interactive X.env=false:=by simp [interactive,I.ok.kind]
theorem aG:RSs X [] bG:=⟨fun I p=>wpAny_execs_nil (p.here I)⟩
theorem ah(ha:RS X st f)(hb:RSs X sts g):RSs X (st::sts) (aA f g):=⟨fun {w ρ h Q E} I p=>wpAny_execs_cons (ha.r I (by
 unfold aA at p
 split at p<;>rename_i e<;>rw [e]
 ·exact ⟨p.ep,fun w' y I'=>hb.r I' (p.step y)⟩
 all_goals exact p))⟩
theorem ay(ha:RS X st f):RSs X [st] f:=⟨fun {w ρ h Q E} I p=>wpAny_execs_cons (ha.r I (by
 cases e:f ρ h<;>rw [e] at p
 ·exact ⟨p.1,fun w' y I'=>wpAny_execs_nil (p.2 w' y I')⟩
 all_goals exact p))⟩
theorem iZ:RS X st jN:=⟨fun _ p=>p.elim⟩
theorem GW(ha:RE X a fa):RS X (.Return (some a) pos) (aY fa):=⟨fun {w ρ h Q E} I p=>wpAny_Return_some (ha.r I (bF.e p I fun _ _ _ _ _ I r p=>p.2 _ _ ρ .refl I r))⟩
theorem cr(ha:RE X a fa)(hs:swapsWith a none pos.line X.env=pure false:=by rfl):RS X (.Expr a pos) (dk fa):=⟨fun I p=>wpAny_Expr_any (ha.r I (bF.e p I fun _ _ _ _ _ I r p=>p.here I)) I.quiet hs⟩
theorem aQ(hc:RT X c ta)(ha:RSs X sts f)(hb:RSs X sts' g):RS X (.If c sts sts' pos) (sIf ta f g):=⟨fun I p=>wpAny_If (hc.r I (bF.e p I fun _ _ b _ _ I r p=>by
 subst r
 cases b
 ·exact hb.r I p
 ·exact ha.r I p))⟩
theorem GU(hi:X.N[i]? =some x:=by rfl)(hx:X.env.kindOf x=some .local∨(X.env.kindOf x=some .cell∧X.fn x=true):=by first | exact .inl rfl | exact .inr ⟨rfl,rfl⟩)(ha:RE X a fa)(hs:swapsWith a (some (.Name x pos')) pos.line X.env=pure false:=by rfl):RS X (.Assign [.Name x pos'] a pos) (aU i fa):=
 ⟨fun I p=>wpAny_Assign_Name (ha.r I (bF.e p I fun _ _ _ _ _ I r p=>I.store hi hx r fun w' y I'=>p.2 w' y I')) hs⟩
theorem bo(hi:X.N[i]? =some x:=by rfl)(hx:X.env.kindOf x=some .local∨(X.env.kindOf x=some .cell∧X.fn x=true):=by first | exact .inl rfl | exact .inr ⟨rfl,rfl⟩):RG X (.Name x pos) (gNm i):=⟨fun I r e q=>by cases e;exact wpAny_assign_Name (I.store hi hx r q)⟩
structure RGs(X:Cx)(tg:List Expr)(g:Gxs):Prop where
 r:∀ {w:Wo} {ρ ρ':Ev} {h:List PO} {p:List PV} {u:List Value} {Q:Unit→Shared→Prop} {E:Value→Shared→Prop},Inv X w ρ h→av X.toSC w.F w.m p u→g p ρ=some ρ'→(∀ w',StS X w w'→Inv X w' ρ' h→Q () w'.s)→Wp X (assignInOrder ((assignEach tg X.env).map (·.2)) u) Q E w.s
theorem mq:RGs X [] lf:=⟨fun I r e q=>by
 unfold lf at e
 split at e<;>cases e
 cases r
 exact assignInOrder_nil (q _ .refl I)⟩
theorem ez{e:Expr}{es:List Expr}{g:Gx}{gs:Gxs}(h1:RG X e g)(h2:RGs X es gs)(hs:(assignEach (e::es) X.env).map (·.2)=assign e X.env::(assignEach es X.env).map (·.2):=by rfl):RGs X (e::es) (dJ g gs):=⟨fun I r e q=>by
 unfold dJ at e
 split at e
 ·split at e
  ·rename_i e1
   cases r with
   | cons r t=>rw [hs];exact assignInOrder_cons (h1.r I r e1 fun w' y I'=>h2.r I' (y.reps t) e fun w2 y2=>q w2 (y.trans y2))
  ·cases e
 ·cases e⟩
theorem pZ{es:List Expr}{k n:Nat}{gs:Gxs}(hc:X.calm=true)(h:RGs X es gs)(hn:(assignEach es X.env).length=n:=by rfl)(hst:(assignEach es X.env).findIdx? (·.1)=none:=by rfl):RG X (.Tuple es k pos) (gTp n gs):=⟨fun {w ρ ρ' h p u Q E} I r e q=>by
 unfold gTp at e
 split at e
 ·split at e
  ·obtain ⟨a,its,rfl,y,z,r⟩:=I.sq r rfl
   refine assign_Tuple_tuple (I.ok.hd hc) y.tup (by rw [← r.len,hn];exact Eq.symm ‹_›) hst fun h' hx=>?_
   have n:=Nw.also (X:=X) (s':= { w.s with heap:=h' }) I.toHR fun b o e=>hx b o (Nat.ne_of_lt (Heap.lt_size e)) e
   exact ‹RGs X es gs›.r (I.on n) r e fun w2 y2=>q w2 (n.s.trans y2)
  ·cases e
 ·cases e⟩
theorem Bl{tg:Expr}{g:Gx}(hg:RG X tg g)(ha:RE X a fa)(hs:swapsWithSole [tg] a pos.line X.env=pure false:=by rfl)(hw:swappedStores [tg] a X.env=pure none:=by rfl)(h1:(assignEach [tg] X.env).map (·.2)= [assign tg X.env]:=by rfl):RS X (.Assign [tg] a pos) (DI g fa):=⟨fun I p=>wpAny_Assign_stores (ha.r I (bF.e p I fun _ _ _ _ _ I r p=>by
 rw [h1]
 split at p
 ·exact hg.r I r ‹_› fun w' y I'=>p.2 w' y I'
 ·exact p.elim)) hs hw⟩
end
end Z
namespace Z
open PySem PySem.Spec PyProof.Rows L3 L2
def Lat(w w':Wo):Prop:=(∀ a o,w.F a=some o→w'.F a=some o)∧Sub w.m w'.m
theorem Stp.lat{fs:List Addr}{W:Addr→Prop}{w w':Wo}(x:Stp fs W w w'):Lat w w':=⟨x.fz,x.sub⟩
theorem Lat.trans{w w1 w2:Wo}(x:Lat w w1)(y:Lat w1 w2):Lat w w2:=⟨fun a o e=>y.1 a o (x.1 a o e),fun i a e=>y.2 i a (x.2 i a e)⟩
structure Pv(fp:List Addr)(w w':Wo):Prop where
 os:w'.s.os=w.s.os
 ba:AllBare w.s.gens→AllBare w'.s.gens
 fz:∀ a o,w.F a=some o→w'.F a=some o
 ow:∀ d a,w.O d=some a→w'.O d=some a
 pre:∃ t,w'.m=w.m++t
 dom:∀ b o,b∉fp→w.s.heap.get? b=some o→∃ o',w'.s.heap.get? b=some o'
 keep:∀ b o,b∉fp→Has w b o→Has w' b o
theorem Pv.sub{fp:List Addr}{w w1:Wo}(x:Pv fp w w1):Sub w.m w1.m:=fun i a e=>by
 obtain ⟨t,z⟩:=x.pre
 rw [z,List.getElem?_append_left (List.getElem?_eq_some_iff.mp e).1];exact e
structure AJ(G:SC)(w0:Wo)(tg:Expr)(xs:List PV)(it:Addr)(fp:List Addr)(tn:Nat→Heap→Prop):Prop where
 keep:∀ {i:Nat} {w1 w2:Wo} {h1 h2:List PO},Lat w0 w1→HR G w1 h1→Lat w1 w2→HR G w2 h2→tn i w1.s.heap→(∀ b∈fp,∀ o,w1.s.heap.get? b=some o→w2.s.heap.get? b=some o)→tn i w2.s.heap
 item:∀ {A:Around} {w:Wo} {h:List PO} {i:Nat} {p:PV} {Q:Value→Shared→Prop} {E:Value→Shared→Prop},A.handled=none→Lat w0 w→HR G w h→tn i w.s.heap→xs[i]? =some p→(∀ b∈fp,∃ o,Has w b o)→
  (∀ u w',Pv fp w w'→HR G w' h→tn (i+1) w'.s.heap→(∀ b∈fp,∃ o,Has w' b o)→aX G w'.F w'.m p u→Q u w'.s)→
  wpAny (model G.prog G.w) A (pyNext (.ref it)) (fun r s=>∃ u,r=some u∧wpAny (model G.prog G.w) A (letOwnedTupleGo tg (.ref it) u) (fun _ s=>Q u s) E s) E w.s
 done:∀ {A:Around} {w:Wo} {h:List PO} {i:Nat} {Q:Shared→Prop} {E:Value→Shared→Prop},A.handled=none→Lat w0 w→HR G w h→tn i w.s.heap→xs.length=i→(∀ b∈fp,∃ o,Has w b o)→
  (∀ w',Pv fp w w'→HR G w' h→Q w'.s)→wpAny (model G.prog G.w) A (pyNext (.ref it)) (fun r s=>r=none∧Q s) E w.s
 self:∀ {A:Around} {i:Nat} {s:Shared} {Q:Value→Shared→Prop} {E:Value→Shared→Prop},A.handled=none→tn i s.heap→Q (.ref it) s→wpAny (model G.prog G.w) A (pyIter (.ref it)) Q E s
def Apt(X:Cx)(b:Addr):Prop:=b≠X.L∧b∉X.fs∧∀ x c,X.env.cells.lookup x=some c→c≠b
theorem Apt.w{X:Cx}{b:Addr}(n:Apt X b):¬ X.W b:=fun z=>z.elim n.1 fun ⟨x,_,e⟩=>n.2.2 x b e rfl
theorem Inv.out{X:Cx}{w:Wo}{ρ:Ev}{h:List PO}{b:Addr}(I:Inv X w ρ h)(n:w.s.heap.get? b=none):Apt X b:=by
 have k:∀ {c o},Has w c o→b≠c:=fun q z=>by have q:=q.1;rw [← z,n] at q;cases q
 obtain ⟨_,_,_,q,_⟩:=I.loc
 exact ⟨k q,fun z=>let ⟨_,q,_⟩:=I.fr b z;k q rfl,fun x c e=>let ⟨_,_,_,q⟩:=I.cel x c e;Ne.symm (k q)⟩
def ItR(X:Cx)(tg:Expr)(w0 w:Wo)(xs:List PV)(v:Value):Prop:=∃ it fp tn,v= .ref it∧AJ X.toSC w tg xs it fp tn∧tn 0 w.s.heap∧∀ b∈fp,(∃ o,Has w b o)∧Apt X b∧w0.s.heap.get? b=none
structure RI(X:Cx)(tg iter:Expr)(f:Ax):Prop where
 r:∀ {w:Wo} {ρ:Ev} {h:List PO} {Q:Value→Shared→Prop} {E:Value→Shared→Prop},Inv X w ρ h→bH X (ItR X tg w) w Q E (f ρ h)→Wp X (eval iter X.env) (fun v s=>Wp X (pyIter v) Q E s) E w.s
section
variable {X:Cx} {w w1:Wo} {ρ:Ev} {h:List PO} {pos:Pos} {tg iter:Expr} {it:Ax} {g:Gx} {body:List Stmt} {f:Sx}
theorem Inv.priv{fp:List Addr}{h1:List PO}(I:Inv X w ρ h)(x:Pv fp w w1)(H:HR X.toSC w1 h1)(n:∀ b∈fp,Apt X b):Inv X w1 ρ h1:=by
 obtain ⟨m,o,n1,hl,q⟩:=I.loc
 have k:=x.keep
 have cl:∀ x c,X.env.cells.lookup x=some c→c∉fp:=fun x c e z=>(n c z).2.2 x c e rfl
 have ck:∀ x c,X.env.cells.lookup x=some c→∀ v,w.s.heap.IsCell c v→w1.s.heap.IsCell c v:=fun y c e v ⟨o,q,d⟩=>let ⟨_,o',⟨_,_,_⟩,hc⟩:=I.cel y c e;⟨o,(k c o (cl y c e) ⟨q,hc.2⟩).1,d⟩
 have hL:X.L∉fp:=fun z=>(n _ z).1 rfl
 refine ⟨⟨H,x.ba I.ba,fun b o e=>x.fz _ _ (I.bs b o e),fun b hb=>let ⟨o,q,d⟩:=I.fr b hb;⟨o,k b o (fun z=>(n b z).2.1 hb) q,d⟩⟩,I.ok,⟨m,o,?_,k _ _ hL hl,fun i p e=>?_⟩,fun y c e=>?_,I.ln⟩
 ·obtain ⟨o',es,ep,e,r⟩:=n1;exact ⟨o',es,ep,(k _ _ hL ⟨e,hl.2⟩).1,r⟩
 ·obtain ⟨y,u,e1,r,l⟩:=q i p e
  exact ⟨y,u,e1,r.mono x.fz (.inr x.sub),l.imp_right fun ⟨k,c,e,z⟩=>⟨k,c,e,ck y c e _ z⟩⟩
 ·obtain ⟨v,o,z,hc⟩:=I.cel y c e
  exact ⟨v,o,ck y c e v z,k c o (cl y c e) hc⟩
theorem Stp.priv{w0:Wo}{fp fs:List Addr}{W:Addr→Prop}(x:Stp fs W w0 w)(y:Pv fp w w1)(n:∀ b∈fp,w0.s.heap.get? b=none):Stp fs W w0 w1:=
 have k:∀ {b o},w0.s.heap.get? b=some o→b∉fp:=fun e z=>by rw [n _ z] at e;cases e
 ⟨y.os.trans x.os,y.ba∘x.ba,fun a o e=>y.fz a o (x.fz a o e),fun a o e=>y.ow a o (x.ow a o e),let ⟨t,e⟩:=x.pre;let ⟨u,e'⟩:=y.pre;⟨t++u,by rw [e',e,List.append_assoc]⟩,fun b o e=>let ⟨o',q⟩:=x.dom b o e;y.dom b o' (k e) q,fun b o q z=>let ⟨sl,q1,z1⟩:=x.keep b o q z;⟨sl,y.keep b _ (k q.1) q1,z1⟩⟩
theorem GX(hp:∀ E,X.Ep E→PassesOwn X.M X.A X.env E)(hc:X.calm=true)(hi:RI X tg iter it)(hg:RG X tg g)(hb:RSs X body f)(hs:∀ x,foldedSetIterable iter X.env x=pure x:=by intro _;rfl):RS X (.For tg iter body [] pos) (gR it g f) where
 r {w0 ρ h Q E} I0 p:=by
  have hp:=hp E p.ep
  refine wpAny_For (hi.r I0 (bF.e0 p I0 fun w h1 xs v y0 I r p=>?_)) hs
  obtain ⟨it,fp,tn,rfl,T,t0,fr⟩:=r
  have no:=fun b hb=>(fr b hb).2.1
  have nf:=fun b hb=>(fr b hb).2.2
  refine codeAny_forLoop_any (fun n s=>∃ w1 ρ1 h1 ys,w1.s=s∧StS X w0 w1∧Lat w w1∧Inv X w1 ρ1 h1∧ys.length=n∧ys=xs.drop (xs.length - n)∧n≤xs.length∧tn (xs.length - n) w1.s.heap∧(∀ b∈fp,∃ o,Has w1 b o)∧bF X w0 Q E (bh g f ys ρ1 h1)) ?_ xs.length ⟨w,ρ,h1,xs,rfl,y0.s,(Stp.refl (fs:= []) (W:=NoW)).lat,I,rfl,by simp,Nat.le_refl _,by simpa using t0,fun b hb=>(fr b hb).1,p⟩
  rintro n s ⟨w1,ρ1,h1,ys,rfl,y1,l1,I1,ln,dr,le,t1,f1,p1⟩
  cases ys with
  | nil=>
   cases ln
   exact wpAny_passesOwn hp (wpAny_mono (T.done (I1.ok.hd hc) l1 I1.toHR t1 (by simp) f1 (Q:=fun s=>wpAny X.M X.A (execs [] X.env) Q (notedBy X.M X.A X.env (cameBackBy X.M X.A X.env E)) s) fun w2 y2 H2=>wpAny_execs_nil (p1.2 w2 (y1.priv y2 nf) (I1.priv y2 H2 no))) (fun r s q=>by obtain ⟨rfl,q⟩:=q;exact q) fun _ _ z=>z)
  | cons q ys=>
   have ln':ys.length+1=n:=ln
   have eq:xs[xs.length - n]? =some q:=by rw [← List.head?_drop,← dr];rfl
   unfold bh at p1
   split at p1
   ·rename_i ρ2 e2
    refine wpAny_mono (T.item (I1.ok.hd hc) l1 I1.toHR t1 eq f1 (Q:=fun u s=>wpAny (model X.prog X.w) X.A (assign tg X.env u) ?R ?N s) ?c) (fun r s q=>by obtain ⟨u,rfl,q⟩:=q;exact q) fun _ _ z=>z
    intro u w2 y2 H2 t2 f2 r2
    refine wpAny_passesOwn hp (hg.r (I1.priv y2 H2 no) r2 e2 fun w3 y3 I3=>wpAny_passesOwn hp (hb.r I3 ?_))
    have y03:=(y1.priv y2 nf).trans y3
    have l2:Lat w w2:=l1.trans ⟨y2.fz,y2.sub⟩
    have t3:∀ w4 h4,HR X.toSC w4 h4→StS X w3 w4→tn (xs.length - ys.length) w4.s.heap∧∀ b∈fp,∃ o,Has w4 b o:=fun w4 h4 H4 y4=>by
     have k:∀ b∈fp,∀ o,Has w2 b o→Has w4 b o:=fun b hb o q=>by
      obtain ⟨sl,q',z⟩:=(y3.trans y4).keep b o q (no b hb).w
      rcases z with z | rfl
      ·exact absurd z (no b hb).2.1
      ·exact q'
     refine ⟨?_,fun b hb=>let ⟨o,q⟩:=f2 b hb;⟨o,k b hb o q⟩⟩
     rw [show xs.length - ys.length=xs.length - n+1 by omega]
     exact T.keep l2 H2 (y3.trans y4).lat H4 t2 fun b hb o e=>let ⟨o',q⟩:=f2 b hb;(k b hb o ⟨e,q.2⟩).1
    have dy:ys=xs.drop (xs.length - ys.length):=by rw [show xs.length - ys.length=xs.length - n+1 by omega,← List.drop_drop,← dr];rfl
    have go:∀ ρ4 h4,bF X w0 Q E (bh g f ys ρ4 h4)→∀ w4,StS X w3 w4→Inv X w4 ρ4 h4→∃ m,m<n∧∃ w1 ρ1 h1 ys,w1.s=w4.s∧StS X w0 w1∧Lat w w1∧Inv X w1 ρ1 h1∧ys.length=m∧ys=xs.drop (xs.length - m)∧m≤xs.length∧tn (xs.length - m) w1.s.heap∧(∀ b∈fp,∃ o,Has w1 b o)∧bF X w0 Q E (bh g f ys ρ1 h1):=fun ρ4 h4 p4 w4 y4 I4=>⟨ys.length,by omega,w4,ρ4,h4,ys,rfl,y03.trans y4,l2.trans (y3.trans y4).lat,I4,rfl,dy,by omega,(t3 w4 h4 I4.toHR y4).1,(t3 w4 h4 I4.toHR y4).2,p4⟩
    split at p1<;>rename_i e3<;>rw [e3]
    ·exact ⟨p1.ep,go _ _ p1⟩
    ·exact ⟨p1.ep,go _ _ p1⟩
    all_goals exact p1.step y03
   ·exact p1.elim
end
end Z
namespace L3
def fR(h:List PO):PV→Option (PV×List PO)
 | .ref i=>match h[i]? with
  | some (.lst xs)=>if ai xs=true then some (.lst xs,h.set i (.froz (.lst xs))) else none
  | some (.dct _)=>none
  | some (.froz p)=>some (p,h)
  | some (.obj _ _)=>none
  | none=>none
 | p=>if p.pure=true then some (p,h) else none
def eX(f:Ax):Ax:=fun ρ h=>(f ρ h).bind fun ps h1=>match ps with
 | [.int j]=>if bel 4611686018427387904 j=true then .ok ((List.range j.toNat).map fun i=>PV.int (0+(i:Nat))) h1 else .bad
 | _=>.bad
def mh(p:PV)(h:List PO):Res (List PV):=match p with
 | .str l=>.ok (l.map fun c=>PV.str [c]) h
 | .tup xs=>.ok xs h
 | .lst xs=>.ok xs h
 | .giv xs=>.ok xs h
 | p=>match fR h p with
  | some (.lst xs,h2)=>.ok xs h2
  | _=>.bad
def ng(f:Ex):Ax:=fun ρ h=>(f ρ h).bind mh
def gN:PK→PV
 | .inl i=>.int i
 | .inr l=>.str l
def gg(p:PV)(h:List PO):Res (List PV):=match p with
 | .dct kps=>.ok (kps.map fun p=>gN p.1) h
 | p=>mh p h
def og(f:Ex):Ax:=fun ρ h=>(f ρ h).bind gg
end L3
namespace Z
open PySem PySem.Spec PyProof.Rows L3 L2
section
variable {G:SC} {X:Cx} {w w1:Wo} {ρ:Ev} {h:List PO} {pos p0:Pos} {tg a:Expr} {fa:Ex} {it:Addr} {xs:List PV} {s':Shared} {Q:Value→Shared→Prop} {E:Value→Shared→Prop}
theorem pj{o:Obj}(H:HR G w h)(q:Has w it o)(k:∀ b o,b≠it→w.s.heap.get? b=some o→s'.heap.get? b=some o)(ho:s'.os=w.s.os:=by rfl)(hg:s'.gens=w.s.gens:=by rfl):Pv [it] w { w with s:=s' }∧HR G { w with s:=s' } h:=
 ⟨⟨ho,fun q=>hg▸q,fun _ _ e=>e,fun _ _ e=>e,⟨[],by simp⟩,fun b o n e=>⟨o,k b o (by simpa using n) e⟩,fun b o n q=>⟨k b o (by simpa using n) q.1,q.2⟩⟩,H.on fun b o e' z=>k b o (by rintro rfl;exact z q.2) e'⟩
theorem ItR.new{w0:Wo}{o:Obj}{tn:Nat→Heap→Prop}{tk:Nat}(I:Inv X w ρ h)(y:Stp X.fs NoW w0 w)(T:AJ X.toSC w tg xs w.s.heap.objs.size [w.s.heap.objs.size] tn)(t:tn 0 (w.s.heap.push o))(ho:o.isFreed=false)(p:bH X (ItR X tg w0) w Q E (.ok xs h)):Q (.ref w.s.heap.objs.size) { w.s with heap:=w.s.heap.push o,toks:=tk }:=by
 have n:=Nw.also (X:=X) (s':= { w.s with heap:=w.s.heap.push o,toks:=tk }) I.toHR fun b o e=>Heap.get?_push_of_some _ e
 refine p.2 _ _ n ⟨_,_,tn,rfl,⟨T.keep,T.item,T.done,T.self⟩,t,?_⟩
 simp only [List.mem_singleton,forall_eq]
 refine ⟨⟨o,Heap.get?_push_size _ ho,I.toHR.free (aM _)⟩,I.out (aM _),?_⟩
 cases q:w0.s.heap.get? w.s.heap.objs.size with
 | none=>rfl
 | some o=>obtain ⟨o',q'⟩:=y.dom _ _ q;rw [aM] at q';cases q'
theorem KD{M:Model}{A:Around}{s:Shared}{u:Value}{o:Obj}{n:String}{vs:Array Value}{Q:Unit→Shared→Prop}(ho:s.heap.get? it=some o)(hc:o.cls= .type n)(hd:o.data= .fields vs)
    (hn: ["enumerate","zip","dict_itemiterator","dict_reverseitemiterator","odict_iterator","itertools.zip_longest","itertools.pairwise"].contains n=false) (hQ:Q () s):wpAny M A (letOwnedTupleGo tg (.ref it) u) Q E s:=by
  unfold letOwnedTupleGo
  cases tg<;>first
    | exact wpAny_pure hQ
    | (cases u<;>first
        | exact wpAny_pure hQ
        | (refine wpAny_bind (wpAny_load ho ?_)
           rw [hc,hd]
           show wpAny M A (if (["enumerate","zip","dict_itemiterator","dict_reverseitemiterator","odict_iterator","itertools.zip_longest","itertools.pairwise"].contains n&&vs[0]? ==some (rawInt _))=true then _ else _) Q E s
           rw [if_neg (by intro h;rw [hn,Bool.false_and] at h;cases h)]
           exact wpAny_pure hQ))
theorem ik{St:Nat→Heap→Prop}{P:Nat→Value→Prop}{src:List Addr}{n:Nat}(W:∀ A:Around,A.handled=none→Walks G.prog G.w A it (it::src) [it] n P St)(hl:xs.length=n)(fz:∀ b∈src,∃ o,w.F b=some o)
  (lv:∀ i g,St i g→∃ o m vs,g.get? it=some o∧o.cls= .type m∧o.data= .fields vs∧ ["enumerate","zip","dict_itemiterator","dict_reverseitemiterator","odict_iterator","itertools.zip_longest","itertools.pairwise"].contains m=false) (hP:∀ i p v,xs[i]? =some p→P i v→aX G w.F w.m p v):AJ G w tg xs it [it] St where
 keep {i w1 w2 h1 h2} l1 H1 l2 H2 st k:=(W callerA rfl).frame i _ _ st fun b hb o e=>by
  rcases List.mem_cons.mp hb with rfl | hb
  ·exact k b (by simp) o e
  ·obtain ⟨o',q⟩:=fz b hb
   rw [H1.at (l1.1 _ _ q)] at e
   cases e
   exact H2.at (l2.1 _ _ (l1.1 _ _ q))
 item {A w1 h i p Q E} hh y H st hx f q:=by
  obtain ⟨o,ho⟩:=f it (by simp)
  refine (W A hh).item i _ _ _ (by rw [← hl];exact (List.getElem?_eq_some_iff.mp hx).1) st fun v h' tk hv st' k=>⟨v,rfl,?_⟩
  obtain ⟨o',m,vs,e',c,d,z⟩:=lv _ _ st'
  obtain ⟨a1,a2⟩:=pj (s':= { w1.s with heap:=h',toks:=tk }) H ho fun b o hb e=>k b o (by simpa using hb) e
  exact KD (s:= { w1.s with heap:=h',toks:=tk }) e' c d z (q v _ a1 a2 st' (by simp;exact ⟨o',e',ho.2⟩) ((hP i p v hx hv).mono y.1 (.inr y.2)))
 done {A w1 h i Q E} hh y H st hx f q:=by
  obtain ⟨o,ho⟩:=f it (by simp)
  subst hl hx
  refine (W A hh).done _ _ _ st fun h' tk k=>⟨rfl,?_⟩
  obtain ⟨a1,a2⟩:=pj (s':= { w1.s with heap:=h',toks:=tk }) H ho fun b o hb e=>k b o (by simpa using hb) e
  exact q _ a1 a2
 self hh st q:=(W _ hh).self _ _ _ _ st q
theorem HR.fix{p:PV}{i:Nat}{a:Addr}{o:Obj}(H:HR X.toSC w h)(e:w.m[i]? =some a)(f:w.F a=none)(e1:w.s.heap.get? a=some o)(rr:aX X.toSC (iw w.F a o) w.m p (.ref a))(pu:p.pure=true):Nw X w ⟨iw w.F a o,w.O,w.m,w.s⟩ (h.set i (.froz p)):=by
 refine ⟨⟨rfl,id,cP f,fun _ _ e=>e,⟨[],by simp⟩,fun b o e=>⟨o,e⟩,fun b o q _=>⟨o.slots,⟨q.1,q.2.1,cQ (fun z=>q.2.1 (z▸List.mem_of_getElem? e)) q.2.2.1,q.2.2.2⟩,.inr rfl⟩⟩,fun b x q=>?_,fun d b q=>let ⟨o,z,y⟩:=H.own d b q;⟨o,z,cQ (fun e'=>z (e'▸List.mem_of_getElem? e)) y⟩,by simp [H.len],H.nd,fun j po b h1 h2=>?_⟩
 ·by_cases z:b=a
  ·subst z;cases bu.symm.trans q;exact e1
  ·exact H.sub b x ((kF z).symm.trans q)
 ·by_cases z:j=i
  ·subst z
   cases h2.symm.trans e
   rw [List.getElem?_set_self (H.len▸(List.getElem?_eq_some_iff.mp e).1)] at h1
   cases h1
   exact ⟨rr,pu,_,bu⟩
  ·rw [List.getElem?_set_ne (Ne.symm z)] at h1
   refine (H.obj j po b h1 h2).on (cP f) (fun _ e=>e) (fun _ _ e=>e) (fun _ _ e _=>e) (cQ ?_)
   rintro rfl
   obtain ⟨l1,e1⟩:=List.getElem?_eq_some_iff.mp h2
   obtain ⟨l2,e2⟩:=List.getElem?_eq_some_iff.mp e
   exact z ((List.getElem_inj H.nd).mp (e1.trans e2.symm))
theorem HR.frz{p q:PV}{u:Value}{h':List PO}(H:HR X.toSC w h)(r:aX X.toSC w.F w.m p u)(k:fR h p=some (q,h')):∃ F',Nw X w ⟨F',w.O,w.m,w.s⟩ h'∧aX X.toSC F' w.m q u∧q.pure=true:=by
 unfold fR at k
 split at k
 ·rename_i i
  cases r with
  | @ref _ a e=>
   cases q0:h[i]? <;>rw [q0] at k<;>try simp only at k
   ·cases k
   ·rename_i po
    cases po with
    | lst xs=>
     simp only at k
     split at k<;>cases k
     obtain ⟨f,its,n,e1,z,r⟩:=H.obj _ _ _ q0 e
     have rr:aX X.toSC (iw w.F a ({ cls:=.type "list",data:=.seq its n })) w.m (.lst xs) (.ref a):=.lst bu z (r.mono (cP f) (.inr fun _ _ e=>e))
     have pu:(PV.lst xs).pure=true:=by simpa [PV.pure] using ‹_›
     exact ⟨_,H.fix e f e1 rr pu,rr,pu⟩
    | froz p=>simp only at k;cases k;obtain ⟨r,z,_⟩:=H.obj _ _ _ q0 e;exact ⟨w.F,⟨.refl,H⟩,r,z⟩
    | _=>cases k
 ·split at k<;>cases k
  exact ⟨w.F,⟨.refl,H⟩,r, ‹_›⟩
theorem Bf{p:PV}{v:Value}{w0:Wo}(I:Inv X w ρ h)(y:Stp X.fs NoW w0 w)(r:aX X.toSC w.F w.m p v)(k:bH X (ItR X tg w0) w Q E (mh p h)):Wp X (pyIter v) Q E w.s:=by
 have seq:∀ {w:Wo} {h:List PO} {xs:List PV} {p:PV} {t:String},Inv X w ρ h→Stp X.fs NoW w0 w→aX X.toSC w.F w.m p v→sqT p=some (t,xs)→bH X (ItR X tg w0) w Q E (.ok xs h)→Wp X (pyIter v) Q E w.s:=by
  intro w h xs p t I y r k q
  have tup:∀ {a:Addr} {its:Array Value} {n:Nat},w.F a=some ({ cls:=.type "tuple",data:=.seq its n })→av X.toSC w.F w.m xs its.toList→Wp X (pyIter (.ref a)) Q E w.s:=fun {a its n} e r=>by
   have ne:a≠w.s.heap.objs.size:=fun z=>by have:=I.toHR.at e;rw [z,aM] at this;cases this
   refine wpAny_pyIter_tuple (items:=its) ⟨_,I.toHR.at e,rfl,n,rfl⟩ (ItR.new I y (ik (src:= [a]) (fun A hA=>Walks.tuple hA _ a ne its) r.len (fun b hb=>by simp at hb;exact ⟨_,hb▸e⟩) (fun i g st=>let ⟨o,e,c,d⟩:=st.1;⟨o,_,_,e,c,d,by decide⟩) fun i p v e h=>?_) ⟨⟨_,Heap.get?_push_size _ rfl,rfl,rfl⟩,⟨_,Heap.get?_push_of_some _ (I.toHR.at e),rfl,n,rfl⟩⟩ rfl q)
   obtain ⟨u,e',r'⟩:=r.get e
   rw [show its[i]? =some u by simpa using e'] at h
   cases h;exact r'
  have lst:∀ {a:Addr} {its:Array Value} {n:Nat},w.F a=some ({ cls:=.type "list",data:=.seq its n })→av X.toSC w.F w.m xs its.toList→Wp X (pyIter (.ref a)) Q E w.s:=fun {a its n} e r=>by
   have ne:a≠w.s.heap.objs.size:=fun z=>by have:=I.toHR.at e;rw [z,aM] at this;cases this
   refine wpAny_pyIter_list (items:=its) ⟨_,I.toHR.at e,rfl,n,rfl⟩ (ItR.new I y (ik (src:= [a]) (fun A hA=>Walks.list hA _ a ne its) r.len (fun b hb=>by simp at hb;exact ⟨_,hb▸e⟩) (fun i g st=>let ⟨o,e,c,d⟩:=st.1;⟨o,_,_,e,c,d,by decide⟩) fun i p v e h=>?_) ⟨⟨_,Heap.get?_push_size _ rfl,rfl,rfl⟩,⟨_,Heap.get?_push_of_some _ (I.toHR.at e),rfl,n,rfl⟩⟩ rfl q)
   obtain ⟨u,e',r'⟩:=r.get e
   rw [show its[i]? =some u by simpa using e'] at h
   cases h;exact r'
  cases r<;>cases k
  ·exact tup ‹_› ‹_›
  ·exact lst ‹_› ‹_›
  ·exact lst ‹_› ‹_›
 unfold mh at k
 split at k
 ·rename_i l
  cases r
  have hP:∀ (i:Nat) (p:PV) (v:Value),(l.map fun c=>PV.str [c])[i]? =some p→SignAt (S l) i v→aX X.toSC w.F w.m p v:=fun i p v e ⟨c,t,e',e''⟩=>by
   rw [List.getElem?_map,show l[i]? =some c by simpa [S] using e'] at e
   cases e;subst e'';exact .str [c] t
  cases ha:(S l).cps.all (· <128)
  ·exact wpAny_pyIter_wide ha (ItR.new I y (ik (src:= []) (fun A hA=>Walks.strWide hA _ _ _) (by simp [S]) (fun b hb=>nomatch hb) (fun i g ⟨o,e,c,d⟩=>⟨o,_,_,e,c,d,by decide⟩) hP) ⟨_,Heap.get?_push_size _ rfl,rfl,rfl⟩ rfl k)
  ·exact wpAny_pyIter_ascii ha (ItR.new I y (ik (src:= []) (fun A hA=>Walks.strAscii hA _ _ _) (by simp [S]) (fun b hb=>nomatch hb) (fun i g ⟨o,e,c,d⟩=>⟨o,_,_,e,c,d,by decide⟩) hP) ⟨_,Heap.get?_push_size _ rfl,rfl,rfl⟩ rfl k)
 ·exact seq I y r rfl k
 ·exact seq I y r rfl k
 ·exact seq I y r rfl k
 ·split at k
  ·rename_i e
   obtain ⟨F',n,r',_⟩:=I.toHR.frz r e
   exact seq (w:=⟨F',w.O,w.m,w.s⟩) (I.on n) (y.trans n.1) r' rfl (k.step n)
  ·exact k.elim
theorem iP(ha:RE X a fa):RI X tg a (ng fa):=⟨fun I p=>ha.r I (p.bind fun _ _ _ _ y r p=>Bf (I.on y) y.1 r p)⟩
theorem kD(ha:RE X a fa):RI X tg a (og fa):=⟨fun I p=>ha.r I (p.bind fun w _ _ _ y r p=>by
 unfold gg at p
 split at p
 ·rename_i kps
  cases r with
  | @dct _ a o kvs e d sm z c r=>
   have I:=I.on y
   have g:=I.toHR.at e
   obtain ⟨x,es,ep,d1,d2⟩:=id d
   have ne:a≠w.s.heap.objs.size:=fun z=>by rw [z,aM] at g;cases g
   have l:kvs.length=kps.length:=by have:=congrArg List.length c;simpa using this
   refine wpAny_pyIter_dict (knd:=pk X.prog X.w) (kvs:=kvs) (ep:=ep) sm ⟨o,es,g,x,d1,d2⟩ (ItR.new I y.1 (ik (src:= [a]) (fun A hA=>Walks.dictKeys (knd:=pk X.prog X.w) hA _ a ne kvs ep) (by simp [l]) (fun b hb=>by simp at hb;exact ⟨_,hb▸e⟩) (fun i g st=>let ⟨o,e,c,d⟩:=st.1;⟨o,_,_,e,c,d,by decide⟩) fun i p v e' h=>?_) ⟨⟨_,Heap.get?_push_size _ rfl,rfl,rfl⟩,⟨o,es,Heap.get?_push_of_some _ g,x,d1,d2⟩⟩ rfl p)
   obtain ⟨k,x,e1,e2⟩:=h
   have e3:(kps.map (·.1))[i]? =some k:=by rw [← c,List.getElem?_map,e1];rfl
   rw [List.getElem?_map] at e3 e'
   obtain ⟨q,e4,rfl⟩:=Option.map_eq_some_iff.mp e3
   rw [e4] at e'
   cases e'
   rcases dG e2 with ⟨i,t,z,rfl⟩ | ⟨x,t,z,rfl⟩<;>(show aX _ _ _ (gN q.1) _;rw [z])
   ·exact .int i t
   ·exact .str x t
 ·exact Bf (I.on y) y.1 r p)⟩
theorem dC{e:Expr}{f:Ax}(hg:Gl X "range")(hm:X.mg "range"=none)(ha:RA X [e] f)(hs:starEach [e] X.env= [(false,eval e X.env)]:=by rfl):RI X tg (.Call (.Name "range" p0) [e] [] pos) (eX f):=⟨fun I p=>Call_ (I.blt hg hm boot_range (callWith_type1 (ha.r pos I (p.bind fun w _ ps us y r p=>by
 split at p
 ·rename_i j
  split at p
  ·rename_i hb
   have hb:=bV.mp hb
   cases r with
   | cons r t=>
    cases t;cases r
    refine call_range_1 ?_
    have n:=Nw.also (X:=X) (s':= { w.s with heap:=w.s.heap.push { cls:=.type "range",data:=.fields #[.int 0 w.s.toks,.int j ‹_›,.int 1 (w.s.toks+1)] },toks:=w.s.toks+1+1 }) y.2 fun b o e=>Heap.get?_push_of_some _ e
    refine wpAny_pyIter_range (IsRange.new ..) (small_one (by omega) (by omega) (by omega) (by omega)) (ItR.new ((I.on y).on n) (y.1.trans n.1) (ik (n:=j.toNat) (src:= []) (fun A hA=>Walks.range hA _ 0 1 _) (by simp) (fun b hb=>nomatch hb) (fun i g st=>⟨_,_,_,st,rfl,rfl,by decide⟩) fun i p v e h=>?_) ?_ rfl (p.step n))
    ·obtain ⟨t,rfl⟩:=h
     rw [List.getElem?_map] at e
     obtain ⟨q,e',rfl⟩:=Option.map_eq_some_iff.mp e
     obtain rfl:i=q:=by have:=List.getElem?_eq_some_iff.mp e';simpa using this.2
     rw [Int.mul_one];exact .int _ t
    ·show IsRangeIter _ _ (0+((0:Nat):Int) * 1) ((j.toNat:Int) - ((0:Nat):Int)) 1
     rw [show (0:Int)+((0:Nat):Int) * 1=0 by simp,show (j.toNat:Int) - ((0:Nat):Int)=Builtin.Range.rangeSize 0 j 1 by rw [rangeSize_one];split<;>omega]
     exact Heap.get?_push_size _ rfl
  ·exact p.elim
 ·exact p.elim)) hs rfl))⟩
end
end Z
namespace L2
open PySem PySem.Spec PyProof.Rows
structure kN(N P:List Str)(sc:Scope):Prop where
 kind:sc.kind= .function
 co:sc.isCoroutine=false
 gen:sc.isGenerator=false
 nd:N.Nodup
 pre:N.take P.length=P
 par:∀ x∈P,sc.names.lookup x=some .local∨sc.names.lookup x=some .cell
 nofree:∀ y∈sc.names,y.2≠.free
theorem sH{kindOf:Str→Option NameKind}{x:Str}:∀ {binds:List (Str×Value)} {m:Str→Option Value},(∀ v,(x,v)∉binds)→bindL kindOf binds m x=m x
 | [],_,_=>rfl
 | (n,v)::r,m,h=>by
  unfold bindL
  rw [sH fun w hw=>h w (List.mem_cons_of_mem _ hw)]
  split
  ·have:x≠n:=by rintro rfl;exact h v List.mem_cons_self
   simp [this]
  ·rfl
theorem sJ{kindOf:Str→Option NameKind}{x:Str}:∀ {binds:List (Str×Value)} {m:Str→Option Value},(∀ v,(x,v)∉binds)→bindC kindOf binds m x=m x
 | [],_,_=>rfl
 | (n,v)::r,m,h=>by
  unfold bindC
  rw [sJ fun w hw=>h w (List.mem_cons_of_mem _ hw)]
  split
  ·rfl
  ·have:x≠n:=by rintro rfl;exact h v List.mem_cons_self
   simp [this]
theorem sI{kindOf:Str→Option NameKind}{x:Str}{v:Value}:∀ {P:List Str} {vs:List Value} {i:Nat} {m:Str→Option Value},P.Nodup→P[i]? =some x→vs[i]? =some v→kindOf x=some .local→
  bindL kindOf (P.zip vs) m x=some v
 | [],_,_,_,_,h,_,_=>by simp at h
 | _::_,[],_,_,_,_,h,_=>by simp at h
 | p::P,w::vs,0,m,nd,h1,h2,hk=>by
  simp at h1 h2;subst h1;subst h2
  show bindL kindOf ((p,w)::P.zip vs) m p=_
  unfold bindL
  rw [sH fun v hv=>(List.nodup_cons.mp nd).1 (List.of_mem_zip hv).1,if_pos hk]
  simp
 | p::P,w::vs,i+1,m,nd,h1,h2,hk=>by
  show bindL kindOf ((p,w)::P.zip vs) m x=_
  unfold bindL
  exact sI (i:=i) (List.nodup_cons.mp nd).2 (by simpa using h1) (by simpa using h2) hk
theorem sK{kindOf:Str→Option NameKind}{x:Str}{v:Value}:∀ {P:List Str} {vs:List Value} {i:Nat} {m:Str→Option Value},P.Nodup→P[i]? =some x→vs[i]? =some v→kindOf x≠some .local→
  bindC kindOf (P.zip vs) m x=some v
 | [],_,_,_,_,h,_,_=>by simp at h
 | _::_,[],_,_,_,_,h,_=>by simp at h
 | p::P,w::vs,0,m,nd,h1,h2,hk=>by
  simp at h1 h2;subst h1;subst h2
  show bindC kindOf ((p,w)::P.zip vs) m p=_
  unfold bindC
  rw [sJ fun v hv=>(List.nodup_cons.mp nd).1 (List.of_mem_zip hv).1,if_neg hk]
  simp
 | p::P,w::vs,i+1,m,nd,h1,h2,hk=>by
  show bindC kindOf ((p,w)::P.zip vs) m x=_
  unfold bindC
  exact sK (i:=i) (List.nodup_cons.mp nd).2 (by simpa using h1) (by simpa using h2) hk
theorem vV{sc:Scope}{n:Nat}{x:Str}(h:sc.names.lookup x=some .cell):∃ c,(cellsFrom n sc.names []).lookup x=some c:=by
 have q:=PySem.W.cellsFrom_some sc.names n [] (.inl h)
 exact Option.isSome_iff_exists.mp q
structure dY(k:Nat)(A:Around):Prop where
 dp:A.depth+3 * k+5<recursionLimit
 un:A.units+16 * k+200<cLine
 gd:A.guards=some []
theorem dY.mono{j k:Nat}{A:Around}(r:dY k A)(h:j≤k):dY j A:=⟨by have:=r.dp;omega,by have:=r.un;omega,r.gd⟩
theorem dY.deeper{k:Nat}{A:Around}(r:dY (k+1) A)(env:Env):dY k (A.deeper env):=
 ⟨by have:=r.dp;show A.depth+1+3 * k+5<_;omega,by have:=r.un;show A.units+3+16 * k+200<_;omega,r.gd⟩
theorem xd{A:Around}{C:Addr}{us:List Value}{kw:List (Str×Value)}:(A.under (.builtin "type.__call__" ⟨.ref C::us,kw⟩)).depth=A.depth+1:=by
 first | rfl | simp [Around.under,Code.weight,Code.isCreation,Code.isGuard,Code.isCaller,Code.frames,Code.isFrame,guardIds]
theorem wZ{A:Around}{C:Addr}{us:List Value}{kw:List (Str×Value)}:(A.under (.builtin "type.__call__" ⟨.ref C::us,kw⟩)).units=A.units+1:=by
 first | rfl | simp [Around.under,Code.cUnits,Code.frames,Code.isFrame]
theorem dY.make{k:Nat}{A:Around}(r:dY (k+1) A)(C:Addr)(us:List Value)(kw:List (Str×Value)):dY k (A.under (.builtin "type.__call__" ⟨.ref C::us,kw⟩)):=
 ⟨by have:=r.dp;rw [xd];omega,by have:=r.un;rw [wZ];omega,by first | exact r.gd | (simp [Around.under,Code.guards,Code.isGuard,guardIds,pushGuards];exact r.gd)⟩
theorem dY.depth{k:Nat}{A:Around}(r:dY k A):A.depth<recursionLimit:=by have:=r.dp;omega
theorem dY.units{k:Nat}{A:Around}(r:dY k A):A.units+64<cLine:=by have:=r.un;omega
def iO(K:PySem.W.Frag)(fd:FuncData)(ps:List Str)(ds:List Value):Prop:=
 ∀ (s:Shared) (us:List Value),K.In s.heap→(us++ds).length=ps.length→BindsTo s fd ⟨us,[]⟩ (ps.zip (us++ds))
def bE(s:Stmt)(j:Nat):Stmt:=match s with
 | .ClassDef _ _ _ body _ _ _ _ _ _ _=>body.getD j (.Pass ⟨0,0,0,0⟩)
 | _=>.Pass ⟨0,0,0,0⟩
def tX(s:Stmt):Arguments:=match s with
 | .FunctionDef _ a _ _ _ _ _ _ _ _=>a
 | _=> { posonlyargs:= [],args:= [],vararg:=none,kwonlyargs:= [],kw_defaults:= [],kwarg:=none,defaults:= [] }
def gX(s:Stmt):List Stmt:=match s with
 | .FunctionDef _ _ b _ _ _ _ _ _ _=>b
 | _=> []
def aV(s:Stmt):Scope:=match s with
 | .FunctionDef _ _ _ _ _ _ sc _ _ _=>sc
 | _=> { kind:=.function,names:= [],isGenerator:=false,isCoroutine:=false }
structure Fun(K:PySem.W.Frag)(x qual:Str)(st:Stmt)(f:Addr)(fd:FuncData):Prop where
 ex:∃ (oc:Value) (od:Option Addr) (kV doc pm:Value) (an:Option Addr) (cdv ct:Value) (osl:Array (Option Value)),
  fd=PySem.W.fnOf x qual (tX st) (gX st) (aV st) .none kV doc pm an cdv ct∧K.lookup f=some ⟨oc,od,.func fd,osl⟩∧PySem.W.codeIn K cdv qual=true
 kp:PySem.W.keepIn K (.ref f)=true
end L2
namespace L3
def st0(n:Nat)(ps:List PV):Ev:=ps.map some++List.replicate (n - ps.length) none
end L3
namespace Z
open PySem PySem.Spec PyProof.Rows L3 L2
def jB(c:Bool)(X:Cx)(N:List Str)(qual:Str)(scope:Scope)(f:Addr)(cd:Value)(A:Around)(s:Shared):Cx:=
 { X with A:=A.deeper (envOfC qual scope s.heap.objs.size f cd),N:=N,env:=envOfC qual scope s.heap.objs.size f cd,stack:=envOfC qual scope s.heap.objs.size f cd::X.stack,fn:=fun _=>true,calm:=c,tr:=true,Ep:=PassesOwn (model X.prog X.w) (A.deeper (envOfC qual scope s.heap.objs.size f cd)) (envOfC qual scope s.heap.objs.size f cd) }
def New(X Y:Cx)(w:Wo):Prop:=(∀ b,Y.W b→w.s.heap.get? b=none)∧∀ b∈Y.fs,b∈X.fs∨w.s.heap.get? b=none
section
variable {X:Cx} {w:Wo} {h:List PO} {N ps:List Str} {qual name:Str} {scope:Scope} {f:Addr} {cd:Value} {A:Around} {qs:List PV} {us:List Value} {k:Nat} {R:Result→Shared→Prop}
def Gy(env:Env)(ps:List Str)(us:List Value)(s s1:Shared):Prop:=∃ h t,s1= { s with heap:=h,toks:=t }∧(∀ b o,s.heap.get? b=some o→h.get? b=some o)∧∃ m,h.Ns env.locals m∧∀ (i:Nat) y u,ps[i]? =some y→us[i]? =some u→wj env h m y u
theorem Az{s1:Shared}(S:kN N ps scope){c:Bool}(hd:c=true→A.handled=none)(hf:A.frames=some X.stack)(I:Wd X w h)(ok:X.Ok)(hl:qs.length=ps.length)(r:av X.toSC w.F w.m qs us)
  (x:InCallC w.s w.s.heap.objs.size (bindL (envOfC qual scope w.s.heap.objs.size f cd).kindOf (ps.zip us) fun _=>none) (cellsFrom (w.s.heap.objs.size+1) scope.names []) (bindC (envOfC qual scope w.s.heap.objs.size f cd).kindOf (ps.zip us) fun _=>none) s1):
  New X (jB c X N qual scope f cd A w.s) w∧Stp X.fs NoW w { w with s:=s1 }∧Inv (jB c X N qual scope f cd A w.s) { w with s:=s1 } (st0 N.length qs) h∧Gy (envOfC qual scope w.s.heap.objs.size f cd) ps us w.s s1:=by
 have hpl:ps.length≤N.length:=by have:=congrArg List.length S.pre;rw [List.length_take] at this;omega
 obtain ⟨h1,tk,rfl,hk⟩:=x.done
 have n:=Nw.also (X:=X) (s':= { w.s with heap:=h1,toks:=tk }) I.toHR hk
 have W:=I.on n.1 (fun _ _ z=>z.elim) n.2
 have nn:∀ {b},w.s.heap.objs.size≤b→w.s.heap.get? b=none:=fun {b} z=>by cases q:w.s.heap.get? b with | none=>rfl | some o=>exact absurd (Nat.lt_of_lt_of_le (Heap.lt_size q) z) (Nat.lt_irrefl _)
 have pv:∀ {b o},w.s.heap.objs.size≤b→h1.get? b=some o→Has { w with s:= { w.s with heap:=h1,toks:=tk } } b o:=fun {b o} z e=>⟨e,I.toHR.free (nn z)⟩
 obtain ⟨oL,es,ep,eL,dL,_⟩:=id x.toInCall.ns
 have hL:=pv (Nat.le_refl _) eL
 have ndP:ps.Nodup:=by rw [← S.pre];exact S.nd.sublist (List.take_sublist _ _)
 have lk:∀ (i:Nat) y u,ps[i]? =some y→us[i]? =some u→wj (envOfC qual scope w.s.heap.objs.size f cd) h1 (bindL (envOfC qual scope w.s.heap.objs.size f cd).kindOf (ps.zip us) fun _=>none) y u:=fun i y u hp hu=>by
  rcases S.par y (List.mem_of_getElem? hp) with k | k
  ·exact .inl ⟨k,sI ndP hp hu k⟩
  ·obtain ⟨c,e⟩:=vV (n:=w.s.heap.objs.size+1) k
   refine .inr ⟨.inl k,c,e,?_⟩
   have q:=x.cell y c e
   rw [sK ndP hp hu (by show scope.names.lookup y≠_;rw [k];decide)] at q
   exact q
 refine ⟨⟨fun b z=>z.elim (fun z=>z▸aM _) fun ⟨y,_,e⟩=>nn (Nat.le_of_lt (x.above y b (PySem.mem_of_lookup e))),fun b z=>(List.mem_cons.mp (show b∈w.s.heap.objs.size::X.fs from z)).elim (fun z=>.inr (by rw [z];exact aM _)) .inl⟩,n.1,⟨⟨W.toHR,W.ba,W.bs,fun b hb=>?_⟩,⟨ok.kin,ok.gl,ok.bl,ok.nl,S.kind,rfl,rfl,fun y z c h1 h2=>?_,fun y hy=>?_,hd,Around.frames_deeper hf,S.nd,fun e he=>?_⟩,⟨_,oL,x.toInCall.ns,hL,fun i p e=>?_⟩,fun y c e=>?_,?_⟩,_,_,rfl,hk,_,x.toInCall.ns,lk⟩
 ·rcases List.mem_cons.mp (show b∈w.s.heap.objs.size::X.fs from hb) with rfl | hb
  ·exact ⟨oL,hL,fun vs z=>by rw [dL] at z;cases z⟩
  ·exact W.fr b hb
 ·exact name_of_addr x.apart (PySem.mem_of_lookup h1) (PySem.mem_of_lookup h2)
 ·have hy:scope.names.lookup y=some .cell∨scope.names.lookup y=some .free:=hy
  rcases hy with hy | hy
  ·exact vV hy
  ·exact absurd rfl (S.nofree _ (PySem.mem_of_lookup hy))
 ·rcases List.mem_cons.mp he with rfl | he
  ·exact ⟨by rw [show (envOfC qual scope w.s.heap.objs.size f cd).scope.kind= .function from S.kind];decide,_,rfl,by
    cases q:X.base.get? w.s.heap.objs.size with
    | none=>exact q
    | some o=>have:=I.bk q;rw [aM] at this;cases this⟩
  ·exact ok.sf e he
 ·have hi:i<qs.length:=by
   unfold st0 at e
   by_cases hi:i<qs.length
   ·exact hi
   ·rw [List.getElem?_append_right (by simpa using hi),List.getElem?_replicate] at e
    split at e<;>cases e
  have ha:qs[i]? =some p:=by
   unfold st0 at e
   rw [List.getElem?_append_left (by simpa using hi),List.getElem?_map] at e
   cases e':qs[i]? with
   | none=>rw [e'] at e;cases e
   | some a=>rw [e'] at e;cases e;rfl
  obtain ⟨u,hu,rv⟩:=r.get ha
  obtain ⟨y,hp⟩:∃ y,ps[i]? =some y:=⟨ps[i],by simp [hl▸hi]⟩
  have hN:N[i]? =some y:=by rw [← S.pre,List.getElem?_take_of_lt (by omega)] at hp;exact hp
  exact ⟨y,u,hN,rv,lk i y u hp hu⟩
 ·obtain ⟨o,q,d⟩:=x.cell y c e
  exact ⟨_,o,⟨o,q,d⟩,pv (Nat.le_of_lt (x.above y c (PySem.mem_of_lookup e))) q⟩
 ·simp only [st0,List.length_append,List.length_map,List.length_replicate]
  show _=N.length
  omega
abbrev RC(Q:Value→Shared→Prop)(E:Value→Shared→Prop)(r:Result)(s:Shared):Prop:=match r with
 | .ok (.ret u)=>Q u s
 | .ok _=>False
 | .error e=>E e s
theorem nN{c:Bool}{st:Stmt}{fd:FuncData}{args:Args}{Q:Value→Shared→Prop}{E:Value→Shared→Prop}(F:Fun X.K name qual st f fd)(S:kN N ps (aV st))(hr:dY (k+1) A)(hd:c=true→A.handled=none)(hf:A.frames=some X.stack)(I:Wd X w h)(ok:X.Ok)(hl:qs.length=ps.length)(r:av X.toSC w.F w.m qs us)(hb:BindsTo w.s fd args (ps.zip us))
  (go:∀ cd s1,dY k (A.deeper (envOfC qual (aV st) w.s.heap.objs.size f cd))→New X (jB c X N qual (aV st) f cd A w.s) w→Stp X.fs NoW w { w with s:=s1 }→Inv (jB c X N qual (aV st) f cd A w.s) { w with s:=s1 } (st0 N.length qs) h→Gy (envOfC qual (aV st) w.s.heap.objs.size f cd) ps us w.s s1→
   Wp (jB c X N qual (aV st) f cd A w.s) (execs (gX st) (jB c X N qual (aV st) f cd A w.s).env) (fun fl s=>match fl with | .ret u=>Q u s | .next=>Q .none s | _=>False) (fun e s=>Wp (jB c X N qual (aV st) f cd A w.s) (leaving (jB c X N qual (aV st) f cd A w.s).env e) (fun _ s=>E e s) E s) s1):
  codeAny (model X.prog X.w) A (.call (.ref f) args) (RC Q E) w.s:=by
 obtain ⟨oc,od,kV,doc,pm,an,cdv,ct,osl,rfl,lk,hcd⟩:=F.ex
 have KX:X.K.In w.s.heap:=ok.kin.keeps fun _ _ e=>I.bk e
 have lim:w.s.heap.NoLimit:=ok.nl.keeps fun _ _ e=>I.bk e
 have hkind:∀ y∈ps.zip us,(aV st).names.lookup y.1=some .local∨((aV st).names.lookup y.1=some .cell∧((cellsFrom (w.s.heap.objs.size+1) (aV st).names []).lookup y.1).isSome=true):=fun ⟨n,v⟩ hy=>(S.par n (List.of_mem_zip hy).1).imp_right fun q=>⟨q,PySem.W.cellsFrom_some _ _ _ (.inl q)⟩
 refine codeAny_call_function hr.depth (KX _ _ lk) rfl S.co S.gen rfl (PySem.W.codeRec_of KX hcd) (hb _ _ _ _ ?_)
 refine wpAny_newFunctionEnv_cells S.kind hkind fun env he s1 x=>?_
 subst he
 refine ⟨lim.keeps x.toInCall.keep,codeAny_func ?_⟩
 obtain ⟨nw,y,J,gr⟩:=Az (N:=N) (cd:=cdv) S hd hf I ok hl r x
 refine wpAny_mono (go cdv s1 (hr.deeper _) nw y J gr) (fun fl s' hs=>?_) fun e s' hs=>hs
 cases fl<;>first | exact hs | exact hs.elim
end
end Z
namespace L3
def frzs:List PV→List PO→Option (List PV×List PO)
 | [],h=>some ([],h)
 | p::r,h=>match fR h p with
  | some (q,h1)=>match frzs r h1 with
   | some (qs,h2)=>some (q::qs,h2)
   | none=>none
  | none=>none
inductive Out where
 | ok (v:PV) | bad
def br(v:PV)(h:List PO):Out:=match fR h v with
 | some (q,_)=>.ok q
 | none=>.bad
def ar(f:Sx)(np n:Nat)(ps:List PV):Out:=if ps.length=np then match f (ps.map some++List.replicate (n - ps.length) none) [] with
  | .nx _ _=>.ok .non
  | .rt v h=>br v h
  | _=>.bad
 else .bad
def bn(fn:List PV→Out)(ps:List PV)(h:List PO):Res PV:=match frzs ps h with
 | some (qs,h2)=>match fn qs with
  | .ok v=>.ok v h2
  | .bad=>.bad
 | none=>.bad
def bj(fn:List PV→Out)(as:Ax):Ex:=fun ρ h=>(as ρ h).bind (bn fn)
end L3
namespace Z
open PySem PySem.Spec PyProof.Rows L3 L2
structure FnP(G:SC)(k:Nat)(f:Addr)(fd:FuncData)(ps:List Str)(fn:List PV→Out):Prop where
 len:∀ qs v,fn qs= .ok v→qs.length=ps.length
 run:∀ {X:Cx} {w:Wo} {h:List PO} {A:Around} {qs:List PV} {us:List Value} {v:PV} {args:Args} {Q:Value→Shared→Prop} {E:Value→Shared→Prop},X.toSC=G→dY k A→A.handled=none→A.frames=some X.stack→Wd X w h→X.Ok→av G w.F [] qs us→fn qs= .ok v→BindsTo w.s fd args (ps.zip us)→
  (∀ F' s' u,Nw X w ⟨F',w.O,w.m,s'⟩ h→aX G F' [] v u→Q u s')→codeAny (model G.prog G.w) A (.call (.ref f) args) (RC Q E) w.s
section
variable {G:SC} {X:Cx} {w w1:Wo} {ρ:Ev} {h h1:List PO} {N ps:List Str} {qual name:Str} {st:Stmt} {f:Addr} {fd:FuncData} {k:Nat} {g:Sx}
theorem Wd.hide(I:Wd X w h):Wd X ⟨w.F,fun _=>none,[],w.s⟩ []:=⟨⟨I.sub,fun _ _ e=>(nomatch e),rfl,List.nodup_nil,fun _ _ _ e=>(nomatch e)⟩,I.ba,I.bs,fun b hb=>let ⟨o,q,d⟩:=I.fr b hb;⟨o,⟨q.1,by simp,q.2.2.1,rfl⟩,d⟩⟩
theorem Stp.out{Y:Cx}{w2:Wo}(nw:New X Y w)(y:StS Y w w2):Stp X.fs NoW w w2:=⟨y.os,y.ba,y.fz,y.ow,y.pre,y.dom,fun b o q _=>by
 obtain ⟨sl,q',z⟩:=y.keep b o q fun z=>by have q:=q.1;rw [nw.1 b z] at q;cases q
 exact ⟨sl,q',z.imp_left fun z=>(nw.2 b z).resolve_right fun z=>by have q:=q.1;rw [z] at q;cases q⟩⟩
theorem Nw.back{m0:List Addr}{h':List PO}(I:Wd X w h)(y:Stp X.fs NoW ⟨w.F,fun _=>none,m0,w.s⟩ w1)(H:HR X.toSC w1 h1)(hl:h'.length=h.length)(hm:∀ a∈m0,a∈w.m)(ho:∀ (i:Nat) po a,h'[i]? =some po→w.m[i]? =some a→a∈m0→qO X.toSC w1.F w.m w.O w1.s.heap a po)(hk:∀ (i:Nat) po a,h'[i]? =some po→w.m[i]? =some a→a∉m0→h[i]? =some po):Nw X w ⟨w1.F,w.O,w.m,w1.s⟩ h':=by
 have k:∀ b o,w.s.heap.get? b=some o→w.F b=none→b∉m0→∃ sl,(w1.s.heap.get? b=some { o with slots:=sl }∧w1.F b=none)∧(b∈X.fs∨sl=o.slots):=fun b o e n z=>by
  obtain ⟨sl,q,z⟩:=y.keep b o ⟨e,z,n,rfl⟩ fun z=>z
  exact ⟨sl,⟨q.1,q.2.2.1⟩,z⟩
 have k':∀ b o,w.s.heap.get? b=some o→w.F b=none→b∉m0→b∉X.fs→w1.s.heap.get? b=some o∧w1.F b=none:=fun b o e n y z=>by
  obtain ⟨sl,q,z'⟩:=k b o e n y
  rcases z' with z' | rfl
  ·exact absurd z' z
  ·exact q
 have nf:∀ {b},¬ Fre w b→b∉X.fs:=fun n z=>let ⟨_,q,_⟩:=I.fr _ z;n q.2
 have no:∀ {b a},w.O b=some a→b∉m0:=fun e z=>let ⟨_,y,_⟩:=I.own _ _ e;y (hm _ z)
 refine ⟨⟨y.os,y.ba,y.fz,fun _ _ e=>e,⟨[],by simp⟩,y.dom,fun b o q _=>?_⟩,H.sub,fun d a e=>?_,hl.trans I.len,I.nd,fun i po a e1 e2=>?_⟩
 ·obtain ⟨sl,q',z⟩:=k b o q.1 q.2.2.1 fun z=>q.2.1 (hm _ z);exact ⟨sl,⟨q'.1,q.2.1,q'.2,q.2.2.2⟩,z⟩
 ·obtain ⟨⟨o,q⟩,z,n⟩:=I.own d a e;exact ⟨y.dom d o q,z,(k' d o q n (no e) (nf fun y=>by rw [y.2.2] at e;cases e)).2⟩
 ·by_cases z0:a∈m0
  ·exact ho i po a e1 e2 z0
  ·refine (I.obj i po a (hk i po a e1 e2 z0) e2).on y.fz (fun _ e=>e) (fun _ _ e=>e) (fun b o e z=>?_) fun n=>?_
   ·cases n:w.F b with
    | some x=>rw [I.sub b x n] at e;cases e;exact H.sub b _ (y.fz _ _ n)
    | none=>exact (k' b o e n (z.elim (fun z=>z▸z0) no) (nf fun y=>z.elim (fun z=>y.1 (z▸List.mem_of_getElem? e2)) fun z=>by rw [y.2.2] at z;cases z)).1
   ·obtain ⟨o,q⟩:=I.toHR.there (List.mem_of_getElem? e2)
    exact (k' a o q n z0 (nf fun y=>y.1 (List.mem_of_getElem? e2))).2
theorem Nw.show{Y:Cx}(I:Wd X w h)(nw:New X Y w)(y:StS Y ⟨w.F,fun _=>none,[],w.s⟩ w1)(H:HR X.toSC w1 h1):Nw X w ⟨w1.F,w.O,w.m,w1.s⟩ h:=Nw.back I (Stp.out (w:=⟨w.F,fun _=>none,[],w.s⟩) nw y) H rfl (by simp) (fun _ _ _ _ _ z=>absurd z (by simp)) fun _ _ _ e _ _=>e
theorem Fq(F:Fun G.K name qual st f fd)(S:kN N ps (aV st))(hb:∀ (X:Cx) (cd:Value) (A:Around) (s:Shared),X.toSC=G→dY k (A.deeper (envOfC qual (aV st) s.heap.objs.size f cd))→RSs (jB true X N qual (aV st) f cd A s) (gX st) g):FnP G (k+1) f fd ps (ar g ps.length N.length) where
 len qs v e:=by
  unfold ar at e
  split at e
  ·assumption
  ·cases e
 run {X w h A qs us v args Q E} hG hr hd hf I ok r e hbd q:=by
  subst hG
  unfold ar at e
  split at e
  ·rename_i hl
   refine nN (c:=true) (w:=⟨w.F,fun _=>none,[],w.s⟩) F S hr (fun _=>hd) hf I.hide ok hl r hbd fun cd s1 hr1 nw y J _=>?_
   have ends:∀ {w2:Wo} {h2 h3:List PO} {p:PV} {u:Value},StS (jB true X N qual (aV st) f cd A w.s) { F:=w.F,O:=fun _=>none,m:= [],s:=s1 } w2→HR X.toSC w2 h2→aX X.toSC w2.F w2.m p u→fR h2 p=some (v,h3)→Q u w2.s:=fun {w2 h2 h3 p u} y2 H2 r2 e2=>by
    obtain ⟨F',n,r3,pu⟩:=H2.frz (X:=jB true X N qual (aV st) f cd A w.s) r2 e2
    exact q F' w2.s u (Nw.show I nw (Stp.trans (y.weak (fun _ z=>z.elim) fun b z=>List.mem_cons_of_mem _ z) (y2.trans n.s)) n.2) (r3.mono (fun _ _ e=>e) (.inl pu))
   refine wpAny_mono ((hb X cd A w.s rfl hr1).r (E:=fun _ _=>False) J ?_) (fun _ _ z=>z) fun _ _ z=>z.elim
   unfold st0
   split at e<;>rename_i e'<;>first | rw [e'] | skip
   ·cases e
    exact ⟨.never,fun w2 y2 I2=>ends y2 I2.toHR .non (h3:=_) rfl⟩
   ·unfold br at e
    split at e<;>cases e
    exact ⟨.never,fun w2 u ρ2 y2 I2 r2=>ends y2 I2.toHR r2 ‹_›⟩
   ·cases e
  ·cases e
theorem HR.frzs:∀ {ps qs:List PV} {us:List Value} {w:Wo} {h h':List PO},HR X.toSC w h→av X.toSC w.F w.m ps us→frzs ps h=some (qs,h')→∃ F',Nw X w ⟨F',w.O,w.m,w.s⟩ h'∧av X.toSC F' [] qs us
 | [],_,_,w,_,_,H,.nil,k=>by cases k;exact ⟨w.F,⟨.refl,H⟩,.nil⟩
 | p::ps,qs,_,w,h,h',H,.cons r t,k=>by
  unfold L3.frzs at k
  split at k
  ·rename_i e
   obtain ⟨F1,n1,r1,pu⟩:=H.frz (X:=X) r e
   split at k<;>cases k
   rename_i e2
   obtain ⟨F2,n2,r2⟩:=HR.frzs n1.2 (n1.1.reps t) e2
   exact ⟨F2,n1.trans n2,.cons (r1.mono n2.1.fz (.inl pu)) r2⟩
  ·cases k
structure ZC(X:Cx)(x:Str)(fn:List PV→L3.Out):Prop where
 ex:∃ k f fd ps,FnP X.toSC k f fd ps fn∧dY k X.A∧X.mg x=some (.ref f)∧PySem.W.keepIn X.K (.ref f)=true∧iO X.K fd ps []
variable {x:Str} {e:Expr} {es:List Expr} {p0 pos:Pos} {fs:Ax} {fn:List PV→L3.Out}
theorem FnP.call{qs:List PV}{us:List Value}{Q:Value→Shared→Prop}{E:Value→Shared→Prop}(F:FnP X.toSC k f fd ps fn)(hr:dY k X.A)(hc:X.calm=true)(hb:iO X.K fd ps [])(I:Inv X w ρ h)(r:av X.toSC w.F w.m qs us)(p:bH X (RV X.toSC) w Q E (bn fn qs h)):Wp X (call (.ref f) us) Q E w.s:=by
 unfold bn at p
 split at p
 ·rename_i e1
  split at p
  ·rename_i qs' h2 v e2
   obtain ⟨F',n,r'⟩:=I.toHR.frzs r e1
   have I':=I.on n
   refine wpAny_call (F.run (w:=⟨F',w.O,w.m,w.s⟩) rfl hr (I.ok.hd hc) I.ok.frames I'.toWd I'.ok r' e2 (by simpa using hb w.s us I.kIn (by rw [List.append_nil,← r'.length];exact F.len _ _ e2)) fun F2 s2 u n2 r2=>?_)
   exact p.2 _ _ (n.trans n2) (r2.mono (fun _ _ e=>e) (.inr fun _ _ e=>nomatch e))
  ·exact p.elim
 ·exact p.elim
theorem DT(c:ZC X x fn)(hg:Gl X x)(ha:RA X (e::es) fs)(hc:X.calm=true:=by rfl)(hdb:(x==("__debug__":Str))=false:=by decide)(he:starEach (e::es) X.env=(false,eval e X.env)::starEach es X.env:=by rfl)(hpl:(backTo pos (starEach es X.env)).any (·.1)=false:=by rfl):RE X (.Call (.Name x p0) (e::es) [] pos) (bj fn fs):=⟨fun I p=>by
 obtain ⟨k,f,fd,ps,F,hr,hm,hk,hb⟩:=c.ex
 exact wpAny_Call_Name_kw (I.glb hg hm (PySem.W.callWith_K (h₀:=X.base) I.ok.kin hk (ha.r pos I (p.bind fun _ _ _ _ y r p=>⟨(I.on y).kIn,F.call hr hc hb (I.on y) r p⟩)) he hpl) hdb)⟩
theorem Bw(c:ZC X x fn)(hg:Gl X x)(hc:X.calm=true:=by rfl)(hdb:(x==("__debug__":Str))=false:=by decide):RE X (.Call (.Name x p0) [] [] pos) (bj fn aj):=⟨fun I p=>by
 obtain ⟨k,f,fd,ps,F,hr,hm,hk,hb⟩:=c.ex
 exact wpAny_Call_Name_kw (I.glb hg hm (PySem.W.callWith_K0 I.kIn hk (F.call hr hc hb I .nil p)) hdb)⟩
end
end Z
namespace L2
open PySem PySem.Spec PyProof.Rows
def eJ(cells:List (Str×Addr)):List (Str×NameKind)→List (Str×Addr)→List (Str×Addr)
 | [],cs=>cs
 | (n,k)::r,cs=>eJ cells r (if k==.free then (match cells.lookup n with | some a=>(n,a)::cs | none=>cs) else cs)
theorem sE(cells:List (Str×Addr)):∀ (l:List (Str×NameKind)) (cs:List (Str×Addr)) (p:Str×Addr),p∈eJ cells l cs→p∈cs∨(cells.lookup p.1=some p.2∧(p.1,NameKind.free)∈l)
 | [],cs,p,h=>.inl h
 | (n,k)::r,cs,p,h=>by
  unfold eJ at h
  rcases sE cells r _ p h with q | ⟨q1,q2⟩
  ·by_cases hk:k= .free
   ·subst hk
    simp only [beq_self_eq_true,if_true] at q
    cases e:cells.lookup n with
    | none=>rw [e] at q;exact .inl q
    | some a=>
     rw [e] at q
     rcases List.mem_cons.mp q with rfl | q
     ·exact .inr ⟨e,List.mem_cons_self⟩
     ·exact .inl q
   ·have hb:(k==NameKind.free)=false:=by simpa using hk
    simp only [hb,Bool.false_eq_true,if_false] at q
    exact .inl q
  ·exact .inr ⟨q1,List.mem_cons_of_mem _ q2⟩
theorem sD(cells:List (Str×Addr)):∀ (l:List (Str×NameKind)) (cs:List (Str×Addr)) (p:Str×Addr),p∈cs→p∈eJ cells l cs
 | [],_,_,h=>h
 | (n,k)::r,cs,p,h=>by
  unfold eJ
  refine sD cells r _ p ?_
  split
  ·split
   ·exact List.mem_cons_of_mem _ h
   ·exact h
  ·exact h
theorem sF(cells:List (Str×Addr)){x:Str}{c:Addr}(hc:cells.lookup x=some c):∀ (l:List (Str×NameKind)) (cs:List (Str×Addr)),(x,NameKind.free)∈l→(x,c)∈eJ cells l cs
 | (n,k)::r,cs,h=>by
  unfold eJ
  rcases List.mem_cons.mp h with e | h
  ·cases e
   refine sD cells r _ _ ?_
   simp only [beq_self_eq_true,if_true,hc]
   exact List.mem_cons_self
  ·exact sF cells hc r _ h
theorem kX{x:Str}{c:Addr}:∀ {l:List (Str×Addr)},(x,c)∈l→∃ c',l.lookup x=some c'
 | (y,d)::r,h=>by
  by_cases e:x=y
  ·subst e;exact ⟨d,by simp [List.lookup_cons]⟩
  ·have hb:(x==y)=false:=by simpa using e
   rw [List.lookup_cons,hb]
   rcases List.mem_cons.mp h with q | q
   ·cases q;exact absurd rfl e
   ·exact kX q
theorem lY{cells:List (Str×Addr)}{l:List (Str×NameKind)}{x:Str}{c:Addr}(h:(eJ cells l []).lookup x=some c):cells.lookup x=some c∧(x,NameKind.free)∈l:=by
 rcases sE cells l [] (x,c) (PySem.mem_of_lookup h) with q | q
 ·cases q
 ·exact q
theorem vU{cells:List (Str×Addr)}{l:List (Str×NameKind)}{x:Str}{c:Addr}(hc:cells.lookup x=some c)(h:(x,NameKind.free)∈l):(eJ cells l []).lookup x=some c:=by
 obtain ⟨c',e⟩:=kX (sF cells hc l [] h)
 rw [e,← hc,(lY e).1]
theorem lu{scope:Scope}{env:Env}(h:∀ n,(n,NameKind.free)∈scope.names→∃ c,env.cells.lookup n=some c):closureFor scope env=pure (eJ env.cells scope.names []):=by
 unfold closureFor
 have go:∀ (l:List (Str×NameKind)) (cs:List (Str×Addr)),(∀ n,(n,NameKind.free)∈l→∃ c,env.cells.lookup n=some c)→
   (forIn l cs fun x r=>if (x.2==NameKind.free)=true then do let a ← cellOf env x.1;pure (ForInStep.yield ((x.1,a)::r)) else pure (ForInStep.yield r):Sem (List (Str×Addr)))=pure (eJ env.cells l cs):=by
  intro l
  induction l with
  | nil=>intro cs _;rfl
  | cons x r ih=>
   intro cs hl
   obtain ⟨n,k⟩:=x
   rw [List.forIn_cons]
   have hr:∀ n,(n,NameKind.free)∈r→∃ c,env.cells.lookup n=some c:=fun y hy=>hl y (List.mem_cons_of_mem _ hy)
   by_cases hk:k= .free
   ·subst hk
    obtain ⟨c,hc⟩:=hl n List.mem_cons_self
    have e:cellOf env n=pure c:=by unfold cellOf;rw [hc]
    simp only [beq_self_eq_true,if_true,e,pure_bind,eJ,hc]
    exact ih _ hr
   ·have hb:(k==NameKind.free)=false:=by simpa using hk
    simp only [hb,Bool.false_eq_true,if_false,pure_bind,eJ]
    exact ih _ hr
 have q:=go scope.names [] h
 simp only [bind_pure]
 exact q
theorem ju{env:Env}{x:Str}:∀ {names:List (Str×NameKind)},(∀ y∈names,y.2≠.cell)→∀ {k:NameKind},
  (names.map fun (n,k)=>if (k==NameKind.free&&env.scope.kind==.function&&env.kindOf n==some .cell) then (n,NameKind.cell) else (n,k)).lookup x=some k→k= .cell∨k= .free→(x,NameKind.free)∈names
 | [],_,_,h,_=>by simp at h
 | (n,k0)::r,hn,k,h,hk=>by
  have ih:= @ju env x r (fun y hy=>hn y (List.mem_cons_of_mem _ hy)) k
  rw [List.map_cons] at h
  by_cases hc:(k0==NameKind.free&&env.scope.kind==.function&&env.kindOf n==some .cell)=true
  ·have h2:List.lookup x ((n,NameKind.cell)::r.map fun (n,k)=>if (k==NameKind.free&&env.scope.kind==.function&&env.kindOf n==some .cell) then (n,NameKind.cell) else (n,k))=some k:=by
    have q:=h
    simp only [hc,if_true] at q
    exact q
   have hf:k0= .free:=by
    have z:(k0==NameKind.free)=true:=by
     cases e:(k0==NameKind.free) with
     | true=>rfl
     | false=>rw [e] at hc;simp at hc
    simpa using z
   by_cases e:x=n
   ·subst e;subst hf;exact List.mem_cons_self
   ·have hb:(x==n)=false:=by simpa using e
    rw [List.lookup_cons,hb] at h2
    exact List.mem_cons_of_mem _ (ih h2 hk)
  ·have h2:List.lookup x ((n,k0)::r.map fun (n,k)=>if (k==NameKind.free&&env.scope.kind==.function&&env.kindOf n==some .cell) then (n,NameKind.cell) else (n,k))=some k:=by
    have q:=h
    simp only [hc,if_false] at q
    exact q
   by_cases e:x=n
   ·subst e
    rw [List.lookup_cons,beq_self_eq_true] at h2
    have e2:k0=k:=Option.some.inj h2
    subst e2
    rcases hk with z | z
    ·exact absurd z (hn (x,k0) List.mem_cons_self)
    ·subst z;exact List.mem_cons_self
   ·have hb:(x==n)=false:=by simpa using e
    rw [List.lookup_cons,hb] at h2
    exact List.mem_cons_of_mem _ (ih h2 hk)
theorem mw{env:Env}{x:Str}:∀ {names:List (Str×NameKind)},names.lookup x=some .free→
  (names.map fun (n,k)=>if (k==NameKind.free&&env.scope.kind==.function&&env.kindOf n==some .cell) then (n,NameKind.cell) else (n,k)).lookup x=some .cell∨
  (names.map fun (n,k)=>if (k==NameKind.free&&env.scope.kind==.function&&env.kindOf n==some .cell) then (n,NameKind.cell) else (n,k)).lookup x=some .free
 | [],h=>by simp at h
 | (n,k)::r,h=>by
  have ih:= @mw env x r
  show List.lookup x ((if (k==NameKind.free&&env.scope.kind==.function&&env.kindOf n==some .cell)=true then (n,NameKind.cell) else (n,k))::_)=_∨List.lookup x ((if (k==NameKind.free&&env.scope.kind==.function&&env.kindOf n==some .cell)=true then (n,NameKind.cell) else (n,k))::_)=_
  by_cases hc:(k==NameKind.free&&env.scope.kind==.function&&env.kindOf n==some .cell)=true
  ·rw [if_pos hc]
   cases hx:x==n with
   | true=>left;simp [List.lookup_cons,hx]
   | false=>
    simp only [List.lookup_cons,hx] at h ⊢
    exact ih h
  ·rw [if_neg hc]
   cases hx:x==n with
   | true=>
    simp only [List.lookup_cons,hx] at h
    right;simp [List.lookup_cons,hx,h]
   | false=>
    simp only [List.lookup_cons,hx] at h ⊢
    exact ih h
theorem ub{prog:Program}{w:World}{A:Around}{R:Result→Shared→Prop}{s:Shared}{elt target iter:Expr}{ifs:List Expr}{scope:Scope}{pos:Pos}{it acc:Value}{env:Env}(I:Nat→Shared→Prop)
  (turn:∀ n s,I n s→wpAny (model prog w) A (pyNext it) (fun r s₁=>match r with
   | none=>R (.ok .next) s₁
   | some v=>wpAny (model prog w) A (letOwnedTupleGo target it v) (fun _ s₂=>wpAny (model prog w) A (assign target env v) (fun _ s₃=>
     wpAny (model prog w) A (forIn ifs true fun c r=>if r=true then do let ok ← isTrue c env (eval c env);pure (ForInStep.yield ok) else pure (ForInStep.yield r)) (fun ok s₄=>
      if ok=true then wpAny (model prog w) A (eval elt env) (fun x s₅=>
       wpAny (model prog w) A (call (.builtin "list.append") [acc,x]) (fun _ s₆=>∃ m,m<n∧I m s₆) (fun _ _=>False) s₅) (fun _ _=>False) s₄
      else ∃ m,m<n∧I m s₄) (fun _ _=>False) s₃) (fun _ _=>False) s₂) (fun _ _=>False) s₁) (fun _ _=>False) s)
  (n:Nat) (h:I n s):
  codeAny (model prog w) A (.compLoop (.ListComp elt [⟨target,iter,ifs,0⟩] scope pos) 0 it acc env) R s:=by
 refine codeAny_loop rfl I (fun n s hI=>?_) n h
 show wpAny _ A ((compTurn (.ListComp elt [⟨target,iter,ifs,0⟩] scope pos) 0 it acc env).onRaise (fun x=>do noteFrame x env;theTreesLotGoes x)) _ _ s
 refine wpAny_noted ?_
 rw [compTurn_list]
 refine wpAny_bind (wpAny_standAt (wpAny_bind (wpAny_mono (turn n s hI) (fun r s₁ h₁=>?_) fun _ _ h'=>h'.elim)))
 cases r with
 | none=>exact wpAny_pure h₁
 | some v=>
  refine wpAny_bind (wpAny_mono h₁ (fun _ s₂ h₂=>wpAny_bind (wpAny_mono h₂ (fun _ s₃ h₃=>wpAny_bind (wpAny_mono h₃ (fun ok s₄ h₄=>?_) fun _ _ h'=>h'.elim)) fun _ _ h'=>h'.elim)) fun _ _ h'=>h'.elim)
  cases ok with
  | false=>exact wpAny_pure ⟨rfl,h₄⟩
  | true=>
   exact wpAny_bind (wpAny_bind (wpAny_mono h₄ (fun x s₅ h₅=>wpAny_bind (wpAny_mono h₅ (fun _ s₆ h₆=>wpAny_pure (wpAny_pure ⟨rfl,h₆⟩)) fun _ _ h'=>h'.elim)) fun _ _ h'=>h'.elim))
end L2
namespace L3
open PySem
def Res.calm{α:Type}(r:Res α):Res α:=match r with
 | .exc _ _=>.bad
 | r=>r
def dh(caps:List Nat)(ρ:Ev):Ev:=caps.map fun i=>(ρ[i]?).getD none
def fB(g:Gx)(tt:Tx)(te:Ex)(ρ0:Ev):List PV→List PO→Res (List PV)
 | [],h=>.ok [] h
 | p::r,h=>match g p ρ0 with
  | some ρ1=>(tt ρ1 h).bind fun b h1=>if b=true then (te ρ1 h1).bind fun v h2=>(fB g tt te ρ0 r h2).bind fun vs h3=>.ok (v::vs) h3 else fB g tt te ρ0 r h1
  | none=>.bad
def iq(n:Nat)(g:Gx)(caps:List Nat)(it:Ax)(tt:Tx)(te:Ex):Ax:=fun ρ h=>(it ρ h).bind fun xs h1=>if xs.length<sizeLine then (fB g tt te (List.replicate n none++dh caps ρ) xs h1).calm else .bad
noncomputable def et:Tx:=fun _ h=>.ok true h
def okL(ps:List PV)(h:List PO):Res PV:=.ok (.lst ps) h
def uZ(ps:List PV)(h:List PO):Res PV:=.ok (.ref h.length) (h++ [.lst ps])
end L3
namespace Z
open PySem PySem.Spec PyProof.Rows L3 L2
structure dO(N:List Str)(psc scope:Scope)(caps:List Nat)(vs M:List Str):Prop where
 kind:scope.kind= .function
 nocell:∀ y∈scope.names,y.2≠.cell
 names:∀ y∈scope.names,y.2= .local→scope.names.lookup y.1=some .local
 free:∀ y∈scope.names,y.2= .free→psc.names.lookup y.1=some .cell∨psc.names.lookup y.1=some .free
 inN:M=vs++caps.map fun i=>N.getD i ""
 cap:∀ i∈caps,i<N.length∧scope.names.lookup (N.getD i "")=some .free
 nd:M.Nodup
def za(N:List Str)(psc scope:Scope)(caps:List Nat)(vs M:List Str):Bool:=
 decide (scope.kind= .function)&&decide (∀ y∈scope.names,y.2≠.cell)&&decide (∀ y∈scope.names,y.2= .local→scope.names.lookup y.1=some .local)
  &&decide (∀ y∈scope.names,y.2= .free→psc.names.lookup y.1=some .cell∨psc.names.lookup y.1=some .free)&&decide (M=vs++caps.map fun i=>N.getD i "")
  &&decide (∀ i∈caps,i<N.length∧scope.names.lookup (N.getD i "")=some .free)&&decide M.Nodup
theorem dO.of{N:List Str}{psc scope:Scope}{caps:List Nat}{vs M:List Str}(h:za N psc scope caps vs M=true):dO N psc scope caps vs M:=by
 unfold za at h
 simp only [Bool.and_eq_true,decide_eq_true_eq] at h
 obtain ⟨⟨⟨⟨⟨⟨a,b⟩,c⟩,d⟩,e⟩,f⟩,g⟩:=h
 exact ⟨a,b,c,d,e,f,g⟩
def cx(X:Cx)(M:List Str)(scope:Scope)(cl:List (Str×Addr))(C:Addr):Cx:= { X with N:=M,env:=compEnvC scope cl C X.env,fn:=fun _=>false,Ep:=fun _=>True }
structure RFs(X:Cx)(ifs:List Expr)(f:Tx):Prop where
 r:∀ {w:Wo} {ρ:Ev} {h:List PO} {Q:Bool→Shared→Prop} {E:Value→Shared→Prop},Inv X w ρ h→bH X (fun _ a b=>a=b) w Q E (f ρ h)→Wp X (forIn ifs true fun c r=>if r=true then do let ok ← isTrue c X.env (eval c X.env);pure (ForInStep.yield ok) else pure (ForInStep.yield r)) Q E w.s
section
variable {X:Cx} {w w1 w2:Wo} {ρ:Ev} {h:List PO} {c:Expr} {f:Tx}
theorem jt:RFs X [] et:=⟨fun I p=>wpAny_tests_nil (p.here I.toHR rfl)⟩
theorem Stp.new{fs:List Addr}{W W':Addr→Prop}(x:Stp fs W w w1)(y:Stp fs W' w1 w2)(n:∀ b,W' b→w.s.heap.get? b=none):Stp fs W w w2:=
 ⟨y.os.trans x.os,y.ba∘x.ba,fun a o e=>y.fz a o (x.fz a o e),fun a o e=>y.ow a o (x.ow a o e),let ⟨t,e⟩:=x.pre;let ⟨u,e'⟩:=y.pre;⟨t++u,by rw [e',e,List.append_assoc]⟩,fun b o e=>let ⟨o',q⟩:=x.dom b o e;y.dom b o' q,fun b o q z=>by
  obtain ⟨sl,q1,z1⟩:=x.keep b o q z
  obtain ⟨sl',q2,z2⟩:=y.keep b _ q1 fun z=>by have q:=q.1;rw [n b z] at q;cases q
  exact ⟨sl',q2,z1.elim .inl fun z=>z2.imp_right fun z'=>z'.trans z⟩⟩
theorem xM{M:List Str}{scope:Scope}{caps:List Nat}{vs:List Str}{C:Addr}{m:Str→Option Value}{s1:Shared}(S:dO X.N X.env.scope scope caps vs M)(I:Inv X w ρ h)(hC:w.s.heap.get? C=none)(k:∀ b o,w.s.heap.get? b=some o→s1.heap.get? b=some o)(hn:s1.heap.Ns C m)(ho:s1.os=w.s.os)(hg:s1.gens=w.s.gens):
  Inv (cx X M scope (eJ X.env.cells scope.names []) C) { w with s:=s1 } (List.replicate vs.length none++dh caps ρ) h:=by
 have n:=Nw.also (X:=X) (s':=s1) I.toHR k ho hg
 have J:=I.on n
 have c0:∀ y c,(eJ X.env.cells scope.names []).lookup y=some c→X.env.cells.lookup y=some c:=fun y c h=>(lY h).1
 obtain ⟨m0,_,_,_,l⟩:=J.loc
 obtain ⟨oC,es,ep,eC,_⟩:=id hn
 refine ⟨⟨J.toHR,J.ba,J.bs,J.fr⟩,⟨I.ok.kin,I.ok.gl,I.ok.bl,I.ok.nl,S.kind,I.ok.glob,I.ok.blt,fun y z c h1 h2=>I.ok.inj y z c (c0 _ _ h1) (c0 _ _ h2),fun y hy=>?_,I.ok.hd,I.ok.frames,S.nd,I.ok.sf⟩,⟨m,oC,hn,⟨eC,I.toHR.free hC⟩,fun i p e=>?_⟩,fun y c e=>J.cel y c (c0 y c e),?_⟩
 ·have hm:(y,NameKind.free)∈scope.names:=by
   rcases hy with h | h
   ·exact ju S.nocell h (.inl rfl)
   ·exact ju S.nocell h (.inr rfl)
  obtain ⟨c,hc⟩:=I.ok.has y (S.free _ hm rfl)
  exact ⟨c,vU hc hm⟩
 ·have hi:vs.length≤i:=by
   rcases Nat.lt_or_ge i vs.length with z | z
   ·rw [List.getElem?_append_left (by simpa using z)] at e;simp [List.getElem?_replicate] at e
   ·exact z
  rw [List.getElem?_append_right (by simpa using hi),List.length_replicate] at e
  simp only [dh,List.getElem?_map] at e
  cases e1:caps[i - vs.length]? with
  | none=>rw [e1] at e;cases e
  | some k=>
   rw [e1] at e
   obtain ⟨c1,c2⟩:=S.cap k (List.mem_of_getElem? e1)
   have e2:ρ[k]? =some (some p):=by
    simp only [Option.map_some,Option.some.injEq] at e
    cases q:ρ[k]? with
    | none=>rw [q] at e;cases e
    | some v=>rw [q] at e;simp at e;rw [e]
   obtain ⟨y,u,e3,r,l⟩:=l k p e2
   have e4:X.N.getD k ""=y:=by rw [List.getD_eq_getElem?_getD,e3];rfl
   rw [e4] at c2
   refine ⟨y,u,?_,r,?_⟩
   ·show M[i]? =some y
    rw [S.inN,List.getElem?_append_right hi,List.getElem?_map,e1,← e4];rfl
   ·have hm:(y,NameKind.free)∈scope.names:=PySem.mem_of_lookup c2
    rcases l with ⟨k1,_⟩ | ⟨k1,c,e5,q⟩
    ·rcases S.free _ hm rfl with z | z<;>(rw [show X.env.scope.names.lookup y=some .local from k1] at z;cases z)
    ·exact .inr ⟨mw c2,c,vU e5 hm,q⟩
 ·show _=M.length
  rw [S.inN];simp [dh]
theorem Inv.weak{ρ':Ev}(I:Inv X w ρ h)(l:ρ'.length=ρ.length)(k:∀ (i:Nat) p,ρ'[i]? =some (some p)→ρ[i]? =some (some p)):Inv X w ρ' h:=let ⟨m,o,a,b,c⟩:=I.loc;⟨I.toWd,I.ok,⟨m,o,a,b,fun i p e=>c i p (k i p e)⟩,I.cel,l.trans I.ln⟩
def PKn(K:List PV→List PO→Prop):Res (List PV)→Prop
 | .ok vs h=>K vs h
 | _=>False
theorem sG{α:Type}{K:List PV→List PO→Prop}{r:Res α}{k:α→List PO→Res (List PV)}(p:PKn K (r.bind k).calm):∃ a h,r= .ok a h∧PKn K (k a h).calm:=match r with
 | .ok a h=>⟨a,h,rfl,p⟩
 | .exc _ _=>p.elim
 | .bad=>p.elim
theorem sB{elt iter tg:Expr}{ifs:List Expr}{scope:Scope}{tt:Tx}{te:Ex}{M vs:List Str}{g:Gx}{pos:Pos}{use:Option (Value→Sem Unit)}{w0 w:Wo}{h1:List PO}{ρ:Ev}{xs:List PV}{v:Value}{Q:Value→Shared→Prop}{E:Value→Shared→Prop}{K:List PV→List PO→Prop}(caps:List Nat)(hc:X.calm=true)(S:dO X.N X.env.scope scope caps vs M)(hg:∀ cl C,RG (cx X M scope cl C) tg g)(ht:∀ cl C,RFs (cx X M scope cl C) ifs tt)(he:∀ cl C,RE (cx X M scope cl C) elt te)
  (gm:∀ q cp ρ1,g q (List.replicate vs.length none++cp)=some ρ1→∃ l,l.length=vs.length∧ρ1=l++cp) (I0:Inv X w0 ρ h) (y0:Nw X w0 w h1) (rr:ItR X tg w0 w xs v) (hz:xs.length<sizeLine) (p:PKn K (fB g tt te (List.replicate vs.length none++dh caps ρ) xs h1).calm)
  (hr:∀ {w2:Wo} {h2:List PO} {ps:List PV} {its:Array Value} {D C:Addr} {oC:Obj} {m:Str→Option Value},Stp X.fs NoW w0 w2→HR X.toSC w2 h2→w0.s.heap.get? D=none→w0.s.heap.get? C=none→D≠C→Has w2 C oC→w2.s.heap.Ns C m→w2.s.heap.PlainList D its→Fre w2 D→av X.toSC w2.F w2.m ps its.toList→its.size≤sizeLine→K ps h2→compPost (model X.prog X.w) X.A E use Q (.ref D) C (.ok .next) w2.s):
  Wp X (newList []) (fun acc s=>Wp X (newFunctionEnv scope X.env.globals (eJ X.env.cells scope.names []) [] X.env.qual none .none (some X.env)) (fun cenv s=>codeAny (model X.prog X.w) X.A (.compStart (.ListComp elt [⟨tg,iter,ifs,0⟩] scope pos) 0 v acc { cenv with scope:=relabel scope X.env }) (compPost (model X.prog X.w) X.A E use Q acc cenv.locals) s) E s) E w.s:=by
  obtain ⟨it,fp,tn,rfl,T,t0,fr⟩:=rr
  have I:=I0.on y0
  ·refine wpAny_newObj_type (wpAny_newFunctionEnv S.nocell (by intro y hy;simp at hy) (fun h₁ hns hsb=>?_) S.kind)
   dsimp only at hns hsb ⊢
   generalize hP:w.s.heap.push { cls:=.type "list",dict:=none,data:=.seq ([]:List Value).toArray }=P at hns hsb ⊢
   have zP:P.objs.size=w.s.heap.objs.size+1:=by rw [← hP,Heap.size_push]
   have ne:∀ {b},b<w.s.heap.objs.size+1→b≠P.objs.size:=fun z e=>by rw [e,zP] at z;exact absurd z (Nat.lt_irrefl _)
   have old:∀ b o,w.s.heap.get? b=some o→h₁.get? b=some o:=fun b o e=>hsb.extBut b o (ne (Nat.lt_succ_of_lt (Heap.lt_size e))) (Heap.get?_push_of_some _ (hP▸Heap.get?_push_of_some _ e))
   have DC:w.s.heap.objs.size≠P.objs.size:=ne (Nat.lt_succ_self _)
   have eD:h₁.PlainList w.s.heap.objs.size #[]:=⟨_,hsb.extBut _ _ DC (Heap.get?_push_of_some _ (hP▸Heap.get?_push_size _ rfl))⟩
   have nC:w.s.heap.get? P.objs.size=none:=by
    cases q:w.s.heap.get? P.objs.size with
    | none=>rfl
    | some o=>exact absurd rfl (ne (Nat.lt_succ_of_lt (Heap.lt_size q)))
   have n0:∀ {b},w.s.heap.get? b=none→w0.s.heap.get? b=none:=fun {b} z=>by
    cases q:w0.s.heap.get? b with
    | none=>rfl
    | some o=>obtain ⟨o',q'⟩:=y0.1.dom b o q;rw [z] at q';cases q'
   have nD:=aM w.s.heap
   have nf:∀ b∈fp,w0.s.heap.get? b=none:=fun b hb=>(fr b hb).2.2
   have J:=xM S I nC old hns (s1:= { w.s with heap:=h₁,toks:=w.s.toks+([]:List (Str×Value)).length }) rfl rfl
   have n1:=Nw.also (X:=X) (s':= { w.s with heap:=h₁,toks:=w.s.toks+([]:List (Str×Value)).length }) I.toHR old
   generalize hY:cx X M scope (eJ X.env.cells scope.names []) P.objs.size=Y at J
   have fsY:Y.fs=X.fs:=by rw [← hY];rfl
   have apt:∀ b,Apt X b→b≠P.objs.size→Apt Y b:=fun b a z=>by subst hY;exact ⟨z,a.2.1,fun x c e=>a.2.2 x c (lY e).1⟩
   have aD:Apt Y w.s.heap.objs.size:=apt _ (I.out nD) DC
   have aF:∀ b∈fp,Apt Y b:=fun b hb=>apt b (fr b hb).2.1 (let ⟨o,q⟩:=(fr b hb).1;ne (Nat.lt_succ_of_lt (Heap.lt_size q.1)))
   have dF:w.s.heap.objs.size∉fp:=fun z=>let ⟨o,q⟩:=(fr _ z).1;absurd (Heap.lt_size q.1) (Nat.lt_irrefl _)
   have loop:codeAny (model X.prog X.w) X.A (.compLoop (.ListComp elt [⟨tg,iter,ifs,0⟩] scope pos) 0 (.ref it) (.ref w.s.heap.objs.size) (compEnvC scope (eJ X.env.cells scope.names []) P.objs.size X.env)) (compPost (model X.prog X.w) X.A E use Q (.ref w.s.heap.objs.size) P.objs.size) { w.s with heap:=h₁,toks:=w.s.toks+([]:List (Str×Value)).length }:=by
    refine ub (fun n s=>∃ w1 h2 acc its ys,w1.s=s∧Stp X.fs NoW w0 w1∧Lat w w1∧Inv Y w1 (List.replicate vs.length none++dh caps ρ) h2∧ys.length=n∧n≤xs.length∧ys=xs.drop (xs.length - n)∧tn (xs.length - n) w1.s.heap∧(∀ b∈fp,∃ o,Has w1 b o)∧w1.s.heap.PlainList w.s.heap.objs.size its∧Fre w1 w.s.heap.objs.size∧av X.toSC w1.F w1.m acc its.toList∧its.size+n<sizeLine∧PKn (fun vs h3=>K (acc++vs) h3) (fB g tt te (List.replicate vs.length none++dh caps ρ) ys h2).calm) ?_ xs.length ⟨_,h1,[], #[],xs,rfl,y0.1.trans n1.1,n1.1.lat,J,rfl,Nat.le_refl _,by simp,?_,fun b hb=>?_,eD,I.toHR.free nD,.nil,by simpa using hz,p⟩
    ·rintro n s ⟨w1,h2,acc,its,ys,rfl,y1,l1,I1,ln,le,dr,t1,f1,d1,dn1,ra,z1,p1⟩
     subst hY
     cases ys with
     | nil=>
      cases ln
      refine wpAny_mono (T.done (I.ok.hd hc) l1 I1.toHR t1 (by simp) f1 (Q:=fun s=>compPost (model X.prog X.w) X.A E use Q (.ref w.s.heap.objs.size) P.objs.size (.ok .next) s) fun w2 y2 H2=>?_) (fun r s q=>by obtain ⟨rfl,q⟩:=q;exact q) fun _ _ z=>z
      obtain ⟨m,o,n,hl,_⟩:=(I1.priv y2 H2 aF).loc
      obtain ⟨nn,e1⟩:=d1
      have q:=y2.keep _ _ dF ⟨e1,dn1⟩
      exact hr (y1.priv y2 nf) H2 (n0 nD) (n0 nC) DC hl n ⟨nn,q.1⟩ q.2 (ra.mono y2.fz (.inr y2.sub)) (by omega) (by simpa [fB,Res.calm,PKn] using p1)
     | cons q ys=>
      have ln':ys.length+1=n:=ln
      have eq:xs[xs.length - n]? =some q:=by rw [← List.head?_drop,← dr];rfl
      have dy:ys=xs.drop (xs.length - ys.length):=by rw [show xs.length - ys.length=xs.length - n+1 by omega,← List.drop_drop,← dr];rfl
      unfold fB at p1
      split at p1
      ·rename_i ρ2 e2
       obtain ⟨b,h3,e3,p3⟩:=sG p1
       refine wpAny_mono (T.item (I.ok.hd hc) l1 I1.toHR t1 eq f1 (Q:=fun u s=>wpAny (model X.prog X.w) X.A (assign tg (compEnvC scope (eJ X.env.cells scope.names []) P.objs.size X.env) u) ?R ?N s) ?c) (fun r s q=>by obtain ⟨u,rfl,q⟩:=q;exact q) fun _ _ z=>z
       intro u w2 y2 H2 t2 f2 r2
       refine (hg _ _).r (I1.priv y2 H2 aF) r2 e2 fun w3 y3 I3=>(ht _ _).r I3 ?_
       rw [e3]
       refine ⟨trivial,fun w4 b' y4 eb=>?_⟩
       subst eb
       obtain ⟨l,ll,rfl⟩:=gm _ _ _ e2
       have y04:Stp X.fs NoW w0 w4:=Stp.trans (Stp.new (y1.priv y2 nf) y3 fun b z=>n0 (z.elim (fun z=>z▸nC) fun ⟨_,z,_⟩=>nomatch z)) y4.1
       have l4:Lat w w4:=(l1.trans ⟨y2.fz,y2.sub⟩).trans (y3.lat.trans y4.1.lat)
       have k4:∀ b,Apt (cx X M scope (eJ X.env.cells scope.names []) P.objs.size) b→∀ o,Has w2 b o→Has w4 b o:=fun b a o q=>by
        obtain ⟨sl,q',z⟩:=(y3.trans y4.s).keep b o q a.w
        rcases z with z | rfl
        ·exact absurd z a.2.1
        ·exact q'
       have D2:∀ nn,w1.s.heap.get? w.s.heap.objs.size=some { cls:=.type "list",data:=.seq its nn }→Has w4 w.s.heap.objs.size { cls:=.type "list",data:=.seq its nn }:=fun nn e=>k4 _ aD _ (y2.keep _ _ dF ⟨e,dn1⟩)
       obtain ⟨nn,e1⟩:=d1
       have D4:=D2 nn e1
       have go:∀ w5 h5 acc' its',Stp X.fs NoW w0 w5→Lat w w5→Inv (cx X M scope (eJ X.env.cells scope.names []) P.objs.size) w5 (l++dh caps ρ) h5→(∀ b∈fp,∀ o,Has w2 b o→Has w5 b o)→Lat w2 w5→w5.s.heap.PlainList w.s.heap.objs.size its'→Fre w5 w.s.heap.objs.size→av X.toSC w5.F w5.m acc' its'.toList→its'.size≤its.size+1→PKn (fun vs h3=>K (acc'++vs) h3) (fB g tt te (List.replicate vs.length none++dh caps ρ) ys h5).calm→
         ∃ m,m<n∧∃ w1 h2 acc its ys,w1.s=w5.s∧Stp X.fs NoW w0 w1∧Lat w w1∧Inv (cx X M scope (eJ X.env.cells scope.names []) P.objs.size) w1 (List.replicate vs.length none++dh caps ρ) h2∧ys.length=m∧m≤xs.length∧ys=xs.drop (xs.length - m)∧tn (xs.length - m) w1.s.heap∧(∀ b∈fp,∃ o,Has w1 b o)∧w1.s.heap.PlainList w.s.heap.objs.size its∧Fre w1 w.s.heap.objs.size∧av X.toSC w1.F w1.m acc its.toList∧its.size+m<sizeLine∧PKn (fun vs h3=>K (acc++vs) h3) (fB g tt te (List.replicate vs.length none++dh caps ρ) ys h2).calm:=by
        intro w5 h5 acc' its' a b c d l25 e f ra' i p
        refine ⟨ys.length,by omega,w5,h5,acc',its',ys,rfl,a,b,c.weak (by simp [ll]) fun i p e=>?_,rfl,by omega,dy,?_,fun x hx=>let ⟨o,q⟩:=f2 x hx;⟨o,d x hx o q⟩,e,f,ra',by omega,p⟩
        ·rcases Nat.lt_or_ge i vs.length with z | z
         ·rw [List.getElem?_append_left (by simpa using z)] at e;simp [List.getElem?_replicate] at e
         ·rw [List.getElem?_append_right (by simpa using z),List.length_replicate] at e
          rw [List.getElem?_append_right (by omega),ll];exact e
        ·rw [show xs.length - ys.length=xs.length - n+1 by omega]
         exact T.keep (l1.trans ⟨y2.fz,y2.sub⟩) H2 l25 c.toHR t2 fun b hb o e=>let ⟨o',q⟩:=f2 b hb;(d b hb o ⟨e,q.2⟩).1
       have l24:Lat w2 w4:=y3.lat.trans y4.1.lat
       have ra4:=ra.mono (y2.fz) (.inr y2.sub) |>.mono l24.1 (.inr l24.2)
       cases b with
       | false=>
        rw [if_neg (by decide)] at p3 ⊢
        exact go w4 h3 acc its y04 l4 (I3.on y4) (fun b hb=>k4 b (aF b hb)) l24 ⟨nn,D4.1⟩ D4.2 ra4 (by omega) p3
       | true=>
        rw [if_pos rfl] at p3 ⊢
        obtain ⟨v,h5,e5,p5⟩:=sG p3
        refine (he _ _).r (I3.on y4) ?_
        rw [e5]
        refine ⟨trivial,fun w5 u5 y5 r5=>?_⟩
        have q5:∀ b,Apt (cx X M scope (eJ X.env.cells scope.names []) P.objs.size) b→∀ o,Has w4 b o→Has w5 b o:=fun b a o q=>by
         obtain ⟨sl,q',z⟩:=y5.1.keep b o q fun z=>z
         rcases z with z | rfl
         ·exact absurd z a.2.1
         ·exact q'
        have D5:=q5 _ aD _ D4
        refine wpAny_list_append_plain ⟨nn,D5.1⟩ (fun h' hl' sb'=>?_) (by omega)
        obtain ⟨a1,a2⟩:=pj (s':= { w5.s with heap:=h',toks:=w5.s.toks }) y5.2 D5 fun b o z e=>(sb'.2 b z).trans e
        refine go _ h5 (acc++ [v]) (its.push u5) ((y04.trans y5.1).priv a1 (by simp;exact n0 nD)) (l4.trans (y5.1.lat.trans ⟨a1.fz,a1.sub⟩)) (((I3.on y4).on y5).priv a1 a2 (by simp;exact aD)) (fun b hb o q=>a1.keep b o (by simp;rintro rfl;exact dF hb) (q5 b (aF b hb) o (k4 b (aF b hb) o q))) (l24.trans (y5.1.lat.trans ⟨a1.fz,a1.sub⟩)) hl' D5.2 ?_ (by simp) ?_
        ·rw [Array.toList_push];exact (ra4.mono y5.1.fz (.inr y5.1.sub)).app (.cons r5 .nil)
        ·revert p5;cases fB g tt te (List.replicate vs.length none++dh caps ρ) ys h5<;>simp [Res.bind,Res.calm,PKn]
      ·exact p1.elim
    ·simpa using T.keep (⟨fun _ _ e=>e,fun _ _ e=>e⟩) I.toHR n1.1.lat n1.2 t0 fun b hb o e=>old b o e
    ·obtain ⟨o,q⟩:=(fr b hb).1;exact ⟨o,old b o q.1,q.2⟩
   exact codeAny_compStart_list loop (T.self (I.ok.hd hc) (T.keep (⟨fun _ _ e=>e,fun _ _ e=>e⟩) I.toHR n1.1.lat n1.2 t0 fun b hb o e=>old b o e) loop)
theorem comp{elt iter tg:Expr}{ifs:List Expr}{scope:Scope}{it:Ax}{tt:Tx}{te:Ex}{M vs:List Str}{g:Gx}{pos:Pos}{r:List PV→List PO→Res PV}(caps:List Nat)(hc:X.calm=true)(S:dO X.N X.env.scope scope caps vs M)(hi:RI X tg iter it)(hg:∀ cl C,RG (cx X M scope cl C) tg g)(ht:∀ cl C,RFs (cx X M scope cl C) ifs tt)(he:∀ cl C,RE (cx X M scope cl C) elt te)
  (hr:∀ {w0 w:Wo} {h:List PO} {ps:List PV} {its:Array Value} {D:Addr} {Q:Value→Shared→Prop} {E:Value→Shared→Prop},Stp X.fs NoW w0 w→HR X.toSC w h→w0.s.heap.get? D=none→w.s.heap.PlainList D its→Fre w D→av X.toSC w.F w.m ps its.toList→its.size≤sizeLine→bH X (RV X.toSC) w0 Q E (r ps h)→Q (.ref D) w.s)
  (gm:∀ q cp ρ1,g q (List.replicate vs.length none++cp)=some ρ1→∃ l,l.length=vs.length∧ρ1=l++cp)
  (hs:∀ y,foldedSetIterable iter X.env y=pure y:=by intro _;rfl):RE X (.ListComp elt [⟨tg,iter,ifs,0⟩] scope pos) (cN r (iq vs.length g caps it tt te)) where
 r {w0 ρ h Q E} I0 p:=by
  rw [eval_ListComp]
  refine wpAny_comprehension_free rfl hs (lu fun n hn=>I0.ok.has n (S.free _ hn rfl)) S.kind S.names ?_
  have p:bH X (RV X.toSC) w0 Q E ((it ρ h).bind fun xs h1=>(if xs.length<sizeLine then (fB g tt te (List.replicate vs.length none++dh caps ρ) xs h1).calm else .bad).bind r):=by
   have:cN r (iq vs.length g caps it tt te) ρ h=(it ρ h).bind fun xs h1=>(if xs.length<sizeLine then (fB g tt te (List.replicate vs.length none++dh caps ρ) xs h1).calm else .bad).bind r:=by
    unfold cN iq;cases it ρ h<;>rfl
   rw [← this];exact p
  refine hi.r I0 (p.bind0 fun w h1 xs v y0 rr p=>?_)
  split at p
  ·rename_i hz
   refine sB (use:=none) (K:=fun ps h=>bH X (RV X.toSC) w0 Q E (r ps h)) caps hc S hg ht he gm I0 y0 rr hz (by
    revert p
    cases fB g tt te (List.replicate vs.length none++dh caps ρ) xs h1<;>exact id) fun {w2 h2 ps its D C oC m} y2 H2 nD nC DC hl n l f ra z k=>⟨m,n,fun h' sb=>?_⟩
   obtain ⟨a1,a2⟩:=pj (s':= { w2.s with heap:=h' }) H2 hl fun b o z e=>(sb.2 b z).trans e
   obtain ⟨nn,e1⟩:=l
   have q:=a1.keep _ _ (by simp;exact DC) ⟨e1,f⟩
   exact hr (y2.priv a1 (by simp;exact nC)) a2 nD ⟨nn,q.1⟩ q.2 ra z k
  ·exact p.elim
theorem KG(q:PV)(cp ρ1:Ev)(e:gNm 0 q (List.replicate 1 none++cp)=some ρ1):∃ l:Ev,l.length=1∧ρ1=l++cp:=by cases e;exact ⟨[some q],rfl,rfl⟩
theorem yZ{w0:Wo}{ps:List PV}{its:Array Value}{D:Addr}{Q:Value→Shared→Prop}{E:Value→Shared→Prop}(y:Stp X.fs NoW w0 w)(H:HR X.toSC w h)(n:w0.s.heap.get? D=none)(l:w.s.heap.PlainList D its)(f:Fre w D)(r:av X.toSC w.F w.m ps its.toList)(z:its.size≤sizeLine)(p:bH X (RV X.toSC) w0 Q E (okL ps h)):Q (.ref D) w.s:=by
 obtain ⟨k,e⟩:=l
 have fz:=cP (o:= { cls:=.type "list",data:=.seq its k }) f.2.1
 refine p.2 ⟨iw w.F D { cls:=.type "list",data:=.seq its k },w.O,w.m,w.s⟩ _ ⟨⟨y.os,y.ba,fun a o e=>fz a o (y.fz a o e),y.ow,y.pre,y.dom,fun b o q zz=>?_⟩,fun b x q=>?_,fun d b q=>let ⟨o,z,y⟩:=H.own d b q;⟨o,z,cQ (fun e'=>by rw [e',f.2.2] at q;cases q) y⟩,H.len,H.nd,fun i po b e1 e2=>(H.obj i po b e1 e2).on fz (fun _ e=>e) (fun _ _ e=>e) (fun _ _ e _=>e) (cQ fun z=>f.1 (z▸List.mem_of_getElem? e2))⟩ (.lst bu z (r.mono fz (.inr fun _ _ e=>e)))
 ·obtain ⟨sl,q',z'⟩:=y.keep b o q zz
  exact ⟨sl,⟨q'.1,q'.2.1,cQ (fun z=>by have q:=q.1;rw [z,n] at q;cases q) q'.2.2.1,q'.2.2.2⟩,z'⟩
 ·by_cases z:b=D
  ·subst z;cases bu.symm.trans q;exact e
  ·exact H.sub b x ((kF z).symm.trans q)
end
end Z
namespace L2
open PySem
def DK(h h':Heap):Prop:=∀ b o,h.get? b=some o→∃ o',h'.get? b=some o'∧o'.dict=o.dict
theorem DK.refl(h:Heap):DK h h:=fun _ o e=>⟨o,e,rfl⟩
theorem DK.trans{h1 h2 h3:Heap}(x:DK h1 h2)(y:DK h2 h3):DK h1 h3:=fun b o e=>by
 obtain ⟨o1,e1,d1⟩:=x b o e
 obtain ⟨o2,e2,d2⟩:=y b o1 e1
 exact ⟨o2,e2,d2.trans d1⟩
def Kd{α:Type}(t:Sem α):Prop:=∀ (M:Model) (Γ:Ctx) (Q:α→Pos→Shared→Prop) (E:Value→Pos→Shared→Prop) (p:Pos) (s:Shared),Sem.wp M Γ t Q E p s→
 Sem.wp M Γ t (fun a p' s'=>Q a p' s'∧DK s.heap s'.heap) (fun e p' s'=>E e p' s'∧DK s.heap s'.heap) p s
section
variable {α β:Type}
theorem Kd.bind{m:Sem α}{f:α→Sem β}(hm:Kd m)(hf:∀ a,Kd (f a)):Kd (m >>= f):=fun M Γ Q E p s h=>by
 rw [Sem.wp_bind'] at h ⊢
 refine Sem.wp_mono M Γ m (fun a p1 s1 z=>?_) (fun e p1 s1 z=>z) p s (hm M Γ _ _ p s h)
 exact Sem.wp_mono M Γ (f a) (fun b p2 s2 y=>⟨y.1,z.2.trans y.2⟩) (fun e p2 s2 y=>⟨y.1,z.2.trans y.2⟩) p1 s1 (hf a M Γ Q E p1 s1 z.1)
theorem Kd.pure(a:α):Kd (Pure.pure a:Sem α):=fun M Γ Q E p s h=>by
 rw [Sem.wp_pure'] at h ⊢;exact ⟨h,DK.refl _⟩
theorem Kd.uns(x:String):Kd (unsupported x:Sem α):=fun M Γ Q E p s h=>by
 rw [show (unsupported x:Sem α)= .unsupported x from rfl,Sem.wp_unsupported] at h;exact h.elim
theorem Kd.load(a:Addr):Kd (PySem.load a):=fun M Γ Q E p s h=>by
 rw [show PySem.load a= .load a none .pure from rfl,Sem.wp_load] at h ⊢
 obtain ⟨o,h1,h2⟩:=h
 rw [Sem.wp_pure] at h2
 exact ⟨o,h1,by rw [Sem.wp_pure];exact ⟨h2,DK.refl _⟩⟩
theorem Kd.stack:Kd PySem.stack:=fun M Γ Q E p s h=>by
 rw [show PySem.stack= .stack .pure from rfl,Sem.wp_stack,Sem.wp_pure] at h ⊢
 exact ⟨h,DK.refl _⟩
theorem Kd.alloc(o:Obj):Kd (PySem.alloc o):=fun M Γ Q E p s h=>by
 rw [show PySem.alloc o= .alloc o .pure from rfl,Sem.wp_alloc,Sem.wp_pure] at h ⊢
 exact ⟨h,fun b o' e=>⟨o',Heap.get?_push_of_some _ e,rfl⟩⟩
theorem Kd.update{a:Addr}{f:Obj→Obj}(hf:∀ o,o.isFreed=false→(f o).isFreed=false∧(f o).dict=o.dict):Kd (PySem.update a f):=fun M Γ Q E p s h=>by
 rw [show PySem.update a f= .update a none f .pure from rfl,Sem.wp_update] at h ⊢
 obtain ⟨h1,h2⟩:=h
 rw [Sem.wp_pure] at h2
 refine ⟨h1,?_⟩
 rw [Sem.wp_pure]
 refine ⟨h2,fun b o e=>?_⟩
 by_cases hb:a=b
 ·subst hb
  obtain ⟨z1,z2⟩:=hf o (Heap.get?_some_iff.mp e).2
  exact ⟨f o,Heap.get?_update_self f e z1,z2⟩
 ·exact ⟨o,(Heap.get?_update_other _ _ hb).trans e,rfl⟩
theorem Kd.ite{c:Prop}[Decidable c]{t u:Sem α}(ht:Kd t)(hu:Kd u):Kd (if c then t else u):=by
 split
 ·exact ht
 ·exact hu
theorem vm(v:Value):Kd (fieldsOf v):=by
 unfold fieldsOf
 split
 ·refine (Kd.load _).bind fun o=>?_
  split
  ·exact Kd.pure _
  ·exact Kd.uns _
 ·exact Kd.uns _
theorem mM(v:Value)(i:Nat):Kd (field v i):=by
 refine (vm v).bind fun vs=>?_
 split
 ·exact Kd.pure _
 ·exact Kd.uns _
theorem oA(g:Array Value→Array Value)(o:Obj)(h:o.isFreed=false):(Obj.mapFields g o).isFreed=false∧(Obj.mapFields g o).dict=o.dict:=by
 unfold Obj.mapFields
 split
 ·exact ⟨rfl,rfl⟩
 ·exact ⟨h,rfl⟩
theorem kb(v:Value)(i:Nat)(x:Value):Kd (setField v i x):=by
 unfold setField
 split
 ·unfold updateField
  refine (Kd.load _).bind fun o=>?_
  split
  ·exact Kd.ite (Kd.update fun o h=>oA _ o h) (Kd.uns _)
  ·exact Kd.uns _
 ·exact Kd.uns _
theorem jy(e:Value)(f:Option Addr):Kd (setFlight e f):=by
 refine (mM e 1).bind fun tb=>?_
 exact Kd.ite (kb _ _ _) (Kd.pure _)
theorem tO(ty:String)(vs:List Value):Kd (newFields ty vs):=by
 unfold newFields newObj
 have as:Kd (newObjAsIs (.type ty) (.fields vs.toArray) none):=by
  unfold newObjAsIs
  exact (Kd.alloc _).bind fun _=>Kd.pure _
 dsimp only
 split
 ·exact (Kd.uns _).bind fun _=>as
 ·exact as
theorem kf:∀ l:List Env,Kd (readyFrames l)
 | []=>Kd.pure _
 | env::outer=>by
  unfold readyFrames
  split
  ·refine (Kd.load _).bind fun o=>Kd.ite (Kd.pure _) ?_
   refine Kd.bind ?_ fun i=>Kd.bind ?_ fun b=>Kd.bind (Kd.update fun o h=>⟨?_,rfl⟩) fun _=>kf outer
   ·unfold behindIsImport
    exact Kd.ite (Kd.pure _) (Kd.ite (Kd.pure _) ((mM _ _).bind fun _=>Kd.pure _))
   ·unfold keptBack
    split
    ·refine Kd.ite (Kd.pure _) ?_
     exact Kd.bind (Kd.stack.bind fun _=>Kd.pure _) fun _=>Kd.pure _
    ·exact Kd.pure _
   ·obtain ⟨c,d,dt,s0⟩:=o
    cases dt<;>first | rfl | (simp [Obj.isFreed] at h)
  ·exact Kd.uns _
theorem xn(env:Env):Kd (frameOf env):=by
 unfold frameOf
 refine Kd.bind (Kd.stack.bind fun _=>Kd.pure _) fun l=>Kd.bind ?_ fun o=>?_
 ·unfold frameObject
  split
  ·exact Kd.pure _
  ·exact (kf _).bind fun _=>Kd.pure _
 ·split
  ·exact Kd.pure _
  ·exact Kd.uns _
theorem oE(f:Addr)(b:Bool):Kd (entryPlaceOf f b):=by
 unfold entryPlaceOf
 refine Kd.stack.bind fun _=>?_
 split
 ·exact Kd.pure _
 ·exact Kd.pure _
theorem mK(e:Value)(env:Env):Kd (noteFrame e env):=by
 unfold noteFrame
 split
 ·have go:∀ hd:Value,∀ f:Addr,Kd (do setField e 1 (← EntryCells.newEntry hd (← frameOf env) .none (rawInt f) .none (← entryPlaceOf f (hd != .none)))):=fun hd f=>
   (xn env).bind fun _=>(oE _ _).bind fun _=>(tO _ _).bind fun _=>kb _ _ _
  refine (mM e 1).bind fun hd=>?_
  refine Kd.ite ?_ (go _ _)
  exact (mM _ _).bind fun x=>Kd.ite (Kd.pure _) ((kb _ _ _).bind fun _=>go _ _)
 ·exact Kd.uns _
theorem qz(env:Env)(e:Value):Kd (leaving env e):=(mK e env).bind fun _=>jy e none
end
end L2
namespace Z
open PySem PySem.Spec PyProof.Rows L3 L2
theorem vn{α:Type}{M:Model}{A:Around}{t:Sem α}{Q:α→Shared→Prop}{E:Value→Shared→Prop}{s:Shared}{a:Addr}{dx:Option Addr}(k:Kd t)(d:∃ o,s.heap.get? a=some o∧o.dict=dx)(h:wpAny M A t (fun x s'=>(∃ o,s'.heap.get? a=some o∧o.dict=dx)→Q x s') E s):wpAny M A t Q E s:=
 fun Γ p hΓ=>Sem.wp_mono M Γ t (fun _ _ _ z=>z.1 (let ⟨o,e,d⟩:=d;let ⟨o',e',d'⟩:=z.2 a o e;⟨o',e',d'.trans d⟩)) (fun _ _ _ z=>z.1) p s (k M Γ _ _ p s (h Γ p hΓ))
section
variable {X Y:Cx} {w w2:Wo} {h h2:List PO}
theorem Gk{B hp:Heap}{V:Addr→Prop}(y:Stp Y.fs V w w2)(W2:Wd Y w2 h2)(c1:∀ b o,w.s.heap.get? b=some o→b∉Y.fs→∃ o',B.get? b=some o')(c2:∀ b,¬ Fre w2 b→∃ o',B.get? b=some o')(s1:B.StaysIn w2.s.heap)(s2:B.StaysIn hp)(up:w2.s.heap.UpToSlots hp):Stp Y.fs V w { w2 with s:= { w2.s with heap:=hp } }∧HR Y.toSC { w2 with s:= { w2.s with heap:=hp } } h2:=by
 have fr:∀ b∈Y.fs,∀ o,w2.s.heap.get? b=some o→∃ sl,hp.get? b=some { o with slots:=sl }:=fun b hb o e=>by
  obtain ⟨o',q,d⟩:=W2.fr b hb
  have q:=q.1;rw [e] at q;cases q
  exact up b o e d
 refine ⟨⟨y.os,y.ba,y.fz,y.ow,y.pre,fun b o e=>?_,fun b o q n=>?_⟩,W2.toHR.on fun b o e n=>?_⟩
 ·by_cases hb:b∈Y.fs
  ·obtain ⟨o',q⟩:=y.dom b o e;obtain ⟨sl,q'⟩:=fr b hb o' q;exact ⟨_,q'⟩
  ·obtain ⟨o',q⟩:=c1 b o e hb;exact ⟨o',s2 b o' q⟩
 ·obtain ⟨sl,q',z⟩:=y.keep b o q n
  by_cases hb:b∈Y.fs
  ·obtain ⟨sl',e'⟩:=fr b hb _ q'.1;exact ⟨sl',⟨e',q'.2⟩,.inl hb⟩
  ·obtain ⟨o',e'⟩:=c1 b o q.1 hb
   have g1:=s1 b o' e'
   rw [q'.1] at g1;cases g1
   exact ⟨sl,⟨s2 b _ e',q'.2⟩,z⟩
 ·obtain ⟨o',q⟩:=c2 b n
  have:=s1 b o' q
  rw [e] at this;cases this
  exact s2 b o q
theorem JW{e:PV}{u:Value}{Q:Unit→Shared→Prop}{E:Value→Shared→Prop}(nw:New X Y w)(hG:Y.toSC=X.toSC)(hst:Y.stack=Y.env::X.stack)(hf:Y.env.frame=some Y.L)(hA:Y.A.frames=some Y.stack)(y:StS Y w w2)(W2:Wd Y w2 h2)(r:nh Y w w2 e u)
  (c:∀ s',Stp X.fs NoW w { w2 with s:=s' }→HR X.toSC { w2 with s:=s' } h2→nh X w { w2 with s:=s' } e u→Q () s'):Wp Y (leaving Y.env u) Q E w2.s:=by
 have fsY:Y.fs=Y.L::X.fs:=by simp [Cx.fs,frs,hst,hf]
 have oL:∀ {b o},w.s.heap.get? b=some o→b≠Y.L:=fun e z=>by rw [z,nw.1 _ (.inl rfl)] at e;cases e
 obtain ⟨a,cls,dx,rfl,⟨⟨a0,B,fl,c1,c2⟩,d⟩,m⟩:=r
 have go:∀ hp,B.StaysIn w2.s.heap→Heap.FlyingW B X.stack a cls a0 hp→w2.s.heap.UpToSlots hp→(∃ o,hp.get? a=some o∧o.dict=dx)→Q () { w2.s with heap:=hp }:=fun hp s1 fl2 up dx2=>by
  obtain ⟨g1,g2⟩:=Gk y W2 c1 c2 s1 fl2.1 up
  exact c _ (Stp.out nw g1) (hG▸g2) ⟨a,cls,dx,rfl,⟨⟨a0,B,.inl fl2,fun b o e n=>c1 b o e fun z=>by rw [fsY] at z;exact (List.mem_cons.mp z).elim (oL e) n,fun b z=>c2 b z⟩,dx2⟩,by revert m;rw [hG];exact id⟩
 rw [hst] at fl
 rcases fl with fl | ⟨_,fl⟩
 ·exact vn (qz _ _) d (wpAny_leaves_onW (hst▸hA) hf fl fun hp fl2 up dx2=>go hp fl.1 fl2 up dx2)
 ·obtain ⟨s1,eB,ff,o,vs,ho,rfl,hd,h0,h1⟩:=fl
  exact vn (qz _ _) d (wpAny_leaving_firstW (hst▸hA) ff hf ho s1 eB hd h1 h0 fun hp L dx2=>go hp s1 ⟨L.1,eB,L.2.1.2.2,L.2.2.1⟩ L.2.2.2 dx2)
end
end Z
namespace L3
def PO.pure:PO→Bool
 | .lst xs=>ai xs
 | .dct kvs=>aI kvs
 | .froz _=>true
 | .obj _ _=>false
def eE:List PO→Bool
 | []=>true
 | o::r=>o.pure&&eE r
def qK(n:Nat)(v:PV)(h:List PO):Res PV:=if (eE (h.take n)&&Nat.ble n h.length)=true then .ok v (h.take n) else .bad
def rj(n:Nat)(v:PV)(h:List PO):Res PV:=match fR h v with
 | some (q,h2)=>qK n q h2
 | none=>.bad
def fx(f:Sx)(np n:Nat)(ps:List PV)(h:List PO):Res PV:=if ps.length=np then match f (ps.map some++List.replicate (n - ps.length) none) h with
  | .nx _ h1=>qK h.length .non h1
  | .rt v h1=>rj h.length v h1
  | _=>.bad
 else .bad
def FD(n:Nat)(e:PV)(h:List PO):Res PV:=if (eE (h.take n)&&Nat.ble n h.length&&e.pure)=true then .exc e (h.take n) else .bad
def uA(f:Sx)(np n:Nat)(ps:List PV)(h:List PO):Res PV:=if ps.length=np then match f (ps.map some++List.replicate (n - ps.length) none) h with
  | .nx _ h1=>qK h.length .non h1
  | .rt v h1=>rj h.length v h1
  | .exc e h1=>FD h.length e h1
  | _=>.bad
 else .bad
def lvs:List PV→List Nat
 | []=> []
 | .ref i::r=>i::lvs r
 | _::r=>lvs r
def rnm:Nat→List PV→List PV
 | _,[]=> []
 | n,.ref _::r=>.ref n::rnm (n+1) r
 | n,p::r=>p::rnm n r
def mJ:List PV→Bool
 | []=>true
 | .ref _::r=>mJ r
 | p::r=>p.pure&&mJ r
def kh(h:List PO):List Nat→Option (List PO)
 | []=>some []
 | i::r=>match h[i]? with
  | some o=>match kh h r with
   | some l=>some (o::l)
   | none=>none
  | none=>none
def gj:List PO→List Nat→List PO→List PO
 | h,i::r,o::l=>gj (h.set i o) r l
 | h,_,_=>h
def lN:List Nat→Bool
 | []=>true
 | i::r=>!r.contains i&&lN r
def callL(fn:List PV→List PO→Res PV)(ps:List PV)(h:List PO):Res PV:=match kh h (lvs ps) with
 | some hs=>if (mJ ps&&eE hs&&lN (lvs ps))=true then match fn (rnm 0 ps) hs with
   | .ok v hs'=>if v.pure=true∧eE hs'=true∧hs'.length=hs.length then .ok v (gj h (lvs ps) hs') else .bad
   | .exc v hs'=>if v.pure=true∧eE hs'=true∧hs'.length=hs.length then .exc v (gj h (lvs ps) hs') else .bad
   | .bad=>.bad
  else .bad
 | none=>.bad
def eM(fn:List PV→List PO→Res PV)(as:Ax):Ex:=fun ρ h=>(as ρ h).bind (callL fn)
def ltv(n:Nat):PV→Bool
 | .ref i=>decide (i<n)
 | p=>p.pure
def ltP(n:Nat):PO→Bool
 | .lst xs=>xs.all (ltv n)
 | .dct kvs=>kvs.all fun x=>ltv n x.2
 | .froz _=>true
 | .obj _ ps=>ps.all (ltv n)
def rm(n:Nat)(v:PV)(h:List PO):Res PV:=if ((h.take n).all (ltP n)&&Nat.ble n h.length)=true then .ok v (h.take n) else .bad
def xG(n:Nat)(v:PV)(h:List PO):Res PV:=if ltv n v=true then rm n v h else match fR h v with
 | some (q,h2)=>rm n q h2
 | none=>.bad
def CX(n:Nat)(e:PV)(h:List PO):Res PV:=if ((h.take n).all (ltP n)&&Nat.ble n h.length&&e.pure)=true then .exc e (h.take n) else .bad
def bq(f:Sx)(np n:Nat)(ps:List PV)(h:List PO):Res PV:=if ps.length=np then match f (ps.map some++List.replicate (n - ps.length) none) h with
  | .nx _ h1=>rm h.length .non h1
  | .rt v h1=>xG h.length v h1
  | .exc e h1=>CX h.length e h1
  | _=>.bad
 else .bad
def uz(f:Sx)(np n:Nat)(ps:List PV)(h:List PO):Res PV:=if ps.length=np then match f (ps.map some++List.replicate (n - ps.length) none) h with
  | .nx _ h1=>.ok .non h1
  | _=>.bad
 else .bad
def nO(fn:List PV→List PO→Res PV)(as:Ax):Ex:=fun ρ h=>(as ρ h).bind fn
end L3
namespace Z
open PySem PySem.Spec PyProof.Rows L3 L2
def Gv(X:Cx)(w:Wo)(Q:Value→Shared→Prop)(E:Value→Shared→Prop):Res PV→Prop
 | .ok a h=>∀ w' x,Nw X w w' h→aX X.toSC w'.F w'.m a x→Q x w'.s
 | .exc e h=>∀ w' u,Nw X w w' h→nh X w w' e u→E u w'.s
 | .bad=>False
theorem bH.c{X:Cx}{w:Wo}{Q:Value→Shared→Prop}{E:Value→Shared→Prop}{r:Res PV}(p:bH X (RV X.toSC) w Q E r):Gv X w Q E r:=match r with
 | .ok _ _=>p.2
 | .exc _ _=>p.2
 | .bad=>p
structure FnL(G:SC)(c:Bool)(k:Nat)(f:Addr)(fd:FuncData)(ps:List Str)(fn:List PV→List PO→Res PV):Prop where
 len:∀ qs h,fn qs h≠.bad→qs.length=ps.length
 run:∀ {X:Cx} {w:Wo} {h:List PO} {A:Around} {qs:List PV} {us:List Value} {args:Args} {Q:Value→Shared→Prop} {E:Value→Shared→Prop},X.toSC=G→dY k A→(c=true→A.handled=none)→A.frames=some X.stack→Wd X w h→X.Ok→av G w.F w.m qs us→BindsTo w.s fd args (ps.zip us)→
  Gv X w Q E (fn qs h)→codeAny (model G.prog G.w) A (.call (.ref f) args) (RC Q E) w.s
def oh(n:Nat)(h:List PO):Prop:=(h.take n).all (ltP n)=true∧n≤h.length
inductive Fin(n:Nat):SR→Res PV→Prop where
 | nx {ρ:Ev} {h:List PO}:oh n h→Fin n (.nx ρ h) (.ok .non (h.take n))
 | al {ρ:Ev} {h:List PO}:Fin n (.nx ρ h) (.ok .non h)
 | rt {v:PV} {h:List PO}:ltv n v=true→oh n h→Fin n (.rt v h) (.ok v (h.take n))
 | rf {v q:PV} {h h2:List PO}:fR h v=some (q,h2)→oh n h2→Fin n (.rt v h) (.ok q (h2.take n))
 | ex {e:PV} {h:List PO}:e.pure=true→oh n h→Fin n (.exc e h) (.exc e (h.take n))
section
variable {G:SC} {X Y:Cx} {w w1 w2:Wo} {h h1 h2:List PO} {n:Nat}
theorem aX.lt{F:Fz}{m:List Addr}{p:PV}{u:Value}(r:aX G F m p u)(z:ltv n p=true):aX G F (m.take n) p u:=by
 unfold ltv at z
 split at z
 ·cases r with | ref e=>exact .ref (by rw [List.getElem?_take_of_lt (of_decide_eq_true z)];exact e)
 ·exact r.mono (fun _ _ e=>e) (.inl z)
theorem av.lt{F:Fz}{m:List Addr}:∀ {p:List PV} {u:List Value},av G F m p u→p.all (ltv n)=true→av G F (m.take n) p u
 | _,_,.nil,_=>.nil
 | _,_,.cons r t,z=>by simp only [List.all_cons,Bool.and_eq_true] at z;exact .cons (r.lt z.1) (av.lt t z.2)
theorem HR.cut(H:HR G w h)(c:oh n h):HR G ⟨w.F,w.O,w.m.take n,w.s⟩ (h.take n):=by
 refine ⟨H.sub,fun d a e=>let ⟨o,z,y⟩:=H.own d a e;⟨o,fun x=>z (List.mem_of_mem_take x),y⟩,by simp [H.len],H.nd.sublist (List.take_sublist _ _),fun i o a e1 e2=>?_⟩
 have hi:i<n:=by
  rcases Nat.lt_or_ge i n with z | z
  ·exact z
  ·rw [List.getElem?_eq_none (by simp;omega)] at e1;cases e1
 have z:=List.all_eq_true.mp c.1 o (List.mem_of_getElem? e1)
 rw [List.getElem?_take_of_lt hi] at e1
 have q:=H.obj i o a e1 (by rw [← List.getElem?_take_of_lt hi];exact e2)
 cases o with
 | lst ps=>obtain ⟨f,its,n,e,l,r⟩:=q;exact ⟨f,its,n,e,l,r.lt z⟩
 | dct kps=>obtain ⟨f,o,kvs,e,d,y,l,c,r⟩:=q;exact ⟨f,o,kvs,e,d,y,l,c,r.lt (by simpa [ltP,List.all_map] using z)⟩
 | froz p=>obtain ⟨r,z,q⟩:=q;exact ⟨r.mono (fun _ _ e=>e) (.inl z),z,q⟩
 | obj C ps=>obtain ⟨f,Ca,dx,od,vs,c,e,d,e2,nn,l,r⟩:=q;exact ⟨f,Ca,dx,od,vs,c,e,d,e2,nn,l,r.lt z⟩
theorem Nw.cut(hl:h.length=w.m.length)(y:Stp X.fs NoW w w2)(H:HR X.toSC w2 h2)(c:oh h.length h2):Nw X w ⟨w2.F,w2.O,w2.m.take h.length,w2.s⟩ (h2.take h.length):=by
 refine ⟨⟨y.os,y.ba,y.fz,y.ow,?_,y.dom,fun b o q z=>let ⟨sl,q,z⟩:=y.keep b o q z;⟨sl,⟨q.1,fun z=>q.2.1 (List.mem_of_mem_take z),q.2.2⟩,z⟩⟩,H.cut c⟩
 obtain ⟨t,e⟩:=y.pre
 exact ⟨[],by simp [e,hl]⟩
theorem nh.cut{e:PV}{u:Value}(r:nh X w w2 e u)(pu:e.pure=true):nh X w ⟨w2.F,w2.O,w2.m.take n,w2.s⟩ e u:=r.to pu rfl rfl rfl fun b z=>.inl fun y=>z ⟨fun z=>y.1 (List.mem_of_mem_take z),y.2⟩
variable {N ps:List Str} {qual name:Str} {st:Stmt} {f:Addr} {fd:FuncData} {k:Nat} {g:Sx} {fn:List PV→List PO→Res PV}
theorem oR{c:Bool}(F:Fun G.K name qual st f fd)(S:kN N ps (aV st))(hb:∀ (X:Cx) (cd:Value) (A:Around) (s:Shared),X.toSC=G→dY k (A.deeper (envOfC qual (aV st) s.heap.objs.size f cd))→RSs (jB c X N qual (aV st) f cd A s) (gX st) g)
  (hfn:∀ qs h,fn qs h≠.bad→qs.length=ps.length∧Fin h.length (g (st0 N.length qs) h) (fn qs h)):FnL G c (k+1) f fd ps fn where
 len qs h z:=(hfn qs h z).1
 run {X w h A qs us args Q E} hG hr hd hf I ok r hbd p:=by
  subst hG
  obtain ⟨hl,fin⟩:=hfn qs h fun z=>by rw [z] at p;exact p
  refine nN (c:=c) F S hr hd hf I ok hl r hbd fun cd s1 hr1 nw y J _=>(hb X cd A w.s rfl hr1).r J ?_
  have yo:∀ {w2},StS (jB c X N qual (aV st) f cd A w.s) { w with s:=s1 } w2→StS (jB c X N qual (aV st) f cd A w.s) w w2:=fun y2=>Stp.trans (y.weak (fun _ z=>z.elim) fun b z=>List.mem_cons_of_mem _ z) y2
  revert fin p
  generalize g (st0 N.length qs) h=sr
  generalize fn qs h=res
  intro p fin
  cases fin with
  | nx ck=>exact ⟨.leaving,fun w2 y2 I2=>p ⟨w2.F,w2.O,w2.m.take h.length,w2.s⟩ _ (Nw.cut I.len ((yo y2).out nw) I2.toHR ck) .non⟩
  | al=>exact ⟨.leaving,fun w2 y2 I2=>p _ _ ⟨(yo y2).out nw,I2.toHR⟩ .non⟩
  | rt l ck=>exact ⟨.leaving,fun w2 u ρ y2 I2 r2=>p ⟨w2.F,w2.O,w2.m.take h.length,w2.s⟩ _ (Nw.cut I.len ((yo y2).out nw) I2.toHR ck) (r2.lt l)⟩
  | rf e ck=>exact ⟨.leaving,fun w2 u ρ y2 I2 r2=>by
    obtain ⟨F',n,r3,pu⟩:=I2.toHR.frz (X:=jB c X N qual (aV st) f cd A w.s) r2 e
    exact p ⟨F',w2.O,w2.m.take h.length,w2.s⟩ _ (Nw.cut (w2:=⟨F',w2.O,w2.m,w2.s⟩) I.len ((yo (y2.trans n.s)).out nw) n.2 ck) (r3.mono (fun _ _ e=>e) (.inl pu))⟩
  | ex pu ck=>exact ⟨.leaving,fun w2 u ρ y2 I2 r2=>JW nw rfl rfl rfl (Around.frames_deeper hf) (yo y2) I2.toWd (r2.back y) fun s' y3 H3 r3=>p ⟨w2.F,w2.O,w2.m.take h.length,s'⟩ _ (Nw.cut (w2:= { w2 with s:=s' }) I.len y3 H3 ck) (r3.cut pu)⟩
theorem DZ{p:PV}(h:p.pure=true):ltv n p=true:=by cases p<;>first | exact h | cases h
theorem qi:∀ {l:List PV},ai l=true→l.all (ltv n)=true
 | [],_=>rfl
 | p::r,h=>by simp only [ai,Bool.and_eq_true] at h;simp [DZ h.1,qi h.2]
theorem nu:∀ {l:List PO},eE l=true→l.all (ltP n)=true
 | [],_=>rfl
 | o::r,h=>by
  simp only [eE,Bool.and_eq_true] at h
  simp only [List.all_cons,nu h.2,Bool.and_true]
  cases o with
  | lst xs=>exact qi h.1
  | dct kvs=>have:=qi (n:=n) (l:=kvs.map (·.2)) (by rw [← jw];exact h.1);simpa [ltP,List.all_map] using this
  | froz _=>rfl
  | obj _ ps=>cases h.1
theorem Gr{v:PV}{h:List PO}(z:qK n v h≠.bad):oh n h∧qK n v h= .ok v (h.take n):=by
 unfold qK at z ⊢
 split at z
 ·rename_i c;rw [if_pos c];simp only [Bool.and_eq_true] at c;exact ⟨⟨nu c.1,Nat.le_of_ble_eq_true c.2⟩,rfl⟩
 ·exact absurd rfl z
theorem CV{v:PV}{h:List PO}(z:rm n v h≠.bad):oh n h∧rm n v h= .ok v (h.take n):=by
 unfold rm at z ⊢
 split at z
 ·rename_i c;rw [if_pos c];simp only [Bool.and_eq_true] at c;exact ⟨⟨c.1,Nat.le_of_ble_eq_true c.2⟩,rfl⟩
 ·exact absurd rfl z
theorem Gm{np N:Nat}(qs:List PV)(h:List PO)(z:uA g np N qs h≠.bad):qs.length=np∧Fin h.length (g (st0 N qs) h) (uA g np N qs h):=by
 unfold uA at z ⊢
 split at z
 ·rename_i l
  rw [if_pos l]
  refine ⟨l,?_⟩
  unfold st0
  split at z<;>rename_i e<;>(try rw [e])
  ·obtain ⟨c,e⟩:=Gr z;rw [e];exact .nx c
  ·unfold rj at z ⊢
   split at z
   ·rename_i e1;obtain ⟨c,e⟩:=Gr z;rw [e];exact .rf e1 c
   ·exact absurd rfl z
  ·unfold FD at z ⊢
   split at z
   ·rename_i c;rw [if_pos c];simp only [Bool.and_eq_true] at c;exact .ex c.2 ⟨nu c.1.1,Nat.le_of_ble_eq_true c.1.2⟩
   ·exact absurd rfl z
  ·exact absurd rfl z
 ·exact absurd rfl z
theorem KO{np N:Nat}(qs:List PV)(h:List PO)(z:bq g np N qs h≠.bad):qs.length=np∧Fin h.length (g (st0 N qs) h) (bq g np N qs h):=by
 unfold bq at z ⊢
 split at z
 ·rename_i l
  rw [if_pos l]
  refine ⟨l,?_⟩
  unfold st0
  split at z<;>rename_i e<;>(try rw [e])
  ·obtain ⟨c,e⟩:=CV z;rw [e];exact .nx c
  ·unfold xG at z ⊢
   split at z
   ·rename_i l;rw [if_pos l];obtain ⟨c,e⟩:=CV z;rw [e];exact .rt l c
   ·rename_i l
    rw [if_neg l]
    split at z
    ·rename_i e1;obtain ⟨c,e⟩:=CV z;rw [e];exact .rf e1 c
    ·exact absurd rfl z
  ·unfold CX at z ⊢
   split at z
   ·rename_i c;rw [if_pos c];simp only [Bool.and_eq_true] at c;exact .ex c.2 ⟨c.1.1,Nat.le_of_ble_eq_true c.1.2⟩
   ·exact absurd rfl z
  ·exact absurd rfl z
 ·exact absurd rfl z
theorem KN{np N:Nat}(qs:List PV)(h:List PO)(z:uz g np N qs h≠.bad):qs.length=np∧Fin h.length (g (st0 N qs) h) (uz g np N qs h):=by
 unfold uz at z ⊢
 split at z
 ·rename_i l
  rw [if_pos l]
  refine ⟨l,?_⟩
  unfold st0
  split at z<;>rename_i e<;>(try rw [e])
  ·exact .al
  ·exact absurd rfl z
 ·exact absurd rfl z
theorem KM{np N:Nat}(qs:List PV)(h:List PO)(z:fx g np N qs h≠.bad):qs.length=np∧Fin h.length (g (st0 N qs) h) (fx g np N qs h):=by
 have e:fx g np N qs h=uA g np N qs h:=by
  unfold fx uA at *
  split
  ·rw [if_pos ‹_›] at z;split<;>rename_i e<;>simp_all
  ·rfl
 rw [e] at z ⊢;exact Gm qs h z
end
end Z
namespace Z
open PySem PySem.Spec PyProof.Rows L3 L2
section
variable {G:SC} {X:Cx} {w w1:Wo} {h hs:List PO} {is:List Nat}
theorem lV:∀ {is:List Nat} {hs:List PO},kh h is=some hs→is.length=hs.length∧∀ (j i:Nat),is[j]? =some i→h[i]? =hs[j]?
 | [],_,e=>by cases e;exact ⟨rfl,fun _ _ e=>nomatch e⟩
 | i::r,_,e=>by
  unfold kh at e
  split at e
  ·rename_i e1
   split at e<;>cases e
   rename_i e2
   obtain ⟨l,k⟩:=lV e2
   exact ⟨by simp [l],fun j i' q=>by cases j with | zero=>cases q;exact e1 | succ j=>exact k j i' q⟩
  ·cases e
theorem qv:∀ {is:List Nat},lN is=true→is.Nodup
 | [],_=>.nil
 | i::r,h=>by simp only [lN,Bool.and_eq_true,Bool.not_eq_true',List.contains_eq_mem,decide_eq_false_iff_not] at h;exact .cons (fun x hx z=>h.1 (z▸hx)) (qv h.2)
theorem qg:∀ (is:List Nat) (h hs:List PO),(L3.gj h is hs).length=h.length
 | [],h,_=>by simp [L3.gj]
 | _::_,h,[]=>by simp [L3.gj]
 | i::r,h,o::l=>by simp [L3.gj,qg r]
theorem qh:∀ {is:List Nat} {h hs:List PO} {i:Nat},is.Nodup→is.length=hs.length→(∀ j∈is,j<h.length)→(∀ j:Nat,is[j]? =some i→(L3.gj h is hs)[i]? =hs[j]?)∧(i∉is→(L3.gj h is hs)[i]? =h[i]?)
 | [],h,[],i,_,_,_=>⟨fun _ e=>(nomatch e),fun _=>rfl⟩
 | j0::r,h,o::l,i,nd,e,lt=>by
  rw [List.nodup_cons] at nd
  obtain ⟨a,b⟩:=qh (h:=h.set j0 o) (hs:=l) (i:=i) nd.2 (by simpa using e) (fun j hj=>by simpa using lt j (List.mem_cons_of_mem _ hj))
  refine ⟨fun j q=>?_,fun n=>?_⟩
  ·cases j with
   | zero=>cases q;simp only [L3.gj];rw [b nd.1];simp [lt _ List.mem_cons_self]
   | succ j=>simp only [L3.gj];rw [a j q];rfl
  ·simp only [L3.gj];rw [b fun z=>n (List.mem_cons_of_mem _ z),List.getElem?_set_ne fun z=>n (by simp [z])]
def sel(m:List Addr)(is:List Nat):List Addr:=is.map fun i=>m.getD i 0
theorem oM{m:List Addr}{j i:Nat}{a:Addr}(e:is[j]? =some i)(q:m[i]? =some a):(sel m is)[j]? =some a:=by simp [sel,e,List.getD_eq_getElem?_getD,q]
theorem ny:∀ {hs:List PO} {j:Nat} {o:PO},eE hs=true→hs[j]? =some o→o.pure=true
 | o::r,j,o',h,e=>by
  simp only [eE,Bool.and_eq_true] at h
  cases j with
  | zero=>cases e;exact h.1
  | succ j=>exact ny h.2 e
theorem qO.pure{F:Fz}{m m':List Addr}{O O':Addr→Option Addr}{g:Heap}{a:Addr}{o:PO}(q:qO G F m O g a o)(p:o.pure=true):qO G F m' O' g a o:=by
 cases o with
 | lst ps=>obtain ⟨f,its,n,e,l,r⟩:=q;exact ⟨f,its,n,e,l,r.mono (fun _ _ e=>e) (.inl p)⟩
 | dct kps=>obtain ⟨f,o,kvs,e,d,y,l,c,r⟩:=q;exact ⟨f,o,kvs,e,d,y,l,c,r.mono (fun _ _ e=>e) (.inl (by rw [← jw];exact p))⟩
 | froz p=>obtain ⟨r,z,q⟩:=q;exact ⟨r.mono (fun _ _ e=>e) (.inl z),z,q⟩
 | obj C ps=>cases p
theorem th(H:HR G w h)(lt:∀ i∈is,i<h.length){a:Addr}(z:a∈sel w.m is):∃ i∈is,w.m[i]? =some a:=by
 obtain ⟨i,hi,rfl⟩:=List.mem_map.mp z
 have l:=lt i hi
 rw [H.len] at l
 exact ⟨i,hi,by simp [List.getD_eq_getElem?_getD,List.getElem?_eq_getElem l]⟩
theorem Bg:∀ {is:List Nat},is.Nodup→(∀ i∈is,i<w.m.length)→w.m.Nodup→(sel w.m is).Nodup
 | [],_,_,_=>.nil
 | i::r,nd,lt,n=>by
  rw [List.nodup_cons] at nd
  refine List.nodup_cons.mpr ⟨fun z=>?_,Bg nd.2 (fun j hj=>lt j (List.mem_cons_of_mem _ hj)) n⟩
  obtain ⟨j,hj,e⟩:=List.mem_map.mp z
  have l1:=lt i (by simp)
  have l2:=lt j (List.mem_cons_of_mem _ hj)
  simp only [List.getD_eq_getElem?_getD,List.getElem?_eq_getElem l1,List.getElem?_eq_getElem l2,Option.getD_some] at e
  exact nd.1 ((List.getElem_inj n).mp e▸hj)
theorem Wd.sel(I:Wd X w h)(e:kh h is=some hs)(nd:is.Nodup)(pu:eE hs=true)(lt:∀ i∈is,i<h.length):Wd X ⟨w.F,fun _=>none,sel w.m is,w.s⟩ hs:=by
 obtain ⟨l,k⟩:=lV e
 have g:∀ i∈is,∃ a,w.m[i]? =some a:=fun i hi=>⟨_,List.getElem?_eq_getElem (I.len▸lt i hi)⟩
 refine ⟨⟨I.sub,fun _ _ e=>(nomatch e),by simp [Z.sel,l],Bg nd (fun i hi=>I.len▸lt i hi) I.nd,fun j o a e1 e2=>?_⟩,I.ba,I.bs,fun b hb=>let ⟨o,q,d⟩:=I.fr b hb;⟨o,⟨q.1,fun z=>let ⟨i,_,q'⟩:=th I.toHR lt z;q.2.1 (List.mem_of_getElem? q'),q.2.2.1,rfl⟩,d⟩⟩
 have hj:j<is.length:=by rw [l];exact (List.getElem?_eq_some_iff.mp e1).1
 obtain ⟨i,hi⟩:∃ i,is[j]? =some i:=⟨_,List.getElem?_eq_getElem hj⟩
 obtain ⟨a',ha⟩:=g i (List.mem_of_getElem? hi)
 cases (oM hi ha).symm.trans e2
 exact (I.obj i o a (by rw [k j i hi];exact e1) ha).pure (ny pu e1)
theorem tx{F:Fz}{m:List Addr}:∀ {ps:List PV} {us:List Value} {n:Nat} {m':List Addr},av G F m ps us→mJ ps=true→(∀ (j i:Nat) a,(lvs ps)[j]? =some i→m[i]? =some a→m'[n+j]? =some a)→av G F m' (rnm n ps) us
 | [],_,_,_,.nil,_,_=>.nil
 | p::ps,_,n,m',.cons r t,ok,k=>by
  have z:p.pure=true∧mJ ps=true∧lvs (p::ps)=lvs ps∧rnm n (p::ps)=p::rnm n ps∨∃ i,p= .ref i:=by
   cases p<;>first | exact .inr ⟨_,rfl⟩ | exact .inl ⟨(Bool.and_eq_true _ _▸ok).1,(Bool.and_eq_true _ _▸ok).2,rfl,rfl⟩
  rcases z with ⟨z,o,e,e'⟩ | ⟨i,rfl⟩
  ·rw [e'];rw [e] at k;exact .cons (r.mono (fun _ _ e=>e) (.inl z)) (tx t o k)
  ·cases r with
   | ref e=>exact .cons (.ref (k 0 i _ rfl e)) (tx t ok fun j i a e1 e2=>by have:=k (j+1) i a e1 e2;rwa [show n+1+j=n+(j+1) by omega])
theorem FnL.calH{c:Bool}{f:Addr}{fd:FuncData}{k:Nat}{ps:List Str}{fn:List PV→List PO→Res PV}{ρ:Ev}{qs:List PV}{us:List Value}{Q:Value→Shared→Prop}{E:Value→Shared→Prop}(F:FnL X.toSC c k f fd ps fn)(hr:dY k X.A)(hc:c=true→X.calm=true)(hb:iO X.K fd ps [])(I:Inv X w ρ h)(r:av X.toSC w.F w.m qs us)(p:bH X (RV X.toSC) w Q E (fn qs h)):Wp X (call (.ref f) us) Q E w.s:=by
 refine wpAny_call (F.run rfl hr (fun z=>I.ok.hd (hc z)) I.ok.frames I.toWd I.ok r (by simpa using hb w.s us I.kIn (by rw [List.append_nil,← r.length];exact F.len _ _ fun z=>by rw [z] at p;exact p)) p.c)
theorem FnL.callL{c:Bool}{f:Addr}{fd:FuncData}{k:Nat}{ps:List Str}{fn:List PV→List PO→Res PV}{ρ:Ev}{qs:List PV}{us:List Value}{Q:Value→Shared→Prop}{E:Value→Shared→Prop}(F:FnL X.toSC c k f fd ps fn)(hr:dY k X.A)(hc:c=true→X.calm=true)(hb:iO X.K fd ps [])(I:Inv X w ρ h)(r:av X.toSC w.F w.m qs us)(p:bH X (RV X.toSC) w Q E (callL fn qs h)):Wp X (call (.ref f) us) Q E w.s:=by
 unfold L3.callL at p
 split at p
 ·rename_i hs e
  split at p
  ·rename_i c
   simp only [Bool.and_eq_true] at c
   obtain ⟨⟨c1,c2⟩,c3⟩:=c
   obtain ⟨gl,gk⟩:=lV e
   have nd:=qv c3
   have lt:∀ i∈lvs qs,i<h.length:=fun i hi=>by
    obtain ⟨j,hj,rfl⟩:=List.mem_iff_getElem.mp hi
    have:=gk j _ (List.getElem?_eq_getElem hj)
    rw [List.getElem?_eq_getElem (show j<hs.length from gl▸hj)] at this
    exact (List.getElem?_eq_some_iff.mp this).1
   have r':av X.toSC w.F (sel w.m (lvs qs)) (rnm 0 qs) us:=tx r c1 fun j i a e1 e2=>by rw [Nat.zero_add];exact oM e1 e2
   have I':=I.toWd.sel e nd c2 lt
   have hm:∀ a∈sel w.m (lvs qs),a∈w.m:=fun a z=>let ⟨i,_,q⟩:=th I.toHR lt z;List.mem_of_getElem? q
   have bk:∀ {w1:Wo} {hs':List PO},Nw X ⟨w.F,fun _=>none,sel w.m (lvs qs),w.s⟩ w1 hs'→eE hs'=true→hs'.length=hs.length→Nw X w ⟨w1.F,w.O,w.m,w1.s⟩ (L3.gj h (lvs qs) hs'):=fun {w1 hs'} y pu l=>by
    have pg:=fun i=>qh (i:=i) (h:=h) (hs:=hs') nd (gl.trans l.symm) lt
    refine Nw.back I.toWd y.1 y.2 (qg _ _ _) hm (fun i po a e1 e2 z=>?_) fun i po a e1 e2 z=>?_
    ·obtain ⟨i',hi',e3⟩:=th I.toHR lt z
     have:i=i':=by
      obtain ⟨l1,q1⟩:=List.getElem?_eq_some_iff.mp e2
      obtain ⟨l2,q2⟩:=List.getElem?_eq_some_iff.mp e3
      exact (List.getElem_inj I.nd).mp (q1.trans q2.symm)
     subst this
     obtain ⟨j,hj,rfl⟩:=List.mem_iff_getElem.mp hi'
     have ej:=List.getElem?_eq_getElem hj
     rw [(pg _).1 j ej] at e1
     exact (y.2.obj j po a e1 (y.1.sub j a (oM ej e2))).pure (ny pu e1)
    ·rw [(pg i).2 fun hi=>z (List.mem_of_getElem? (oM (List.getElem?_eq_getElem (List.mem_iff_getElem.mp hi).choose_spec.choose) (by rw [(List.mem_iff_getElem.mp hi).choose_spec.choose_spec];exact e2)))] at e1;exact e1
   refine wpAny_call (F.run (w:=⟨w.F,fun _=>none,sel w.m (lvs qs),w.s⟩) rfl hr (fun z=>I.ok.hd (hc z)) I.ok.frames I' I.ok r' (by simpa using hb w.s us I.kIn (by rw [List.append_nil,← r'.length];exact F.len _ _ fun z=>by rw [z] at p;exact p)) ?_)
   split at p
   ·rename_i e1
    rw [e1]
    split at p
    ·rename_i c;exact fun w1 x y r1=>p.2 ⟨w1.F,w.O,w.m,w1.s⟩ _ (bk y c.2.1 c.2.2) (r1.mono (fun _ _ e=>e) (.inl c.1))
    ·exact p.elim
   ·rename_i e1
    rw [e1]
    split at p
    ·rename_i c
     refine fun w1 x y r1=>p.2 ⟨w1.F,w.O,w.m,w1.s⟩ _ (bk y c.2.1 c.2.2) (r1.to c.1 rfl rfl rfl fun b z=>?_)
     have nf:¬ Fre w b→b∉X.fs:=fun n z=>let ⟨_,q,_⟩:=I.fr _ z;n q.2
     by_cases z1:b∈w.m
     ·exact .inr ⟨I.toHR.there z1,nf fun y=>y.1 z1⟩
     ·by_cases z2:w.O b=none
      ·exact .inl fun y=>z ⟨z1,y.2.1,z2⟩
      ·obtain ⟨o,q⟩:=Option.ne_none_iff_exists'.mp z2;exact .inr ⟨(I.own b o q).1,nf fun y=>z2 y.2.2⟩
    ·exact p.elim
   ·exact p.elim
  ·exact p.elim
 ·exact p.elim
structure ZL(X:Cx)(x:Str)(fn:List PV→List PO→Res PV):Prop where
 ex:∃ c k f fd ps,FnL X.toSC c k f fd ps fn∧dY k X.A∧(c=true→X.calm=true)∧X.mg x=some (.ref f)∧PySem.W.keepIn X.K (.ref f)=true∧iO X.K fd ps []
variable {x:Str} {e:Expr} {es:List Expr} {p0 pos:Pos} {fs:Ax} {fn:List PV→List PO→Res PV}
theorem uH(c:ZL X x fn)(hg:Gl X x)(ha:RA X (e::es) fs)(hdb:(x==("__debug__":Str))=false:=by decide)(he:starEach (e::es) X.env=(false,eval e X.env)::starEach es X.env:=by rfl)(hpl:(backTo pos (starEach es X.env)).any (·.1)=false:=by rfl):RE X (.Call (.Name x p0) (e::es) [] pos) (eM fn fs):=⟨fun I p=>by
 obtain ⟨c,k,f,fd,ps,F,hr,hc,hm,hk,hb⟩:=c.ex
 exact wpAny_Call_Name_kw (I.glb hg hm (PySem.W.callWith_K (h₀:=X.base) I.ok.kin hk (ha.r pos I (p.bind fun _ _ _ _ y r p=>⟨(I.on y).kIn,F.callL hr hc hb (I.on y) r p⟩)) he hpl) hdb)⟩
theorem Bt(c:ZL X x fn)(hg:Gl X x)(ha:RA X (e::es) fs)(hdb:(x==("__debug__":Str))=false:=by decide)(he:starEach (e::es) X.env=(false,eval e X.env)::starEach es X.env:=by rfl)(hpl:(backTo pos (starEach es X.env)).any (·.1)=false:=by rfl):RE X (.Call (.Name x p0) (e::es) [] pos) (nO fn fs):=⟨fun I p=>by
 obtain ⟨c,k,f,fd,ps,F,hr,hc,hm,hk,hb⟩:=c.ex
 exact wpAny_Call_Name_kw (I.glb hg hm (PySem.W.callWith_K (h₀:=X.base) I.ok.kin hk (ha.r pos I (p.bind fun _ _ _ _ y r p=>⟨(I.on y).kIn,F.calH hr hc hb (I.on y) r p⟩)) he hpl) hdb)⟩
end
end Z
namespace L3
def qt(C:Nat)(h:List PO):PV→Option (Nat×List PV)
 | .ref i=>match h[i]? with
  | some (.obj D ps)=>if D=C then some (i,ps) else none
  | _=>none
 | _=>none
def iu(C j:Nat)(p:PV)(h:List PO):Res PV:=match qt C h p with
 | some (_,ps)=>match ps[j]? with
  | some q=>.ok (ao h q) h
  | none=>.bad
 | none=>.bad
def wv(C j:Nat)(v p:PV)(ρ:Ev)(h:List PO):SR:=match qt C h p with
 | some (i,ps)=>if j<ps.length then .nx ρ (h.set i (.obj C (ps.set j v))) else if j=ps.length then .nx ρ (h.set i (.obj C (ps++ [v]))) else .bad
 | none=>.bad
def pU(C j:Nat)(fo fv:Ex):Sx:=fun ρ h=>eH (fv ρ h) fun v h1=>eH (fo ρ h1) fun o h2=>wv C j v o ρ h2
def bK(C:Nat)(fn:List PV→List PO→Res PV)(o:Ex)(as:Ax):Ex:=fun ρ h=>(o ρ h).bind fun p h1=>match qt C h1 p with
 | some _=>(as ρ h1).bind fun ps h2=>fn (p::ps) h2
 | none=>.bad
def mkO(C:Nat)(fn:List PV→List PO→Res PV)(ps:List PV)(h:List PO):Res PV:=match fn (.ref h.length::ps) (h++ [.obj C []]) with
 | .ok .non h2=>.ok (.ref h.length) h2
 | _=>.bad
def vW(C:Nat)(fn:List PV→List PO→Res PV)(as:Ax):Ex:=fun ρ h=>(as ρ h).bind (mkO C fn)
end L3
namespace Z
open PySem PySem.Spec PyProof.Rows L3 L2
section
variable {f:Str} {y:Value}
theorem oW:∀ {ns:List Str} {vs:List Value} {j:Nat} {v:Value},ns.Nodup→ns[j]? =some f→vs[j]? =some v→(ns.zip vs).lookup f=some v
 | [],_,_,_,_,e,_=>by simp at e
 | n::ns,[],j,v,_,_,e=>by simp at e
 | n::ns,x::vs,0,v,_,e1,e2=>by cases e1;cases e2;simp [List.lookup]
 | n::ns,x::vs,j+1,v,nd,e1,e2=>by
  rw [List.nodup_cons] at nd
  have ne:f≠n:=fun z=>nd.1 (z▸List.mem_of_getElem? e1)
  have:(f==n)=false:=by simpa using ne
  rw [List.zip_cons_cons,List.lookup,this]
  exact oW nd.2 e1 e2
theorem lB:∀ {ns:List Str} {vs:List Value},f∉ns→(ns.zip vs).lookup f=none
 | [],_,_=>by simp
 | n::ns,[],_=>by simp
 | n::ns,x::vs,h=>by
  have:(f==n)=false:=by simpa using fun z=>h (by simp [z])
  rw [List.zip_cons_cons,List.lookup,this]
  exact lB fun z=>h (List.mem_cons_of_mem _ z)
theorem xW{n:Str}:∀ {ns:List Str} {vs:List Value} {j:Nat},ns.Nodup→ns[j]? =some f→j≤vs.length→(ns.zip (vs.take j++y::vs.drop (j+1))).lookup n=if n=f then some y else (ns.zip vs).lookup n
 | [],_,_,_,e,_=>by simp at e
 | g::ns,vs,0,_,e,_=>by
  cases e
  by_cases z:n=f
  ·simp [z,List.lookup]
  ·have:(n==f)=false:=by simpa using z
   cases vs<;>simp [List.lookup,this,z]
 | g::ns,[],j+1,_,_,e=>by simp at e
 | g::ns,x::vs,j+1,nd,e1,l=>by
  rw [List.nodup_cons] at nd
  have ih:=xW (n:=n) nd.2 e1 (Nat.le_of_succ_le_succ l)
  simp only [List.take_succ_cons,List.drop_succ_cons,List.cons_append,List.zip_cons_cons,List.lookup]
  by_cases z:n=g
  ·have:n≠f:=fun z'=>nd.1 (z▸z'▸List.mem_of_getElem? e1)
   simp [z,if_neg (z▸this)]
  ·have:(n==g)=false:=by simpa using z
   simp only [this];exact ih
end
theorem qy{y:Str}{v:Value}:∀ {fs:List (Str×Value)},fs.lookup y=some v→(y,v)∈fs
 | p::r,e=>by
  simp only [List.lookup] at e
  split at e
  ·rename_i q;cases e;cases eq_of_beq q;simp
  ·exact List.mem_cons_of_mem _ (qy e)
theorem CF(C:Nat):(fnm C).Nodup:=by unfold fnm;split<;>decide+kernel
theorem Fp(C:Nat):(fnm C).length<100:=by unfold fnm;split<;>decide+kernel
structure Cls(K:PySem.W.Frag)(C:Addr):Prop where
 pg:PySem.W.plainGet K C Str.empty=true
 hd:PySem.W.hasDictIn K C=true
 po:PySem.W.plainOver K C=true
 sa:PySem.W.findIn K (.ref C) "__setattr__"=some (some (.builtin "object.__setattr__"))
def qP(K:PySem.W.Frag)(C:Addr)(f:Str):Prop:=PySem.W.findIn K (.ref C) f=some none
structure bY(K:PySem.W.Frag)(C:Addr)(m:Str)(f:Addr):Prop where
 at_:PySem.W.findIn K (.ref C) m=some (some (.ref f))
 fn:PySem.W.isFn K (.ref f)=true
 kp:PySem.W.keepIn K (.ref f)=true
structure Mk(K:PySem.W.Frag)(C f:Addr):Prop where
 makes:PySem.W.makesIn K C=true
 init:PySem.W.findIn K (.ref C) "__init__"=some (some (.ref f))
 fn:PySem.W.isFn K (.ref f)=true
 kp:PySem.W.keepIn K (.ref C)=true
def OM(g:Heap)(a dx C:Addr)(fs:List (Str×Value)):Prop:=g.get? a=some (PySem.W.instObj C dx)∧∃ od,g.get? dx=some od∧NsO od fs
section
variable {M:Model} {A:Around} {E:Value→Shared→Prop} {P:Program} {wd:World} {K:PySem.W.Frag} {s:Shared} {a dx C:Addr} {fs:List (Str×Value)} {f:Str}
theorem rS{od:Obj}(n:NsO od fs)(name:Str):PySem.W.lookIn name od=some (fs.lookup name):=by
 obtain ⟨es,ep,hd,hk,_,hm⟩:=n
 have e:=hm name
 unfold nsFind findBy at e
 rw [← Array.find?_toList] at e
 unfold PySem.W.lookIn
 rw [hd]
 dsimp only
 split
 ·rename_i y q;rw [q] at e;exact congrArg some e
 ·rename_i q
  rw [q] at e
  have n:es.toList.any (·.refKey)=false:=by
   rw [List.any_eq_false]
   intro y hy
   obtain ⟨z,t,hkey⟩:=hk y (Array.mem_toList_iff.mp hy)
   simp [DictEntry.refKey,hkey]
  rw [if_neg (by rw [n];exact Bool.false_ne_true)]
  exact congrArg some e
theorem OM.look{g:Heap}(I:OM g a dx C fs):∃ od,PySem.W.InstAt g a (PySem.W.instObj C dx) C (some od)∧∀ name,PySem.W.lookIn name od=some (fs.lookup name):=
 let ⟨hx,od,ho,n⟩:=I;⟨od,⟨hx,rfl,rfl,ho⟩,rS n⟩
theorem Fg{b:Bool}{v:Value}{Q:Value→Shared→Prop}(k:K.In s.heap)(I:OM s.heap a dx C fs)(c:Cls K C)(n:qP K C f)(l:fs.lookup f=some v)(hv:PySem.W.handedIn v=true)(h:Q v { s with toks:=s.toks+1 }):wpAny (model P wd) A (getAttr (.ref a) f b) Q E s:=by
 obtain ⟨od,J,hl⟩:=I.look
 exact PySem.W.get_value k J (PySem.W.plainGet_of c.pg).1 (PySem.W.findObj_own c.hd n rfl (by rw [hl,l])) hv h
theorem qA{g:Addr}{pl:Sem Bool}{Q:Value×List Value→Shared→Prop}(k:K.In s.heap)(I:OM s.heap a dx C fs)(c:Cls K C)(m:bY K C f g)(l:fs.lookup f=none)(h:Q (.ref g,[.ref a]) s):wpAny (model P wd) A (getMethod (.ref a) f pl) Q E s:=by
 obtain ⟨od,J,hl⟩:=I.look
 exact PySem.W.method_fn k J (PySem.W.plainGet_of (name:=f) c.pg).1 (PySem.W.plainGet_of (name:=f) c.pg).2 m.at_ (beq_iff_eq.mp m.fn) (by show (PySem.W.lookIn f od).map (·.isSome)=some false;rw [hl,l];rfl) h
theorem DE{v:Value}{Q:Unit→Shared→Prop}(k:K.In s.heap)(I:OM s.heap a dx C fs)(ne:dx≠a)(c:Cls K C)(n:qP K C f)(z:fs.length≤sizeLine)(h:∀ h',h'.Ns1 dx (fun y=>if y=f then some v else fs.lookup y)→Heap.SameBut dx s.heap h'→Q () { s with heap:=h',toks:=s.toks+2 }):wpAny (model P wd) A (setAttr (.ref a) f v) Q E s:=by
 obtain ⟨od,J,hl⟩:=I.look
 obtain ⟨hx,od',ho,es,ep,q1,q2,q3,q4⟩:=id I
 have ns:s.heap.Ns1 dx fun y=>fs.lookup y:=⟨od',es,ep,ho,q1,q2,q3,q4⟩
 have hw:PySem.Within (fun y=>fs.lookup y) (fs.map (·.1)):=fun y hy=>by
  cases e:fs.lookup y with
  | none=>exact absurd e hy
  | some v=>exact List.mem_map.mpr ⟨(y,v),qy e,rfl⟩
 refine PySem.W.set_plain k J c.sa (PySem.W.osa_open (s:= { s with toks:=s.toks+1 }) (r:=none) k J c.po (by unfold PySem.W.takerIn;rw [show PySem.W.findIn K (.ref C) f=some none from n];rfl) fun b=>?_)
 obtain ⟨cd,hc,hd'⟩:=PySem.W.any_some c.hd
 refine wpAny_bind (wpAny_pure (wpAny_bind (wpAny_bind (wpAny_loadPart (show s.heap.get? a=some ⟨.ref C,some dx,.plain, #[]⟩ from hx) (wpAny_bind (PySem.W.Looks.here (s:= { s with toks:=s.toks+1 }) (PySem.W.looks_clsIn k hc) ?_))))))
 rw [hd']
 refine wpAny_pure (a:=some dx) (wpAny_bind (wpAny_pure (wpAny_bind ?_)))
 refine wpAny_nsSet1 (s:= { s with toks:=s.toks+1 }) ns fun h' hn2 hs2=>?_
 obtain ⟨oD,esD,epD,hoD,hdD,hcD⟩:=hn2.count (PySem.Within.cons f v hw)
 exact wpAny_bind (wpAny_lookBehind hoD (by rw [hdD];exact pastItsLine_dict (Nat.le_trans hcD (by rw [List.length_cons,List.length_map];omega))) (wpAny_pure (h _ hn2 hs2)))
end
section
variable {G:SC} {X:Cx} {w w1:Wo} {ρ:Ev} {h:List PO} {s':Shared} {a:Addr} {i:Nat} {po:PO}
theorem Nw.upd(H:HR X.toSC w h)(em:w.m[i]? =some a)(n:w.F a=none)(k:∀ b o,w.s.heap.get? b=some o→b=a∨w.O b=some a∨s'.heap.get? b=some o)(d:∀ b o,w.s.heap.get? b=some o→∃ o',s'.heap.get? b=some o')(q:qO X.toSC w.F w.m w.O s'.heap a po)(ho:s'.os=w.s.os:=by rfl)(hg:s'.gens=w.s.gens:=by rfl):Nw X w { w with s:=s' } (h.set i po):=by
 have k':∀ b o,w.s.heap.get? b=some o→b≠a→w.O b≠some a→s'.heap.get? b=some o:=fun b o e x y=>(k b o e).elim (fun z=>absurd z x) fun z=>z.resolve_left y
 refine ⟨⟨ho,fun q=>hg▸q,fun _ _ e=>e,fun _ _ e=>e,⟨[],by simp⟩,d,fun b o q _=>⟨o.slots,⟨k' b o q.1 (fun z=>q.2.1 (z▸List.mem_of_getElem? em)) (by rw [q.2.2.2];exact fun z=>nomatch z),q.2⟩,.inr rfl⟩⟩,fun b o e=>k' b o (H.sub b o e) (fun z=>by rw [z,n] at e;cases e) (fun z=>by rw [(H.own b a z).2.2] at e;cases e),fun b x e=>let ⟨⟨o,q⟩,z⟩:=H.own b x e;⟨d b o q,z⟩,by simp [H.len],H.nd,fun j o b e1 e2=>?_⟩
 by_cases z:j=i
 ·subst z
  cases em.symm.trans e2
  rw [List.getElem?_set_self (H.len▸(List.getElem?_eq_some_iff.mp em).1)] at e1
  cases e1;exact q
 ·rw [List.getElem?_set_ne (Ne.symm z)] at e1
  have nb:b≠a:=fun y=>z (by
   obtain ⟨l1,q1⟩:=List.getElem?_eq_some_iff.mp e2
   obtain ⟨l2,q2⟩:=List.getElem?_eq_some_iff.mp em
   exact (List.getElem_inj H.nd).mp (q1.trans (y.trans q2.symm)))
  exact (H.obj j o b e1 e2).on (fun _ _ e=>e) (fun _ e=>e) (fun _ _ e=>e) (fun c o e y=>k' c o e (y.elim (fun y=>y▸nb) fun y z=>by subst z;exact (H.own _ _ y).2.1 (List.mem_of_getElem? em)) (y.elim (fun y z=>(H.own c a z).2.1 (y▸List.mem_of_getElem? e2)) fun y z=>nb (Option.some.inj (y.symm.trans z)))) id
theorem HR.ob{C:Nat}{p:PV}{u:Value}{ps:List PV}(H:HR G w h)(r:aX G w.F w.m p u)(e:qt C h p=some (i,ps)):∃ a Ca dx vs,u= .ref a∧p= .ref i∧w.m[i]? =some a∧w.F a=none∧G.T C=some Ca∧OM w.s.heap a dx Ca ((fnm C).zip vs)∧dx≠a∧w.O dx=some a∧vs.length≤(fnm C).length∧av G w.F w.m ps vs:=by
 unfold qt at e
 split at e
 ·split at e
  ·rename_i q
   split at e<;>cases e
   subst_vars
   cases r with
   | ref em=>
    obtain ⟨f,Ca,dx,od,vs,c,e1,o,e2,n,l,r⟩:=H.obj _ _ _ q em
    exact ⟨_,Ca,dx,vs,rfl,rfl,em,f,c,⟨e1,od,e2,n⟩,fun z=>(H.own _ _ o).2.1 (z▸List.mem_of_getElem? em),o,l,r⟩
  ·cases e
 ·cases e
theorem Cz{F:Fz}{m:List Addr}{p:PV}{u:Value}(r:aX G F m p u):PySem.W.handedIn u=true:=by cases r<;>rfl
structure OC(X:Cx)(C:Nat):Prop where
 ex:∃ Ca,X.T C=some Ca∧Cls X.K Ca∧∀ f∈fnm C,qP X.K Ca f
variable {f:Str} {o value:Expr} {fo fv:Ex} {pos pos' apos p0:Pos} {C j:Nat}
theorem fj(oc:OC X C)(hj:(fnm C)[j]? =some f)(ho:RE X o fo)(hb:attributeBase o f X.env (eval o X.env)=eval o X.env:=by rfl):RE X (.Attribute o f pos) (c1 (iu C j) fo):=⟨fun I p=>by
 obtain ⟨Ca,t,c,n⟩:=oc.ex
 refine Attribute_any_ (ho.r I (p.bind fun w1 h1 a u y r p=>?_)) (by rw [arm_eval_Attribute,hb])
 unfold iu at p
 split at p
 ·rename_i e
  obtain ⟨a,Cb,dx,vs,rfl,_,em,_,c',O,_,_,_,rr⟩:=y.2.ob r e
  cases t.symm.trans c'
  split at p
  ·obtain ⟨v,e3,rq⟩:=rr.get ‹_›
   exact Fg (I.on y).kIn O c (n f (List.mem_of_getElem? hj)) (oW (CF C) hj e3) (Cz rq) (p.now y.2 (y.2.deref rq))
  ·exact p.elim
 ·exact p.elim⟩
theorem pY(oc:OC X C)(hj:(fnm C)[j]? =some f)(ho:RE X o fo)(hv:RE X value fv)(hs:swapsWith value (some (.Attribute o f pos')) pos.line X.env=pure false:=by rfl):RS X (.Assign [.Attribute o f pos'] value pos) (pU C j fo fv):=⟨fun {w ρ h Q E} I p=>by
 obtain ⟨Ca,t,c,n⟩:=oc.ex
 refine plainObj_wpAny_Assign_Attribute (hv.r I (bF.e p I fun w1 h1 pv v y1 I1 rv p=>ho.r I1 (bF.e p I1 fun w2 h2 po u y2 I2 r p=>?_))) hs
 unfold wv at p
 split at p
 ·rename_i i ps e
  obtain ⟨a,Cb,dx,vs,rfl,_,em,hf,c',O,ne,od,l,rr⟩:=I2.toHR.ob r e
  cases t.symm.trans c'
  have lj:=(List.getElem?_eq_some_iff.mp hj).1
  have go:∀ qs,qs=ps.take j++pv::ps.drop (j+1)→j≤ps.length→bF X w2 Q E (.nx ρ (h2.set i (.obj C qs)))→Wp X (setAttr (.ref a) f v) (fun _=>Q .next) E w2.s:=by
   rintro qs rfl hl p
   have hl':j≤vs.length:=rr.length▸hl
   refine DE I2.kIn O ne c (n f (List.mem_of_getElem? hj)) (by have:=Fp C;rw [List.length_zip,sizeLine_eq];omega) fun h' ns sb=>?_
   obtain ⟨od',es,ep,e1,e2,e3,e4,e5⟩:=id ns
   have y3:=Nw.upd (X:=X) (s':= { w2.s with heap:=h',toks:=w2.s.toks+2 }) (po:=.obj C (ps.take j++pv::ps.drop (j+1))) I2.toHR em hf (fun b o e=>by
     by_cases z:b=dx
     ·exact .inr (.inl (z▸od))
     ·exact .inr (.inr ((sb.2 b z).trans e))) (fun b o e=>by
     by_cases z:b=dx
     ·exact ⟨od',z▸e1⟩
     ·exact ⟨o,(sb.2 b z).trans e⟩) ⟨hf,Ca,dx,od',vs.take j++v::vs.drop (j+1),t,(sb.2 a (Ne.symm ne)).trans O.1,od,e1,⟨es,ep,e2,e3,e4,fun m=>by rw [e5 m,xW (CF C) hj hl']⟩,by simp;omega,(rr.td j).1.app (.cons (y2.1.rep rv) (rr.td (j+1)).2)⟩
   exact p.2 _ y3.s (I2.on y3)
  split at p
  ·exact go _ (by rw [List.set_eq_take_append_cons_drop,if_pos ‹_›]) (Nat.le_of_lt ‹_›) p
  ·split at p
   ·exact go _ (by subst_vars;simp) (Nat.le_of_eq ‹_›) p
   ·exact p.elim
 ·exact p.elim⟩
variable {m x:Str} {e:Expr} {es:List Expr} {fs:Ax} {fn:List PV→List PO→Res PV}
structure ZO(X:Cx)(C:Nat)(m:Str)(fn:List PV→List PO→Res PV):Prop where
 ex:∃ Ca c k f fd ps,X.T C=some Ca∧Cls X.K Ca∧bY X.K Ca m f∧m∉fnm C∧FnL X.toSC c k f fd ps fn∧dY k X.A∧(c=true→X.calm=true)∧iO X.K fd ps []
theorem uE{pl:Sem Bool}(c:ZO X C m fn)(ho:RE X o fo)(ha:RA X (e::es) fs)
  (hst:starEach (e::es) X.env=(false,eval e X.env)::starEach es X.env:=by rfl) (hpl:(backTo pos (starEach es X.env)).any (·.1)=false:=by rfl)
  (ht:eval (.Call (.Attribute o m apos) (e::es) [] pos) X.env=(do
   let ov ← eval o X.env
   standAt apos.atName
   let (f,first) ← holding [ov] (getMethod ov m pl)
   callWith pos f first (backTo pos (starEach (e::es) X.env)) (backToKw pos (keywordEach [] X.env))):=by rfl):
  RE X (.Call (.Attribute o m apos) (e::es) [] pos) (bK C fn fo fs):=⟨fun I p=>by
 obtain ⟨Ca,cc,k,f,fd,ps,t,c,hm,nm,F,hr,hc,hb⟩:=c.ex
 refine PySem.W.methodCall_KW (pl:=pl) (ho.r I (p.bind fun w1 h1 q u y r p=>?_)) ht
 split at p
 ·obtain ⟨a,Cb,dx,vs,rfl,_,em,_,c',O,_⟩:=y.2.ob r ‹_›
  cases t.symm.trans c'
  have I1:=I.on y
  exact qA I1.kIn O c hm (lB nm) (PySem.W.callWith_K (first:= [.ref a]) (h₀:=X.base) I.ok.kin hm.kp (ha.r pos I1 (p.bind fun w2 h2 qs us y2 r2 p=>⟨(I1.on y2).kIn,F.calH hr hc hb (I1.on y2) (.cons (y2.1.rep r) r2) p⟩)) hst hpl)
 ·exact p.elim⟩
theorem zJ{pl:Sem Bool}(c:ZO X C m fn)(ho:RE X o fo)
  (ht:eval (.Call (.Attribute o m apos) [] [] pos) X.env=(do
   let ov ← eval o X.env
   standAt apos.atName
   let (f,first) ← holding [ov] (getMethod ov m pl)
   callWith pos f first (backTo pos (starEach [] X.env)) (backToKw pos (keywordEach [] X.env))):=by rfl):
  RE X (.Call (.Attribute o m apos) [] [] pos) (bK C fn fo aj):=⟨fun I p=>by
 obtain ⟨Ca,cc,k,f,fd,ps,t,c,hm,nm,F,hr,hc,hb⟩:=c.ex
 refine PySem.W.methodCall_KW (pl:=pl) (ho.r I (p.bind fun w1 h1 q u y r p=>?_)) ht
 split at p
 ·obtain ⟨a,Cb,dx,vs,rfl,_,em,_,c',O,_⟩:=y.2.ob r ‹_›
  cases t.symm.trans c'
  have I1:=I.on y
  exact qA I1.kIn O c hm (lB nm) (PySem.W.callWith_K0 (first:= [.ref a]) I1.kIn hm.kp (F.calH hr hc hb I1 (.cons r .nil) p))
 ·exact p.elim⟩
structure ZK(X:Cx)(C:Nat)(x:Str)(fn:List PV→List PO→Res PV):Prop where
 ex:∃ Ca c k f fd ps,X.T C=some Ca∧Mk X.K Ca f∧FnL X.toSC c k f fd ps fn∧dY (k+1) X.A∧(c=true→X.calm=true)∧X.mg x=some (.ref Ca)∧iO X.K fd ps []
theorem make{Ca g:Addr}{fd:FuncData}{k:Nat}{ps:List Str}{qs:List PV}{us:List Value}{Q:Value→Shared→Prop}{E:Value→Shared→Prop}(t:X.T C=some Ca)(M:Mk X.K Ca g){c:Bool}(F:FnL X.toSC c k g fd ps fn)(hr:dY (k+1) X.A)(hc:c=true→X.calm=true)(hb:iO X.K fd ps [])(I:Inv X w ρ h)(r:av X.toSC w.F w.m qs us)(p:bH X (RV X.toSC) w Q E (mkO C fn qs h)):Wp X (call (.ref Ca) us) Q E w.s:=by
 have hl:fn (.ref h.length::qs) (h++ [.obj C []])≠.bad:=fun z=>by unfold mkO at p;rw [z] at p;exact p
 let s1:Shared:= { w.s with heap:=(w.s.heap.push PySem.W.emptyDict).push (PySem.W.instObj Ca w.s.heap.objs.size) }
 let w1:Wo:=⟨w.F,fun d=>if d=w.s.heap.objs.size then some (w.s.heap.objs.size+1) else w.O d,w.m++ [w.s.heap.objs.size+1],s1⟩
 have g0:s1.heap.get? w.s.heap.objs.size=some PySem.W.emptyDict:=Heap.get?_push_of_some _ (Heap.get?_push_size _ rfl)
 have e1:s1.heap.get? (w.s.heap.objs.size+1)=some (PySem.W.instObj Ca w.s.heap.objs.size):=by
  have:=Heap.get?_push_size (w.s.heap.push PySem.W.emptyDict) (o:=PySem.W.instObj Ca w.s.heap.objs.size) rfl
  rwa [show (w.s.heap.push PySem.W.emptyDict).objs.size=w.s.heap.objs.size+1 by simp [Heap.push]] at this
 have n0:=aM w.s.heap
 have n1:w.s.heap.get? (w.s.heap.objs.size+1)=none:=by
  cases q:w.s.heap.get? (w.s.heap.objs.size+1) with
  | none=>rfl
  | some o=>exact absurd (Heap.lt_size q) (Nat.not_lt_of_le (Nat.le_succ _))
 have y:Nw X w w1 (h++ [.obj C []]):=Nw.mk (s':=s1) I.toHR n1 (fun _ _ e=>Heap.get?_push_of_some _ (Heap.get?_push_of_some _ e)) ⟨(I.free n1).2.1,Ca,_,_,[],t,e1,if_pos rfl,g0,⟨#[],0,rfl,by intro e he;simp at he,by simp [UniqKeys],fun n=>by simp [nsFind,findBy]⟩,by simp,.nil⟩ (fun d b e=>by
   by_cases z:d=w.s.heap.objs.size
   ·rw [z,(I.free n0).2.2] at e;cases e
   ·exact (if_neg z).trans e) fun d b e=>by
   by_cases z:d=w.s.heap.objs.size
   ·exact .inr ⟨z▸n0,fun z'=>Nat.ne_of_lt (Nat.lt_succ_self _) (z.symm.trans z'),_,z▸g0⟩
   ·exact .inl ((if_neg z).symm.trans e)
 have I1:=I.on y
 have r0:aX X.toSC w1.F w1.m (.ref h.length) (.ref (w.s.heap.objs.size+1)):=.ref (by rw [I.len];simp [w1])
 have r1:av X.toSC w1.F w1.m (.ref h.length::qs) (.ref (w.s.heap.objs.size+1)::us):=.cons r0 (y.1.reps r)
 refine wpAny_call (PySem.W.make_core (PySem.W.makes_of I.kIn M.makes) (PySem.W.looks_findIn I.kIn M.init) (fun self=>PySem.W.bind_fn I.kIn self (beq_iff_eq.mp M.fn)) (.inl rfl) (codeAny_mono (F.run (w:=w1) (Q:=fun v s=>v= .none∧Q (.ref (w.s.heap.objs.size+1)) s) (E:=E) rfl (hr.make Ca us []) (fun z=>I.ok.hd (hc z)) (by first | exact I.ok.frames | (simpa [Around.under,Code.envs,Code.isFrame,pushEnvs] using I.ok.frames)) I1.toWd I1.ok r1 (by simpa using hb s1 _ I1.kIn (by rw [List.append_nil,← r1.length];exact F.len _ _ hl)) ?_) ?_))
 ·unfold mkO at p
  split at p
  ·rename_i e;rw [e];exact fun w' x y' rx=>by cases rx;exact ⟨rfl,p.2 _ _ (y.trans y') (y'.1.rep r0)⟩
  ·exact p.elim
 ·intro r s hq
  cases r with
  | error e=>exact hq
  | ok fl=>
   cases fl with
   | ret u=>exact hq
   | _=>exact False.elim hq
theorem Hd(c:ZK X C x fn)(hg:Gl X x)(ha:RA X (e::es) fs)(hdb:(x==("__debug__":Str))=false:=by decide)(he:starEach (e::es) X.env=(false,eval e X.env)::starEach es X.env:=by rfl)(hpl:(backTo pos (starEach es X.env)).any (·.1)=false:=by rfl):RE X (.Call (.Name x p0) (e::es) [] pos) (vW C fn fs):=⟨fun I p=>by
 obtain ⟨Ca,cc,k,f,fd,ps,t,M,F,hr,hc,hm,hb⟩:=c.ex
 exact wpAny_Call_Name_kw (I.glb hg hm (PySem.W.callWith_K (h₀:=X.base) I.ok.kin M.kp (ha.r pos I (p.bind fun _ _ _ _ y r p=>⟨(I.on y).kIn,make t M F hr hc hb (I.on y) r p⟩)) he hpl) hdb)⟩
theorem DS(c:ZK X C x fn)(hg:Gl X x)(hdb:(x==("__debug__":Str))=false:=by decide):RE X (.Call (.Name x p0) [] [] pos) (vW C fn aj):=⟨fun I p=>by
 obtain ⟨Ca,cc,k,f,fd,ps,t,M,F,hr,hc,hm,hb⟩:=c.ex
 exact wpAny_Call_Name_kw (I.glb hg hm (PySem.W.callWith_K0 I.kIn M.kp (make t M F hr hc hb I .nil p)) hdb)⟩
end
end Z
namespace L3
def lA(res:Nat→Option (List PV→Out))(o:Ex)(as:Ax):Ex:=fun ρ h=>(o ρ h).bind fun p h1=>match p with
 | .ins C []=>match res C with
  | some fn=>(as ρ h1).bind fun ps h2=>bn fn (.ins C []::ps) h2
  | none=>.bad
 | _=>.bad
def ks(C:Nat):Ex:=fun _ h=>.ok (.ins C []) h
end L3
namespace Z
open PySem PySem.Spec PyProof.Rows L3 L2
section
variable {G:SC} {X:Cx} {w w1:Wo} {ρ:Ev} {h:List PO} {o e:Expr} {es:List Expr} {fo:Ex} {fs:Ax} {m x:Str} {pos apos p0:Pos}
structure ZM(X:Cx)(m:Str)(res:Nat→Option (List PV→L3.Out)):Prop where
 ex:∀ C fn,res C=some fn→∃ Ca k f fd ps,X.T C=some Ca∧Cls X.K Ca∧bY X.K Ca m f∧FnP X.toSC k f fd ps fn∧dY k X.A∧iO X.K fd ps []
theorem iE{res:Nat→Option (List PV→L3.Out)}{pl:Sem Bool}(c:ZM X m res)(ho:RE X o fo)(ha:RA X (e::es) fs)(hc:X.calm=true:=by rfl)
  (hst:starEach (e::es) X.env=(false,eval e X.env)::starEach es X.env:=by rfl) (hpl:(backTo pos (starEach es X.env)).any (·.1)=false:=by rfl)
  (ht:eval (.Call (.Attribute o m apos) (e::es) [] pos) X.env=(do
   let ov ← eval o X.env
   standAt apos.atName
   let (f,first) ← holding [ov] (getMethod ov m pl)
   callWith pos f first (backTo pos (starEach (e::es) X.env)) (backToKw pos (keywordEach [] X.env))):=by rfl):
  RE X (.Call (.Attribute o m apos) (e::es) [] pos) (lA res fo fs):=⟨fun I p=>by
 refine PySem.W.methodCall_KW (pl:=pl) (ho.r I (p.bind fun w1 h1 q u y r p=>?_)) ht
 split at p
 ·split at p
  ·obtain ⟨Ca,k,f,fd,ps,t,cl,hm,F,hr,hb⟩:=c.ex _ _ ‹_›
   cases id r with
   | ins c' e d n=>
    cases t.symm.trans c'
    have I1:=I.on y
    exact qA I1.kIn (fs:= []) ⟨y.2.at e,_,y.2.at d,n⟩ cl hm rfl (PySem.W.callWith_K (first:= [.ref _]) (h₀:=X.base) I.ok.kin hm.kp (ha.r pos I1 (p.bind fun w2 h2 qs us y2 r2 p=>⟨(I1.on y2).kIn,F.call hr hc hb (I1.on y2) (.cons (y2.1.rep r) r2) p⟩)) hst hpl)
  ·exact p.elim
 ·exact p.elim⟩
theorem AA{g:Heap}{a b:Obj}(ha:a.isFreed=false)(hb:b.isFreed=false):((g.push a).push b).get? g.objs.size=some a∧((g.push a).push b).get? (g.objs.size+1)=some b:=⟨Heap.get?_push_of_some _ (Heap.get?_push_size _ ha),by
 have:=Heap.get?_push_size (g.push a) hb
 rwa [Heap.size_push] at this⟩
structure ZN(X:Cx)(C:Nat)(x:Str):Prop where
 ex:∃ Ca,X.T C=some Ca∧PySem.W.makesIn X.K Ca=true∧PySem.W.findIn X.K (.ref Ca) "__init__"=some (some (.builtin "object.__init__"))∧PySem.W.keepIn X.K (.ref Ca)=true∧X.mg x=some (.ref Ca)
theorem jP{C:Nat}(c:ZN X C x)(hg:Gl X x)(hdb:(x==("__debug__":Str))=false:=by decide):RE X (.Call (.Name x p0) [] [] pos) (ks C):=⟨fun {w ρ h Q E} I p=>by
 obtain ⟨Ca,t,hm,hi,hk,hx⟩:=c.ex
 refine wpAny_Call_Name_kw (I.glb hg hx (PySem.W.callWith_K0 I.kIn hk ?_) hdb)
 obtain ⟨e1,e2⟩:=AA (g:=w.s.heap) (a:=PySem.W.emptyDict) (b:=PySem.W.instObj Ca w.s.heap.objs.size) rfl rfl
 have Y:=PySem.W.makes_of (M:=model X.prog X.w) I.kIn hm
 have t1:PySem.W.Looks (model X.prog X.w) ((w.s.heap.push PySem.W.emptyDict).push (PySem.W.instObj Ca w.s.heap.objs.size)) (typeOf (.ref (w.s.heap.objs.size+1))) (.ref Ca):=(PySem.W.Looks.ld e2).andThen .now
 have t2:PySem.W.Looks (model X.prog X.w) ((w.s.heap.push PySem.W.emptyDict).push (PySem.W.instObj Ca w.s.heap.objs.size)) (isInstance (.ref (w.s.heap.objs.size+1)) (.type "object")) true:=t1.andThen (Y.top.keeps fun b o e=>Heap.get?_push_of_some _ (Heap.get?_push_of_some _ e))
 refine wpAny_call (PySem.W.make_core Y (PySem.W.looks_findIn I.kIn hi) (fun self=>PySem.W.Looks.of_pure (PySem.W.oi_bind self)) (.inr ⟨rfl,rfl⟩) ?_)
 refine codeAny_call_builtin PySem.W.oi_plain PySem.W.entry_oi (@PySem.W.check_slot (model X.prog X.w) _ _ _ "object.__init__" "object" "__init__" (.ref (w.s.heap.objs.size+1)) [] [] _ PySem.W.oi_kind PySem.W.oi_split t2 (PySem.W.oi_args (.ref (w.s.heap.objs.size+1))) ?_)
 simp only [List.append_nil,PySem.W.oi_run]
 refine wpAny_pure ⟨rfl,?_⟩
 have y1:=Nw.lay (X:=X) (a:=w.s.heap.objs.size) (s':= { w.s with heap:=w.s.heap.push PySem.W.emptyDict }) I.toHR (aM _) (fun _ _ e=>Heap.get?_push_of_some _ e) (Heap.get?_push_size _ rfl)
 have y2:=Nw.lay (X:=X) (s':= { w.s with heap:=(w.s.heap.push PySem.W.emptyDict).push (PySem.W.instObj Ca w.s.heap.objs.size) }) y1.2 (aM _) (fun _ _ e=>Heap.get?_push_of_some _ e) (Heap.get?_push_size _ rfl)
 have e:(w.s.heap.push PySem.W.emptyDict).objs.size=w.s.heap.objs.size+1:=Heap.size_push _ _
 refine p.2 _ _ (y1.trans y2) (.ins t (dx:=w.s.heap.objs.size) ?_ (od:=PySem.W.emptyDict) ?_ ⟨#[],0,rfl,fun e he=>absurd he (by simp),by simp [UniqKeys],fun n=>by simp [nsFind,findBy]⟩)
 ·rw [← e];exact bu
 ·exact y2.1.fz _ _ bu⟩
theorem mx{u:Value}{p:PV}(hg:Gl X x)(hm:X.mg x=some u)(r:∀ F m,(∀ b o,X.base.get? b=some o→F b=some o)→aX X.toSC F m p u)(hd:(x==("__debug__":Str))=false:=by decide):RE X (.Name x pos) (cK p):=⟨fun {w ρ h Q E} I q=>I.glb hg hm (q.here I.toHR (r w.F w.m I.bs)) hd⟩
theorem GZ{n:String}(hg:Gl X x)(hm:X.mg x=none)(hv:bootBuiltins x=some (.type n))(hn:x≠"__name__":=by decide)(hd:(x==("__debug__":Str))=false:=by decide):RE X (.Name x pos) (cK (.ty n)):=⟨fun I p=>I.blt hg hm hv (p.here I.toHR (.ty n)) hn hd⟩
end
end Z
namespace L2
open PySem PySem.Spec PyProof.Rows PySem.W PySem.Builtin PySem.Builtin.ObjectAttr PySem.Builtin.Getset_descriptor
structure qN(K:Frag)(C:Addr):Prop where
 ga:findIn K (.ref C) "__getattribute__"=some (some (.builtin "BaseException.__getattribute__"))
 gt:findIn K (.ref C) "__getattr__"=some none
 mb:mroIn K C (.type "BaseException")=some true
section
variable {prog:Program} {w:World} {A:Around} {E:Value→Shared→Prop} {K:Frag} {x C:Addr} {name:Str} {tk:Tok} {s:Shared}
theorem xX{r:Found}{Q:Fin→Shared→Prop}(L0:Looks (model prog w) s.heap (typeOf (.ref x)) (.ref C))(L1:Looks (model prog w) s.heap (find (.ref x) (.ref C) name) r)
  (h:match r with
   | .value v=>Q (.done (.ret v)) s
   | .bind g a=>wpAny (model prog w) A (bindTo g a (.ref x) (.ref C)) Q E s
   | .missing=>False):wpAny (model prog w) A (Builtin.«object.__getattribute__» ⟨[.ref x,.str name tk],[]⟩) Q E s:=by
 obtain ⟨hh,g,d,t,os⟩:=s
 refine wpAny_bind (wpAny_pure (wpAny_bind (wpAny_pure (wpAny_bind (L0.at (wpAny_bind (L1.at ?_)))))))
 cases r with
 | value v=>exact wpAny_pure h
 | bind g a=>exact h
 | missing=>exact h.elim
theorem Jc{fill expr:Bool}{Q:Value→Shared→Prop}(c:qN K C)(kin:K.In s.heap)(L0:Looks (model prog w) s.heap (typeOf (.ref x)) (.ref C))
  (h:codeAny (model prog w) A (.call (.builtin "BaseException.__getattribute__") ⟨[.ref x,.str name tk],[]⟩) (fun r s'=>match r with | .ok (.ret v)=>handedIn v=true∧Q v s' | _=>False) s):
  wpAny (model prog w) A (getAttrBy (.ref x) (.str name tk) fill expr) Q E s:=by
 obtain ⟨hh,g,d,t,os⟩:=s
 have L1:=looks_findIn (M:=model prog w) kin c.ga
 have L2:=looks_findIn (M:=model prog w) kin c.gt
 have no:(onTheHeap (Value.ref C)&&Value.builtin "BaseException.__getattribute__"==Value.builtin "object.__getattribute__")=false:=by
  rw [show (Value.builtin "BaseException.__getattribute__"==Value.builtin "object.__getattribute__")=false by decide+kernel];rfl
 have no2:(expr&&onTheHeap (Value.builtin "BaseException.__getattribute__"))=false:=by cases expr<;>rfl
 unfold getAttrBy
 refine wpAny_holding (wpAny_bind (L0.at (wpAny_bind (L1.at ?_))))
 dsimp only
 rw [no,if_neg (by decide)]
 unfold getAttrByItsOwn callGetattribute boundAndCalled
 rw [no2,if_neg (by decide)]
 refine wpAny_bind (L2.at (wpAny_bind (wpAny_attempt (wpAny_holding ?_))))
 rw [PySem.F.attr_ValueError.ga.bind]
 refine wpAny_bind (wpAny_pure (wpAny_call (codeAny_mono h fun r s' z=>?_)))
 cases r with
 | error e=>exact z.elim
 | ok f=>cases f with
  | ret v=>exact handed_on z.1 z.2
  | next=>exact z.elim
  | brk=>exact z.elim
  | cont=>exact z.elim
theorem AP{R:Result→Shared→Prop}(c:qN K C)(kin:K.In s.heap)(L0:Looks (model prog w) s.heap (typeOf (.ref x)) (.ref C))
  (h:wpAny (model prog w) A.in1 (Builtin.«object.__getattribute__» ⟨[.ref x,.str name tk],[]⟩) (fun fin s'=>match fin with | .done f=>R (.ok f) s' | .again c'=>c'.quiet=true∧codeAny (model prog w) A c' R s') (fun e s'=>R (.error e) s') s):
  codeAny (model prog w) A (.call (.builtin "BaseException.__getattribute__") ⟨[.ref x,.str name tk],[]⟩) R s:=by
 have k1:builtinKind "BaseException.__getattribute__"=some .slot:=by decide+kernel
 have k2:splitId "BaseException.__getattribute__"=some ("BaseException","__getattribute__"):=by decide+kernel
 have isB:Looks (model prog w) s.heap (isInstance (.ref x) (.type "BaseException")) true:=L0.andThen (looks_mroIn kin c.mb)
 refine codeAny_call_builtin PySem.F.attr_ValueError.ga.plain PySem.F.entry_bexc_ga (@check_slot (model prog w) _ _ s "BaseException.__getattribute__" "BaseException" "__getattribute__" (.ref x) [.str name tk] [] _ k1 k2 isB (PySem.F.args_bexc_ga (.ref x) (.str name tk)) ?_)
 exact h
theorem Dr{v:Value}{expr:Bool}{Q:Value→Shared→Prop}(c:qN K C)(kin:K.In s.heap)(L0:Looks (model prog w) s.heap (typeOf (.ref x)) (.ref C))(L1:Looks (model prog w) s.heap (find (.ref x) (.ref C) name) (.value v))(hv:handedIn v=true)(h:Q v { s with toks:=s.toks+1 }):
  wpAny (model prog w) A (getAttr (.ref x) name expr) Q E s:=
 wpAny_bind (wpAny_mkText (Jc (s:= { s with toks:=s.toks+1 }) c kin L0 (AP (s:= { s with toks:=s.toks+1 }) c kin L0 (xX (s:= { s with toks:=s.toks+1 }) L0 L1 ⟨hv,h⟩))))
theorem GB{R:Result→Shared→Prop}{tp:Value}(kin:K.In s.heap)(L0:Looks (model prog w) s.heap (typeOf (.ref x)) (.ref C))(mo:mroIn K C (.type "object")=some true)(fin:R (.ok (.ret (.ref C))) s):
  codeAny (model prog w) A (.call (.builtin "getset_descriptor.__get__") ⟨[.builtin "object.__class__",.ref x,tp],[]⟩) R s:=by
 obtain ⟨hh,g,d,t,os⟩:=s
 have L1:=looks_mroIn (M:=model prog w) kin mo
 refine codeAny_call_builtin (id KF.slot_gs.plain) (id KF.entry_gs) (KF.slot_gs.check _ _ _ _ _ _ _ _ (id KF.type_class) (id (KF.args_gs _ _ _)) ?_)
 show wpAny (model prog w) A.in1 (descrGet _) _ _ _
 unfold descrGet
 rw [dga_obj]
 refine wpAny_bind (wpAny_pure ?_)
 simp only [descrGetter,descrCheckInstance,descrNameAndClass,isInstance,KF.owner_class]
 (repeat lk)
 refine ⟨Code.quiet_builtin _ (id (by decide+kernel)),codeAny_builtin (id KF.entry_class) ?_⟩
 simp only [Builtin.«object.__class__»,shownTypeOf]
 (repeat lk)
 exact fin
theorem Dt{Q:Option Value→Shared→Prop}(c:qN K C)(kin:K.In s.heap)(L0:Looks (model prog w) s.heap (typeOf (.ref x)) (.ref C))
  (fc:findIn K (.ref C) "__class__"=some (some (.builtin "object.__class__"))) (fg:specialIn K (.builtin "object.__class__") "__get__"=some (some (.builtin "getset_descriptor.__get__"))) (ft:takesIn K (.builtin "object.__class__")=some true)
  (mo:mroIn K C (.type "object")=some true) (h:Q (some (.ref C)) { s with toks:=s.toks+1 }):
  wpAny (model prog w) A (getAttr? (.ref x) "__class__") Q E s:=by
 have Lf:Looks (model prog w) s.heap (find (.ref x) (.ref C) "__class__") (.bind (.builtin "getset_descriptor.__get__") (.builtin "object.__class__")):=by
  refine (looks_findIn kin fc).andThen ((show Looks (model prog w) s.heap (getOf (some (.builtin "object.__class__"))) _ from looks_specialIn kin fg).andThen ?_)
  exact (show Looks (model prog w) s.heap (dataDescriptor? (some (.builtin "object.__class__")) (some (.builtin "getset_descriptor.__get__"))) (some (.builtin "getset_descriptor.__get__",.builtin "object.__class__")) from (looks_takesIn kin ft).andThen .now).andThen (Looks.tag .now)
 refine wpAny_bind (wpAny_mkText (wpAny_bind (wpAny_attempt (Jc (s:= { s with toks:=s.toks+1 }) c kin L0 (AP (s:= { s with toks:=s.toks+1 }) c kin L0 (xX (s:= { s with toks:=s.toks+1 }) L0 Lf ?_))))))
 show wpAny _ _ (holding [Value.builtin "object.__class__"] (call (.builtin "getset_descriptor.__get__") [.builtin "object.__class__",.ref x,.ref C]) >>= ret) _ _ _
 exact wpAny_bind (wpAny_holding (wpAny_call (GB (s:= { s with toks:=s.toks+1 }) kin L0 mo (wpAny_pure ⟨rfl,wpAny_pure h⟩))))
end
end L2
namespace L2
open PySem PySem.Spec PyProof.Rows PySem.W PySem.Builtin PySem.Builtin.ObjectAttr
def wk:List Value→Bool
 | .ref _::r=>wk r
 | l=>l== [.type "ValueError",.type "Exception",.type "BaseException",.type "object"]||l== [.type "Exception",.type "BaseException",.type "object"]
theorem jl:∀ {l:List Value},wk l=true→(l= [.type "ValueError",.type "Exception",.type "BaseException",.type "object"]∨l= [.type "Exception",.type "BaseException",.type "object"])∨∃ c r,l= .ref c::r∧wk r=true:=by
 intro l e
 unfold wk at e
 split at e
 ·exact .inr ⟨_,_,rfl,e⟩
 ·rw [Bool.or_eq_true] at e;exact .inl (e.imp beq_iff_eq.mp beq_iff_eq.mp)
theorem uo(self:Value):∀ (l:List Value),wk l=true→refuseLoop self "__setattr__" l=pure ():=by
 intro l
 induction l with
 | nil=>intro e;rcases jl e with (z | z) | ⟨_,_,z,_⟩<;>cases z
 | cons x r ih=>
  intro e
  rcases jl e with (z | z) | ⟨c,r',z,e'⟩
  ·rw [z];exact PySem.F.store_ValueError.passes self
  ·rw [z];exact PySem.F.store_Exception.passes self
  ·cases z;rw [refuseLoop_ref];exact ih e'
theorem uq:∀ (l:List Value),wk l=true→l.contains (.type "object")=true:=by
 intro l
 induction l with
 | nil=>intro e;rcases jl e with (z | z) | ⟨_,_,z,_⟩<;>cases z
 | cons x r ih=>
  intro e
  rcases jl e with (z | z) | ⟨c,r',z,e'⟩
  ·rw [z];decide+kernel
  ·rw [z];decide+kernel
  ·cases z;rw [List.contains_cons,ih e',Bool.or_true]
def GG(K:Frag)(C:Addr):Bool:=(clsIn K C).any fun cd=>cd.hasDict&&wk cd.mro
def oX(K:Frag)(C:Addr)(bmB:List Value)(newId:String):Bool:=match K.lookup C with
 | some ⟨.type "type",_,.cls cd,sl⟩=>(match cd.mro,sl.toList with
  | .ref C'::bm,[_,_,_,_,some (.builtin n),_]=>C'==C&&(n==newId&&(!cd.hasDel&&tailIn K bmB bm))
  | _,_=>false)
 | _=>false
theorem uk{K:Frag}{h:Heap}{C:Addr}{bmB:List Value}{newId:String}(kin:K.In h)(ok:oX K C bmB newId=true):
  ∃ bm N nm q bs hdct sn sub ab col dd k0 k1 k2 k3 k5,h.get? C=some (excClassObj nm q C N bs bm hdct sn sub ab col dd k0 k1 k2 k3 k5 newId)∧OwnTail h bmB bm:=by
 unfold oX at ok
 split at ok
 case h_2=>exact absurd ok (by decide)
 case h_1 dict cdat sls lk=>
  split at ok
  case h_2=>exact absurd ok (by decide)
  case h_1 C2 tl f0 f1 f2 f3 nid f5 em es=>
   rw [Bool.and_eq_true,Bool.and_eq_true,Bool.and_eq_true] at ok
   obtain ⟨z1,z2,z3,z4⟩:=ok
   rw [Bool.not_eq_true'] at z3
   have es':sls= #[f0,f1,f2,f3,some (.builtin nid),f5]:=Array.toList_inj.mp es
   cases beq_iff_eq.mp z1
   cases beq_iff_eq.mp z2
   rcases cdat with ⟨c1,c2,c3,c4,c5,c6,c7,c8,c9,c10,c11⟩
   change c3=_ at em
   change c11=false at z3
   subst em z3 es'
   exact ⟨tl,c4,c1,c5,c2,c6,c7,c8,c9,c10,dict,f0,f1,f2,f3,f5,kin _ _ lk,tail_of_in kin z4⟩
section
variable {prog:Program} {w:World} {A:Around} {E:Value→Shared→Prop} {h:Heap} {g:Array GenState} {d:Drawn} {t:Nat} {os:OsState}
variable {nm q:Str} {C N fI:Addr} {bs bm bmB bmN us:List Value} {hdct:Bool} {sn:List Str} {sub:List Value} {ab:Bool} {col:Option Bool} {dd:Option Addr} {k0 k1 k2 k3 k5:Option Value} {B Bn newId nid initId inN:String} {oI:Obj}
def iU(h:Heap)(C:Addr)(us:List Value):Heap:=
 (h.push { cls:=.type "tuple",data:=.seq us.toArray }).push { cls:=.ref C,data:=.fields #[.ref h.objs.size,.none,.none,.none,.bool false,.none] }
theorem iA{b:Addr}{o:Obj}(e:h.get? b=some o):(iU h C us).get? b=some o:=Heap.get?_push_of_some _ (Heap.get?_push_of_some _ e)
theorem nj:(iU h C us).get? (h.objs.size+1)=some { cls:=.ref C,data:=.fields #[.ref h.objs.size,.none,.none,.none,.bool false,.none] }:=by unfold iU;heap_get
theorem Ds{Q:Fin→Shared→Prop}(Fn:ExcBaseFacts Bn newId inN bmN)(hBn:bmB.contains (.type Bn)=true)(FB:ExcBaseFacts B nid initId bmB)(T:OwnTail h bmB bm)
  (hc:h.get? C=some (excClassObj nm q C N bs bm hdct sn sub ab col dd k0 k1 k2 k3 k5 newId)) (li:∀ h',(∀ b o,h.get? b=some o→h'.get? b=some o)→Looks (model prog w) h' (typeLookup (.ref C) "__init__") (some (.ref fI)))
  (fo:h.get? fI=some oI) (fc:oI.cls= .type "function") (len:us.length≤sizeLine)
  (go:wpAny (model prog w) A (call (.ref fI) (.ref (h.objs.size+1)::us)) (fun r s'=>r= .none∧Q (.done (.ret (.ref (h.objs.size+1)))) s') E ⟨iU h C us,g,d,t,os⟩):
  wpAny (model prog w) A (Builtin.«type.__call__» ⟨.ref C::us,[]⟩) Q E ⟨h,g,d,t,os⟩:=by
 repeat (first | with_reducible refine wpAny_madeBy_exc hc ?_ | with_reducible refine wpAny_loadPart_at hc ?_ | wp_step)
 refine codeAny_call_builtin_code (Code.quiet_builtin _ Fn.quiet) (wpAny_check_new_subU Fn hBn T hc (codeAny_exc_new_subU Fn hBn FB T hc ?_ len))
 change wpAny _ _ _ _ _ _
 have hself:(Value.ref C::bm).contains (.ref C)=true:=by rw [List.contains_cons];simp
 have c1:(iU h C us).get? C=some (excClassObj nm q C N bs bm hdct sn sub ab col dd k0 k1 k2 k3 k5 newId):=iA hc
 have e1:=nj (h:=h) (C:=C) (us:=us)
 have L:=li (iU h C us) fun b o e=>iA e
 have f1:(⟨iU h C us,g,d,t,os⟩:Shared).TypeIs (.ref fI) "function":=⟨_,iA fo,fc⟩
 change wpAny _ _ _ _ _ ⟨iU h C us,g,d,t,os⟩
 unfold isInstance
 repeat (first | (with_reducible refine wpAny_isSubtype_exc c1 ?_;rw [hself]) | with_reducible refine wpAny_loadPart_at e1 ?_ | wp_step)
 change wpAny _ _ (typeLookup (.ref C) _) _ _ _
 refine L.at ?_
 refine wpAny_holding (wpAny_bind ?_)
 unfold bindSpecial
 refine wpAny_bind (wpAny_typeOf f1 ?_)
 rw [if_pos (by decide)]
 refine wpAny_pure (wpAny_bind (wpAny_mono go (fun r s' z=>?_) fun _ _ z=>z))
 obtain ⟨rfl,z⟩:=z
 wp_walk
 exact z
theorem GA{Q:Value→Shared→Prop}(Fn:ExcBaseFacts Bn newId inN bmN)(hBn:bmB.contains (.type Bn)=true)(FB:ExcBaseFacts B nid initId bmB)(T:OwnTail h bmB bm)
  (hc:h.get? C=some (excClassObj nm q C N bs bm hdct sn sub ab col dd k0 k1 k2 k3 k5 newId)) (li:∀ h',(∀ b o,h.get? b=some o→h'.get? b=some o)→Looks (model prog w) h' (typeLookup (.ref C) "__init__") (some (.ref fI)))
  (fo:h.get? fI=some oI) (fc:oI.cls= .type "function") (len:us.length≤sizeLine)
  (go:wpAny (model prog w) (A.under (.builtin "type.__call__" ⟨.ref C::us,[]⟩)) (call (.ref fI) (.ref (h.objs.size+1)::us)) (fun r s'=>r= .none∧Q (.ref (h.objs.size+1)) s') E ⟨iU h C us,g,d,t,os⟩):
  wpAny (model prog w) A (call (.ref C) us) Q E ⟨h,g,d,t,os⟩:=by
 have g1:=tc_lookup
 have g2:=tc_bind (.ref C)
 have ty:(⟨h,g,d,t,os⟩:Shared).TypeIs (.ref C) "type":=⟨_,hc,rfl⟩
 refine wpAny_call (codeAny_of_tree ?_)
 change wpAny _ _ (callAny (.ref C) _) _ _ _
 repeat (any_goals (first | with_reducible refine wpAny_loadPart_at hc ?_ | assumption | wp_step))
 refine ⟨rfl,codeAny_call_builtin_at (Code.quiet_builtin _ (by decide+kernel)) entry_typeCall (wpAny_check_type_call_sub hc (Ds Fn hBn FB T hc li fo fc len go))⟩
end
def jL(h:Heap)(x:Addr):Heap:=(h.push { cls:=.type "dict",data:=.dict #[] }).update x fun o=> { cls:=o.cls,dict:=some h.objs.size,data:=o.data,slots:=o.slots }
section
variable {prog:Program} {w:World} {A:Around} {E:Value→Shared→Prop} {K:Frag} {x C:Addr} {ox:Obj} {name:Str} {tk:Tok} {v:Value} {s:Shared}
theorem AO{h:Heap}(hx:x<h.objs.size):(jL h x).get? h.objs.size=some { cls:=.type "dict",data:=.dict #[] }:=by
 unfold jL
 rw [Heap.get?_update_ne _ _ _ _ (Nat.ne_of_gt hx)]
 exact Heap.get?_push_at rfl rfl
theorem Jb{R:Result→Shared→Prop}(kin:K.In s.heap)(I:PySem.W.InstAt s.heap x ox C none)(hdn:ox.dict=none)(vc:GG K C=true)(ha:findIn K (.ref C) name=some none)
  (go:∀ h',h'.Ns1 s.heap.objs.size (fun y=>if y=name then some v else none)→Heap.SameBut s.heap.objs.size (jL s.heap x) h'→R (.ok (.ret .none)) { s with heap:=h',toks:=s.toks+1 }):
  codeAny (model prog w) A (.call (.builtin "object.__setattr__") ⟨[.ref x,.str name tk,v],[]⟩) R s:=by
 obtain ⟨cd,hc,hv⟩:=any_some vc
 rw [Bool.and_eq_true] at hv
 have ne:cd.mro.isEmpty=false:=by
  cases z:cd.mro with
  | nil=>rw [z] at hv;exact absurd (uq _ hv.2) (by decide)
  | cons _ _=>rfl
 have isO:Looks (model prog w) s.heap (isInstance (.ref x) (.type "object")) true:=I.type.andThen (looks_mroIn kin (by unfold mroIn;rw [hc,Option.bind_some,if_neg (by rw [ne];decide),uq _ hv.2]))
 have hm:Looks (model prog w) s.heap (mroOf (.ref C)) cd.mro:=(looks_clsIn kin hc).andThen .now
 refine codeAny_call_builtin PySem.F.store_object.slot.plain PySem.F.store_object.entry (@check_slot (model prog w) _ _ s "object.__setattr__" "object" "__setattr__" (.ref x) [.str name tk,v] [] _ PySem.F.store_object.kind PySem.F.store_object.split isO (PySem.F.store_object.args (.ref x) (.str name tk) v) ?_)
 rw [osa_eq,refuse_eq]
 refine wpAny_bind (wpAny_bind (I.type.here (wpAny_bind (hm.here ?_))))
 rw [uo _ _ hv.2]
 refine wpAny_pure (wpAny_bind (I.type.here (wpAny_bind ((looks_findIn kin ha).here (wpAny_bind (wpAny_pure (a:=none) ?_))))))
 obtain ⟨hx,hcl,hn, -⟩:=I
 obtain ⟨oc,odi,oda,osl⟩:=ox
 dsimp only at hcl hdn
 subst hcl hdn
 refine wpAny_bind (wpAny_pure (wpAny_bind (wpAny_bind (wpAny_loadPart hx (wpAny_bind ((looks_clsIn kin hc).here ?_))))))
 rw [hv.1,if_neg (by decide)]
 dsimp only
 rw [if_neg (by simp [typeHasDict])]
 split
 ·cases hn
 ·have x1:(s.heap.push { cls:=.type "dict",data:=.dict #[] }).get? x=some { cls:=.ref C,data:=oda,slots:=osl }:=Heap.get?_push_of_some _ hx
  refine wpAny_bind (wpAny_alloc' (wpAny_bind (wpAny_update' x1 (wpAny_pure ?_))))
  show wpAny _ _ (storeInDict s.heap.objs.size (.str name tk) name v) _ _ { s with heap:=jL s.heap x }
  have e0:(jL s.heap x).Ns s.heap.objs.size (fun _=>none):=⟨_, #[],_,AO (Heap.lt_size hx),rfl,fun e he=>absurd he (by simp),fun _=>rfl⟩
  unfold storeInDict newKeyGuard
  refine wpAny_bind (wpAny_pure (wpAny_bind (wpAny_nsSet1 (s:= { s with heap:=jL s.heap x }) (Heap.Ns1.of_empty e0) fun h' n1 sb=>?_)))
  obtain ⟨oD,esD,epD,hoD,hdD,hcD⟩:=n1.count (PySem.Within.cons name v PySem.Within.nil)
  refine wpAny_bind (wpAny_lookBehind hoD (by rw [hdD];exact pastItsLine_dict (Nat.le_trans hcD (by rw [sizeLine_eq,List.length_singleton];decide))) ?_)
  exact wpAny_pure (go h' n1 sb)
end
end L2
namespace L2
open PySem PySem.Spec PyProof.Rows PySem.W
theorem CK{K:PySem.W.Frag}{h:Heap}{C:Addr}{bmB:List Value}{newId:String}(kin:K.In h)(ok:PySem.W.excIn K C bmB newId=true):
  ∃ bm N nm q bs hdct sn sub ab col dd k0 k1 k2 k3 k5 mN,h.get? C=some (excClassObj nm q C N bs bm hdct sn sub ab col dd k0 k1 k2 k3 k5 newId)∧h.Ns N mN∧mN "__init__"=none∧OwnTail h bmB bm:=by
 unfold PySem.W.excIn at ok
 split at ok
 case h_2=>exact absurd ok (by decide)
 case h_1 dict cdat sls lk=>
  split at ok
  case h_2=>exact absurd ok (by decide)
  case h_1 C2 tl f0 f1 f2 f3 nid f5 em es=>
   rw [Bool.and_eq_true,Bool.and_eq_true,Bool.and_eq_true,Bool.and_eq_true,Bool.and_eq_true] at ok
   obtain ⟨⟨⟨⟨⟨z1,z2⟩,z3⟩,z4⟩,z5⟩,z6⟩:=ok
   rw [Bool.not_eq_true'] at z3
   have es':sls= #[f0,f1,f2,f3,some (.builtin nid),f5]:=Array.toList_inj.mp es
   cases beq_iff_eq.mp z1
   cases beq_iff_eq.mp z2
   rcases cdat with ⟨c1,c2,c3,c4,c5,c6,c7,c8,c9,c10,c11⟩
   change c3=_ at em
   change c11=false at z3
   subst em z3 es'
   exact ⟨tl,c4,c1,c5,c2,c6,c7,c8,c9,c10,dict,f0,f1,f2,f3,f5,_,kin _ _ lk,.of_isNs (PySem.W.isNs_of_in kin z5),PySem.W.nsMap_none_of_in kin z5 (beq_iff_eq.mp z6),PySem.W.tail_of_in kin z4⟩
structure XIn(K:Frag)(C fI:Addr)(f:Str):Prop where
 lies:oX K C [.type "ValueError",.type "Exception",.type "BaseException",.type "object"] "ValueError.__new__"=true∨oX K C [.type "Exception",.type "BaseException",.type "object"] "Exception.__new__"=true
 init:findIn K (.ref C) "__init__"=some (some (.ref fI))
 fn:isFn K (.ref fI)=true
 kp:keepIn K (.ref C)=true
 v:GG K C=true
 sa:findIn K (.ref C) "__setattr__"=some (some (.builtin "object.__setattr__"))
 no:findIn K (.ref C) f=some none
 hd:hasDictIn K C=true
 x:qN K C
theorem wF{M:Model}{A:Around}{Ee:Value→Shared→Prop}{env:Env}{x:Sem Value}{Q:Flow→Shared→Prop}{s:Shared}(hh:A.handled=none)
  (h:wpAny M A x (fun v s1=>∃ (e C N t:Addr) (dx:Option Addr) (sl:Array (Option Value)) (nm q:Str) (bs bm:List Value) (hdct:Bool) (sn:List Str) (sub:List Value) (ab:Bool) (col:Option Bool) (dd:Option Addr) (k0 k1 k2 k3 k5:Option Value) (nid:String),
   v= .ref e∧s1.heap.get? C=some (excClassObj nm q C N bs bm hdct sn sub ab col dd k0 k1 k2 k3 k5 nid)∧bm.contains (.type "BaseException")=true∧s1.heap.get? e=some ⟨.ref C,dx,.fields #[.ref t,.none,.none,.none,.bool false,.none],sl⟩∧Ee (.ref e) s1) Ee s):
  wpAny M A (raiseStmt env (some x) none) Q Ee s:=by
 unfold raiseStmt
 refine wpAny_bind (wpAny_mono h (fun v s1 z=>?_) fun _ _ z=>z)
 obtain ⟨e,C,N,t,dx,sl,nm,q,bs,bm,hdct,sn,sub,ab,col,dd,k0,k1,k2,k3,k5,nid,rfl,hC,hB,he,hE⟩:=z
 have both:(Value.ref C::bm).contains (.type "BaseException")=true:=by rw [List.contains_cons,hB,Bool.or_true]
 obtain ⟨hp,g,d,tk,os⟩:=s1
 repeat (first | with_reducible refine wpAny_loadPart_at he ?_ | with_reducible refine wpAny_loadPart_at hC ?_ | (with_reducible refine wpAny_isSubtype_exc hC ?_;rw [both]) | wp_step)
 exact wpAny_raiseNew_none hh hE
end L2
namespace L3
open PySem
def lF(C:Nat)(as:Ax):Sx:=fun ρ h=>match as ρ h with
 | .ok qs h1=>if qs.length≤sizeLine then .exc (.cls C) h1 else .bad
 | .exc e h1=>.exc e h1
 | .bad=>.bad
def tB(C:Nat):Res (List PV)→SR
 | .ok [v] h1=>.exc (.exa C v) h1
 | .exc e h1=>.exc e h1
 | _=>.bad
def jp(z:Bool)(C:Nat)(as:Ax):Sx:=if z=true then fun ρ h=>tB C (as ρ h) else fun _ _=>.bad
def pAt(ok:Nat→Bool)(p:PV)(h:List PO):Res PV:=match p with
 | .exa C v=>if ok C=true then .ok v h else .bad
 | _=>.bad
end L3
namespace Z
open PySem PySem.Spec PyProof.Rows L3 L2
section
variable {X:Cx} {w w1 w3:Wo} {ρ:Ev} {h:List PO} {a:Addr} {o:Obj}
theorem su{vs:Array Value}{a0:Value}(ok:X.Ok)(W:Wd X w3 h)(y:StS X w w3)(tr:X.tr=true)(nw:w.s.heap.get? a=none)(ha:Has w3 a o)(hd:o.data= .fields vs)(h0:vs[0]? =some a0)(h1:vs[1]? =some .none):Fly X w w3 a o.cls o.dict:=by
 have na:a∉X.fs:=fun z=>by obtain ⟨o',q,d⟩:=W.fr a z;have q:=q.1;rw [ha.1] at q;cases q;exact d vs hd
 refine ⟨⟨a0,PySem.W.hideAll w3.s.heap (a::X.fs),.inr ⟨tr,fun b o q=>PySem.W.of_hideAll _ q,PySem.W.hideAll_none _ (by simp),ss (fun env he=>?_) fun b hb=>let ⟨o,q,d⟩:=W.fr b hb;⟨o,q.1,d⟩,o,vs,ha.1,rfl,hd,h0,h1⟩,fun b o' e n=>?_,fun b z=>?_⟩,o,ha.1,rfl⟩
 ·obtain ⟨k,L,e,_⟩:=ok.sf env he
  exact ⟨k,L,e,PySem.W.hideAll_none _ (List.mem_cons_of_mem _ (List.mem_filterMap.mpr ⟨env,he,e⟩))⟩
 ·obtain ⟨o2,q⟩:=y.dom b o' e
  exact ⟨o2,PySem.W.hideAll_get _ q (by simp only [List.mem_cons,not_or];exact ⟨fun z=>(by rw [z,nw] at e;cases e),n⟩)⟩
 ·have nb:b∉a::X.fs:=by
   simp only [List.mem_cons,not_or]
   exact ⟨fun q=>z (q▸ha.2),fun q=>let ⟨_,r,_⟩:=W.fr b q;z r.2⟩
  have go:(∃ o,w3.s.heap.get? b=some o)→∃ o',(PySem.W.hideAll w3.s.heap (a::X.fs)).get? b=some o':=fun ⟨o,q⟩=>⟨o,PySem.W.hideAll_get _ q nb⟩
  by_cases z1:b∈w3.m
  ·exact go (W.toHR.there z1)
  ·cases z2:w3.F b with
   | some o=>exact go ⟨o,W.sub b o z2⟩
   | none=>cases z3:w3.O b with
    | some x=>exact go (W.own b x z3).1
    | none=>exact absurd ⟨z1,z2,z3⟩ z
structure ZX(X:Cx)(C:Nat)(x:Str):Prop where
 ex:∃ Ca bmB newId Bn inN bmN B nid initId,ExcBaseFacts Bn newId inN bmN∧bmB.contains (.type Bn)=true∧ExcBaseFacts B nid initId bmB∧PySem.W.excIn X.K Ca bmB newId=true∧X.T C=some Ca∧X.mg x=some (.ref Ca)
variable {x:Str} {C:Nat} {np cpos pos:Pos} {e0:Expr} {es:List Expr} {fs:Ax}
theorem mn(c:ZX X C x)(hg:Gl X x)(ha:RA X (e0::es) fs)(hc:X.calm=true:=by rfl)(htr:X.tr=true:=by rfl)(hdb:(x==("__debug__":Str))=false:=by decide)(he:starEach (e0::es) X.env=(false,eval e0 X.env)::starEach es X.env:=by rfl)(hpl:(backTo cpos (starEach es X.env)).any (·.1)=false:=by rfl):
  RS X (.Raise (some (.Call (.Name x np) (e0::es) [] cpos)) none pos) (lF C fs):=⟨fun {w ρ h Q E} I p=>by
 obtain ⟨Ca,bmB,newId,Bn,inN,bmN,B,nid,initId,Fn,hBn,FB,ok,t,hm⟩:=c.ex
 obtain ⟨bm,N,nm,q,bs,hdct,sn,sub,ab,col,dd,k0,k1,k2,k3,k5,mN,hC,hN,hni,T⟩:=CK I.ok.kin ok
 have step:=ha.r cpos I (bF.e (k:=fun qs h1=>if qs.length≤sizeLine then .exc (.cls C) h1 else .bad) (show bF X w Q E (iG (fs ρ h) _) by unfold lF at p;cases z:fs ρ h<;>rw [z] at p<;>exact p) I (G:=fun us s2=>us.length≤sizeLine∧s2.heap.get? Ca=some (excClassObj nm q Ca N bs bm hdct sn sub ab col dd k0 k1 k2 k3 k5 newId)∧s2.heap.Ns N mN∧OwnTail s2.heap bmB bm∧∀ (h':Heap) (e:Addr),s2.heap.MadeExcOf h' e (.ref Ca) us→E (.ref e) { s2 with heap:=h' }) fun w2 h2 qs us y I2 r p=>by
  split at p
  ·refine ⟨r.length▸ ‹_›,I2.bk hC,hN.keeps fun _ _ e=>I2.bk e,T.keeps fun _ _ e=>I2.bk e,fun h' e made=>?_⟩
   have n:=Nw.also (X:=X) (s':= { w2.s with heap:=h' }) I2.toHR made.keeps
   have I3:=I2.on n
   obtain ⟨tt,e1,_⟩:=made.there
   exact p.2 _ _ ρ n.s I3 ⟨e,_,none,rfl,su I3.ok I3.toWd n.s htr made.new ⟨e1,I2.toHR.free made.new⟩ rfl rfl rfl,Ca,t,rfl,rfl⟩
  ·exact p.elim)
 refine wpAny_Raise_call_subU (C:=Ca) (nm:=nm) (q:=q) (N:=N) (bs:=bs) (bm:=bm) (hdct:=hdct) (sn:=sn) (sub:=sub) (ab:=ab) (col:=col) (dd:=dd) (k0:=k0) (k1:=k1) (k2:=k2) (k3:=k3) (k5:=k5)
  Fn hBn FB (mN:=mN) (T.hasType FB.hasBase) (I.ok.hd hc) ?_ hni (I.glb hg hm ⟨rfl,?_⟩ hdb)
 ·rw [he]
  show (false||(backTo cpos (starEach es X.env)).any (·.1))=false
  rw [hpl];rfl
 ·rw [he] at step ⊢
  exact Calls.evalArgs_plain (wpAny_mono step (fun us s2 z=>⟨rfl,z⟩) fun _ _ z=>z)⟩
structure FnX(G:SC)(fI:Addr)(fd:FuncData)(ps:List Str)(f:Str):Prop where
 len:ps.length=2
 run:∀ {X:Cx} {w:Wo} {h:List PO} {A:Around} {C:Nat} {Ca a:Addr} {o:Obj} {vs:Array Value} {v:PV} {u:Value} {args:Args} {Q:Value→Shared→Prop} {E:Value→Shared→Prop},X.toSC=G→dY 1 A→A.handled=none→A.frames=some X.stack→Wd X w h→X.Ok→G.T C=some Ca→XIn G.K Ca fI f→Has w a o→o.cls= .ref Ca→o.data= .fields vs→o.dict=none→aX G w.F w.m v u→BindsTo w.s fd args (ps.zip [.ref a,u])→
  (∀ h' t dx od,(∀ b o,b≠a→w.s.heap.get? b=some o→h'.get? b=some o)→h'.get? a=some { o with dict:=some dx }→w.s.heap.get? dx=none→h'.get? dx=some od→NsO od [(f,u)]→Q .none { w.s with heap:=h',toks:=t })→codeAny (model G.prog G.w) A (.call (.ref fI) args) (RC Q E) w.s
theorem HR.freeze{G:SC}(H:HR G w h)(ha:Has w a o):HR G ⟨iw w.F a o,w.O,w.m,w.s⟩ h:=by
 have nb:∀ {b},¬ Fre w b→b≠a:=fun n z=>n (z▸ha.2)
 refine ⟨fun b x e=>?_,fun d b e=>let ⟨q,z,y⟩:=H.own d b e;⟨q,z,cQ (nb fun z=>by rw [z.2.2] at e;cases e) y⟩,H.len,H.nd,fun i po b e1 e2=>(H.obj i po b e1 e2).on (cP ha.2.2.1) (fun _ e=>e) (fun _ _ e=>e) (fun _ _ e _=>e) (cQ (nb fun z=>z.1 (List.mem_of_getElem? e2)))⟩
 by_cases z:b=a
 ·subst z;cases bu.symm.trans e;exact ha.1
 ·exact H.sub b x ((kF z).symm.trans e)
theorem CG{G:SC}{N ps:List Str}{qual name f x y':Str}{st:Stmt}{fI:Addr}{fd:FuncData}{p1 p2 p3 p4:Pos}(F:Fun G.K name qual st fI fd)(S:kN N ps (aV st))(hl:ps.length=2)(hx:N[0]? =some x)(hy:N[1]? =some y')(hb:gX st= [.Assign [.Attribute (.Name x p1) f p2] (.Name y' p3) p4])
  (hs:∀ env,swapsWith (.Name y' p3) (some (.Attribute (.Name x p1) f p2)) p4.line env=pure false:=by intro _;rfl) (hd:(x==("__debug__":Str))=false:=by decide) (hcd:(x==("__classdict__":Str))=false:=by decide) (hd':(y'==("__debug__":Str))=false:=by decide) (hcd':(y'==("__classdict__":Str))=false:=by decide):FnX G fI fd ps f where
 len:=hl
 run {X w h A C Ca a o vs v u args Q E} hG hr hn hf I ok t c ha hcl hda hdi r hbd q:=by
  subst hG
  have H':Wd X ⟨iw w.F a o,w.O,w.m,w.s⟩ h:=⟨I.toHR.freeze ha,I.ba,fun b o' e=>cP ha.2.2.1 _ _ (I.bs b o' e),fun b hb=>by
   obtain ⟨o',z,d⟩:=I.fr b hb
   exact ⟨o',⟨z.1,z.2.1,cQ (fun y=>by subst y;have z:=z.1;rw [ha.1] at z;cases z;exact d vs hda) z.2.2.1,z.2.2.2⟩,d⟩⟩
  refine nN (c:=true) (w:=⟨iw w.F a o,w.O,w.m,w.s⟩) (qs:= [.exc C,v]) F S hr (fun _=>hn) hf H' ok hl.symm (.cons (.exc t bu hcl hda) (.cons (r.mono (cP ha.2.2.1) (.inr fun _ _ e=>e)) .nil)) hbd fun cd s1 _ nw y J gr=>?_
  obtain ⟨h1,t1,rfl,kp,m,ns,lk⟩:=gr
  have px:ps[0]? =some x∧ps[1]? =some y':=by rw [← S.pre,hl];exact ⟨by rw [List.getElem?_take_of_lt (by decide)];exact hx,by rw [List.getElem?_take_of_lt (by decide)];exact hy⟩
  rw [hb]
  refine wpAny_execs_cons (plainObj_wpAny_Assign_Attribute ((lk 1 _ _ px.2 rfl).nm ns J.ok ((lk 0 _ _ px.1 rfl).nm ns J.ok ?_ hd hcd) hd' hcd') (hs _))
  have ho:h1.get? a=some o:=kp _ _ ha.1
  have I0:PySem.W.InstAt h1 a o Ca none:=⟨ho,hcl,by unfold PySem.W.notCls;rw [hda],by rw [hdi];exact True.intro⟩
  refine PySem.W.set_plain J.kIn I0 c.sa (Jb (s:= { w.s with heap:=h1,toks:=t1+1 }) J.kIn I0 hdi c.v c.no fun h' ns' sb=>wpAny_execs_nil ?_)
  obtain ⟨od,es,ep,e1,e2,e3,e4,e5⟩:=ns'
  have ne:a≠h1.objs.size:=Nat.ne_of_lt (Heap.lt_size ho)
  have hk:∀ b q,b≠a→h1.get? b=some q→h'.get? b=some q:=fun b q hb z=>by
   rw [sb.2 b (Nat.ne_of_lt (Heap.lt_size z))]
   unfold jL
   rw [Heap.get?_update_ne _ _ _ _ hb];exact Heap.get?_push_of_some _ z
  refine q h' _ h1.objs.size od (fun b q hb z=>hk b q hb (kp b q z)) ?_ ?_ e1 ⟨es,ep,e2,e3,e4,fun n=>?_⟩
  ·rw [sb.2 a ne]
   unfold jL
   refine Heap.get?_update_self _ (Heap.get?_push_of_some _ ho) ?_
   have fr:=(Heap.get?_some_iff.mp ho).2
   obtain ⟨oc,od,odt,osl⟩:=o
   cases odt<;>first | rfl | exact fr
  ·cases z:w.s.heap.get? h1.objs.size with
   | none=>rfl
   | some o=>have:=kp _ _ z;rw [aM] at this;cases this
  ·rw [e5 n]
   by_cases z:n=f
   ·simp [z,List.lookup]
   ·have:(n==f)=false:=by simpa using z
    simp [z,List.lookup,this]
structure ZI(X:Cx)(C:Nat)(x:Str):Prop where
 ex:∃ Ca fI fd ps,X.T C=some Ca∧X.mg x=some (.ref Ca)∧FnX X.toSC fI fd ps (xnm C)∧XIn X.K Ca fI (xnm C)∧iO X.K fd ps []
theorem Ja{Ca fI:Addr}{fd:FuncData}{ps:List Str}{v:PV}{u:Value}{Q:Value→Shared→Prop}{E:Value→Shared→Prop}(t:X.T C=some Ca)(F:FnX X.toSC fI fd ps (xnm C))(c:XIn X.K Ca fI (xnm C))(hb:iO X.K fd ps [])(hr:dY 2 X.A)(hd:X.A.handled=none)(I:Inv X w ρ h)(r:aX X.toSC w.F w.m v u)
  (q:∀ h' tk a dx od tt,Nw X w ⟨iw w.F dx od,w.O,w.m,{ w.s with heap:=h',toks:=tk }⟩ h→w.s.heap.get? a=none→dx≠a→h'.get? a=some ⟨.ref Ca,some dx,.fields #[.ref tt,.none,.none,.none,.bool false,.none], #[]⟩→NsO od [(xnm C,u)]→Q (.ref a) { w.s with heap:=h',toks:=tk }):Wp X (call (.ref Ca) [u]) Q E w.s:=by
 obtain ⟨bmB,newId,Bn,inN,bmN,B,nid,initId,Fn,hBn,FB,lz⟩:∃ bmB newId Bn inN bmN B nid initId,ExcBaseFacts Bn newId inN bmN∧bmB.contains (.type Bn)=true∧ExcBaseFacts B nid initId bmB∧oX X.K Ca bmB newId=true:=by
  rcases c.lies with l | l
  ·exact ⟨_,_,_,_,_,_,_,_,PySem.F.excBase_ValueError,by decide+kernel,PySem.F.excBase_ValueError,l⟩
  ·exact ⟨_,_,_,_,_,_,_,_,PySem.F.excBase_Exception,by decide+kernel,PySem.F.excBase_Exception,l⟩
 obtain ⟨bm,N,nm,q0,bs,hdct,sn,sub,ab,col,dd,k0,k1,k2,k3,k5,hC,T⟩:=uk I.kIn lz
 have L:∀ h',(∀ b o,w.s.heap.get? b=some o→h'.get? b=some o)→PySem.W.Looks (model X.prog X.w) h' (typeLookup (.ref Ca) "__init__") (some (.ref fI)):=fun h' k=>PySem.W.looks_findIn (I.kIn.keeps k) c.init
 obtain ⟨oI,fo,fc⟩:∃ oI,w.s.heap.get? fI=some oI∧oI.cls= .type "function":=by
  obtain ⟨oI,h1,h2⟩:=Option.map_eq_some_iff.mp (show (X.K.lookup fI).map (·.cls)=some (.type "function") from beq_iff_eq.mp c.fn)
  exact ⟨oI,I.kIn _ _ h1,h2⟩
 have kp:∀ b o,w.s.heap.get? b=some o→(iU w.s.heap Ca [u]).get? b=some o:=fun b o e=>iA e
 have n:=Nw.also (X:=X) (s':= { w.s with heap:=iU w.s.heap Ca [u] }) I.toHR kp
 have I1:=I.on n
 have na:w.s.heap.get? (w.s.heap.objs.size+1)=none:=by
  cases q:w.s.heap.get? (w.s.heap.objs.size+1) with
  | none=>rfl
  | some o=>exact absurd (Heap.lt_size q) (Nat.not_lt_of_le (Nat.le_succ _))
 refine GA (h:=w.s.heap) (g:=w.s.gens) (d:=w.s.drawn) (t:=w.s.toks) (os:=w.s.os) Fn hBn FB T hC L fo fc (by show 1≤sizeLine;decide) ?_
 have bd:=hb { w.s with heap:=iU w.s.heap Ca [u] } [.ref (w.s.heap.objs.size+1),u] I1.kIn (by rw [List.append_nil,F.len];rfl)
 rw [List.append_nil] at bd
 refine wpAny_call (codeAny_mono (F.run (w:= { w with s:= { w.s with heap:=iU w.s.heap Ca [u] } }) (args:=⟨[.ref (w.s.heap.objs.size+1),u],[]⟩) (Q:=fun v s=>v= .none∧Q (.ref (w.s.heap.objs.size+1)) s) (E:=fun _ _=>False) rfl (hr.make Ca [u] []) hd (by first | exact I.ok.frames | (simpa [Around.under,Code.envs,Code.isFrame,pushEnvs] using I.ok.frames)) I1.toWd I1.ok t c ⟨nj,I.toHR.free na⟩ rfl rfl rfl r bd fun h' tk dx od k ha nd hdx ns=>⟨rfl,?_⟩) fun r s' hq=>?_)
 ·have nd':w.s.heap.get? dx=none:=by
   cases z:w.s.heap.get? dx with
   | none=>rfl
   | some o=>rw [kp _ _ z] at nd;cases nd
  exact q h' tk _ dx od _ (Nw.lay I.toHR nd' (fun b o e=>k b o (fun z=>by rw [z,na] at e;cases e) (kp b o e)) hdx) na (fun z=>by rw [z,nj] at nd;cases nd) ha ns
 ·cases r with
  | error e=>exact hq.elim
  | ok fl=>
   cases fl with
   | ret u=>exact hq
   | _=>exact False.elim hq
theorem iY{k:Nat}{e:Expr}(c:ZI X C x)(hr:dY k X.A)(hg:Gl X x)(ha:RA X [e] fs)(hc:X.calm=true:=by rfl)(htr:X.tr=true:=by rfl)(hdb:(x==("__debug__":Str))=false:=by decide)(he:starEach [e] X.env= [(false,eval e X.env)]:=by rfl)(hpl:(backTo cpos (starEach [] X.env)).any (·.1)=false:=by rfl):
  RS X (.Raise (some (.Call (.Name x np) [e] [] cpos)) none pos) (jp (Nat.ble 2 k) C fs):=⟨fun {w ρ h Q E} I p=>by
 unfold jp at p
 split at p
 ·rename_i hz
  obtain ⟨Ca,fI,fd,ps,t,hm,F,c,hb⟩:=c.ex
  obtain ⟨bmB,newId,hty,lz⟩:∃ (bmB:List Value) (newId:String),bmB.contains (.type "BaseException")=true∧oX X.K Ca bmB newId=true:=by
   rcases c.lies with l | l
   ·exact ⟨_,_,by decide+kernel,l⟩
   ·exact ⟨_,_,by decide+kernel,l⟩
  obtain ⟨bm,N,nm,q0,bs,hdct,sn,sub,ab,col,dd,k0,k1,k2,k3,k5,hC,T⟩:=uk I.ok.kin lz
  rw [arm_exec_Raise]
  refine wpAny_bind (wpAny_standAt (wF (I.ok.hd hc) (wpAny_bind (wpAny_mono (Q:=fun v s1=>∃ (e C N t:Addr) (dx:Option Addr) (sl:Array (Option Value)) (nm q:Str) (bs bm:List Value) (hdct:Bool) (sn:List Str) (sub:List Value) (ab:Bool) (col:Option Bool) (dd:Option Addr) (k0 k1 k2 k3 k5:Option Value) (nid:String),
   v= .ref e∧s1.heap.get? C=some (excClassObj nm q C N bs bm hdct sn sub ab col dd k0 k1 k2 k3 k5 nid)∧bm.contains (.type "BaseException")=true∧s1.heap.get? e=some ⟨.ref C,dx,.fields #[.ref t,.none,.none,.none,.bool false,.none],sl⟩∧E (.ref e) s1) (wpAny_Call_Name_kw (I.glb hg hm (PySem.W.callWith_K (h₀:=X.base) I.ok.kin c.kp (ha.r cpos I ?_) he hpl) hdb)) (fun v s1 z=>wpAny_bind (wpAny_standAt (wpAny_pure z))) fun _ _ z=>z))))
  have p:bF X w Q E (iG (fs ρ h) fun qs h1=>tB C (.ok qs h1)):=by
   have p:bF X w Q E (tB C (fs ρ h)):=p
   cases z:fs ρ h<;>rw [z] at p<;>exact p
  refine bF.e p I fun w2 h2 qs us y I2 r p=>⟨I2.kIn,?_⟩
  unfold tB at p
  split at p
  ·rename_i z
   cases z
   cases r with
   | cons r t'=>
    cases t'
    refine Ja t F c hb (hr.mono (Nat.le_of_ble_eq_true hz)) (I.ok.hd hc) I2 r fun h' tk a dx od tt n na ne ea ns=>?_
    have I3:=I2.on n
    have ha:Has ⟨iw w2.F dx od,w2.O,w2.m,{ w2.s with heap:=h',toks:=tk }⟩ a ⟨.ref Ca,some dx,.fields #[.ref tt,.none,.none,.none,.bool false,.none], #[]⟩:=⟨ea,(I2.toHR.free na).1,cQ (Ne.symm ne) (I2.toHR.free na).2.1,(I2.toHR.free na).2.2⟩
    exact ⟨a,Ca,N,tt,_,_,nm,q0,bs,bm,hdct,sn,sub,ab,col,dd,k0,k1,k2,k3,k5,_,rfl,I3.bk hC,T.hasType hty,ea,p.2 _ _ ρ n.s I3 ⟨a,_,_,rfl,su I3.ok I3.toWd n.s htr na ha rfl rfl rfl,Ca,dx,od,_,_,t,rfl,rfl,bu,ns,by simp [List.lookup],n.1.rep r⟩⟩
  ·rename_i z;cases z
  ·exact p.elim
 ·exact p.elim⟩
end
end Z
namespace L3
def Ft:PV→Option (Nat×PV)
 | .cls C=>some (C,.exc C)
 | .exa C v=>some (C,.exa C v)
 | _=>none
def rC(cat:Nat→Bool)(g:Sx)(i:Nat)(gs:Sx):Sx:=fun ρ h=>match g ρ h with
 | .exc e h1=>match Ft e with
  | some (C,p)=>if cat C=true then (match gs (ρ.set i (some p)) h1 with
   | .rt v h2=>.rt v h2
   | _=>.bad) else .bad
  | none=>.bad
 | r=>r
end L3
namespace Z
open PySem PySem.Spec PyProof.Rows L3 L2
section
variable {X:Cx} {w w1 w3:Wo} {ρ:Ev} {h h1:List PO} {a:Addr} {o:Obj}
theorem FX{o:Expr}{fo:Ex}{apos:Pos}{ok:Nat→Bool}{f:Str}(hx:∀ C Ca,ok C=true→X.T C=some Ca→xnm C=f∧∃ fI,XIn X.K Ca fI f)(ho:RE X o fo)(hb:attributeBase o f X.env (eval o X.env)=eval o X.env:=by rfl):RE X (.Attribute o f apos) (c1 (pAt ok) fo):=⟨fun I p=>Attribute_any_ (ho.r I (p.bind fun w1 h1 q u y r p=>by
 unfold pAt at p
 split at p
 ·split at p
  ·cases r with
   | exa c e oc d od' e2 n l r=>
    obtain ⟨xe,fI,xi⟩:=hx _ _ ‹_› c
    rw [xe] at l
    have I1:=I.on y
    have J:PySem.W.InstAt w1.s.heap _ _ _ (some _):=⟨y.2.at e,oc,by unfold PySem.W.notCls;rw [d],by rw [od'];exact y.2.at e2⟩
    refine Dr xi.x I1.kIn J.type (PySem.W.looks_find I1.kIn J (PySem.W.findObj_own xi.hd xi.no rfl (by rw [rS n,l]))) (Cz r) (p.now y.2 r)
  ·exact p.elim
 ·exact p.elim)) (by rw [arm_eval_Attribute,hb])⟩
abbrev Cx.tried(X:Cx):Cx:= { X with tr:=false,Ep:=fun _=>True }
abbrev Cx.suite(X:Cx)(a:Addr):Cx:= { X with A:=X.A.mark (some (.ref a)),calm:=false,tr:=false,Ep:=fun _=>True }
theorem Inv.tried(I:Inv X w ρ h):Inv X.tried w ρ h:=⟨⟨I.toHR,I.ba,I.bs,I.fr⟩,⟨I.ok.kin,I.ok.gl,I.ok.bl,I.ok.nl,I.ok.kind,I.ok.glob,I.ok.blt,I.ok.inj,I.ok.has,I.ok.hd,I.ok.frames,I.ok.nd,I.ok.sf⟩,I.loc,I.cel,I.ln⟩
theorem Inv.suite(I:Inv X w ρ h):Inv (X.suite a) w ρ h:=⟨⟨I.toHR,I.ba,I.bs,I.fr⟩,⟨I.ok.kin,I.ok.gl,I.ok.bl,I.ok.nl,I.ok.kind,I.ok.glob,I.ok.blt,I.ok.inj,I.ok.has,fun z=>(nomatch z),I.ok.frames,I.ok.nd,I.ok.sf⟩,I.loc,I.cel,I.ln⟩
theorem Inv.unsuite(ok:X.Ok)(I:Inv (X.suite a) w ρ h):Inv X w ρ h:=⟨⟨I.toHR,I.ba,I.bs,I.fr⟩,ok,I.loc,I.cel,I.ln⟩
theorem Inv.lost{h9:Heap}{m9:Str→Option Value}{t:Nat}(I:Inv X w ρ h)(ns:h9.Ns X.L m9)(sb:Heap.SameBut X.L w.s.heap h9):StS X w { w with s:= { w.s with heap:=h9,toks:=t } }∧Inv X { w with s:= { w.s with heap:=h9,toks:=t } } (List.replicate X.N.length none) h:=by
 obtain ⟨m,oL,n,hl,_⟩:=I.loc
 obtain ⟨o9,es,ep,e9,d9,_⟩:=id ns
 have on:∀ b o,b≠X.L→w.s.heap.get? b=some o→h9.get? b=some o:=fun b o z e=>(sb.2 b z).trans e
 have h9L:Has { w with s:= { w.s with heap:=h9,toks:=t } } X.L o9:=⟨e9,hl.2⟩
 have st:StS X w { w with s:= { w.s with heap:=h9,toks:=t } }:=⟨rfl,id,fun _ _ e=>e,fun _ _ e=>e,⟨[],by simp⟩,fun b o e=>by
  by_cases z:b=X.L
  ·exact ⟨o9,z▸e9⟩
  ·exact ⟨o,on b o z e⟩,fun b o q nw=>⟨o.slots,⟨on b o (fun z=>nw (.inl z)) q.1,q.2⟩,.inr rfl⟩⟩
 refine ⟨st,I.toWd.on st (fun b hb _=>?_) (I.toHR.on fun b o e z=>on b o (fun y=>z (y▸hl.2)) e),I.ok,⟨m9,o9,ns,h9L,fun i p e=>?_⟩,fun y c e=>?_,by simp⟩
 ·obtain ⟨o,q,d⟩:=I.fr b hb
  by_cases z:b=X.L
  ·exact ⟨o9,z▸h9L,fun vs z=>by rw [d9] at z;cases z⟩
  ·exact ⟨o,⟨on b o z q.1,q.2⟩,d⟩
 ·rw [List.getElem?_replicate] at e;split at e<;>cases e
 ·obtain ⟨v,o,⟨o',ho,hd⟩,q⟩:=I.cel y c e
  have z:c≠X.L:=fun z=>by
   obtain ⟨o2,es,ep,ho',hd',_⟩:=n
   rw [z,ho'] at ho;cases ho;rw [hd'] at hd;cases hd
  exact ⟨v,o,⟨o',on c o' z ho,hd⟩,on c o z q.1,q.2⟩
theorem Nw.freeze(n:Nw X w w1 h)(na:w.s.heap.get? a=none)(ha:Has w1 a o):Nw X w ⟨iw w1.F a o,w1.O,w1.m,w1.s⟩ h:=⟨⟨n.1.os,n.1.ba,fun b o' e=>cP ha.2.2.1 _ _ (n.1.fz b o' e),n.1.ow,n.1.pre,n.1.dom,fun b o' q z=>let ⟨sl,q',z⟩:=n.1.keep b o' q z;⟨sl,⟨q'.1,q'.2.1,cQ (fun y=>by have q:=q.1;rw [y,na] at q;cases q) q'.2.2.1,q'.2.2.2⟩,z⟩⟩,n.2.freeze ha⟩
theorem tw{cat:Nat→Bool}{e:Expr}{suite:List Stmt}{b0:Stmt}{fe:Ex}{gs:Sx}{t n:Str}{Ta:Addr}{i:Nat}{tp hpos pos epos:Pos}{outer:List Env}(hcat:∀ C Ca,cat C=true→X.T C=some Ca→PySem.W.exmOne X.K (.ref Ca) (.ref Ta)=some true)
  (hb:RE X.tried e fe) (hs:∀ a,RSs (X.suite a) (b0::suite) gs) (hi:X.N[i]? =some n) (hn:X.env.scope.names.lookup n=some .local) (hg:Gl X t) (hm:X.mg t=some (.ref Ta)) (stk:X.stack=X.env::outer:=by rfl) (hf:X.env.frame=some X.env.locals:=by rfl) (hdb:(t==("__debug__":Str))=false:=by decide) (hsw:swapsWith e none epos.line X.env=pure false:=by rfl):
  RS X (.Try [.Expr e epos] [.ExceptHandler (some (.Name t tp)) (some n) (b0::suite) hpos] [] [] pos) (rC cat (dk fe) i gs):=⟨fun {w ρ h Q E} I p=>by
 refine wpAny_Try_except (wpAny_execs_cons (wpAny_Expr_any (hb.r I.tried ?_) I.quiet hsw))
 unfold rC dk eH iG at p
 cases z:fe ρ h with
 | ok v h1=>rw [z] at p;exact ⟨trivial,fun w' x y r=>wpAny_execs_nil (wpAny_execs_nil (p.2 w' y.s (I.on y)))⟩
 | bad=>rw [z] at p;exact p
 | exc e h1=>
  rw [z] at p
  refine ⟨trivial,fun w' u y r=>?_⟩
  dsimp only at p
  split at p
  ·rename_i C pe ev
   split at p
   ·rename_i hC
    have I1:=I.on (X:=X) y
    obtain ⟨a,cls,dx,rfl,⟨⟨a0,B,fl,c1,c2⟩,d⟩,m⟩:=r
    rcases fl with fl | ⟨z,_⟩
    case inr=>cases z
    obtain ⟨Ca,t1,rfl⟩:∃ Ca,X.T C=some Ca∧cls= .ref Ca:=by
     unfold Ft at ev
     split at ev<;>cases ev
     ·obtain ⟨Ca,h1,h2,_⟩:=m;exact ⟨Ca,h1,h2⟩
     ·obtain ⟨Ca,_,_,_,_,h1,h2,_⟩:=m;exact ⟨Ca,h1,h2⟩
    have fa:Fre w' a:=Classical.byContradiction fun z=>by obtain ⟨o',q⟩:=c2 a z;have:=fl.2.1;rw [q] at this;cases this
    have na:w.s.heap.get? a=none:=by
     cases z:w.s.heap.get? a with
     | none=>rfl
     | some o'=>
      by_cases hb:a∈X.fs
      ·obtain ⟨o1,q,dd⟩:=I1.fr a hb
       obtain ⟨oe,vs,q1,_,q3,_⟩:=fl.first
       have q:=q.1;rw [q1] at q;cases q;exact absurd q3 (dd vs)
      ·obtain ⟨o2,q⟩:=c1 a o' z hb
       have:=fl.2.1;rw [q] at this;cases this
    have lands:∀ h5,Heap.FlyingW B X.stack a (.ref Ca) a0 h5→w'.s.heap.UpToSlots h5→(∃ o,h5.get? a=some o∧o.dict=dx)→Nw X w { w' with s:= { w'.s with heap:=h5 } } h1∧∃ o vs,h5.get? a=some o∧o.cls= .ref Ca∧o.data= .fields vs∧o.dict=dx:=fun h5 fl5 up d5=>by
     refine ⟨Gk (Y:=X) y.1 I1.toWd c1 c2 fl.1 fl5.1 up,?_⟩
     obtain ⟨oe,vs,q1,q2,q3,_⟩:=fl5.first
     obtain ⟨o',y1,y2⟩:=d5
     rw [q1] at y1;cases y1
     exact ⟨oe,vs,q1,q2,q3,y2⟩
    have hfr:X.A.frames=some (X.env::outer):=stk▸I.ok.frames
    have fl':=fl
    rw [stk] at fl'
    refine vn (mK _ _) d (wpAny_looks_onW hfr hf fl' fun h4 held up4 d4=>vn (jy _ _) d4 (wpAny_landsW held fun h5 fl5 up5 d5=>?_))
    rw [← stk] at fl5
    obtain ⟨n5,o5,vs5,q1,q2,q3,q4⟩:=lands h5 fl5 (up4.trans up5) d5
    have I5:=I.on n5
    refine wpAny_handleBy_cons (codeAny_handlers_test ((I5.suite (a:=a)).glb hg hm ?_ hdb)) (by intro z;cases z)
    have LT:PySem.W.Looks (model X.prog X.w) h5 (typeOf (.ref a)) (.ref Ca):=q2▸(PySem.W.Looks.ld q1).andThen .now
    refine PySem.W.Looks.here (s:= { w'.s with heap:=h5 }) (PySem.W.exm_one (K:=X.K) I5.kIn LT (hcat C Ca hC t1)) (codeAny_handlers_suite_as ?_)
    refine vn (jy _ _) d5 (lands_againW fl5 fun h6 fl6 up6 d6=>?_)
    obtain ⟨n6,o6,vs6,q1,q2,q3,q4⟩:=lands h6 fl6 ((up4.trans up5).trans up6) d6
    have n7:=n6.freeze na ⟨q1,fa⟩
    have I6:=(I.on n7).suite (a:=a)
    have re:aX X.toSC (iw w'.F a o6) w'.m pe (.ref a):=by
     unfold Ft at ev
     split at ev<;>cases ev
     ·exact .exc t1 bu q2 q3
     ·obtain ⟨_,dd,od,fs,yy,g1,_,g3,g4,g5,g6,g7⟩:=m
      exact .exa t1 bu q2 q3 (q4.trans g3) (cP fa.2.1 _ _ g4) g5 g6 (g7.mono (cP fa.2.1) (.inr fun _ _ e=>e))
    refine I6.store (X:=X.suite a) hi (.inl hn) re fun w7 y7 I7=>(hs a).r I7 ?_
    split at p
    ·rename_i e8
     rw [e8]
     refine ⟨trivial,fun w8 u8 ρ8 y8 I8 r8=>?_⟩
     have J8:=Inv.unsuite I.ok I8
     obtain ⟨m8,_,ns8,_⟩:=id J8.loc
     refine wpAny_nameGoes hn ns8 (by rw [I.ok.kind];rfl) fun h9 m9 ns9 sb=>?_
     obtain ⟨s9,I9⟩:=J8.lost (t:=w8.s.toks+1) ns9 sb
     exact p.2 _ _ _ (n7.s.trans (Stp.trans y7 (Stp.trans y8 s9))) I9 r8
    ·exact p.elim
   ·exact p.elim
  ·exact p.elim⟩
end
end Z
namespace L3
open PySem
def JV(h:List PO)(p:PV):Option Nat:=match p with
 | .str l=>if l.length≤sizeLine then some l.length else none
 | p=>match dcR h p with
  | some kvs=>some kvs.length
  | none=>match sqR h p with
   | some xs=>some xs.length
   | none=>none
def fy(ps:List PV)(h:List PO):Res PV:=match ps with
 | [p]=>match JV h p with
  | some n=>.ok (.int n) h
  | none=>.bad
 | _=>.bad
def AU(h:List PO):PV→Option String
 | .non=>some "NoneType"
 | .bl _=>some "bool"
 | .int _=>some "int"
 | .str _=>some "str"
 | .tup _=>some "tuple"
 | p=>match dcR h p with
  | some _=>some "dict"
  | none=>match lsR h p with
   | some _=>some "list"
   | none=>none
def AX(t c:String):Bool:=(t==c)||(t=="bool"&&c=="int")
def yG:List String:= ["str","int","bool","list","tuple","dict"]
def aH(ps:List PV)(h:List PO):Res PV:=match ps with
 | [p,.ty c]=>if yG.contains c=true then match AU h p with
   | some t=>.ok (.bl (AX t c)) h
   | none=>.bad
  else .bad
 | _=>.bad
def pF(i:Int):List Nat:=(Str.ofString (toString i)).cps.toList
def Ef(ps:List PV)(h:List PO):Res PV:=match ps with
 | [.int i]=>if i.natAbs.log2<1920 then .ok (.str (pF i)) h else .bad
 | _=>.bad
def rc(ps:List PV)(h:List PO):Res PV:=match ps with
 | [.int i]=>.ok (.int i) h
 | [.bl b]=>.ok (.int (if b then 1 else 0)) h
 | _=>.bad
def Ei(ps:List PV)(h:List PO):Res PV:=match ps with
 | [.int i]=>.ok (.int (if i<0 then -i else i)) h
 | _=>.bad
def Eg(ps:List PV)(h:List PO):Res PV:=match ps with
 | [.int i,.int j]=>.ok (.int (if j>i then j else i)) h
 | _=>.bad
def lL(ps:List PV)(h:List PO):Res PV:=match ps with
 | [p]=>match sqR h p with
  | some xs=>.ok (.tup xs) h
  | none=>.bad
 | _=>.bad
def tG(ps:List PV)(h:List PO):Res PV:=match ps with
 | [.str l]=>if l.length≤sizeLine then .ok (.lst (l.map fun c=>.str [c])) h else .bad
 | [p]=>match dcR h p with
  | some kps=>.ok (.lst (kps.map fun p=>gN p.1)) h
  | none=>.bad
 | _=>.bad
def mX:List PV→Option (List Bool)
 | []=>some []
 | .bl b::r=>(mX r).map (b:: ·)
 | _::_=>none
def BM(ps:List PV)(h:List PO):Res PV:=match ps with
 | [p]=>match lsR h p with
  | some xs=>match mX xs with
   | some bs=>.ok (.bl (bs.all id)) h
   | none=>.bad
  | none=>.bad
 | _=>.bad
end L3
namespace Z
open PySem PySem.Spec PyProof.Rows L3 L2
section
variable {G:SC} {X:Cx} {w w1:Wo} {ρ:Ev} {h:List PO}
theorem av.one{F:Fz}{m:List Addr}{p:PV}{us:List Value}(r:av G F m [p] us):∃ u,us= [u]∧aX G F m p u:=by cases r with | cons r t=>cases t;exact ⟨_,rfl,r⟩
theorem av.two{F:Fz}{m:List Addr}{p q:PV}{us:List Value}(r:av G F m [p,q] us):∃ u v,us= [u,v]∧aX G F m p u∧aX G F m q v:=by cases r with | cons r t=>obtain ⟨v,rfl,r'⟩:=t.one;exact ⟨_,v,rfl,r,r'⟩
theorem Wd.kIn(I:Wd X w h)(ok:X.Ok):X.K.In w.s.heap:=ok.kin.keeps fun _ _ e=>I.bk e
theorem JD:OpC X (.builtin "len") fy:=fun ok {w h p u Q E} I rs k=>by
 have l:sizeLine=16777216:=sizeLine_eq
 unfold fy at k
 split at k
 ·obtain ⟨u,rfl,r1⟩:=rs.one
  show Wp X (call (.builtin "len") [u]) Q E w.s
  split at k
  ·rename_i e
   unfold JV at e
   split at e
   ·split at e<;>cases e
    cases r1
    exact len_str (by rw [gI];omega) (by rw [gI];exact k.now I.toHR (.int _ _))
   ·split at e
    ·cases e
     obtain ⟨a,kvs,rfl,y,d,r⟩:=I.dc r1 ‹_›
     exact call_len_dict y d (by have:=r.1;omega) (by rw [r.len];exact k.now I.toHR (.int _ _))
    ·split at e<;>cases e
     obtain ⟨t,e,ht⟩:=wt ‹_›
     obtain ⟨a,its,rfl,y,z,r⟩:=I.sq r1 e
     rcases ht with rfl | rfl
     ·exact len_tuple y.tup (by omega) (k.now I.toHR (by rw [r.len];exact .int _ _))
     ·exact Calls.call_len_list y.pl.isList (by omega) (k.now I.toHR (by rw [r.len];exact .int _ _))
  ·exact k.elim
 ·exact k.elim
theorem As(K:PySem.W.Frag){t c:String}(ht:t∈ ["NoneType","bool","int","str","tuple","dict","list"])(hc:yG.contains c=true):PySem.W.kitOne K (.type t) (.type c)=some (AX t c):=by
 have hc':c∈yG:=by simpa using hc
 simp only [yG,List.mem_cons,List.not_mem_nil,or_false] at hc' ht
 rcases ht with rfl | rfl | rfl | rfl | rfl | rfl | rfl<;>rcases hc' with rfl | rfl | rfl | rfl | rfl | rfl<;>rfl
theorem BQ:OpC X (.builtin "isinstance") aH:=fun ok {w h p u Q E} I rs k=>by
 unfold aH at k
 split at k
 ·obtain ⟨u,v,rfl,r,r2⟩:=rs.two
  cases r2
  show Wp X (call (.builtin "isinstance") [u,_]) Q E w.s
  split at k
  ·rename_i hc
   split at k
   ·rename_i t e
    have fin:∀ tk,Q (.bool (AX t _)) { w.s with toks:=tk }:=fun tk=>k.now I.toHR (.bl _)
    have hh:=fun tt=>As (t:=tt) X.K (hc:=hc)
    have KI:=I.kIn ok
    unfold AU at e
    split at e
    ·cases e;cases r;exact PySem.W.kia_one PySem.W.kitx_none KI True.intro (hh _ (by simp)) (fun z=>nomatch z) fin
    ·cases e;cases r;exact PySem.W.kia_one PySem.W.kitx_bool KI True.intro (hh _ (by simp)) (fun z=>nomatch z) fin
    ·cases e;cases r;exact PySem.W.kia_one PySem.W.kitx_int KI True.intro (hh _ (by simp)) (fun z=>nomatch z) fin
    ·cases e;cases r;exact PySem.W.kia_one PySem.W.kitx_str KI True.intro (hh _ (by simp)) (fun z=>nomatch z) fin
    ·cases e
     obtain ⟨a,its,rfl,⟨n,y⟩,z,r⟩:=I.sq r rfl
     exact PySem.W.kia_one PySem.W.kitx_tuple KI ⟨_,y,rfl⟩ (hh _ (by simp)) (fun z=>nomatch z) fin
    ·split at e
     ·cases e
      obtain ⟨a,kvs,rfl,_,⟨o,es,ep,h1,h2,_⟩,_⟩:=I.dc r ‹_›
      exact PySem.W.kia_one PySem.W.kitx_dict KI ⟨o,h1,h2.1⟩ (hh _ (by simp)) (fun z=>nomatch z) fin
     ·split at e<;>cases e
      obtain ⟨a,its,rfl,⟨n,y⟩,z,r⟩:=I.sq r (iR ‹_›)
      exact PySem.W.kia_one PySem.W.kitx_list KI ⟨_,y,rfl⟩ (hh _ (by simp)) (fun z=>nomatch z) fin
   ·exact k.elim
  ·exact k.elim
 ·exact k.elim
theorem JB:OpC X (.type "str") Ef:=fun ok {w h p u Q E} I rs k=>by
 unfold Ef at k
 split at k
 ·obtain ⟨u,rfl,r⟩:=rs.one
  cases r
  split at k
  ·exact PySem.P.str_of_int ‹_› (k.now I.toHR (by have:= @aX.str X.toSC w.F w.m (pF ‹_›) w.s.toks;rw [pF,Lg] at this;exact this))
  ·exact k.elim
 ·exact k.elim
theorem qu:OpC X (.type "int") rc:=fun ok {w h p u Q E} I rs k=>by
 unfold rc at k
 split at k
 ·obtain ⟨u,rfl,r⟩:=rs.one
  cases r
  exact call_int_int (k.here I.toHR (.int _ _))
 ·obtain ⟨u,rfl,r⟩:=rs.one
  cases r
  exact call_int_bool (k.now I.toHR (.int _ _))
 ·exact k.elim
theorem JI:OpC X (.builtin "abs") Ei:=fun ok {w h p u Q E} I rs k=>by
 unfold Ei at k
 split at k
 ·obtain ⟨u,rfl,r⟩:=rs.one
  cases r
  exact call_abs_int fun u tk=>k.now I.toHR (.int _ _)
 ·exact k.elim
theorem JC(hc:X.calm=true):OpC X (.builtin "max") Eg:=fun ok {w h p u Q E} I rs k=>by
 unfold Eg at k
 split at k
 ·obtain ⟨u,v,rfl,r,r2⟩:=rs.two
  cases r;cases r2
  refine max_two_ints (ok.hd hc) fun h' tk kp=>?_
  have n:=Nw.also (X:=X) (s':= { w.s with heap:=h',toks:=tk }) I.toHR kp
  refine k.2 _ _ n ?_
  split
  ·exact .int _ _
  ·exact .int _ _
 ·exact k.elim
end
end Z
namespace L2
open PySem PySem.Spec PyProof.Rows
theorem mc:plainId "dict.update.loop"=true:=by decide+kernel
theorem ur:entryFor table "dict.update.loop"=some Builtin.«dict.update.loop» :=entryFor_of_tree (by kernel_rfl)
section
variable {prog:Program} {w:World} {κ:Type} [DecidableEq κ] {knd:KeyKind prog w κ} {A:Around} {R:Result→Shared→Prop} {E:Value→Shared→Prop}
inductive Prs(knd:KeyKind prog w κ)(h:Heap):List Value→List (κ×Value)→Prop where
 | nil:Prs knd h [] []
 | cons {a:Addr} {k' v:Value} {k:κ} {us:List Value} {kvs:List (κ×Value)} (t:IsTup h a #[k',v]) (kk:knd.is k k'=true) (r:Prs knd h us kvs):Prs knd h (.ref a::us) ((k,v)::kvs)
theorem zv{s:Shared}{a:Addr}{x y:Value}{Q:List Value→Shared→Prop}(t:IsTup s.heap a #[x,y])(q:Q [x,y] s):wpAny (model prog w) A (Builtin.Dict.pairItems (.ref a)) Q E s:=by
 obtain ⟨o,ho,hc,n,hd⟩:=t
 have ty:s.TypeIs (.ref a) "tuple":=⟨o,ho,hc⟩
 unfold Builtin.Dict.pairItems
 refine wpAny_bind (wpAny_typeOf ty ?_)
 wp_walk
 rw [hd]
 exact wpAny_pure (wpAny_pure q)
theorem wO{h0:Heap}{D I l:Addr}{us:List Value}(hh:A.handled=none)(hD:h0.objs.size≤D)(hI:h0.objs.size≤I)(ne:D≠I)(hl:h0.IsList l us.toArray):
  ∀ (rest:List Value) (kvs:List (κ×Value)) (i:Nat) (s:Shared) (cur:List (κ×Value)),us.drop i=rest→Prs knd h0 rest kvs→(∀ b o,h0.get? b=some o→s.heap.get? b=some o)→s.heap.IsListIter I l i→s.heap.DictOf knd D cur→cur.length+rest.length≤sizeLine→
   (∀ h' tk,(∀ b o,h0.get? b=some o→h'.get? b=some o)→h'.DictOf knd D (merged cur kvs)→R (.ok (.ret .none)) { s with heap:=h',toks:=tk })→
   codeAny (model prog w) A (.builtin "dict.update.loop" ⟨[.ref D,.ref I,rawInt i,.none],[]⟩) R s:=by
 have nI:∀ b o,h0.get? b=some o→b≠I:=fun b o q z=>Nat.lt_irrefl _ (Nat.lt_of_lt_of_le (Heap.lt_size q) (z▸hI))
 have nD:∀ b o,h0.get? b=some o→b≠D:=fun b o q z=>Nat.lt_irrefl _ (Nat.lt_of_lt_of_le (Heap.lt_size q) (z▸hD))
 intro rest
 induction rest with
 | nil=>
  intro kvs i s cur e p kp it d z hR
  cases p
  refine codeAny_builtin ur ?_
  rw [Around.under_plainId mc _]
  unfold Builtin.«dict.update.loop»
  dsimp only
  refine wpAny_bind (wpAny_pyNext_list_end hh it (hl.at fun o q=>kp _ o q) ?_ fun h' x=>?_)
  ·rw [List.getElem?_toArray]
   have:=congrArg List.length e
   rw [List.length_drop] at this
   exact List.getElem?_eq_none (by simp at this;omega)
  ·have kd:∀ b o,h0.get? b=some o→h'.get? b=some o:=fun b o q=>x b o (nI b o q) (kp b o q)
   exact wpAny_bind (wpAny_pure (wpAny_pure (hR h' s.toks kd (d.extBut x ne))))
 | cons u rest ih=>
  intro kvs i s cur e p kp it d z hR
  cases p with
  | @cons a k' v k _ kvs t kk r=>
   refine codeAny_builtin ur ?_
   rw [Around.under_plainId mc _]
   unfold Builtin.«dict.update.loop»
   dsimp only
   refine wpAny_bind (wpAny_pyNext_list_item it (hl.at fun o q=>kp _ o q) (x:=.ref a) ?_ fun h' it' sb=>?_)
   ·rw [List.getElem?_toArray,← List.head?_drop,e];rfl
   ·have k1:∀ b o,h0.get? b=some o→h'.get? b=some o:=fun b o q=>(sb.2 b (nI b o q)).trans (kp b o q)
    refine wpAny_bind (wpAny_holding (wpAny_bind (wpAny_tryCatch (zv (t.keeps k1) ?_))))
    rw [List.length_cons] at z
    refine wpAny_holding (wpAny_dictSet_pairs (hsz:=by omega) kk (d.sameBut sb ne) fun h2 d2 s2=>?_)
    have k2:∀ b o,h0.get? b=some o→h2.get? b=some o:=fun b o q=>(s2.2 b (nD b o q)).trans (k1 b o q)
    refine wpAny_pure ⟨plainId_quiet mc _,?_⟩
    have ln:(stored cur k v).length≤cur.length+1:=by
     have:=merged_length_le cur [(k,v)]
     exact this
    have e':us.drop (i+1)=rest:=by rw [← List.drop_drop,e];rfl
    exact ih kvs (i+1) _ (stored cur k v) e' r k2 (it'.at fun o q=>(s2.2 I ne.symm).trans q) d2 (by omega) fun h3 tk k3 d3=>hR h3 tk k3 d3
theorem xh:typeLookup (.type "list") "keys"=pure none:=by rw [typeLookup_type,builtinLookup_eq_fast];kernel_rfl
theorem Am{s:Shared}{l:Addr}{xs:Array Value}{c:Nat}{sl:Array (Option Value)}{u:Tok}(hh:A.handled=none)(hl:s.heap.get? l=some { cls:=.type "list",dict:=none,data:=.seq xs c,slots:=sl })
  (h:∀ h' tk e,Heap.NewAttrErr s.heap h' e (.ref l) "keys"→R (.error (.ref e)) { s with heap:=h',toks:=tk }):codeAny (model prog w) A (.call (.builtin "list.__getattribute__") ⟨[.ref l,.str "keys" u],[]⟩) R s:=
 codeAny_call_builtin PySem.F.slot_list_getattribute.plain am_entry_list_getattribute (PySem.F.slot_list_getattribute.check _ _ _ _ _ _ _ _ ⟨_,hl,rfl⟩ (PySem.F.args_list_getattribute_2 _ _) (meets_getattribute_miss_list l xs c sl "keys" u xh (by decide+kernel) (by size_fits) prog w A R s ⟨hl,hh,h⟩))
theorem Ey{s:Shared}{l:Addr}{o:Obj}{xs:Array Value}{c:Nat}{Q:Option Value→Shared→Prop}(hh:A.handled=none)(hl:s.heap.get? l=some o)(hc:o.cls= .type "list")(hd:o.data= .seq xs c)(hn:o.dict=none)
  (hQ:∀ h' tk,(∀ b o,s.heap.get? b=some o→h'.get? b=some o)→Q none { s with heap:=h',toks:=tk }):wpAny (model prog w) A (getAttr? (.ref l) "keys") Q E s:=by
 obtain ⟨c0,dct,dat,sl⟩:=o
 simp only at hc hd hn
 subst hc hd hn
 obtain ⟨hp,g,d,tk,os⟩:=s
 have ty:∀ tk',(⟨hp,g,d,tk',os⟩:Shared).TypeIs (.ref l) "list":=fun _=>⟨_,hl,rfl⟩
 have t1:=ty (tk+1)
 have f1:=sub_AttributeError
 have f3:=PySem.F.slot_list_getattribute.lookup
 have f4:=PySem.F.slot_list_getattribute.bind (.ref l)
 have f5:=am_list_getattr_none
 unfold getAttr? getAttrBy? getAttrBy getAttrByItsOwn
 wp_walk
 refine Am hh hl fun h2 t2 e x=>?_
 obtain ⟨t3,u3,he⟩:=x.there
 dsimp only
 unfold getattributeRaised
 wp_walk
 exact hQ h2 t2 x.keeps
theorem xP{s:Shared}{l:Addr}{o:Obj}{us:List Value}{c:Nat}{kvs:List (κ×Value)}{Q:Value→Shared→Prop}(hh:A.handled=none)(hl:s.heap.get? l=some o)(hc:o.cls= .type "list")(hd:o.data= .seq us.toArray c)(hn:o.dict=none)(p:Prs knd s.heap us kvs)(hz:us.length≤sizeLine)
  (hQ:∀ h' tk,(∀ b o,s.heap.get? b=some o→h'.get? b=some o)→h'.DictOf knd s.heap.objs.size (merged [] kvs)→Q (.ref s.heap.objs.size) { s with heap:=h',toks:=tk }):
  wpAny (model prog w) A (call (.type "dict") [.ref l]) Q E s:=by
 refine callType_codes (Q₁:=fun v t=>v= .ref s.heap.objs.size∧t= { s with heap:=s.heap.push { cls:=.type "dict",data:=.dict #[] } }) PySem.F.kt_called_dict (PySem.F.kt_typeCall_dict_1 _) PySem.F.entry_dict_init (kt_code_dict_new _ ⟨rfl,rfl⟩) ?_
 rintro v t ⟨rfl,rfl⟩
 have new:(s.heap.push { cls:=.type "dict",data:=.dict #[] }).DictOf knd s.heap.objs.size []:=Heap.DictOf.new s.heap
 refine ⟨new.typeIs,PySem.F.args_dict_init_2 _ _,?_⟩
 have kp:∀ b q,s.heap.get? b=some q→(s.heap.push { cls:=.type "dict",data:=.dict #[] }).get? b=some q:=fun b q e=>Heap.get?_push_of_some _ e
 have ty:({ s with heap:=s.heap.push { cls:=.type "dict",data:=.dict #[] } }:Shared).TypeIs (.ref l) "list":=⟨o,kp _ _ hl,hc⟩
 unfold Builtin.«dict.__init__» Builtin.Dict.selfAndRest
 refine wpAny_bind (wpAny_bind (wpAny_notOrdered_dict new.typeIs ?_))
 dsimp only
 refine wpAny_bind (wpAny_pure (wpAny_pure ?_))
 unfold Builtin.Dict.updateCommon Builtin.Dict.updateFrom
 dsimp only
 refine wpAny_bind (wpAny_typeOf ty ?_)
 refine wpAny_ite_true (by decide) (wpAny_bind (Ey (A:=A.in1.in1) hh (kp _ _ hl) hc hd hn fun h1 t1 k1=>?_))
 refine wpAny_ite_true rfl (wpAny_bind (wpAny_rule ?_))
 have k2:∀ b q,s.heap.get? b=some q→h1.get? b=some q:=fun b q e=>k1 b q (kp b q e)
 have l1:h1.IsList l us.toArray:=⟨o,k2 _ _ hl,hc,c,hd⟩
 have new1:h1.DictOf knd s.heap.objs.size []:=by obtain ⟨q,es,ep,hq,rest⟩:=new;exact ⟨q,es,ep,k1 _ _ hq,rest⟩
 have lt:s.heap.objs.size<h1.objs.size:=by obtain ⟨q,es,ep,hq,rest⟩:=new1;exact Heap.lt_size hq
 refine wpAny_bind (wpAny_pyIter_list (s:= { s with heap:=h1,toks:=t1 }) l1 ?_)
 refine wpAny_pure ⟨plainId_quiet mc _,?_⟩
 refine wO (A:=A.in1) (h0:=s.heap) (I:=h1.objs.size) hh (Nat.le_refl _) (Nat.le_of_lt lt) (Nat.ne_of_lt lt) ⟨o,hl,hc,c,hd⟩ us kvs 0 _ [] rfl p (fun b q e=>Heap.get?_push_of_some _ (k2 b q e)) ⟨_,Heap.get?_push_size _ rfl,rfl,rfl⟩ (new1.push _) (by simpa using hz) fun h3 t3 k3 d3=>?_
 exact ⟨rfl,hQ h3 t3 k3 d3⟩
end
end L2
namespace L3
open PySem
def cg(kvs:List (PK×PV))(k:PK)(v:PV):List (PK×PV):=
 if (kvs.any fun kv=>decide (kv.1=k))=true then kvs.map (fun kv=>if kv.1=k then (kv.1,v) else kv) else kvs++ [(k,v)]
def mkD(ps:List (PK×PV)):List (PK×PV):=ps.foldl (fun acc kv=>cg acc kv.1 kv.2) []
def kr:List (Ex×Ex)→Ev→List PO→Res (List (PK×PV))
 | [],_,h=>.ok [] h
 | (a,b)::r,ρ,h=>(a ρ h).bind fun x h1=>(b ρ h1).bind fun y h2=>match jZ x with
  | some k=>(kr r ρ h2).bind fun ps h3=>.ok ((k,y)::ps) h3
  | none=>.bad
def eZ(fs:List (Ex×Ex)):Ex:=fun ρ h=>(kr fs ρ h).bind fun ps h1=>.ok (.dct (mkD ps)) h1
def qM:Ex:=fun _ h=>.ok (.ref h.length) (h++ [.dct []])
def qo(ps:List PV)(h:List PO):Res PV:=match ps with
 | [p]=>match dcR h p with
  | some kps=>.ok (.ref h.length) (h++ [.dct kps])
  | none=>.bad
 | _=>.bad
def ym:List PV→Option (List (PK×PV))
 | []=>some []
 | .tup [k,v]::r=>match jZ k,ym r with
  | some kk,some l=>some ((kk,v)::l)
  | _,_=>none
 | _=>none
def lM(ps:List PV)(h:List PO):Res PV:=match ps with
 | [p]=>match lsR h p with
  | some xs=>match ym xs with
   | some l=>.ok (.ref h.length) (h++ [.dct (mkD l)])
   | none=>.bad
  | none=>.bad
 | _=>.bad
end L3
namespace Z
open PySem PySem.Spec PyProof.Rows L3 L2
section
variable {G:SC} {F:Fz} {m:List Addr} {kps:List (PK×PV)} {kvs:List (PK×Value)}
def RK(G:SC)(F:Fz)(m:List Addr)(kps:List (PK×PV))(kvs:List (PK×Value)):Prop:=kvs.map (·.1)=kps.map (·.1)∧av G F m (kps.map (·.2)) (kvs.map (·.2))
theorem RK.length(r:RK G F m kps kvs):kvs.length=kps.length:=by have:=congrArg List.length r.1;simpa using this
theorem RK.mono{F':Fz}{m':List Addr}(r:RK G F m kps kvs)(hF:∀ a o,F a=some o→F' a=some o)(hm:Sub m m'):RK G F' m' kps kvs:=⟨r.1,r.2.mono hF (.inr hm)⟩
theorem RK.any(k:PK):∀ {kps:List (PK×PV)} {kvs:List (PK×Value)},kvs.map (·.1)=kps.map (·.1)→(kvs.any fun kv=>decide (kv.1=k))=kps.any fun kv=>decide (kv.1=k)
 | [],[],_=>rfl
 | [],_::_,h=>by simp at h
 | _::_,[],h=>by simp at h
 | a::r,b::t,h=>by simp only [List.map_cons,List.cons.injEq] at h;simp only [List.any_cons,h.1,RK.any k h.2]
theorem RK.repl{k:PK}{p:PV}{v:Value}(r:aX G F m p v):∀ {kps:List (PK×PV)} {kvs:List (PK×Value)},RK G F m kps kvs→RK G F m (kps.map fun kv=>if kv.1=k then (kv.1,p) else kv) (kvs.map fun kv=>if kv.1=k then (kv.1,v) else kv)
 | [],[],h=>h
 | [],_::_,h=>by have:=h.1;simp at this
 | _::_,[],h=>by have:=h.1;simp at this
 | (k1,a)::t,(k2,b)::t',⟨h1,h2⟩=>by
  simp only [List.map_cons,List.cons.injEq] at h1
  obtain ⟨rfl,h1⟩:=h1
  cases h2 with
  | cons x y=>
   obtain ⟨i1,i2⟩:=RK.repl r ⟨h1,y⟩
   simp only [List.map_cons]
   by_cases z:k2=k
   ·simp only [z,if_true];exact ⟨by simp [i1],.cons r i2⟩
   ·simp only [z,if_false];exact ⟨by simp [i1],.cons x i2⟩
theorem RK.put{k:PK}{p:PV}{v:Value}(h:RK G F m kps kvs)(r:aX G F m p v):RK G F m (cg kps k p) (stored kvs k v):=by
 unfold cg stored
 rw [RK.any k h.1]
 split
 ·exact h.repl r
 ·exact ⟨by rw [List.map_append,List.map_append,h.1];rfl,by rw [List.map_append,List.map_append];exact h.2.app (.cons r .nil)⟩
theorem RK.merge:∀ {more:List (PK×PV)} {mv:List (PK×Value)} {kps:List (PK×PV)} {kvs:List (PK×Value)},RK G F m more mv→RK G F m kps kvs→RK G F m (more.foldl (fun acc kv=>cg acc kv.1 kv.2) kps) (merged kvs mv)
 | [],[],_,_,_,h=>h
 | [],_::_,_,_,h,_=>by have:=h.1;simp at this
 | _::_,[],_,_,h,_=>by have:=h.1;simp at this
 | (k1,p1)::more,(k2,v2)::mv,kps,kvs,⟨h1,h2⟩,h=>by
  simp only [List.map_cons,List.cons.injEq] at h1 h2
  obtain ⟨rfl,h1⟩:=h1
  cases h2 with
  | cons a b=>show RK G F m (more.foldl _ (cg kps k2 p1)) (merged (stored kvs k2 v2) mv);exact RK.merge ⟨h1,b⟩ (h.put a)
theorem pG(k:PK)(v:Value):(stored kvs k v).length≤kvs.length+1:=by unfold stored;split<;>simp
theorem lS:∀ (mv:List (PK×Value)) (kvs:List (PK×Value)),(merged kvs mv).length≤kvs.length+mv.length
 | [],_=>Nat.le_refl _
 | (k,v)::mv,kvs=>by
  have:=lS mv (stored kvs k v)
  have:=pG (kvs:=kvs) k v
  show (merged (stored kvs k v) mv).length≤_
  simp;omega
end
section
variable {X:Cx} {w w1:Wo} {ρ:Ev} {h:List PO} {kps:List (PK×PV)} {kvs:List (PK×Value)} {s':Shared} {Q:Value→Shared→Prop} {E:Value→Shared→Prop} {a:Addr} {o:Obj} {pos:Pos}
theorem Wd.big(I:Wd X w h)(ok:X.Ok):(w.s.heap.objs.size==sysModules)=false:=by
 obtain ⟨o,es,ep,e,_⟩:=ok.gl
 have:=Heap.lt_size (I.bk e)
 exact beq_eq_false_iff_ne.mpr fun z=>absurd (z▸this) (by decide)
theorem bH.dm(p:bH X (RV X.toSC) w Q E (.ok (.ref h.length) (h++ [.dct kps])))(I:Wd X w h)(ok:X.Ok)(k:∀ b o,w.s.heap.get? b=some o→s'.heap.get? b=some o)(d:s'.heap.DictOf (pk X.prog X.w) w.s.heap.objs.size kvs)(z:kvs.length≤sizeLine)(r:RK X.toSC w.F w.m kps kvs)(ho:s'.os=w.s.os:=by rfl)(hg:s'.gens=w.s.gens:=by rfl):Q (.ref w.s.heap.objs.size) s':=by
 obtain ⟨o,es,ep,e1,e2,e3⟩:=d
 have sb:Sub w.m (w.m++ [w.s.heap.objs.size]):=fun i b e=>by rw [List.getElem?_append_left (List.getElem?_eq_some_iff.mp e).1];exact e
 exact p.2 _ _ (Nw.mk I.toHR (aM _) k ⟨(I.toHR.free (aM _)).2.1,o,kvs,e1,⟨e2,es,ep,e3⟩,I.big ok,z,r.1,(r.mono (fun _ _ e=>e) sb).2⟩ (fun _ _ e=>e) (fun _ _ e=>.inl e) ho hg) (.ref (by rw [I.len];simp))
theorem Nw.priv{o2:Obj}(n:Nw X w w1 h)(na:w.s.heap.get? a=none)(ha:Has w1 a o2)(sb:Heap.SameBut a w1.s.heap s'.heap)(e:s'.heap.get? a=some o)(ho:s'.os=w1.s.os:=by rfl)(hg:s'.gens=w1.s.gens:=by rfl):Nw X w { w1 with s:=s' } h∧Has { w1 with s:=s' } a o:=by
 have on:∀ b o,b≠a→w1.s.heap.get? b=some o→s'.heap.get? b=some o:=fun b o z e=>(sb.2 b z).trans e
 have ne:∀ {b o},w.s.heap.get? b=some o→b≠a:=fun q z=>by rw [z,na] at q;cases q
 refine ⟨⟨⟨ho.trans n.1.os,fun q=>hg▸n.1.ba q,n.1.fz,n.1.ow,n.1.pre,fun b o e=>let ⟨o',q⟩:=n.1.dom b o e;⟨o',on b o' (ne e) q⟩,fun b o q z=>let ⟨sl,q',z⟩:=n.1.keep b o q z;⟨sl,⟨on b _ (ne q.1) q'.1,q'.2⟩,z⟩⟩,n.2.on fun b o e z=>on b o (fun y=>z (y▸ha.2)) e⟩,e,ha.2⟩
theorem Nw.track{po:PO}(n:Nw X w w1 h)(na:w.s.heap.get? a=none)(ha:Has w1 a o)(q:qO X.toSC w1.F (w1.m++ [a]) w1.O w1.s.heap a po):Nw X w ⟨w1.F,w1.O,w1.m++ [a],w1.s⟩ (h++ [po]):=by
 have H:=n.2
 have ne:∀ {b o},w.s.heap.get? b=some o→b≠a:=fun q z=>by rw [z,na] at q;cases q
 have sb:Sub w1.m (w1.m++ [a]):=fun i b e=>by rw [List.getElem?_append_left (List.getElem?_eq_some_iff.mp e).1];exact e
 refine ⟨⟨n.1.os,n.1.ba,n.1.fz,n.1.ow,let ⟨t,e⟩:=n.1.pre;⟨t++ [a],by rw [e,List.append_assoc]⟩,n.1.dom,fun b o q z=>let ⟨sl,q',z⟩:=n.1.keep b o q z;⟨sl,⟨q'.1,fun y=>(List.mem_append.mp y).elim q'.2.1 fun y=>ne q.1 (by simpa using y),q'.2.2⟩,z⟩⟩,H.sub,fun d b e=>let ⟨x,z,y⟩:=H.own d b e;⟨x,fun q'=>(List.mem_append.mp q').elim z fun q'=>(by simp at q';rw [q',ha.2.2.2] at e;cases e),y⟩,by simp [H.len],List.nodup_append.mpr ⟨H.nd,by simp,fun x hx y hy z=>ha.2.1 (by simp at hy;rw [← hy,← z];exact hx)⟩,fun i ob b e1 e2=>?_⟩
 rcases Nat.lt_or_ge i h.length with l | l
 ·rw [List.getElem?_append_left l] at e1
  rw [List.getElem?_append_left (H.len▸l)] at e2
  exact (H.obj i ob b e1 e2).on (fun _ _ e=>e) (fun _ e=>e) sb (fun _ _ e _=>e) id
 ·rw [List.getElem?_append_right l] at e1
  rw [List.getElem?_append_right (H.len▸l),← H.len] at e2
  cases z:i - h.length with
  | zero=>rw [z] at e1 e2;cases e1;cases e2;exact q
  | succ _=>rw [z] at e1;simp at e1
theorem oO:RE X (.Dict [] [] pos) qM:=⟨fun {w ρ h Q E} I p=>wpAny_Dict_empty (bH.dm p I.toWd I.ok (fun _ _ e=>Heap.get?_push_of_some _ e) (Heap.DictOf.new _) (Nat.zero_le _) ⟨rfl,.nil⟩)⟩
theorem uF:RE X (.Dict [] [] pos) (cK (.dct [])):=⟨fun {w ρ h Q E} I p=>wpAny_Dict_empty (by
 obtain ⟨o,es,ep,e1,e2,e3⟩:(w.s.heap.push { cls:=.type "dict",data:=.dict #[] }).DictOf (pk X.prog X.w) w.s.heap.objs.size []:=Heap.DictOf.new _
 exact p.2 _ _ (Nw.lay (s':= { w.s with heap:=w.s.heap.push { cls:=.type "dict",data:=.dict #[] } }) I.toHR (aM _) (fun _ _ e=>Heap.get?_push_of_some _ e) e1) (.dct (kvs:= []) bu ⟨e2,es,ep,e3⟩ (I.big I.ok) (Nat.zero_le _) rfl .nil))⟩
theorem yx:OpC X (.type "dict") qo:=fun ok {w h p u Q E} I rs k=>by
 unfold qo at k
 split at k
 ·obtain ⟨u,rfl,r⟩:=rs.one
  split at k
  ·obtain ⟨a,kvs,rfl,y,d,r⟩:=I.dc r ‹_›
   exact kt_call_dict y d r.1 fun h' dd' hs=>bH.dm k I ok (fun b q hq=>(hs.2 b (Nat.ne_of_lt (Heap.lt_size hq))).trans (Heap.get?_push_of_some _ hq)) dd' r.1 r.2
  ·exact k.elim
 ·exact k.elim
theorem BH(H:HR X.toSC w h):∀ {xs:List PV} {us:List Value} {l:List (PK×PV)},av X.toSC w.F w.m xs us→ym xs=some l→∃ kvs,Prs (pk X.prog X.w) w.s.heap us kvs∧RK X.toSC w.F w.m l kvs
 | [],_,_,.nil,e=>by cases e;exact ⟨[],.nil,rfl,.nil⟩
 | x::r,_,l,.cons r1 t,e=>by
  unfold ym at e
  split at e
  ·rename_i q;cases q
  ·rename_i q
   cases q
   split at e<;>cases e
   obtain ⟨kvs,p,rk⟩:=BH H t ‹_›
   obtain ⟨a,its,rfl,y,z,rr⟩:=H.sq r1 rfl
   obtain ⟨u,v,e,ru,rv⟩:=rr.two
   have:its= #[u,v]:=by cases its;cases e;rfl
   subst this
   exact ⟨_::kvs,.cons y.tup (lU ru ‹_›) p,by simp [rk.1],.cons rv rk.2⟩
  ·cases e
theorem Ea{us:List Value}(p:Prs (pk X.prog X.w) w.s.heap us kvs):kvs.length=us.length:=by
 induction p with
 | nil=>rfl
 | cons _ _ _ ih=>simp [ih]
theorem yw(hc:X.calm=true):OpC X (.type "dict") lM:=fun ok {w h p u Q E} I rs k=>by
 unfold lM at k
 split at k
 ·obtain ⟨u,rfl,r⟩:=rs.one
  split at k
  ·split at k
   ·obtain ⟨a,its,rfl,⟨n,y⟩,z,r⟩:=I.sq r (iR ‹_›)
    obtain ⟨kvs,pm,rk⟩:=BH I.toHR r ‹_›
    have l2:=Ea pm
    refine xP (us:=its.toList) (ok.hd hc) y rfl rfl rfl pm z fun h' tk kp d=>bH.dm k I ok kp d ?_ (RK.merge rk ⟨rfl,.nil⟩)
    exact Nat.le_trans (lS _ _) (by simp;rw [l2];exact z)
   ·exact k.elim
  ·exact k.elim
 ·exact k.elim
structure RPs(X:Cx)(pos:Pos)(keys:List (Option Expr))(values:List Expr)(fs:List (Ex×Ex)):Prop where
 r:∀ {w:Wo} {ρ:Ev} {h:List PO} {Q:List (Value×Value)→Shared→Prop} {E:Value→Shared→Prop},Inv X w ρ h→bH X (fun w ps vs=>∃ kvs,Carries (pk X.prog X.w) vs kvs∧RK X.toSC w.F w.m ps kvs∧kvs.length=keys.length) w Q E (kr fs ρ h)→Wp X (evalPairs (pairTrees keys values X.env pos)) Q E w.s
theorem cT:RPs X pos [] [] []:=⟨fun I p=>pairTrees_nil_walk (p.here I.toHR ⟨[],trivial,⟨rfl,.nil⟩,rfl⟩)⟩
theorem bT{k v:Expr}{fa fb:Ex}{keys:List (Option Expr)}{values:List Expr}{fs:List (Ex×Ex)}(hk:RE X k fa)(hv:RE X v fb)(hr:RPs X pos keys values fs):RPs X pos (some k::keys) (v::values) ((fa,fb)::fs):=⟨fun I p=>pairTrees_cons_walk (hk.r I (p.bind fun _ _ x _ y1 r1 p=>hv.r (I.on y1) (p.bind fun _ _ _ _ y2 r2 p=>by
 split at p
 ·refine hr.r ((I.on y1).on y2) (p.bind fun _ _ _ _ y3 ⟨kvs,c,rk,l⟩ p=>p.here y3.2 ⟨(_,_)::kvs,⟨lU (y2.1.rep r1) ‹_›,rfl,c⟩,⟨by simp [rk.1],.cons (y3.1.rep r2) rk.2⟩,by simp [l]⟩)
 ·exact p.elim)))⟩
theorem LV{keys:List (Option Expr)}{values:List Expr}{fs:List (Ex×Ex)}{k:List (PK×PV)→List PO→Res PV}(hr:RPs X pos keys values fs)(hall:keys.all (·.isSome)=true)(hl:keys.length=values.length)(h0:keys≠ [])(h15:keys.length≤15)
  (go:∀ {w w2:Wo} {h2:List PO} {a:Addr} {ps:List (PK×PV)} {kvs:List (PK×Value)} {o:Obj} {Q:Value→Shared→Prop} {E:Value→Shared→Prop},Nw X w w2 h2→w.s.heap.get? a=none→(a==sysModules)=false→Has w2 a o→DO X.toSC o kvs→kvs.length≤sizeLine→RK X.toSC w2.F w2.m (mkD ps) kvs→bH X (RV X.toSC) w Q E (k ps h2)→Q (.ref a) w2.s):RE X (.Dict keys values pos) (fun ρ h=>(kr fs ρ h).bind k):=⟨fun {w ρ h Q E} I p=>wpAny_Dict_walk (knd:=pk X.prog X.w) hall hl h0 h15 (by
 have n1:=Nw.also (X:=X) (s':= { w.s with heap:=w.s.heap.push { cls:=.type "dict",data:=.dict #[] } }) I.toHR fun _ _ e=>Heap.get?_push_of_some _ e
 refine hr.r (I.on n1) ?_
 cases e:kr fs ρ h with
 | bad=>rw [e] at p;exact p
 | exc _ _=>rw [e] at p;exact ⟨p.1,fun w' u y r=>p.2 w' u (n1.trans y) (r.back n1.1)⟩
 | ok ps h2=>
  rw [e] at p
  refine ⟨p.ep,fun w2 vs y ⟨kvs,c,rk,l⟩=>?_⟩
  have na:=aM w.s.heap
  have z:w.s.heap.objs.size∉X.fs:=fun z=>by obtain ⟨o,q,_⟩:=I.fr _ z;have q:=q.1;rw [na] at q;cases q
  obtain ⟨sl,ha,zz⟩:=y.1.keep w.s.heap.objs.size _ ⟨Heap.get?_push_size _ rfl,I.toHR.free na⟩ fun z=>z
  cases zz.resolve_left z
  obtain ⟨o,es,ep,e1,e2⟩:(w.s.heap.push { cls:=.type "dict",data:=.dict #[] }).DictOf (pk X.prog X.w) w.s.heap.objs.size []:=Heap.DictOf.new _
  rw [Heap.get?_push_size _ rfl] at e1
  cases e1
  refine ⟨kvs,c,⟨_,es,ep,ha.1,e2⟩,fun h' ⟨o',es',ep',g1,g2⟩ sb=>?_⟩
  obtain ⟨n3,ha3⟩:=Nw.priv (s':= { w2.s with heap:=h',toks:=w2.s.toks+vs.length }) (n1.trans y) na ha sb g1
  exact go n3 na (I.big I.ok) ha3 ⟨g2.1,es',ep',g2.2⟩ (Nat.le_trans (lS _ _) (by rw [sizeLine_eq];simp;omega)) (RK.merge rk ⟨rfl,.nil⟩) p)⟩
theorem cU{keys:List (Option Expr)}{values:List Expr}{fs:List (Ex×Ex)}(hr:RPs X pos keys values fs)(hall:keys.all (·.isSome)=true:=by rfl)(hl:keys.length=values.length:=by rfl)(h0:keys≠ []:=by intro z;cases z)(h15:keys.length≤15:=by decide):RE X (.Dict keys values pos) (eZ fs):=LV hr hall hl h0 h15 fun {w w2 h2 a ps kvs o Q E} n na sm ha d z r p=>p.2 ⟨iw w2.F a o,w2.O,w2.m,w2.s⟩ _ (n.freeze na ha) (.dct bu d sm z r.1 (r.mono (cP ha.2.2.1) fun _ _ e=>e).2)
end
end Z
namespace L3
open PySem L2
def rU(h:List PO):PV→Option (Nat×List PV)
 | .ref i=>match h[i]? with
  | some (.lst xs)=>some (i,xs)
  | _=>none
 | _=>none
def jH(h:List PO):PV→Option (Nat×List (PK×PV))
 | .ref i=>match h[i]? with
  | some (.dct kvs)=>some (i,kvs)
  | _=>none
 | _=>none
def nq(v o i:PV)(ρ:Ev)(h:List PO):SR:=match rU h o,i with
 | some (n,xs),.int k=>match ixN xs.length k with
  | some j=>.nx ρ (h.set n (.lst (xs.set j v)))
  | none=>.bad
 | _,_=>.bad
def tm(fo fi fv:Ex):Sx:=fun ρ h=>eH (fv ρ h) fun v h1=>eH (fo ρ h1) fun o h2=>eH (fi ρ h2) fun i h3=>nq v o i ρ h3
def pP(v o i:PV)(ρ:Ev)(h:List PO):SR:=match jH h o,jZ i with
 | some (n,kps),some k=>if kps.length<sizeLine then .nx ρ (h.set n (.dct (cg kps k v))) else .bad
 | _,_=>.bad
def nV(fo fi fv:Ex):Sx:=fun ρ h=>eH (fv ρ h) fun v h1=>eH (fo ρ h1) fun o h2=>eH (fi ρ h2) fun i h3=>pP v o i ρ h3
def fzP(h:List PO)(p:PV):Option (PV×List PO):=match jH h p with
 | some (i,kvs)=>if aI kvs=true then some (.dct kvs,h.set i (.froz (.dct kvs))) else none
 | none=>fR h p
def fzR(p:PV)(h:List PO):Res PV:=match fzP h p with
 | some (q,h2)=>.ok q h2
 | none=>.bad
def cFz(f:Ex):Ex:=fun ρ h=>(f ρ h).bind fzR
def cM(recv:List PO→PV→Bool)(g:PV→List PV→List PO→Res PV)(o:Ex)(as:Ax):Ex:=fun ρ h=>(o ρ h).bind fun p h1=>if recv h1 p=true then (as ρ h1).bind fun ps h2=>g p ps h2 else .bad
def iH(p:PV)(ps:List PV)(h:List PO):Res PV:=match ps with
 | [q]=>match rU h p with
  | some (i,xs)=>if xs.length<sizeLine then .ok .non (h.set i (.lst (xs++ [q]))) else .bad
  | none=>.bad
 | _=>.bad
end L3
namespace Z
open PySem PySem.Spec PyProof.Rows L3 L2
section
variable {G:SC} {X:Cx} {w w1:Wo} {ρ:Ev} {h:List PO} {p:PV} {u:Value} {i:Nat} {ps:List PV} {kps:List (PK×PV)} {a:Addr} {o:Obj}
theorem HR.ll(H:HR G w h)(r:aX G w.F w.m p u)(k:rU h p=some (i,ps)):∃ a its n,u= .ref a∧w.m[i]? =some a∧w.F a=none∧w.s.heap.get? a=some { cls:=.type "list",data:=.seq its n }∧its.size≤sizeLine∧av G w.F w.m ps its.toList:=by
 unfold rU at k
 split at k
 ·split at k<;>cases k
  rename_i q
  cases r with
  | ref e=>obtain ⟨f,its,n,g,z,r⟩:=H.obj _ _ _ q e;exact ⟨_,its,n,rfl,e,f,g,z,r⟩
 ·cases k
theorem HR.ld(H:HR G w h)(r:aX G w.F w.m p u)(k:jH h p=some (i,kps)):∃ a o kvs,u= .ref a∧w.m[i]? =some a∧w.F a=none∧(a==sysModules)=false∧w.s.heap.get? a=some o∧DO G o kvs∧kvs.length≤sizeLine∧RK G w.F w.m kps kvs:=by
 unfold jH at k
 split at k
 ·split at k<;>cases k
  rename_i q
  cases r with
  | ref e=>obtain ⟨f,o,kvs,g,d,y,z,c,r⟩:=H.obj _ _ _ q e;exact ⟨_,o,kvs,rfl,e,f,y,g,d,z,c,r⟩
 ·cases k
theorem av.set{F:Fz}{m:List Addr}{x:PV}{u:Value}(r:aX G F m x u):∀ {xs:List PV} {us:List Value} (i:Nat),av G F m xs us→av G F m (xs.set i x) (us.set i u)
 | _,_,_,.nil=>.nil
 | _,_,0,.cons _ t=>.cons r t
 | _,_,i+1,.cons q t=>.cons q (av.set r i t)
theorem Nw.lupd{f:Obj→Obj}{its':Array Value}{n' tk:Nat}(H:HR X.toSC w h)(em:w.m[i]? =some a)(hf:w.F a=none)(e:w.s.heap.get? a=some o)(ef:f o= { cls:=.type "list",data:=.seq its' n' })(z:its'.size≤sizeLine)(r:av X.toSC w.F w.m ps its'.toList):Nw X w { w with s:= { w.s with heap:=w.s.heap.update a f,toks:=tk } } (h.set i (.lst ps)):=by
 have eu:(w.s.heap.update a f).get? a=some { cls:=.type "list",data:=.seq its' n' }:=ef▸Heap.get?_update_self _ e (by rw [ef];rfl)
 exact Nw.upd (s':= { w.s with heap:=w.s.heap.update a f,toks:=tk }) H em hf (fun b o' e=>by
  by_cases z:b=a
  ·exact .inl z
  ·exact .inr (.inr ((Heap.get?_update_ne _ _ _ _ z).trans e))) (fun b o' e=>by
  by_cases z:b=a
  ·exact ⟨{ cls:=.type "list",data:=.seq its' n' },by subst z;exact eu⟩
  ·exact ⟨o',(Heap.get?_update_ne _ _ _ _ z).trans e⟩) ⟨hf,its',n',eu,z,r⟩
variable {oe ie ve:Expr} {fo fi fv:Ex} {px pos:Pos}
theorem uB(ho:RE X oe fo)(hi:RE X ie fi)(hv:RE X ve fv)
  (hs:swapsWith ve (some (.Subscript oe ie px)) pos.line X.env=pure false:=by rfl):RS X (.Assign [.Subscript oe ie px] ve pos) (tm fo fi fv):=⟨fun {w ρ h Q E} I p=>wpAny_Assign_Subscript (hv.r I (bF.e p I fun w1 h1 pv v y1 I1 rv p=>ho.r I1 (bF.e p I1 fun w2 h2 po u y2 I2 ro p=>hi.r I2 (bF.e p I2 fun w3 h3 pi iv y3 I3 ri p=>by
 unfold nq at p
 split at p
 ·rename_i el
  split at p
  ·rename_i j hj
   obtain ⟨a,its,n,rfl,em,hf,e,z,r⟩:=I3.toHR.ll (y3.1.rep ro) el
   cases ri
   obtain ⟨h1,h2,h3,h4⟩:=yE hj
   have hl:=r.len
   have sl:=sizeLine_eq
   have hz:∀ t,Nw X w3 { w3 with s:= { w3.s with heap:=w3.s.heap.update a (Obj.mapSeq (·.setIfInBounds j v)),toks:=t } } _:=fun t=>Nw.lupd (its':=its.setIfInBounds j v) (n':=n) I3.toHR em hf e (by simp [Obj.mapSeq]) (by simpa using z) (by simpa using r.set (y3.1.rep (y2.1.rep rv)) j)
   rename_i k _ _
   by_cases h0:0≤k
   ·have hk:k.toNat=j:=by rw [seqIndex_of h0 h4] at h1;exact Option.some.inj h1
    exact PySem.W.ki_setAt e h0 (by omega) (by rw [← hl];exact h4) (by rw [hk];exact p.2 _ (hz _).s (I3.on (hz _)))
   ·have hk:(k+(its.size:Int)).toNat=j:=by rw [seqIndex_neg (by omega) h3] at h1;rw [← hl];exact Option.some.inj h1
    exact PySem.W.ki_setBack e (by omega) (by rw [← hl];exact h3) (by omega) (by rw [hk];exact p.2 _ (hz _).s (I3.on (hz _)))
  ·exact p.elim
 ·exact p.elim)))) hs⟩
theorem kB(ho:RE X oe fo)(hi:RE X ie fi)(hv:RE X ve fv)
  (hs:swapsWith ve (some (.Subscript oe ie px)) pos.line X.env=pure false:=by rfl):RS X (.Assign [.Subscript oe ie px] ve pos) (nV fo fi fv):=⟨fun {w ρ h Q E} I p=>wpAny_Assign_Subscript (hv.r I (bF.e p I fun w1 h1 pv v y1 I1 rv p=>ho.r I1 (bF.e p I1 fun w2 h2 po u y2 I2 ro p=>hi.r I2 (bF.e p I2 fun w3 h3 pi iv y3 I3 ri p=>by
 unfold pP at p
 split at p
 ·rename_i el ek
  split at p
  ·rename_i hz
   obtain ⟨a,o,kvs,rfl,em,hf,sm,e,d,z,r⟩:=I3.toHR.ld (y3.1.rep ro) el
   refine wpAny_setItem_pairs (hsz:=z) (lU ri ek) (d.of e) fun h' dd' sb=>?_
   obtain ⟨o',es,ep,e1,e2,e3⟩:=dd'
   have r':=r.put (k:= ‹PK›) (y3.1.rep (y2.1.rep rv))
   have y4:=Nw.upd (X:=X) (s':= { w3.s with heap:=h',toks:=w3.s.toks+1 }) I3.toHR em hf (fun b o e=>by
     by_cases z:b=a
     ·exact .inl z
     ·exact .inr (.inr ((sb.2 b z).trans e))) (fun b o e=>by
     by_cases z:b=a
     ·exact ⟨o',by subst z;exact e1⟩
     ·exact ⟨o,(sb.2 b z).trans e⟩) (po:=.dct _) ⟨hf,o',_,e1,⟨e2,es,ep,e3⟩,sm,Nat.le_trans (pG _ _) (by rw [r.length];exact hz),r'.1,r'.2⟩
   exact p.2 _ y4.s (I3.on y4)
  ·exact p.elim
 ·exact p.elim)))) hs⟩
theorem qc{ae:Expr}{fa:Ex}(ha:RE X ae fa):RE X ae (cFz fa):=⟨fun I p=>ha.r I (p.bind fun w1 h1 q u y r p=>by
 unfold fzR fzP at p
 split at p
 ·rename_i e
  split at e
  ·split at e<;>cases e
   rename_i hp
   obtain ⟨a,o,kvs,rfl,em,hf,sm,e,d,z,r'⟩:=y.2.ld r ‹_›
   have rr:aX X.toSC (iw w1.F a o) w1.m (.dct _) (.ref a):=.dct bu d sm z r'.1 (r'.2.mono (cP hf) (.inr fun _ _ e=>e))
   exact p.2 ⟨iw w1.F a o,w1.O,w1.m,w1.s⟩ _ (y.2.fix em hf e rr (by simpa [PV.pure] using hp)) rr
  ·obtain ⟨F',n,r',_⟩:=y.2.frz (X:=X) r e
   exact p.2 ⟨F',w1.O,w1.m,w1.s⟩ _ n r'
 ·exact p.elim)⟩
end
end Z
namespace L3
open PySem L2
def iI(_:List PO)(p:PV):Bool:=match p with
 | .str _=>true
 | _=>false
def sd(h:List PO)(p:PV):Bool:=(lsR h p).isSome
def hZ:List PV→Option (List (List Nat))
 | []=>some []
 | .str l::r=>(hZ r).map (l:: ·)
 | _::_=>none
def kY(sep:List Nat):List (List Nat)→List Nat
 | []=> []
 | [x]=>x
 | x::rest=>x++sep++kY sep rest
def eG(p:PV)(ps:List PV)(h:List PO):Res PV:=match p,ps with
 | .str sep,[q]=>match lsR h q with
  | some xs=>match hZ xs with
   | some ls=>if (ls.map (·.length)).sum+ls.length * sep.length≤16777216 then .ok (.str (kY sep ls)) h else .bad
   | none=>.bad
  | none=>.bad
 | _,_=>.bad
def CS(kps:List (PK×PV))(k:PK):List (PK×PV):=kps.filter fun kv=>decide (kv.1≠k)
def Eb(p q:PV)(h:List PO):Res PV:=match jH h p,jZ q with
 | some (n,kps),some k=>match bJ kps k with
  | some v=>.ok v (h.set n (.dct (CS kps k)))
  | none=>.bad
 | _,_=>.bad
def IR(fo fk:Ex):Ex:=fun ρ h=>(fo ρ h).bind fun p h1=>if (jH h1 p).isSome=true then (fk ρ h1).bind fun q h2=>Eb p q h2 else .bad
end L3
namespace Z
open PySem PySem.Spec PyProof.Rows L3 L2
section
variable {G:SC} {X:Cx} {w w1:Wo} {ρ:Ev} {h:List PO} {p:PV} {u:Value} {i:Nat} {ps:List PV} {kps:List (PK×PV)} {kvs:List (PK×Value)} {a:Addr} {o:Obj} {h':Heap}
theorem Nw.dupd{tk:Nat}(H:HR X.toSC w h)(em:w.m[i]? =some a)(hf:w.F a=none)(sm:(a==sysModules)=false)(d:h'.DictOf (pk X.prog X.w) a kvs)(sb:Heap.SameBut a w.s.heap h')(z:kvs.length≤sizeLine)(r:RK X.toSC w.F w.m kps kvs):Nw X w { w with s:= { w.s with heap:=h',toks:=tk } } (h.set i (.dct kps)):=by
 obtain ⟨o',es,ep,e1,e2,e3⟩:=d
 exact Nw.upd (X:=X) (s':= { w.s with heap:=h',toks:=tk }) H em hf (fun b o e=>by
  by_cases z:b=a
  ·exact .inl z
  ·exact .inr (.inr ((sb.2 b z).trans e))) (fun b o e=>by
  by_cases z:b=a
  ·exact ⟨o',by subst z;exact e1⟩
  ·exact ⟨o,(sb.2 b z).trans e⟩) ⟨hf,o',kvs,e1,⟨e2,es,ep,e3⟩,sm,z,r.1,r.2⟩
def OpM(X:Cx)(id:String)(g:PV→List PV→List PO→Res PV):Prop:=
 ∀ {w h p u ps us Q E},Wd X w h→aX X.toSC w.F w.m p u→av X.toSC w.F w.m ps us→bH X (RV X.toSC) w Q E (g p ps h)→Wp X (call (.builtin id) (u::us)) Q E w.s
def TyM(X:Cx)(Ty:String)(recv:List PO→PV→Bool):Prop:=∀ {w h p u},HR X.toSC w h→aX X.toSC w.F w.m p u→recv h p=true→w.s.TypeIs u Ty∧∀ a,u= .ref a→∃ ob,w.s.heap.get? a=some ob∧ob.dict=none
theorem iF{Ty:String}{recv:List PO→PV→Bool}{name:Str}{id:String}{g:PV→List PV→List PO→Res PV}{oe e:Expr}{es:List Expr}{fo:Ex}{fs:Ax}{apos cpos:Pos}(ty:TyM X Ty recv)(pa:PlainAttrs Ty)(slot:Slot Ty name id)(hty:typeOf (.builtin id)=pure (.type "method_descriptor"))(hm:OpM X id g)
  (ho:RE X oe fo) (ha:RA X (e::es) fs)
  (hbase:attributeBase oe name X.env (eval oe X.env)=eval oe X.env:=by rfl)
  (hfew:((backTo cpos (starEach (e::es) X.env)).all (fun x=>!x.1)&&(backToKw cpos (keywordEach [] X.env)).all (fun x=>x.1.isSome)
   &&decide ((e::es).length+([]:List Keyword).length+(if ([]:List Keyword).isEmpty then 0 else 1)<30))=true:=by rfl)
  (hline:(apos.endLine==cpos.line)=true:=by rfl) (hs:starEach (e::es) X.env=(false,eval e X.env)::starEach es X.env:=by rfl) (hplain:(backTo cpos (starEach es X.env)).any (·.1)=false:=by rfl):
  RE X (.Call (.Attribute oe name apos) (e::es) [] cpos) (cM recv g fo fs):=⟨fun I p=>wpAny_Call_method_late hbase hfew hline rfl (ho.r I (p.bind fun w1 h1 q u y r p=>by
 split at p
 ·obtain ⟨t1,t2⟩:=ty y.2 r ‹_›
  refine ⟨Ty,id,pa,slot,hty,t1,t2,?_⟩
  have hA:=ha.r cpos (I.on y) (p.bind (G:=fun us s=>Wp X (call (.builtin id) (u::us)) _ _ s) fun w2 h2 qs us y2 r2 p=>hm ((I.on y).on y2).toWd (y2.1.rep r) r2 p)
  rw [hs] at hA ⊢
  exact Calls.callWith_builtin (by show (false||(backTo cpos (starEach es X.env)).any (·.1))=false;rw [hplain]<;>rfl) (Calls.evalArgs_plain hA)
 ·exact p.elim))⟩
theorem hH:TyM X "str" iI:=fun H r e=>by
 unfold iI at e
 split at e
 ·cases r;exact ⟨typeIs_str _ _ _,fun _ e=>nomatch e⟩
 ·cases e
theorem wl:TyM X "list" sd:=fun H r e=>by
 obtain ⟨xs,ex⟩:=Option.isSome_iff_exists.mp e
 obtain ⟨a,its,rfl,⟨n,y⟩,_⟩:=H.sq r (iR ex)
 exact ⟨⟨_,y,rfl⟩,fun _ e=>by cases e;exact ⟨_,y,rfl⟩⟩
theorem nG:OpM X "list.append" iH:=fun {w h p u ps us Q E} I r rs k=>by
 unfold iH at k
 split at k
 ·split at k
  ·split at k
   ·obtain ⟨v,rfl,rv⟩:=rs.one
    obtain ⟨a,its,n,rfl,em,hf,e,z,r⟩:=I.toHR.ll r ‹_›
    refine call_meets F.slot_list_append ⟨_,e,rfl⟩ F.entry_list_append (F.args_list_append_2 _ _) (PySem.list_append a its n v z) ⟨e,?_⟩
    exact k.2 _ _ (Nw.lupd (f:=Obj.mapSeq (·.push v)) (its':=its.push v) (tk:=w.s.toks) I.toHR em hf e (by simp [Obj.mapSeq];rfl) (by have:=r.len;simp;omega) (by simpa using r.app (.cons rv .nil))) .non
   ·exact k.elim
  ·exact k.elim
 ·exact k.elim
theorem lC{F:Fz}{m:List Addr}:∀ {ps:List PV} {us:List Value} {ls:List (List Nat)},hZ ps=some ls→av G F m ps us→StrsAre us (ls.map S)
 | [],_,_,e,.nil=>by cases e;exact .nil
 | p::r,_,ls,e,.cons rp t=>by
  cases p with
  | str l=>
   simp only [hZ,Option.map_eq_some_iff] at e
   obtain ⟨ls',e1,rfl⟩:=e
   cases rp
   exact .cons _ _ (lC e1 t)
  | _=>simp [hZ] at e
theorem Gu(a b:List Nat):S a++S b=S (a++b):=by
 show (⟨(S a).cps++(S b).cps⟩:Str)=_
 simp [S]
theorem IW(sep:List Nat)(xs:List (List Nat)):Txt.join (S sep) (xs.map S)=S (kY sep xs):=by
 have go:∀ xs:List (List Nat),Str.join (S sep) (xs.map S)=S (kY sep xs):=by
  intro xs
  induction xs with
  | nil=>rfl
  | cons x r ih=>
   cases r with
   | nil=>rfl
   | cons y r=>
    have e:kY sep (x::y::r)=x++sep++kY sep (y::r):=rfl
    rw [e,← Gu,← Gu,← ih]
    rfl
 show Builtin.Str.glued _ _=_
 rw [StrLaws.glued_eq_join]
 exact go xs
theorem gq:OpM X "str.join" eG:=fun {w h p u ps us Q E} I r rs k=>by
 unfold eG at k
 split at k
 ·split at k
  ·split at k
   ·split at k
    ·rename_i el hz
     cases r
     obtain ⟨v,rfl,rv⟩:=rs.one
     obtain ⟨a,its,rfl,y,_,r⟩:=I.sq rv (iR ‹_›)
     refine join_list y.pl.isList (lC ‹_› r) ?_ fun t' k'=>by rw [IW];exact k.now I.toHR (.str _ _)
     rw [List.map_map,List.length_map,gI,show ((fun x:Str=>x.length)∘S)=(·.length) from funext gI];exact hz
    ·exact k.elim
   ·exact k.elim
  ·exact k.elim
 ·exact k.elim
theorem RK.drop{F:Fz}{m:List Addr}(k:PK):∀ {kps:List (PK×PV)} {kvs:List (PK×Value)},RK G F m kps kvs→RK G F m (CS kps k) (kvs.filter fun kv=>decide (kv.1≠k))
 | [],[],h=>h
 | [],_::_,h=>by have:=h.1;simp at this
 | _::_,[],h=>by have:=h.1;simp at this
 | (k1,p)::r,(k2,v)::t,⟨h1,h2⟩=>by
  simp only [List.map_cons,List.cons.injEq] at h1
  obtain ⟨rfl,h1⟩:=h1
  cases h2 with
  | cons x y=>
   obtain ⟨i1,i2⟩:=RK.drop k ⟨h1,y⟩
   unfold CS at *
   by_cases z:k2=k
   ·have e1:decide (k2≠k)=false:=by simp [z]
    simp only [List.filter_cons,e1];exact ⟨i1,i2⟩
   ·have e1:decide (k2≠k)=true:=by simp [z]
    simp only [List.filter_cons,e1,if_true];exact ⟨by rw [List.map_cons,List.map_cons,i1],.cons x i2⟩
theorem Hb{oe ke:Expr}{fo fk:Ex}{apos pos:Pos}(ho:RE X oe fo)(hk:RE X ke fk)(base:attributeBase oe "pop" X.env (eval oe X.env)=eval oe X.env:=by rfl)(few:((backTo pos (starEach [ke] X.env)).all (fun x=>!x.1)&&(backToKw pos (keywordEach [] X.env)).all (fun x=>x.1.isSome)
  &&decide (([ke]:List Expr).length+([]:List Keyword).length+(if ([]:List Keyword).isEmpty then 0 else 1)<30))=true:=by rfl) (line:(apos.endLine==pos.line)=true:=by rfl) (trees:backTo pos (starEach [ke] X.env)= [(false,eval ke X.env)]:=by rfl):RE X (.Call (.Attribute oe "pop" apos) [ke] [] pos) (IR fo fk):=⟨fun I p=>wpAny_Call_method base few line PySem.F.plainAttrs_dict PySem.F.slot_dict_pop PySem.F.type_dict_pop (ho.r I (p.bind fun w1 h1 q u y r p=>by
 split at p
 ·obtain ⟨⟨n0,k0⟩,e0⟩:=Option.isSome_iff_exists.mp ‹_›
  obtain ⟨a,o,kvs,rfl,em,hf,sm,e,d,z,rr⟩:=y.2.ld r e0
  refine ⟨⟨o,e,d.1.1⟩,fun b q=>(by cases q;exact ⟨o,e,d.1.2.1⟩),?_⟩
  rw [trees]
  refine Calls.callWith_builtin rfl (Calls.evalArgs_plain (Calls.spliced_cons (hk.r (I.on y) (p.bind fun w2 h2 q2 iv y2 ri p=>Calls.spliced_nil ?_))))
  unfold Eb at p
  split at p
  ·split at p
   ·rename_i ek _ v ev
    obtain ⟨a',o,kvs,q,em,hf,sm,e,d,z,rr⟩:=y2.2.ld (y2.1.rep r) ‹_›
    cases q
    have hp:(keyPart iv).isSome=true:=by unfold jZ at ek;split at ek<;>cases ek<;>cases ri<;>rfl
    obtain ⟨v',hv,rv⟩:∃ v',valueAt kvs ‹PK› =some v'∧aX X.toSC w2.F w2.m v v':=by
     rcases oK rr.1 rr.2 ‹PK› with ⟨p3,u,z1,z2,z3⟩ | ⟨z1,_⟩
     ·rw [ev] at z1;cases z1;exact ⟨u,z2,z3⟩
     ·rw [ev] at z1;cases z1
    refine call_meetsIn PySem.F.slot_dict_pop (d.of e).typeIs PySem.F.entry_dict_pop (PySem.F.args_dict_pop_2 _ _) (meets_dict_pop_there (pk X.prog X.w) a (lU ri ek) [] (.inl rfl) hp) ⟨kvs,v',d.of e,z,hv,fun h' dd' hs=>?_⟩
    exact p.2 _ _ (Nw.dupd (tk:=w2.s.toks+1) y2.2 em hf sm dd' hs (Nat.le_trans (List.length_filter_le _ _) z) (rr.drop ‹PK›)) rv
   ·exact p.elim
  ·exact p.elim
 ·exact p.elim))⟩
end
end Z
namespace L3
open PySem L2
def bN(y x:List Nat)(lo:Nat):Option Nat:=(List.range (x.length+1)).find? fun i=>decide (lo≤i)&&y.isPrefixOf (x.drop i)
def sv(o:Option Nat):Int:=match o with
 | some i=>(i:Int)
 | none=> -1
def sj(y x:List Nat):Bool:=(bN y x 0).isSome
def yq(p:PV)(ps:List PV)(h:List PO):Res PV:=match p,ps with
 | .str x,[.str y]=>.ok (.int (sv (bN y x 0))) h
 | _,_=>.bad
def BL(p q:PV)(h:List PO):Option Bool:=match q with
 | .str b=>match p with
  | .str a=>some (sj a b)
  | _=>none
 | q=>match dcR h q with
  | some kvs=>match jZ p with
   | some k=>some (bJ kvs k).isSome
   | none=>none
  | none=>match sqR h q with
   | some xs=>if okD [] p=true∧xs.all (okD [])=true then some (xs.any fun y=>PyData.eqv (toD y) (toD p)) else none
   | none=>none
def cF(p q:PV)(h:List PO):Res PV:=match BL p q h with
 | some b=>.ok (.bl (!b)) h
 | none=>.bad
end L3
namespace Z
open PySem PySem.Spec PyProof.Rows L3 L2
theorem rA(x y:List Nat)(i:Nat)(hi:i+y.length≤x.length):Builtin.Str.subAt (S x) (S y) i=y.isPrefixOf (x.drop i):=by
 unfold Builtin.Str.subAt
 rw [gI]
 rw [Bool.eq_iff_iff,beq_iff_eq,List.isPrefixOf_iff_prefix]
 have e:(S x).cps.extract i (i+y.length)=((x.drop i).take y.length).toArray:=by
  apply Array.toList_inj.mp
  simp [S,List.extract_eq_drop_take]
 rw [e]
 show ((x.drop i).take y.length).toArray=(S y).cps↔_
 constructor
 ·intro h
  have h':(x.drop i).take y.length=y:=by simpa [S] using congrArg Array.toList h
  refine ⟨(x.drop i).drop y.length,?_⟩
  have q:=List.take_append_drop y.length (x.drop i)
  rw [h'] at q
  exact q
 ·rintro ⟨t,ht⟩
  rw [← ht,List.take_left];rfl
theorem xS(x y:List Nat)(i:Nat):StrLaws.At (S x) (S y) (S x).length i↔i≤x.length∧y.isPrefixOf (x.drop i)=true:=by
 unfold StrLaws.At
 rw [gI,gI]
 constructor
 ·rintro ⟨h1,h2⟩
  rw [rA x y i h1] at h2
  exact ⟨by omega,h2⟩
 ·rintro ⟨h1,h2⟩
  have:i+y.length≤x.length:=by
   have:=(List.isPrefixOf_iff_prefix.mp h2).length_le
   rw [List.length_drop] at this
   omega
  exact ⟨this,by rw [rA x y i this];exact h2⟩
theorem qr(x y:List Nat)(lo:Nat):Builtin.Str.occurrences (S x) (S y) lo (S x).length 1=(bN y x lo).toList:=by
 have hlen:=StrLaws.occ_length_le (S x) (S y) lo (S x).length 1
 rcases StrLaws.occ_head_from (S x) (S y) lo 1 (Nat.le_refl _) with ⟨h0,hn⟩ | ⟨i,r,h0,hl,ha,hn⟩
 ·rw [h0]
  have:bN y x lo=none:=by
   unfold bN
   rw [List.find?_eq_none]
   intro i hi hc
   simp only [Bool.and_eq_true,decide_eq_true_eq] at hc
   exact hn i hc.1 ((xS x y i).mpr ⟨by have:=List.mem_range.mp hi;omega,hc.2⟩)
  rw [this];rfl
 ·rw [h0] at hlen ⊢
  have hr:r= []:=by cases r with
   | nil=>rfl
   | cons _ _=>simp at hlen
  subst hr
  obtain ⟨a1,a2⟩:=(xS x y i).mp ha
  have:bN y x lo=some i:=by
   unfold bN
   rw [List.find?_range_eq_some]
   refine ⟨by simp [hl,a2],by simp;omega,fun j hj=>?_⟩
   simp only [Bool.not_eq_true',Bool.and_eq_false_iff,decide_eq_false_iff_not]
   rcases Nat.lt_or_ge j lo with q | q
   ·exact .inl (by omega)
   ·right
    cases z:y.isPrefixOf (x.drop j) with
    | false=>rfl
    | true=>exact absurd ((xS x y j).mpr ⟨by omega,z⟩) (hn j q hj)
  rw [this];rfl
theorem IX(x y:List Nat):Txt.find (S x) (S y)=sv (bN y x 0):=by
 unfold Txt.find
 rw [qr]
 cases bN y x 0<;>rfl
theorem LX(x y:List Nat):(!(Builtin.Str.occurrences (S x) (S y) 0 (S x).length 1).isEmpty)=sj y x:=by
 rw [qr]
 unfold sj
 cases bN y x 0<;>rfl
noncomputable def qF(h:Heap)(d:PyData)(y:Value):Bool:=open Classical in if q:∃ e as,Reads h y e as∧e.canLay0=true then PyData.eqv q.choose d else false
theorem yN{h:Heap}{d e:PyData}{y:Value}{as:List Addr}(r:Reads h y e as)(c:e.canLay0=true):qF h d y=PyData.eqv e d:=by
 have q:∃ e as,Reads h y e as∧e.canLay0=true:=⟨e,as,r,c⟩
 unfold qF
 rw [dif_pos q]
 obtain ⟨as',r',c'⟩:=q.choose_spec
 rw [SeqAt.Reads.unique _ _ _ _ _ c r r']
theorem vb{A:Around}{s:Shared}{d:PyData}{v:Value}{bs:List Addr}(rv:Reads s.heap v d bs)(cd:d.canLay0=true)(hu:A.units+d.depth<cLine):
  ∀ {us:List Value} {ds:List PyData} {as:List Addr},ReadsAll s.heap us ds as→ds.all PyData.canLay0=true→∀ u∈us,SeqAt.EqAt A s u v (qF s.heap d u)
 | _,_,_,.nil,_=>fun u hu=>by cases hu
 | _,_,_,.cons r t,c=>fun u hu'=>by
  simp only [List.all_cons,Bool.and_eq_true] at c
  rcases List.mem_cons.mp hu' with rfl | hu'
  ·rw [yN r c.1]
   exact SeqAt.eqAt_reads _ _ A s _ _ _ _ r rv c.1 cd (by have:=Nat.min_le_right (PyData.depth ‹PyData›) d.depth;omega)
  ·exact vb rv cd hu t c.2 u hu'
theorem vZ{h:Heap}{d:PyData}:∀ {us:List Value} {ds:List PyData} {as:List Addr},ReadsAll h us ds as→ds.all PyData.canLay0=true→us.any (qF h d)=ds.any fun e=>PyData.eqv e d
 | _,_,_,.nil,_=>rfl
 | _,_,_,.cons r t,c=>by
  simp only [List.all_cons,Bool.and_eq_true] at c
  rw [List.any_cons,List.any_cons,yN r c.1,vZ t c.2]
theorem ip:∀ l:List PyData,PyData.canLayAll0 l=l.all PyData.canLay0
 | []=>by simp [PyData.canLayAll0]
 | x::r=>by simp [PyData.canLayAll0,ip r]
theorem pz:∀ l:List PV,iV l=l.map toD
 | []=>by simp [iV]
 | x::r=>by simp [iV,pz r]
theorem yV(p:PV):dOf [] p=toD p:=by
 unfold dOf
 split
 ·simp [toD]
 ·rfl
section
variable {prog:Program} {w:World}
theorem vT(l:Addr)(es:Array DictEntry)(n:Nat)(dd:Option Addr)(sl:Array (Option Value))(z:Str)(u:Tok):
  Meets (Builtin.«dict.__eq__» ⟨[.ref l,.str z u],[]⟩) (fun _ R s=>s.heap.get? l=some { cls:=.type "dict",dict:=dd,data:=.dict es n,slots:=sl }∧R (.ok (.ret .notImplemented)) s):=
 .of_wp fun prog w A R s h=>by
  obtain ⟨hp,g,d,tk,os⟩:=s
  obtain ⟨hl,h⟩:=h
  have f1:=PySem.F.sub_str_dict
  wp_walk using PySem.AutoSeq1.wpAny_loadPart' hl
  exact ⟨_,rfl,h⟩
theorem uv(l:Addr)(es:Array DictEntry)(n:Nat)(dd:Option Addr)(sl:Array (Option Value))(z:Str)(u:Tok):
  Meets (Builtin.«str.__eq__» ⟨[.str z u,.ref l],[]⟩) (fun _ R s=>s.heap.get? l=some { cls:=.type "dict",dict:=dd,data:=.dict es n,slots:=sl }∧R (.ok (.ret .notImplemented)) s):=
 .of_wp fun prog w A R s h=>by
  obtain ⟨hp,g,d,tk,os⟩:=s
  obtain ⟨hl,h⟩:=h
  wp_walk using PySem.AutoSeq1.wpAny_loadPart' hl,wpAny_load hl
  exact ⟨_,rfl,h⟩
end
section
variable {G:SC} {X:Cx} {w w1:Wo} {ρ:Ev} {h:List PO} {a b c:Expr} {fa fb fc:Ex} {pos:Pos}
theorem ED:OpM X "str.find" yq:=fun {w h p u ps us Q E} I r rs k=>by
 unfold yq at k
 split at k
 ·cases r
  obtain ⟨v,rfl,rv⟩:=rs.one
  cases rv
  exact SC.find (by rw [IX];exact k.now I.toHR (.int _ _))
 ·exact k.elim
theorem inB{p q:PV}{u v:Value}{k:Bool}{op:CmpOp}{neg:Bool}{Q:Value→Shared→Prop}{E:Value→Shared→Prop}(ho:op= .In∧neg=false∨op= .NotIn∧neg=true)(hu:X.A.units+64<cLine)(I:Wd X w h)(rp:aX X.toSC w.F w.m p u)(rq:aX X.toSC w.F w.m q v)(e:BL p q h=some k)(fin:∀ t,Q (.bool (if neg then !k else k)) { w.s with toks:=t }):Wp X (compareOp op u v) Q E w.s:=by
 unfold BL at e
 split at e
 ·split at e<;>cases e
  cases rp;cases rq
  rw [← LX] at fin
  rcases ho with ⟨rfl,rfl⟩ | ⟨rfl,rfl⟩
  ·exact in_str (fin w.s.toks)
  ·exact notIn_str (fin w.s.toks)
 ·split at e
  ·split at e<;>cases e
   rename_i kk ek
   obtain ⟨a,kvs,rfl,sm,d,rr⟩:=I.dc rq ‹_›
   have:(bJ ‹_› kk).isSome=(valueAt kvs kk).isSome:=by
    rcases oK rr.2.1 rr.2.2 kk with ⟨p1,v1,h1,h2,_⟩ | ⟨h1,h2⟩
    ·rw [h1,h2];rfl
    ·rw [h1,h2];rfl
   rw [this] at fin
   rcases ho with ⟨rfl,rfl⟩ | ⟨rfl,rfl⟩
   ·exact wpAny_in_of (lU rp ek) sm d.mapOf (fin _)
   ·exact wpAny_notIn_of (lU rp ek) sm d.mapOf (fin _)
  ·split at e
   ·split at e
    ·rename_i hc
     cases e
     rename_i xs es
     have h1:(toD p).canLay0=true∧(toD p).depth≤60:=by
      have:=hc.1
      unfold okD at this
      simpa [yV] using this
     have h2:PyData.canLayAll0 (iV xs)=true:=by
      rw [ip,pz,List.all_map]
      rw [List.all_eq_true] at hc ⊢
      intro z hz
      have:=hc.2 z hz
      unfold okD at this
      rw [yV,Bool.and_eq_true] at this
      exact this.1
     have h3:(iV xs).all PyData.canLay0=true:=by rw [← ip];exact h2
     obtain ⟨t,e,ht⟩:=wt es
     obtain ⟨a,its,rfl,y,z,r⟩:=I.sq rq e
     obtain ⟨as,ra⟩:=aX.reads I.toHR rp h1.1
     obtain ⟨bs,rb⟩:=av.reads I.toHR r h2
     have en:(xs.any fun y=>PyData.eqv (toD y) (toD p))=its.any (qF w.s.heap (toD p)):=by
      rw [show its.any (qF w.s.heap (toD p))=its.toList.any (qF w.s.heap (toD p)) by simp,vZ rb h3,pz,List.any_map];rfl
     rw [en] at fin
     have me:=fun {B:Around} (hB:B.units+(toD p).depth<cLine) (x:Value) (hx:x∈its)=>vb (A:=B) ra h1.1 hB rb h3 x (by simpa using hx)
     have hb:X.A.in1.units+(toD p).depth<cLine:=by show X.A.units+1+_<_;omega
     rcases ht with rfl | rfl<;>rcases ho with ⟨rfl,rfl⟩ | ⟨rfl,rfl⟩
     ·exact SeqAt.in_tupleAt (qF w.s.heap (toD p)) y.tup (fun x hx=>me hb x hx) (fin _)
     ·exact SeqAt.notIn_tupleAt (qF w.s.heap (toD p)) y.tup (fun x hx=>me hb x hx) (fin _)
     ·exact SeqAt.in_listAt (qF w.s.heap (toD p)) y.pl.isList (fun x hx=>me hb x hx) (fin _)
     ·exact SeqAt.notIn_listAt (qF w.s.heap (toD p)) y.pl.isList (fun x hx=>me hb x hx) (fin _)
    ·cases e
   ·cases e
theorem gU(hu:X.A.units+64<cLine):Op2 X (compareOp .NotIn) cF:=fun {w h p q u v Q E} I rp rq k=>by
 unfold cF at k
 split at k
 ·exact inB (.inr ⟨rfl,rfl⟩) hu I rp rq ‹_› fun t=>k.now I.toHR (.bl _)
 ·exact k.elim
theorem JF(hu:X.A.units+64<cLine):Op2 X (compareOp .Eq) tI:=fun {w h p q u v Q E} I rp rq k=>by
 unfold tI at k
 split at k
 ·rename_i e
  unfold ltL at e
  split at e
  ·obtain ⟨a,its,rfl,⟨n,y⟩,z,r⟩:=I.sq rp (nH ‹_›)
   obtain ⟨a2,its2,rfl,⟨n2,y2⟩,z2,r2⟩:=I.sq rq (nH ‹_›)
   have l1:=r.len
   have l2:=r2.len
   exact SeqAt.RcAt.lists_lengths (items:=its) (items2:=its2) ⟨_,y,rfl,_,rfl⟩ ⟨_,y2,rfl,_,rfl⟩ (by rw [← l1,← l2];simpa using of_decide_eq_true e) (by omega) _ _ _ _ (k.here I.toHR (.bl _))
  ·cases e
 ·exact Em hu I rp rq k
theorem uU(hu:X.A.units+64<cLine):Op2 X (compareOp .Eq) oz:=fun {w h p q u v Q E} I rp rq k=>by
 unfold oz at k
 split at k
 ·split at k
  ·cases rq
   rename_i z t
   obtain ⟨a,kvs,rfl,sm,⟨o,es,ep,h1,h2,h3,_⟩,_⟩:=I.dc rp rfl
   obtain ⟨oc,od,odt,osl⟩:=o
   have hc:oc= .type "dict":=h2.1
   dsimp only at h3
   subst hc h3
   show wpAny _ _ (richCompare .Eq _ _) _ _ _
   exact SeqAt.rc_eq_decline_or (k:=false) ⟨_,h1,rfl⟩ (typeIs_str w.s _ t) (by decide) PySem.F.sub_str_dict PySem.F.slot_dict_eq PySem.F.slot_str_eq_refl
    (fun _ hq=>call_meets PySem.F.slot_dict_eq ⟨_,h1,rfl⟩ PySem.F.entry_dict_eq (PySem.F.args_dict_eq_2 _ _) (vT a _ _ _ _ _ t) ⟨h1,hq⟩)
    (fun _ hq=>call_meets PySem.F.slot_str_eq_refl (typeIs_str w.s _ t) PySem.F.entry_str_eq (PySem.F.args_str_eq_2 _ _) (uv a _ _ _ _ _ t) ⟨h1,hq⟩)
    (fun _ hq=>wpAny_of_eq (rfl:isSame (.ref a) (.str _ t)=pure false) hq) (.inr (by omega)) (k.here I.toHR (.bl _))
  ·exact k.elim
 ·exact Em hu I rp rq k
end
end Z
namespace Z
open PySem PySem.Spec PyProof.Rows L3 L2
section
variable {G:SC} {X:Cx} {w w1:Wo} {ρ:Ev} {h:List PO} {a b c:Expr} {fa fb fc:Ex} {pos:Pos} {op op':CmpOp} {g g':PV→PV→List PO→Res PV}
theorem Bk(o:Op2 X (compareOp op) g)(o':Op2 X (compareOp op') g')(ha:RE X a fa)(hb:RE X b fb)(hc:RE X c fc)(hm:lastMarks [op,op'] [b,c]=false:=by with_unfolding_all rfl):RT X (.Compare a [op,op'] [b,c] pos) (aW (ud g g' fa fb fc)):=⟨fun {w ρ h Q E} I p=>isTrue_chain (ha.r I (by
 unfold aW ud at p
 cases e1:fa ρ h with
 | bad=>rw [e1] at p;exact p
 | exc _ _=>rw [e1] at p;exact p
 | ok x h1=>
  rw [e1] at p
  refine ⟨p.ep,fun w1 v1 y1 r1=>test_link (hb.r (I.on y1) ?_)⟩
  have p:=p.step y1
  simp only [Res.bind] at p
  cases e2:fb ρ h1 with
  | bad=>rw [e2] at p;exact p
  | exc _ _=>rw [e2] at p;exact p
  | ok y h2=>
   rw [e2] at p
   refine ⟨p.ep,fun w2 v2 y2 r2=>o ((I.on y1).on y2).toWd (y2.1.rep r1) r2 ?_⟩
   have p:=p.step y2
   simp only [] at p
   cases e3:g x y h2 with
   | bad=>rw [e3] at p;exact p
   | exc _ _=>rw [e3] at p;exact p
   | ok z h3=>
    rw [e3] at p
    refine ⟨p.ep,fun w3 v3 y3 r3=>?_⟩
    have p:=p.step y3
    cases r3 with
    | bl k=>
     refine wpAny_truthy_bool ?_
     cases k with
     | false=>exact ite_ff (p.here y3.2 rfl)
     | true=>
      refine ite_tt (test_last (hc.r (((I.on y1).on y2).on y3) ?_))
      simp only [if_true] at p
      cases e4:fc ρ h3 with
      | bad=>rw [e4] at p;exact p
      | exc _ _=>rw [e4] at p;exact p
      | ok u h4=>
       rw [e4] at p
       refine ⟨p.ep,fun w4 v4 y4 r4=>o' ((((I.on y1).on y2).on y3).on y4).toWd (y4.1.rep (y3.1.rep r2)) r4 ?_⟩
       refine (p.step y4).bind fun _ _ z2 _ y5 r5 p=>?_
       cases r5 with
       | bl=>exact wpAny_truthy_bool (p.here y5.2 rfl)
       | _=>exact p.elim
    | _=>exact p.elim)) hm⟩
end
end Z
namespace Z
open PySem PySem.Spec PyProof.Rows L3 L2
section
variable {G:SC} {X:Cx} {w w1:Wo} {ρ:Ev} {h:List PO}
theorem bH.seqAt{Q:Value→Shared→Prop}{E:Value→Shared→Prop}{pv:PV}{t:String}{ps:List PV}{its:Array Value}{n:Nat}{s':Shared}(p:bH X (RV X.toSC) w Q E (.ok pv h))(H:HR X.toSC w h){a:Addr}(na:w.s.heap.get? a=none)(kp:∀ b o,w.s.heap.get? b=some o→s'.heap.get? b=some o)(e:s'.heap.get? a=some { cls:=.type t,data:=.seq its n })(k:sqT pv=some (t,ps))(r:av X.toSC w.F w.m ps its.toList)(z:its.size≤sizeLine)(ho:s'.os=w.s.os:=by rfl)(hg:s'.gens=w.s.gens:=by rfl):Q (.ref a) s':=
 have y:=Nw.lay (X:=X) H na kp e ho hg
 p.2 _ _ y (.sq k bu z (y.1.reps r))
theorem yu:OpC X (.type "tuple") lL:=fun ok {w h p u Q E} I rs k=>by
 unfold lL at k
 split at k
 ·obtain ⟨u,rfl,r1⟩:=rs.one
  show Wp X (call (.type "tuple") [u]) Q E w.s
  split at k
  ·rename_i e
   have sl:=sizeLine_eq
   unfold sqR at e
   split at e
   ·cases e
    obtain ⟨a,its,rfl,y,z,r⟩:=I.sq r1 rfl
    exact call_tuple_same y.tup (k.here I.toHR r1)
   ·obtain ⟨a,its,rfl,y,z,r⟩:=I.sq r1 (iR e)
    refine call_tuple_list y.pl.isList (fun h' kp=>?_) (by omega)
    have na:w.s.heap.get? h'.objs.size=none:=by
     cases q:w.s.heap.get? h'.objs.size with
     | none=>rfl
     | some o=>have:=kp _ _ q;rw [aM] at this;cases this
    exact k.seqAt I.toHR na (fun b o e=>Heap.get?_push_of_some _ (kp b o e)) (Heap.get?_push_size _ rfl) rfl r z
  ·exact k.elim
 ·exact k.elim
theorem tA{F:Fz}{m:List Addr}:∀ {ps:List PV} {us:List Value},ps.length=us.length→(∀ (i:Nat) p u,ps[i]? =some p→us[i]? =some u→aX G F m p u)→av G F m ps us
 | [],[],_,_=>.nil
 | [],_::_,e,_=>by simp at e
 | _::_,[],e,_=>by simp at e
 | p::ps,u::us,e,k=>.cons (k 0 p u rfl rfl) (tA (by simpa using e) fun i p u h1 h2=>k (i+1) p u h1 h2)
theorem Ek(hc:X.calm=true):OpC X (.type "list") tG:=fun ok {w h p u Q E} I rs k=>by
 unfold tG at k
 split at k
 ·rename_i l
  obtain ⟨u,rfl,r1⟩:=rs.one
  split at k
  ·rename_i hz
   cases r1
   show Wp X (call (.type "list") [_]) Q E w.s
   refine call_list_str (ok.hd hc) (S l) _ (hn:=by show (S l).cps.size≤_;simp [S];exact hz) fun h' tk acc c kp e itm=>?_
   have le:acc.size=l.length:=by rw [itm.1];show (S l).cps.size=_;simp [S]
   refine k.seqAt (its:=acc) I.toHR (aM _) (fun b o e=>kp b o e) e rfl (tA (by simp [le]) fun i p v e1 e2=>?_) (by rw [le];exact hz)
   rw [Array.getElem?_toList] at e2
   obtain ⟨c2,u2,e3,rfl⟩:=itm.2 i v e2
   rw [List.getElem?_map] at e1
   have:l[i]? =some c2:=by simpa [S] using e3
   rw [this] at e1;cases e1
   exact .str [c2] u2
  ·exact k.elim
 ·obtain ⟨u,rfl,r1⟩:=rs.one
  split at k
  ·rename_i kps e1
   obtain ⟨a,kvs,rfl,sm,d,rr⟩:=I.dc r1 e1
   show Wp X (call (.type "list") [_]) Q E w.s
   obtain ⟨ep,da⟩:=d.dictAt
   have ll:=rr.len
   refine PySem.W.kdl_call (PySem.W.kdl_dict (knd:=pk X.prog X.w) (kvs:=kvs) (ep:=ep) sm) (ok.hd hc) da rr.1 fun h' tk acc c kp e itm=>?_
   refine k.seqAt (its:=acc) I.toHR (aM _) kp e rfl (tA (by simp [itm.1,ll]) fun i p v e2 e3=>?_) (by rw [itm.1];exact rr.1)
   rw [Array.getElem?_toList] at e3
   obtain ⟨kk,x,e4,e5⟩:=itm.2 i v e3
   rw [List.getElem?_map] at e2
   have e6:(kvs.map (·.1))[i]? =some kk:=by rw [List.getElem?_map,e4];rfl
   rw [rr.2.1,List.getElem?_map] at e6
   cases z:kps[i]? with
   | none=>rw [z] at e6;cases e6
   | some kp=>
    rw [z] at e6 e2
    cases e6;cases e2
    show aX X.toSC w.F w.m (gN kp.1) v
    have e5:kIs kp.1 v=true:=e5
    revert e5
    generalize kp.1=kk
    intro e5
    rcases dG e5 with ⟨j,t,rfl,rfl⟩ | ⟨y,t,rfl,rfl⟩
    ·exact .int j t
    ·exact .str y t
  ·exact k.elim
 ·exact k.elim
end
end Z
namespace L3
open PySem L2
def wf(f:Ax):Ax:=fun ρ h=>(f ρ h).bind fun ps h1=>match ps with
 | [.int j]=>if 0≤j∧bel 4611686018427387904 j=true then .ok ((List.range j.toNat).map fun (i:Nat)=>PV.int (j - 1 - (i:Int))) h1 else .bad
 | _=>.bad
end L3
namespace L2
open PySem PySem.Spec PyProof.Rows
theorem Br:isSubtype (.type "range_iterator") (.type "reversed")=pure false:=by rw [isSubtype_type];kernel_rfl
abbrev rdO(x n:Int):Obj:= { cls:=.type "range_iterator",data:=.fields #[rawInt x,rawInt n,rawInt (-1)] }
section
variable {prog:Program} {w:World} {A:Around} {E:Value→Shared→Prop} {s:Shared}
theorem DL{r:Addr}{j:Int}{t u v:Tok}{Q:Value→Shared→Prop}(hr:IsRange s.heap r 0 j 1 t u v)(h0:0≤j)(h1:j<2 ^ 62)(h:Q (.ref s.heap.objs.size) { s with heap:=s.heap.push (rdO (j - 1) j) }):
  wpAny (model prog w) A (call (.builtin "range.__reversed__") [.ref r]) Q E s:=by
 have ty:s.TypeIs (.ref r) "range":=⟨_,hr,rfl⟩
 refine wpAny_call_entry PySem.F.slot_range_reversed ty PySem.F.entry_range_reversed ?_ (PySem.F.args_range_reversed_1 _)
 unfold Builtin.«range.__reversed__» Builtin.Range.rangeFields
 wp_walk
 have sz:Builtin.Range.rangeSize 0 j 1=j:=by
  unfold Builtin.Range.rangeSize
  simp only [show (1:Int)>0 by decide,if_true]
  split<;>omega
 have fl:∀ x:Int, -(2 ^ 62)≤x→x<2 ^ 62→Builtin.Range.rangeFitsLong x=true:=fun x a b=>by
  unfold Builtin.Range.rangeFitsLong
  simp only [Bool.and_eq_true,decide_eq_true_eq]
  omega
 rw [sz,fl 0 (by decide) (by decide),fl j (by omega) h1,fl 1 (by decide) (by decide),fl (-1) (by decide) (by decide),fl (0 - 1) (by decide) (by decide)]
 rw [show (0+(j - 1) * 1:Int)=j - 1 by omega]
 refine wpAny_ite_false (by decide) ?_
 refine (show wpAny _ _ (newFields "range_iterator" [rawInt (j - 1),rawInt j,rawInt (-1)] >>= _) _ _ _ from wpAny_bind ?_)
 unfold newFields
 wp_walk
 exact ⟨_,rfl,h⟩
theorem Bo{r:Addr}{j:Int}{t u v:Tok}{Q:Value→Shared→Prop}(hr:IsRange s.heap r 0 j 1 t u v)(h0:0≤j)(h1:j<2 ^ 62)(h:Q (.ref s.heap.objs.size) { s with heap:=s.heap.push (rdO (j - 1) j) }):
  wpAny (model prog w) A (runValue (.call (.builtin "range.__reversed__") ⟨[.ref r],[]⟩)) Q E s:=DL hr h0 h1 h
theorem AI{r:Addr}{j:Int}{t u v:Tok}{Q:Value→Shared→Prop}(hr:IsRange s.heap r 0 j 1 t u v)(h0:0≤j)(h1:j<2 ^ 62)(h:Q (.ref s.heap.objs.size) { s with heap:=s.heap.push (rdO (j - 1) j) }):
  wpAny (model prog w) A (call (.type "reversed") [.ref r]) Q E s:=by
 have ty:s.TypeIs (.ref r) "range":=⟨_,hr,rfl⟩
 refine callType_other (U:="range_iterator") (Q₁:=fun o t=>o= .ref s.heap.objs.size∧t= { s with heap:=s.heap.push (rdO (j - 1) j) }) (by decide+kernel) PySem.F.create_reversed ⟨_,_,PySem.F.mro_reversed⟩ PySem.F.made_reversed Br (PySem.F.typeCall_reversed_1 _) ?_ ?_
 ·refine codeAny_of_tree ?_
  show wpAny _ A.in1.in1 (do checkBuiltinCall "reversed.__new__" ⟨[.type "reversed",.ref r],[]⟩;again (.builtin "reversed.__new__" ⟨[.type "reversed",.ref r],[]⟩)) _ _ s
  refine wpAny_bind (wpAny_of_eq (PySem.F.newCall_reversed_1 _) (wpAny_pure ⟨plainId_quiet PySem.F.plain_reversed_new _,codeAny_builtin PySem.F.entry_reversed_new ?_⟩))
  rw [Around.under_plainId PySem.F.plain_reversed_new _]
  unfold Builtin.«reversed.__new__»
  refine wpAny_bind (wpAny_of_eq (newClass_reversed _) ?_)
  have f1:=PySem.F.slot_range_reversed.lookup
  have f2:=PySem.F.slot_range_reversed.bind (.ref r)
  wp_walk using Bo hr h0 h1
  exact ⟨rfl,rfl⟩
 ·rintro o t ⟨rfl,rfl⟩
  exact ⟨⟨_,Heap.get?_push_size _ rfl,rfl⟩,h⟩
end
end L2
namespace Z
open PySem PySem.Spec PyProof.Rows L3 L2
section
variable {G:SC} {X:Cx} {w w1:Wo} {ρ:Ev} {h:List PO} {tg a:Expr} {p0 p1 p2 p3:Pos}
theorem nZ{F:Fz}{m:List Addr}:∀ {ps:List PV} {us:List Value} {bs:List Bool},mX ps=some bs→av G F m ps us→LSm.BoolsAre us bs
 | [],_,_,e,.nil=>by cases e;exact .nil
 | p::r,_,bs,e,.cons rp t=>by
  cases p with
  | bl b=>
   simp only [mX,Option.map_eq_some_iff] at e
   obtain ⟨bs',e1,rfl⟩:=e
   cases rp
   exact .cons _ (nZ e1 t)
  | _=>simp [mX] at e
theorem JG(hc:X.calm=true):OpC X (.builtin "all") BM:=fun ok {w h p u Q E} I rs k=>by
 unfold BM at k
 split at k
 ·obtain ⟨u,rfl,r1⟩:=rs.one
  split at k
  ·split at k
   ·obtain ⟨a,its,rfl,y,z,r⟩:=I.sq r1 (iR ‹_›)
    have hb:=nZ ‹_› r
    have hl:=y.pl.isList
    have hlt:a<w.s.heap.objs.size:=by obtain ⟨_,e,_⟩:=hl;exact Heap.lt_size e
    show Wp X (call (.builtin "all") [.ref a]) Q E w.s
    rename_i bs _
    refine call_all_walk (wpAny_pyIter_list hl ⟨w.s.heap.objs.size,[w.s.heap.objs.size,a],[w.s.heap.objs.size],its.size,_,_,fun i=>(bs[i]?).getD true,rfl,Walks.list (A:=X.A.in1) (ok.hd hc) _ a (Nat.ne_of_lt hlt) its,
     ⟨⟨_,Heap.get?_push_size _ rfl,rfl,rfl⟩,hl.push _⟩,fun i v s' Q' E' hP hQ=>?_,fun h' tk hk=>?_⟩)
    ·obtain ⟨b,e,rfl⟩:=hb.get i v (by simpa using hP)
     simp only [e,Option.getD_some] at hQ
     exact wpAny_truthy_bool hQ
    ·have e:((List.range its.size).all fun i=>(bs[i]?).getD true)=bs.all id:=by
      rw [show its.size=bs.length from hb.length];exact LSm.range_all bs
     rw [e]
     have n:=Nw.also (X:=X) (s':= { w.s with heap:=h',toks:=tk }) I.toHR (LSm.kept_iter hk)
     exact k.2 _ _ n (.bl _)
   ·exact k.elim
  ·exact k.elim
 ·exact k.elim
theorem DM{f:Ax}(hg:Gl X "reversed")(hm:X.mg "reversed"=none)(hr:Gl X "range")(mr:X.mg "range"=none)(ha:RA X [a] f)(hs:starEach [a] X.env= [(false,eval a X.env)]:=by rfl)
  (he:starEach [.Call (.Name "range" p2) [a] [] p3] X.env= [(false,eval (.Call (.Name "range" p2) [a] [] p3) X.env)]:=by rfl):RI X tg (.Call (.Name "reversed" p0) [.Call (.Name "range" p2) [a] [] p3] [] p1) (wf f):=⟨fun I p=>by
 refine Call_ (I.blt hg hm (show bootBuiltins "reversed"=some (.type "reversed") by decide+kernel) (PyProof.Rows.callWith_type1 ?_ he rfl))
 rw [he]
 refine (show wpAny _ _ (spliced ((false,eval (.Call (.Name "range" p2) [a] [] p3) X.env):: [])) _ _ _ from Calls.spliced_cons ?_)
 refine wpAny_Call_Name_kw (I.blt hr mr boot_range (PyProof.Rows.callWith_type1 (ha.r p3 I (p.bind fun w _ ps us y r p=>?_)) hs rfl) (by decide) (by decide))
 split at p
 ·rename_i j
  split at p
  ·rename_i hz
   have hz':=bV.mp hz.2
   obtain ⟨u,rfl,r1⟩:=r.one
   cases r1
   rename_i t
   refine call_range_1 ?_
   refine Calls.spliced_nil ?_
   have rg:=IsRange.new w.s.heap 0 j 1 w.s.toks t (w.s.toks+1)
   have n:=Nw.also (X:=X) (s':= { w.s with heap:=w.s.heap.push { cls:=.type "range",data:=.fields #[.int 0 w.s.toks,.int j t,.int 1 (w.s.toks+1)] },toks:=w.s.toks+1+1 }) y.2 fun b o e=>Heap.get?_push_of_some _ e
   refine AI (s:= { w.s with heap:=w.s.heap.push { cls:=.type "range",data:=.fields #[.int 0 w.s.toks,.int j t,.int 1 (w.s.toks+1)] },toks:=w.s.toks+1+1 }) rg (by omega) (by omega) ?_
   have ej:((j.toNat:Nat):Int)=j:=by omega
   have st:IsRangeIter (((w.s.heap.push { cls:=.type "range",data:=.fields #[.int 0 w.s.toks,.int j t,.int 1 (w.s.toks+1)] })).push (rdO (j - 1) j)) (w.s.heap.push { cls:=.type "range",data:=.fields #[.int 0 w.s.toks,.int j t,.int 1 (w.s.toks+1)] }).objs.size (j - 1+((0:Nat):Int) * (-1)) ((j.toNat:Int) - ((0:Nat):Int)) (-1):=by
    rw [show j - 1+((0:Nat):Int) * (-1)=j - 1 by omega,show (j.toNat:Int) - ((0:Nat):Int)=j by omega]
    exact Heap.get?_push_size _ rfl
   refine wpAny_pyIter_rangeiter st (ItR.new ((I.on y).on n) (y.1.trans n.1) (ik (n:=j.toNat) (src:= []) (fun A hA=>Walks.range hA _ (j - 1) (-1) _) (by simp) (fun b hb=>nomatch hb) (fun i g st=>⟨_,_,_,st,rfl,rfl,by decide⟩) fun i p v e h=>?_) st rfl (p.step n))
   obtain ⟨t,rfl⟩:=h
   rw [List.getElem?_map] at e
   obtain ⟨q,e',rfl⟩:=Option.map_eq_some_iff.mp e
   obtain rfl:i=q:=by have:=List.getElem?_eq_some_iff.mp e';simpa using this.2
   rw [show j - 1+(i:Int) * (-1)=j - 1 - (i:Int) by omega];exact .int _ t
  ·exact p.elim
 ·exact p.elim⟩
end
end Z
namespace L2
open PySem PySem.Spec PyProof.Rows
section
variable {prog:Program} {w:World} {A:Around} {E:Value→Shared→Prop} {s:Shared} {it t:Addr} {i:Nat} {items:Array Value}
theorem uR{Q:Value→Shared→Prop}(hit:s.heap.IsTupleIter it t i)
  (go:wpAny (model prog w) A.in1 (Builtin.«tuple_iterator.__next__» ⟨[.ref it],[]⟩) (fun fin s'=>∃ v,fin= .done (.ret v)∧Q v s') E s):wpAny (model prog w) A (Builtin.SmallTypes.nextOf (.ref it)) Q E s:=by
 have ty:=hit.typeIs
 have c:=wpAny_callSpecial?_slot (E:=E) (name:="__next__") (Q:=fun r s'=>∃ v,r=some v∧Q v s') ty F.slot_tuple_iterator_next (wpAny_call_entry F.slot_tuple_iterator_next ty F.entry_tuple_iterator_next (wpAny_mono go (fun fin s' ⟨v,e,q⟩=>⟨v,e,v,rfl,q⟩) fun _ _ z=>z) (F.args_tuple_iterator_next_1 _))
 unfold Builtin.SmallTypes.nextOf
 exact wpAny_bind (wpAny_mono c (fun r s' ⟨v,e,q⟩=>by subst e;exact wpAny_pure q) fun _ _ z=>z)
theorem zI{x:Value}{Q:Value→Shared→Prop}(hit:s.heap.IsTupleIter it t i)(ht:s.heap.IsTuple t items)(hx:items[i]? =some x)(hQ:∀ h',h'.IsTupleIter it t (i+1)→Heap.SameBut it s.heap h'→Q x { s with heap:=h' }):
  wpAny (model prog w) A (Builtin.«tuple_iterator.__next__» ⟨[.ref it],[]⟩) (fun fin s'=>∃ v,fin= .done (.ret v)∧Q v s') E s:=by
 obtain ⟨o,ho,hc,hd⟩:=id hit
 obtain ⟨p,hp,_,n,hdp⟩:=ht
 have nn:¬ ((Value.ref t==Value.none)=true):=Bool.false_ne_true
 refine (show wpAny (model prog w) A (field (.ref it) 0 >>= _) _ E s from wpAny_bind (wpAny_field ho hd (x:=.ref t) rfl ?_))
 refine (show wpAny (model prog w) A (if (Value.ref t==Value.none)=true then _ else _) _ E s from ?_)
 rw [if_neg nn]
 refine (show wpAny (model prog w) A (field (.ref it) 1 >>= _) _ E s from wpAny_bind (wpAny_field ho hd (x:=.int i 0) rfl ?_))
 refine (show wpAny (model prog w) A (seqItems? (.ref t) >>= _) _ E s from wpAny_bind (wpAny_seqItems hp hdp ?_))
 simp only [Int.toNat_natCast,hx]
 have st:∀ f,(o.mapFields f).data= .fields (f #[.ref t,.int i 0]):=fun f=>Obj.data_mapFields hd f
 refine wpAny_bind (wpAny_setField ho hd (by simp) (wpAny_pure ⟨x,rfl,hQ _ ⟨_,Heap.get?_update_self _ ho (Obj.isFreed_of_fields (Obj.data_mapFields hd _)),?_,?_⟩ (Heap.SameBut.update ..)⟩))
 ·rw [Obj.cls_mapFields];exact hc
 ·rw [Obj.data_mapFields hd];simp [rawInt]
theorem Bp{Q:Fin→Shared→Prop}(hh:A.handled=none)(hit:s.heap.IsTupleIter it t i)(ht:s.heap.IsTuple t items)(hx:items[i]? =none)
  (hE:∀ h' e,Heap.ExtBut it s.heap h'→(∃ o,h'.get? e=some o∧o.cls= .type "StopIteration")→E (.ref e) { s with heap:=h' }):
  wpAny (model prog w) A (Builtin.«tuple_iterator.__next__» ⟨[.ref it],[]⟩) Q E s:=by
 obtain ⟨o,ho,hc,hd⟩:=id hit
 obtain ⟨p,hp,_,n,hdp⟩:=ht
 have nn:¬ ((Value.ref t==Value.none)=true):=Bool.false_ne_true
 refine (show wpAny (model prog w) A (field (.ref it) 0 >>= _) _ E s from wpAny_bind (wpAny_field ho hd (x:=.ref t) rfl ?_))
 refine (show wpAny (model prog w) A (if (Value.ref t==Value.none)=true then _ else _) _ E s from ?_)
 rw [if_neg nn]
 refine (show wpAny (model prog w) A (field (.ref it) 1 >>= _) _ E s from wpAny_bind (wpAny_field ho hd (x:=.int i 0) rfl ?_))
 refine (show wpAny (model prog w) A (seqItems? (.ref t) >>= _) _ E s from wpAny_bind (wpAny_seqItems hp hdp ?_))
 simp only [Int.toNat_natCast,hx]
 refine wpAny_bind (wpAny_rule (wpAny_bind (wpAny_setField ho hd (by simp) (wpAny_bind ?_))))
 simp only [newExc,newTuple]
 refine wpAny_bind (wpAny_newObj_type (wpAny_bind (m:=firstArgMember _ _) (wpAny_of_eq (a:=Value.none) (by first | rfl | (simp only [firstArgMember];rfl)) (wpAny_newObj_type ?_ (by size_fits)))) (by size_fits))
 simp only [raiseNew]
 refine wpAny_bind (wpAny_handled ?_)
 rw [hh]
 exact wpAny_bind (wpAny_pure (wpAny_throw (hE _ _ (((Heap.SameBut.update ..).extBut.push _).push _) ⟨_,Heap.get?_push_size _ rfl,rfl⟩)))
theorem ID(hh:A.handled=none)(ne:t≠it):Draws prog w A.in1 it [it,t] items.size (fun j v=>items[j]? =some v) (fun j h=>h.IsTupleIter it t j∧h.IsTuple t items) where
 live:=fun j h st=>by obtain ⟨o,ho,_⟩:=st.1;exact ⟨o,ho⟩
 frame:=fun j h h' st k=>by
  obtain ⟨⟨o,ho,r⟩,⟨p,hp,q⟩⟩:=st
  exact ⟨⟨o,k _ (by simp) o ho,r⟩,⟨p,k _ (by simp) p hp,q⟩⟩
 item:=fun j s Q E hj st hQ=>uR st.1 (zI st.1 st.2 (x:=items[j]) (by simp [hj]) fun h' st' sb=>hQ _ h' s.toks (by simp [hj]) ⟨st',st.2.extBut sb.extBut ne⟩ sb)
 done:=fun s Q E st hE=>uR st.1 (Bp (A:=A.in1.in1) hh st.1 st.2 (by simp) hE)
def yO(a:Addr):Obj:= { cls:=.type "enumerate",data:=.fields #[.none,.bool false,.ref a,rawInt 0,.none,.none] }
def jJ(a:Addr):Obj:= { cls:=.type "tuple_iterator",data:=.fields #[.ref a,.int 0 0] }
theorem Aj(a:Addr)(xs:Array Value)(o:Obj)(hc:o.cls= .type "tuple")(n:Nat)(hd:o.data= .seq xs n):Meets (Builtin.«enumerate.__new__» ⟨[.type "enumerate",.ref a],[]⟩) (fun _ R s=>s.heap.get? a=some o∧
   R (.ok (.ret (.ref (s.heap.push (jJ a)).objs.size))) { s with heap:=(s.heap.push (jJ a)).push (yO s.heap.objs.size) }):=
 .of_wp fun P1 w1 A1 R s ⟨hl,h⟩=>by
  cases s with
  | mk hp gs dd tk os=>
  have sub:=sub_enumerate
  have tt:Heap.IsTuple hp a xs:=⟨o,hl,hc,n,hd⟩
  wp_walk using AutoSeq1.wpAny_loadPart' hl
  refine wpAny_stack_any fun st=>wpAny_pure ?_
  split
  ·rename_i c _ _ _ _ _
   by_cases e:(c==Value.type "enumerate")=true
   ·rw [e];wp_walk using AutoSeq1.wpAny_loadPart' hl,wpAny_pyIter_tuple tt;exact ⟨_,rfl,h⟩
   ·rw [Bool.not_eq_true] at e;rw [e];wp_walk using AutoSeq1.wpAny_loadPart' hl,wpAny_pyIter_tuple tt;exact ⟨_,rfl,h⟩
  ·wp_walk using AutoSeq1.wpAny_loadPart' hl,wpAny_pyIter_tuple tt;exact ⟨_,rfl,h⟩
theorem xQ{Q:Value→Shared→Prop}(ht:s.heap.IsTuple t items)(h:Q (.ref (s.heap.objs.size+1)) { s with heap:=(s.heap.push (jJ t)).push (yO s.heap.objs.size) }):wpAny (model prog w) A (call (.type "enumerate") [.ref t]) Q E s:=by
 obtain ⟨o,ho,hc,n,hd⟩:=ht
 have z:(s.heap.push (jJ t)).objs.size=s.heap.objs.size+1:=Heap.size_push ..
 have g:=Heap.get?_push_size (s.heap.push (jJ t)) (o:=yO s.heap.objs.size) rfl
 refine callType_new F.called_enumerate (by decide) (F.typeCall_enumerate_1 _) (F.newCall_enumerate_1 _) (fun obj=>F.args_object_init_2 obj _) F.entry_enumerate_new (Aj t items o hc n hd) ⟨ho,?_⟩
 exact ⟨⟨_,g,rfl⟩,by rw [z];exact h⟩
end
end L2
namespace L2
open PySem PySem.Spec PyProof.Rows
structure Zap(z ti to i1 i2:Addr)(f1 f2:List Addr):Prop where
 a1:ti≠z
 a2:to≠z
 a3:i1≠z
 a4:i2≠z
 a5:ti≠to
 a6:ti≠i1
 a7:ti≠i2
 a8:to≠i1
 a9:to≠i2
 z1:z∉f1
 z2:z∉f2
 t1:to∉f1
 t2:to∉f2
 o1:i2∉f1
 o2:i1∉f2
section
variable {prog:Program} {w:World} {A:Around} {E:Value→Shared→Prop} {s:Shared} {z ti to i1 i2:Addr} {f1 f2:List Addr} {n1 n2:Nat} {P1 P2:Nat→Value→Prop} {S1 S2:Nat→Heap→Prop}
theorem Draws.but{it c:Addr}{fp:List Addr}{n:Nat}{P:Nat→Value→Prop}{St:Nat→Heap→Prop}(D:Draws prog w A it fp n P St){j:Nat}{h h':Heap}(st:St j h)(e:Heap.ExtBut c h h')(nc:c∉fp):St j h':=
 D.frame j h h' st fun b hb o q=>e b o (fun y=>nc (y▸hb)) q
theorem AM{j:Nat}{a b:Value}{Q:Value→Shared→Prop}(Z:Zap z ti to i1 i2 f1 f2)(D1:Draws prog w A i1 f1 n1 P1 S1)(D2:Draws prog w A i2 f2 n2 P2 S2)
  (hz:IsZip s.heap z ti to .none) (hti:IsPair s.heap ti (.ref i1) (.ref i2)) (hto:IsPair s.heap to a b) (s1:S1 j s.heap) (s2:S2 j s.heap) (l1:j<n1) (l2:j<n2)
  (hQ:∀ x y h' tk,P1 j x→P2 j y→IsZip h' z ti to (rawInt s.heap.objs.size)→IsPair h' to x y→S1 (j+1) h'→S2 (j+1) h'→IsPair h' s.heap.objs.size x y→h'.objs.size=s.heap.objs.size+1→
   (∀ c o,c≠z→c≠to→c≠i1→c≠i2→s.heap.get? c=some o→h'.get? c=some o)→Q (.ref s.heap.objs.size) { s with heap:=h',toks:=tk }):
  wpAny (model prog w) A (Builtin.«zip.__next__» ⟨[.ref z],[]⟩) (fun fin s'=>∃ v,fin= .done (.ret v)∧Q v s') E s:=by
 refine (show wpAny (model prog w) A (field (.ref z) 2 >>= _) _ E s from wpAny_bind (wpAny_field hz rfl (x:=.bool false) rfl ?_))
 refine (show wpAny (model prog w) A (field (.ref z) 3 >>= _) _ E s from wpAny_bind (wpAny_field hz rfl (x:=.ref ti) rfl (wpAny_bind (wpAny_seqItems hti rfl ?_))))
 refine (show wpAny (model prog w) A ((field (.ref z) 0 >>= _) >>= _) _ E s from wpAny_bind (wpAny_bind (wpAny_field hz rfl (x:=.none) rfl (wpAny_pure ?_))))
 rw [if_pos (by rfl)]
 refine wpAny_bind (wpAny_rule (wpAny_bind (wpAny_field hz rfl (x:=.ref to) rfl (wpAny_bind (wpAny_setField_rec hz (by simp) fun g1 zg b1=>?_)))))
 have zg:IsZip g1 z ti to .ellipsis:=zg
 rw [show (#[Value.ref i1,.ref i2]:Array Value).toList.zipIdx= [(Value.ref i1,0),(.ref i2,1)] from rfl]
 refine wpAny_bind ?_
 rw [List.forIn_cons]
 refine wpAny_bind (wpAny_bind (wpAny_onRaise ?_))
 refine (show wpAny (model prog w) A (Builtin.SmallTypes.nextOf (.ref i1) >>= _) _ _ _ from wpAny_bind (D1.item j _ _ _ l1 (Draws.but D1 s1 b1.extBut Z.z1) fun x g2 k2 px t1 b2=>wpAny_pure ?_))
 have to2:IsPair g2 to a b:=b2.extBut _ _ Z.a8 (b1.extBut _ _ Z.a2 hto)
 refine wpAny_bind (wpAny_seqItems to2 rfl (wpAny_bind (wpAny_updateSeq_pair to2 fun g3 to3 b3=>wpAny_bind (wpAny_letGo (wpAny_pure ?_)))))
 have to3:IsPair g3 to x b:=to3
 dsimp only
 rw [List.forIn_cons]
 refine wpAny_bind (wpAny_bind (wpAny_onRaise ?_))
 refine (show wpAny (model prog w) A (Builtin.SmallTypes.nextOf (.ref i2) >>= _) _ _ _ from wpAny_bind (D2.item j _ _ _ l2 (Draws.but D2 (Draws.but D2 (Draws.but D2 s2 b1.extBut Z.z2) b2.extBut Z.o2) b3.extBut Z.t2) fun y g4 k4 py t2 b4=>wpAny_pure ?_))
 have to4:IsPair g4 to x b:=b4.extBut _ _ Z.a9 to3
 refine wpAny_bind (wpAny_seqItems to4 rfl (wpAny_bind (wpAny_updateSeq_pair to4 fun g5 to5 b5=>wpAny_bind (wpAny_letGo (wpAny_pure ?_)))))
 have to5:IsPair g5 to x y:=to5
 dsimp only
 rw [List.forIn_nil]
 refine wpAny_pure (wpAny_bind (wpAny_seqItems to5 rfl (wpAny_bind (wpAny_newTuple ?_))))
 have kz:∀ c o,c≠to→c≠i1→c≠i2→g1.get? c=some o→g5.get? c=some o:=fun c o c1 c2 c3 q=>b5.extBut _ _ c1 (b4.extBut _ _ c3 (b3.extBut _ _ c1 (b2.extBut _ _ c2 q)))
 have z5:IsZip g5 z ti to .ellipsis:=kz _ _ (Ne.symm Z.a2) (Ne.symm Z.a3) (Ne.symm Z.a4) zg
 have sz:g5.objs.size=s.heap.objs.size:=by rw [b5.1,b4.1,b3.1,b2.1,b1.1]
 have u1:S1 (j+1) g5:=Draws.but D1 (Draws.but D1 (Draws.but D1 t1 b3.extBut Z.t1) b4.extBut Z.o1) b5.extBut Z.t1
 have u2:S2 (j+1) g5:=Draws.but D2 t2 b5.extBut Z.t2
 have z6:IsZip (g5.push { cls:=.type "tuple",data:=.seq #[x,y] }) z ti to .ellipsis:=Heap.get?_push_of_some _ z5
 refine (show wpAny (model prog w) A ((setField (.ref z) 0 _ >>= _) >>= _) _ E _ from wpAny_bind (wpAny_bind (wpAny_setField_rec z6 (by simp) fun g7 z7 b7=>?_)))
 refine (show wpAny (model prog w) A (setField (.ref z) 1 _) _ E _ from wpAny_setField_rec (show IsZip g7 z ti to (rawInt g5.objs.size) from z7) (by simp) fun g8 z8 b8=>?_)
 have z8:IsZip g8 z ti to (rawInt g5.objs.size):=z8
 have lz:z<g5.objs.size:=Heap.lt_size z5
 have p8:IsPair g8 g5.objs.size x y:=b8.extBut _ _ (Nat.ne_of_gt lz) (b7.extBut _ _ (Nat.ne_of_gt lz) (Heap.get?_push_size _ rfl))
 have k8:∀ c o,c≠z→g5.get? c=some o→g8.get? c=some o:=fun c o c1 q=>b8.extBut _ _ c1 (b7.extBut _ _ c1 (Heap.get?_push_of_some _ q))
 have s8:g8.objs.size=g5.objs.size+1:=by rw [b8.1,b7.1,Heap.size_push]
 have v1:S1 (j+1) g8:=D1.frame _ _ _ u1 fun c hc o q=>k8 c o (fun y=>Z.z1 (y▸hc)) q
 have v2:S2 (j+1) g8:=D2.frame _ _ _ u2 fun c hc o q=>k8 c o (fun y=>Z.z2 (y▸hc)) q
 rw [sz] at z8 p8 s8
 refine wpAny_pure ⟨_,rfl,?_⟩
 have q:=hQ x y g8 k4 px py z8 (k8 _ _ Z.a2 to5) v1 v2 p8 s8 fun c o c1 c2 c3 c4 q=>k8 c o c1 (kz c o c2 c3 c4 (b1.extBut _ _ c1 q))
 rw [← sz] at q
 exact q
theorem Dp{j:Nat}{a b:Value}{R:Fin→Shared→Prop}(Z:Zap z ti to i1 i2 f1 f2)(D1:Draws prog w A i1 f1 n1 P1 S1)(D2:Draws prog w A i2 f2 n2 P2 S2)
  (hz:IsZip s.heap z ti to .none) (hti:IsPair s.heap ti (.ref i1) (.ref i2)) (hto:IsPair s.heap to a b) (s1:S1 j s.heap) (s2:S2 j s.heap) (l:j=n1∨(j<n1∧j=n2))
  (hE:∀ h' e tk,(∀ c o,c≠z→c≠to→c≠i1→c≠i2→s.heap.get? c=some o→h'.get? c=some o)→(∃ o,h'.get? e=some o∧o.cls= .type "StopIteration")→E (.ref e) { s with heap:=h',toks:=tk }):
  wpAny (model prog w) A (Builtin.«zip.__next__» ⟨[.ref z],[]⟩) R E s:=by
 refine (show wpAny (model prog w) A (field (.ref z) 2 >>= _) _ E s from wpAny_bind (wpAny_field hz rfl (x:=.bool false) rfl ?_))
 refine (show wpAny (model prog w) A (field (.ref z) 3 >>= _) _ E s from wpAny_bind (wpAny_field hz rfl (x:=.ref ti) rfl (wpAny_bind (wpAny_seqItems hti rfl ?_))))
 refine (show wpAny (model prog w) A ((field (.ref z) 0 >>= _) >>= _) _ E s from wpAny_bind (wpAny_bind (wpAny_field hz rfl (x:=.none) rfl (wpAny_pure ?_))))
 rw [if_pos (by rfl)]
 refine wpAny_bind (wpAny_rule (wpAny_bind (wpAny_field hz rfl (x:=.ref to) rfl (wpAny_bind (wpAny_setField_rec hz (by simp) fun g1 zg b1=>?_)))))
 have zg:IsZip g1 z ti to .ellipsis:=zg
 rw [show (#[Value.ref i1,.ref i2]:Array Value).toList.zipIdx= [(Value.ref i1,0),(.ref i2,1)] from rfl]
 refine wpAny_bind ?_
 rw [List.forIn_cons]
 refine wpAny_bind (wpAny_bind (wpAny_onRaise ?_))
 have go:∀ (g:Heap) (e:Addr) (k:Nat),IsZip g z ti to .ellipsis→(∀ c o,c≠z→c≠to→c≠i1→c≠i2→s.heap.get? c=some o→g.get? c=some o)→(∃ o,g.get? e=some o∧o.cls= .type "StopIteration")→
   wpAny (model prog w) A (setField (.ref z) 0 .none) (fun _ s'=>E (.ref e) s') E { s with heap:=g,toks:=k }:=fun g e k zz kk ⟨oe,q1,q2⟩=>by
  have ne:e≠z:=fun y=>by subst y;rw [zz] at q1;cases q1;simp at q2
  exact wpAny_setField_rec zz (by simp) fun g' _ bb=>hE g' e k (fun c o c1 c2 c3 c4 q=>bb.extBut _ _ c1 (kk c o c1 c2 c3 c4 q)) ⟨oe,bb.extBut _ _ ne q1,q2⟩
 rcases l with l | ⟨l1,l⟩
 ·subst l
  refine (show wpAny (model prog w) A (Builtin.SmallTypes.nextOf (.ref i1) >>= _) _ _ _ from wpAny_bind (D1.done _ _ _ (Draws.but D1 s1 b1.extBut Z.z1) fun g2 e b2 q=>?_))
  exact go g2 e _ (b2 _ _ (Ne.symm Z.a3) zg) (fun c o c1 _ c3 _ q=>b2 _ _ c3 (b1.extBut _ _ c1 q)) q
 ·subst l
  refine (show wpAny (model prog w) A (Builtin.SmallTypes.nextOf (.ref i1) >>= _) _ _ _ from wpAny_bind (D1.item j _ _ _ l1 (Draws.but D1 s1 b1.extBut Z.z1) fun x g2 k2 px t1 b2=>wpAny_pure ?_))
  have to2:IsPair g2 to a b:=b2.extBut _ _ Z.a8 (b1.extBut _ _ Z.a2 hto)
  refine wpAny_bind (wpAny_seqItems to2 rfl (wpAny_bind (wpAny_updateSeq_pair to2 fun g3 to3 b3=>wpAny_bind (wpAny_letGo (wpAny_pure ?_)))))
  dsimp only
  rw [List.forIn_cons]
  refine wpAny_bind (wpAny_bind (wpAny_onRaise ?_))
  refine (show wpAny (model prog w) A (Builtin.SmallTypes.nextOf (.ref i2) >>= _) _ _ _ from wpAny_bind (D2.done _ _ _ (Draws.but D2 (Draws.but D2 (Draws.but D2 s2 b1.extBut Z.z2) b2.extBut Z.o2) b3.extBut Z.t2) fun g4 e b4 q=>?_))
  exact go g4 e _ (b4 _ _ (Ne.symm Z.a4) (b3.extBut _ _ (Ne.symm Z.a2) (b2.extBut _ _ (Ne.symm Z.a3) zg))) (fun c o c1 c2 c3 c4 q=>b4 _ _ c4 (b3.extBut _ _ c2 (b2.extBut _ _ c3 (b1.extBut _ _ c1 q)))) q
theorem BV{j:Nat}{a b:Value}{Q:Option Value→Shared→Prop}(Z:Zap z ti to i1 i2 f1 f2)(D1:Draws prog w A.in1 i1 f1 n1 P1 S1)(D2:Draws prog w A.in1 i2 f2 n2 P2 S2)
  (hz:IsZip s.heap z ti to .none) (hti:IsPair s.heap ti (.ref i1) (.ref i2)) (hto:IsPair s.heap to a b) (s1:S1 j s.heap) (s2:S2 j s.heap) (l1:j<n1) (l2:j<n2)
  (hQ:∀ x y h' tk,P1 j x→P2 j y→IsZip h' z ti to (rawInt s.heap.objs.size)→IsPair h' to x y→S1 (j+1) h'→S2 (j+1) h'→IsPair h' s.heap.objs.size x y→h'.objs.size=s.heap.objs.size+1→
   (∀ c o,c≠z→c≠to→c≠i1→c≠i2→s.heap.get? c=some o→h'.get? c=some o)→Q (some (.ref s.heap.objs.size)) { s with heap:=h',toks:=tk }):wpAny (model prog w) A (pyNext (.ref z)) Q E s:=by
 have ty:s.TypeIs (.ref z) "zip":=⟨_,hz,rfl⟩
 unfold pyNext
 exact wpAny_bind (wpAny_attempt (wpAny_callSpecial?_slot (name:="__next__") ty F.slot_zip_next (wpAny_call_entry F.slot_zip_next ty F.entry_zip_next (AM Z D1 D2 hz hti hto s1 s2 l1 l2 fun x y h' tk p1 p2 q1 q2 q3 q4 q5 q6 q7=>wpAny_pure (hQ x y h' tk p1 p2 q1 q2 q3 q4 q5 q6 q7)) (F.args_zip_next_1 _))))
theorem Ch{j:Nat}{a b:Value}{Q:Option Value→Shared→Prop}(Z:Zap z ti to i1 i2 f1 f2)(D1:Draws prog w A.in1 i1 f1 n1 P1 S1)(D2:Draws prog w A.in1 i2 f2 n2 P2 S2)
  (hz:IsZip s.heap z ti to .none) (hti:IsPair s.heap ti (.ref i1) (.ref i2)) (hto:IsPair s.heap to a b) (s1:S1 j s.heap) (s2:S2 j s.heap) (l:j=n1∨(j<n1∧j=n2))
  (hQ:∀ h' tk,(∀ c o,c≠z→c≠to→c≠i1→c≠i2→s.heap.get? c=some o→h'.get? c=some o)→Q none { s with heap:=h',toks:=tk }):wpAny (model prog w) A (pyNext (.ref z)) Q E s:=by
 have ty:s.TypeIs (.ref z) "zip":=⟨_,hz,rfl⟩
 unfold pyNext
 refine wpAny_bind (wpAny_attempt (wpAny_callSpecial?_slot (name:="__next__") ty F.slot_zip_next (wpAny_call_entry F.slot_zip_next ty F.entry_zip_next (Dp Z D1 D2 hz hti hto s1 s2 l fun h' e tk kk ⟨o,q1,q2⟩=>?_) (F.args_zip_next_1 _))))
 exact wpAny_bind (wpAny_isInstance (T:="StopIteration") (b:=true) ⟨o,q1,q2⟩ isSubtype_stop (wpAny_pure (hQ _ _ kk)))
def yp(a b:Value):Obj:= { cls:=.type "tuple",data:=.seq #[a,b] }
def IZ(a b:Addr):Obj:= { cls:=.type "zip",data:=.fields #[.none,.bool false,.bool false,.ref a,.ref b] }
abbrev zh2(h:Heap)(a b:Addr):Heap:=(h.push (jJ a)).push (jJ b)
abbrev zh3(h:Heap)(a b:Addr):Heap:=(zh2 h a b).push (yp (.ref h.objs.size) (.ref (h.push (jJ a)).objs.size))
abbrev zh4(h:Heap)(a b:Addr):Heap:=(zh3 h a b).push (yp .none .none)
abbrev zh5(h:Heap)(a b:Addr):Heap:=(zh4 h a b).push (IZ (zh2 h a b).objs.size (zh3 h a b).objs.size)
theorem BW(a b:Addr)(xs ys:Array Value):Meets (Builtin.«zip.__new__» ⟨[.type "zip",.ref a,.ref b],[]⟩) (fun _ R s=>s.heap.IsTuple a xs∧s.heap.IsTuple b ys∧R (.ok (.ret (.ref (zh4 s.heap a b).objs.size))) { s with heap:=zh5 s.heap a b }):=
 .of_wp fun P1 w1 A1 R s ⟨ta,tb,h⟩=>by
  cases s with
  | mk hp gs dd tk os=>
  have sub:=sub_zip
  have t1:Heap.IsTuple hp a xs:=ta
  have t2:Heap.IsTuple (hp.push (jJ a)) b ys:=by obtain ⟨o,q,r⟩:=tb;exact ⟨o,Heap.get?_push_of_some _ q,r⟩
  wp_walk using wpAny_pyIter_tuple t1,wpAny_pyIter_tuple t2
  exact ⟨_,rfl,h⟩
end
end L2
namespace L2
open PySem PySem.Spec PyProof.Rows
section
variable {prog:Program} {w:World} {A:Around} {E:Value→Shared→Prop} {s:Shared}
theorem AH{a b:Addr}{xs ys:Array Value}{Q:Value→Shared→Prop}(ta:s.heap.IsTuple a xs)(tb:s.heap.IsTuple b ys)
  (h:∀ h',(∀ c o,s.heap.get? c=some o→h'.get? c=some o)→h'.get? s.heap.objs.size=some (jJ a)→h'.get? (s.heap.objs.size+1)=some (jJ b)→IsPair h' (s.heap.objs.size+2) (.ref s.heap.objs.size) (.ref (s.heap.objs.size+1))→IsPair h' (s.heap.objs.size+3) .none .none→
   IsZip h' (s.heap.objs.size+4) (s.heap.objs.size+2) (s.heap.objs.size+3) .none→Q (.ref (s.heap.objs.size+4)) { s with heap:=h' }):wpAny (model prog w) A (call (.type "zip") [.ref a,.ref b]) Q E s:=by
 refine callType_new F.called_zip (by decide) (F.typeCall_zip_2 _ _) (F.newCall_zip_2 _ _) (fun obj=>F.args_object_init_3 obj _ _) F.entry_zip_new (BW a b xs ys) ⟨ta,tb,?_⟩
 have z1:(s.heap.push (jJ a)).objs.size=s.heap.objs.size+1:=Heap.size_push ..
 have z2:(zh2 s.heap a b).objs.size=s.heap.objs.size+2:=by rw [Heap.size_push,z1]
 have z3:(zh3 s.heap a b).objs.size=s.heap.objs.size+3:=by rw [Heap.size_push,z2]
 have z4:(zh4 s.heap a b).objs.size=s.heap.objs.size+4:=by rw [Heap.size_push,z3]
 have up:∀ {h:Heap} {o p:Obj} {c:Addr},h.get? c=some o→(h.push p).get? c=some o:=fun e=>Heap.get?_push_of_some _ e
 have g0:(zh5 s.heap a b).get? s.heap.objs.size=some (jJ a):=up (up (up (up (Heap.get?_push_size _ rfl))))
 have g1:(zh5 s.heap a b).get? (s.heap.push (jJ a)).objs.size=some (jJ b):=up (up (up (Heap.get?_push_size _ rfl)))
 have g2:(zh5 s.heap a b).get? (zh2 s.heap a b).objs.size=some (yp (.ref s.heap.objs.size) (.ref (s.heap.push (jJ a)).objs.size)):=up (up (Heap.get?_push_size _ rfl))
 have g3:(zh5 s.heap a b).get? (zh3 s.heap a b).objs.size=some (yp .none .none):=up (Heap.get?_push_size _ rfl)
 have g4:(zh5 s.heap a b).get? (zh4 s.heap a b).objs.size=some (IZ (zh2 s.heap a b).objs.size (zh3 s.heap a b).objs.size):=Heap.get?_push_size _ rfl
 rw [z1] at g1
 rw [z2,z1] at g2
 rw [z3] at g3
 rw [z4,z2,z3] at g4
 have q:=h (zh5 s.heap a b) (fun c o e=>up (up (up (up (up e))))) g0 g1 g2 g3 g4
 refine ⟨⟨_,by rw [z4];exact g4,rfl⟩,?_⟩
 rw [z4]
 exact q
theorem Dq(n a b:Nat)(la:a<n)(lb:b<n):Zap (n+4) (n+2) (n+3) n (n+1) [n,a] [n+1,b]:=by
 have l:∀ {i j:Nat},i<j→(n+i:Nat)≠n+j:=fun h=>Nat.ne_of_lt (Nat.add_lt_add_left h n)
 have m:∀ {x y z:Nat},x≠y→x≠z→x∉ [y,z]:=fun h1 h2 h=>by
  rcases List.mem_cons.mp h with q | q
  ·exact h1 q
  ·exact h2 (List.mem_singleton.mp q)
 have g:∀ {i c:Nat},c<n→(n+i:Nat)≠c:=fun h=>Nat.ne_of_gt (Nat.lt_of_lt_of_le h (Nat.le_add_right n _))
 have d:∀ {i j:Nat},i>j→(n+i:Nat)≠n+j:=fun h=>Ne.symm (l h)
 exact ⟨l (i:=2) (by decide),l (i:=3) (by decide),l (i:=0) (j:=4) (by decide),l (i:=1) (by decide),l (i:=2) (by decide),d (i:=2) (j:=0) (by decide),d (i:=2) (by decide),d (i:=3) (j:=0) (by decide),d (i:=3) (by decide),
  m (d (i:=4) (j:=0) (by decide)) (g la),m (d (i:=4) (by decide)) (g lb),m (d (i:=3) (j:=0) (by decide)) (g la),m (d (i:=3) (by decide)) (g lb),m (d (i:=1) (j:=0) (by decide)) (g la),m (l (i:=0) (by decide)) (g (i:=0) lb)⟩
end
end L2
namespace L3
open PySem L2
def enL:Nat→List PV→List PV
 | _,[]=> []
 | n,x::r=>.tup [.int n,x]::enL (n+1) r
def FA(ps:List PV)(h:List PO):Res (List PV):=match ps with
 | [.tup xs]=>.ok (enL 0 xs) h
 | [.lst xs]=>.ok (enL 0 xs) h
 | _=>.bad
def Dh(f:Ax):Ax:=fun ρ h=>(f ρ h).bind FA
def zpL:List PV→List PV→List PV
 | x::r,y::t=>.tup [x,y]::zpL r t
 | _,_=> []
def AK(ps:List PV)(h:List PO):Res (List PV):=match ps with
 | [.tup xs,.tup ys]=>.ok (zpL xs ys) h
 | _=>.bad
def FM(f:Ax):Ax:=fun ρ h=>(f ρ h).bind AK
end L3
namespace Z
open PySem PySem.Spec PyProof.Rows L3 L2
section
variable {G:SC} {X:Cx} {w w0 w1:Wo} {ρ:Ev} {h:List PO} {s':Shared} {fp:List Addr} {a b e it:Addr} {o:Obj} {its jts:Array Value} {xs ys:List PV} {J:Nat→Heap→Prop} {elts:List Expr} {k:Nat} {pos p0 p1:Pos}
theorem yQ:∀ {xs:List PV} {n i:Nat} {p:PV},(enL n xs)[i]? =some p→∃ x,xs[i]? =some x∧p= .tup [.int ((n+i:Nat):Int),x]
 | [],_,_,_,e=>by simp [enL] at e
 | x::r,n,0,p,e=>by cases e;exact ⟨x,rfl,rfl⟩
 | x::r,n,i+1,p,e=>by obtain ⟨y,e1,rfl⟩:=yQ (xs:=r) (n:=n+1) (i:=i) e;exact ⟨y,e1,by rw [show n+1+i=n+(i+1) by omega]⟩
theorem yP:∀ (xs:List PV) (n:Nat),(enL n xs).length=xs.length
 | [],_=>rfl
 | x::r,n=>by simp [enL,yP r]
theorem xV:∀ {xs ys:List PV} {i:Nat} {p:PV},(zpL xs ys)[i]? =some p→∃ x y,xs[i]? =some x∧ys[i]? =some y∧p= .tup [x,y]
 | [],_,_,_,e=>by simp [zpL] at e
 | _::_,[],_,_,e=>by simp [zpL] at e
 | x::r,y::t,0,p,e=>by cases e;exact ⟨x,y,rfl,rfl,rfl⟩
 | x::r,y::t,i+1,p,e=>xV (xs:=r) (ys:=t) (i:=i) e
theorem xU:∀ (xs ys:List PV),(zpL xs ys).length=min xs.length ys.length
 | [],_=>by simp [zpL]
 | _::_,[]=>by simp [zpL]
 | x::r,y::t=>by simp [zpL,xU r t]
theorem sP(H:HR G w h)(f:∀ b∈fp,∃ o,Has w b o)(k:∀ b o,b∉fp→w.s.heap.get? b=some o→s'.heap.get? b=some o)(ho:s'.os=w.s.os:=by rfl)(hg:s'.gens=w.s.gens:=by rfl):Pv fp w { w with s:=s' }∧HR G { w with s:=s' } h:=
 ⟨⟨ho,fun q=>hg▸q,fun _ _ e=>e,fun _ _ e=>e,⟨[],by simp⟩,fun b o n e=>⟨o,k b o n e⟩,fun b o n q=>⟨k b o n q.1,q.2⟩⟩,H.on fun b o e z=>k b o (fun q=>let ⟨_,r⟩:=f b q;z r.2) e⟩
theorem yc(H:HR G w h)(f:∀ b∈fp,∃ o,Has w b o)(n:w.s.heap.get? a=none)(k:∀ b o,b∉fp→w.s.heap.get? b=some o→s'.heap.get? b=some o)(e:s'.heap.get? a=some o)(ho:s'.os=w.s.os:=by rfl)(hg:s'.gens=w.s.gens:=by rfl):Pv fp w ⟨iw w.F a o,w.O,w.m,s'⟩∧HR G ⟨iw w.F a o,w.O,w.m,s'⟩ h:=by
 obtain ⟨x,y⟩:=sP H f k ho hg
 have na:∀ {b o},w.s.heap.get? b=some o→b≠a:=fun q z=>by rw [z,n] at q;cases q
 have hF:=(H.free n).2.1
 exact ⟨⟨ho,fun q=>hg▸q,cP hF,fun _ _ e=>e,⟨[],by simp⟩,x.dom,fun b o n q=>let ⟨q1,q2⟩:=x.keep b o n q;⟨q1,q2.1,cQ (na q.1) q2.2.1,q2.2.2⟩⟩,y.freeze ⟨e,H.free n⟩⟩
structure Sq(G:SC)(w0:Wo)(a it:Addr)(its:Array Value)(J:Nat→Heap→Prop):Prop where
 keep:∀ j g g',J j g→(∀ o,g.get? it=some o→g'.get? it=some o)→J j g'
 ob:∀ j g,J j g→∃ o,g.get? it=some o
 dr:∀ {A:Around} {w:Wo} {h:List PO},A.handled=none→Lat w0 w→HR G w h→∃ S,Draws G.prog G.w A.in1 it [it,a] its.size (fun j v=>its[j]? =some v) S∧(∀ j,J j w.s.heap→S j w.s.heap)∧∀ j g,S j g→J j g
theorem wq{n:Nat}(ne:a≠it)(e:w0.F a=some { cls:=.type "tuple",data:=.seq its n }):Sq G w0 a it its (fun j g=>g.IsTupleIter it a j) where
 keep:=fun j g g' ⟨o,ho,r⟩ k=>⟨o,k o ho,r⟩
 ob:=fun j g ⟨o,ho,_⟩=>⟨o,ho⟩
 dr hh l H:=⟨_,ID hh ne,fun j q=>⟨q,⟨_,H.at (l.1 _ _ e),rfl,_,rfl⟩⟩,fun j g q=>q.1⟩
theorem GN{n:Nat}(ne:a≠it)(e:w0.F a=some { cls:=.type "list",data:=.seq its n }):Sq G w0 a it its (fun j g=>g.IsListIter it a j) where
 keep:=fun j g g' ⟨o,ho,r⟩ k=>⟨o,k o ho,r⟩
 ob:=fun j g ⟨o,ho,_⟩=>⟨o,ho⟩
 dr {A w h} hh l H:=⟨_,Draws.list (A:=A.in1) hh it a ne its,fun j q=>⟨q,⟨_,H.at (l.1 _ _ e),rfl,_,rfl⟩⟩,fun j g q=>q.1⟩
theorem Fb(S:Sq G w0 a it its J)(r:av G w0.F w0.m xs its.toList)(ne:e≠it)(n1:a≠e):AJ G w0 (.Tuple elts k pos) (enL 0 xs) e [e,it] (fun i g=>(∃ old,IsEnum g e it i old)∧J i g) where
 keep l1 H1 l2 H2 st q:=by obtain ⟨⟨old,he⟩,hi⟩:=st;exact ⟨⟨old,q e (by simp) _ he⟩,S.keep _ _ _ hi fun o ho=>q it (by simp) _ ho⟩
 item {A w h i p Q E} hh l H st hx f q:=by
  obtain ⟨⟨old,he⟩,hi⟩:=st
  obtain ⟨x,ex,rfl⟩:=yQ hx
  obtain ⟨u,hu,ru⟩:=r.get ex
  obtain ⟨St,D,t1,t2⟩:=S.dr hh l H
  have hlt:i<its.size:=(List.getElem?_eq_some_iff.mp hu).1
  refine wpAny_pyNext_enum_itemD D he (t1 _ hi) hlt ne (by simp [ne,Ne.symm n1]) fun u' h' tk hu' ho hi' ht hsz hk=>⟨_,rfl,?_⟩
  have:u'=u:=by rw [Array.getElem?_toList] at hu;rw [hu] at hu';cases hu';rfl
  subst this
  refine wpAny_letOwnedTupleGo_enum ho fun h2 he2 sb=>?_
  have lt:e<w.s.heap.objs.size:=Heap.lt_size he
  have kk:∀ b o,b∉ [e,it]→w.s.heap.get? b=some o→h2.get? b=some o:=fun b o nb q=>by
   simp only [List.mem_cons,List.not_mem_nil,or_false,not_or] at nb
   exact (sb.2 b nb.1).trans (hk b o nb.1 nb.2 q)
  have ht2:h2.get? w.s.heap.objs.size=some { cls:=.type "tuple",data:=.seq #[.int i tk,u'] }:=(sb.2 _ (Nat.ne_of_gt lt)).trans ht
  obtain ⟨a1,a2⟩:=yc (s':= { w.s with heap:=h2,toks:=tk+1 }) H f (aM _) kk ht2
  have hi2:J (i+1) h2:=S.keep _ _ _ (t2 _ _ hi') fun o q=>(sb.2 it (Ne.symm ne)).trans q
  have fr:∀ b∈ [e,it],∃ o,Has ⟨iw w.F w.s.heap.objs.size { cls:=.type "tuple",data:=.seq #[.int i tk,u'] },w.O,w.m,{ w.s with heap:=h2,toks:=tk+1 }⟩ b o:=fun b hb=>by
   obtain ⟨o,q⟩:=f b hb
   have nb:b≠w.s.heap.objs.size:=fun z=>by have q:=q.1;rw [z,aM] at q;cases q
   have:∃ o,h2.get? b=some o:=by
    simp only [List.mem_cons,List.not_mem_nil,or_false] at hb
    rcases hb with rfl | rfl
    ·exact ⟨_,he2⟩
    ·exact S.ob _ _ hi2
   obtain ⟨o',q'⟩:=this
   exact ⟨o',q',q.2.1,cQ nb q.2.2.1,q.2.2.2⟩
  refine q _ _ a1 a2 ⟨⟨u',by simpa using he2⟩,hi2⟩ fr ?_
  exact .tup bu (by show 2≤sizeLine;decide) (.cons (by simpa using .int i tk) (.cons ((ru.mono l.1 (.inr l.2)).mono (cP (H.free (aM _)).2.1) (.inr fun _ _ e=>e)) .nil))
 done {A w h i Q E} hh l H st hx f q:=by
  obtain ⟨⟨old,he⟩,hi⟩:=st
  obtain ⟨St,D,t1,t2⟩:=S.dr hh l H
  rw [yP,r.len] at hx
  subst hx
  refine wpAny_pyNext_enum_endD D he (t1 _ hi) fun h' eb=>⟨rfl,?_⟩
  obtain ⟨a1,a2⟩:=sP (fp:= [e,it]) (s':= { w.s with heap:=h' }) H f fun b o nb q=>eb b o (by simp only [List.mem_cons,List.not_mem_nil,or_false,not_or] at nb;exact nb.2) q
  exact q _ a1 a2
 self hh st q:=by obtain ⟨⟨old,he⟩,hi⟩:=st;exact wpAny_pyIter_enum he q
variable {Q:Value→Shared→Prop} {E:Value→Shared→Prop} {tg:Expr} {f:Ax} {ae be:Expr}
theorem ItR.of{tn:Nat→Heap→Prop}{h':Heap}{tk:Nat}(I:Inv X w ρ h)(y:Stp X.fs NoW w0 w)(kp:∀ b o,w.s.heap.get? b=some o→h'.get? b=some o)(T:AJ X.toSC w tg xs it fp tn)(t:tn 0 h')(fr:∀ b∈fp,w.s.heap.objs.size≤b∧∃ o,h'.get? b=some o)(p:bH X (ItR X tg w0) w Q E (.ok xs h)):Q (.ref it) { w.s with heap:=h',toks:=tk }:=by
 have n:=Nw.also (X:=X) (s':= { w.s with heap:=h',toks:=tk }) I.toHR kp
 refine p.2 _ _ n ⟨_,fp,tn,rfl,⟨T.keep,T.item,T.done,T.self⟩,t,fun b hb=>?_⟩
 obtain ⟨l,o,q⟩:=fr b hb
 have nb:w.s.heap.get? b=none:=by
  cases q:w.s.heap.get? b with
  | none=>rfl
  | some o=>exact absurd (Nat.lt_of_lt_of_le (Heap.lt_size q) l) (Nat.lt_irrefl _)
 refine ⟨⟨o,q,I.toHR.free nb⟩,I.out nb,?_⟩
 cases q:w0.s.heap.get? b with
 | none=>rfl
 | some o=>obtain ⟨o',q'⟩:=y.dom _ _ q;rw [nb] at q';cases q'
theorem DN(hg:Gl X "enumerate")(hm:X.mg "enumerate"=none)(ha:RA X [ae] f)(hs:starEach [ae] X.env= [(false,eval ae X.env)]:=by rfl):RI X (.Tuple elts k pos) (.Call (.Name "enumerate" p0) [ae] [] p1) (Dh f):=⟨fun {w0 ρ h Q E} I p=>Call_ (I.blt hg hm (show bootBuiltins "enumerate"=some (.type "enumerate") by decide+kernel) (PyProof.Rows.callWith_type1 (ha.r p1 I (p.bind fun w1 h1 ps us y r p=>by
 have fin:∀ {a:Addr} {its:Array Value} {J:Nat→Heap→Prop} {xs:List PV} {h':Heap},Sq X.toSC w1 a w1.s.heap.objs.size its J→av X.toSC w1.F w1.m xs its.toList→a<w1.s.heap.objs.size→(∀ b o,w1.s.heap.get? b=some o→h'.get? b=some o)→IsEnum h' (w1.s.heap.objs.size+1) w1.s.heap.objs.size 0 .none→J 0 h'→bH X (ItR X (.Tuple elts k pos) w0) w1 Q E (.ok (enL 0 xs) h1)→Q (.ref (w1.s.heap.objs.size+1)) { w1.s with heap:=h',toks:=w1.s.toks }:=fun {a its J xs h'} S rr la kk hE hJ p=>ItR.of (tk:=w1.s.toks) (I.on y) y.1 kk (Fb (elts:=elts) (k:=k) (pos:=pos) S rr (Nat.succ_ne_self _) (Nat.ne_of_lt (Nat.lt_succ_of_lt la))) ⟨⟨_,hE⟩,hJ⟩ (fun b hb=>by
  simp only [List.mem_cons,List.not_mem_nil,or_false] at hb
  rcases hb with rfl | rfl
  ·exact ⟨Nat.le_succ _,_,hE⟩
  ·exact ⟨Nat.le_refl _,S.ob _ _ hJ⟩) p
 unfold FA at p
 split at p
 ·obtain ⟨u,rfl,r1⟩:=r.one
  cases r1 with
  | tup e z rr=>
   rename_i a its n
   have t:=y.2.at e
   have la:=Heap.lt_size t
   refine xQ (t:=a) (items:=its) ⟨_,t,rfl,_,rfl⟩ ?_
   have zz:(w1.s.heap.push (jJ a)).objs.size=w1.s.heap.objs.size+1:=Heap.size_push ..
   have g:=Heap.get?_push_size (w1.s.heap.push (jJ a)) (o:=yO w1.s.heap.objs.size) rfl
   rw [zz] at g
   exact wpAny_pyIter_enum (it:=w1.s.heap.objs.size) (i:=0) (old:=.none) g (fin (wq (Nat.ne_of_lt la) e) rr la (fun b o e=>Heap.get?_push_of_some _ (Heap.get?_push_of_some _ e)) g ⟨_,Heap.get?_push_of_some _ (Heap.get?_push_size _ rfl),rfl,rfl⟩ p)
 ·obtain ⟨u,rfl,r1⟩:=r.one
  cases r1 with
  | lst e z rr=>
   rename_i a its n
   have t:=y.2.at e
   have la:=Heap.lt_size t
   exact call_enumerate_list (items:=its) ⟨_,t,rfl,_,rfl⟩ fun h2 hE hI hsz kk=>wpAny_pyIter_enum hE (fin (GN (Nat.ne_of_lt la) e) rr la kk hE hI p)
 ·exact p.elim)) hs rfl))⟩
end
end Z
namespace Z
open PySem PySem.Spec PyProof.Rows L3 L2
section
variable {G:SC} {X:Cx} {w w0 w1:Wo} {ρ:Ev} {h:List PO} {a b z ti to i1 i2:Addr} {its jts:Array Value} {xs ys:List PV} {J1 J2:Nat→Heap→Prop} {elts:List Expr} {k:Nat} {pos p0 p1:Pos} {f:Ax} {ae be:Expr}
theorem Im(S1:Sq G w0 a i1 its J1)(S2:Sq G w0 b i2 jts J2)(r1:av G w0.F w0.m xs its.toList)(r2:av G w0.F w0.m ys jts.toList)(Z:Zap z ti to i1 i2 [i1,a] [i2,b]):AJ G w0 (.Tuple elts k pos) (zpL xs ys) z [z,ti,to,i1,i2] (fun i g=>IsZip g z ti to .none∧IsPair g ti (.ref i1) (.ref i2)∧(∃ u v,IsPair g to u v)∧J1 i g∧J2 i g) where
 keep l1 H1 l2 H2 st q:=by
  obtain ⟨hz,h1,⟨u,v,h2⟩,s1,s2⟩:=st
  exact ⟨q z (by simp) _ hz,q ti (by simp) _ h1,⟨u,v,q to (by simp) _ h2⟩,S1.keep _ _ _ s1 fun o ho=>q i1 (by simp) _ ho,S2.keep _ _ _ s2 fun o ho=>q i2 (by simp) _ ho⟩
 item {A w h i p Q E} hh l H st hx f q:=by
  obtain ⟨hz,h1,⟨u0,v0,h2⟩,s1,s2⟩:=st
  obtain ⟨x,y,ex,ey,rfl⟩:=xV hx
  obtain ⟨u,hu,ru⟩:=r1.get ex
  obtain ⟨v,hv,rv⟩:=r2.get ey
  obtain ⟨T1,D1,t1,t1'⟩:=S1.dr hh l H
  obtain ⟨T2,D2,t2,t2'⟩:=S2.dr hh l H
  refine BV Z D1 D2 hz h1 h2 (t1 _ s1) (t2 _ s2) (List.getElem?_eq_some_iff.mp hu).1 (List.getElem?_eq_some_iff.mp hv).1 fun u' v' h' tk pu pv z' p' q1 q2 pr sz kk=>⟨_,rfl,?_⟩
  rw [Array.getElem?_toList] at hu hv
  rw [hu] at pu
  cases pu
  rw [hv] at pv
  cases pv
  refine wpAny_letOwnedTupleGo_zip z' fun h2' z2 sb=>?_
  have lt:z<w.s.heap.objs.size:=Heap.lt_size hz
  have kk2:∀ b o,b∉ [z,ti,to,i1,i2]→w.s.heap.get? b=some o→h2'.get? b=some o:=fun b o nb q=>by
   simp only [List.mem_cons,List.not_mem_nil,or_false,not_or] at nb
   exact (sb.2 b nb.1).trans (kk b o nb.1 nb.2.2.1 nb.2.2.2.1 nb.2.2.2.2 q)
  have pr2:IsPair h2' w.s.heap.objs.size u v:=(sb.2 _ (Nat.ne_of_gt lt)).trans pr
  have up:∀ b o,b≠z→h'.get? b=some o→h2'.get? b=some o:=fun b o nb q=>(sb.2 b nb).trans q
  obtain ⟨a1,a2⟩:=yc (s':= { w.s with heap:=h2',toks:=tk }) H f (aM _) kk2 pr2
  have st2:IsZip h2' z ti to .none∧IsPair h2' ti (.ref i1) (.ref i2)∧(∃ u v,IsPair h2' to u v)∧J1 (i+1) h2'∧J2 (i+1) h2':=⟨z2,up _ _ Z.a1 (kk _ _ Z.a1 Z.a5 Z.a6 Z.a7 h1),⟨u,v,up _ _ Z.a2 p'⟩,S1.keep _ _ _ (t1' _ _ q1) fun o q=>up _ _ Z.a3 q,S2.keep _ _ _ (t2' _ _ q2) fun o q=>up _ _ Z.a4 q⟩
  refine q _ _ a1 a2 st2 (fun b hb=>?_) ?_
  ·obtain ⟨o,q⟩:=f b hb
   have nb:b≠w.s.heap.objs.size:=fun z=>by have q:=q.1;rw [z,aM] at q;cases q
   have:∃ o,h2'.get? b=some o:=by
    obtain ⟨g1,g2,⟨_,_,g3⟩,g4,g5⟩:=st2
    simp only [List.mem_cons,List.not_mem_nil,or_false] at hb
    rcases hb with rfl | rfl | rfl | rfl | rfl
    ·exact ⟨_,g1⟩
    ·exact ⟨_,g2⟩
    ·exact ⟨_,g3⟩
    ·exact S1.ob _ _ g4
    ·exact S2.ob _ _ g5
   obtain ⟨o',q'⟩:=this
   exact ⟨o',q',q.2.1,cQ nb q.2.2.1,q.2.2.2⟩
  ·have up:=cP (o:= { cls:=.type "tuple",data:=.seq #[u,v] }) (H.free (aM w.s.heap)).2.1
   exact .tup bu (by show 2≤sizeLine;decide) (.cons ((ru.mono l.1 (.inr l.2)).mono up (.inr fun _ _ e=>e)) (.cons ((rv.mono l.1 (.inr l.2)).mono up (.inr fun _ _ e=>e)) .nil))
 done {A w h i Q E} hh l H st hx f q:=by
  obtain ⟨hz,h1,⟨u0,v0,h2⟩,s1,s2⟩:=st
  obtain ⟨T1,D1,t1,t1'⟩:=S1.dr hh l H
  obtain ⟨T2,D2,t2,t2'⟩:=S2.dr hh l H
  rw [xU,r1.len,r2.len] at hx
  refine Ch Z D1 D2 hz h1 h2 (t1 _ s1) (t2 _ s2) (by omega) fun h' tk kk=>⟨rfl,?_⟩
  obtain ⟨a1,a2⟩:=sP (fp:= [z,ti,to,i1,i2]) (s':= { w.s with heap:=h',toks:=tk }) H f fun b o nb q=>by
   simp only [List.mem_cons,List.not_mem_nil,or_false,not_or] at nb
   exact kk b o nb.1 nb.2.2.1 nb.2.2.2.1 nb.2.2.2.2 q
  exact q _ a1 a2
 self hh st q:=wpAny_pyIter_zip st.1 q
theorem Bq(hg:Gl X "zip")(hm:X.mg "zip"=none)(ha:RA X [ae,be] f)(hs:starEach [ae,be] X.env=(false,eval ae X.env)::starEach [be] X.env:=by rfl)(hpl:(backTo p1 (starEach [be] X.env)).any (·.1)=false:=by rfl):RI X (.Tuple elts k pos) (.Call (.Name "zip" p0) [ae,be] [] p1) (FM f):=⟨fun {w0 ρ h Q E} I p=>Call_ (I.blt hg hm (show bootBuiltins "zip"=some (.type "zip") by decide+kernel) (PyProof.Rows.callWith_type1 (ha.r p1 I (p.bind fun w1 h1 ps us y r p=>by
 unfold AK at p
 split at p
 ·obtain ⟨u,v,rfl,r1,r2⟩:=r.two
  cases r1 with
  | tup e1 z1 rr1=>
   cases r2 with
   | tup e2 z2 rr2=>
    rename_i a its n b jts m
    have t1:=y.2.at e1
    have t2:=y.2.at e2
    have la:=Heap.lt_size t1
    have lb:=Heap.lt_size t2
    refine AH (a:=a) (b:=b) (xs:=its) (ys:=jts) ⟨_,t1,rfl,_,rfl⟩ ⟨_,t2,rfl,_,rfl⟩ fun h' kk g0 g1 g2 g3 g4=>wpAny_pyIter_zip g4 ?_
    exact ItR.of (tk:=w1.s.toks) (I.on y) y.1 kk (Im (elts:=elts) (k:=k) (pos:=pos) (wq (Nat.ne_of_lt la) e1) (wq (Nat.ne_of_lt (Nat.lt_succ_of_lt lb)) e2) rr1 rr2 (Dq w1.s.heap.objs.size a b la lb)) ⟨g4,g2,⟨_,_,g3⟩,⟨_,g0,rfl,rfl⟩,⟨_,g1,rfl,rfl⟩⟩ (fun c hc=>by
     simp only [List.mem_cons,List.not_mem_nil,or_false] at hc
     rcases hc with rfl | rfl | rfl | rfl | rfl
     ·exact ⟨Nat.le_add_right _ _,_,g4⟩
     ·exact ⟨Nat.le_add_right _ _,_,g2⟩
     ·exact ⟨Nat.le_add_right _ _,_,g3⟩
     ·exact ⟨Nat.le_refl _,_,g0⟩
     ·exact ⟨Nat.le_succ _,_,g1⟩) p
 ·exact p.elim)) hs hpl))⟩
end
end Z
namespace L3
open PySem L2
def Gg:PV→Option (Nat×Bool)
 | .ins C _=>some (C,false)
 | .exc C=>some (C,true)
 | .exa C _=>some (C,true)
 | _=>none
def Jm(sC:Nat→Nat→Option Bool)(sT:Nat→String→Option Bool)(C:Nat):PV→Option Bool
 | .cls D=>sC C D
 | .ty t=>sT C t
 | _=>none
def ir(kd:Nat→Option Bool)(sC:Nat→Nat→Option Bool)(sT:Nat→String→Option Bool)(ps:List PV)(h:List PO):Res PV:=match ps with
 | [p,q]=>match Gg p with
  | some (C,b)=>if kd C=some b then (match Jm sC sT C q with
   | some r=>.ok (.bl r) h
   | none=>.bad) else .bad
  | none=>.bad
 | _=>.bad
def yB:List (Nat×Nat×Bool)→Nat→Nat→Option Bool
 | [],_,_=>none
 | (a,b,r)::l,C,D=>if a=C∧b=D then some r else yB l C D
def Lk(P:Nat→Nat→Bool→Prop):List (Nat×Nat×Bool)→Prop
 | []=>True
 | (a,b,r)::l=>P a b r∧Lk P l
theorem rR{P:Nat→Nat→Bool→Prop}:∀ {l:List (Nat×Nat×Bool)} {C D:Nat} {r:Bool},Lk P l→yB l C D=some r→P C D r
 | [],_,_,_,_,e=>by cases e
 | (a,b,q)::l,C,D,r,h,e=>by
  unfold yB at e
  split at e
  ·rename_i z
   obtain ⟨rfl,rfl⟩:=z
   cases e
   exact h.1
  ·exact rR h.2 e
end L3
namespace Z
open PySem PySem.Spec PyProof.Rows L3 L2
structure uj(K:PySem.W.Frag):Prop where
 get:PySem.W.specialIn K (.builtin "object.__class__") "__get__"=some (some (.builtin "getset_descriptor.__get__"))
 tk:PySem.W.takesIn K (.builtin "object.__class__")=some true
structure kx(K:PySem.W.Frag)(C:Addr):Prop where
 at_:PySem.W.findIn K (.ref C) "__class__"=some (some (.builtin "object.__class__"))
 mo:PySem.W.mroIn K C (.type "object")=some true
 is_:(PySem.W.clsIn K C).isSome=true
theorem vk{K:PySem.W.Frag}{a C:Addr}(g:uj K)(c:kx K C)(x:qN K C):PySem.W.KitX K (.ref a) (.ref C) (fun h=>∃ o vs,h.get? a=some o∧o.cls= .ref C∧o.data= .fields vs):=by
 obtain ⟨cd,hcd⟩:=Option.isSome_iff_exists.mp c.is_
 obtain ⟨oc,od,osl,hlk⟩:∃ oc od osl,K.lookup C=some ⟨oc,od,.cls cd,osl⟩:=by
  unfold PySem.W.clsIn at hcd
  split at hcd
  ·rename_i c1 d1 cd1 s1 z;cases hcd;exact ⟨_,_,_,z⟩
  ·cases hcd
 have ty:∀ (M:Model) (h:Heap),(∃ o vs,h.get? a=some o∧o.cls= .ref C∧o.data= .fields vs)→PySem.W.Looks M h (typeOf (.ref a)) (.ref C):=fun M h ⟨o,vs,h1,h2,_⟩=>h2▸(PySem.W.Looks.ld h1).andThen .now
 refine ⟨fun M h _ p=>ty M h p,fun M h kin _=>?_,fun h tp dd its n sl kin htp=>?_,fun {prog w A E Q s} kin p q=>?_⟩
 ·intro A' Q' E' s' k z
  unfold isType loadHead
  exact wpAny_bind (wpAny_loadPart (k _ _ (kin _ _ hlk)) (wpAny_pure z))
 ·refine Bool.eq_false_iff.mpr fun z=>?_
  cases beq_iff_eq.mp z
  have:=(kin _ _ hlk).symm.trans htp
  cases this
 ·exact Dt x kin (ty _ _ p) c.at_ g.get g.tk c.mo q
structure Gw(K:PySem.W.Frag)(T:Nat→Option Addr)(kd:Nat→Option Bool)(sC:Nat→Nat→Option Bool)(sT:Nat→String→Option Bool):Prop where
 g:uj K
 ins:∀ C a,kd C=some false→T C=some a→Cls K a∧kx K a
 exc:∀ C a,kd C=some true→T C=some a→qN K a∧kx K a
 cls:∀ C D a b r,sC C D=some r→T C=some a→T D=some b→PySem.W.kitOne K (.ref a) (.ref b)=some r
 ty:∀ C t a r,sT C t=some r→T C=some a→PySem.W.kitOne K (.ref a) (.type t)=some r
section
variable {G:SC} {X:Cx} {w w0 w1:Wo} {ρ:Ev} {h:List PO} {x:Str} {pos:Pos}
theorem kW{kd:Nat→Option Bool}{sC:Nat→Nat→Option Bool}{sT:Nat→String→Option Bool}(tb:Gw X.K X.T kd sC sT):OpC X (.builtin "isinstance") (ir kd sC sT):=fun ok {w h p u Q E} I rs k=>by
 unfold ir at k
 split at k
 ·obtain ⟨u,v,rfl,r1,r2⟩:=rs.two
  split at k
  ·rename_i C bb kp
   split at k
   ·rename_i hk
    split at k
    ·rename_i b e
     show Wp X (call (.builtin "isinstance") [u,v]) Q E w.s
     have fin:∀ tk,Q (.bool b) { w.s with toks:=tk }:=fun tk=>k.now I.toHR (.bl _)
     have KI:=I.kIn ok
     have kit:∀ {Ca:Addr},X.T C=some Ca→PySem.W.kitOne X.K (.ref Ca) v=some b:=fun {Ca} t=>by
      unfold Jm at e
      split at e
      ·cases r2 with | cls c=>exact tb.cls _ _ _ _ _ e t c
      ·cases r2;exact tb.ty _ _ _ _ e t
      ·cases e
     unfold Gg at kp
     split at kp<;>cases kp
     ·cases r1 with
      | ins c e1 d n=>
       obtain ⟨cl,kc⟩:=tb.ins _ _ hk c
       obtain ⟨od,J,_⟩:=OM.look (fs:= []) ⟨I.toHR.at e1,_,I.toHR.at d,n⟩
       exact PySem.W.kia_one (PySem.W.kitx_own cl.pg cl.hd kc.at_ tb.g.get tb.g.tk kc.mo) KI J (kit c) (fun z=>nomatch z) fin
     ·cases r1 with
      | exc c e1 oc d=>
       obtain ⟨xc,kc⟩:=tb.exc _ _ hk c
       exact PySem.W.kia_one (vk tb.g kc xc) KI ⟨_,_,I.toHR.at e1,oc,d⟩ (kit c) (fun z=>nomatch z) fin
     ·cases r1 with
      | exa c e1 oc d _ _ _ _ _=>
       obtain ⟨xc,kc⟩:=tb.exc _ _ hk c
       exact PySem.W.kia_one (vk tb.g kc xc) KI ⟨_,_,I.toHR.at e1,oc,d⟩ (kit c) (fun z=>nomatch z) fin
    ·exact k.elim
   ·exact k.elim
  ·exact k.elim
 ·exact k.elim
theorem rE{F:Fz}{m:List Addr}:∀ {ls:List (List Nat)} {us:List Value},StrsAre us (ls.map S)→av G F m (ls.map PV.str) us
 | [],_,.nil=>.nil
 | l::r,_,.cons _ t h=>.cons (.str l t) (rE h)
theorem Bs{a:Addr}{ls:List (List Nat)}{its:Array Value}{n:Nat}(hg:Gl X x)(hm:X.mg x=some (.ref a))(e:X.base.get? a=some { cls:=.type "tuple",data:=.seq its n })(z:its.size≤sizeLine)(s:StrsAre its.toList (ls.map S))(hd:(x==("__debug__":Str))=false:=by decide):RE X (.Name x pos) (cK (.tup (ls.map PV.str))):=mx hg hm (fun F m k=>.tup (k _ _ e) z (rE s)) hd
end
end Z
namespace L3
open PySem L2
def ya(p:PV)(h:List PO):Res PV:=match dcR h p with
 | some kps=>.ok (.lst (kps.map (·.2))) h
 | none=>.bad
def Da(f:Ex):Ex:=fun ρ h=>(f ρ h).bind ya
end L3
namespace Z
open PySem PySem.Spec PyProof.Rows L3 L2
section
variable {G:SC} {X:Cx} {w w0 w1:Wo} {ρ:Ev} {h:List PO} {o a b:Expr} {fo fa fb:Ex} {pos p0 apos cpos:Pos}
theorem DR(ha:RE X a fa)(hb:RE X b fb):RE X (.BinOp a .Mult b pos) (c2 rJ fa fb):=qb Ga ha hb
theorem DQ(hg:Gl X "list")(hm:X.mg "list"=none)(ho:RE X o fo)(hc:X.calm=true:=by rfl)
  (hbase:attributeBase o "values" X.env (eval o X.env)=eval o X.env:=by rfl) (hline:(apos.endLine==cpos.line)=true:=by rfl)
  (he:starEach [.Call (.Attribute o "values" apos) [] [] cpos] X.env= [(false,eval (.Call (.Attribute o "values" apos) [] [] cpos) X.env)]:=by rfl) (hpl:(backTo pos (starEach [] X.env)).any (·.1)=false:=by rfl):
  RE X (.Call (.Name "list" p0) [.Call (.Attribute o "values" apos) [] [] cpos] [] pos) (Da fo):=⟨fun {w ρ h Q E} I p=>by
 refine wpAny_Call_Name_kw (I.blt hg hm (show bootBuiltins "list"=some (.type "list") by decide+kernel) (callWith_type1 ?_ he hpl) (by decide) (by decide))
 rw [he]
 refine (show wpAny _ _ (spliced ((false,eval (.Call (.Attribute o "values" apos) [] [] cpos) X.env):: [])) _ _ _ from Calls.spliced_cons ?_)
 refine wpAny_Call_method0_late hbase hline (ho.r I (p.bind fun w1 h1 q u y r k=>?_))
 unfold ya at k
 split at k
 ·obtain ⟨a,kvs,rfl,sm,d,rr⟩:=y.2.dc r ‹_›
  have d':=d
  obtain ⟨od,es,ep,g1,g2,g3⟩:=d'
  refine ⟨"dict","dict.values",PySem.F.plainAttrs_dict,PySem.F.slot_dict_values,PySem.F.type_dict_values,d.typeIs,fun b q=>(by cases q;exact ⟨od,g1,g2.2.1⟩),Calls.callWith_builtin rfl (PySem.evalArgs_none ?_)⟩
  refine call_meetsIn PySem.F.slot_dict_values d.typeIs PySem.F.entry_dict_values (PySem.F.args_dict_values_1 _) (meets_dict_values (pk X.prog X.w) a sm) ⟨⟨kvs,d⟩,?_⟩
  refine Calls.spliced_nil ?_
  have kp:∀ b o,w1.s.heap.get? b=some o→(w1.s.heap.push { cls:=.type "dict_values",data:=.fields #[.ref a] }).get? b=some o:=fun b o e=>Heap.get?_push_of_some _ e
  have n:=Nw.also (X:=X) (s':= { w1.s with heap:=w1.s.heap.push { cls:=.type "dict_values",data:=.fields #[.ref a] } }) y.2 kp
  have hv:(w1.s.heap.push { cls:=.type "dict_values",data:=.fields #[.ref a] }).IsValuesView w1.s.heap.objs.size a:=⟨_,Heap.get?_push_size _ rfl,rfl,rfl⟩
  have d2:(w1.s.heap.push { cls:=.type "dict_values",data:=.fields #[.ref a] }).DictOf (pk X.prog X.w) a kvs:=⟨od,es,ep,kp _ _ g1,g2,g3⟩
  obtain ⟨ep2,da⟩:=d2.dictAt
  refine PySem.W.kdl_call (s:= { w1.s with heap:=w1.s.heap.push { cls:=.type "dict_values",data:=.fields #[.ref a] } }) (PySem.W.kdl_values (knd:=pk X.prog X.w) (kvs:=kvs) (ep:=ep2)) (I.ok.hd hc) ⟨hv,da⟩ rr.1 fun h' tk acc c hk hl itm=>?_
  have el:acc.toList=kvs.map (·.2):=by
   refine List.ext_getElem? fun j=>?_
   rw [List.getElem?_map]
   by_cases hj:j<kvs.length
   ·have hj':j<acc.size:=by rw [itm.1];exact hj
    obtain ⟨k,e⟩:=itm.2 j acc[j] (Array.getElem?_eq_getElem hj')
    rw [e]
    simp [hj']
   ·have hj':¬ j<acc.size:=by rw [itm.1];exact hj
    rw [List.getElem?_eq_none (by simpa using hj'),List.getElem?_eq_none (by simpa using hj)];rfl
  exact (k.step n).seqAt (its:=acc) n.2 (aM _) hk hl rfl (by rw [el];exact rr.2.2) (by rw [itm.1];exact rr.1)
 ·exact k.elim⟩
end
end Z
namespace Z
open PySem PySem.Spec PyProof.Rows L3 L2
section
variable {X:Cx} {w w1:Wo} {ρ:Ev} {h:List PO}
theorem uC{elt iter tg:Expr}{ifs:List Expr}{scope:Scope}{it:Ax}{tt:Tx}{te:Ex}{M vs:List Str}{g:Gx}{pos py spos:Pos}{y:Str}{iy:Nat}(caps:List Nat)(hc:X.calm=true)(S:dO X.N X.env.scope scope caps vs M)(hi:RI X tg iter it)(hg:∀ cl C,RG (cx X M scope cl C) tg g)(ht:∀ cl C,RFs (cx X M scope cl C) ifs tt)(he:∀ cl C,RE (cx X M scope cl C) elt te)
  (gm:∀ q cp ρ1,g q (List.replicate vs.length none++cp)=some ρ1→∃ l,l.length=vs.length∧ρ1=l++cp) (hy:X.N[iy]? =some y) (hLy:X.env.scope.names.lookup y=some .local) (hsw:swapsWith (.ListComp elt [⟨tg,iter,ifs,0⟩] scope pos) (some (.Name y py)) spos.line X.env=pure true)
  (hs:∀ y,foldedSetIterable iter X.env y=pure y:=by intro _;rfl):RS X (.Assign [.Name y py] (.ListComp elt [⟨tg,iter,ifs,0⟩] scope pos) spos) (aU iy (cN uZ (iq vs.length g caps it tt te))):=⟨fun {w0 ρ h Q E} I p=>by
 rw [exec_Assign_Name_used _ _ _ _ hsw]
 refine wpAny_bind<|wpAny_standAt<|wpAny_bind ?_
 show wpAny _ X.A (comprehension (.ListComp elt [⟨tg,iter,ifs,0⟩] scope pos) scope X.env _ (newList []) false (eval iter X.env) (some (assign (.Name y py) X.env)) >>= fun _=>pure ()) _ _ w0.s
 refine wpAny_bind<|wpAny_mono (wpAny_comprehension_free (use:=some (assign (.Name y py) X.env)) (Q:=fun _ s'=>Q .next s') rfl hs (lu fun n hn=>I.ok.has n (S.free _ hn rfl)) S.kind S.names ?_) (fun _ _ z=>wpAny_pure (wpAny_pure z)) fun _ _ z=>z
 have p:bF X w0 Q E (iG (it ρ h) fun xs h1=>iG (if xs.length<sizeLine then (fB g tt te (List.replicate vs.length none++dh caps ρ) xs h1).calm else .bad) fun ps h2=>iG (uZ ps h2) fun v h3=>.nx (ρ.set iy (some v)) h3):=by
  unfold aU eH cN iq at p
  cases e:it ρ h with
  | ok xs h1=>
   rw [e] at p
   revert p
   show bF X w0 Q E (iG (((if xs.length<sizeLine then (fB g tt te (List.replicate vs.length none++dh caps ρ) xs h1).calm else .bad):Res (List PV)).bind uZ) _)→bF X w0 Q E (iG (if xs.length<sizeLine then (fB g tt te (List.replicate vs.length none++dh caps ρ) xs h1).calm else .bad) _)
   generalize (if xs.length<sizeLine then (fB g tt te (List.replicate vs.length none++dh caps ρ) xs h1).calm else .bad:Res (List PV))=rr
   cases rr<;>exact id
  | exc _ _=>rw [e] at p;exact p
  | bad=>rw [e] at p;exact p
 refine hi.r I (bF.e0 p I fun w h1 xs v y0 I1 rr p=>?_)
 split at p
 ·rename_i hz
  refine sB (use:=some (assign (.Name y py) X.env)) (Q:=fun _ s=>Q .next s) (K:=fun ps h=>bF X w0 Q E (iG (uZ ps h) fun v h3=>.nx (ρ.set iy (some v)) h3)) caps hc S hg ht he gm I y0 rr hz (by
   revert p
   cases fB g tt te (List.replicate vs.length none++dh caps ρ) xs h1<;>first | exact id | exact fun z=>bF.ep z |>.elim) fun {w2 h2 ps its D C oC m} y2 H2 nD nC DC hl n l f ra z k=>?_
  obtain ⟨nn,e1⟩:=l
  have sb:Sub w2.m (w2.m++ [D]):=fun i b e=>by rw [List.getElem?_append_left (List.getElem?_eq_some_iff.mp e).1];exact e
  have n3:=Nw.track (X:=X) (w:=w0) (w1:=w2) ⟨y2,H2⟩ nD ⟨e1,f⟩ (po:=.lst ps) ⟨f.2.1,its,nn,e1,z,ra.mono (fun _ _ e=>e) (.inr sb)⟩
  have I3:=I.on n3
  have aC:=I.out nC
  show wpAny _ X.A (assign (.Name y py) X.env (.ref D)) _ _ w2.s
  refine wpAny_assign_Name (I3.store (w:=⟨w2.F,w2.O,w2.m++ [D],w2.s⟩) hy (.inl hLy) (p:=.ref h2.length) (.ref (by rw [H2.len];simp)) fun w4 y4 I4=>?_)
  obtain ⟨sl,hC,zz⟩:=y4.keep C oC ⟨hl.1,fun z=>(List.mem_append.mp z).elim hl.2.1 fun z=>DC (by simp at z;exact z.symm),hl.2.2⟩ aC.w
  refine ⟨m,uV n fun o e=>by rw [hl.1] at e;cases e;exact ⟨sl,hC.1⟩,fun h' sb'=>?_⟩
  obtain ⟨a1,a2⟩:=pj (s':= { w4.s with heap:=h' }) I4.toHR hC fun b o z e=>(sb'.2 b z).trans e
  exact k.2 _ ((n3.s.trans y4).priv a1 (by simp;exact nC)) (I4.priv a1 a2 (by simp;exact aC))
 ·exact p.elim⟩
end
end Z
namespace L2
open PySem PySem.Spec PyProof.Rows PySem.Builtin
abbrev tf(b:Bool):Obj:= { cls:=.type "set",dict:=none,data:=.set #[] 0 (.fresh 0 0 b) }
section
variable {κ:Type} [DecidableEq κ]
def oH(σ:List κ)(k:κ):List κ:=if k∈σ then σ else σ++ [k]
def dj(f:Nat→κ):Nat→List κ
 | 0=> []
 | n+1=>oH (dj f n) (f n)
theorem vd{σ:List κ}{k x:κ}:x∈oH σ k↔x∈σ∨x=k:=by
 unfold oH
 split
 ·rename_i h
  exact ⟨.inl,fun z=>z.elim id fun e=>e▸h⟩
 ·rw [List.mem_append,List.mem_singleton]
theorem vh(σ:List κ)(k:κ):(oH σ k).length=if k∈σ then σ.length else σ.length+1:=by
 unfold oH
 split
 ·rfl
 ·rw [List.length_append,List.length_singleton]
theorem rV(f:Nat→κ)(n:Nat):(dj f n).length≤n:=by
 induction n with
 | zero=>exact Nat.le_refl _
 | succ n ih=>
  show (oH _ _).length≤_
  rw [vh]
  split<;>omega
abbrev inK(σ:List κ)(k:κ):Bool:=decide (k∈σ)
end
section
variable {P:Program} {w:World} {A:Around} {R:Result→Shared→Prop} {it:Addr} {fp wr:List Addr} {G:Array GenState→Array GenState→Prop} {n:Nat} {Pn:Nat→Value→Prop} {St:Nat→Shared→Prop}
theorem uw{h h':Heap}{a:Addr}{f:Str→Bool}{c:Nat}(e:∀ o,h.get? a=some o→h'.get? a=some o)(z:h.SetOf (strKind P w) a f c):h'.SetOf (strKind P w) a f c:=by
 obtain ⟨o,es,ep,t,q,rest⟩:=z
 exact ⟨o,es,ep,t,e o q,rest⟩
theorem ux(W:WalksS P w A.in1 it fp wr G n Pn St)(a:Addr)(out:a∉fp)(f:Nat→Str)(txt:∀ i v,Pn i v→∃ t,v= .str (f i) t)(few:n+1<scanBound)(r:Nat):
  ∀ (i:Nat) (s:Shared),i+r=n→St i s→s.heap.SetOf (strKind P w) a (inK (dj f i)) (dj f i).length→
   (∀ s',Moved (a::wr) G s s'→s'.heap.SetOf (strKind P w) a (inK (dj f n)) (dj f n).length→R (.ok (.ret .none)) s')→
   codeAny (model P w) A (.builtin "set.update.loop" ⟨[.ref a,.ref it],[]⟩) R s:=by
 have aw:a∉wr:=fun z=>out (W.sub _ z)
 have tl:∀ b∈wr,b∈a::wr:=fun _ z=>List.mem_cons_of_mem _ z
 induction r with
 | zero=>
  intro i s e st so k
  obtain rfl:i=n:=e
  apply codeAny_builtin F.entry_set_update_loop
  rw [Around.under_plainId F.plain_set_update_loop _]
  apply wpAny_bind (m:=pyNext (.ref it))
  exact W.done s _ _ st fun s' mv=>wpAny_pure (k s' (mv.mono tl) (uw (fun o q=>mv.heap a o aw q) so))
 | succ r ih=>
  intro i s e st so k
  apply codeAny_builtin F.entry_set_update_loop
  rw [Around.under_plainId F.plain_set_update_loop _]
  apply wpAny_bind (m:=pyNext (.ref it))
  refine W.item i s _ _ (by omega) st fun v s' hv st' mv=>?_
  obtain ⟨t,rfl⟩:=txt i v hv
  have so':=uw (h':=s'.heap) (fun o q=>mv.heap a o aw q) so
  apply wpAny_bind (m:=holding [Value.str (f i) t] (setAdd a (.str (f i) t)))
  apply wpAny_holding
  unfold setAdd
  apply wpAny_holding
  apply wpAny_bind
  apply (strKind P w).pyHash (strKind_is P w (f i) t)
  have room:=rV f i
  refine wpAny_setAddHashed_of (knd:=strKind P w) (strKind_is _ _ _ _) rfl so' (by omega) fun h' sb so2=>wpAny_pure ⟨plainId_quiet F.plain_set_update_loop _,?_⟩
  have other:∀ b,b≠a→∀ o,s'.heap.get? b=some o→h'.get? b=some o:=fun b ne o q=>(sb.2 b ne).trans q
  have next:h'.SetOf (strKind P w) a (inK (dj f (i+1))) (dj f (i+1)).length:=by
   refine SetOf_congr so2 (fun x=>?_) ?_
   ·rw [Bool.eq_iff_iff,Bool.or_eq_true,decide_eq_true_eq,decide_eq_true_eq,decide_eq_true_eq]
    exact vd.symm
   ·show _=(oH _ _).length
    rw [vh]
    simp only [decide_eq_true_eq]
  refine ih (i+1) _ (by omega) (W.frame _ s' _ _ st' (Nat.le_succ _) fun b hb o q=>other b (fun z=>out (z▸hb)) o q) next fun s2 mv2 so3=>k s2 ?_ so3
  exact Moved.trans W.gtrans ((mv.mono tl).then_heap (Nat.le_succ _) fun b o hb q=>other b (fun z=>hb (z▸List.mem_cons_self)) o q) mv2
end
section
variable {P:Program} {w:World} {A:Around} {E:Value→Shared→Prop} {s:Shared}
theorem sU:∀ {zs:List Str} {us:List Value},StrsAre us zs→∀ (i:Nat) (v:Value),us[i]? =some v→∃ t,v= .str (zs.getD i Str.empty) t
 | _,_,.nil,_,_,e=>by simp at e
 | _,_,.cons y tk r,0,v,e=>by cases e;exact ⟨tk,rfl⟩
 | _,_,.cons y tk r,i+1,v,e=>by simpa using sU r i v (by simpa using e)
abbrev Dj(P:Program)(w:World)(s:Shared)(a:Addr)(zs:List Str)(n:Nat)(h':Heap):Prop:=
 h'.SetOf (strKind P w) a (inK (dj (fun i=>zs.getD i Str.empty) n)) (dj (fun i=>zs.getD i Str.empty) n).length∧∀ b o,b<a→s.heap.get? b=some o→h'.get? b=some o
theorem Be{b:Bool}{t:String}{l:Addr}{its:Array Value}{zs:List Str}(hh:A.handled=none)(ht:t="list"∨t="tuple")(hl:∃ n,s.heap.get? l=some { cls:=.type t,data:=.seq its n })(r:StrsAre its.toList zs)(few:its.size+1<scanBound):
  codeAny (model P w) A (.call (.builtin "set.__init__") ⟨[.ref s.heap.objs.size,.ref l],[]⟩)
   (wants (fun u s2=>u= .none∧∃ h' tk,s2= { s with heap:=h',toks:=tk }∧Dj P w s s.heap.objs.size zs its.size h') E) { s with heap:=s.heap.push (tf b) }:=by
 have at0:(s.heap.push (tf b)).get? s.heap.objs.size=some (tf b):=Heap.get?_push_size _ rfl
 refine codeAny_call_builtin F.called_set.init.plain F.entry_set_init (check_set_init_1 ⟨_,at0,rfl⟩ ?_)
 obtain ⟨c,q⟩:=hl
 have q':(s.heap.push (tf b)).get? l=some { cls:=.type t,data:=.seq its c }:=Heap.get?_push_of_some _ q
 have ll:l<s.heap.objs.size:=Heap.lt_size q
 have sz:(s.heap.push (tf b)).objs.size=s.heap.objs.size+1:=Heap.size_push _ _
 have ne1:l≠(s.heap.push (tf b)).objs.size:=fun z=>by
  rw [sz] at z
  exact Nat.lt_irrefl _ (Nat.lt_trans (z▸ll) (Nat.lt_succ_self _))
 have out:s.heap.objs.size∉ [(s.heap.push (tf b)).objs.size,l]:=by
  intro z
  rcases List.mem_cons.mp z with z | z
  ·rw [sz] at z
   exact Nat.ne_of_lt (Nat.lt_succ_self _) z
  ·exact Nat.ne_of_gt ll (List.mem_singleton.mp z)
 have n1:isSubtype (.type t) (.type "set")=pure false:=ht.elim (· ▸F.sub_list_set) (· ▸F.sub_tuple_set)
 have n2:isSubtype (.type t) (.type "frozenset")=pure false:=ht.elim (· ▸F.sub_list_frozenset) (· ▸F.sub_tuple_frozenset)
 have n3:(Value.type t==Value.type "dict")=false:=by rcases ht with rfl | rfl<;>decide
 have hA:A.in1.in1.handled=none:=by simp [hh]
 unfold Builtin.«set.__init__» noKeywords Builtin.Frozenset.updateFrom
 generalize gi:pyIter=iter
 wp_walk
 subst gi
 rcases ht with rfl | rfl
 all_goals first | apply wpAny_pyIter_list ⟨_,q',rfl,c,rfl⟩ | apply wpAny_pyIter_tuple ⟨_,q',rfl,c,rfl⟩
 all_goals refine wpAny_bind<|wpAny_runValue ?_
 all_goals first
  | refine ux ((Walks.list (prog:=P) (w:=w) hA _ l ne1 its).toS) s.heap.objs.size out (fun i=>zs.getD i Str.empty) (fun i v z=>sU r i v (by rw [Array.getElem?_toList];exact z)) few its.size 0 _ (Nat.zero_add _) ⟨⟨_,Heap.get?_push_size _ rfl,rfl,rfl⟩,⟨_,Heap.get?_push_of_some _ q',rfl,c,rfl⟩⟩ ?_ ?_
  | refine ux ((Walks.tuple (prog:=P) (w:=w) hA _ l ne1 its).toS) s.heap.objs.size out (fun i=>zs.getD i Str.empty) (fun i v z=>sU r i v (by rw [Array.getElem?_toList];exact z)) few its.size 0 _ (Nat.zero_add _) ⟨⟨_,Heap.get?_push_size _ rfl,rfl,rfl⟩,⟨_,Heap.get?_push_of_some _ q',rfl,c,rfl⟩⟩ ?_ ?_
 all_goals first
 | exact SetOf_congr ((setObjOf_fresh (knd:=strKind P w) b).setOf (Heap.get?_push_of_some _ at0) (by decide)) (fun _=>rfl) rfl
 | skip
 all_goals
  rintro ⟨h',g',d',t',o'⟩ mv so
  obtain rfl:g'=s.gens:=mv.gens
  obtain rfl:d'=s.drawn:=mv.drawn
  obtain rfl:o'=s.os:=mv.os
  apply wpAny_pure
  refine wpAny_pure ⟨rfl,h',t',rfl,so,fun x o hx e=>mv.heap x o (fun z=>?_) (Heap.get?_push_of_some _ (Heap.get?_push_of_some _ e))⟩
  rcases List.mem_cons.mp z with z | z
  ·exact Nat.ne_of_lt hx z
  ·have z:=List.mem_singleton.mp z
   rw [sz] at z
   exact Nat.ne_of_lt (Nat.lt_succ_of_lt hx) z
theorem sZ{t:String}{l:Addr}{its:Array Value}{zs:List Str}{Q:Value→Shared→Prop}(hh:A.handled=none)(ht:t="list"∨t="tuple")(hl:∃ n,s.heap.get? l=some { cls:=.type t,data:=.seq its n })(r:StrsAre its.toList zs)(few:its.size+1<scanBound)
  (k:∀ (h':Heap) (tk:Nat),Dj P w s s.heap.objs.size zs its.size h'→Q (.ref s.heap.objs.size) { s with heap:=h',toks:=tk }):wpAny (model P w) A (call (.type "set") [.ref l]) Q E s:=by
 have C:=F.called_set
 obtain ⟨_,_,c1⟩:=C.mro
 have c2:=C.made
 have c3:=C.sub
 have c4:=C.notType
 have c5:=C.canCreate
 have c6:=F.typeCall_set_1 (.ref l)
 have c7:=C.init.lookup
 have c8:=C.init.bind (.ref s.heap.objs.size)
 apply wpAny_call
 apply codeAny_of_tree
 show wpAny _ _ (callAny (.type "set") ⟨[.ref l],[]⟩) _ _ _
 apply wpAny_pure
 refine And.intro (Code.quiet_builtin _ (by decide+kernel))<|codeAny_builtin F.entry_type_call ?_
 rw [Around.under_plain (weight_type_call_type "set" [.ref l] []) rfl]
 repeat any_goals first | assumption | wp_step
 refine codeAny_mono (R:=wants (fun o s1=>∃ b:Bool,o= .ref s.heap.objs.size∧s1= { s with heap:=s.heap.push (tf b) }) E) (code_set_new_1 _ fun b=>⟨b,rfl,rfl⟩) fun res s1 z=>?_
 rcases res with e | (o | _ | _ | _)<;>first | exact z | exact z.elim | skip
 obtain ⟨b,rfl,rfl⟩:=z
 have isS:Shared.TypeIs { s with heap:=s.heap.push (tf b) } (.ref s.heap.objs.size) "set":=⟨_,Heap.get?_push_size _ rfl,rfl⟩
 repeat any_goals first | assumption | wp_step
 refine codeAny_mono (Be (E:=E) (by simp [hh]) ht hl r few) fun res2 s2 z2=>?_
 rcases res2 with e | (o | _ | _ | _)<;>first | exact z2 | exact z2.elim | skip
 obtain ⟨rfl,h',tk,rfl,fin⟩:=z2
 repeat any_goals first | assumption | wp_step
 exact k h' tk fin
end
end L2
namespace L3
open PySem PySem.Spec PyProof.Rows L2
theorem Bh(f:Nat→List Nat):∀ n,dj (fun i=>S (f i)) n=(dj f n).map S
 | 0=>rfl
 | n+1=>by
  show oH (dj (fun i=>S (f i)) n) (S (f n))=(oH (dj f n) (f n)).map S
  rw [Bh f n]
  unfold oH
  have:S (f n)∈(dj f n).map S↔f n∈dj f n:=by
   constructor
   ·intro h
    obtain ⟨x,hx,e⟩:=List.mem_map.mp h
    rw [← zi e];exact hx
   ·exact fun h=>List.mem_map.mpr ⟨_,h,rfl⟩
  by_cases q:f n∈dj f n
  ·rw [if_pos q,if_pos (this.mpr q)]
  ·rw [if_neg q,if_neg (fun z=>q (this.mp z)),List.map_append];rfl
def qT(ls:List (List Nat)):Nat:=(dj (fun i=>ls.getD i []) ls.length).length
theorem GR(ls:List (List Nat)):(dj (fun i=>(ls.map S).getD i Str.empty) (ls.map S).length).length=qT ls:=by
 have:(fun i=>(ls.map S).getD i Str.empty)=fun i=>S (ls.getD i []):=by
  funext i
  rw [List.getD_eq_getElem?_getD,List.getD_eq_getElem?_getD,List.getElem?_map]
  cases ls[i]? <;>rfl
 rw [this,List.length_map,Bh,List.length_map]
 rfl
def oQ(p:PV)(h:List PO):Res PV:=match lsR h p with
 | some xs=>match hZ xs with
  | some ls=>if ls.length+1<scanBound then .ok (.int (qT ls:Nat)) h else .bad
  | none=>.bad
 | none=>.bad
end L3
namespace Z
open PySem PySem.Spec PyProof.Rows L3 L2
section
variable {X:Cx} {e:Expr} {f:Ex} {p1 p2 pos pos2:Pos}
theorem StrsAre.len:∀ {us:List Value} {ys:List Str},StrsAre us ys→us.length=ys.length
 | _,_,.nil=>rfl
 | _,_,.cons _ _ r=>by simp [StrsAre.len r]
theorem zK(g1:Gl X "len")(m1:X.mg "len"=none)(g2:Gl X "set")(m2:X.mg "set"=none)(he:RE X e f)(hc:X.calm=true:=by rfl)
  (hs:starEach [e] X.env=(false,eval e X.env)::starEach [] X.env:=by rfl) (hs2:starEach [.Call (.Name "set" p2) [e] [] pos2] X.env=(false,eval (.Call (.Name "set" p2) [e] [] pos2) X.env)::starEach [] X.env:=by rfl)
  (hp:(backTo pos (starEach [] X.env)).any (·.1)=false:=by rfl) (hp2:(backTo pos2 (starEach [] X.env)).any (·.1)=false:=by rfl):
  RE X (.Call (.Name "len" p1) [.Call (.Name "set" p2) [e] [] pos2] [] pos) (c1 oQ f):=⟨fun {w0 ρ h0 Q E} I p=>by
 refine wpAny_Call_Name_kw (I.blt g1 m1 PySem.boot_len ?_ (by decide) (by decide))
 refine PyProof.Rows.callWith_builtin1 ?_ hs2 hp
 rw [hs2]
 show wpAny _ _ (spliced ((false,eval (.Call (.Name "set" p2) [e] [] pos2) X.env)::backTo pos (starEach [] X.env))) _ _ w0.s
 refine Calls.spliced_cons ?_
 have hv:bootBuiltins "set"=some (.type "set"):=by decide+kernel
 refine wpAny_Call_Name_kw (I.blt g2 m2 hv ?_ (by decide) (by decide))
 refine callWith_type1 ?_ hs hp2
 rw [hs]
 refine (show wpAny _ _ (spliced ((false,eval e X.env):: [])) _ _ w0.s from Calls.spliced_cons (he.r I (p.bind fun w1 h1 q u y r k=>Calls.spliced_nil ?_)))
 unfold oQ at k
 split at k
 ·split at k
  ·split at k
   ·rename_i ls el q
    obtain ⟨a,its,rfl,y1,hz,rr⟩:=y.2.sq r (iR ‹_›)
    have sa:=lC (G:=X.toSC) el rr
    have ln:its.size=ls.length:=by have:=StrsAre.len sa;simpa using this
    refine sZ (I.ok.hd hc) (.inl rfl) y1 sa (by rw [ln];exact q) fun h' tk fin=>?_
    obtain ⟨so,kp⟩:=fin
    have n:=Nw.also (X:=X) (s':= { w1.s with heap:=h',toks:=tk }) y.2 fun b o z=>kp b o (Heap.lt_size z) z
    refine Calls.spliced_nil ?_
    obtain ⟨o,go,oo⟩:=so.objOf
    obtain ⟨o1,es,ep,t,o2,_,_,o3,o4⟩:=oo
    have lz:=rV (fun i=>(ls.map S).getD i Str.empty) its.size
    have sb:scanBound<2 ^ 63:=by decide
    refine call_len_set go o1 o2 o4 (by omega) ?_
    rw [o3,ln]
    have e:=GR ls
    rw [List.length_map] at e
    rw [e]
    exact (k.step n).now n.2 (.int _ _)
   ·exact k.elim
  ·exact k.elim
 ·exact k.elim⟩
end
end Z
namespace Att
open PySem PySem.W PySem.Calls PyProof.Rows
theorem oF{P:Params}{h:Heap}:∀ (ns:List Int) (vs:List Value),WellAll P h vs (ns.map WData.int)→IntsAre vs ns:=by
 intro ns
 induction ns with
 | nil=>
  intro vs w
  rw [List.map_nil] at w
  cases w
  exact .nil
 | cons n ns ih=>
  intro vs w
  rw [List.map_cons] at w
  cases w with
  | cons a b=>
   cases a
   exact .cons _ _ (ih _ b)
theorem zG{l:OpenLaw}{n:Nat}(hn:l.most=some n){P:Params}{h:Heap}{args:List WData}{vals:List Value}
  (hpre:l.row.toRowW.claim.pre args=true) (hwl:WellAll P h vals args):
  ∃ a vs ns,vals= [Value.ref a]∧args= [WData.list (ns.map WData.int)]∧h.get? a=some { cls:=.type "list",data:=.seq vs.toArray }∧IntsAre vs ns∧ns.length≤n:=by
 have hsh:WShape.hasAll [] args [.list .int]=true:=(pre_splitW hpre).1
 have hc:l.pre.holds [] { args:=args }=true:=(pre_splitW hpre).2
 obtain ⟨d,r,rfl,h1,h2⟩:=hasAllW_cons hsh
 obtain rfl:=hasAllW_nil h2
 obtain ⟨xs,rfl,h3⟩:=hasW_list h1
 obtain ⟨ns,rfl⟩:=items_int h3
 have hlen:ns.length≤n:=by
  unfold OpenLaw.pre at hc
  have h4:(WTm.not (.lt (.lit (.int (n:Int))) (.len (.arg 0)))).holds [] { args:= [.list (ns.map .int)] }=true:=by
   have h4:=(holds_andW hc).1
   rw [hn] at h4
   exact h4
  have h5:=condW_of h4 (w_not (w_lt w_lit (w_len_list (w_arg rfl))))
  rw [List.length_map] at h5
  refine Nat.le_of_not_lt fun q=>?_
  have q':(n:Int)<((ns.length:Nat):Int):=by omega
  first
   | (rw [decide_eq_true q'] at h5;exact absurd h5 (by decide))
   | (simp at h5;omega)
 cases hwl with
 | cons w1 w2=>
  cases w2
  cases w1 with
  | list ho hall=>exact ⟨_,_,ns,rfl,rfl,ho,oF ns _ hall,hlen⟩
theorem zV(l:OpenLaw)(args:List WData):l.row.toRowW.claim.post args (.bool true) args=true:=
 postW_of (r:=l.row.toRowW) (X:=(true==true))
  (show WShape.has [] (.bool true) .bool=true by first | rfl | decide | simp [WShape.has,WShape.arms,WShape.armsAll])
  (show (WTm.eq .res (.lit (.bool true))).value [] { args:=args,res:=some (.bool true),after:=args }=some (.bool (true==true)) from w_eq_bool (w_res rfl) w_lit) rfl
theorem attach_call{l:OpenLaw}{n:Nat}{q:Program}{loose:List Str}{XP:(Str→Option Value)→Heap→Prop}{YP:World→Heap→Prop}{d:DefRec}
  (hn:l.most=some n) (hdf:d.params.defaults= [])
  (call:∀ (w:World) (s₀ s₁:Shared) (mg mb:Str→Option Value) (fa:Addr) (o:Obj) (pm cd doc:Value) (a:Addr) (vs:List Value) (ns:List Int),
   Ground q loose [] XP w s₀ mg mb s₁.heap→YP w s₁.heap→
   s₁.heap.get? fa=some o→o.data= .func (docDef d.name d.params d.body d.scope pm cd doc)→s₁.heap.CodeRec cd d.name→mg d.name=some (.ref fa)→
   s₁.heap.get? a=some { cls:=.type "list",data:=.seq vs.toArray }→IntsAre vs ns→ns.length≤n→s₁.gens= #[]→
   codeAny (model l.prog w) callerA (.call (.ref fa) ⟨[.ref a],[]⟩) (fun r s'=>r= .ok (.ret (.bool true))∧OldK s₁.heap s'.heap∧s'.os=s₁.os∧AllBare s'.gens) s₁):
  WalkO q loose XP YP l.row.toRowW d [] (fun f vs=>PySem.call f vs):=by
 intro w s₀ s₁ mg mb G Y fa o pm cd doc dV kV ho hd hcd hD hmg hg args vals as hpre hlay hrd hwl hlo
 obtain rfl:dV= .none:=Dflts.none hD hdf
 obtain rfl:kV= .none:=Dflts.noKw hD
 obtain ⟨a,vs,ns,rfl,rfl,hobj,hints,hlen⟩:=zG hn hpre hwl
 refine enter_call (codeAny_mono (call w s₀ s₁ mg mb fa o pm cd doc a vs ns G Y ho (fd_plain hd) hcd hmg hobj hints hlen hg) fun r s' hq=>?_)
 obtain ⟨rfl,h2,h3,h4⟩:=hq
 exact ⟨.inl ⟨.bool true,.bool true,[],rfl,fun _=>rfl,.bool true,zV l _,fun _=>⟨List.Pairwise.nil,fun _ hm=>(nomatch hm)⟩⟩,h2,h3,h4⟩
end Att
namespace Z
open PySem PySem.Spec PyProof.Rows L3 L2
def cx0(G:SC):Cx:= { G with A:=callerA,N:= [],env:=envOfC "" { kind:=.function,names:= [],isGenerator:=false,isCoroutine:=false } 0 0 .none,stack:= [],fn:=fun _=>true,calm:=true,tr:=true,Ep:=fun _=>True }
theorem rG{G:SC}{F:Fz}{m:List Addr}:∀ {vs:List Value} {ns:List Int},IntsAre vs ns→av G F m (ns.map PV.int) vs
 | _,_,.nil=>.nil
 | _,_,.cons i t r=>.cons (.int i t) (rG r)
theorem Cg{P:Program}{w:World}{K:PySem.W.Frag}{mg mb:Str→Option Value}{T:Nat→Option Addr}{k:Nat}{fa a:Addr}{fd:FuncData}{x:Str}{fn:List PV→L3.Out}{s₁:Shared}{vs:List Value}{ns:List Int}
  (KX:K.In s₁.heap) (hns:s₁.heap.Ns mainGlobals mg) (hb:s₁.heap.Ns builtinsNs mb) (hbb:∀ x:Str,x≠"__name__"→mb x=bootBuiltins x) (hlim:s₁.heap.NoLimit) (hg:s₁.gens= #[])
  (ha:s₁.heap.get? a=some { cls:=.type "list",data:=.seq vs.toArray }) (hi:IntsAre vs ns) (hl:ns.length≤sizeLine) (hr:dY k callerA)
  (F:FnP ⟨P,w,K,mg,s₁.heap,T⟩ k fa fd [x] fn) (hbind:∀ (s:Shared) (u:Value),BindsTo s fd ⟨[u],[]⟩ [(x,u)]) (hsp:fn [.giv (ns.map PV.int)]= .ok (.bl true)):
  codeAny (model P w) callerA (.call (.ref fa) ⟨[.ref a],[]⟩) (fun r s'=>r= .ok (.ret (.bool true))∧OldK s₁.heap s'.heap∧s'.os=s₁.os∧AllBare s'.gens) s₁:=by
 have ok:(cx0 ⟨P,w,K,mg,s₁.heap,T⟩).Ok:=⟨KX,hns,⟨mb,hb,hbb⟩,hlim,rfl,rfl,rfl,fun x y c e=>(nomatch e),fun x e=>(by rcases e with e | e<;>cases e),fun _=>rfl,rfl,.nil,fun e he=>(nomatch he)⟩
 have W:Wd (cx0 ⟨P,w,K,mg,s₁.heap,T⟩) ⟨fun b=>s₁.heap.get? b,fun _=>none,[],s₁⟩ []:=⟨⟨fun _ _ e=>e,fun _ _ e=>(nomatch e),rfl,.nil,fun _ _ _ e=>(nomatch e)⟩,.of_eq hg,fun _ _ e=>e,fun b hb=>(nomatch hb)⟩
 refine codeAny_mono (F.run (X:=cx0 ⟨P,w,K,mg,s₁.heap,T⟩) (w:=⟨fun b=>s₁.heap.get? b,fun _=>none,[],s₁⟩) (h:= []) (us:= [.ref a]) (Q:=fun v s'=>v= .bool true∧OldK s₁.heap s'.heap∧s'.os=s₁.os∧AllBare s'.gens) (E:=fun _ _=>False) rfl hr rfl rfl W ok (.cons (.giv ha (by simpa [hi.length] using hl) (by simpa using rG hi)) .nil) hsp (hbind s₁ (.ref a)) fun F' s' u n r=>?_) fun r s' h=>?_
 ·cases r
  exact ⟨rfl,OldK.of_keep fun b o e=>n.2.sub b o (n.1.fz b o e),n.1.os,n.1.ba (.of_eq hg)⟩
 ·cases r with
  | error e=>exact h.elim
  | ok fl=>
   cases fl with
   | ret u=>obtain ⟨rfl,z⟩:=h;exact ⟨rfl,z⟩
   | _=>exact False.elim h
theorem Ce{l:PySem.W.OpenLaw}{k:Nat}{q:Program}{loose:List Str}{XP:(Str→Option Value)→Heap→Prop}{YP:World→Heap→Prop}{d:DefRec}{K:Params→PySem.W.Frag}{x:Str}{fn:List PV→L3.Out}(hn:l.most=some 63)(hdf:d.params.defaults= [])(hr:dY k callerA)
  (hY:∀ (w:World) (h:Heap),YP w h→(K w.params).In h) (law:∀ ns:List Int,ns.length≤63→fn [.giv (ns.map PV.int)]= .ok (.bl true))
  (F:∀ (w:World) (mg:Str→Option Value) (fa:Addr) (h:Heap),(K w.params).In h→h.Ns mainGlobals mg→mg d.name=some (.ref fa)→
   ∃ (fd:FuncData) (T:Nat→Option Addr),(∀ (s:Shared) (u:Value),BindsTo s fd ⟨[u],[]⟩ [(x,u)])∧FnP ⟨l.prog,w,K w.params,mg,h,T⟩ k fa fd [x] fn):
  PySem.W.WalkO q loose XP YP l.row.toRowW d [] (fun f vs=>PySem.call f vs):=by
 refine Att.attach_call hn hdf fun w s₀ s₁ mg mb fa o pm cd doc a vs ns G Y ho hd hcd hmg hobj hints hlen hg=>?_
 have KX:=hY w _ Y
 obtain ⟨fd,T,hb,hF⟩:=F w mg fa _ KX G.T.g hmg
 exact Cg KX G.T.g G.T.b G.T.builtins G.T.nolimit hg hobj hints (Nat.le_trans hlen (by decide)) hr hF hb (law ns hlen)
end Z
namespace L3
open PySem L2
def ka:PK→PyData
 | .inl i=>.int i
 | .inr l=>.str (S l)
mutual
def jz:PV→Bool
 | .bl _=>true
 | .int _=>true
 | .str _=>true
 | .lst xs=>lh xs
 | .dct kvs=>nX kvs
 | _=>false
def lh:List PV→Bool
 | []=>true
 | x::r=>jz x&&lh r
def nX:List (PK×PV)→Bool
 | []=>true
 | (_,x)::r=>jz x&&nX r
end
mutual
def toE:PV→PyData
 | .bl b=>.bool b
 | .int i=>.int i
 | .str l=>.str (S l)
 | .lst xs=>.list (fM xs)
 | .dct kvs=>.dict (cY kvs)
 | _=>.none
def fM:List PV→List PyData
 | []=> []
 | x::r=>toE x::fM r
def cY:List (PK×PV)→List (PyData×PyData)
 | []=> []
 | (k,x)::r=>(ka k,toE x)::cY r
end
def okE(p:PV):Bool:=jz p&&decide ((toE p).depth≤60)&&(toE p).showable&&decide ((toE p).shown.length≤sizeLine)
def qm(ps:List PV)(h:List PO):Res PV:=match ps with
 | [.dct kvs]=>if okE (.dct kvs)=true then .ok (.str (toE (.dct kvs)).shown.cps.toList) h else .bad
 | _=>.bad
end L3
namespace Z
open PySem PySem.Spec PyProof.Rows L3 L2
open PySem PySem.Spec PyProof.Rows
theorem wm:∀ l:List (PK×PV),(cY l).map (·.1)=l.map fun p=>ka p.1
 | []=>by simp [cY]
 | (k,x)::r=>by simp [cY,wm r]
theorem jm:∀ l:List (PK×PV),(cY l).map (·.2)=fM (l.map (·.2))
 | []=>by simp [cY,fM]
 | (k,x)::r=>by simp [cY,fM,jm r]
theorem tZ:∀ l:List (PK×PV),nX l=lh (l.map (·.2))
 | []=>by simp [nX,lh]
 | (k,x)::r=>by simp [nX,lh,tZ r]
section
variable {G:SC} {w:Wo} {h:List PO}
theorem tM{P:Program}{wd:World}{g:Heap}(n:Nat):∀ {es:List DictEntry} {kvs:List (PK×Value)},Pairs (pk P wd) es kvs→PyData.showableAll (kvs.map fun p=>ka p.1)=true→(∀ t∈PyData.shownAll (kvs.map fun p=>ka p.1),t.length≤sizeLine)→
  ∃ as,ReadsAll g (es.map (·.key)) (kvs.map fun p=>ka p.1) as∧ReprAllK P wd [] g n (es.map (·.key)) (PyData.shownAll (kvs.map fun p=>ka p.1))
 | _,_,.nil,_,_=>⟨_,.nil,by simp only [List.map_nil];rw [PyData.shownAll];exact .nil⟩
 | _,_,.cons (e:=e) (kv:=kv) a b c,q,z=>by
  rw [List.map_cons,PyData.showableAll,Bool.and_eq_true] at q
  rw [List.map_cons,PyData.shownAll] at z
  simp only [List.map_cons]
  rw [PyData.shownAll]
  obtain ⟨as,i1,i2⟩:=tM n c q.2 fun y hy=>z y (List.mem_cons_of_mem _ hy)
  have z0:=z _ (List.mem_cons_self ..)
  obtain ⟨eh,ek,ev⟩:=e
  obtain ⟨kk,kv⟩:=kv
  rcases dG (show kIs kk ek=true from a) with ⟨i,tt,rfl,rfl⟩ | ⟨x,tt,rfl,rfl⟩
  ·exact ⟨_,.cons (.int i tt) i1,.cons (by dsimp only [ka];rw [PyData.shown];exact .of_is (ReprIs.int tt (by simpa [PyData.showable,ka] using q.1)) _ _ _) i2⟩
  ·dsimp only [ka] at z0
   rw [PyData.shown] at z0
   exact ⟨_,.cons (.str (S x) tt) i1,.cons (by dsimp only [ka];rw [PyData.shown];exact .of_is (ReprIs.str (S x) tt z0) _ _ _) i2⟩
theorem nL{P:Program}{wd:World}:∀ {es:List DictEntry} {kvs:List (PK×Value)},Pairs (pk P wd) es kvs→es.map (·.val)=kvs.map (·.2)
 | _,_,.nil=>rfl
 | _,_,.cons (e:=e) (kv:=kv) a b c=>by rw [List.map_cons,List.map_cons,nL c,b]
mutual
theorem aX.sh(H:HR G w h):∀ {p:PV} {u:Value},aX G w.F w.m p u→jz p=true→(toE p).showable=true→(toE p).shown.length≤sizeLine→∃ as bs,Reads w.s.heap u (toE p) as∧ReadAtMost w.s.heap (toE p).depth bs∧ReprK G.prog G.w bs w.s.heap (toE p).depth u (toE p).shown
 | _,_,.bl b,_,_,_=>by rw [toE];exact ⟨_,[],.bool b,by simp [ReadAtMost],by rw [PyData.shown];exact .of_is (ReprIs.bool b) _ _ _⟩
 | _,_,.int i t,_,q,_=>by rw [toE] at q ⊢;exact ⟨_,[],.int i t,by simp [ReadAtMost],by rw [PyData.shown];exact .of_is (ReprIs.int t (by simpa [PyData.showable] using q)) _ _ _⟩
 | _,_,.str x t,_,_,z=>by rw [toE] at z ⊢;rw [PyData.shown] at z;exact ⟨_,[],.str (S x) t,by simp [ReadAtMost],by rw [PyData.shown];exact .of_is (ReprIs.str (S x) t z) _ _ _⟩
 | _,_,.lst (ps:=xs) (a:=a) (its:=its) (n:=n) e _ rr,c,q,z=>by
  have g:=H.at e
  rw [toE] at q z ⊢
  rw [jz] at c
  rw [PyData.showable] at q
  rw [PyData.shown] at z ⊢
  obtain ⟨as,bs,r1,r2,r3⟩:=av.sh H rr c q fun t ht=>Nat.le_trans (listText_mem_le ht) z
  have whole:Reads w.s.heap (.ref a) (.list (fM xs)) _:=.list g rfl rfl r1
  rw [PyData.depth]
  have deep:PyData.depthAll (fM xs)<(PyData.list (fM xs)).depth:=by rw [PyData.depth];omega
  have out:=ReadAtMost.cons whole (Nat.le_of_lt deep) r2
  rw [PyData.depth] at out
  refine ⟨_,a::bs,whole,out,?_⟩
  obtain ⟨its⟩:=its
  cases its with
  | nil=>
   cases rr
   rw [fM,PyData.shownAll,listText_nil]
   exact ReprK.listEmpty g rfl rfl
  | cons v vs=>exact ReprK.list g rfl rfl (not_mem_of_deeper whole deep r2) (by simpa using r3.length_eq) fun i y ey=>r3.item i y (by simpa using ey)
 | _,_,.dct (kps:=kps) (a:=a) (o:=o) (kvs:=kvs) e d sm _ kk rr,c,q,z=>by
  obtain ⟨ex,es,ep,ed,_,pr,_⟩:=d
  have g:=H.at e
  rw [toE] at q z ⊢
  rw [jz,tZ] at c
  rw [PyData.showable] at q
  obtain ⟨q1,q2⟩:=PyData.showableKv_split (cY kps) q
  rw [PyData.shown] at z ⊢
  have k:(cY kps).map (·.1)=kvs.map fun p=>ka p.1:=by
   rw [wm]
   have:=congrArg (List.map ka) kk
   rw [List.map_map,List.map_map] at this
   exact this.symm
  rw [k] at q1
  rw [jm] at q2
  obtain ⟨as1,r1,r3⟩:=tM (P:=G.prog) (wd:=G.w) (g:=w.s.heap) (PyData.depthKv (cY kps)) pr q1 fun t ht=>by
   rw [← k] at ht
   obtain ⟨p,hp,hl⟩:=PyData.shownKv_key_le (cY kps) t ht
   exact Nat.le_trans (Nat.le_trans hl (dictText_mem_le hp)) z
  obtain ⟨as2,bs2,t1,t2,t3⟩:=av.sh H rr c q2 fun t ht=>by
   rw [← jm] at ht
   obtain ⟨p,hp,hl⟩:=PyData.shownKv_val_le (cY kps) t ht
   exact Nat.le_trans (Nat.le_trans hl (dictText_mem_le hp)) z
  rw [← k] at r1 r3
  rw [← jm,← nL pr] at t1 t3
  rw [← jm] at t2
  have whole:Reads w.s.heap (.ref a) (.dict (cY kps)) _:=.dict g ex.1 ed r1 t1
  rw [PyData.depth]
  have deep:PyData.depthKv (cY kps)<(PyData.dict (cY kps)).depth:=by rw [PyData.depth];omega
  have both:=t2.mono (PyData.depthAll_vals_le (cY kps))
  have out:=ReadAtMost.cons whole (Nat.le_of_lt deep) both
  rw [PyData.depth] at out
  refine ⟨_,a::bs2,whole,out,?_⟩
  rw [PyData.shownKv_eq]
  exact ReprK.dict g ex.1 ed sm (not_mem_of_deeper whole deep both) (.of_two _ _ _ (r3.more_le (fun b hb=>absurd hb List.not_mem_nil) (Nat.le_refl _)) (t3.more_le (fun b hb=>hb) (PyData.depthAll_vals_le (cY kps))))
 | _,_,.non,c,_,_=>by simp [jz] at c
 | _,_,.ty _,c,_,_=>by simp [jz] at c
 | _,_,.cls _,c,_,_=>by simp [jz] at c
 | _,_,.tup _ _ _,c,_,_=>by simp [jz] at c
 | _,_,.giv _ _ _,c,_,_=>by simp [jz] at c
 | _,_,.ins _ _ _ _,c,_,_=>by simp [jz] at c
 | _,_,.ref _,c,_,_=>by simp [jz] at c
 | _,_,.exc _ _ _ _,c,_,_=>by simp [jz] at c
 | _,_,.exa _ _ _ _ _ _ _ _ _,c,_,_=>by simp [jz] at c
theorem av.sh(H:HR G w h):∀ {ps:List PV} {us:List Value},av G w.F w.m ps us→lh ps=true→PyData.showableAll (fM ps)=true→(∀ t∈PyData.shownAll (fM ps),t.length≤sizeLine)→
  ∃ as bs,ReadsAll w.s.heap us (fM ps) as∧ReadAtMost w.s.heap (PyData.depthAll (fM ps)) bs∧ReprAllK G.prog G.w bs w.s.heap (PyData.depthAll (fM ps)) us (PyData.shownAll (fM ps))
 | _,_,.nil,_,_,_=>⟨_,[],by rw [fM];exact .nil,by simp [ReadAtMost],by rw [fM,PyData.shownAll];exact .nil⟩
 | _,_,.cons (p:=p) (ps:=ps) r t,c,q,z=>by
  rw [lh,Bool.and_eq_true] at c
  rw [fM] at q z ⊢
  rw [PyData.showableAll,Bool.and_eq_true] at q
  rw [PyData.shownAll] at z ⊢
  obtain ⟨as1,bs1,r1,r2,r3⟩:=aX.sh H r c.1 q.1 (z _ (List.mem_cons_self ..))
  obtain ⟨as2,bs2,t1,t2,t3⟩:=av.sh H t c.2 q.2 fun y hy=>z y (List.mem_cons_of_mem _ hy)
  rw [PyData.depthAll]
  have m1:=Nat.le_max_left (toE p).depth (PyData.depthAll (fM ps))
  have m2:=Nat.le_max_right (toE p).depth (PyData.depthAll (fM ps))
  exact ⟨_,bs1++bs2,.cons r1 t1,(r2.mono m1).append (t2.mono m2),.cons ((r3.more fun b hb=>List.mem_append_left _ hb).level_le m1) (t3.more_le (fun b hb=>List.mem_append_right _ hb) m2)⟩
end
end
end Z
namespace Z
open PySem PySem.Spec PyProof.Rows L3 L2
section
variable {X:Cx}
theorem yv(hg:X.A.guards=some [])(hu:X.A.units+64<cLine):OpC X (.builtin "repr") qm:=fun ok {w h p u Q E} I rs p=>by
 unfold qm at p
 split at p
 ·obtain ⟨u,rfl,r1⟩:=rs.one
  split at p
  ·rename_i kps cc
   simp only [okE,Bool.and_eq_true,decide_eq_true_eq] at cc
   obtain ⟨⟨⟨c,h3⟩,q⟩,z⟩:=cc
   show Wp X (call (.builtin "repr") [u]) Q E w.s
   cases r1 with
   | @dct _ a o kvs e d sm _ kk rr=>
    obtain ⟨ex,es,ep,ed,_,pr,_⟩:=d
    have g:=I.toHR.at e
    rw [toE] at q z h3 p
    rw [jz,tZ] at c
    rw [PyData.showable] at q
    obtain ⟨q1,q2⟩:=PyData.showableKv_split (cY kps) q
    rw [PyData.shown] at z p
    have k:(cY kps).map (·.1)=kvs.map fun p=>ka p.1:=by
     rw [wm]
     have:=congrArg (List.map ka) kk
     rw [List.map_map,List.map_map] at this
     exact this.symm
    rw [k] at q1
    rw [jm] at q2
    obtain ⟨as1,r1,r3⟩:=tM (P:=X.prog) (wd:=X.w) (g:=w.s.heap) (PyData.depthKv (cY kps)) pr q1 fun t ht=>by
     rw [← k] at ht
     obtain ⟨p,hp,hl⟩:=PyData.shownKv_key_le (cY kps) t ht
     exact Nat.le_trans (Nat.le_trans hl (dictText_mem_le hp)) z
    obtain ⟨as2,bs2,t1,t2,t3⟩:=av.sh I.toHR rr c q2 fun t ht=>by
     rw [← jm] at ht
     obtain ⟨p,hp,hl⟩:=PyData.shownKv_val_le (cY kps) t ht
     exact Nat.le_trans (Nat.le_trans hl (dictText_mem_le hp)) z
    rw [← k] at r1 r3
    rw [← jm,← nL pr] at t1 t3
    rw [← jm] at t2
    have whole:Reads w.s.heap (.ref a) (.dict (cY kps)) _:=.dict g ex.1 ed r1 t1
    have deep:PyData.depthKv (cY kps)<(PyData.dict (cY kps)).depth:=by rw [PyData.depth];omega
    have both:=t2.mono (PyData.depthAll_vals_le (cY kps))
    rw [PyData.depth] at h3
    rw [PyData.shownKv_eq] at z p
    have en:ReprEntriesK X.prog X.w bs2 w.s.heap (PyData.depthKv (cY kps)) es.toList _:=.of_two _ _ _ (r3.more_le (fun b hb=>absurd hb List.not_mem_nil) (Nat.le_refl _)) (t3.more_le (fun b hb=>hb) (PyData.depthAll_vals_le (cY kps)))
    refine call_repr_slot (by omega) ⟨o,g,ex.1⟩ F.slot_dict_repr (call_dict_reprK g ex.1 ed sm (not_mem_of_deeper whole deep both) en (A:=X.A.in1) hg (fun b _=>Clear.nil b) (by rw [Around.in1_units];omega) (fun _ _ e=>e) (fun h' u tk hk=>⟨_,_,rfl,?_⟩) z)
    have n:=Nw.also (X:=X) (s':= { w.s with heap:=h',toks:=tk }) I.toHR hk
    refine p.2 _ _ n ?_
    have:= @aX.str X.toSC w.F w.m (dictText (PyData.shownKv (cY kps))).cps.toList u
    rw [Lg] at this
    rw [PyData.shownKv_eq] at this
    exact this
  ·exact p.elim
 ·exact p.elim
end
end Z
namespace L3
open PySem
def eI(tt:Tx)(te:Ex)(cp:Ev):List PV→List PO→Res (List PV)
 | [],h=>.ok [] h
 | p::r,h=>(tt (some p::cp) h).bind fun b h1=>if b=true then (te (some p::cp) h1).bind fun v h2=>(eI tt te cp r h2).bind fun vs h3=>.ok (v::vs) h3 else eI tt te cp r h1
def gH(caps:List Nat)(it:Ax)(tt:Tx)(te:Ex):Ax:=fun ρ h=>(it ρ h).bind fun xs h1=>if xs.length<sizeLine then (eI tt te (dh caps ρ) xs h1).calm else .bad
def gL(tt:Tx)(te:Ex)(cp:Ev):List PV→List PO→Res (List PV)
 | [],h=>.ok [] h
 | .tup [p1,p2]::r,h=>(tt (some p1::some p2::cp) h).bind fun b h1=>if b=true then (te (some p1::some p2::cp) h1).bind fun v h2=>(gL tt te cp r h2).bind fun vs h3=>.ok (v::vs) h3 else gL tt te cp r h1
 | _,_=>.bad
def nS(caps:List Nat)(it:Ax)(tt:Tx)(te:Ex):Ax:=fun ρ h=>(it ρ h).bind fun xs h1=>if xs.length<sizeLine then (gL tt te (dh caps ρ) xs h1).calm else .bad
theorem xN(tt:Tx)(te:Ex)(cp:Ev):∀ xs h,fB (gNm 0) tt te (List.replicate 1 none++cp) xs h=eI tt te cp xs h
 | [],h=>rfl
 | p::r,h=>by simp only [eI,← xN tt te cp r];rfl
abbrev g2:Gx:=gTp 2 (dJ (gNm 0) (dJ (gNm 1) lf))
theorem CY(tt:Tx)(te:Ex)(cp:Ev):∀ xs h,fB g2 tt te (List.replicate 2 none++cp) xs h=gL tt te cp xs h
 | [],h=>rfl
 | .tup [p1,p2]::r,h=>by simp only [gL,← CY tt te cp r];rfl
 | .tup []::r,h=>rfl
 | .tup [_]::r,h=>rfl
 | .tup (_::_::_::_)::r,h=>by simp [fB,gL,gTp]
 | .non::r,h | .bl _::r,h | .int _::r,h | .str _::r,h | .ty _::r,h | .cls _::r,h | .lst _::r,h | .giv _::r,h | .dct _::r,h | .ins _ _::r,h | .ref _::r,h | .exc _::r,h | .exa _ _::r,h=>rfl
end L3
namespace Z
open PySem PySem.Spec PyProof.Rows L3 L2
section
variable {X:Cx} {e a b elt iter tg:Expr} {es ifs:List Expr} {f fa fb te:Ex} {fs it:Ax} {tt:Tx} {pos p0 p1 tp:Pos} {x y:Str} {scope:Scope} {M:List Str} {caps:List Nat} {u:Value}
theorem cB(ha:RE X a fa)(hb:RE X b fb):RE X (.BinOp a .Mult b pos) (c2 eF fa fb):=qb (fun {w h p q u v Q E} I rp rq k=>Ga I rp rq (by
 unfold rJ
 split
 ·exact k.elim
 ·exact k)) ha hb
theorem LQ(q:PV)(cp ρ1:Ev)(e:g2 q (List.replicate 2 none++cp)=some ρ1):∃ l:Ev,l.length=2∧ρ1=l++cp:=by
 unfold g2 gTp at e
 split at e
 ·rename_i ps
  split at e
  ·rename_i z
   obtain ⟨a,b,rfl⟩:∃ a b,ps= [a,b]:=by
    match ps,z with
    | [a,b],_=>exact ⟨a,b,rfl⟩
   cases e
   exact ⟨[some a,some b],rfl,rfl⟩
  ·cases e
 ·cases e
theorem kE(S:dO X.N X.env.scope scope caps [x] M)(hi:RI X (.Name x tp) iter it)(ht:∀ cl C,RFs (cx X M scope cl C) ifs tt)(he:∀ cl C,RE (cx X M scope cl C) elt te)(hc:X.calm=true:=by rfl)(hg:∀ cl C,RG (cx X M scope cl C) (.Name x tp) (gNm 0):=by exact fun _ _=>bo)
  (hs:∀ y,foldedSetIterable iter X.env y=pure y:=by intro _;rfl):RE X (.ListComp elt [⟨.Name x tp,iter,ifs,0⟩] scope pos) (cN okL (gH caps it tt te)):=by
 have q:=comp (pos:=pos) caps hc S hi hg ht he yZ KG hs
 have z:iq 1 (gNm 0) caps it tt te=gH caps it tt te:=by funext ρ h;simp only [iq,gH,xN]
 exact z▸q
theorem uG{k:Nat}{tp2 tp3:Pos}(S:dO X.N X.env.scope scope caps [x,y] M)(hi:RI X (.Tuple [.Name x tp,.Name y tp2] k tp3) iter it)(ht:∀ cl C,RFs (cx X M scope cl C) ifs tt)(he:∀ cl C,RE (cx X M scope cl C) elt te)(hc:X.calm=true:=by rfl)(hg:∀ cl C,RG (cx X M scope cl C) (.Tuple [.Name x tp,.Name y tp2] k tp3) g2:=by exact fun _ _=>pZ rfl (ez bo (ez bo mq)))
  (hs:∀ y,foldedSetIterable iter X.env y=pure y:=by intro _;rfl):RE X (.ListComp elt [⟨.Tuple [.Name x tp,.Name y tp2] k tp3,iter,ifs,0⟩] scope pos) (cN okL (nS caps it tt te)):=by
 have q:=comp (pos:=pos) caps hc S hi hg ht he yZ LQ hs
 have z:iq 2 g2 caps it tt te=nS caps it tt te:=by funext ρ h;simp only [iq,nS,CY]
 exact z▸q
theorem uD{iy:Nat}{py spos:Pos}(S:dO X.N X.env.scope scope caps [x] M)(hi:RI X (.Name x tp) iter it)(ht:∀ cl C,RFs (cx X M scope cl C) ifs tt)(he:∀ cl C,RE (cx X M scope cl C) elt te)(hy:X.N[iy]? =some y)(hLy:X.env.scope.names.lookup y=some .local)(hsw:swapsWith (.ListComp elt [⟨.Name x tp,iter,ifs,0⟩] scope pos) (some (.Name y py)) spos.line X.env=pure true)(hc:X.calm=true:=by rfl)(hg:∀ cl C,RG (cx X M scope cl C) (.Name x tp) (gNm 0):=by exact fun _ _=>bo)
  (hs:∀ y,foldedSetIterable iter X.env y=pure y:=by intro _;rfl):RS X (.Assign [.Name y py] (.ListComp elt [⟨.Name x tp,iter,ifs,0⟩] scope pos) spos) (aU iy (cN uZ (gH caps it tt te))):=by
 have q:=uC (pos:=pos) (py:=py) caps hc S hi hg ht he KG hy hLy hsw hs
 have z:iq 1 (gNm 0) caps it tt te=gH caps it tt te:=by funext ρ h;simp only [iq,gH,xN]
 exact z▸q
theorem rst{l:List Nat}{j}(e:x=S l:=by kernel_rfl):RE X (.Constant (.str x) j pos) (cK (.str l)):=Ha l e
theorem ra1(ha:RE X e f)(hs:starEach [e] X.env=(false,eval e X.env)::starEach [] X.env:=by rfl):RA X [e] (aa f aj):=ac ha gh hs
theorem req(hu:X.A.units+64<cLine)(ha:RE X a fa)(hb:RE X b fb):RE X (.Compare a [.Eq] [b] pos) (c2 pEq fa fb):=iQ (Em hu) (bP _) ha hb
theorem rte(hu:X.A.units+64<cLine)(ha:RE X a fa)(hb:RE X b fb):RT X (.Compare a [.Eq] [b] pos) (aW (c2 pEq fa fb)):=bS (Em hu) (bP _) ha hb
theorem zr(ha:RE X e f):RSs X [.Return (some e) pos] (aY f):=ay (GW ha)
theorem bf{i:Nat}{pos':Pos}(ha:RE X a fa)(hi:X.N[i]? =some x:=by rfl)(hx:X.env.kindOf x=some .local∨(X.env.kindOf x=some .cell∧X.fn x=true):=by first | exact .inl rfl | exact .inr ⟨rfl,rfl⟩)(hs:swapsWith a (some (.Name x pos')) pos.line X.env=pure false:=by rfl):RS X (.Assign [.Name x pos'] a pos) (aU i fa):=GU hi hx ha hs
theorem zf{g:Gx}{body:List Stmt}{fb:Sx}(hi:RI X tg iter it)(hg:RG X tg g)(hb:RSs X body fb)(hp:∀ E,X.Ep E→PassesOwn X.M X.A X.env E:=by exact fun _ h=>h)(hc:X.calm=true:=by rfl)(hs:∀ x,foldedSetIterable iter X.env x=pure x:=by intro _;rfl):RS X (.For tg iter body [] pos) (gR it g fb):=GX hp hc hi hg hb hs
theorem zb{id:String}{g:List PV→List PO→Res PV}(o:OpC X (.builtin id) g)(hm:X.mg x=none)(ha:RA X (e::es) fs)(hv:bootBuiltins x=some (.builtin id):=by decide+kernel)(hg:Gl X x:=by rfl)(hn:x≠"__name__":=by decide)(hdb:(x==("__debug__":Str))=false:=by decide)(he:starEach (e::es) X.env=(false,eval e X.env)::starEach es X.env:=by rfl)(hpl:(backTo pos (starEach es X.env)).any (·.1)=false:=by rfl):RE X (.Call (.Name x p0) (e::es) [] pos) (cN g fs):=Bv o hg hm hv ha hn hdb he hpl
theorem zt{id:String}{g:List PV→List PO→Res PV}(o:OpC X (.type id) g)(hm:X.mg x=none)(ha:RA X (e::es) fs)(hv:bootBuiltins x=some (.type id):=by decide+kernel)(hg:Gl X x:=by rfl)(hn:x≠"__name__":=by decide)(hdb:(x==("__debug__":Str))=false:=by decide)(he:starEach (e::es) X.env=(false,eval e X.env)::starEach es X.env:=by rfl)(hpl:(backTo pos (starEach es X.env)).any (·.1)=false:=by rfl):RE X (.Call (.Name x p0) (e::es) [] pos) (cN g fs):=zL o hg hm hv ha hn hdb he hpl
theorem zty{n:String}(hm:X.mg x=none)(hg:Gl X x:=by rfl)(hv:bootBuiltins x=some (.type n):=by decide+kernel)(hn:x≠"__name__":=by decide)(hd:(x==("__debug__":Str))=false:=by decide):RE X (.Name x pos) (cK (.ty n)):=GZ hg hm hv hn hd
theorem zis{n:String}(hi:X.mg "isinstance"=none)(hm:X.mg x=none)(ha:RE X e f)(hg:Gl X "isinstance":=by rfl)(h1:Gl X x:=by rfl)(hv:bootBuiltins x=some (.type n):=by decide+kernel)(hn:x≠"__name__":=by decide)(hd:(x==("__debug__":Str))=false:=by decide)(he:starEach [e,.Name x p1] X.env=(false,eval e X.env)::starEach [.Name x p1] X.env:=by rfl)(h2:starEach [.Name x p1] X.env=(false,eval (.Name x p1) X.env)::starEach [] X.env:=by rfl)(hpl:(backTo pos (starEach [.Name x p1] X.env)).any (·.1)=false:=by rfl):RE X (.Call (.Name "isinstance" p0) [e,.Name x p1] [] pos) (cN aH (aa f (aa (cK (.ty n)) aj))):=zb BQ hi (ac ha (ac (zty hm h1 hv hn hd) gh h2) he) (by decide+kernel) hg (by decide) (by decide) he hpl
theorem zl(hm:X.mg "len"=none)(ha:RE X e f)(hg:Gl X "len":=by rfl)(he:starEach [e] X.env=(false,eval e X.env)::starEach [] X.env:=by rfl)(hpl:(backTo pos (starEach [] X.env)).any (·.1)=false:=by rfl):RE X (.Call (.Name "len" p0) [e] [] pos) (cN fy (aa f aj)):=zb JD hm (ra1 ha he) (by decide+kernel) hg (by decide) (by decide) he hpl
theorem glS{l:List Nat}(h:∃ t,X.mg x=some (.str (S l) t))(hg:Gl X x:=by rfl)(hd:(x==("__debug__":Str))=false:=by decide):RE X (.Name x pos) (cK (.str l)):=let ⟨_,h⟩:=h;mx hg h (fun _ _ _=>.str _ _) hd
theorem glI{i:Int}(h:∃ t,X.mg x=some (.int i t))(hg:Gl X x:=by rfl)(hd:(x==("__debug__":Str))=false:=by decide):RE X (.Name x pos) (cK (.int i)):=let ⟨_,h⟩:=h;mx hg h (fun _ _ _=>.int _ _) hd
theorem glC{C:Nat}{a:Addr}(h:X.mg x=some (.ref a))(t:X.T C=some a)(hg:Gl X x:=by rfl)(hd:(x==("__debug__":Str))=false:=by decide):RE X (.Name x pos) (cK (.cls C)):=mx hg h (fun _ _ _=>.cls t) hd
def GT(S:SC)(x:Str)(ls:List (List Nat)):Prop:=∃ a its n,S.mg x=some (.ref a)∧S.base.get? a=some { cls:=.type "tuple",data:=.seq its n }∧its.size≤sizeLine∧StrsAre its.toList (ls.map L3.S)
theorem glT{ls:List (List Nat)}(h:GT X.toSC x ls)(hg:Gl X x:=by rfl)(hd:(x==("__debug__":Str))=false:=by decide):RE X (.Name x pos) (cK (.tup (ls.map PV.str))):=let ⟨_,_,_,a,b,c,d⟩:=h;Bs hg a b c d hd
def GV(S:SC)(x:Str)(ps:List PV):Prop:=∃ a its n,S.mg x=some (.ref a)∧S.base.get? a=some { cls:=.type "tuple",data:=.seq its n }∧its.size≤sizeLine∧∀ F m,av S F m ps its.toList
theorem glV{ps:List PV}(h:GV X.toSC x ps)(hg:Gl X x:=by rfl)(hd:(x==("__debug__":Str))=false:=by decide):RE X (.Name x pos) (cK (.tup ps)):=let ⟨_,_,_,a,b,c,d⟩:=h;mx hg a (fun F m k=>.tup (k _ _ b) c (d F m)) hd
theorem FnP.bad{G:SC}{k:Nat}{f:Addr}{fd:FuncData}{ps:List Str}:FnP G k f fd ps fun _=>.bad:=⟨fun _ _ h=>(nomatch h),fun _ _ _ _ _ _ _ h=>(nomatch h)⟩
theorem FnL.bad{G:SC}{c:Bool}{k:Nat}{f:Addr}{fd:FuncData}{ps:List Str}:FnL G c k f fd ps fun _ _=>.bad:=⟨fun _ _ h=>absurd rfl h,fun _ _ _ _ _ _ _ _ h=>h.elim⟩
end
end Z
noncomputable section
namespace K10
open PySem PySem.Spec PyProof.Rows L2 L3 Z
def top(i:Nat):Stmt:=PySem.Challenge.pw_formsmith_k10_one_node.main.body.getD i (.Pass ⟨0,0,0,0⟩)
def eQ:List (List Nat):= [[97,115],[98,101,116,119,101,101,110],[98,111,100,121],[101,108,115,101],[101,110,100],[102,111,114],[105,102],[105,110],[112,105,101,99,101],[117,115,101],[119,105,116,104]]
noncomputable def fX:List Nat:= [48,49,50,51,52,53,54,55,56,57,65,66,67,68,69,70,71,72,73,74,75,76,77,78,79,80,81,82,83,84,85,86,87,88,89,90,97,98,99,100,101,102,103,104,105,106,107,108,109,110,111,112,113,114,115,116,117,118,119,120,121,122]
noncomputable def ij:List Nat:= [97,98,99,100,101,102,103,104,105,106,107,108,109,110,111,112,113,114,115,116,117,118,119,120,121,122,65,66,67,68,69,70,71,72,73,74,75,76,77,78,79,80,81,82,83,84,85,86,87,88,89,90,48,49,50,51,52,53,54,55,56,57]
noncomputable def BE:List Nat:= [116,104,101,32,118,97,108,117,101,115,32,97,114,101,32,110,111,32,100,105,99,116]
noncomputable def bg:List Nat:= [97,98,99,100,101,102,103,104,105,106,107,108,109,110,111,112,113,114,115,116,117,118,119,120,121,122]
noncomputable def BD:List Nat:= [97,32,110,97,109,101,32,104,97,115,32,110,111,32,118,97,108,117,101]
noncomputable def qf:List Nat:= [10,32,33,34,35,36,38,39,40,41,42,43,44,45,46,47,48,49,50,51,52,53,54,55,56,57,58,59,60,61,62,63,64,65,66,67,68,69,70,71,72,73,74,75,76,77,78,79,80,81,82,83,84,85,86,87,88,89,90,91,92,93,94,95,96]
noncomputable def qe:List Nat:= [97,98,99,100,101,102,103,104,105,106,107,108,109,110,111,112,113,114,115,116,117,118,119,120,121,122,123,124,125,126]
noncomputable def bz:List Nat:= [10,32,33,34,35,36,38,39,40,41,42,43,44,45,46,47,48,49,50,51,52,53,54,55,56,57,58,59,60,61,62,63,64,65,66,67,68,69,70,71,72,73,74,75,76,77,78,79,80,81,82,83,84,85,86,87,88,89,90,91,92,93,94,95,96,97,98,99,100,101,102,103,104,105,106,107,108,109,110,111,112,113,114,115,116,117,118,119,120,121,122,123,124,125,126]
noncomputable def BC:List Nat:= [116,104,101,114,101,32,105,115,32,97,32,118,97,108,117,101,32,102,111,114,32,110,111,32,110,97,109,101]
noncomputable def BB:List Nat:= [119,104,97,116,32,97,32,110,97,109,101,32,104,97,115,32,105,115,32,110,111,32,118,97,108,117,101]
set_option genSizeOf false in
inductive Fn where
 | law | l_names | l_cell | l_thing | l_node | l_due | l_refused | l_long | l_within | l_led | l_no_values | l_cell_at | l_is | written | l_value | way_of | Word_fits | Number_fits | Quoted_fits | Plain_fits | Line_fits | Way_coded | l_long_book | need_values | Writer___init__ | Pen_outcome_written | Writer_write_nodes | Pen_outcome_refused | references_to | l_signs | is_text | is_made_of | is_short_number | Word_spelling | Number_spelling | Quoted_spelling | Plain_spelling | Line_spelling | is_value | Pen___init__ | Writer_write_node | escaped | is_value_within | Pen_write | Pen_put | stood_for | Writer_write_rounds | Pen_truth_wanted | scope_in_use | scope_in_body | is_record_within | are_values_within | Pen_thing_wanted | Refused___init__ | Pen_list_wanted | Pen_begin_round | scope_in_loop | with_handed_in | is_name | Pen_count_one | found
abbrev CC:=Fn→List PV→L3.Out
abbrev DD:=Fn→List PV→List PO→Res PV
def qR:Fn→Stmt
 | .law=>top 86
 | .l_names=>top 74
 | .l_cell=>top 72
 | .l_thing=>top 76
 | .l_node=>top 79
 | .l_due=>top 80
 | .l_refused=>top 84
 | .l_long=>top 83
 | .l_within=>top 77
 | .l_led=>top 78
 | .l_no_values=>top 85
 | .l_cell_at=>top 71
 | .l_is=>top 81
 | .written=>top 68
 | .l_value=>top 75
 | .way_of=>top 51
 | .Word_fits=>bE (top 46) 0
 | .Number_fits=>bE (top 47) 0
 | .Quoted_fits=>bE (top 48) 0
 | .Plain_fits=>bE (top 49) 0
 | .Line_fits=>bE (top 50) 0
 | .Way_coded=>bE (top 45) 0
 | .l_long_book=>top 82
 | .need_values=>top 31
 | .Writer___init__=>bE (top 69) 0
 | .Pen_outcome_written=>bE (top 59) 8
 | .Writer_write_nodes=>bE (top 69) 1
 | .Pen_outcome_refused=>bE (top 59) 9
 | .references_to=>top 60
 | .l_signs=>top 73
 | .is_text=>top 17
 | .is_made_of=>top 19
 | .is_short_number=>top 27
 | .Word_spelling=>bE (top 46) 1
 | .Number_spelling=>bE (top 47) 1
 | .Quoted_spelling=>bE (top 48) 1
 | .Plain_spelling=>bE (top 49) 1
 | .Line_spelling=>bE (top 50) 1
 | .is_value=>top 25
 | .Pen___init__=>bE (top 59) 0
 | .Writer_write_node=>bE (top 69) 2
 | .escaped=>top 54
 | .is_value_within=>top 26
 | .Pen_write=>bE (top 59) 1
 | .Pen_put=>bE (top 59) 5
 | .stood_for=>top 62
 | .Writer_write_rounds=>bE (top 69) 3
 | .Pen_truth_wanted=>bE (top 59) 7
 | .scope_in_use=>top 64
 | .scope_in_body=>top 65
 | .is_record_within=>top 28
 | .are_values_within=>top 29
 | .Pen_thing_wanted=>bE (top 59) 4
 | .Refused___init__=>bE (top 58) 0
 | .Pen_list_wanted=>bE (top 59) 6
 | .Pen_begin_round=>bE (top 59) 3
 | .scope_in_loop=>top 63
 | .with_handed_in=>top 66
 | .is_name=>top 18
 | .Pen_count_one=>bE (top 59) 2
 | .found=>top 30
noncomputable def rd:Fn→List Str
 | .law=> ["_law_script","_law_spot","_law_names_here","_law_n","_law_fields","_law_thing_here","_law_values","_law_node_here","_law_path","_law_kept","_law_book","_law_word","_law_text","_law_due_here","_law_turn"]
 | .l_names=> ["_law_n","_law_some","_law_at","_law_found","_law_k","_law_word","_law_told"]
 | .l_cell=> ["_law_cells","_law_spot","_law_k","_law_base"]
 | .l_thing=> ["_law_cells","_law_spot","_law_kinds"]
 | .l_node=> ["_law_names_here","_law_fields","_law_n","_law_at","_law_path","_law_way","_law_kind","_law_name"]
 | .l_due=> ["_law_node_here","_law_found","_law_thing_here","_law_way","_law_text","_law_k"]
 | .l_refused=> ["_law_book","_law_values","e","_law_others"]
 | .l_long=> ["_law_draw","_law_book","_law_values","_law_events","_law_due_here"]
 | .l_within=> ["_law_thing_here","_law_fields","_law_names_here","_law_n","_law_value_here","_law_k","_law_record"]
 | .l_led=> ["_law_value_here","_law_fields","_law_field"]
 | .l_no_values=> ["_law_name","_law_other","_law_n","_law_nine","_law_some"]
 | .l_cell_at=> ["_law_script","_law_k"]
 | .l_is=> ["_law_found","_law_due_here"]
 | .written=> ["book","values","main","writer","refusal"]
 | .l_value=> ["_law_cells","_law_spot","_law_kind","_law_odd","_law_n","_law_found","_law_most","_law_size","_law_some"]
 | .way_of=> ["word"]
 | .Word_fits=> ["self","value"]
 | .Number_fits=> ["self","value"]
 | .Quoted_fits=> ["self","value"]
 | .Plain_fits=> ["self","value"]
 | .Line_fits=> ["self","value"]
 | .Way_coded=> ["self","value"]
 | .l_long_book=> ["_law_draw","_law_size","_law_ahead","_law_inner","_law_least","_law_book","_law_rows","_law_last","_law_events","_law_k","_law_j","_law_nodes","_law_values"]
 | .need_values=> ["names","values","name"]
 | .Writer___init__=> ["self","book","piece"]
 | .Pen_outcome_written=> ["self"]
 | .Writer_write_nodes=> ["self","nodes","scope","node"]
 | .Pen_outcome_refused=> ["self","word"]
 | .references_to=> ["values","references","name"]
 | .l_signs=> ["_law_some"]
 | .is_text=> ["thing","most"]
 | .is_made_of=> ["text","allowed","sign"]
 | .is_short_number=> ["number"]
 | .Word_spelling=> ["self","value"]
 | .Number_spelling=> ["self","value"]
 | .Quoted_spelling=> ["self","value"]
 | .Plain_spelling=> ["self","value"]
 | .Line_spelling=> ["self","value"]
 | .is_value=> ["thing"]
 | .Pen___init__=> ["self"]
 | .Writer_write_node=> ["self","node","scope","kind","truth","piece","body"]
 | .escaped=> ["text","mark","raw","letters","parts","sign","place"]
 | .is_value_within=> ["thing","depth"]
 | .Pen_write=> ["self","text"]
 | .Pen_put=> ["self","reference","word","value","way"]
 | .stood_for=> ["path","scope"]
 | .Writer_write_rounds=> ["self","node","scope","things","number","thing"]
 | .Pen_truth_wanted=> ["self","reference","truth"]
 | .scope_in_use=> ["use","piece","scope","body"]
 | .scope_in_body=> ["paths","scope","body","user"]
 | .is_record_within=> ["record","depth","field"]
 | .are_values_within=> ["things","depth","thing"]
 | .Pen_thing_wanted=> ["self","reference","things"]
 | .Refused___init__=> ["self","word"]
 | .Pen_list_wanted=> ["self","reference","things"]
 | .Pen_begin_round=> ["self","number","between"]
 | .scope_in_loop=> ["name","meaning","scope","meanings"]
 | .with_handed_in=> ["meanings","names","paths","scope","name","path"]
 | .is_name=> ["thing"]
 | .Pen_count_one=> ["self"]
 | .found=> ["value","fields","here","field"]
def lP:Fn→Str
 | .law=>"law"
 | .l_names=>"_law_names"
 | .l_cell=>"_law_cell"
 | .l_thing=>"_law_thing"
 | .l_node=>"_law_node"
 | .l_due=>"_law_due"
 | .l_refused=>"_law_refused"
 | .l_long=>"_law_long"
 | .l_within=>"_law_within"
 | .l_led=>"_law_led"
 | .l_no_values=>"_law_no_values"
 | .l_cell_at=>"_law_cell_at"
 | .l_is=>"_law_is"
 | .written=>"written"
 | .l_value=>"_law_value"
 | .way_of=>"way_of"
 | .Word_fits=>"fits"
 | .Number_fits=>"fits"
 | .Quoted_fits=>"fits"
 | .Plain_fits=>"fits"
 | .Line_fits=>"fits"
 | .Way_coded=>"coded"
 | .l_long_book=>"_law_long_book"
 | .need_values=>"need_values"
 | .Writer___init__=>"__init__"
 | .Pen_outcome_written=>"outcome_written"
 | .Writer_write_nodes=>"write_nodes"
 | .Pen_outcome_refused=>"outcome_refused"
 | .references_to=>"references_to"
 | .l_signs=>"_law_signs"
 | .is_text=>"is_text"
 | .is_made_of=>"is_made_of"
 | .is_short_number=>"is_short_number"
 | .Word_spelling=>"spelling"
 | .Number_spelling=>"spelling"
 | .Quoted_spelling=>"spelling"
 | .Plain_spelling=>"spelling"
 | .Line_spelling=>"spelling"
 | .is_value=>"is_value"
 | .Pen___init__=>"__init__"
 | .Writer_write_node=>"write_node"
 | .escaped=>"escaped"
 | .is_value_within=>"is_value_within"
 | .Pen_write=>"write"
 | .Pen_put=>"put"
 | .stood_for=>"stood_for"
 | .Writer_write_rounds=>"write_rounds"
 | .Pen_truth_wanted=>"truth_wanted"
 | .scope_in_use=>"scope_in_use"
 | .scope_in_body=>"scope_in_body"
 | .is_record_within=>"is_record_within"
 | .are_values_within=>"are_values_within"
 | .Pen_thing_wanted=>"thing_wanted"
 | .Refused___init__=>"__init__"
 | .Pen_list_wanted=>"list_wanted"
 | .Pen_begin_round=>"begin_round"
 | .scope_in_loop=>"scope_in_loop"
 | .with_handed_in=>"with_handed_in"
 | .is_name=>"is_name"
 | .Pen_count_one=>"count_one"
 | .found=>"found"
def wI:Fn→Str
 | .Word_fits=>"Word.fits"
 | .Number_fits=>"Number.fits"
 | .Quoted_fits=>"Quoted.fits"
 | .Plain_fits=>"Plain.fits"
 | .Line_fits=>"Line.fits"
 | .Way_coded=>"Way.coded"
 | .Writer___init__=>"Writer.__init__"
 | .Pen_outcome_written=>"Pen.outcome_written"
 | .Writer_write_nodes=>"Writer.write_nodes"
 | .Pen_outcome_refused=>"Pen.outcome_refused"
 | .Word_spelling=>"Word.spelling"
 | .Number_spelling=>"Number.spelling"
 | .Quoted_spelling=>"Quoted.spelling"
 | .Plain_spelling=>"Plain.spelling"
 | .Line_spelling=>"Line.spelling"
 | .Pen___init__=>"Pen.__init__"
 | .Writer_write_node=>"Writer.write_node"
 | .Pen_write=>"Pen.write"
 | .Pen_put=>"Pen.put"
 | .Writer_write_rounds=>"Writer.write_rounds"
 | .Pen_truth_wanted=>"Pen.truth_wanted"
 | .Pen_thing_wanted=>"Pen.thing_wanted"
 | .Refused___init__=>"Refused.__init__"
 | .Pen_list_wanted=>"Pen.list_wanted"
 | .Pen_begin_round=>"Pen.begin_round"
 | .Pen_count_one=>"Pen.count_one"
 | f=>lP f
def Aw:Fn→Bool
 | .Word_fits | .Number_fits | .Quoted_fits | .Plain_fits | .Line_fits | .Way_coded | .Writer___init__ | .Pen_outcome_written | .Writer_write_nodes | .Pen_outcome_refused | .Word_spelling | .Number_spelling | .Quoted_spelling | .Plain_spelling | .Line_spelling | .Pen___init__ | .Writer_write_node | .Pen_write | .Pen_put | .Writer_write_rounds | .Pen_truth_wanted | .Pen_thing_wanted | .Refused___init__ | .Pen_list_wanted | .Pen_begin_round | .Pen_count_one=>false
 | _=>true
set_option genSizeOf false in
inductive Nt where
 | ValueError | abs | all | bool | dict | enumerate | int | isinstance | len | list | max | range | repr | reversed | set | str | tuple | zip
def Hn:Nt→Str
 | .ValueError=>"ValueError"
 | .abs=>"abs"
 | .all=>"all"
 | .bool=>"bool"
 | .dict=>"dict"
 | .enumerate=>"enumerate"
 | .int=>"int"
 | .isinstance=>"isinstance"
 | .len=>"len"
 | .list=>"list"
 | .max=>"max"
 | .range=>"range"
 | .repr=>"repr"
 | .reversed=>"reversed"
 | .set=>"set"
 | .str=>"str"
 | .tuple=>"tuple"
 | .zip=>"zip"
def jR:Fn→List Str
 | .law=> ["_law_script"]
 | .l_names=> ["_law_n"]
 | .l_cell=> ["_law_cells","_law_spot"]
 | .l_thing=> ["_law_cells","_law_spot"]
 | .l_node=> ["_law_names_here","_law_fields","_law_n"]
 | .l_due=> ["_law_node_here","_law_found"]
 | .l_refused=> ["_law_book","_law_values"]
 | .l_long=> ["_law_draw"]
 | .l_within=> ["_law_thing_here","_law_fields","_law_names_here","_law_n"]
 | .l_led=> ["_law_value_here","_law_fields"]
 | .l_no_values=> ["_law_name","_law_other","_law_n"]
 | .l_cell_at=> ["_law_script","_law_k"]
 | .l_is=> ["_law_found","_law_due_here"]
 | .written=> ["book","values"]
 | .l_value=> ["_law_cells","_law_spot","_law_kind","_law_odd"]
 | .way_of=> ["word"]
 | .Word_fits=> ["self","value"]
 | .Number_fits=> ["self","value"]
 | .Quoted_fits=> ["self","value"]
 | .Plain_fits=> ["self","value"]
 | .Line_fits=> ["self","value"]
 | .Way_coded=> ["self","value"]
 | .l_long_book=> ["_law_draw"]
 | .need_values=> ["names","values"]
 | .Writer___init__=> ["self","book"]
 | .Pen_outcome_written=> ["self"]
 | .Writer_write_nodes=> ["self","nodes","scope"]
 | .Pen_outcome_refused=> ["self","word"]
 | .references_to=> ["values"]
 | .l_signs=> []
 | .is_text=> ["thing","most"]
 | .is_made_of=> ["text","allowed"]
 | .is_short_number=> ["number"]
 | .Word_spelling=> ["self","value"]
 | .Number_spelling=> ["self","value"]
 | .Quoted_spelling=> ["self","value"]
 | .Plain_spelling=> ["self","value"]
 | .Line_spelling=> ["self","value"]
 | .is_value=> ["thing"]
 | .Pen___init__=> ["self"]
 | .Writer_write_node=> ["self","node","scope"]
 | .escaped=> ["text","mark","raw","letters"]
 | .is_value_within=> ["thing","depth"]
 | .Pen_write=> ["self","text"]
 | .Pen_put=> ["self","reference","word"]
 | .stood_for=> ["path","scope"]
 | .Writer_write_rounds=> ["self","node","scope"]
 | .Pen_truth_wanted=> ["self","reference"]
 | .scope_in_use=> ["use","piece","scope"]
 | .scope_in_body=> ["paths","scope"]
 | .is_record_within=> ["record","depth"]
 | .are_values_within=> ["things","depth"]
 | .Pen_thing_wanted=> ["self","reference"]
 | .Refused___init__=> ["self","word"]
 | .Pen_list_wanted=> ["self","reference"]
 | .Pen_begin_round=> ["self","number","between"]
 | .scope_in_loop=> ["name","meaning","scope"]
 | .with_handed_in=> ["meanings","names","paths","scope"]
 | .is_name=> ["thing"]
 | .Pen_count_one=> ["self"]
 | .found=> ["value","fields"]
def kH(C:CC):Nat→Option (List PV→L3.Out)
 | 0=>some (C .Way_coded)
 | 1=>some (C .Way_coded)
 | 2=>some (C .Way_coded)
 | 3=>some (C .Way_coded)
 | 4=>some (C .Way_coded)
 | _=>none
def lX(C:CC):Nat→Option (List PV→L3.Out)
 | 0=>some (C .Word_fits)
 | 1=>some (C .Number_fits)
 | 2=>some (C .Quoted_fits)
 | 3=>some (C .Plain_fits)
 | 4=>some (C .Line_fits)
 | _=>none
def jA(C:CC):Nat→Option (List PV→L3.Out)
 | 0=>some (C .Word_spelling)
 | 1=>some (C .Number_spelling)
 | 2=>some (C .Quoted_spelling)
 | 3=>some (C .Plain_spelling)
 | 4=>some (C .Line_spelling)
 | _=>none
def kd_:Nat→Option Bool
 | 0=>some false
 | 1=>some false
 | 2=>some false
 | 3=>some false
 | 4=>some false
 | 8=>some true
 | 500=>some true
 | _=>none
def tC_:List (Nat×Nat×Bool):= [(8,12,false),(8,11,false),(8,7,false),(8,8,true),(8,6,false),(8,10,false),(8,14,false),(8,9,false),(8,13,false),(500,12,false),(500,11,false),(500,7,false),(500,8,false),(500,6,false),(500,10,false),(500,14,false),(500,9,false),(500,13,false)]
def sC_:Nat→Nat→Option Bool:=yB tC_
def sT_:Nat→String→Option Bool
 | 8,"ValueError"=>some true
 | 500,"ValueError"=>some false
 | _,_=>none
def gy:Nat→Bool
 | 8=>true
 | _=>false
def gF:Nat→Bool
 | 500=>true
 | _=>false
def mI:Nat→Bool
 | 500=>true
 | _=>false
def dl:Nat→Nat
 | 0=>0
 | k+1=>dl k+2
def kA(C:CC)(Z:DD):Sx:=
 (aA (aU 2 (c2 pIx (af 0) (c1 zY (cK (.int 1)))))
  (aA (dk (eM (Z .need_values) (aa (c2 pIx (af 2) (cK (.int 2))) (aa (af 1) aj))))
  (aA (aU 3 (vW 601 (Z .Writer___init__) (aa (af 0) aj)))
  (aA (rC gF (dk (bK 601 (Z .Writer_write_nodes) (af 3) (aa (c2 pIx (af 2) (cK (.int 4))) (aa (cN aN (aa (bj (C .references_to) (aa (af 1) aj)) (aa (cK .non) aj))) aj)))) 4 (aY (bK 600 (Z .Pen_outcome_refused) (c1 (iu 601 0) (af 3)) (aa (c1 (pAt mI) (af 4)) aj))))
  (aY (bK 600 (Z .Pen_outcome_written) (c1 (iu 601 0) (af 3)) aj))))))
def dR(C:CC):Sx:=(sIf (aW (c2 cF (af 2) (af 1))) (lF 8 (aa (cK (.str BD)) aj)) bG)
def fT(C:CC):Sx:=(aA (sIf (aW (c2 cF (af 2) (af 0))) (lF 8 (aa (cK (.str BC)) aj)) bG)
  (sIf (eY (cO (bj (C .is_value) (aa (c2 pIx (af 1) (af 2)) aj)))) (lF 8 (aa (cK (.str BB)) aj)) bG))
def cz(C:CC):Sx:=
 (aA (sIf (eY (cO (cN aH (aa (af 1) (aa (cK (.ty "dict")) aj))))) (lF 8 (aa (cK (.str BE)) aj)) bG)
  (aA (gR (og (af 0)) (gNm 2) (dR C))
  (gR (og (af 1)) (gNm 2) (fT C))))
def dI(C:CC):Sx:=(nV (c1 (iu 601 1) (af 0)) (c2 pIx (af 2) (cK (.int 1))) (af 2))
def dQ(C:CC)(Z:DD):Sx:=
 (aA (pU 601 0 (af 0) (vW 600 (Z .Pen___init__) aj))
  (aA (pU 601 1 (af 0) qM)
  (gR (ng (af 1)) (gNm 2) (dI C))))
def cC(C:CC):Sx:=
 (aY (cN aN (aa (cK (.str [119,114,105,116,116,101,110])) (aa (cM iI eG (cK (.str [])) (aa (c1 (iu 600 0) (af 0)) aj)) aj))))
def cf(C:CC)(Z:DD):Sx:=(dk (bK 601 (Z .Writer_write_node) (af 0) (aa (af 3) (aa (af 2) aj))))
def cJ(C:CC)(Z:DD):Sx:=
 (gR (ng (af 1)) (gNm 3) (cf C Z))
def cD(C:CC):Sx:=
 (aY (cN aN (aa (cK (.str [114,101,102,117,115,101,100])) (aa (af 1) (aa (cM iI eG (cK (.str [])) (aa (c1 (iu 600 0) (af 0)) aj)) aj)))))
def jM(C:CC):Sx:=
 (aA (pU 600 0 (af 0) (cN qn aj))
  (pU 600 1 (af 0) (cK (.int 0))))
def au(C:CC)(Z:DD):Sx:=
 (aA (aU 3 (c2 pIx (af 1) (cK (.int 0))))
  (sIf (aW (c2 pEq (af 3) (cK (.str [116,101,120,116])))) (dk (bK 600 (Z .Pen_write) (c1 (iu 601 0) (af 0)) (aa (c2 pIx (af 1) (cK (.int 1))) aj))) (sIf (aW (c2 pEq (af 3) (cK (.str [112,108,97,99,101])))) (dk (bK 600 (Z .Pen_put) (c1 (iu 601 0) (af 0)) (aa (bj (C .stood_for) (aa (c2 pIx (af 1) (cK (.int 1))) (aa (af 2) aj))) (aa (c2 pIx (af 1) (cK (.int 2))) aj)))) (sIf (aW (c2 pEq (af 3) (cK (.str [108,111,111,112])))) (dk (bK 601 (Z .Writer_write_rounds) (af 0) (aa (af 1) (aa (af 2) aj)))) (sIf (aW (c2 pEq (af 3) (cK (.str [99,104,111,105,99,101])))) (aA (aU 4 (bK 600 (Z .Pen_truth_wanted) (c1 (iu 601 0) (af 0)) (aa (bj (C .stood_for) (aa (c2 pIx (af 1) (cK (.int 1))) (aa (af 2) aj))) aj)))
  (dk (bK 601 (Z .Writer_write_nodes) (af 0) (aa (vX (cO (af 4)) (c2 pIx (af 1) (cK (.int 2))) (c2 pIx (af 1) (cK (.int 3)))) (aa (af 2) aj))))) (sIf (aW (c2 pEq (af 3) (cK (.str [117,115,101])))) (aA (aU 5 (c2 pIx (c1 (iu 601 1) (af 0)) (c2 pIx (af 1) (cK (.int 1)))))
  (dk (bK 601 (Z .Writer_write_nodes) (af 0) (aa (c2 pIx (af 5) (cK (.int 4))) (aa (bj (C .scope_in_use) (aa (af 1) (aa (af 5) (aa (af 2) aj)))) aj))))) (aA (aU 6 (c2 pIx (af 2) (cK (.int 1))))
  (dk (bK 601 (Z .Writer_write_nodes) (af 0) (aa (c2 pIx (af 6) (cK (.int 1))) (aa (bj (C .scope_in_body) (aa (c2 pIx (af 1) (cK (.int 1))) (aa (af 2) aj))) aj)))))))))))
def iz(C:CC):Sx:=
 (dk (cM sd iH (c1 (iu 600 0) (af 0)) (aa (af 1) aj)))
def fN(C:CC)(Z:DD)(z:Bool):Sx:=
 (aA (aU 3 (bK 600 (Z .Pen_thing_wanted) (af 0) (aa (af 1) aj)))
  (aA (aU 4 (bj (C .way_of) (aa (af 2) aj)))
  (aA (sIf (eY (cO (lA (lX C) (af 4) (aa (af 3) aj)))) (jp z 500 (aa (cK (.str [118,97,108,117,101])) aj)) bG)
  (aA (dk (bK 600 (Z .Pen_write) (af 0) (aa (lA (kH C) (af 4) (aa (af 3) aj)) aj)))
  (aY (af 3))))))
def bC(C:CC)(Z:DD):Sx:=(aA (dk (bK 600 (Z .Pen_begin_round) (c1 (iu 601 0) (af 0)) (aa (af 4) (aa (c2 pIx (af 1) (cK (.int 4))) aj))))
  (dk (bK 601 (Z .Writer_write_nodes) (af 0) (aa (c2 pIx (af 1) (cK (.int 3))) (aa (bj (C .scope_in_loop) (aa (c2 pIx (af 1) (cK (.int 1))) (aa (cN aN (aa (af 5) aj)) (aa (af 2) aj)))) aj)))))
def bI(C:CC)(Z:DD):Sx:=
 (aA (aU 3 (bK 600 (Z .Pen_list_wanted) (c1 (iu 601 0) (af 0)) (aa (bj (C .stood_for) (aa (c2 pIx (af 1) (cK (.int 2))) (aa (af 2) aj))) aj)))
  (gR (Dh (aa (af 3) aj)) (gTp 2 (dJ (gNm 4) (dJ (gNm 5) lf))) (bC C Z)))
def bw(C:CC)(Z:DD)(z:Bool):Sx:=
 (aA (aU 2 (bK 600 (Z .Pen_thing_wanted) (af 0) (aa (af 1) aj)))
  (aA (sIf (eY (cO (cN aH (aa (af 2) (aa (cK (.ty "bool")) aj))))) (jp z 500 (aa (cK (.str [116,114,117,116,104])) aj)) bG)
  (aY (af 2))))
def bx(C:CC)(Z:DD)(z:Bool):Sx:=
 (aA (dk (bK 600 (Z .Pen_count_one) (af 0) aj))
  (aA (aU 2 (bj (C .found) (aa (c2 pIx (af 1) (cK (.int 0))) (aa (qL (af 1) (jW (cK (.int 1))) jX) aj))))
  (aA (sIf (eY (cO (af 2))) (jp z 500 (aa (cK (.str [102,105,101,108,100])) aj)) bG)
  (aY (c2 pIx (af 2) (cK (.int 0)))))))
def bD(C:CC)(Z:DD)(z:Bool):Sx:=
 (aA (aU 2 (bK 600 (Z .Pen_thing_wanted) (af 0) (aa (af 1) aj)))
  (aA (sIf (eY (cO (cN aH (aa (af 2) (aa (cK (.ty "list")) aj))))) (jp z 500 (aa (cK (.str [108,105,115,116])) aj)) bG)
  (aY (af 2))))
def bR(C:CC)(Z:DD):Sx:=
 (aA (dk (bK 600 (Z .Pen_count_one) (af 0) aj))
  (sIf (aW (c2 pGt (af 1) (cK (.int 0)))) (dk (bK 600 (Z .Pen_write) (af 0) (aa (af 2) aj))) bG))
def dZ(C:CC):Sx:=(nV (af 0) (af 4) (bj (C .stood_for) (aa (af 5) (aa (af 3) aj))))
def eP(C:CC):Sx:=
 (aA (gR (FM (aa (af 1) (aa (af 2) aj))) (gTp 2 (dJ (gNm 4) (dJ (gNm 5) lf))) (dZ C))
  (aY (af 0)))
def cG(C:CC)(z:Bool):Sx:=
 (aA (pU 600 1 (af 0) (c2 aO (c1 (iu 600 1) (af 0)) (cK (.int 1))))
  (sIf (aW (c2 pGt (c1 (iu 600 1) (af 0)) (cK (.int 2000)))) (jp z 500 (aa (cK (.str [108,111,110,103])) aj)) bG))
def mR(C:CC):Ex:=(c2 pIx (af 1) (c2 bO (c2 cS (af 2) (c2 pIx (cN cu (aa (cK (.int 1)) (aa (cK (.int 8)) (aa (cK (.int 64)) aj)))) (af 0))) (cK (.int 8))))
def oJ(C:CC):Sx:=(sIf (wo (eY (cO (bj (C .l_is) (aa (bj (C .written) (aa (af 10) (aa (af 6) aj))) (aa (af 13) aj))))) (aW (c2 pNe (cN qm (aa (af 6) aj)) (af 9)))) (aY (cK (.bl false))) bG)
def sL(C:CC)(D:DD):Sx:=
 (aA (sIf (aW (c2 pEq (c2 bO (bj (C .l_cell_at) (aa (af 0) (aa (cK (.int 0)) aj))) (cK (.int 9))) (cK (.int 1)))) (aY (bj (C .l_long) (aa (c2 aO (c2 bO (c2 cS (bj (C .l_cell_at) (aa (af 0) (aa (cK (.int 0)) aj))) (cK (.int 9))) (cK (.int 22))) (c2 eF (cK (.int 22)) (c2 bO (bj (C .l_cell_at) (aa (af 0) (aa (cK (.int 1)) aj))) (cK (.int 6))))) aj))) bG)
  (aA (aU 1 (cN qn (aa (cK (.int 0)) (aa (cK (.int 0)) aj))))
  (aA (aU 2 (bj (C .l_names) (aa (eM (D .l_cell) (aa (af 0) (aa (af 1) aj))) aj)))
  (aA (aU 3 (eM (D .l_cell) (aa (af 0) (aa (af 1) aj))))
  (aA (aU 4 (cN lL (aa (qL (cN okL (gH [2,3] (eX (aa (c2 bO (c2 cS (af 3) (cK (.int 512))) (cK (.int 4))) aj)) et (mR C))) jX (jW (cK (.int 3)))) aj)))
  (aA (aU 5 (eM (D .l_thing) (aa (af 0) (aa (af 1) aj))))
  (aA (aU 6 (eZ [((c2 pIx (af 2) (cK (.int 11))),(bj (C .l_within) (aa (af 5) (aa (af 4) (aa (af 2) (aa (eM (D .l_cell) (aa (af 0) (aa (af 1) aj))) aj))))))]))
  (aA (aU 7 (bj (C .l_node) (aa (af 2) (aa (af 4) (aa (eM (D .l_cell) (aa (af 0) (aa (af 1) aj))) aj)))))
  (aA (aU 8 (vX (aW (c2 pEq (c2 pIx (af 7) (cK (.int 0))) (cK (.str [108,111,111,112])))) (c2 pIx (af 7) (cK (.int 2))) (c2 pIx (af 7) (cK (.int 1)))))
  (aA (aU 9 (cN qm (aa (af 6) aj)))
  (aA (aU 10 (cN aN (aa (cN aN (aa (cK (.str [112,105,101,99,101])) (aa (c2 pIx (af 2) (cK (.int 10))) (aa (cN aN (aa (c2 pIx (af 2) (cK (.int 11))) aj)) (aa (cK .non) (aa (cN aN (aa (cN aN (aa (cK (.str [116,101,120,116])) (aa (cK (.str [60])) aj))) (aa (af 7) (aa (cN aN (aa (cK (.str [116,101,120,116])) (aa (cK (.str [62])) aj))) aj)))) aj)))))) aj)))
  (aA (DI (gTp 2 (dJ (gNm 11) (dJ (gNm 12) lf))) (bj (C .l_due) (aa (af 7) (aa (bj (C .l_led) (aa (c2 pIx (af 6) (c2 pIx (af 2) (cK (.int 11)))) (aa (qL (af 8) (jW (cK (.int 1))) jX) aj))) aj))))
  (aA (aU 13 (cN aN (aa (cK (.str [119,114,105,116,116,101,110])) (aa (c2 aO (c2 aO (cK (.str [60])) (af 12)) (cK (.str [62]))) aj))))
  (aA (sIf (aW (c2 pNe (af 11) (cK (.str [])))) (aU 13 (cN aN (aa (cK (.str [114,101,102,117,115,101,100])) (aa (af 11) (aa (c2 aO (cK (.str [60])) (af 12)) aj))))) bG)
  (aA (gR (eX (aa (cK (.int 2)) aj)) (gNm 14) (oJ C))
  (aY (bj (C .l_refused) (aa (af 10) (aa (bj (C .l_no_values) (aa (c2 pIx (af 2) (cK (.int 11))) (aa (c2 pIx (af 2) (cK (.int 0))) (aa (c2 cS (eM (D .l_cell) (aa (af 0) (aa (af 1) aj))) (cK (.int 7))) aj)))) aj)))))))))))))))))))
def ko(C:CC):Ex:=(c2 pIx (af 1) (c2 bO (c2 aO (c2 aO (c2 cS (af 2) (cK (.int 128))) (c2 eF (cK (.int 5)) (af 0))) (c2 eF (c2 eF (cK (.int 3)) (c2 cS (af 3) (cK (.int 8)))) (c2 mG (cK (.int 1)) (c2 bO (af 2) (cK (.int 2)))))) (cK (.int 26))))
def fO(C:CC):Sx:=(aA (aU 5 (cN uZ (gH [1,0,4] (eX (aa (cK (.int 8)) aj)) et (ko C))))
  (aA (sIf (aW (c2 pEq (c2 bO (af 0) (cK (.int 2))) (cK (.int 1)))) (tm (af 5) (af 2) (c2 pIx (af 1) (c2 bO (c2 aO (c2 aO (c2 cS (af 0) (cK (.int 128))) (c2 eF (cK (.int 7)) (af 4))) (cK (.int 1))) (cK (.int 26))))) bG)
  (dk (cM sd iH (af 3) (aa (cM iI eG (cK (.str [])) (aa (qL (af 5) jX (jW (c2 pIx (cN cu (aa (c2 aO (cK (.int 1)) (c2 bO (af 4) (cK (.int 8)))) (aa (c2 aO (c2 aO (af 2) (cK (.int 1))) (c2 bO (c2 cS (af 0) (cK (.int 16))) (c2 mG (cK (.int 8)) (af 2)))) aj))) (c2 bO (af 0) (cK (.int 2)))))) aj)) aj)))))
def jj(C:CC):Sx:=
 (aA (aU 1 (cK (.str bg)))
  (aA (aU 2 (c2 bO (c2 cS (af 0) (cK (.int 2))) (cK (.int 8))))
  (aA (aU 3 (cN qn aj))
  (aA (gR (eX (aa (cK (.int 12)) aj)) (gNm 4) (fO C))
  (aA (aU 6 (cN cu (aa (cK (.str [97,115])) (aa (cK (.str [98,101,116,119,101,101,110])) (aa (cK (.str [98,111,100,121])) (aa (cK (.str [101,108,115,101])) (aa (cK (.str [101,110,100])) (aa (cK (.str [102,111,114])) (aa (cK (.str [105,102])) (aa (cK (.str [105,110])) (aa (cK (.str [112,105,101,99,101])) (aa (cK (.str [117,115,101])) (aa (cK (.str [119,105,116,104])) aj)))))))))))))
  (aA (sIf (aW (c2 pLt (c1 oQ (c2 aO (af 3) (af 6))) (cK (.int 23)))) (aY (cN cu (aa (cK (.str [97])) (aa (cK (.str [98])) (aa (cK (.str [97,98])) (aa (cK (.str [98,97])) (aa (cK (.str [105,116,101,109])) (aa (cK (.str [105,116,101,109,115])) (aa (cK (.str [99])) (aa (cK (.str [120])) (aa (cK (.str [120,121])) (aa (cK (.str [121])) (aa (cK (.str [114,111,119])) (aa (cK (.str [114,111,119,115])) aj)))))))))))))) bG)
  (aY (af 3))))))))
def jk(C:CC):Sx:=
 (aA (tm (af 1) (cK (.int 0)) (c2 aO (c2 pIx (af 1) (cK (.int 0))) (cK (.int 1))))
  (aA (aU 2 (c2 pIx (af 1) (cK (.int 0))))
  (aA (aU 3 (c2 aO (c2 eF (c2 eF (cK (.int 31)) (af 2)) (af 2)) (c2 eF (cK (.int 7919)) (af 2))))
  (aA (sIf (aW (c2 pGt (cN fy (aa (af 0) aj)) (cK (.int 0)))) (aU 3 (c2 aO (af 3) (c2 eF (c2 pIx (af 0) (c2 bO (af 2) (cN fy (aa (af 0) aj)))) (c2 aO (cK (.int 1)) (c2 cS (af 2) (cN fy (aa (af 0) aj))))))) bG)
  (aY (c2 cS (c2 bO (c2 eF (af 3) (cK (.int 48271))) (cK (.int 2147483647))) (cK (.int 7))))))))
def kJ(C:CC)(D:DD):Sx:=
 (aA (aU 2 (cN cu (aa (cN aN (aa (cK (.str [116])) aj)) (aa (cN aN (aa (cK (.str [119])) aj)) (aa (cN aN (aa (cK (.str [110])) aj)) (aa (cN aN (aa (cK (.str [98])) aj)) (aa (cN aN (aa (cK (.str [108])) (aa (cN aN (aa (cK (.str [116])) aj)) aj))) (aa (cN aN (aa (cK (.str [108])) (aa (cN aN (aa (cK (.str [110])) aj)) aj))) (aa (cN aN (aa (cK (.str [114])) (aa (cN aN (aa (cN aN (aa (cK (.str [97])) (aa (cN aN (aa (cK (.str [116])) aj)) aj))) aj)) aj))) (aa (cN aN (aa (cK (.str [108])) (aa (cN aN (aa (cK (.str [119])) aj)) aj))) aj))))))))))
  (aY (eM (D .l_value) (aa (af 0) (aa (af 1) (aa (c2 pIx (af 2) (c2 bO (c2 cS (eM (D .l_cell) (aa (af 0) (aa (af 1) aj))) (cK (.int 3))) (cK (.int 8)))) (aa (cK (.bl true)) aj)))))))
def kt(C:CC):Sx:=
 (aA (sIf (pA (aW (c2 pEq (c2 bO (af 2) (cK (.int 9))) (cK (.int 1)))) (aW (c2 pNe (af 1) (cN aN aj)))) (aA (aU 3 (c2 bO (c2 cS (af 2) (cK (.int 9))) (cN fy (aa (af 1) aj))))
  (aU 1 (c2 aO (c2 aO (qL (af 1) jX (jW (af 3))) (cN aN (aa (c2 pIx (af 0) (cK (.int 9))) aj))) (qL (af 1) (jW (c2 aO (af 3) (cK (.int 1)))) jX)))) bG)
  (aA (sIf (pA (aW (c2 pEq (c2 bO (af 2) (cK (.int 9))) (cK (.int 2)))) (aW (c2 pLt (cN fy (aa (af 1) aj)) (cK (.int 3))))) (aU 1 (c2 aO (af 1) (cN aN (aa (c2 pIx (af 0) (c2 bO (c2 cS (af 2) (cK (.int 9))) (cK (.int 12)))) aj)))) bG)
  (aA (aU 4 (c2 aO (cN aN (aa (c2 pIx (af 0) (cK (.int 11))) aj)) (af 1)))
  (aA (aU 5 (c2 pIx (cN cu (aa (cK (.str [119,111,114,100])) (aa (cK (.str [110,117,109,98,101,114])) (aa (cK (.str [113,117,111,116,101,100])) (aa (cK (.str [112,108,97,105,110])) (aa (cK (.str [108,105,110,101])) aj)))))) (c2 bO (c2 cS (af 2) (cK (.int 108))) (cK (.int 5)))))
  (aA (aU 6 (c2 bO (c2 cS (af 2) (cK (.int 540))) (cK (.int 3))))
  (aA (sIf (aW (c2 pEq (af 6) (cK (.int 0)))) (aY (cN aN (aa (cK (.str [112,108,97,99,101])) (aa (af 4) (aa (af 5) aj))))) bG)
  (aA (sIf (aW (c2 pEq (af 6) (cK (.int 1)))) (aA (aU 7 (c2 pIx (af 0) (c2 bO (c2 cS (af 2) (cK (.int 9))) (cK (.int 12)))))
  (aY (cN aN (aa (cK (.str [108,111,111,112])) (aa (af 7) (aa (af 4) (aa (cN aN (aa (cN aN (aa (cK (.str [112,108,97,99,101])) (aa (cN aN (aa (af 7) aj)) (aa (af 5) aj)))) (aa (cN aN (aa (cK (.str [116,101,120,116])) (aa (cK (.str [59])) aj))) aj))) (aa (c2 pIx (cN cu (aa (cK (.str [])) (aa (cK (.str [44,32])) aj))) (c2 bO (af 2) (cK (.int 2)))) aj)))))))) bG)
  (aY (cN aN (aa (cK (.str [99,104,111,105,99,101])) (aa (af 4) (aa (cN aN (aa (cN aN (aa (cK (.str [116,101,120,116])) (aa (cK (.str [121,101,115])) aj))) aj)) (aa (c2 pIx (cN cu (aa (cN aN (aa (cN aN (aa (cK (.str [116,101,120,116])) (aa (cK (.str [110,111])) aj))) aj)) (aa (cN aN aj) aj))) (c2 bO (c2 cS (af 2) (cK (.int 9))) (cK (.int 2)))) aj)))))))))))))
def nM(C:CC):Ex:=(c2 pIx (af 0) (cK (.int 1)))
def gc(C:CC):Sx:=(aA (aU 4 (c2 aO (af 4) (c2 eF (c2 pIx (af 0) (cK (.int 4))) (cN rc (aa (c2 pGt (af 5) (cK (.int 0))) aj)))))
  (aA (sIf (eY (cO (lA (lX C) (af 3) (aa (c2 pIx (af 2) (af 5)) aj)))) (aY (cN aN (aa (cK (.str [118,97,108,117,101])) (aa (af 4) aj)))) bG)
  (aU 4 (c2 aO (c2 aO (af 4) (lA (kH C) (af 3) (aa (c2 pIx (af 2) (af 5)) aj))) (cK (.str [59]))))))
def cy(C:CC):Sx:=
 (aA (sIf (aW (c2 tI (af 1) (cN cu aj))) (aY (cN aN (aa (cK (.str [102,105,101,108,100])) (aa (cK (.str [])) aj)))) bG)
  (aA (aU 2 (c2 pIx (af 1) (cK (.int 0))))
  (aA (sIf (aW (c2 pEq (c2 pIx (af 0) (cK (.int 0))) (cK (.str [99,104,111,105,99,101])))) (aA (sIf (eY (cO (cN aH (aa (af 2) (aa (cK (.ty "bool")) aj))))) (aY (cN aN (aa (cK (.str [116,114,117,116,104])) (aa (cK (.str [])) aj)))) bG)
  (aY (cN aN (aa (cK (.str [])) (aa (cM iI eG (cK (.str [])) (aa (cN okL (gH [] (ng (c2 pIx (af 0) (c2 mG (cK (.int 3)) (cN rc (aa (af 2) aj))))) et (nM C))) aj)) aj))))) bG)
  (aA (sIf (aW (c2 pEq (c2 pIx (af 0) (cK (.int 0))) (cK (.str [112,108,97,99,101])))) (aA (aU 3 (bj (C .way_of) (aa (c2 pIx (af 0) (cK (.int 2))) aj)))
  (aY (vX (cO (lA (lX C) (af 3) (aa (af 2) aj))) (cN aN (aa (cK (.str [])) (aa (lA (kH C) (af 3) (aa (af 2) aj)) aj))) (cN aN (aa (cK (.str [118,97,108,117,101])) (aa (cK (.str [])) aj)))))) bG)
  (aA (sIf (eY (cO (cN aH (aa (af 2) (aa (cK (.ty "list")) aj))))) (aY (cN aN (aa (cK (.str [108,105,115,116])) (aa (cK (.str [])) aj)))) bG)
  (aA (aU 3 (bj (C .way_of) (aa (c2 pIx (c2 pIx (c2 pIx (af 0) (cK (.int 3))) (cK (.int 0))) (cK (.int 2))) aj)))
  (aA (aU 4 (cK (.str [])))
  (aA (gR (eX (aa (cN fy (aa (af 2) aj)) aj)) (gNm 5) (gc C))
  (aY (cN aN (aa (cK (.str [])) (aa (af 4) aj))))))))))))
def iL(C:CC)(Z:DD):Sx:=
 (aA (rC gy (dk (nO (Z .written) (aa (af 0) (aa (af 1) aj)))) 2 (aA (aU 3 (cN cu (aa (cN (ir kd_ sC_ sT_) (aa (af 2) (aa (cK (.cls 12)) aj))) (aa (cN (ir kd_ sC_ sT_) (aa (af 2) (aa (cK (.cls 11)) aj))) (aa (cN (ir kd_ sC_ sT_) (aa (af 2) (aa (cK (.cls 7)) aj))) (aa (cN (ir kd_ sC_ sT_) (aa (af 2) (aa (cK (.cls 6)) aj))) aj))))))
  (aA (aU 3 (c2 aO (af 3) (cN cu (aa (cN (ir kd_ sC_ sT_) (aa (af 2) (aa (cK (.cls 10)) aj))) (aa (cN (ir kd_ sC_ sT_) (aa (af 2) (aa (cK (.cls 14)) aj))) (aa (cN (ir kd_ sC_ sT_) (aa (af 2) (aa (cK (.cls 9)) aj))) (aa (cN (ir kd_ sC_ sT_) (aa (af 2) (aa (cK (.cls 13)) aj))) aj)))))))
  (aY (nP (cN (ir kd_ sC_ sT_) (aa (af 2) (aa (cK (.cls 8)) aj))) (nP (cN (ir kd_ sC_ sT_) (aa (af 2) (aa (cK (.ty "ValueError")) aj))) (c2 cF (cK (.bl true)) (af 3))))))))
  (aY (cK (.bl false))))
def ku(C:CC):Sx:=
 (aA (DI (gTp 3 (dJ (gNm 1) (dJ (gNm 2) (dJ (gNm 3) lf)))) (bj (C .l_long_book) (aa (af 0) aj)))
  (aA (aU 4 (cN aN (aa (cK (.str [119,114,105,116,116,101,110])) (aa (c2 aO (cM iI eG (cK (.str [])) (aa (af 3) aj)) (cK (.str [101,110,100]))) aj))))
  (aA (sIf (aW (c2 pEq (c2 bO (c2 cS (af 0) (cK (.int 22))) (cK (.int 2))) (cK (.int 1)))) (aU 4 (cN aN (aa (cK (.str [114,101,102,117,115,101,100])) (aa (cK (.str [102,105,101,108,100])) (aa (cM iI eG (cK (.str [])) (aa (af 3) aj)) aj))))) bG)
  (aA (sIf (aW (c2 pGt (c2 aO (cN fy (aa (af 3) aj)) (c2 bO (c2 cS (af 0) (cK (.int 22))) (cK (.int 2)))) (cK (.int 2000)))) (aU 4 (cN aN (aa (cK (.str [114,101,102,117,115,101,100])) (aa (cK (.str [108,111,110,103])) (aa (cM iI eG (cK (.str [])) (aa (qL (af 3) jX (jW (cK (.int 2000)))) aj)) aj))))) bG)
  (aY (bj (C .l_is) (aa (bj (C .written) (aa (af 1) (aa (af 2) aj))) (aa (af 4) aj))))))))
def gQ(C:CC):Sx:=(aA (aU 6 qM)
  (aA (sIf (aW (c2 pEq (c2 bO (c2 cS (af 3) (c2 aO (af 5) (cK (.int 5)))) (cK (.int 3))) (cK (.int 1)))) (nV (af 6) (c2 pIx (af 2) (cK (.int 8))) (cK (.int 5))) bG)
  (aA (nV (af 6) (c2 pIx (af 1) (af 5)) (af 4))
  (aA (aU 4 (cFz (af 6)))
  (sIf (pA (aW (c2 pEq (c2 bO (c2 cS (af 3) (cK (.int 100))) (cK (.int 9))) (cK (.int 1)))) (aW (c2 pEq (c2 bO (c2 cS (af 3) (cK (.int 900))) (cN fy (aa (af 1) aj))) (af 5)))) (aU 4 (c2 pIx (cN cu (aa (cN cu (aa (eZ [((c2 pIx (af 1) (af 5)),(cK (.int 5)))]) aj)) (aa (cK (.str [116,101,120,116])) (aa (cK (.int 7)) (aa (cK (.bl true)) aj))))) (c2 bO (c2 cS (af 3) (cK (.int 2700))) (cK (.int 4))))) bG)))))
def jC(C:CC):Sx:=
 (aA (aU 4 (af 0))
  (aA (gR (wf (aa (cN fy (aa (af 1) aj)) aj)) (gNm 5) (gQ C))
  (aY (af 4))))
def cW(C:CC):Sx:=(aA (sIf (wo (eY (cO (cN aH (aa (af 0) (aa (cK (.ty "dict")) aj))))) (aW (c2 cF (af 2) (cN tG (aa (af 0) aj))))) (aY (cN cu aj)) bG)
  (aU 0 (c2 pIx (af 0) (af 2))))
def mY(C:CC):Sx:=
 (aA (gR (ng (af 1)) (gNm 2) (cW C))
  (aY (cN cu (aa (af 0) aj))))
def fG(C:CC):Ex:=(cN aN (aa (af 0) (aa (cK (.int 1)) aj)))
def gz(C:CC):Sx:=
 (aA (aU 3 (cFz (cN lM (aa (cN okL (gH [] (ng (cK (.str [97,98,99,100,101,102,103,104,105]))) et (fG C))) aj))))
  (aA (aU 4 (cN cu (aa (cK (.dct [])) (aa (eZ [((af 0),(cK (.int 1))),((af 1),(cK (.int 2)))]) (aa (eZ [((af 1),(cK (.int 1)))]) (aa (cK .non) (aa (cN cu (aa (af 0) aj)) (aa (eZ [((af 0),(cK .non))]) (aa (eZ [((af 0),(cN aN (aa (cK (.int 1)) aj)))]) (aa (eZ [((af 0),(c2 eF (cK (.str [120])) (cK (.int 401))))]) aj))))))))))
  (aA (aU 4 (c2 aO (af 4) (cN cu (aa (eZ [((af 0),(c2 wR (cK (.int 10)) (cK (.int 30))))]) (aa (eZ [((af 0),(c2 eF (cN cu (aa (cK (.int 1)) aj)) (cK (.int 41))))]) (aa (eZ [((af 0),(eZ [((cK (.str [101,110,100])),(cK (.int 1)))]))]) (aa (eZ [((af 0),(cN cu (aa (cN cu (aa (cN cu (aa (cN cu (aa (cN cu (aa (cN cu (aa (cK (.int 1)) aj)) aj)) aj)) aj)) aj)) aj)))]) (aa (eZ [((af 0),(eZ [((cK (.int 1)),(cK (.int 1)))]))]) aj))))))))
  (aY (c2 pIx (c2 aO (af 4) (cN cu (aa (eZ [((af 0),(af 3))]) (aa (af 0) aj)))) (c2 bO (af 2) (cK (.int 15))))))))
def gG(C:CC):Sx:=
 (aA (sIf (aW (c2 pLt (af 1) (cN fy (aa (af 0) aj)))) (aY (c2 pIx (af 0) (af 1))) bG)
  (aY (cK (.int 0))))
def qG(C:CC):Ex:=(nP (cN aH (aa (af 0) (aa (cK (.ty "str")) aj))) (c2 pEq (af 0) (af 1)))
def nQ(C:CC):Sx:=
 (aA (sIf (wo (eY (cO (cN aH (aa (af 0) (aa (cK (.ty "tuple")) aj))))) (aW (c2 pNe (cN fy (aa (af 0) aj)) (cN fy (aa (af 1) aj))))) (aY (cK (.bl false))) bG)
  (aY (cN BM (aa (cN okL (nS [] (FM (aa (af 0) (aa (af 1) aj))) et (qG C))) aj))))
def ji(C:CC)(Z:DD):Sx:=
 (aA (aU 2 (c2 pIx (af 0) (c1 zY (cK (.int 1)))))
  (aA (dk (bj (C .need_values) (aa (c2 pIx (af 2) (cK (.int 2))) (aa (af 1) aj))))
  (aA (aU 3 (vW 601 (Z .Writer___init__) (aa (af 0) aj)))
  (aA (rC gF (dk (bK 601 (Z .Writer_write_nodes) (af 3) (aa (c2 pIx (af 2) (cK (.int 4))) (aa (cN aN (aa (bj (C .references_to) (aa (af 1) aj)) (aa (cK .non) aj))) aj)))) 4 (aY (bK 600 (Z .Pen_outcome_refused) (c1 (iu 601 0) (af 3)) (aa (c1 (pAt mI) (af 4)) aj))))
  (aY (bK 600 (Z .Pen_outcome_written) (c1 (iu 601 0) (af 3)) aj))))))
def kn(C:CC)(D:DD):Ex:=(eM (D .l_value) (aa (af 1) (aa (af 2) (aa (c2 pIx (af 4) (cK (.int 1))) (aa (af 3) aj)))))
def iJ(C:CC)(D:DD):Ex:=(cN aN (aa (af 0) (aa (eM (D .l_value) (aa (af 2) (aa (af 3) (aa (af 1) (aa (af 4) aj))))) aj)))
def kl(C:CC):Ex:=(c2 pIx (bj (C .l_signs) aj) (c2 bO (c2 aO (c2 cS (af 1) (cK (.int 240))) (c2 eF (af 0) (c2 aO (cK (.int 1)) (c2 bO (c2 cS (af 1) (cK (.int 9))) (cK (.int 94)))))) (cK (.int 95))))
def kj(C:CC):Ex:=(c2 pIx (af 1) (c2 bO (c2 aO (c2 cS (af 2) (cK (.int 240))) (c2 eF (af 0) (c2 aO (cK (.int 1)) (c2 bO (c2 cS (af 2) (cK (.int 9))) (cK (.int 61)))))) (cK (.int 62))))
def bv(C:CC)(D:DD):Sx:=
 (aA (aU 4 (eM (D .l_cell) (aa (af 0) (aa (af 1) aj))))
  (aA (sIf (pA (cO (af 3)) (aW (c2 pEq (c2 bO (c2 cS (af 4) (cK (.int 11))) (cK (.int 23))) (cK (.int 1))))) (aY (c2 pIx (cN cu (aa (cK (.int 5)) (aa (cK (.str [])) (aa (cK (.bl true)) (aa (cN cu aj) (aa (cK (.dct [])) (aa (cK (.str [97,32,98])) (aa (cN cu (aa (cK (.str [120])) aj)) (aa (cK (.int 0)) (aa (cK (.int 1)) (aa (c1 zY (cK (.int 7))) aj))))))))))) (c2 bO (c2 cS (af 4) (cK (.int 253))) (cK (.int 10))))) bG)
  (aA (sIf (aW (c2 pEq (c2 pIx (af 2) (cK (.int 0))) (cK (.str [110])))) (aY (c2 pIx (cN cu (aa (c2 mG (c2 bO (af 4) (cK (.int 21))) (cK (.int 10))) (aa (c2 mG (cK (.int 0)) (c2 bO (af 4) (cK (.int 1000000007)))) (aa (c2 bO (c2 eF (af 4) (c2 wR (cK (.int 48271)) (cK (.int 4)))) (c2 wR (cK (.int 10)) (cK (.int 30)))) (aa (c2 mG (c2 mG (c2 wR (cK (.int 10)) (cK (.int 30))) (cK (.int 1))) (c2 bO (af 4) (cK (.int 3)))) (aa (cK (.int 0)) aj)))))) (c2 bO (c2 cS (af 4) (cK (.int 7))) (cK (.int 5))))) bG)
  (aA (sIf (aW (c2 pEq (c2 pIx (af 2) (cK (.int 0))) (cK (.str [98])))) (aY (c2 pEq (c2 bO (c2 cS (af 4) (cK (.int 5))) (cK (.int 2))) (cK (.int 1)))) bG)
  (aA (sIf (aW (c2 pEq (c2 pIx (af 2) (cK (.int 0))) (cK (.str [108])))) (aY (cN okL (gH [0,1,3,2] (eX (aa (c2 pIx (cN cu (aa (cK (.int 0)) (aa (cK (.int 1)) (aa (cK (.int 2)) (aa (cK (.int 2)) (aa (cK (.int 3)) aj)))))) (c2 bO (c2 cS (af 4) (cK (.int 5))) (cK (.int 5)))) aj)) et (kn C D)))) bG)
  (aA (sIf (aW (c2 pEq (c2 pIx (af 2) (cK (.int 0))) (cK (.str [114])))) (aA (aU 5 (cN lM (aa (cN okL (nS [0,1,3] (ng (c2 pIx (af 2) (cK (.int 1)))) et (iJ C D))) aj)))
  (aA (sIf (pA (cO (af 3)) (aW (c2 pEq (c2 bO (c2 cS (af 4) (cK (.int 3))) (cK (.int 17))) (cK (.int 1))))) (dk (IR (af 5) (c2 pIx (c2 pIx (c2 pIx (af 2) (cK (.int 1))) (cK (.int 0))) (cK (.int 0))))) bG)
  (aY (cFz (af 5))))) bG)
  (aA (aU 6 (c2 pIx (cN cu (aa (cK (.int 40)) (aa (c2 mG (cK (.int 400)) (c2 bO (af 4) (cK (.int 3)))) aj))) (cN rc (aa (c2 pEq (c2 pIx (af 2) (cK (.int 0))) (cK (.str [116]))) aj))))
  (aA (aU 7 (c2 pIx (cN cu (aa (c2 bO (af 4) (cK (.int 7))) (aa (c2 bO (af 4) (cK (.int 40))) (aa (af 6) aj)))) (c2 aO (cN rc (aa (c2 pEq (c2 bO (c2 cS (af 4) (cK (.int 40))) (cK (.int 6))) (cK (.int 1))) aj)) (cN rc (aa (c2 pEq (c2 bO (c2 cS (af 4) (cK (.int 40))) (cK (.int 36))) (cK (.int 1))) aj)))))
  (aA (sIf (aW (c2 pEq (c2 pIx (af 2) (cK (.int 0))) (cK (.str [116])))) (aY (cM iI eG (cK (.str [])) (aa (cN okL (gH [4] (eX (aa (af 7) aj)) et (kl C))) aj))) bG)
  (aA (aU 8 (cK (.str ij)))
  (aY (cM iI eG (cK (.str [])) (aa (cN okL (gH [8,4] (eX (aa (cN Eg (aa (cK (.int 1)) (aa (af 7) aj))) aj)) et (kj C))) aj)))))))))))))
def dA(C:CC):Sx:=
 (aA (sIf (aW (c2 oz (af 0) (cK (.str [119,111,114,100])))) (aY (ks 0)) bG)
  (aA (sIf (aW (c2 oz (af 0) (cK (.str [110,117,109,98,101,114])))) (aY (ks 1)) bG)
  (aA (sIf (aW (c2 oz (af 0) (cK (.str [113,117,111,116,101,100])))) (aY (ks 2)) bG)
  (aA (sIf (aW (c2 oz (af 0) (cK (.str [112,108,97,105,110])))) (aY (ks 3)) bG)
  (aA (sIf (aW (c2 oz (af 0) (cK (.str [108,105,110,101])))) (aY (ks 4)) bG)
  jN)))))
def eO(C:CC):Sx:=
 (aY (nP (bj (C .is_text) (aa (af 1) (aa (cK (.int 40)) aj))) (nP (c2 pNe (af 1) (cK (.str []))) (bj (C .is_made_of) (aa (af 1) (aa (cK (.str fX)) aj))))))
def bA(C:CC):Sx:=
 (aY (nP (cN aH (aa (af 1) (aa (cK (.ty "int")) aj))) (nP (IS (cN aH (aa (af 1) (aa (cK (.ty "bool")) aj)))) (bj (C .is_short_number) (aa (af 1) aj)))))
def gA(C:CC):Sx:=
 (aY (bj (C .is_text) (aa (af 1) (aa (cK (.int 400)) aj))))
def gY(C:CC):Sx:=
 (aY (bj (C .is_text) (aa (af 1) (aa (cK (.int 400)) aj))))
def iN(C:CC):Sx:=
 (aY (bj (C .is_text) (aa (af 1) (aa (cK (.int 400)) aj))))
def iM(C:CC):Sx:=
 (aA (sIf (eY (cO (lA (lX C) (af 0) (aa (af 1) aj)))) jN bG)
  (aY (lA (jA C) (af 0) (aa (af 1) aj))))
def fE(C:CC):Sx:=(aU 8 (c2 aO (c2 aO (c2 aO (af 8) (cN cu (aa (c2 eF (cK (.str [44])) (cN rc (aa (c2 pGt (af 10) (cK (.int 0))) aj))) aj))) (c2 eF (cN cu (aa (cK (.str [])) aj)) (c2 bO (af 0) (cK (.int 2))))) (cN cu (aa (cK (.str [121])) aj))))
def fD(C:CC):Sx:=(aA (aU 8 (c2 aO (af 8) (cN cu (aa (c2 eF (cK (.str [59])) (cN rc (aa (c2 pGt (af 9) (cK (.int 0))) aj))) (aa (cK (.str [])) aj)))))
  (gR (eX (aa (af 1) aj)) (gNm 10) (fE C)))
def fC(C:CC):Sx:=
 (aA (aU 1 (c2 pIx (cN cu (aa (cK (.int 31)) (aa (cK (.int 25)) aj))) (c2 bO (af 0) (cK (.int 2)))))
  (aA (aU 2 (c2 aO (c2 mG (cK (.int 1994)) (c2 eF (af 1) (c2 aO (cK (.int 2)) (c2 eF (c2 aO (cK (.int 2)) (c2 bO (af 0) (cK (.int 2)))) (af 1))))) (c2 bO (c2 cS (af 0) (cK (.int 2))) (cK (.int 11)))))
  (aA (aU 3 (cN aN (aa (cN aN (aa (cK (.str [112,108,97,99,101])) (aa (cN aN (aa (cK (.str [98])) aj)) (aa (cK (.str [119,111,114,100])) aj)))) aj)))
  (aA (sIf (aW (c2 pEq (c2 bO (af 0) (cK (.int 2))) (cK (.int 1)))) (aU 3 (cN aN (aa (cN aN (aa (cK (.str [99,104,111,105,99,101])) (aa (cN aN (aa (cK (.str [99])) aj)) (aa (af 3) (aa (cN aN aj) aj))))) aj))) bG)
  (aA (aU 4 (cN aN (aa (cK (.str [108,111,111,112])) (aa (cK (.str [98])) (aa (cN aN (aa (cK (.str [109])) aj)) (aa (af 3) (aa (cK (.str [44])) aj)))))))
  (aA (aU 5 (cN cu aj))
  (aA (sIf (aW (c2 pEq (c2 bO (c2 cS (af 0) (cK (.int 44))) (cK (.int 3))) (cK (.int 1)))) (aA (aU 5 (cN cu (aa (cN aN (aa (cK (.str [112,105,101,99,101])) (aa (cK (.str [113])) (aa (cN aN (aa (cK (.str [109])) (aa (cK (.str [99])) aj))) (aa (cK .non) (aa (cN aN (aa (af 4) aj)) aj)))))) aj)))
  (aU 4 (cN aN (aa (cK (.str [117,115,101])) (aa (cK (.str [113])) (aa (cN aN (aa (cN aN (aa (cK (.str [109])) aj)) (aa (cN aN (aa (cK (.str [99])) aj)) aj))) (aa (cK .non) (aa (cK .non) aj)))))))) bG)
  (aA (sIf (aW (c2 pEq (c2 bO (c2 cS (af 0) (cK (.int 44))) (cK (.int 3))) (cK (.int 2)))) (aA (aU 5 (cN cu (aa (cN aN (aa (cK (.str [112,105,101,99,101])) (aa (cK (.str [113])) (aa (cN aN (aa (cK (.str [109])) aj)) (aa (cK (.int 1)) (aa (cN aN (aa (cN aN (aa (cK (.str [108,111,111,112])) (aa (cK (.str [120])) (aa (cN aN (aa (cK (.str [109])) aj)) (aa (cN aN (aa (cN aN (aa (cK (.str [98,111,100,121])) (aa (cN aN (aa (cN aN (aa (cK (.str [120])) aj)) aj)) aj))) aj)) (aa (cK (.str [44])) aj)))))) aj)) aj)))))) aj)))
  (aU 4 (cN aN (aa (cK (.str [117,115,101])) (aa (cK (.str [113])) (aa (cN aN (aa (cN aN (aa (cK (.str [109])) aj)) aj)) (aa (cN aN (aa (cK (.str [98])) aj)) (aa (af 3) aj)))))))) bG)
  (aA (aU 6 (cN aN (aa (cK (.str [108,111,111,112])) (aa (cK (.str [97])) (aa (cN aN (aa (cK (.str [109])) aj)) (aa (cN aN (aa (af 4) aj)) (aa (cK (.str [59])) aj)))))))
  (aA (aU 7 (c2 pIx (cN cu (aa (cN aN (aa (cK (.str [116,101,120,116])) (aa (cK (.str [101,110,100])) aj))) (aa (cN aN (aa (cK (.str [112,108,97,99,101])) (aa (cN aN (aa (cK (.str [116])) (aa (cK (.str [108,111,115,116])) aj))) (aa (cK (.str [119,111,114,100])) aj)))) aj))) (c2 bO (c2 cS (af 0) (cK (.int 22))) (cK (.int 2)))))
  (aA (aU 8 (c2 aO (c2 eF (cN cu (aa (cK (.str [120])) aj)) (af 2)) (cN cu (aa (cK (.str [])) aj))))
  (aA (gR (eX (aa (af 1) aj)) (gNm 9) (fD C))
  (aA (aU 11 (c2 aO (c2 rJ (cN aN (aa (cN aN (aa (cK (.str [112,108,97,99,101])) (aa (cN aN (aa (cK (.str [116])) aj)) (aa (cK (.str [119,111,114,100])) aj)))) aj)) (af 2)) (cN aN (aa (af 6) (aa (af 7) aj)))))
  (aA (aU 12 (eZ [((cK (.str [109])),(c2 eF (cN cu (aa (cK (.str [121])) aj)) (af 1))),((cK (.str [116])),(cK (.str [120]))),((cK (.str [99])),(cK (.bl true)))]))
  (aY (cN aN (aa (cN lL (aa (c2 aO (af 5) (cN cu (aa (cN aN (aa (cK (.str [112,105,101,99,101])) (aa (cK (.str [112])) (aa (cN aN (aa (cK (.str [109])) (aa (cK (.str [116])) (aa (cK (.str [99])) aj)))) (aa (cK .non) (aa (af 11) aj)))))) aj))) aj)) (aa (af 12) (aa (af 8) aj)))))))))))))))))))
def gK(C:CC):Sx:=(sIf (aW (c2 cF (af 2) (af 1))) jN bG)
def gJ(C:CC):Sx:=(aA (sIf (aW (c2 cF (af 2) (af 0))) jN bG)
  (sIf (eY (cO (bj (C .is_value) (aa (c2 pIx (af 1) (af 2)) aj)))) jN bG))
def dH(C:CC):Sx:=
 (aA (sIf (eY (cO (cN aH (aa (af 1) (aa (cK (.ty "dict")) aj))))) jN bG)
  (aA (gR (og (af 0)) (gNm 2) (gK C))
  (gR (og (af 1)) (gNm 2) (gJ C))))
def fS(C:CC):Sx:=(nV (af 1) (af 2) (cN aN (aa (c2 pIx (af 0) (af 2)) aj)))
def cI(C:CC):Sx:=
 (aA (aU 1 qM)
  (aA (gR (og (af 0)) (gNm 2) (fS C))
  (aY (cFz (af 1)))))
def kK(C:CC):Sx:=
 (aA (aU 0 (cK (.str qf)))
  (aY (c2 aO (af 0) (cK (.str qe)))))
def bU(C:CC):Sx:=
 (aY (nP (cN aH (aa (af 0) (aa (cK (.ty "str")) aj))) (nP (c2 pLe (cN fy (aa (af 0) aj)) (af 1)) (bj (C .is_made_of) (aa (af 0) (aa (cK (.str bz)) aj))))))
def ei(C:CC):Sx:=(sIf (aW (c2 cF (af 2) (af 1))) (aY (cK (.bl false))) bG)
def fZ(C:CC):Sx:=
 (aA (gR (ng (af 0)) (gNm 2) (ei C))
  (aY (cK (.bl true))))
def cj(C:CC):Sx:=
 (aY (c2 pLt (cN Ei (aa (af 0) aj)) (c2 wR (cK (.int 10)) (cK (.int 30)))))
def fK(C:CC):Sx:=
 (aY (af 1))
def dX(C:CC):Sx:=
 (aY (cN Ef (aa (af 1) aj)))
def dU(C:CC):Sx:=
 (aY (c2 aO (c2 aO (cK (.str [34])) (bj (C .escaped) (aa (af 1) (aa (cK (.str [94])) (aa (cK (.str [94,34,10])) (aa (cK (.str [94,113,110])) aj)))))) (cK (.str [34]))))
def eV(C:CC):Sx:=
 (aY (bj (C .escaped) (aa (af 1) (aa (cK (.str [126])) (aa (cK (.str [126,60,62,38,124,10])) (aa (cK (.str [126,108,103,97,98,110])) aj))))))
def fL(C:CC):Sx:=
 (aY (bj (C .escaped) (aa (af 1) (aa (cK (.str [126])) (aa (cK (.str [126,10])) (aa (cK (.str [126,110])) aj))))))
def jD(C:CC):Sx:=
 (aY (bj (C .is_value_within) (aa (af 0) (aa (cK (.int 6)) aj))))
def gB(C:CC):Sx:=(aA (aU 6 (cM iI yq (af 2) (aa (af 5) aj)))
  (dk (cM sd iH (af 4) (aa (vX (aW (c2 pLt (af 6) (cK (.int 0)))) (af 5) (c2 aO (af 1) (c2 pIx (af 3) (af 6)))) aj))))
def kL(C:CC):Sx:=
 (aA (aU 4 (cN qn aj))
  (aA (gR (ng (af 0)) (gNm 5) (gB C))
  (aY (cM iI eG (cK (.str [])) (aa (af 4) aj)))))
def aR(C:CC):Sx:=
 (aA (sIf (aW (c2 pLt (af 1) (cK (.int 1)))) (aY (cK (.bl false))) bG)
  (aA (sIf (cO (cN aH (aa (af 0) (aa (cK (.ty "bool")) aj)))) (aY (cK (.bl true))) bG)
  (aA (sIf (cO (cN aH (aa (af 0) (aa (cK (.ty "int")) aj)))) (aY (bj (C .is_short_number) (aa (af 0) aj))) bG)
  (aA (sIf (cO (cN aH (aa (af 0) (aa (cK (.ty "list")) aj)))) (aY (nP (c2 pLe (cN fy (aa (af 0) aj)) (cK (.int 40))) (bj (C .are_values_within) (aa (af 0) (aa (c2 mG (af 1) (cK (.int 1))) aj))))) bG)
  (aA (sIf (cO (cN aH (aa (af 0) (aa (cK (.ty "dict")) aj)))) (aY (bj (C .is_record_within) (aa (af 0) (aa (af 1) aj)))) bG)
  (aY (bj (C .is_text) (aa (af 0) (aa (cK (.int 400)) aj)))))))))
def iK(C:CC):Sx:=
 (aY (c2 aO (c2 pIx (c2 pIx (af 1) (cK (.int 0))) (c2 pIx (af 0) (cK (.int 0)))) (qL (af 0) (jW (cK (.int 1))) jX)))
def dg(C:CC)(Z:DD):Sx:=
 (aA (aU 3 (vX (aW (c2 pIs (c2 pIx (af 0) (cK (.int 4))) (cK .non))) (cK .non) (cN aN (aa (c2 pIx (af 0) (cK (.int 3))) (aa (c2 pIx (af 0) (cK (.int 4))) (aa (af 2) aj))))))
  (aY (cN aN (aa (cFz (nO (Z .with_handed_in) (aa qM (aa (c2 pIx (af 1) (cK (.int 2))) (aa (c2 pIx (af 0) (cK (.int 2))) (aa (af 2) aj)))))) (aa (af 3) aj)))))
def fJ(C:CC)(Z:DD):Sx:=
 (aA (aU 2 (c2 pIx (af 1) (cK (.int 1))))
  (aA (aU 3 (c2 pIx (af 2) (cK (.int 2))))
  (aY (cN aN (aa (cFz (nO (Z .with_handed_in) (aa (cN qo (aa (c2 pIx (af 3) (cK (.int 0))) aj)) (aa (c2 pIx (af 2) (cK (.int 0))) (aa (af 0) (aa (af 1) aj)))))) (aa (c2 pIx (af 3) (cK (.int 1))) aj))))))
def bL(C:CC):Sx:=(sIf (eY (cO (bj (C .is_name) (aa (af 2) aj)))) (aY (cK (.bl false))) bG)
def ce(C:CC):Sx:=
 (aA (sIf (aW (c2 pGt (cN fy (aa (af 0) aj)) (cK (.int 8)))) (aY (cK (.bl false))) bG)
  (aA (gR (og (af 0)) (gNm 2) (bL C))
  (aY (bj (C .are_values_within) (aa (Da (af 0)) (aa (c2 mG (af 1) (cK (.int 1))) aj))))))
def bW(C:CC):Sx:=(sIf (eY (cO (bj (C .is_value_within) (aa (af 2) (aa (af 1) aj))))) (aY (cK (.bl false))) bG)
def cq(C:CC):Sx:=
 (aA (gR (ng (af 0)) (gNm 2) (bW C))
  (aY (cK (.bl true))))
def fH(C:CC):Sx:=
 (aA (aU 3 (cN qo (aa (c2 pIx (af 2) (cK (.int 0))) aj)))
  (aA (nV (af 3) (af 0) (af 1))
  (aY (cN aN (aa (cFz (af 3)) (aa (c2 pIx (af 2) (cK (.int 1))) aj))))))
def eU(C:CC):Sx:=
 (aA (sIf (wo (eY (cO (cN aH (aa (af 0) (aa (cK (.ty "str")) aj))))) (eY (aW (ud pLe pLe (cK (.int 1)) (cN fy (aa (af 0) aj)) (cK (.int 8)))))) (aY (cK (.bl false))) bG)
  (aY (nP (bj (C .is_made_of) (aa (af 0) (aa (cK (.str bg)) aj))) (c2 cF (af 0) (cK (.tup (eQ.map PV.str)))))))
def cX(C:CC):Sx:=(aA (sIf (wo (eY (cO (cN aH (aa (af 2) (aa (cK (.ty "dict")) aj))))) (aW (c2 cF (af 3) (af 2)))) (aY (cN aN aj)) bG)
  (aU 2 (c2 pIx (af 2) (af 3))))
def jE(C:CC):Sx:=
 (aA (aU 2 (af 0))
  (aA (gR (ng (af 1)) (gNm 3) (cX C))
  (aY (cN aN (aa (af 2) aj)))))
def FL:Nat→CC×DD×DD
 | 0=>(fun _ _=>.bad,fun _ _ _=>.bad,fun _ _ _=>.bad)
 | k+1=>(fun f ps=>match f with
  | .law=>ar (sL (FL k).1 (FL k).2.1) 1 15 ps
  | .l_names=>ar (jj (FL k).1) 1 7 ps
  | .l_node=>ar (kt (FL k).1) 3 8 ps
  | .l_due=>ar (cy (FL k).1) 2 6 ps
  | .l_refused=>ar (iL (FL k).1 (FL k).2.2) 2 4 ps
  | .l_long=>ar (ku (FL k).1) 1 5 ps
  | .l_within=>ar (jC (FL k).1) 4 7 ps
  | .l_led=>ar (mY (FL k).1) 2 3 ps
  | .l_no_values=>ar (gz (FL k).1) 3 5 ps
  | .l_cell_at=>ar (gG (FL k).1) 2 2 ps
  | .l_is=>ar (nQ (FL k).1) 2 2 ps
  | .written=>ar (ji (FL k).1 (FL k).2.2) 2 5 ps
  | .way_of=>ar (dA (FL k).1) 1 1 ps
  | .Word_fits=>ar (eO (FL k).1) 2 2 ps
  | .Number_fits=>ar (bA (FL k).1) 2 2 ps
  | .Quoted_fits=>ar (gA (FL k).1) 2 2 ps
  | .Plain_fits=>ar (gY (FL k).1) 2 2 ps
  | .Line_fits=>ar (iN (FL k).1) 2 2 ps
  | .Way_coded=>ar (iM (FL k).1) 2 2 ps
  | .l_long_book=>ar (fC (FL k).1) 1 13 ps
  | .need_values=>ar (dH (FL k).1) 2 3 ps
  | .references_to=>ar (cI (FL k).1) 1 3 ps
  | .l_signs=>ar (kK (FL k).1) 0 1 ps
  | .is_text=>ar (bU (FL k).1) 2 2 ps
  | .is_made_of=>ar (fZ (FL k).1) 2 3 ps
  | .is_short_number=>ar (cj (FL k).1) 1 1 ps
  | .Word_spelling=>ar (fK (FL k).1) 2 2 ps
  | .Number_spelling=>ar (dX (FL k).1) 2 2 ps
  | .Quoted_spelling=>ar (dU (FL k).1) 2 2 ps
  | .Plain_spelling=>ar (eV (FL k).1) 2 2 ps
  | .Line_spelling=>ar (fL (FL k).1) 2 2 ps
  | .is_value=>ar (jD (FL k).1) 1 1 ps
  | .escaped=>ar (kL (FL k).1) 4 7 ps
  | .is_value_within=>ar (aR (FL k).1) 2 2 ps
  | .stood_for=>ar (iK (FL k).1) 2 2 ps
  | .scope_in_use=>ar (dg (FL k).1 (FL k).2.2) 3 4 ps
  | .scope_in_body=>ar (fJ (FL k).1 (FL k).2.2) 2 4 ps
  | .is_record_within=>ar (ce (FL k).1) 2 3 ps
  | .are_values_within=>ar (cq (FL k).1) 2 3 ps
  | .scope_in_loop=>ar (fH (FL k).1) 3 4 ps
  | .is_name=>ar (eU (FL k).1) 1 1 ps
  | .found=>ar (jE (FL k).1) 2 4 ps
  | _=>.bad,fun f ps h=>match f with
  | .l_cell=>fx (jk (FL k).1) 2 4 ps h
  | .l_thing=>fx (kJ (FL k).1 (FL k).2.1) 2 3 ps h
  | .l_value=>fx (bv (FL k).1 (FL k).2.1) 4 9 ps h
  | _=>.bad,fun f ps h=>match f with
  | .written=>uA (kA (FL k).1 (FL k).2.2) 2 5 ps h
  | .need_values=>uA (cz (FL k).1) 2 3 ps h
  | .Writer___init__=>uz (dQ (FL k).1 (FL k).2.2) 2 3 ps h
  | .Pen_outcome_written=>bq (cC (FL k).1) 1 1 ps h
  | .Writer_write_nodes=>bq (cJ (FL k).1 (FL k).2.2) 3 4 ps h
  | .Pen_outcome_refused=>bq (cD (FL k).1) 2 2 ps h
  | .Pen___init__=>uz (jM (FL k).1) 1 1 ps h
  | .Writer_write_node=>bq (au (FL k).1 (FL k).2.2) 3 7 ps h
  | .Pen_write=>bq (iz (FL k).1) 2 2 ps h
  | .Pen_put=>bq (fN (FL k).1 (FL k).2.2 (Nat.ble 2 (dl k))) 3 5 ps h
  | .Writer_write_rounds=>bq (bI (FL k).1 (FL k).2.2) 3 6 ps h
  | .Pen_truth_wanted=>bq (bw (FL k).1 (FL k).2.2 (Nat.ble 2 (dl k))) 2 3 ps h
  | .Pen_thing_wanted=>bq (bx (FL k).1 (FL k).2.2 (Nat.ble 2 (dl k))) 2 3 ps h
  | .Pen_list_wanted=>bq (bD (FL k).1 (FL k).2.2 (Nat.ble 2 (dl k))) 2 3 ps h
  | .Pen_begin_round=>bq (bR (FL k).1 (FL k).2.2) 3 3 ps h
  | .with_handed_in=>bq (eP (FL k).1) 4 6 ps h
  | .Pen_count_one=>bq (cG (FL k).1 (Nat.ble 2 (dl k))) 1 1 ps h
  | _=>.bad)
abbrev X_(k:Nat):DD:=(FL k).2.2
abbrev F(k:Nat):CC:=(FL k).1
abbrev L(k:Nat):DD:=(FL k).2.1
set_option genInjectivity false in
set_option genSizeOf false in
structure Sys(G:SC) where
 adr:Fn→Addr
 fd:Fn→FuncData
 kls:Nat→Addr
 ok:∀ f,Fun G.K (lP f) (wI f) (qR f) (adr f) (fd f)
 bi:∀ f,iO G.K (fd f) (jR f) []
 m:∀ f,Aw f=true→G.mg (lP f)=some (.ref (adr f))
 n:∀ i,G.mg (Hn i)=none
 g_LINE_LETTERS:∃ t,G.mg "LINE_LETTERS"=some (.str (S [126,110]) t)
 g_LINE_SIGNS:∃ t,G.mg "LINE_SIGNS"=some (.str (S [126,10]) t)
 g_MOST_COUNTED:∃ t,G.mg "MOST_COUNTED"=some (.int 2000 t)
 g_MOST_DEPTH:∃ t,G.mg "MOST_DEPTH"=some (.int 6 t)
 g_MOST_FIELDS:∃ t,G.mg "MOST_FIELDS"=some (.int 8 t)
 g_MOST_LETTERS:∃ t,G.mg "MOST_LETTERS"=some (.int 8 t)
 g_MOST_SIGNS:∃ t,G.mg "MOST_SIGNS"=some (.int 400 t)
 g_MOST_THINGS:∃ t,G.mg "MOST_THINGS"=some (.int 40 t)
 g_MOST_WORD_SIGNS:∃ t,G.mg "MOST_WORD_SIGNS"=some (.int 40 t)
 g_PLAIN_LETTERS:∃ t,G.mg "PLAIN_LETTERS"=some (.str (S [126,108,103,97,98,110]) t)
 g_PLAIN_SIGNS:∃ t,G.mg "PLAIN_SIGNS"=some (.str (S [126,60,62,38,124,10]) t)
 g_QUOTED_LETTERS:∃ t,G.mg "QUOTED_LETTERS"=some (.str (S [94,113,110]) t)
 g_QUOTED_SIGNS:∃ t,G.mg "QUOTED_SIGNS"=some (.str (S [94,34,10]) t)
 g_SIGNS:∃ t,G.mg "SIGNS"=some (.str (S bz) t)
 g_SMALL_LETTERS:∃ t,G.mg "SMALL_LETTERS"=some (.str (S bg) t)
 g_WORD_SIGNS:∃ t,G.mg "WORD_SIGNS"=some (.str (S fX) t)
 g_COMMAND_WORDS:GT G "COMMAND_WORDS" eQ
 tb_Word:G.T 0=some (kls 0)
 mc_Word:G.mg "Word"=some (.ref (kls 0))
 tb_Number:G.T 1=some (kls 1)
 mc_Number:G.mg "Number"=some (.ref (kls 1))
 tb_Quoted:G.T 2=some (kls 2)
 mc_Quoted:G.mg "Quoted"=some (.ref (kls 2))
 tb_Plain:G.T 3=some (kls 3)
 mc_Plain:G.mg "Plain"=some (.ref (kls 3))
 tb_Line:G.T 4=some (kls 4)
 mc_Line:G.mg "Line"=some (.ref (kls 4))
 tb_FormError:G.T 5=some (kls 5)
 mc_FormError:G.mg "FormError"=some (.ref (kls 5))
 tb_BadWay:G.T 6=some (kls 6)
 mc_BadWay:G.mg "BadWay"=some (.ref (kls 6))
 tb_BadValue:G.T 7=some (kls 7)
 mc_BadValue:G.mg "BadValue"=some (.ref (kls 7))
 tb_BadValues:G.T 8=some (kls 8)
 mc_BadValues:G.mg "BadValues"=some (.ref (kls 8))
 tb_TooMany:G.T 9=some (kls 9)
 mc_TooMany:G.mg "TooMany"=some (.ref (kls 9))
 tb_Clash:G.T 10=some (kls 10)
 mc_Clash:G.mg "Clash"=some (.ref (kls 10))
 tb_BadText:G.T 11=some (kls 11)
 mc_BadText:G.mg "BadText"=some (.ref (kls 11))
 tb_BadName:G.T 12=some (kls 12)
 mc_BadName:G.mg "BadName"=some (.ref (kls 12))
 tb_Unclear:G.T 13=some (kls 13)
 mc_Unclear:G.mg "Unclear"=some (.ref (kls 13))
 tb_NoFill:G.T 14=some (kls 14)
 mc_NoFill:G.mg "NoFill"=some (.ref (kls 14))
 tb_Refused:G.T 500=some (kls 500)
 mc_Refused:G.mg "Refused"=some (.ref (kls 500))
 tb_Pen:G.T 600=some (kls 600)
 mc_Pen:G.mg "Pen"=some (.ref (kls 600))
 tb_Writer:G.T 601=some (kls 601)
 mc_Writer:G.mg "Writer"=some (.ref (kls 601))
 cl_Word:Cls G.K (kls 0)
 nw_Word:W.makesIn G.K (kls 0)=true∧W.findIn G.K (.ref (kls 0)) "__init__"=some (some (.builtin "object.__init__"))∧W.keepIn G.K (.ref (kls 0))=true
 me_Word_coded:bY G.K (kls 0) "coded" (adr .Way_coded)
 me_Word_fits:bY G.K (kls 0) "fits" (adr .Word_fits)
 me_Word_spelling:bY G.K (kls 0) "spelling" (adr .Word_spelling)
 cl_Number:Cls G.K (kls 1)
 nw_Number:W.makesIn G.K (kls 1)=true∧W.findIn G.K (.ref (kls 1)) "__init__"=some (some (.builtin "object.__init__"))∧W.keepIn G.K (.ref (kls 1))=true
 me_Number_coded:bY G.K (kls 1) "coded" (adr .Way_coded)
 me_Number_fits:bY G.K (kls 1) "fits" (adr .Number_fits)
 me_Number_spelling:bY G.K (kls 1) "spelling" (adr .Number_spelling)
 cl_Quoted:Cls G.K (kls 2)
 nw_Quoted:W.makesIn G.K (kls 2)=true∧W.findIn G.K (.ref (kls 2)) "__init__"=some (some (.builtin "object.__init__"))∧W.keepIn G.K (.ref (kls 2))=true
 me_Quoted_coded:bY G.K (kls 2) "coded" (adr .Way_coded)
 me_Quoted_fits:bY G.K (kls 2) "fits" (adr .Quoted_fits)
 me_Quoted_spelling:bY G.K (kls 2) "spelling" (adr .Quoted_spelling)
 cl_Plain:Cls G.K (kls 3)
 nw_Plain:W.makesIn G.K (kls 3)=true∧W.findIn G.K (.ref (kls 3)) "__init__"=some (some (.builtin "object.__init__"))∧W.keepIn G.K (.ref (kls 3))=true
 me_Plain_coded:bY G.K (kls 3) "coded" (adr .Way_coded)
 me_Plain_fits:bY G.K (kls 3) "fits" (adr .Plain_fits)
 me_Plain_spelling:bY G.K (kls 3) "spelling" (adr .Plain_spelling)
 cl_Line:Cls G.K (kls 4)
 nw_Line:W.makesIn G.K (kls 4)=true∧W.findIn G.K (.ref (kls 4)) "__init__"=some (some (.builtin "object.__init__"))∧W.keepIn G.K (.ref (kls 4))=true
 me_Line_coded:bY G.K (kls 4) "coded" (adr .Way_coded)
 me_Line_fits:bY G.K (kls 4) "fits" (adr .Line_fits)
 me_Line_spelling:bY G.K (kls 4) "spelling" (adr .Line_spelling)
 cl_Pen:Cls G.K (kls 600)
 na_Pen:∀ f∈fnm 600,qP G.K (kls 600) f
 mo_Pen:Mk G.K (kls 600) (adr .Pen___init__)
 me_Pen_outcome_written:bY G.K (kls 600) "outcome_written" (adr .Pen_outcome_written)
 me_Pen_outcome_refused:bY G.K (kls 600) "outcome_refused" (adr .Pen_outcome_refused)
 me_Pen_write:bY G.K (kls 600) "write" (adr .Pen_write)
 me_Pen_put:bY G.K (kls 600) "put" (adr .Pen_put)
 me_Pen_truth_wanted:bY G.K (kls 600) "truth_wanted" (adr .Pen_truth_wanted)
 me_Pen_thing_wanted:bY G.K (kls 600) "thing_wanted" (adr .Pen_thing_wanted)
 me_Pen_list_wanted:bY G.K (kls 600) "list_wanted" (adr .Pen_list_wanted)
 me_Pen_begin_round:bY G.K (kls 600) "begin_round" (adr .Pen_begin_round)
 me_Pen_count_one:bY G.K (kls 600) "count_one" (adr .Pen_count_one)
 cl_Writer:Cls G.K (kls 601)
 na_Writer:∀ f∈fnm 601,qP G.K (kls 601) f
 mo_Writer:Mk G.K (kls 601) (adr .Writer___init__)
 me_Writer_write_nodes:bY G.K (kls 601) "write_nodes" (adr .Writer_write_nodes)
 me_Writer_write_node:bY G.K (kls 601) "write_node" (adr .Writer_write_node)
 me_Writer_write_rounds:bY G.K (kls 601) "write_rounds" (adr .Writer_write_rounds)
 xr_BadValues:W.excIn G.K (kls 8) [.type "ValueError",.type "Exception",.type "BaseException",.type "object"] "ValueError.__new__"=true
 ex_BadValues_FormError:W.exmOne G.K (.ref (kls 8)) (.ref (kls 5))=some true
 ex_Refused_Refused:W.exmOne G.K (.ref (kls 500)) (.ref (kls 500))=some true
 cg_:uj G.K
 kc_Word:kx G.K (kls 0)
 kc_Number:kx G.K (kls 1)
 kc_Quoted:kx G.K (kls 2)
 kc_Plain:kx G.K (kls 3)
 kc_Line:kx G.K (kls 4)
 kc_BadValues:kx G.K (kls 8)
 xc_BadValues:qN G.K (kls 8)
 kc_Refused:kx G.K (kls 500)
 xc_Refused:qN G.K (kls 500)
 ki_BadValues_BadName:W.kitOne G.K (.ref (kls 8)) (.ref (kls 12))=some false
 ki_BadValues_BadText:W.kitOne G.K (.ref (kls 8)) (.ref (kls 11))=some false
 ki_BadValues_BadValue:W.kitOne G.K (.ref (kls 8)) (.ref (kls 7))=some false
 ki_BadValues_BadValues:W.kitOne G.K (.ref (kls 8)) (.ref (kls 8))=some true
 ki_BadValues_BadWay:W.kitOne G.K (.ref (kls 8)) (.ref (kls 6))=some false
 ki_BadValues_Clash:W.kitOne G.K (.ref (kls 8)) (.ref (kls 10))=some false
 ki_BadValues_NoFill:W.kitOne G.K (.ref (kls 8)) (.ref (kls 14))=some false
 ki_BadValues_TooMany:W.kitOne G.K (.ref (kls 8)) (.ref (kls 9))=some false
 ki_BadValues_Unclear:W.kitOne G.K (.ref (kls 8)) (.ref (kls 13))=some false
 ki_BadValues_ValueError:W.kitOne G.K (.ref (kls 8)) (.type "ValueError")=some true
 ki_Refused_BadName:W.kitOne G.K (.ref (kls 500)) (.ref (kls 12))=some false
 ki_Refused_BadText:W.kitOne G.K (.ref (kls 500)) (.ref (kls 11))=some false
 ki_Refused_BadValue:W.kitOne G.K (.ref (kls 500)) (.ref (kls 7))=some false
 ki_Refused_BadValues:W.kitOne G.K (.ref (kls 500)) (.ref (kls 8))=some false
 ki_Refused_BadWay:W.kitOne G.K (.ref (kls 500)) (.ref (kls 6))=some false
 ki_Refused_Clash:W.kitOne G.K (.ref (kls 500)) (.ref (kls 10))=some false
 ki_Refused_NoFill:W.kitOne G.K (.ref (kls 500)) (.ref (kls 14))=some false
 ki_Refused_TooMany:W.kitOne G.K (.ref (kls 500)) (.ref (kls 9))=some false
 ki_Refused_Unclear:W.kitOne G.K (.ref (kls 500)) (.ref (kls 13))=some false
 ki_Refused_ValueError:W.kitOne G.K (.ref (kls 500)) (.type "ValueError")=some false
 xi_Refused:XIn G.K (kls 500) (adr .Refused___init__) "word"
section
variable {S:SC} {k:Nat} {X:Cx}
theorem kZ(Y:Sys S):Gw S.K S.T kd_ sC_ sT_:=by
 refine ⟨Y.cg_,fun C a h ha=>?_,fun C a h ha=>?_,fun C D a b r h ha hb=>?_,fun C t a r h ha=>?_⟩
 ·unfold kd_ at h;split at h
  ·cases Y.tb_Word.symm.trans ha;exact ⟨Y.cl_Word,Y.kc_Word⟩
  ·cases Y.tb_Number.symm.trans ha;exact ⟨Y.cl_Number,Y.kc_Number⟩
  ·cases Y.tb_Quoted.symm.trans ha;exact ⟨Y.cl_Quoted,Y.kc_Quoted⟩
  ·cases Y.tb_Plain.symm.trans ha;exact ⟨Y.cl_Plain,Y.kc_Plain⟩
  ·cases Y.tb_Line.symm.trans ha;exact ⟨Y.cl_Line,Y.kc_Line⟩
  ·cases h
  ·cases h
  ·cases h
 ·unfold kd_ at h;split at h
  ·cases h
  ·cases h
  ·cases h
  ·cases h
  ·cases h
  ·cases Y.tb_BadValues.symm.trans ha;exact ⟨Y.xc_BadValues,Y.kc_BadValues⟩
  ·cases Y.tb_Refused.symm.trans ha;exact ⟨Y.xc_Refused,Y.kc_Refused⟩
  ·cases h
 ·refine rR (P:=fun C D r=>∀ a b,S.T C=some a→S.T D=some b→W.kitOne S.K (.ref a) (.ref b)=some r) ?_ h a b ha hb
  exact ⟨fun _ _ ha hb=>(by cases Y.tb_BadValues.symm.trans ha;cases Y.tb_BadName.symm.trans hb;exact Y.ki_BadValues_BadName),⟨fun _ _ ha hb=>(by cases Y.tb_BadValues.symm.trans ha;cases Y.tb_BadText.symm.trans hb;exact Y.ki_BadValues_BadText),⟨fun _ _ ha hb=>(by cases Y.tb_BadValues.symm.trans ha;cases Y.tb_BadValue.symm.trans hb;exact Y.ki_BadValues_BadValue),⟨fun _ _ ha hb=>(by cases Y.tb_BadValues.symm.trans ha;cases Y.tb_BadValues.symm.trans hb;exact Y.ki_BadValues_BadValues),⟨fun _ _ ha hb=>(by cases Y.tb_BadValues.symm.trans ha;cases Y.tb_BadWay.symm.trans hb;exact Y.ki_BadValues_BadWay),⟨fun _ _ ha hb=>(by cases Y.tb_BadValues.symm.trans ha;cases Y.tb_Clash.symm.trans hb;exact Y.ki_BadValues_Clash),⟨fun _ _ ha hb=>(by cases Y.tb_BadValues.symm.trans ha;cases Y.tb_NoFill.symm.trans hb;exact Y.ki_BadValues_NoFill),⟨fun _ _ ha hb=>(by cases Y.tb_BadValues.symm.trans ha;cases Y.tb_TooMany.symm.trans hb;exact Y.ki_BadValues_TooMany),⟨fun _ _ ha hb=>(by cases Y.tb_BadValues.symm.trans ha;cases Y.tb_Unclear.symm.trans hb;exact Y.ki_BadValues_Unclear),⟨fun _ _ ha hb=>(by cases Y.tb_Refused.symm.trans ha;cases Y.tb_BadName.symm.trans hb;exact Y.ki_Refused_BadName),⟨fun _ _ ha hb=>(by cases Y.tb_Refused.symm.trans ha;cases Y.tb_BadText.symm.trans hb;exact Y.ki_Refused_BadText),⟨fun _ _ ha hb=>(by cases Y.tb_Refused.symm.trans ha;cases Y.tb_BadValue.symm.trans hb;exact Y.ki_Refused_BadValue),⟨fun _ _ ha hb=>(by cases Y.tb_Refused.symm.trans ha;cases Y.tb_BadValues.symm.trans hb;exact Y.ki_Refused_BadValues),⟨fun _ _ ha hb=>(by cases Y.tb_Refused.symm.trans ha;cases Y.tb_BadWay.symm.trans hb;exact Y.ki_Refused_BadWay),⟨fun _ _ ha hb=>(by cases Y.tb_Refused.symm.trans ha;cases Y.tb_Clash.symm.trans hb;exact Y.ki_Refused_Clash),⟨fun _ _ ha hb=>(by cases Y.tb_Refused.symm.trans ha;cases Y.tb_NoFill.symm.trans hb;exact Y.ki_Refused_NoFill),⟨fun _ _ ha hb=>(by cases Y.tb_Refused.symm.trans ha;cases Y.tb_TooMany.symm.trans hb;exact Y.ki_Refused_TooMany),⟨fun _ _ ha hb=>(by cases Y.tb_Refused.symm.trans ha;cases Y.tb_Unclear.symm.trans hb;exact Y.ki_Refused_Unclear),True.intro⟩⟩⟩⟩⟩⟩⟩⟩⟩⟩⟩⟩⟩⟩⟩⟩⟩⟩
 ·unfold sT_ at h;split at h
  ·cases Y.tb_BadValues.symm.trans ha;cases h;exact Y.ki_BadValues_ValueError
  ·cases Y.tb_Refused.symm.trans ha;cases h;exact Y.ki_Refused_ValueError
  ·cases h
theorem oG(Y:Sys S):∀ C Ca,gy C=true→S.T C=some Ca→W.exmOne S.K (.ref Ca) (.ref (Y.kls 5))=some true:=by
 intro C Ca h ha;unfold gy at h;split at h
 ·cases Y.tb_BadValues.symm.trans ha;exact Y.ex_BadValues_FormError
 ·cases h
theorem lw(Y:Sys S):∀ C Ca,gF C=true→S.T C=some Ca→W.exmOne S.K (.ref Ca) (.ref (Y.kls 500))=some true:=by
 intro C Ca h ha;unfold gF at h;split at h
 ·cases Y.tb_Refused.symm.trans ha;exact Y.ex_Refused_Refused
 ·cases h
theorem rO(Y:Sys S):∀ C Ca,mI C=true→S.T C=some Ca→xnm C="word"∧∃ fI,XIn S.K Ca fI "word":=by
 intro C Ca h ha;unfold mI at h;split at h
 ·cases Y.tb_Refused.symm.trans ha;exact ⟨rfl,_,Y.xi_Refused⟩
 ·cases h
theorem jV(Y:Sys S)(h1:X.toSC=S:=by rfl):OC X 600:=by subst h1;exact ⟨_,Y.tb_Pen,Y.cl_Pen,Y.na_Pen⟩
theorem cA(Y:Sys S)(h1:X.toSC=S:=by rfl):OC X 601:=by subst h1;exact ⟨_,Y.tb_Writer,Y.cl_Writer,Y.na_Writer⟩
theorem Dn(Y:Sys S)(h1:X.toSC=S:=by rfl):ZN X 0 "Word":=by subst h1;exact ⟨_,Y.tb_Word,Y.nw_Word.1,Y.nw_Word.2.1,Y.nw_Word.2.2,Y.mc_Word⟩
theorem zn(Y:Sys S)(h1:X.toSC=S:=by rfl):ZN X 1 "Number":=by subst h1;exact ⟨_,Y.tb_Number,Y.nw_Number.1,Y.nw_Number.2.1,Y.nw_Number.2.2,Y.mc_Number⟩
theorem zm(Y:Sys S)(h1:X.toSC=S:=by rfl):ZN X 2 "Quoted":=by subst h1;exact ⟨_,Y.tb_Quoted,Y.nw_Quoted.1,Y.nw_Quoted.2.1,Y.nw_Quoted.2.2,Y.mc_Quoted⟩
theorem AL(Y:Sys S)(h1:X.toSC=S:=by rfl):ZN X 3 "Plain":=by subst h1;exact ⟨_,Y.tb_Plain,Y.nw_Plain.1,Y.nw_Plain.2.1,Y.nw_Plain.2.2,Y.mc_Plain⟩
theorem Do(Y:Sys S)(h1:X.toSC=S:=by rfl):ZN X 4 "Line":=by subst h1;exact ⟨_,Y.tb_Line,Y.nw_Line.1,Y.nw_Line.2.1,Y.nw_Line.2.2,Y.mc_Line⟩
theorem gP(Y:Sys S)(h1:X.toSC=S:=by rfl):ZX X 8 "BadValues":=by subst h1;exact ⟨_,_,_,_,_,_,_,_,_,PySem.F.excBase_ValueError,by decide+kernel,PySem.F.excBase_ValueError,Y.xr_BadValues,Y.tb_BadValues,Y.mc_BadValues⟩
theorem sc:∀ f,kN (rd f) (jR f) (aV (qR f)):=fun f=>by cases f<;>exact ⟨rfl,rfl,rfl,by decide+kernel,rfl,by decide+kernel,by decide+kernel⟩
theorem gZ(Y:Sys S)(h1:X.toSC=S:=by rfl):ZI X 500 "Refused":=by subst h1;exact ⟨_,_,_,_,Y.tb_Refused,Y.mc_Refused,CG (Y.ok .Refused___init__) (sc .Refused___init__) rfl rfl rfl rfl,Y.xi_Refused,Y.bi .Refused___init__⟩
def clO:Fn→Nat
 | .Pen_outcome_written=>600
 | .Writer_write_nodes=>601
 | .Pen_outcome_refused=>600
 | .Writer_write_node=>601
 | .Pen_write=>600
 | .Pen_put=>600
 | .Writer_write_rounds=>601
 | .Pen_truth_wanted=>600
 | .Pen_thing_wanted=>600
 | .Pen_list_wanted=>600
 | .Pen_begin_round=>600
 | .Pen_count_one=>600
 | .Writer___init__=>601
 | .Pen___init__=>600
 | _=>0
def Fd:Fn→Bool
 | .Pen_outcome_written=>true
 | .Writer_write_nodes=>true
 | .Pen_outcome_refused=>true
 | .Writer_write_node=>true
 | .Pen_write=>true
 | .Pen_put=>true
 | .Writer_write_rounds=>true
 | .Pen_truth_wanted=>true
 | .Pen_thing_wanted=>true
 | .Pen_list_wanted=>true
 | .Pen_begin_round=>true
 | .Pen_count_one=>true
 | _=>false
def Iq:Fn→Bool
 | .Writer___init__=>true
 | .Pen___init__=>true
 | _=>false
def Ky:Fn→Bool
 | .Pen_outcome_refused=>true
 | _=>false
def clN:Fn→Str
 | .Writer___init__=>"Writer"
 | .Pen___init__=>"Pen"
 | _=>""
structure Tb(Y:Sys S)(k:Nat):Prop where
 p:∀ f,FnP S (dl k) (Y.adr f) (Y.fd f) (jR f) (F k f)
 l:∀ f,FnL S true (dl k) (Y.adr f) (Y.fd f) (jR f) (L k f)
 x:∀ f,FnL S true (dl k) (Y.adr f) (Y.fd f) (jR f) (X_ k f)
 h:∀ f,Ky f=true→FnL S false (dl k) (Y.adr f) (Y.fd f) (jR f) (X_ k f)
structure Bu(Y:Sys S)(k:Nat)(A:Around):Prop extends Tb Y k where
 hr:dY (dl k+1) A
variable {Y:Sys S} {A:Around} {e o:Expr} {es:List Expr} {fo:Ex} {fs:Ax} {pos p0 apos:Pos} {x m:Str} {pl:Sem Bool}
theorem Bu.r(B:Bu Y k A):dY (dl k) A:=B.hr.mono (Nat.le_succ _)
theorem om(Y:Sys S)(f:Fn)(h:Fd f=true):∃ Ca,S.T (clO f)=some Ca∧Cls S.K Ca∧bY S.K Ca (lP f) (Y.adr f)∧lP f∉fnm (clO f):=by
 cases f with
 | Pen_outcome_written=>exact ⟨_,Y.tb_Pen,Y.cl_Pen,Y.me_Pen_outcome_written,by decide⟩
 | Writer_write_nodes=>exact ⟨_,Y.tb_Writer,Y.cl_Writer,Y.me_Writer_write_nodes,by decide⟩
 | Pen_outcome_refused=>exact ⟨_,Y.tb_Pen,Y.cl_Pen,Y.me_Pen_outcome_refused,by decide⟩
 | Writer_write_node=>exact ⟨_,Y.tb_Writer,Y.cl_Writer,Y.me_Writer_write_node,by decide⟩
 | Pen_write=>exact ⟨_,Y.tb_Pen,Y.cl_Pen,Y.me_Pen_write,by decide⟩
 | Pen_put=>exact ⟨_,Y.tb_Pen,Y.cl_Pen,Y.me_Pen_put,by decide⟩
 | Writer_write_rounds=>exact ⟨_,Y.tb_Writer,Y.cl_Writer,Y.me_Writer_write_rounds,by decide⟩
 | Pen_truth_wanted=>exact ⟨_,Y.tb_Pen,Y.cl_Pen,Y.me_Pen_truth_wanted,by decide⟩
 | Pen_thing_wanted=>exact ⟨_,Y.tb_Pen,Y.cl_Pen,Y.me_Pen_thing_wanted,by decide⟩
 | Pen_list_wanted=>exact ⟨_,Y.tb_Pen,Y.cl_Pen,Y.me_Pen_list_wanted,by decide⟩
 | Pen_begin_round=>exact ⟨_,Y.tb_Pen,Y.cl_Pen,Y.me_Pen_begin_round,by decide⟩
 | Pen_count_one=>exact ⟨_,Y.tb_Pen,Y.cl_Pen,Y.me_Pen_count_one,by decide⟩
 | _=>cases h
theorem oi(Y:Sys S)(f:Fn)(h:Iq f=true):∃ Ca,S.T (clO f)=some Ca∧Mk S.K Ca (Y.adr f)∧S.mg (clN f)=some (.ref Ca):=by
 cases f with
 | Writer___init__=>exact ⟨_,Y.tb_Writer,Y.mo_Writer,Y.mc_Writer⟩
 | Pen___init__=>exact ⟨_,Y.tb_Pen,Y.mo_Pen,Y.mc_Pen⟩
 | _=>cases h
theorem zc(B:Bu Y k A)(f:Fn)(ha:RA X (e::es) fs)(h1:X.toSC=S:=by rfl)(h2:X.A=A:=by rfl)(hx:lP f=x:=by rfl)(hp:Aw f=true:=by rfl)(hg:Gl X x:=by rfl)(hc:X.calm=true:=by rfl)(hdb:(x==("__debug__":Str))=false:=by decide)(he:starEach (e::es) X.env=(false,eval e X.env)::starEach es X.env:=by rfl)(hpl:(backTo pos (starEach es X.env)).any (·.1)=false:=by rfl):RE X (.Call (.Name x p0) (e::es) [] pos) (bj (F k f) fs):=by
 subst h1 h2 hx;exact DT ⟨_,_,_,_,B.p f,B.r,Y.m f hp,(Y.ok f).kp,Y.bi f⟩ hg ha hc hdb he hpl
theorem zc0(B:Bu Y k A)(f:Fn)(h1:X.toSC=S:=by rfl)(h2:X.A=A:=by rfl)(hx:lP f=x:=by rfl)(hp:Aw f=true:=by rfl)(hg:Gl X x:=by rfl)(hc:X.calm=true:=by rfl)(hdb:(x==("__debug__":Str))=false:=by decide):RE X (.Call (.Name x p0) [] [] pos) (bj (F k f) aj):=by
 subst h1 h2 hx;exact Bw ⟨_,_,_,_,B.p f,B.r,Y.m f hp,(Y.ok f).kp,Y.bi f⟩ hg hc hdb
theorem zd(B:Bu Y k A)(f:Fn)(ha:RA X (e::es) fs)(h1:X.toSC=S:=by rfl)(h2:X.A=A:=by rfl)(hx:lP f=x:=by rfl)(hp:Aw f=true:=by rfl)(hg:Gl X x:=by rfl)(hc:X.calm=true:=by rfl)(hdb:(x==("__debug__":Str))=false:=by decide)(he:starEach (e::es) X.env=(false,eval e X.env)::starEach es X.env:=by rfl)(hpl:(backTo pos (starEach es X.env)).any (·.1)=false:=by rfl):RE X (.Call (.Name x p0) (e::es) [] pos) (eM (L k f) fs):=by
 subst h1 h2 hx;exact uH ⟨_,_,_,_,_,B.l f,B.r,fun _=>hc,Y.m f hp,(Y.ok f).kp,Y.bi f⟩ hg ha hdb he hpl
theorem zx(B:Bu Y k A)(f:Fn)(ha:RA X (e::es) fs)(h1:X.toSC=S:=by rfl)(h2:X.A=A:=by rfl)(hx:lP f=x:=by rfl)(hp:Aw f=true:=by rfl)(hg:Gl X x:=by rfl)(hc:X.calm=true:=by rfl)(hdb:(x==("__debug__":Str))=false:=by decide)(he:starEach (e::es) X.env=(false,eval e X.env)::starEach es X.env:=by rfl)(hpl:(backTo pos (starEach es X.env)).any (·.1)=false:=by rfl):RE X (.Call (.Name x p0) (e::es) [] pos) (eM (X_ k f) fs):=by
 subst h1 h2 hx;exact uH ⟨_,_,_,_,_,B.x f,B.r,fun _=>hc,Y.m f hp,(Y.ok f).kp,Y.bi f⟩ hg ha hdb he hpl
theorem zh(B:Bu Y k A)(f:Fn)(ha:RA X (e::es) fs)(h1:X.toSC=S:=by rfl)(h2:X.A=A:=by rfl)(hx:lP f=x:=by rfl)(hp:Aw f=true:=by rfl)(hg:Gl X x:=by rfl)(hc:X.calm=true:=by rfl)(hdb:(x==("__debug__":Str))=false:=by decide)(he:starEach (e::es) X.env=(false,eval e X.env)::starEach es X.env:=by rfl)(hpl:(backTo pos (starEach es X.env)).any (·.1)=false:=by rfl):RE X (.Call (.Name x p0) (e::es) [] pos) (nO (X_ k f) fs):=by
 subst h1 h2 hx;exact Bt ⟨_,_,_,_,_,B.x f,B.r,fun _=>hc,Y.m f hp,(Y.ok f).kp,Y.bi f⟩ hg ha hdb he hpl
theorem zo(B:Bu Y k A)(f:Fn)(ho:RE X o fo)(ha:RA X (e::es) fs)(h1:X.toSC=S:=by rfl)(h2:X.A=A:=by rfl)(hx:lP f=m:=by rfl)(hp:Fd f=true:=by rfl)(hc:X.calm=true:=by rfl)(he:starEach (e::es) X.env=(false,eval e X.env)::starEach es X.env:=by rfl)(hpl:(backTo pos (starEach es X.env)).any (·.1)=false:=by rfl)(ht:eval (.Call (.Attribute o m apos) (e::es) [] pos) X.env=(do
   let ov ← eval o X.env
   standAt apos.atName
   let (f,first) ← holding [ov] (getMethod ov m pl)
   callWith pos f first (backTo pos (starEach (e::es) X.env)) (backToKw pos (keywordEach [] X.env))):=by rfl):RE X (.Call (.Attribute o m apos) (e::es) [] pos) (bK (clO f) (X_ k f) fo fs):=by
 subst h1 h2 hx;obtain ⟨_,a,b,c,d⟩:=om Y f hp;exact uE (pl:=pl) ⟨_,_,_,_,_,_,a,b,c,d,B.x f,B.r,fun _=>hc,Y.bi f⟩ ho ha he hpl ht
theorem zo0(B:Bu Y k A)(f:Fn)(ho:RE X o fo)(h1:X.toSC=S:=by rfl)(h2:X.A=A:=by rfl)(hx:lP f=m:=by rfl)(hp:Fd f=true:=by rfl)(hc:X.calm=true:=by rfl)(ht:eval (.Call (.Attribute o m apos) [] [] pos) X.env=(do
   let ov ← eval o X.env
   standAt apos.atName
   let (f,first) ← holding [ov] (getMethod ov m pl)
   callWith pos f first (backTo pos (starEach [] X.env)) (backToKw pos (keywordEach [] X.env))):=by rfl):RE X (.Call (.Attribute o m apos) [] [] pos) (bK (clO f) (X_ k f) fo aj):=by
 subst h1 h2 hx;obtain ⟨_,a,b,c,d⟩:=om Y f hp;exact zJ (pl:=pl) ⟨_,_,_,_,_,_,a,b,c,d,B.x f,B.r,fun _=>hc,Y.bi f⟩ ho ht
theorem zoH{v:Option Value}(B:Bu Y k A)(f:Fn)(ho:RE X o fo)(ha:RA X (e::es) fs)(h1:X.toSC=S:=by rfl)(h2:X.A=A.mark v:=by rfl)(hx:lP f=m:=by rfl)(hp:Fd f=true:=by rfl)(hh:Ky f=true:=by rfl)(he:starEach (e::es) X.env=(false,eval e X.env)::starEach es X.env:=by rfl)(hpl:(backTo pos (starEach es X.env)).any (·.1)=false:=by rfl)(ht:eval (.Call (.Attribute o m apos) (e::es) [] pos) X.env=(do
   let ov ← eval o X.env
   standAt apos.atName
   let (f,first) ← holding [ov] (getMethod ov m pl)
   callWith pos f first (backTo pos (starEach (e::es) X.env)) (backToKw pos (keywordEach [] X.env))):=by rfl):RE X (.Call (.Attribute o m apos) (e::es) [] pos) (bK (clO f) (X_ k f) fo fs):=by
 subst h1 hx;obtain ⟨_,a,b,c,d⟩:=om Y f hp;exact uE (pl:=pl) ⟨_,_,_,_,_,_,a,b,c,d,B.h f hh,h2▸⟨B.r.dp,B.r.un,B.r.gd⟩,fun z=>(nomatch z),Y.bi f⟩ ho ha he hpl ht
theorem zk(B:Bu Y k A)(f:Fn)(ha:RA X (e::es) fs)(h1:X.toSC=S:=by rfl)(h2:X.A=A:=by rfl)(hx:clN f=x:=by rfl)(hp:Iq f=true:=by rfl)(hg:Gl X x:=by rfl)(hc:X.calm=true:=by rfl)(hdb:(x==("__debug__":Str))=false:=by decide)(he:starEach (e::es) X.env=(false,eval e X.env)::starEach es X.env:=by rfl)(hpl:(backTo pos (starEach es X.env)).any (·.1)=false:=by rfl):RE X (.Call (.Name x p0) (e::es) [] pos) (vW (clO f) (X_ k f) fs):=by
 subst h1 h2 hx;obtain ⟨_,a,b,c⟩:=oi Y f hp;exact Hd ⟨_,_,_,_,_,_,a,b,B.x f,B.hr,fun _=>hc,c,Y.bi f⟩ hg ha hdb he hpl
theorem zk0(B:Bu Y k A)(f:Fn)(h1:X.toSC=S:=by rfl)(h2:X.A=A:=by rfl)(hx:clN f=x:=by rfl)(hp:Iq f=true:=by rfl)(hg:Gl X x:=by rfl)(hc:X.calm=true:=by rfl)(hdb:(x==("__debug__":Str))=false:=by decide):RE X (.Call (.Name x p0) [] [] pos) (vW (clO f) (X_ k f) aj):=by
 subst h1 h2 hx;obtain ⟨_,a,b,c⟩:=oi Y f hp;exact DS ⟨_,_,_,_,_,_,a,b,B.x f,B.hr,fun _=>hc,c,Y.bi f⟩ hg hdb
theorem qQ(B:Bu Y k A)(h1:X.toSC=S:=by rfl)(h2:X.A=A:=by rfl):ZM X "coded" (kH (F k)):=by
 subst h1 h2
 refine ⟨fun C fn h=>?_⟩
 unfold kH at h
 split at h
 ·cases h;exact ⟨_,_,_,_,_,Y.tb_Word,Y.cl_Word,Y.me_Word_coded,B.p .Way_coded,B.r,Y.bi .Way_coded⟩
 ·cases h;exact ⟨_,_,_,_,_,Y.tb_Number,Y.cl_Number,Y.me_Number_coded,B.p .Way_coded,B.r,Y.bi .Way_coded⟩
 ·cases h;exact ⟨_,_,_,_,_,Y.tb_Quoted,Y.cl_Quoted,Y.me_Quoted_coded,B.p .Way_coded,B.r,Y.bi .Way_coded⟩
 ·cases h;exact ⟨_,_,_,_,_,Y.tb_Plain,Y.cl_Plain,Y.me_Plain_coded,B.p .Way_coded,B.r,Y.bi .Way_coded⟩
 ·cases h;exact ⟨_,_,_,_,_,Y.tb_Line,Y.cl_Line,Y.me_Line_coded,B.p .Way_coded,B.r,Y.bi .Way_coded⟩
 ·cases h
theorem oV(B:Bu Y k A)(h1:X.toSC=S:=by rfl)(h2:X.A=A:=by rfl):ZM X "fits" (lX (F k)):=by
 subst h1 h2
 refine ⟨fun C fn h=>?_⟩
 unfold lX at h
 split at h
 ·cases h;exact ⟨_,_,_,_,_,Y.tb_Word,Y.cl_Word,Y.me_Word_fits,B.p .Word_fits,B.r,Y.bi .Word_fits⟩
 ·cases h;exact ⟨_,_,_,_,_,Y.tb_Number,Y.cl_Number,Y.me_Number_fits,B.p .Number_fits,B.r,Y.bi .Number_fits⟩
 ·cases h;exact ⟨_,_,_,_,_,Y.tb_Quoted,Y.cl_Quoted,Y.me_Quoted_fits,B.p .Quoted_fits,B.r,Y.bi .Quoted_fits⟩
 ·cases h;exact ⟨_,_,_,_,_,Y.tb_Plain,Y.cl_Plain,Y.me_Plain_fits,B.p .Plain_fits,B.r,Y.bi .Plain_fits⟩
 ·cases h;exact ⟨_,_,_,_,_,Y.tb_Line,Y.cl_Line,Y.me_Line_fits,B.p .Line_fits,B.r,Y.bi .Line_fits⟩
 ·cases h
theorem wh(B:Bu Y k A)(h1:X.toSC=S:=by rfl)(h2:X.A=A:=by rfl):ZM X "spelling" (jA (F k)):=by
 subst h1 h2
 refine ⟨fun C fn h=>?_⟩
 unfold jA at h
 split at h
 ·cases h;exact ⟨_,_,_,_,_,Y.tb_Word,Y.cl_Word,Y.me_Word_spelling,B.p .Word_spelling,B.r,Y.bi .Word_spelling⟩
 ·cases h;exact ⟨_,_,_,_,_,Y.tb_Number,Y.cl_Number,Y.me_Number_spelling,B.p .Number_spelling,B.r,Y.bi .Number_spelling⟩
 ·cases h;exact ⟨_,_,_,_,_,Y.tb_Quoted,Y.cl_Quoted,Y.me_Quoted_spelling,B.p .Quoted_spelling,B.r,Y.bi .Quoted_spelling⟩
 ·cases h;exact ⟨_,_,_,_,_,Y.tb_Plain,Y.cl_Plain,Y.me_Plain_spelling,B.p .Plain_spelling,B.r,Y.bi .Plain_spelling⟩
 ·cases h;exact ⟨_,_,_,_,_,Y.tb_Line,Y.cl_Line,Y.me_Line_spelling,B.p .Line_spelling,B.r,Y.bi .Line_spelling⟩
 ·cases h
end
def RR{S:SC}(Y:Sys S)(c:Bool)(k:Nat)(f:Fn)(b:Sx):Prop:=∀ (X:Cx) (cd:Value) (A:Around) (s:Shared),X.toSC=S→dY (dl k+1) (A.deeper (envOfC (wI f) (aV (qR f)) s.heap.objs.size (Y.adr f) cd))→RSs (jB c X (rd f) (wI f) (aV (qR f)) (Y.adr f) cd A s) (gX (qR f)) b
section
variable {S:SC} {Y:Sys S} {c:Bool} {k:Nat} {f:Fn} {b:Sx}
theorem rz(T:Tb Y k)(h:∀ (X:Cx) (Y:Sys X.toSC) (cd:Value) (A:Around) (s:Shared),Bu Y k (jB c X (rd f) (wI f) (aV (qR f)) (Y.adr f) cd A s).A→(jB c X (rd f) (wI f) (aV (qR f)) (Y.adr f) cd A s).A.units+64<cLine→(∀ i,X.mg (Hn i)=none)→RSs (jB c X (rd f) (wI f) (aV (qR f)) (Y.adr f) cd A s) (gX (qR f)) b):RR Y c k f b:=fun X cd A s e hr=>by subst e;exact h X Y cd A s ⟨T,hr⟩ (hr.mono (Nat.le_succ _)).units Y.n
theorem fp(h:RR Y true k f b):FnP S (dl (k+1)) (Y.adr f) (Y.fd f) (jR f) (ar b (jR f).length (rd f).length):=Fq (Y.ok f) (sc f) h
theorem fl(h:RR Y c k f b):FnL S c (dl (k+1)) (Y.adr f) (Y.fd f) (jR f) (fx b (jR f).length (rd f).length):=oR (Y.ok f) (sc f) h KM
theorem fg(h:RR Y c k f b):FnL S c (dl (k+1)) (Y.adr f) (Y.fd f) (jR f) (uA b (jR f).length (rd f).length):=oR (Y.ok f) (sc f) h Gm
theorem fh(h:RR Y c k f b):FnL S c (dl (k+1)) (Y.adr f) (Y.fd f) (jR f) (bq b (jR f).length (rd f).length):=oR (Y.ok f) (sc f) h KO
theorem fi(h:RR Y c k f b):FnL S c (dl (k+1)) (Y.adr f) (Y.fd f) (jR f) (uz b (jR f).length (rd f).length):=oR (Y.ok f) (sc f) h KN
end
section
variable {S:SC} {Y:Sys S} {k:Nat} (T:Tb Y k)
include T
theorem ww:RR Y true k .written (kA (F k) (X_ k)):=rz T fun X Y _ _ _ B hu n=>(ah (bf (aB (rv 0) (wE ag)))
  (ah (cr (zx B .need_values (ac (aB (rv 2) ag) (ra1 (rv 1)))))
  (ah (bf (zk B .Writer___init__ (ra1 (rv 0))))
  (ah (tw (lw Y) (zo B .Writer_write_nodes (rv 3) (ac (aB (rv 2) ag) (ra1 (aq (ac (zc B .references_to (ra1 (rv 1))) (ra1 ig)))))) (fun _=>(zr (zoH B .Pen_outcome_refused (fj (cA Y) rfl (rv 3)) (ra1 (FX (rO Y) (rv 4)))))) rfl rfl rfl Y.mc_Refused)
  (zr (zo0 B .Pen_outcome_written (fj (cA Y) rfl (rv 3))))))))
theorem pV:RR Y true k .need_values (cz (F k)):=rz T fun X Y _ _ _ B hu n=>(ah (aQ (cZ (bZ (zis (n .isinstance) (n .dict) (rv 1)))) (ay (mn (gP Y) rfl (ra1 rst))) aG)
  (ah (zf (kD (rv 0)) bo (ay (aQ (bS (gU hu) (by with_unfolding_all rfl) (rv 2) (rv 1)) (ay (mn (gP Y) rfl (ra1 rst))) aG)))
  (ay (zf (kD (rv 1)) bo (ah (aQ (bS (gU hu) (by with_unfolding_all rfl) (rv 2) (rv 0)) (ay (mn (gP Y) rfl (ra1 rst))) aG)
  (ay (aQ (cZ (bZ (zc B .is_value (ra1 (aB (rv 1) (rv 2)))))) (ay (mn (gP Y) rfl (ra1 rst))) aG)))))))
theorem lG:RR Y true k .Writer___init__ (dQ (F k) (X_ k)):=rz T fun X Y _ _ _ B hu n=>(ah (pY (cA Y) rfl (rv 0) (zk0 B .Pen___init__))
  (ah (pY (cA Y) rfl (rv 0) oO)
  (ay (zf (iP (rv 1)) bo (ay (kB (fj (cA Y) rfl (rv 0)) (aB (rv 2) ag) (rv 2)))))))
theorem jr:RR Y true k .Pen_outcome_written (cC (F k)):=rz T fun X Y _ _ _ B hu n=>(zr (aq (ac rst (ra1 (iF hH PySem.F.plainAttrs_str PySem.F.slot_str_join PySem.F.type_str_join gq rst (ra1 (fj (jV Y) rfl (rv 0))))))))
theorem jK:RR Y true k .Writer_write_nodes (cJ (F k) (X_ k)):=rz T fun X Y _ _ _ B hu n=>(ay (zf (iP (rv 1)) bo (ay (cr (zo B .Writer_write_node (rv 0) (ac (rv 3) (ra1 (rv 2))))))))
theorem fV{c:Bool}:RR Y c k .Pen_outcome_refused (cD (F k)):=rz T fun X Y _ _ _ B hu n=>(zr (aq (ac rst (ac (rv 1) (ra1 (iF hH PySem.F.plainAttrs_str PySem.F.slot_str_join PySem.F.type_str_join gq rst (ra1 (fj (jV Y) rfl (rv 0)))))))))
theorem oj:RR Y true k .Pen___init__ (jM (F k)):=rz T fun X Y _ _ _ B hu n=>(ah (pY (jV Y) rfl (rv 0) (oP gh))
  (ay (pY (jV Y) rfl (rv 0) ag)))
theorem jO:RR Y true k .Writer_write_node (au (F k) (X_ k)):=rz T fun X Y _ _ _ B hu n=>(ah (bf (aB (rv 1) ag))
  (ay (aQ (rte hu (rv 3) rst) (ay (cr (zo B .Pen_write (fj (cA Y) rfl (rv 0)) (ra1 (aB (rv 1) ag))))) (ay (aQ (rte hu (rv 3) rst) (ay (cr (zo B .Pen_put (fj (cA Y) rfl (rv 0)) (ac (zc B .stood_for (ac (aB (rv 1) ag) (ra1 (rv 2)))) (ra1 (aB (rv 1) ag)))))) (ay (aQ (rte hu (rv 3) rst) (ay (cr (zo B .Writer_write_rounds (rv 0) (ac (rv 1) (ra1 (rv 2)))))) (ay (aQ (rte hu (rv 3) rst) (ah (bf (zo B .Pen_truth_wanted (fj (cA Y) rfl (rv 0)) (ra1 (zc B .stood_for (ac (aB (rv 1) ag) (ra1 (rv 2)))))))
  (ay (cr (zo B .Writer_write_nodes (rv 0) (ac (jQ (bZ (rv 4)) (aB (rv 1) ag) (aB (rv 1) ag)) (ra1 (rv 2))))))) (ay (aQ (rte hu (rv 3) rst) (ah (bf (aB (fj (cA Y) rfl (rv 0)) (aB (rv 1) ag)))
  (ay (cr (zo B .Writer_write_nodes (rv 0) (ac (aB (rv 5) ag) (ra1 (zc B .scope_in_use (ac (rv 1) (ac (rv 5) (ra1 (rv 2))))))))))) (ah (bf (aB (rv 2) ag))
  (ay (cr (zo B .Writer_write_nodes (rv 0) (ac (aB (rv 6) ag) (ra1 (zc B .scope_in_body (ac (aB (rv 1) ag) (ra1 (rv 2)))))))))))))))))))))
theorem tq:RR Y true k .Pen_write (iz (F k)):=rz T fun X Y _ _ _ B hu n=>(ay (cr (iF wl PySem.F.plainAttrs_list PySem.F.slot_list_append PySem.F.type_list_append nG (fj (jV Y) rfl (rv 0)) (ra1 (rv 1)))))
theorem wx:RR Y true k .Pen_put (fN (F k) (X_ k) (Nat.ble 2 (dl k))):=rz T fun X Y _ _ _ B hu n=>(ah (bf (zo B .Pen_thing_wanted (rv 0) (ra1 (rv 1))))
  (ah (bf (zc B .way_of (ra1 (rv 2))))
  (ah (aQ (cZ (bZ (iE (oV B) (rv 4) (ra1 (rv 3))))) (ay (iY (gZ Y) B.r rfl (ra1 rst))) aG)
  (ah (cr (zo B .Pen_write (rv 0) (ra1 (iE (qQ B) (rv 4) (ra1 (rv 3))))))
  (zr (rv 3))))))
theorem jq:RR Y true k .Writer_write_rounds (bI (F k) (X_ k)):=rz T fun X Y _ _ _ B hu n=>(ah (bf (zo B .Pen_list_wanted (fj (cA Y) rfl (rv 0)) (ra1 (zc B .stood_for (ac (aB (rv 1) ag) (ra1 (rv 2)))))))
  (ay (zf (DN rfl (n .enumerate) (ra1 (rv 3))) (pZ rfl (ez bo (ez bo mq))) (ah (cr (zo B .Pen_begin_round (fj (cA Y) rfl (rv 0)) (ac (rv 4) (ra1 (aB (rv 1) ag)))))
  (ay (cr (zo B .Writer_write_nodes (rv 0) (ac (aB (rv 1) ag) (ra1 (zc B .scope_in_loop (ac (aB (rv 1) ag) (ac (aq (ra1 (rv 5))) (ra1 (rv 2))))))))))))))
theorem kP:RR Y true k .Pen_truth_wanted (bw (F k) (X_ k) (Nat.ble 2 (dl k))):=rz T fun X Y _ _ _ B hu n=>(ah (bf (zo B .Pen_thing_wanted (rv 0) (ra1 (rv 1))))
  (ah (aQ (cZ (bZ (zis (n .isinstance) (n .bool) (rv 2)))) (ay (iY (gZ Y) B.r rfl (ra1 rst))) aG)
  (zr (rv 2))))
theorem kQ:RR Y true k .Pen_thing_wanted (bx (F k) (X_ k) (Nat.ble 2 (dl k))):=rz T fun X Y _ _ _ B hu n=>(ah (cr (zo0 B .Pen_count_one (rv 0)))
  (ah (bf (zc B .found (ac (aB (rv 1) ag) (ra1 (fP (rv 1) (iC ag) iD)))))
  (ah (aQ (cZ (bZ (rv 2))) (ay (iY (gZ Y) B.r rfl (ra1 rst))) aG)
  (zr (aB (rv 2) ag)))))
theorem lH:RR Y true k .Pen_list_wanted (bD (F k) (X_ k) (Nat.ble 2 (dl k))):=rz T fun X Y _ _ _ B hu n=>(ah (bf (zo B .Pen_thing_wanted (rv 0) (ra1 (rv 1))))
  (ah (aQ (cZ (bZ (zis (n .isinstance) (n .list) (rv 2)))) (ay (iY (gZ Y) B.r rfl (ra1 rst))) aG)
  (zr (rv 2))))
theorem lI:RR Y true k .Pen_begin_round (bR (F k) (X_ k)):=rz T fun X Y _ _ _ B hu n=>(ah (cr (zo0 B .Pen_count_one (rv 0)))
  (ay (aQ (bS uT (bP _) (rv 1) ag) (ay (cr (zo B .Pen_write (rv 0) (ra1 (rv 2))))) aG)))
theorem mj:RR Y true k .with_handed_in (eP (F k)):=rz T fun X Y _ _ _ B hu n=>(ah (zf (Bq rfl (n .zip) (ac (rv 1) (ra1 (rv 2)))) (pZ rfl (ez bo (ez bo mq))) (ay (kB (rv 0) (rv 4) (zc B .stood_for (ac (rv 5) (ra1 (rv 3)))))))
  (zr (rv 0)))
theorem nr:RR Y true k .Pen_count_one (cG (F k) (Nat.ble 2 (dl k))):=rz T fun X Y _ _ _ B hu n=>(ah (pY (jV Y) rfl (rv 0) (aJ (fj (jV Y) rfl (rv 0)) ag))
  (ay (aQ (bS uT (bP _) (fj (jV Y) rfl (rv 0)) (glI Y.g_MOST_COUNTED)) (ay (iY (gZ Y) B.r rfl (ra1 rst))) aG)))
theorem Jz:RR Y true k .law (sL (F k) (L k)):=rz T fun X Y _ _ _ B hu n=>(ah (aQ (rte hu (aL (zc B .l_cell_at (ac (rv 0) (ra1 ag))) ag) ag) (zr (zc B .l_long (ra1 (aJ (aL (aS (zc B .l_cell_at (ac (rv 0) (ra1 ag))) ag) ag) (cB ag (aL (zc B .l_cell_at (ac (rv 0) (ra1 ag))) ag)))))) aG)
  (ah (bf (oP (ac ag (ra1 ag))))
  (ah (bf (zc B .l_names (ra1 (zd B .l_cell (ac (rv 0) (ra1 (rv 1)))))))
  (ah (bf (zd B .l_cell (ac (rv 0) (ra1 (rv 1)))))
  (ah (bf (zt yu (n .tuple) (ra1 (fP (kE (M:= ["_law_k","_law_names_here","_law_n"]) (dO.of (by kernel_rfl)) (dC rfl (n .range) (ra1 (aL (aS (rv 3) ag) ag))) (fun _ _=>jt) (fun _ _=>(aB (rv 1) (aL (aS (rv 2) (aB (aZ (ac ag (ac ag (ra1 ag)))) (rv 0))) ag)))) iD (iC ag)))))
  (ah (bf (zd B .l_thing (ac (rv 0) (ra1 (rv 1)))))
  (ah (bf (cU (bT (aB (rv 2) ag) (zc B .l_within (ac (rv 5) (ac (rv 4) (ac (rv 2) (ra1 (zd B .l_cell (ac (rv 0) (ra1 (rv 1))))))))) cT)))
  (ah (bf (zc B .l_node (ac (rv 2) (ac (rv 4) (ra1 (zd B .l_cell (ac (rv 0) (ra1 (rv 1)))))))))
  (ah (bf (jQ (rte hu (aB (rv 7) ag) rst) (aB (rv 7) ag) (aB (rv 7) ag)))
  (ah (bf (zb (yv B.hr.gd hu) (n .repr) (ra1 (rv 6))))
  (ah (bf (aq (ra1 (aq (ac rst (ac (aB (rv 2) ag) (ac (aq (ra1 (aB (rv 2) ag))) (ac ig (ra1 (aq (ac (aq (ac rst (ra1 rst))) (ac (rv 7) (ra1 (aq (ac rst (ra1 rst))))))))))))))))
  (ah (Bl (pZ rfl (ez bo (ez bo mq))) (zc B .l_due (ac (rv 7) (ra1 (zc B .l_led (ac (aB (rv 6) (aB (rv 2) ag)) (ra1 (fP (rv 8) (iC ag) iD))))))))
  (ah (bf (aq (ac rst (ra1 (aJ (aJ rst (rv 12)) rst)))))
  (ah (aQ (bS (BP hu) (bP _) (rv 11) rst) (ay (bf (aq (ac rst (ac (rv 11) (ra1 (aJ rst (rv 12)))))))) aG)
  (ah (zf (dC rfl (n .range) (ra1 ag)) bo (ay (aQ (RW.rt (uy (cZ (bZ (zc B .l_is (ac (zc B .written (ac (rv 10) (ra1 (rv 6)))) (ra1 (rv 13)))))) (pW (bS (BP hu) (bP _) (zb (yv B.hr.gd hu) (n .repr) (ra1 (rv 6))) (rv 9))))) (zr gC) aG)))
  (zr (zc B .l_refused (ac (rv 10) (ra1 (zc B .l_no_values (ac (aB (rv 2) ag) (ac (aB (rv 2) ag) (ra1 (aS (zd B .l_cell (ac (rv 0) (ra1 (rv 1)))) ag))))))))))))))))))))))))
theorem zR:RR Y true k .l_names (jj (F k)):=rz T fun X Y _ _ _ B hu n=>(ah (bf rst)
  (ah (bf (aL (aS (rv 0) ag) ag))
  (ah (bf (oP gh))
  (ah (zf (dC rfl (n .range) (ra1 ag)) bo (ah (uD (M:= ["_law_j","_law_some","_law_n","_law_k"]) (dO.of (by kernel_rfl)) (dC rfl (n .range) (ra1 ag)) (fun _ _=>jt) (fun _ _=>(aB (rv 1) (aL (aJ (aJ (aS (rv 2) ag) (cB ag (rv 0))) (cB (cB ag (aS (rv 3) ag)) (ia ag (aL (rv 2) ag)))) ag))) rfl rfl (by with_unfolding_all rfl))
  (ah (aQ (rte hu (aL (rv 0) ag) ag) (ay (uB (rv 5) (rv 2) (aB (rv 1) (aL (aJ (aJ (aS (rv 0) ag) (cB ag (rv 4))) ag) ag)))) aG)
  (ay (cr (iF wl PySem.F.plainAttrs_list PySem.F.slot_list_append PySem.F.type_list_append nG (rv 3) (ra1 (iF hH PySem.F.plainAttrs_str PySem.F.slot_str_join PySem.F.type_str_join gq rst (ra1 (fP (rv 5) iD (iC (aB (aZ (ac (aJ ag (aL (rv 4) ag)) (ra1 (aJ (aJ (rv 2) ag) (aL (aS (rv 0) ag) (ia ag (rv 2))))))) (aL (rv 0) ag)))))))))))))
  (ah (bf (aZ (ac rst (ac rst (ac rst (ac rst (ac rst (ac rst (ac rst (ac rst (ac rst (ac rst (ra1 rst)))))))))))))
  (ah (aQ (bS Ac (bP _) (zK rfl (n .len) rfl (n .set) (aJ (rv 3) (rv 6))) ag) (zr (aZ (ac rst (ac rst (ac rst (ac rst (ac rst (ac rst (ac rst (ac rst (ac rst (ac rst (ac rst (ra1 rst)))))))))))))) aG)
  (zr (rv 3))))))))
theorem BA:RR Y true k .l_cell (jk (F k)):=rz T fun X Y _ _ _ B hu n=>(ah (uB (rv 1) ag (aJ (aB (rv 1) ag) ag))
  (ah (bf (aB (rv 1) ag))
  (ah (bf (aJ (cB (cB ag (rv 2)) (rv 2)) (cB ag (rv 2))))
  (ah (aQ (bS uT (bP _) (zl (n .len) (rv 0)) ag) (ay (bf (aJ (rv 3) (cB (aB (rv 0) (aL (rv 2) (zl (n .len) (rv 0)))) (aJ ag (aS (rv 2) (zl (n .len) (rv 0)))))))) aG)
  (zr (aS (aL (cB (rv 3) ag) ag) ag))))))
theorem zO:RR Y true k .l_thing (kJ (F k) (L k)):=rz T fun X Y _ _ _ B hu n=>(ah (bf (aZ (ac (aq (ra1 rst)) (ac (aq (ra1 rst)) (ac (aq (ra1 rst)) (ac (aq (ra1 rst)) (ac (aq (ac rst (ra1 (aq (ra1 rst))))) (ac (aq (ac rst (ra1 (aq (ra1 rst))))) (ac (aq (ac rst (ra1 (aq (ra1 (aq (ac rst (ra1 (aq (ra1 rst)))))))))) (ra1 (aq (ac rst (ra1 (aq (ra1 rst)))))))))))))))
  (zr (zd B .l_value (ac (rv 0) (ac (rv 1) (ac (aB (rv 2) (aL (aS (zd B .l_cell (ac (rv 0) (ra1 (rv 1)))) ag) ag)) (ra1 gC)))))))
theorem By:RR Y true k .l_node (kt (F k)):=rz T fun X Y _ _ _ B hu n=>(ah (aQ (RW.rt (pX (rte hu (aL (rv 2) ag) ag) (ml (bS (BP hu) (bP _) (rv 1) (aq gh))))) (ah (bf (aL (aS (rv 2) ag) (zl (n .len) (rv 1))))
  (ay (bf (aJ (aJ (fP (rv 1) iD (iC (rv 3))) (aq (ra1 (aB (rv 0) ag)))) (fP (rv 1) (iC (aJ (rv 3) ag)) iD))))) aG)
  (ah (aQ (RW.rt (pX (rte hu (aL (rv 2) ag) ag) (ml (bS Ac (bP _) (zl (n .len) (rv 1)) ag)))) (ay (bf (aJ (rv 1) (aq (ra1 (aB (rv 0) (aL (aS (rv 2) ag) ag))))))) aG)
  (ah (bf (aJ (aq (ra1 (aB (rv 0) ag))) (rv 1)))
  (ah (bf (aB (aZ (ac rst (ac rst (ac rst (ac rst (ra1 rst)))))) (aL (aS (rv 2) ag) ag)))
  (ah (bf (aL (aS (rv 2) ag) ag))
  (ah (aQ (rte hu (rv 6) ag) (zr (aq (ac rst (ac (rv 4) (ra1 (rv 5)))))) aG)
  (ah (aQ (rte hu (rv 6) ag) (ah (bf (aB (rv 0) (aL (aS (rv 2) ag) ag)))
  (zr (aq (ac rst (ac (rv 7) (ac (rv 4) (ac (aq (ac (aq (ac rst (ac (aq (ra1 (rv 7))) (ra1 (rv 5))))) (ra1 (aq (ac rst (ra1 rst)))))) (ra1 (aB (aZ (ac rst (ra1 rst))) (aL (rv 2) ag)))))))))) aG)
  (zr (aq (ac rst (ac (rv 4) (ac (aq (ra1 (aq (ac rst (ra1 rst))))) (ra1 (aB (aZ (ac (aq (ra1 (aq (ac rst (ra1 rst))))) (ra1 (aq gh)))) (aL (aS (rv 2) ag) ag)))))))))))))))
theorem DW:RR Y true k .l_due (cy (F k)):=rz T fun X Y _ _ _ B hu n=>(ah (aQ (bS (JF hu) (bP _) (rv 1) (aZ gh)) (zr (aq (ac rst (ra1 rst)))) aG)
  (ah (bf (aB (rv 1) ag))
  (ah (aQ (rte hu (aB (rv 0) ag) rst) (ah (aQ (cZ (bZ (zis (n .isinstance) (n .bool) (rv 2)))) (zr (aq (ac rst (ra1 rst)))) aG)
  (zr (aq (ac rst (ra1 (iF hH PySem.F.plainAttrs_str PySem.F.slot_str_join PySem.F.type_str_join gq rst (ra1 (kE (M:= ["_law_one"]) (dO.of (by kernel_rfl)) (iP (aB (rv 0) (ia ag (zt qu (n .int) (ra1 (rv 2)))))) (fun _ _=>jt) (fun _ _=>(aB (rv 0) ag)))))))))) aG)
  (ah (aQ (rte hu (aB (rv 0) ag) rst) (ah (bf (zc B .way_of (ra1 (aB (rv 0) ag))))
  (zr (jQ (bZ (iE (oV B) (rv 3) (ra1 (rv 2)))) (aq (ac rst (ra1 (iE (qQ B) (rv 3) (ra1 (rv 2)))))) (aq (ac rst (ra1 rst)))))) aG)
  (ah (aQ (cZ (bZ (zis (n .isinstance) (n .list) (rv 2)))) (zr (aq (ac rst (ra1 rst)))) aG)
  (ah (bf (zc B .way_of (ra1 (aB (aB (aB (rv 0) ag) ag) ag))))
  (ah (bf rst)
  (ah (zf (dC rfl (n .range) (ra1 (zl (n .len) (rv 2)))) bo (ah (bf (aJ (rv 4) (cB (aB (rv 0) ag) (zt qu (n .int) (ra1 (iQ uT (bP _) (rv 5) ag))))))
  (ah (aQ (cZ (bZ (iE (oV B) (rv 3) (ra1 (aB (rv 2) (rv 5)))))) (zr (aq (ac rst (ra1 (rv 4))))) aG)
  (ay (bf (aJ (aJ (rv 4) (iE (qQ B) (rv 3) (ra1 (aB (rv 2) (rv 5))))) rst))))))
  (zr (aq (ac rst (ra1 (rv 4)))))))))))))
theorem uJ:RR Y true k .l_refused (iL (F k) (X_ k)):=rz T fun X Y _ _ _ B hu n=>(ah (tw (oG Y) (zh B .written (ac (rv 0) (ra1 (rv 1)))) (fun _=>(ah (bf (aZ (ac (zb (kW (kZ Y)) (n .isinstance) (ac (rv 2) (ra1 (glC Y.mc_BadName Y.tb_BadName)))) (ac (zb (kW (kZ Y)) (n .isinstance) (ac (rv 2) (ra1 (glC Y.mc_BadText Y.tb_BadText)))) (ac (zb (kW (kZ Y)) (n .isinstance) (ac (rv 2) (ra1 (glC Y.mc_BadValue Y.tb_BadValue)))) (ra1 (zb (kW (kZ Y)) (n .isinstance) (ac (rv 2) (ra1 (glC Y.mc_BadWay Y.tb_BadWay))))))))))
  (ah (bf (aJ (rv 3) (aZ (ac (zb (kW (kZ Y)) (n .isinstance) (ac (rv 2) (ra1 (glC Y.mc_Clash Y.tb_Clash)))) (ac (zb (kW (kZ Y)) (n .isinstance) (ac (rv 2) (ra1 (glC Y.mc_NoFill Y.tb_NoFill)))) (ac (zb (kW (kZ Y)) (n .isinstance) (ac (rv 2) (ra1 (glC Y.mc_TooMany Y.tb_TooMany)))) (ra1 (zb (kW (kZ Y)) (n .isinstance) (ac (rv 2) (ra1 (glC Y.mc_Unclear Y.tb_Unclear)))))))))))
  (zr (ii (zb (kW (kZ Y)) (n .isinstance) (ac (rv 2) (ra1 (glC Y.mc_BadValues Y.tb_BadValues)))) (ii (zb (kW (kZ Y)) (n .isinstance) (ac (rv 2) (ra1 (zty (n .ValueError))))) (lJ (iQ (gU (by exact hu)) (by with_unfolding_all rfl) gC (rv 3))))))))) rfl rfl rfl Y.mc_FormError)
  (zr gC))
theorem Bz:RR Y true k .l_long (ku (F k)):=rz T fun X Y _ _ _ B hu n=>(ah (Bl (pZ rfl (ez bo (ez bo (ez bo mq)))) (zc B .l_long_book (ra1 (rv 0))))
  (ah (bf (aq (ac rst (ra1 (aJ (iF hH PySem.F.plainAttrs_str PySem.F.slot_str_join PySem.F.type_str_join gq rst (ra1 (rv 3))) rst)))))
  (ah (aQ (rte hu (aL (aS (rv 0) ag) ag) ag) (ay (bf (aq (ac rst (ac rst (ra1 (iF hH PySem.F.plainAttrs_str PySem.F.slot_str_join PySem.F.type_str_join gq rst (ra1 (rv 3))))))))) aG)
  (ah (aQ (bS uT (bP _) (aJ (zl (n .len) (rv 3)) (aL (aS (rv 0) ag) ag)) ag) (ay (bf (aq (ac rst (ac rst (ra1 (iF hH PySem.F.plainAttrs_str PySem.F.slot_str_join PySem.F.type_str_join gq rst (ra1 (fP (rv 3) iD (iC ag)))))))))) aG)
  (zr (zc B .l_is (ac (zc B .written (ac (rv 1) (ra1 (rv 2)))) (ra1 (rv 4)))))))))
theorem wG:RR Y true k .l_within (jC (F k)):=rz T fun X Y _ _ _ B hu n=>(ah (bf (rv 0))
  (ah (zf (DM rfl (n .reversed) rfl (n .range) (ra1 (zl (n .len) (rv 1)))) bo (ah (bf oO)
  (ah (aQ (rte hu (aL (aS (rv 3) (aJ (rv 5) ag)) ag) ag) (ay (kB (rv 6) (aB (rv 2) ag) ag)) aG)
  (ah (kB (rv 6) (aB (rv 1) (rv 5)) (rv 4))
  (ah (bf (qc (rv 6)))
  (ay (aQ (RW.rt (pX (rte hu (aL (aS (rv 3) ag) ag) ag) (ml (rte hu (aL (aS (rv 3) ag) (zl (n .len) (rv 1))) (rv 5))))) (ay (bf (aB (aZ (ac (aZ (ra1 (cU (bT (aB (rv 1) (rv 5)) ag cT)))) (ac rst (ac ag (ra1 gC))))) (aL (aS (rv 3) ag) ag)))) aG)))))))
  (zr (rv 4))))
theorem DV:RR Y true k .l_led (mY (F k)):=rz T fun X Y _ _ _ B hu n=>(ah (zf (iP (rv 1)) bo (ah (aQ (RW.rt (uy (cZ (bZ (zis (n .isinstance) (n .dict) (rv 0)))) (pW (bS (gU hu) (by with_unfolding_all rfl) (rv 2) (zt (Ek rfl) (n .list) (ra1 (rv 0))))))) (zr (aZ gh)) aG)
  (ay (bf (aB (rv 0) (rv 2))))))
  (zr (aZ (ra1 (rv 0)))))
theorem qV:RR Y true k .l_no_values (gz (F k)):=rz T fun X Y _ _ _ B hu n=>(ah (bf (qc (zt (yw rfl) (n .dict) (ra1 (kE (M:= ["_law_letter"]) (dO.of (by kernel_rfl)) (iP rst) (fun _ _=>jt) (fun _ _=>(aq (ac (rv 0) (ra1 ag)))))))))
  (ah (bf (aZ (ac uF (ac (cU (bT (rv 0) ag (bT (rv 1) ag cT))) (ac (cU (bT (rv 1) ag cT)) (ac ig (ac (aZ (ra1 (rv 0))) (ac (cU (bT (rv 0) ig cT)) (ac (cU (bT (rv 0) (aq (ra1 ag)) cT)) (ra1 (cU (bT (rv 0) (cB rst ag) cT))))))))))))
  (ah (bf (aJ (rv 4) (aZ (ac (cU (bT (rv 0) (qa ag ag) cT)) (ac (cU (bT (rv 0) (cB (aZ (ra1 ag)) ag) cT)) (ac (cU (bT (rv 0) (cU (bT rst ag cT)) cT)) (ac (cU (bT (rv 0) (aZ (ra1 (aZ (ra1 (aZ (ra1 (aZ (ra1 (aZ (ra1 (aZ (ra1 ag)))))))))))) cT)) (ra1 (cU (bT (rv 0) (cU (bT ag ag cT)) cT))))))))))
  (zr (aB (aJ (rv 4) (aZ (ac (cU (bT (rv 0) (rv 3) cT)) (ra1 (rv 0))))) (aL (rv 2) ag))))))
theorem uK:RR Y true k .l_cell_at (gG (F k)):=rz T fun X Y _ _ _ B hu n=>(ah (aQ (bS Ac (bP _) (rv 1) (zl (n .len) (rv 0))) (zr (aB (rv 0) (rv 1))) aG)
  (zr ag))
theorem He:RR Y true k .l_is (nQ (F k)):=rz T fun X Y _ _ _ B hu n=>(ah (aQ (RW.rt (uy (cZ (bZ (zis (n .isinstance) (n .tuple) (rv 0)))) (pW (bS (BP hu) (bP _) (zl (n .len) (rv 0)) (zl (n .len) (rv 1)))))) (zr gC) aG)
  (zr (zb (JG rfl) (n .all) (ra1 (uG (M:= ["_law_one","_law_other"]) (dO.of (by kernel_rfl)) (Bq rfl (n .zip) (ac (rv 0) (ra1 (rv 1)))) (fun _ _=>jt) (fun _ _=>(ii (zis (n .isinstance) (n .str) (rv 0)) (lJ (req hu (rv 0) (rv 1))))))))))
theorem zM:RR Y true k .written (ji (F k) (X_ k)):=rz T fun X Y _ _ _ B hu n=>(ah (bf (aB (rv 0) (wE ag)))
  (ah (cr (zc B .need_values (ac (aB (rv 2) ag) (ra1 (rv 1)))))
  (ah (bf (zk B .Writer___init__ (ra1 (rv 0))))
  (ah (tw (lw Y) (zo B .Writer_write_nodes (rv 3) (ac (aB (rv 2) ag) (ra1 (aq (ac (zc B .references_to (ra1 (rv 1))) (ra1 ig)))))) (fun _=>(zr (zoH B .Pen_outcome_refused (fj (cA Y) rfl (rv 3)) (ra1 (FX (rO Y) (rv 4)))))) rfl rfl rfl Y.mc_Refused)
  (zr (zo0 B .Pen_outcome_written (fj (cA Y) rfl (rv 3))))))))
theorem zN:RR Y true k .l_value (bv (F k) (L k)):=rz T fun X Y _ _ _ B hu n=>(ah (bf (zd B .l_cell (ac (rv 0) (ra1 (rv 1)))))
  (ah (aQ (RW.rt (pX (bZ (rv 3)) (ml (rte hu (aL (aS (rv 4) ag) ag) ag)))) (zr (aB (aZ (ac ag (ac rst (ac gC (ac (aZ gh) (ac uF (ac rst (ac (aZ (ra1 rst)) (ac ag (ac ag (ra1 (wE ag)))))))))))) (aL (aS (rv 4) ag) ag))) aG)
  (ah (aQ (rte hu (aB (rv 2) ag) rst) (zr (aB (aZ (ac (ia (aL (rv 4) ag) ag) (ac (ia ag (aL (rv 4) ag)) (ac (aL (cB (rv 4) (qa ag ag)) (qa ag ag)) (ac (ia (ia (qa ag ag) ag) (aL (rv 4) ag)) (ra1 ag)))))) (aL (aS (rv 4) ag) ag))) aG)
  (ah (aQ (rte hu (aB (rv 2) ag) rst) (zr (req hu (aL (aS (rv 4) ag) ag) ag)) aG)
  (ah (aQ (rte hu (aB (rv 2) ag) rst) (zr (kE (M:= ["_law_k","_law_cells","_law_spot","_law_odd","_law_kind"]) (dO.of (by kernel_rfl)) (dC rfl (n .range) (ra1 (aB (aZ (ac ag (ac ag (ac ag (ac ag (ra1 ag)))))) (aL (aS (rv 4) ag) ag)))) (fun _ _=>jt) (fun _ _=>(zd B .l_value (ac (rv 1) (ac (rv 2) (ac (aB (rv 4) ag) (ra1 (rv 3))))))))) aG)
  (ah (aQ (rte hu (aB (rv 2) ag) rst) (ah (bf (zt (yw rfl) (n .dict) (ra1 (uG (M:= ["_law_name","_law_own","_law_cells","_law_spot","_law_odd"]) (dO.of (by kernel_rfl)) (iP (aB (rv 2) ag)) (fun _ _=>jt) (fun _ _=>(aq (ac (rv 0) (ra1 (zd B .l_value (ac (rv 2) (ac (rv 3) (ac (rv 1) (ra1 (rv 4))))))))))))))
  (ah (aQ (RW.rt (pX (bZ (rv 3)) (ml (rte hu (aL (aS (rv 4) ag) ag) ag)))) (ay (cr (Hb (rv 5) (aB (aB (aB (rv 2) ag) ag) ag)))) aG)
  (zr (qc (rv 5))))) aG)
  (ah (bf (aB (aZ (ac ag (ra1 (ia ag (aL (rv 4) ag))))) (zt qu (n .int) (ra1 (req hu (aB (rv 2) ag) rst)))))
  (ah (bf (aB (aZ (ac (aL (rv 4) ag) (ac (aL (rv 4) ag) (ra1 (rv 6))))) (aJ (zt qu (n .int) (ra1 (req hu (aL (aS (rv 4) ag) ag) ag))) (zt qu (n .int) (ra1 (req hu (aL (aS (rv 4) ag) ag) ag))))))
  (ah (aQ (rte hu (aB (rv 2) ag) rst) (zr (iF hH PySem.F.plainAttrs_str PySem.F.slot_str_join PySem.F.type_str_join gq rst (ra1 (kE (M:= ["_law_k","_law_n"]) (dO.of (by kernel_rfl)) (dC rfl (n .range) (ra1 (rv 7))) (fun _ _=>jt) (fun _ _=>(aB (zc0 B .l_signs) (aL (aJ (aS (rv 1) ag) (cB (rv 0) (aJ ag (aL (aS (rv 1) ag) ag)))) ag))))))) aG)
  (ah (bf rst)
  (zr (iF hH PySem.F.plainAttrs_str PySem.F.slot_str_join PySem.F.type_str_join gq rst (ra1 (kE (M:= ["_law_k","_law_some","_law_n"]) (dO.of (by kernel_rfl)) (dC rfl (n .range) (ra1 (zb (JC rfl) (n .max) (ac ag (ra1 (rv 7)))))) (fun _ _=>jt) (fun _ _=>(aB (rv 1) (aL (aJ (aS (rv 2) ag) (cB (rv 0) (aJ ag (aL (aS (rv 2) ag) ag)))) ag)))))))))))))))))
theorem Bx:RR Y true k .way_of (dA (F k)):=rz T fun X Y _ _ _ B hu n=>(ah (aQ (bS (uU hu) (bP _) (rv 0) rst) (zr (jP (Dn Y) rfl)) aG)
  (ah (aQ (bS (uU hu) (bP _) (rv 0) rst) (zr (jP (zn Y) rfl)) aG)
  (ah (aQ (bS (uU hu) (bP _) (rv 0) rst) (zr (jP (zm Y) rfl)) aG)
  (ah (aQ (bS (uU hu) (bP _) (rv 0) rst) (zr (jP (AL Y) rfl)) aG)
  (ah (aQ (bS (uU hu) (bP _) (rv 0) rst) (zr (jP (Do Y) rfl)) aG)
  (ay iZ))))))
theorem uL:RR Y true k .Word_fits (eO (F k)):=rz T fun X Y _ _ _ B hu n=>(zr (ii (zc B .is_text (ac (rv 1) (ra1 (glI Y.g_MOST_WORD_SIGNS)))) (ii (iQ (BP hu) (bP _) (rv 1) rst) (lJ (zc B .is_made_of (ac (rv 1) (ra1 (glS Y.g_WORD_SIGNS))))))))
theorem qY:RR Y true k .Number_fits (bA (F k)):=rz T fun X Y _ _ _ B hu n=>(zr (ii (zis (n .isinstance) (n .int) (rv 1)) (ii (Hc (zis (n .isinstance) (n .bool) (rv 1))) (lJ (zc B .is_short_number (ra1 (rv 1)))))))
theorem qX:RR Y true k .Quoted_fits (gA (F k)):=rz T fun X Y _ _ _ B hu n=>(zr (zc B .is_text (ac (rv 1) (ra1 (glI Y.g_MOST_SIGNS)))))
theorem tE:RR Y true k .Plain_fits (gY (F k)):=rz T fun X Y _ _ _ B hu n=>(zr (zc B .is_text (ac (rv 1) (ra1 (glI Y.g_MOST_SIGNS)))))
theorem uN:RR Y true k .Line_fits (iN (F k)):=rz T fun X Y _ _ _ B hu n=>(zr (zc B .is_text (ac (rv 1) (ra1 (glI Y.g_MOST_SIGNS)))))
theorem uM:RR Y true k .Way_coded (iM (F k)):=rz T fun X Y _ _ _ B hu n=>(ah (aQ (cZ (bZ (iE (oV B) (rv 0) (ra1 (rv 1))))) (ay iZ) aG)
  (zr (iE (wh B) (rv 0) (ra1 (rv 1)))))
theorem qW:RR Y true k .l_long_book (fC (F k)):=rz T fun X Y _ _ _ B hu n=>(ah (bf (aB (aZ (ac ag (ra1 ag))) (aL (rv 0) ag)))
  (ah (bf (aJ (ia ag (cB (rv 1) (aJ ag (cB (aJ ag (aL (rv 0) ag)) (rv 1))))) (aL (aS (rv 0) ag) ag)))
  (ah (bf (aq (ra1 (aq (ac rst (ac (aq (ra1 rst)) (ra1 rst)))))))
  (ah (aQ (rte hu (aL (rv 0) ag) ag) (ay (bf (aq (ra1 (aq (ac rst (ac (aq (ra1 rst)) (ac (rv 3) (ra1 (aq gh)))))))))) aG)
  (ah (bf (aq (ac rst (ac rst (ac (aq (ra1 rst)) (ac (rv 3) (ra1 rst)))))))
  (ah (bf (aZ gh))
  (ah (aQ (rte hu (aL (aS (rv 0) ag) ag) ag) (ah (bf (aZ (ra1 (aq (ac rst (ac rst (ac (aq (ac rst (ra1 rst))) (ac ig (ra1 (aq (ra1 (rv 4))))))))))))
  (ay (bf (aq (ac rst (ac rst (ac (aq (ac (aq (ra1 rst)) (ra1 (aq (ra1 rst))))) (ac ig (ra1 ig))))))))) aG)
  (ah (aQ (rte hu (aL (aS (rv 0) ag) ag) ag) (ah (bf (aZ (ra1 (aq (ac rst (ac rst (ac (aq (ra1 rst)) (ac ag (ra1 (aq (ra1 (aq (ac rst (ac rst (ac (aq (ra1 rst)) (ac (aq (ra1 (aq (ac rst (ra1 (aq (ra1 (aq (ra1 rst))))))))) (ra1 rst)))))))))))))))))
  (ay (bf (aq (ac rst (ac rst (ac (aq (ra1 (aq (ra1 rst)))) (ac (aq (ra1 rst)) (ra1 (rv 3)))))))))) aG)
  (ah (bf (aq (ac rst (ac rst (ac (aq (ra1 rst)) (ac (aq (ra1 (rv 4))) (ra1 rst)))))))
  (ah (bf (aB (aZ (ac (aq (ac rst (ra1 rst))) (ra1 (aq (ac rst (ac (aq (ac rst (ra1 rst))) (ra1 rst))))))) (aL (aS (rv 0) ag) ag)))
  (ah (bf (aJ (cB (aZ (ra1 rst)) (rv 2)) (aZ (ra1 rst))))
  (ah (zf (dC rfl (n .range) (ra1 (rv 1))) bo (ah (bf (aJ (rv 8) (aZ (ac (cB rst (zt qu (n .int) (ra1 (iQ uT (bP _) (rv 9) ag)))) (ra1 rst)))))
  (ay (zf (dC rfl (n .range) (ra1 (rv 1))) bo (ay (bf (aJ (aJ (aJ (rv 8) (aZ (ra1 (cB rst (zt qu (n .int) (ra1 (iQ uT (bP _) (rv 10) ag))))))) (cB (aZ (ra1 rst)) (aL (rv 0) ag))) (aZ (ra1 rst)))))))))
  (ah (bf (aJ (DR (aq (ra1 (aq (ac rst (ac (aq (ra1 rst)) (ra1 rst)))))) (rv 2)) (aq (ac (rv 6) (ra1 (rv 7))))))
  (ah (bf (cU (bT rst (cB (aZ (ra1 rst)) (rv 1)) (bT rst rst (bT rst gC cT)))))
  (zr (aq (ac (zt yu (n .tuple) (ra1 (aJ (rv 5) (aZ (ra1 (aq (ac rst (ac rst (ac (aq (ac rst (ac rst (ra1 rst)))) (ac ig (ra1 (rv 11)))))))))))) (ac (rv 12) (ra1 (rv 8))))))))))))))))))))
theorem qU:RR Y true k .need_values (dH (F k)):=rz T fun X Y _ _ _ B hu n=>(ah (aQ (cZ (bZ (zis (n .isinstance) (n .dict) (rv 1)))) (ay iZ) aG)
  (ah (zf (kD (rv 0)) bo (ay (aQ (bS (gU hu) (by with_unfolding_all rfl) (rv 2) (rv 1)) (ay iZ) aG)))
  (ay (zf (kD (rv 1)) bo (ah (aQ (bS (gU hu) (by with_unfolding_all rfl) (rv 2) (rv 0)) (ay iZ) aG)
  (ay (aQ (cZ (bZ (zc B .is_value (ra1 (aB (rv 1) (rv 2)))))) (ay iZ) aG)))))))
theorem ot:RR Y true k .references_to (cI (F k)):=rz T fun X Y _ _ _ B hu n=>(ah (bf oO)
  (ah (zf (kD (rv 0)) bo (ay (kB (rv 1) (rv 2) (aq (ra1 (aB (rv 0) (rv 2)))))))
  (zr (qc (rv 1)))))
theorem zQ:RR Y true k .l_signs (kK (F k)):=rz T fun X Y _ _ _ B hu n=>(ah (bf rst)
  (zr (aJ (rv 0) rst)))
theorem zS:RR Y true k .is_text (bU (F k)):=rz T fun X Y _ _ _ B hu n=>(zr (ii (zis (n .isinstance) (n .str) (rv 0)) (ii (iQ El (bP _) (zl (n .len) (rv 0)) (rv 1)) (lJ (zc B .is_made_of (ac (rv 0) (ra1 (glS Y.g_SIGNS))))))))
theorem tD:RR Y true k .is_made_of (fZ (F k)):=rz T fun X Y _ _ _ B hu n=>(ah (zf (iP (rv 0)) bo (ay (aQ (bS (gU hu) (by with_unfolding_all rfl) (rv 2) (rv 1)) (zr gC) aG)))
  (zr gC))
theorem mz:RR Y true k .is_short_number (cj (F k)):=rz T fun X Y _ _ _ B hu n=>(zr (iQ Ac (bP _) (zb JI (n .abs) (ra1 (rv 0))) (qa ag ag)))
theorem ou:RR Y true k .Word_spelling (fK (F k)):=rz T fun X Y _ _ _ B hu n=>(zr (rv 1))
theorem mB:RR Y true k .Number_spelling (dX (F k)):=rz T fun X Y _ _ _ B hu n=>(zr (zt JB (n .str) (ra1 (rv 1))))
theorem mA:RR Y true k .Quoted_spelling (dU (F k)):=rz T fun X Y _ _ _ B hu n=>(zr (aJ (aJ rst (zc B .escaped (ac (rv 1) (ac rst (ac (glS Y.g_QUOTED_SIGNS) (ra1 (glS Y.g_QUOTED_LETTERS))))))) rst))
theorem nt:RR Y true k .Plain_spelling (eV (F k)):=rz T fun X Y _ _ _ B hu n=>(zr (zc B .escaped (ac (rv 1) (ac rst (ac (glS Y.g_PLAIN_SIGNS) (ra1 (glS Y.g_PLAIN_LETTERS)))))))
theorem oy:RR Y true k .Line_spelling (fL (F k)):=rz T fun X Y _ _ _ B hu n=>(zr (zc B .escaped (ac (rv 1) (ac rst (ac (glS Y.g_LINE_SIGNS) (ra1 (glS Y.g_LINE_LETTERS)))))))
theorem wH:RR Y true k .is_value (jD (F k)):=rz T fun X Y _ _ _ B hu n=>(zr (zc B .is_value_within (ac (rv 0) (ra1 (glI Y.g_MOST_DEPTH)))))
theorem zU:RR Y true k .escaped (kL (F k)):=rz T fun X Y _ _ _ B hu n=>(ah (bf (oP gh))
  (ah (zf (iP (rv 0)) bo (ah (bf (iF hH PySem.F.plainAttrs_str PySem.F.slot_str_find PySem.F.type_str_find ED (rv 2) (ra1 (rv 5))))
  (ay (cr (iF wl PySem.F.plainAttrs_list PySem.F.slot_list_append PySem.F.type_list_append nG (rv 4) (ra1 (jQ (bS Ac (bP _) (rv 6) ag) (rv 5) (aJ (rv 1) (aB (rv 3) (rv 6))))))))))
  (zr (iF hH PySem.F.plainAttrs_str PySem.F.slot_str_join PySem.F.type_str_join gq rst (ra1 (rv 4))))))
theorem my:RR Y true k .is_value_within (aR (F k)):=rz T fun X Y _ _ _ B hu n=>(ah (aQ (bS Ac (bP _) (rv 1) ag) (zr gC) aG)
  (ah (aQ (bZ (zis (n .isinstance) (n .bool) (rv 0))) (zr gC) aG)
  (ah (aQ (bZ (zis (n .isinstance) (n .int) (rv 0))) (zr (zc B .is_short_number (ra1 (rv 0)))) aG)
  (ah (aQ (bZ (zis (n .isinstance) (n .list) (rv 0))) (zr (ii (iQ El (bP _) (zl (n .len) (rv 0)) (glI Y.g_MOST_THINGS)) (lJ (zc B .are_values_within (ac (rv 0) (ra1 (ia (rv 1) ag))))))) aG)
  (ah (aQ (bZ (zis (n .isinstance) (n .dict) (rv 0))) (zr (zc B .is_record_within (ac (rv 0) (ra1 (rv 1))))) aG)
  (zr (zc B .is_text (ac (rv 0) (ra1 (glI Y.g_MOST_SIGNS))))))))))
theorem uI:RR Y true k .stood_for (iK (F k)):=rz T fun X Y _ _ _ B hu n=>(zr (aJ (aB (aB (rv 1) ag) (aB (rv 0) ag)) (fP (rv 0) (iC ag) iD)))
theorem qd:RR Y true k .scope_in_use (dg (F k) (X_ k)):=rz T fun X Y _ _ _ B hu n=>(ah (bf (jQ (bS JE (bP _) (aB (rv 0) ag) ig) ig (aq (ac (aB (rv 0) ag) (ac (aB (rv 0) ag) (ra1 (rv 2)))))))
  (zr (aq (ac (qc (zh B .with_handed_in (ac oO (ac (aB (rv 1) ag) (ac (aB (rv 0) ag) (ra1 (rv 2))))))) (ra1 (rv 3))))))
theorem or:RR Y true k .scope_in_body (fJ (F k) (X_ k)):=rz T fun X Y _ _ _ B hu n=>(ah (bf (aB (rv 1) ag))
  (ah (bf (aB (rv 2) ag))
  (zr (aq (ac (qc (zh B .with_handed_in (ac (zt yx (n .dict) (ra1 (aB (rv 3) ag))) (ac (aB (rv 2) ag) (ac (rv 0) (ra1 (rv 1))))))) (ra1 (aB (rv 3) ag)))))))
theorem lK:RR Y true k .is_record_within (ce (F k)):=rz T fun X Y _ _ _ B hu n=>(ah (aQ (bS uT (bP _) (zl (n .len) (rv 0)) (glI Y.g_MOST_FIELDS)) (zr gC) aG)
  (ah (zf (kD (rv 0)) bo (ay (aQ (cZ (bZ (zc B .is_name (ra1 (rv 2))))) (zr gC) aG)))
  (zr (zc B .are_values_within (ac (DQ rfl (n .list) (rv 0)) (ra1 (ia (rv 1) ag)))))))
theorem kR:RR Y true k .are_values_within (cq (F k)):=rz T fun X Y _ _ _ B hu n=>(ah (zf (iP (rv 0)) bo (ay (aQ (cZ (bZ (zc B .is_value_within (ac (rv 2) (ra1 (rv 1)))))) (zr gC) aG)))
  (zr gC))
theorem oq:RR Y true k .scope_in_loop (fH (F k)):=rz T fun X Y _ _ _ B hu n=>(ah (bf (zt yx (n .dict) (ra1 (aB (rv 2) ag))))
  (ah (kB (rv 3) (rv 0) (rv 1))
  (zr (aq (ac (qc (rv 3)) (ra1 (aB (rv 2) ag)))))))
theorem zT:RR Y true k .is_name (eU (F k)):=rz T fun X Y _ _ _ B hu n=>(ah (aQ (RW.rt (uy (cZ (bZ (zis (n .isinstance) (n .str) (rv 0)))) (pW (cZ (Bk El El ag (zl (n .len) (rv 0)) (glI Y.g_MOST_LETTERS)))))) (zr gC) aG)
  (zr (ii (zc B .is_made_of (ac (rv 0) (ra1 (glS Y.g_SMALL_LETTERS)))) (lJ (iQ (gU hu) (by with_unfolding_all rfl) (rv 0) (glT Y.g_COMMAND_WORDS))))))
theorem DX:RR Y true k .found (jE (F k)):=rz T fun X Y _ _ _ B hu n=>(ah (bf (rv 0))
  (ah (zf (iP (rv 1)) bo (ah (aQ (RW.rt (uy (cZ (bZ (zis (n .isinstance) (n .dict) (rv 2)))) (pW (bS (gU hu) (by with_unfolding_all rfl) (rv 3) (rv 2))))) (zr (aq gh)) aG)
  (ay (bf (aB (rv 2) (rv 3))))))
  (zr (aq (ra1 (rv 2))))))
theorem De:Tb Y (k+1):=by
 refine ⟨fun f=>?_,fun f=>?_,fun f=>?_,fun f h=>?_⟩
 ·cases f with
  | law=>exact fp (Jz T)
  | l_names=>exact fp (zR T)
  | l_node=>exact fp (By T)
  | l_due=>exact fp (DW T)
  | l_refused=>exact fp (uJ T)
  | l_long=>exact fp (Bz T)
  | l_within=>exact fp (wG T)
  | l_led=>exact fp (DV T)
  | l_no_values=>exact fp (qV T)
  | l_cell_at=>exact fp (uK T)
  | l_is=>exact fp (He T)
  | written=>exact fp (zM T)
  | way_of=>exact fp (Bx T)
  | Word_fits=>exact fp (uL T)
  | Number_fits=>exact fp (qY T)
  | Quoted_fits=>exact fp (qX T)
  | Plain_fits=>exact fp (tE T)
  | Line_fits=>exact fp (uN T)
  | Way_coded=>exact fp (uM T)
  | l_long_book=>exact fp (qW T)
  | need_values=>exact fp (qU T)
  | references_to=>exact fp (ot T)
  | l_signs=>exact fp (zQ T)
  | is_text=>exact fp (zS T)
  | is_made_of=>exact fp (tD T)
  | is_short_number=>exact fp (mz T)
  | Word_spelling=>exact fp (ou T)
  | Number_spelling=>exact fp (mB T)
  | Quoted_spelling=>exact fp (mA T)
  | Plain_spelling=>exact fp (nt T)
  | Line_spelling=>exact fp (oy T)
  | is_value=>exact fp (wH T)
  | escaped=>exact fp (zU T)
  | is_value_within=>exact fp (my T)
  | stood_for=>exact fp (uI T)
  | scope_in_use=>exact fp (qd T)
  | scope_in_body=>exact fp (or T)
  | is_record_within=>exact fp (lK T)
  | are_values_within=>exact fp (kR T)
  | scope_in_loop=>exact fp (oq T)
  | is_name=>exact fp (zT T)
  | found=>exact fp (DX T)
  | _=>exact .bad
 ·cases f with
  | l_cell=>exact fl (BA T)
  | l_thing=>exact fl (zO T)
  | l_value=>exact fl (zN T)
  | _=>exact .bad
 ·cases f with
  | written=>exact fg (ww T)
  | need_values=>exact fg (pV T)
  | Writer___init__=>exact fi (lG T)
  | Pen_outcome_written=>exact fh (jr T)
  | Writer_write_nodes=>exact fh (jK T)
  | Pen_outcome_refused=>exact fh (fV T)
  | Pen___init__=>exact fi (oj T)
  | Writer_write_node=>exact fh (jO T)
  | Pen_write=>exact fh (tq T)
  | Pen_put=>exact fh (wx T)
  | Writer_write_rounds=>exact fh (jq T)
  | Pen_truth_wanted=>exact fh (kP T)
  | Pen_thing_wanted=>exact fh (kQ T)
  | Pen_list_wanted=>exact fh (lH T)
  | Pen_begin_round=>exact fh (lI T)
  | with_handed_in=>exact fh (mj T)
  | Pen_count_one=>exact fh (nr T)
  | _=>exact .bad
 ·cases f with
  | Pen_outcome_refused=>exact fh (fV T)
  | _=>cases h
end
theorem nR{S:SC}(Y:Sys S):∀ k,Tb Y k
 | 0=>⟨fun _=>.bad,fun _=>.bad,fun _=>.bad,fun _ _=>.bad⟩
 | k+1=>De (nR Y k)
def adP(K:W.Frag)(C:Nat→Addr):Fn→Addr→Prop
 | .Word_fits,a=>bY K (C 0) "fits" a
 | .Number_fits,a=>bY K (C 1) "fits" a
 | .Quoted_fits,a=>bY K (C 2) "fits" a
 | .Plain_fits,a=>bY K (C 3) "fits" a
 | .Line_fits,a=>bY K (C 4) "fits" a
 | .Way_coded,a=>W.findIn K (.ref (C 0)) "coded"=some (some (.ref a))∧W.findIn K (.ref (C 1)) "coded"=some (some (.ref a))∧W.findIn K (.ref (C 2)) "coded"=some (some (.ref a))∧W.findIn K (.ref (C 3)) "coded"=some (some (.ref a))∧W.findIn K (.ref (C 4)) "coded"=some (some (.ref a))∧W.isFn K (.ref a)=true∧W.keepIn K (.ref a)=true
 | .Writer___init__,a=>bY K (C 601) "__init__" a
 | .Pen_outcome_written,a=>bY K (C 600) "outcome_written" a
 | .Writer_write_nodes,a=>bY K (C 601) "write_nodes" a
 | .Pen_outcome_refused,a=>bY K (C 600) "outcome_refused" a
 | .Word_spelling,a=>bY K (C 0) "spelling" a
 | .Number_spelling,a=>bY K (C 1) "spelling" a
 | .Quoted_spelling,a=>bY K (C 2) "spelling" a
 | .Plain_spelling,a=>bY K (C 3) "spelling" a
 | .Line_spelling,a=>bY K (C 4) "spelling" a
 | .Pen___init__,a=>bY K (C 600) "__init__" a
 | .Writer_write_node,a=>bY K (C 601) "write_node" a
 | .Pen_write,a=>bY K (C 600) "write" a
 | .Pen_put,a=>bY K (C 600) "put" a
 | .Writer_write_rounds,a=>bY K (C 601) "write_rounds" a
 | .Pen_truth_wanted,a=>bY K (C 600) "truth_wanted" a
 | .Pen_thing_wanted,a=>bY K (C 600) "thing_wanted" a
 | .Refused___init__,a=>bY K (C 500) "__init__" a
 | .Pen_list_wanted,a=>bY K (C 600) "list_wanted" a
 | .Pen_begin_round,a=>bY K (C 600) "begin_round" a
 | .Pen_count_one,a=>bY K (C 600) "count_one" a
 | f,a=>W.nsIn K mainGlobals (lP f)=some (some (.ref a))
theorem us0{us:List Value}(h:us.length=0):us= []:=List.eq_nil_of_length_eq_zero h
theorem usS{n:Nat}{us:List Value}(h:us.length=n+1):∃ a r,us=a::r∧r.length=n:=by
 cases us with
 | nil=>cases h
 | cons a r=>exact ⟨a,r,rfl,by simpa using h⟩
theorem us1{us:List Value}(h:us.length=1):∃ a,us= [a]:=by
 obtain ⟨a,r,rfl,z⟩:=usS h
 obtain rfl:=us0 z
 exact ⟨a,rfl⟩
theorem us2{us:List Value}(h:us.length=2):∃ a b,us= [a,b]:=by
 obtain ⟨a,r,rfl,z⟩:=usS h
 obtain ⟨b,rfl⟩:=us1 z
 exact ⟨a,b,rfl⟩
theorem us3{us:List Value}(h:us.length=3):∃ a b c,us= [a,b,c]:=by
 obtain ⟨a,r,rfl,z⟩:=usS h
 obtain ⟨b,c,rfl⟩:=us2 z
 exact ⟨a,b,c,rfl⟩
theorem us4{us:List Value}(h:us.length=4):∃ a b c d,us= [a,b,c,d]:=by
 obtain ⟨a,r,rfl,z⟩:=usS h
 obtain ⟨b,c,d,rfl⟩:=us3 z
 exact ⟨a,b,c,d,rfl⟩
theorem us5{us:List Value}(h:us.length=5):∃ a b c d e,us= [a,b,c,d,e]:=by
 obtain ⟨a,r,rfl,z⟩:=usS h
 obtain ⟨b,c,d,e,rfl⟩:=us4 z
 exact ⟨a,b,c,d,e,rfl⟩
theorem us6{us:List Value}(h:us.length=6):∃ a b c d e f,us= [a,b,c,d,e,f]:=by
 obtain ⟨a,r,rfl,z⟩:=usS h
 obtain ⟨b,c,d,e,f,rfl⟩:=us5 z
 exact ⟨a,b,c,d,e,f,rfl⟩
theorem us7{us:List Value}(h:us.length=7):∃ a b c d e f g,us= [a,b,c,d,e,f,g]:=by
 obtain ⟨a,r,rfl,z⟩:=usS h
 obtain ⟨b,c,d,e,f,g,rfl⟩:=us6 z
 exact ⟨a,b,c,d,e,f,g,rfl⟩
theorem fq{K:W.Frag}{Ad:Addr→Prop}{nm ql:Str}{st:Stmt}{ps:List Str}{f:Addr}{od an:Option Addr}{sl:Array (Option Value)}{oc kV dc pm cd ct:Value}(a:Ad f)(l:K.lookup f=some ⟨oc,od,.func (W.fnOf nm ql (tX st) (gX st) (aV st) .none kV dc pm an cd ct),sl⟩)(c:W.codeIn K cd ql=true)(k:W.keepIn K (.ref f)=true)(b:∀ (kV doc pm:Value) (an:Option Addr) (cdv ct:Value) (us:List Value),us.length=ps.length→bindArgs (W.fnOf nm ql (tX st) (gX st) (aV st) .none kV doc pm an cdv ct) ⟨us,[]⟩=pure (ps.zip us)):∃ a fd,Ad a∧Fun K nm ql st a fd∧iO K fd ps []:=⟨f,_,a,⟨⟨_,_,_,_,_,_,_,_,_,rfl,l,c⟩,k⟩,fun s us _ h=>by rw [List.append_nil] at h ⊢;exact .of_eq (b _ _ _ _ _ _ us h)⟩
theorem IU{l:W.OpenLaw}{w:World}{K:W.Frag}{h:Heap}{mg:Str→Option Value}{fa:Addr}(X:K.In h)(G:h.Ns mainGlobals mg)(hfa:mg "law"=some (.ref fa))
  {C_Word:Addr}
  {C_Number:Addr}
  {C_Quoted:Addr}
  {C_Plain:Addr}
  {C_Line:Addr}
  {C_Pen:Addr}
  {C_Writer:Addr}
  {C_FormError:Addr}
  {C_BadWay:Addr}
  {C_BadValue:Addr}
  {C_BadValues:Addr}
  {C_TooMany:Addr}
  {C_Clash:Addr}
  {C_BadText:Addr}
  {C_BadName:Addr}
  {C_Unclear:Addr}
  {C_NoFill:Addr}
  {C_Refused:Addr}
  {t_LINE_LETTERS:Tok}
  {t_LINE_SIGNS:Tok}
  {t_MOST_COUNTED:Tok}
  {t_MOST_DEPTH:Tok}
  {t_MOST_FIELDS:Tok}
  {t_MOST_LETTERS:Tok}
  {t_MOST_SIGNS:Tok}
  {t_MOST_THINGS:Tok}
  {t_MOST_WORD_SIGNS:Tok}
  {t_PLAIN_LETTERS:Tok}
  {t_PLAIN_SIGNS:Tok}
  {t_QUOTED_LETTERS:Tok}
  {t_QUOTED_SIGNS:Tok}
  {t_SIGNS:Tok}
  {t_SMALL_LETTERS:Tok}
  {t_WORD_SIGNS:Tok}
  {A_COMMAND_WORDS:Addr} {n_COMMAND_WORDS:Nat} {t_COMMAND_WORDS_0:Tok} {t_COMMAND_WORDS_1:Tok} {t_COMMAND_WORDS_2:Tok} {t_COMMAND_WORDS_3:Tok} {t_COMMAND_WORDS_4:Tok} {t_COMMAND_WORDS_5:Tok} {t_COMMAND_WORDS_6:Tok} {t_COMMAND_WORDS_7:Tok} {t_COMMAND_WORDS_8:Tok} {t_COMMAND_WORDS_9:Tok} {t_COMMAND_WORDS_10:Tok}
  (aC_Word:W.nsIn K mainGlobals "Word"=some (some (.ref C_Word)))
  (cl_Word:Cls K C_Word)
  (mk_Word:W.makesIn K C_Word=true)
  (in_Word:W.findIn K (.ref C_Word) "__init__"=some (some (.builtin "object.__init__")))
  (kp_Word:W.keepIn K (.ref C_Word)=true)
  (aC_Number:W.nsIn K mainGlobals "Number"=some (some (.ref C_Number)))
  (cl_Number:Cls K C_Number)
  (mk_Number:W.makesIn K C_Number=true)
  (in_Number:W.findIn K (.ref C_Number) "__init__"=some (some (.builtin "object.__init__")))
  (kp_Number:W.keepIn K (.ref C_Number)=true)
  (aC_Quoted:W.nsIn K mainGlobals "Quoted"=some (some (.ref C_Quoted)))
  (cl_Quoted:Cls K C_Quoted)
  (mk_Quoted:W.makesIn K C_Quoted=true)
  (in_Quoted:W.findIn K (.ref C_Quoted) "__init__"=some (some (.builtin "object.__init__")))
  (kp_Quoted:W.keepIn K (.ref C_Quoted)=true)
  (aC_Plain:W.nsIn K mainGlobals "Plain"=some (some (.ref C_Plain)))
  (cl_Plain:Cls K C_Plain)
  (mk_Plain:W.makesIn K C_Plain=true)
  (in_Plain:W.findIn K (.ref C_Plain) "__init__"=some (some (.builtin "object.__init__")))
  (kp_Plain:W.keepIn K (.ref C_Plain)=true)
  (aC_Line:W.nsIn K mainGlobals "Line"=some (some (.ref C_Line)))
  (cl_Line:Cls K C_Line)
  (mk_Line:W.makesIn K C_Line=true)
  (in_Line:W.findIn K (.ref C_Line) "__init__"=some (some (.builtin "object.__init__")))
  (kp_Line:W.keepIn K (.ref C_Line)=true)
  (aC_Pen:W.nsIn K mainGlobals "Pen"=some (some (.ref C_Pen)))
  (cl_Pen:Cls K C_Pen)
  (mk_Pen:W.makesIn K C_Pen=true)
  (kp_Pen:W.keepIn K (.ref C_Pen)=true)
  (na_Pen_parts:W.findIn K (.ref C_Pen) "parts"=some none)
  (na_Pen_counted:W.findIn K (.ref C_Pen) "counted"=some none)
  (aC_Writer:W.nsIn K mainGlobals "Writer"=some (some (.ref C_Writer)))
  (cl_Writer:Cls K C_Writer)
  (mk_Writer:W.makesIn K C_Writer=true)
  (kp_Writer:W.keepIn K (.ref C_Writer)=true)
  (na_Writer_pen:W.findIn K (.ref C_Writer) "pen"=some none)
  (na_Writer_pieces:W.findIn K (.ref C_Writer) "pieces"=some none)
  (aC_FormError:W.nsIn K mainGlobals "FormError"=some (some (.ref C_FormError)))
  (aC_BadWay:W.nsIn K mainGlobals "BadWay"=some (some (.ref C_BadWay)))
  (aC_BadValue:W.nsIn K mainGlobals "BadValue"=some (some (.ref C_BadValue)))
  (aC_BadValues:W.nsIn K mainGlobals "BadValues"=some (some (.ref C_BadValues)))
  (aC_TooMany:W.nsIn K mainGlobals "TooMany"=some (some (.ref C_TooMany)))
  (aC_Clash:W.nsIn K mainGlobals "Clash"=some (some (.ref C_Clash)))
  (aC_BadText:W.nsIn K mainGlobals "BadText"=some (some (.ref C_BadText)))
  (aC_BadName:W.nsIn K mainGlobals "BadName"=some (some (.ref C_BadName)))
  (aC_Unclear:W.nsIn K mainGlobals "Unclear"=some (some (.ref C_Unclear)))
  (aC_NoFill:W.nsIn K mainGlobals "NoFill"=some (some (.ref C_NoFill)))
  (aC_Refused:W.nsIn K mainGlobals "Refused"=some (some (.ref C_Refused)))
  (cg_:uj K)
  (kc_Word:kx K C_Word)
  (kc_Number:kx K C_Number)
  (kc_Quoted:kx K C_Quoted)
  (kc_Plain:kx K C_Plain)
  (kc_Line:kx K C_Line)
  (kc_BadValues:kx K C_BadValues)
  (kc_Refused:kx K C_Refused)
  (ki_BadValues_BadName:W.kitOne K (.ref C_BadValues) (.ref C_BadName)=some false)
  (ki_BadValues_BadText:W.kitOne K (.ref C_BadValues) (.ref C_BadText)=some false)
  (ki_BadValues_BadValue:W.kitOne K (.ref C_BadValues) (.ref C_BadValue)=some false)
  (ki_BadValues_BadValues:W.kitOne K (.ref C_BadValues) (.ref C_BadValues)=some true)
  (ki_BadValues_BadWay:W.kitOne K (.ref C_BadValues) (.ref C_BadWay)=some false)
  (ki_BadValues_Clash:W.kitOne K (.ref C_BadValues) (.ref C_Clash)=some false)
  (ki_BadValues_NoFill:W.kitOne K (.ref C_BadValues) (.ref C_NoFill)=some false)
  (ki_BadValues_TooMany:W.kitOne K (.ref C_BadValues) (.ref C_TooMany)=some false)
  (ki_BadValues_Unclear:W.kitOne K (.ref C_BadValues) (.ref C_Unclear)=some false)
  (ki_BadValues_ValueError:W.kitOne K (.ref C_BadValues) (.type "ValueError")=some true)
  (ki_Refused_BadName:W.kitOne K (.ref C_Refused) (.ref C_BadName)=some false)
  (ki_Refused_BadText:W.kitOne K (.ref C_Refused) (.ref C_BadText)=some false)
  (ki_Refused_BadValue:W.kitOne K (.ref C_Refused) (.ref C_BadValue)=some false)
  (ki_Refused_BadValues:W.kitOne K (.ref C_Refused) (.ref C_BadValues)=some false)
  (ki_Refused_BadWay:W.kitOne K (.ref C_Refused) (.ref C_BadWay)=some false)
  (ki_Refused_Clash:W.kitOne K (.ref C_Refused) (.ref C_Clash)=some false)
  (ki_Refused_NoFill:W.kitOne K (.ref C_Refused) (.ref C_NoFill)=some false)
  (ki_Refused_TooMany:W.kitOne K (.ref C_Refused) (.ref C_TooMany)=some false)
  (ki_Refused_Unclear:W.kitOne K (.ref C_Refused) (.ref C_Unclear)=some false)
  (ki_Refused_ValueError:W.kitOne K (.ref C_Refused) (.type "ValueError")=some false)
  (xc_BadValues:qN K C_BadValues)
  (xc_Refused:qN K C_Refused)
  (xr_BadValues:W.excIn K C_BadValues [.type "ValueError",.type "Exception",.type "BaseException",.type "object"] "ValueError.__new__"=true)
  (ex_BadValues_FormError:W.exmOne K (.ref C_BadValues) (.ref C_FormError)=some true)
  (ex_Refused_Refused:W.exmOne K (.ref C_Refused) (.ref C_Refused)=some true)
  (x1_Refused:oX K C_Refused [.type "Exception",.type "BaseException",.type "object"] "Exception.__new__"=true)
  (x3_Refused:W.keepIn K (.ref C_Refused)=true)
  (x4_Refused:GG K C_Refused=true)
  (x5_Refused:W.findIn K (.ref C_Refused) "__setattr__"=some (some (.builtin "object.__setattr__")))
  (x6_Refused:W.findIn K (.ref C_Refused) "word"=some none)
  (x7_Refused:W.hasDictIn K C_Refused=true)
  (hf:∀ f:Fn,∃ a fd,adP K (fun i=>match i with | 0=>C_Word | 1=>C_Number | 2=>C_Quoted | 3=>C_Plain | 4=>C_Line | 600=>C_Pen | 601=>C_Writer | 500=>C_Refused | _=>0) f a∧Fun K (lP f) (wI f) (qR f) a fd∧iO K fd (jR f) [])
  (g_LINE_LETTERS:W.nsIn K mainGlobals "LINE_LETTERS"=some (some (.str "~n" t_LINE_LETTERS)))
  (g_LINE_SIGNS:W.nsIn K mainGlobals "LINE_SIGNS"=some (some (.str "~\n" t_LINE_SIGNS)))
  (g_MOST_COUNTED:W.nsIn K mainGlobals "MOST_COUNTED"=some (some (.int 2000 t_MOST_COUNTED)))
  (g_MOST_DEPTH:W.nsIn K mainGlobals "MOST_DEPTH"=some (some (.int 6 t_MOST_DEPTH)))
  (g_MOST_FIELDS:W.nsIn K mainGlobals "MOST_FIELDS"=some (some (.int 8 t_MOST_FIELDS)))
  (g_MOST_LETTERS:W.nsIn K mainGlobals "MOST_LETTERS"=some (some (.int 8 t_MOST_LETTERS)))
  (g_MOST_SIGNS:W.nsIn K mainGlobals "MOST_SIGNS"=some (some (.int 400 t_MOST_SIGNS)))
  (g_MOST_THINGS:W.nsIn K mainGlobals "MOST_THINGS"=some (some (.int 40 t_MOST_THINGS)))
  (g_MOST_WORD_SIGNS:W.nsIn K mainGlobals "MOST_WORD_SIGNS"=some (some (.int 40 t_MOST_WORD_SIGNS)))
  (g_PLAIN_LETTERS:W.nsIn K mainGlobals "PLAIN_LETTERS"=some (some (.str "~lgabn" t_PLAIN_LETTERS)))
  (g_PLAIN_SIGNS:W.nsIn K mainGlobals "PLAIN_SIGNS"=some (some (.str "~<>&|\n" t_PLAIN_SIGNS)))
  (g_QUOTED_LETTERS:W.nsIn K mainGlobals "QUOTED_LETTERS"=some (some (.str "^qn" t_QUOTED_LETTERS)))
  (g_QUOTED_SIGNS:W.nsIn K mainGlobals "QUOTED_SIGNS"=some (some (.str "^\"\n" t_QUOTED_SIGNS)))
  (g_SIGNS:W.nsIn K mainGlobals "SIGNS"=some (some (.str "\n !\"#$&'()*+,-./0123456789:;<=>?@ABCDEFGHIJKLMNOPQRSTUVWXYZ[\\]^_`abcdefghijklmnopqrstuvwxyz{|}~" t_SIGNS)))
  (g_SMALL_LETTERS:W.nsIn K mainGlobals "SMALL_LETTERS"=some (some (.str "abcdefghijklmnopqrstuvwxyz" t_SMALL_LETTERS)))
  (g_WORD_SIGNS:W.nsIn K mainGlobals "WORD_SIGNS"=some (some (.str "0123456789ABCDEFGHIJKLMNOPQRSTUVWXYZabcdefghijklmnopqrstuvwxyz" t_WORD_SIGNS)))
  (g_COMMAND_WORDS:W.nsIn K mainGlobals "COMMAND_WORDS"=some (some (.ref A_COMMAND_WORDS)))
  (k_COMMAND_WORDS:K.lookup A_COMMAND_WORDS=some { cls:=.type "tuple",data:=.seq #[.str "as" t_COMMAND_WORDS_0,.str "between" t_COMMAND_WORDS_1,.str "body" t_COMMAND_WORDS_2,.str "else" t_COMMAND_WORDS_3,.str "end" t_COMMAND_WORDS_4,.str "for" t_COMMAND_WORDS_5,.str "if" t_COMMAND_WORDS_6,.str "in" t_COMMAND_WORDS_7,.str "piece" t_COMMAND_WORDS_8,.str "use" t_COMMAND_WORDS_9,.str "with" t_COMMAND_WORDS_10] n_COMMAND_WORDS })
  (hn:∀ i:Nt,W.nsIn K mainGlobals (Hn i)=some none):
  ∃ (fd:FuncData) (T:Nat→Option Addr),(∀ (s:Shared) (u:Value),BindsTo s fd ⟨[u],[]⟩ [("_law_script",u)])∧FnP ⟨l.prog,w,K,mg,h,T⟩ (dl 70) fa fd ["_law_script"] (F 70 .law):=by
 let Y:Sys ⟨l.prog,w,K,mg,h,fun i=>match i with | 0=>some C_Word | 1=>some C_Number | 2=>some C_Quoted | 3=>some C_Plain | 4=>some C_Line | 5=>some C_FormError | 6=>some C_BadWay | 7=>some C_BadValue | 8=>some C_BadValues | 9=>some C_TooMany | 10=>some C_Clash | 11=>some C_BadText | 12=>some C_BadName | 13=>some C_Unclear | 14=>some C_NoFill | 500=>some C_Refused | 600=>some C_Pen | 601=>some C_Writer | _=>none⟩:= {
  adr:=fun f=>(hf f).choose
  fd:=fun f=>(hf f).choose_spec.choose
  ok:=fun f=>(hf f).choose_spec.choose_spec.2.1
  bi:=fun f=>(hf f).choose_spec.choose_spec.2.2
  m:=fun f hp=>W.mg_of X G (by have q:=(hf f).choose_spec.choose_spec.1;cases f<;>first | exact q | cases hp)
  n:=fun i=>W.mg_none_of X G (hn i)
  kls:=fun i=>match i with | 0=>C_Word | 1=>C_Number | 2=>C_Quoted | 3=>C_Plain | 4=>C_Line | 5=>C_FormError | 6=>C_BadWay | 7=>C_BadValue | 8=>C_BadValues | 9=>C_TooMany | 10=>C_Clash | 11=>C_BadText | 12=>C_BadName | 13=>C_Unclear | 14=>C_NoFill | 500=>C_Refused | 600=>C_Pen | 601=>C_Writer | _=>0
  tb_Word:=rfl
  mc_Word:=W.mg_of X G aC_Word
  tb_Number:=rfl
  mc_Number:=W.mg_of X G aC_Number
  tb_Quoted:=rfl
  mc_Quoted:=W.mg_of X G aC_Quoted
  tb_Plain:=rfl
  mc_Plain:=W.mg_of X G aC_Plain
  tb_Line:=rfl
  mc_Line:=W.mg_of X G aC_Line
  tb_FormError:=rfl
  mc_FormError:=W.mg_of X G aC_FormError
  tb_BadWay:=rfl
  mc_BadWay:=W.mg_of X G aC_BadWay
  tb_BadValue:=rfl
  mc_BadValue:=W.mg_of X G aC_BadValue
  tb_BadValues:=rfl
  mc_BadValues:=W.mg_of X G aC_BadValues
  tb_TooMany:=rfl
  mc_TooMany:=W.mg_of X G aC_TooMany
  tb_Clash:=rfl
  mc_Clash:=W.mg_of X G aC_Clash
  tb_BadText:=rfl
  mc_BadText:=W.mg_of X G aC_BadText
  tb_BadName:=rfl
  mc_BadName:=W.mg_of X G aC_BadName
  tb_Unclear:=rfl
  mc_Unclear:=W.mg_of X G aC_Unclear
  tb_NoFill:=rfl
  mc_NoFill:=W.mg_of X G aC_NoFill
  tb_Refused:=rfl
  mc_Refused:=W.mg_of X G aC_Refused
  tb_Pen:=rfl
  mc_Pen:=W.mg_of X G aC_Pen
  tb_Writer:=rfl
  mc_Writer:=W.mg_of X G aC_Writer
  xr_BadValues:=xr_BadValues
  ex_BadValues_FormError:=ex_BadValues_FormError
  ex_Refused_Refused:=ex_Refused_Refused
  cg_:=cg_
  kc_Word:=kc_Word
  kc_Number:=kc_Number
  kc_Quoted:=kc_Quoted
  kc_Plain:=kc_Plain
  kc_Line:=kc_Line
  kc_BadValues:=kc_BadValues
  xc_BadValues:=xc_BadValues
  kc_Refused:=kc_Refused
  xc_Refused:=xc_Refused
  ki_BadValues_BadName:=ki_BadValues_BadName
  ki_BadValues_BadText:=ki_BadValues_BadText
  ki_BadValues_BadValue:=ki_BadValues_BadValue
  ki_BadValues_BadValues:=ki_BadValues_BadValues
  ki_BadValues_BadWay:=ki_BadValues_BadWay
  ki_BadValues_Clash:=ki_BadValues_Clash
  ki_BadValues_NoFill:=ki_BadValues_NoFill
  ki_BadValues_TooMany:=ki_BadValues_TooMany
  ki_BadValues_Unclear:=ki_BadValues_Unclear
  ki_BadValues_ValueError:=ki_BadValues_ValueError
  ki_Refused_BadName:=ki_Refused_BadName
  ki_Refused_BadText:=ki_Refused_BadText
  ki_Refused_BadValue:=ki_Refused_BadValue
  ki_Refused_BadValues:=ki_Refused_BadValues
  ki_Refused_BadWay:=ki_Refused_BadWay
  ki_Refused_Clash:=ki_Refused_Clash
  ki_Refused_NoFill:=ki_Refused_NoFill
  ki_Refused_TooMany:=ki_Refused_TooMany
  ki_Refused_Unclear:=ki_Refused_Unclear
  ki_Refused_ValueError:=ki_Refused_ValueError
  xi_Refused:=⟨.inr x1_Refused,(hf .Refused___init__).choose_spec.choose_spec.1.1,(hf .Refused___init__).choose_spec.choose_spec.1.2,x3_Refused,x4_Refused,x5_Refused,x6_Refused,x7_Refused,xc_Refused⟩
  g_LINE_LETTERS:=⟨t_LINE_LETTERS,(W.mg_of X G g_LINE_LETTERS).trans (congrArg (fun z=>some (Value.str z t_LINE_LETTERS)) (by kernel_rfl))⟩
  g_LINE_SIGNS:=⟨t_LINE_SIGNS,(W.mg_of X G g_LINE_SIGNS).trans (congrArg (fun z=>some (Value.str z t_LINE_SIGNS)) (by kernel_rfl))⟩
  g_MOST_COUNTED:=⟨t_MOST_COUNTED,(W.mg_of X G g_MOST_COUNTED).trans (rfl)⟩
  g_MOST_DEPTH:=⟨t_MOST_DEPTH,(W.mg_of X G g_MOST_DEPTH).trans (rfl)⟩
  g_MOST_FIELDS:=⟨t_MOST_FIELDS,(W.mg_of X G g_MOST_FIELDS).trans (rfl)⟩
  g_MOST_LETTERS:=⟨t_MOST_LETTERS,(W.mg_of X G g_MOST_LETTERS).trans (rfl)⟩
  g_MOST_SIGNS:=⟨t_MOST_SIGNS,(W.mg_of X G g_MOST_SIGNS).trans (rfl)⟩
  g_MOST_THINGS:=⟨t_MOST_THINGS,(W.mg_of X G g_MOST_THINGS).trans (rfl)⟩
  g_MOST_WORD_SIGNS:=⟨t_MOST_WORD_SIGNS,(W.mg_of X G g_MOST_WORD_SIGNS).trans (rfl)⟩
  g_PLAIN_LETTERS:=⟨t_PLAIN_LETTERS,(W.mg_of X G g_PLAIN_LETTERS).trans (congrArg (fun z=>some (Value.str z t_PLAIN_LETTERS)) (by kernel_rfl))⟩
  g_PLAIN_SIGNS:=⟨t_PLAIN_SIGNS,(W.mg_of X G g_PLAIN_SIGNS).trans (congrArg (fun z=>some (Value.str z t_PLAIN_SIGNS)) (by kernel_rfl))⟩
  g_QUOTED_LETTERS:=⟨t_QUOTED_LETTERS,(W.mg_of X G g_QUOTED_LETTERS).trans (congrArg (fun z=>some (Value.str z t_QUOTED_LETTERS)) (by kernel_rfl))⟩
  g_QUOTED_SIGNS:=⟨t_QUOTED_SIGNS,(W.mg_of X G g_QUOTED_SIGNS).trans (congrArg (fun z=>some (Value.str z t_QUOTED_SIGNS)) (by kernel_rfl))⟩
  g_SIGNS:=⟨t_SIGNS,(W.mg_of X G g_SIGNS).trans (congrArg (fun z=>some (Value.str z t_SIGNS)) (by kernel_rfl))⟩
  g_SMALL_LETTERS:=⟨t_SMALL_LETTERS,(W.mg_of X G g_SMALL_LETTERS).trans (congrArg (fun z=>some (Value.str z t_SMALL_LETTERS)) (by kernel_rfl))⟩
  g_WORD_SIGNS:=⟨t_WORD_SIGNS,(W.mg_of X G g_WORD_SIGNS).trans (congrArg (fun z=>some (Value.str z t_WORD_SIGNS)) (by kernel_rfl))⟩
  g_COMMAND_WORDS:=⟨_,_,_,W.mg_of X G g_COMMAND_WORDS,X _ _ k_COMMAND_WORDS,by show 11≤sizeLine;decide,Eq.mpr (congrArg (StrsAre _) (show eQ.map S=(["as","between","body","else","end","for","if","in","piece","use","with"]:List Str) from by kernel_rfl)) (.cons _ _ (.cons _ _ (.cons _ _ (.cons _ _ (.cons _ _ (.cons _ _ (.cons _ _ (.cons _ _ (.cons _ _ (.cons _ _ (.cons _ _ .nil)))))))))))⟩
  cl_Pen:=cl_Pen
  na_Pen:=fun f hf=>by
   simp only [fnm,List.mem_cons,List.not_mem_nil,or_false] at hf
   rcases hf with rfl | rfl
   ·exact na_Pen_parts
   ·exact na_Pen_counted
  mo_Pen:=⟨mk_Pen,(hf .Pen___init__).choose_spec.choose_spec.1.1,(hf .Pen___init__).choose_spec.choose_spec.1.2,kp_Pen⟩
  me_Pen_outcome_written:=(hf .Pen_outcome_written).choose_spec.choose_spec.1
  me_Pen_outcome_refused:=(hf .Pen_outcome_refused).choose_spec.choose_spec.1
  me_Pen_write:=(hf .Pen_write).choose_spec.choose_spec.1
  me_Pen_put:=(hf .Pen_put).choose_spec.choose_spec.1
  me_Pen_truth_wanted:=(hf .Pen_truth_wanted).choose_spec.choose_spec.1
  me_Pen_thing_wanted:=(hf .Pen_thing_wanted).choose_spec.choose_spec.1
  me_Pen_list_wanted:=(hf .Pen_list_wanted).choose_spec.choose_spec.1
  me_Pen_begin_round:=(hf .Pen_begin_round).choose_spec.choose_spec.1
  me_Pen_count_one:=(hf .Pen_count_one).choose_spec.choose_spec.1
  cl_Writer:=cl_Writer
  na_Writer:=fun f hf=>by
   simp only [fnm,List.mem_cons,List.not_mem_nil,or_false] at hf
   rcases hf with rfl | rfl
   ·exact na_Writer_pen
   ·exact na_Writer_pieces
  mo_Writer:=⟨mk_Writer,(hf .Writer___init__).choose_spec.choose_spec.1.1,(hf .Writer___init__).choose_spec.choose_spec.1.2,kp_Writer⟩
  me_Writer_write_nodes:=(hf .Writer_write_nodes).choose_spec.choose_spec.1
  me_Writer_write_node:=(hf .Writer_write_node).choose_spec.choose_spec.1
  me_Writer_write_rounds:=(hf .Writer_write_rounds).choose_spec.choose_spec.1
  cl_Word:=cl_Word
  nw_Word:=⟨mk_Word,in_Word,kp_Word⟩
  me_Word_coded:=⟨(hf .Way_coded).choose_spec.choose_spec.1.1,(hf .Way_coded).choose_spec.choose_spec.1.2.2.2.2.2.1,(hf .Way_coded).choose_spec.choose_spec.1.2.2.2.2.2.2⟩
  me_Word_fits:=(hf .Word_fits).choose_spec.choose_spec.1
  me_Word_spelling:=(hf .Word_spelling).choose_spec.choose_spec.1
  cl_Number:=cl_Number
  nw_Number:=⟨mk_Number,in_Number,kp_Number⟩
  me_Number_coded:=⟨(hf .Way_coded).choose_spec.choose_spec.1.2.1,(hf .Way_coded).choose_spec.choose_spec.1.2.2.2.2.2.1,(hf .Way_coded).choose_spec.choose_spec.1.2.2.2.2.2.2⟩
  me_Number_fits:=(hf .Number_fits).choose_spec.choose_spec.1
  me_Number_spelling:=(hf .Number_spelling).choose_spec.choose_spec.1
  cl_Quoted:=cl_Quoted
  nw_Quoted:=⟨mk_Quoted,in_Quoted,kp_Quoted⟩
  me_Quoted_coded:=⟨(hf .Way_coded).choose_spec.choose_spec.1.2.2.1,(hf .Way_coded).choose_spec.choose_spec.1.2.2.2.2.2.1,(hf .Way_coded).choose_spec.choose_spec.1.2.2.2.2.2.2⟩
  me_Quoted_fits:=(hf .Quoted_fits).choose_spec.choose_spec.1
  me_Quoted_spelling:=(hf .Quoted_spelling).choose_spec.choose_spec.1
  cl_Plain:=cl_Plain
  nw_Plain:=⟨mk_Plain,in_Plain,kp_Plain⟩
  me_Plain_coded:=⟨(hf .Way_coded).choose_spec.choose_spec.1.2.2.2.1,(hf .Way_coded).choose_spec.choose_spec.1.2.2.2.2.2.1,(hf .Way_coded).choose_spec.choose_spec.1.2.2.2.2.2.2⟩
  me_Plain_fits:=(hf .Plain_fits).choose_spec.choose_spec.1
  me_Plain_spelling:=(hf .Plain_spelling).choose_spec.choose_spec.1
  cl_Line:=cl_Line
  nw_Line:=⟨mk_Line,in_Line,kp_Line⟩
  me_Line_coded:=⟨(hf .Way_coded).choose_spec.choose_spec.1.2.2.2.2.1,(hf .Way_coded).choose_spec.choose_spec.1.2.2.2.2.2.1,(hf .Way_coded).choose_spec.choose_spec.1.2.2.2.2.2.2⟩
  me_Line_fits:=(hf .Line_fits).choose_spec.choose_spec.1
  me_Line_spelling:=(hf .Line_spelling).choose_spec.choose_spec.1 }
 have e:=(Y.m .law rfl).symm.trans hfa
 obtain rfl:Y.adr .law=fa:=by injection e with e1;injection e1
 exact ⟨Y.fd .law,_,fun s v=>by obtain ⟨_,_,_,_,_,_,_,_,_,e,_⟩:=(Y.ok .law).ex;rw [e];exact .of_eq rfl,(nR Y 70).p .law⟩
end K10
namespace L3
open PySem L2
theorem Res.bind_ok{α β:Type}(a:α)(h:List PO)(k:α→List PO→Res β):(Res.ok a h).bind k=k a h:=rfl
theorem FF{α:Type}(a:α)(h:List PO):(Res.ok a h).calm= .ok a h:=rfl
theorem Dk(l:List Nat):(S l).cps.toList=l:=by simp [S]
theorem sg(c:Nat)(x:List Nat):sj [c] x=x.contains c:=by
 unfold sj bN
 rw [Bool.eq_iff_iff,List.find?_isSome]
 simp only [List.mem_range,Bool.and_eq_true,decide_eq_true_eq,Nat.zero_le,true_and,List.contains_iff_mem]
 constructor
 ·rintro ⟨i,hi,hp⟩
  obtain ⟨t,ht⟩:=List.isPrefixOf_iff_prefix.mp hp
  have:c∈x.drop i:=by rw [← ht];simp
  exact List.mem_of_mem_drop this
 ·intro h
  obtain ⟨i,hi⟩:=List.mem_iff_getElem?.mp h
  have hlt:i<x.length:=by
   rcases Nat.lt_or_ge i x.length with q | q
   ·exact q
   ·rw [List.getElem?_eq_none q] at hi;cases hi
  refine ⟨i,by omega,List.isPrefixOf_iff_prefix.mpr ⟨x.drop (i+1),?_⟩⟩
  rw [List.getElem?_eq_getElem hlt,Option.some.injEq] at hi
  rw [← hi,List.singleton_append,← List.drop_eq_getElem_cons hlt]
theorem vg{n:Nat}{p:PV}(h:p.pure=true):ltv n p=true:=by
 cases p<;>first | exact h | (simp [PV.pure] at h)
theorem zC(ls:List (List Nat)):hZ (ls.map PV.str)=some ls:=by
 induction ls with
 | nil=>rfl
 | cons l r ih=>simp [hZ,ih]
theorem gM{α:Type}{xs:List α}{j:Int}{v:α}(h0:0≤j)(h:xs[j.toNat]? =some v):atI xs j=some v:=by
 have:=(List.getElem?_eq_some_iff.mp h).1
 simp only [atI,ixN,if_pos h0,if_pos (show j<xs.length by omega)]
 exact h
end L3
namespace L3
open PySem L2
section
variable (ρ:Ev) (h:List PO)
theorem LS(v:PV):cK v ρ h= .ok v h:=rfl
theorem Ix:aj ρ h= .ok [] h:=rfl
theorem CL:jX ρ h= .ok none h:=rfl
theorem Fx(res:Nat→Option (List PV→Out))(o:Ex)(as:Ax):lA res o as ρ h=(o ρ h).bind fun p h1=>match p with | .ins C []=>(match res C with | some fn=>(as ρ h1).bind fun ps h2=>bn fn (.ins C []::ps) h2 | none=>.bad) | _=>.bad:=rfl
theorem tU:et ρ h= .ok true h:=rfl
theorem Fv:bG ρ h= .nx ρ h:=rfl
@[simp] theorem Fu(f g:Sx):aA f g ρ h=match f ρ h with | .nx ρ1 h1=>g ρ1 h1 | .rt v h1=>.rt v h1 | .bk ρ1 h1=>.bk ρ1 h1 | .ct ρ1 h1=>.ct ρ1 h1 | .exc v h1=>.exc v h1 | .bad=>.bad:=rfl
theorem AC:jN ρ h= .bad:=rfl
theorem CM(g:Gx)(body:Sx):bh g body [] ρ h= .nx ρ h:=rfl
theorem CN(i:Nat)(p:PV):gNm i p ρ=some (ρ.set i (some p)):=rfl
end
theorem oS(g:Gx)(body:Sx)(p:PV)(r:List PV)(ρ:Ev)(h:List PO):bh g body (p::r) ρ h=match g p ρ with
  | some ρ1=>(match body ρ1 h with
   | .nx ρ2 h2=>bh g body r ρ2 h2
   | .ct ρ2 h2=>bh g body r ρ2 h2
   | .bk ρ2 h2=>.nx ρ2 h2
   | .rt v h2=>.rt v h2
   | .exc v h2=>.exc v h2
   | .bad=>.bad)
  | none=>.bad:=rfl
section
variable (h:List PO)
theorem IJ(i:Int):ao h (.int i)= .int i:=rfl
theorem KT(i:Bool):ao h (.bl i)= .bl i:=rfl
theorem IF(i:List Nat):ao h (.str i)= .str i:=rfl
theorem IG:ao h .non= .non:=rfl
theorem IE(i:List PV):ao h (.tup i)= .tup i:=rfl
theorem IH(i:List PV):ao h (.lst i)= .lst i:=rfl
theorem IL(i:List PV):ao h (.giv i)= .giv i:=rfl
theorem IP(i:List (PK×PV)):ao h (.dct i)= .dct i:=rfl
theorem IK(c:Nat)(i:List (Str×PV)):ao h (.ins c i)= .ins c i:=rfl
theorem tW(xs:List PV)(r:List PO):ao (.lst xs::r) (.ref 0)= .ref 0:=rfl
@[simp] theorem Dg(a b:List PV):BN (.tup a) (.tup b) h=if a.isEmpty=false∧a.length+b.length≤sizeLine then .ok (.tup (a++b)) h else .bad:=rfl
theorem GL(i j:Int):mG (.int i) (.int j) h= .ok (.int (i - j)) h:=rfl
theorem Hu(i j:Int):eF (.int i) (.int j) h=if gV i j=true then .ok (.int (i * j)) h else .bad:=rfl
theorem JA(C:Int→Int→Bool)(g:Int→Int→Int)(i j:Int):pI C g (.int i) (.int j) h=if C i j=true then .ok (.int (g i j)) h else .bad:=rfl
theorem JK(i:Int):zY (.int i) h= .ok (.int (-i)) h:=rfl
theorem IQ(g:Int→Int→Bool)(i j:Int):zZ g (.int i) (.int j) h= .ok (.bl (g i j)) h:=rfl
theorem LO(p:PV):pIs p .non h= .ok (.bl (rZ p)) h:=rfl
theorem Ks(l:List Nat)(i:Int):pIx (.str l) (.int i) h=match atI l i with | some c=>if l.length≤sizeLine then .ok (.str [c]) h else .bad | none=>.bad:=rfl
@[simp] theorem Kr(l:List PV)(i:Int):pIx (.tup l) (.int i) h=match atI l i with | some v=>.ok (ao h v) h | none=>.bad:=rfl
@[simp] theorem Kt(l:List PV)(i:Int):pIx (.lst l) (.int i) h=match atI l i with | some v=>.ok (ao h v) h | none=>.bad:=rfl
@[simp] theorem Ku(l:List PV)(i:Int):pIx (.giv l) (.int i) h=match atI l i with | some v=>.ok (ao h v) h | none=>.bad:=rfl
theorem JT(l:List Nat):fy [.str l] h=match (if l.length≤sizeLine then some l.length else none) with | some n=>.ok (.int n) h | none=>.bad:=rfl
theorem yC(l:List PV):fy [.tup l] h= .ok (.int l.length) h:=rfl
theorem Gd(l:List PV):fy [.lst l] h= .ok (.int l.length) h:=rfl
@[simp] theorem Ge(l:List PV):fy [.giv l] h= .ok (.int l.length) h:=rfl
theorem Hy(ps:List PV):cu ps h=if ps.length≤sizeLine then .ok (.lst ps) h else .bad:=rfl
theorem EE(ps:List PV):qn ps h=if ps.length≤sizeLine then .ok (.ref h.length) (h++ [.lst ps]) else .bad:=rfl
theorem GH(ps:List PV):aN ps h=if ps.length≤sizeLine then .ok (.tup ps) h else .bad:=rfl
theorem Hh(ps:List PV):okL ps h= .ok (.lst ps) h:=rfl
theorem Ez(ps:List PV):uZ ps h= .ok (.ref h.length) (h++ [.lst ps]):=rfl
theorem Kz(b:Bool):rc [.bl b] h= .ok (.int (if b then 1 else 0)) h:=rfl
theorem Lc(i:Int):Ei [.int i] h= .ok (.int (if i<0 then -i else i)) h:=rfl
theorem Jn(i:Int):Ef [.int i] h=if i.natAbs.log2<1920 then .ok (.str (pF i)) h else .bad:=rfl
theorem DG(l:List Nat):mh (.str l) h= .ok (l.map fun c=>PV.str [c]) h:=rfl
theorem DF(l:List PV):mh (.tup l) h= .ok l h:=rfl
theorem DH(l:List PV):mh (.lst l) h= .ok l h:=rfl
theorem Fs(x y:List Nat):yq (.str x) [.str y] h= .ok (.int (sv (bN y x 0))) h:=rfl
theorem Fc(x:List Nat):iI h (.str x)=true:=rfl
theorem Fl(i:Int):fR h (.int i)=some (.int i,h):=by simp [fR,PV.pure]
theorem Iv(i:Bool):fR h (.bl i)=some (.bl i,h):=by simp [fR,PV.pure]
theorem Fj:fR h .non=some (.non,h):=by simp [fR,PV.pure]
theorem Fi(i:List Nat):fR h (.str i)=some (.str i,h):=by simp [fR,PV.pure]
theorem Fm(c:Nat):fR h (.ins c [])=some (.ins c [],h):=by simp [fR,PV.pure,wJ]
theorem Fh{l:List PV}(q:ai l=true):fR h (.tup l)=some (.tup l,h):=by simp [fR,PV.pure,q]
theorem CD:frzs [] h=some ([],h):=rfl
theorem AB(p:PV)(r:List PV):frzs (p::r) h=match fR h p with | some (q,h1)=>(match frzs r h1 with | some (qs,h2)=>some (q::qs,h2) | none=>none) | none=>none:=rfl
theorem BS(a b:List Nat):cF (.str a) (.str b) h= .ok (.bl (!sj a b)) h:=rfl
theorem Jl(b:Bool):sS h (.bl b)=some b:=rfl
theorem xq(l:List Nat):aH [.str l,.ty "str"] h= .ok (.bl true) h:=rfl
theorem xr(l:List Nat):aH [.str l,.ty "int"] h= .ok (.bl false) h:=rfl
theorem vx(l:List Nat):aH [.str l,.ty "bool"] h= .ok (.bl false) h:=rfl
theorem vt(l:List Nat):aH [.str l,.ty "list"] h= .ok (.bl false) h:=rfl
theorem vw(l:List Nat):aH [.str l,.ty "dict"] h= .ok (.bl false) h:=rfl
theorem xx(l:Int):aH [.int l,.ty "str"] h= .ok (.bl false) h:=rfl
theorem xy(l:Int):aH [.int l,.ty "int"] h= .ok (.bl true) h:=rfl
theorem vG(l:Int):aH [.int l,.ty "bool"] h= .ok (.bl false) h:=rfl
theorem vF(l:Int):aH [.int l,.ty "dict"] h= .ok (.bl false) h:=rfl
theorem xB(l:Bool):aH [.bl l,.ty "str"] h= .ok (.bl false) h:=rfl
theorem xC(l:Bool):aH [.bl l,.ty "int"] h= .ok (.bl true) h:=rfl
theorem vM(l:Bool):aH [.bl l,.ty "bool"] h= .ok (.bl true) h:=rfl
theorem vK(l:Bool):aH [.bl l,.ty "dict"] h= .ok (.bl false) h:=rfl
theorem xt:aH [.non,.ty "str"] h= .ok (.bl false) h:=rfl
theorem xu:aH [.non,.ty "int"] h= .ok (.bl false) h:=rfl
theorem vB:aH [.non,.ty "bool"] h= .ok (.bl false) h:=rfl
theorem vz:aH [.non,.ty "list"] h= .ok (.bl false) h:=rfl
theorem vA:aH [.non,.ty "dict"] h= .ok (.bl false) h:=rfl
theorem xo(l:List PV):aH [.tup l,.ty "str"] h= .ok (.bl false) h:=rfl
theorem xp(l:List PV):aH [.tup l,.ty "int"] h= .ok (.bl false) h:=rfl
theorem vq(l:List PV):aH [.tup l,.ty "bool"] h= .ok (.bl false) h:=rfl
theorem vo(l:List PV):aH [.tup l,.ty "list"] h= .ok (.bl false) h:=rfl
theorem tP(l:List PV):aH [.tup l,.ty "tuple"] h= .ok (.bl true) h:=rfl
theorem vp(l:List PV):aH [.tup l,.ty "dict"] h= .ok (.bl false) h:=rfl
theorem xv(l:List PV):aH [.lst l,.ty "str"] h= .ok (.bl false) h:=rfl
theorem xw(l:List PV):aH [.lst l,.ty "int"] h= .ok (.bl false) h:=rfl
theorem vE(l:List PV):aH [.lst l,.ty "bool"] h= .ok (.bl false) h:=rfl
theorem vC(l:List PV):aH [.lst l,.ty "list"] h= .ok (.bl true) h:=rfl
theorem vD(l:List PV):aH [.lst l,.ty "dict"] h= .ok (.bl false) h:=rfl
theorem xz(l:List (PK×PV)):aH [.dct l,.ty "str"] h= .ok (.bl false) h:=rfl
theorem xA(l:List (PK×PV)):aH [.dct l,.ty "int"] h= .ok (.bl false) h:=rfl
theorem vJ(l:List (PK×PV)):aH [.dct l,.ty "bool"] h= .ok (.bl false) h:=rfl
theorem vH(l:List (PK×PV)):aH [.dct l,.ty "list"] h= .ok (.bl false) h:=rfl
theorem vI(l:List (PK×PV)):aH [.dct l,.ty "dict"] h= .ok (.bl true) h:=rfl
end
theorem szl:(sizeLine:Nat)=16777216:=by decide
theorem bp(fn:List PV→Out)(ps:List PV)(h:List PO):bn fn ps h=match frzs ps h with | some (qs,h2)=>(match fn qs with | .ok v=>.ok v h2 | .bad=>.bad) | none=>.bad:=rfl
theorem lQ{i j:Int}(h:bel 18446744073709551616 j=true):gV i j=true:=by unfold gV;rw [h,Bool.true_or,Bool.or_true]
theorem Hv{i j:Int}(h:bel 18446744073709551616 i=true):gV i j=true:=by unfold gV;rw [h,Bool.true_or]
theorem wT(a b:List Nat)(h:List PO)(ha:∀ c∈a,c<1114112)(hb:∀ c∈b,c<1114112):pEq (.str a) (.str b) h= .ok (.bl (decide (a=b))) h:=by
 have ok:∀ l:List Nat,(∀ c∈l,c<1114112)→okD h (.str l)=true:=by
  intro l hl
  unfold okD dOf
  simp only [toD,PyData.canLay0,PyData.depth]
  simp [PyData.strOk,S]
  exact hl
 unfold pEq
 rw [if_pos ⟨ok a ha,ok b hb⟩]
 have e:PyData.eqv (dOf h (.str a)) (dOf h (.str b))=decide (a=b):=by
  show PyData.eqv (toD (.str a)) (toD (.str b))=_
  simp only [toD,PyData.eqv]
  by_cases q:a=b
  ·subst q;simp
  ·have:¬ S a=S b:=fun z=>q (zi z)
   simp [q,this]
 rw [e]
end L3
namespace L3
open PySem L2
theorem mZ{α:Type}{xs:List α}{i:Int}(d:α)(h0:0≤i)(h1:i<(xs.length:Int)):atI xs i=some (xs.getD i.toNat d):=by
 refine gM h0 ?_
 rw [List.getD_eq_getElem?_getD,List.getElem?_eq_getElem (by omega)];rfl
theorem fA{α:Type}{xs:List α}{n:Nat}{d:α}(h:n<xs.length):xs.getD n d∈xs:=by
 rw [List.getD_eq_getElem?_getD,List.getElem?_eq_getElem h];exact List.getElem_mem h
theorem jf:∀ ls:List (List Nat),kY [] ls=ls.flatten
 | []=>rfl
 | [x]=>by simp [kY]
 | x::y::r=>by
  show x++ []++kY [] (y::r)=_
  rw [jf (y::r),List.append_nil];rfl
theorem mH{sep:List Nat}{q:PV}{ls:List (List Nat)}{h:List L3.PO}(e:lsR h q=some (ls.map PV.str))(hz:(ls.map (fun l=>l.length)).sum+ls.length * sep.length≤16777216):eG (.str sep) [q] h= .ok (.str (kY sep ls)) h:=by
 unfold eG
 simp only [e,zC,hz,if_true]
theorem tH{ls:List (List Nat)}{h:List L3.PO}(hz:(ls.map (fun l=>l.length)).sum≤16777216):eG (.str []) [.lst (ls.map PV.str)] h= .ok (.str ls.flatten) h:=by
 rw [mH (ls:=ls) rfl (by simpa using hz),jf]
theorem Eh{ls:List (List Nat)}{r:List L3.PO}(hz:(ls.map (fun l=>l.length)).sum≤16777216):eG (.str []) [.ref 0] (.lst (ls.map PV.str)::r)= .ok (.str ls.flatten) (.lst (ls.map PV.str)::r):=by
 rw [mH (ls:=ls) rfl (by simpa using hz),jf]
theorem IT(xs:List PV)(r:List L3.PO)(p:PV):iH (.ref 0) [p] (.lst xs::r)=if xs.length<sizeLine then .ok .non (.lst (xs++ [p])::r) else .bad:=rfl
theorem xE(xs:List PV)(r:List L3.PO):sd (.lst xs::r) (.ref 0)=true:=rfl
theorem Hg(a b:Int)(h:List L3.PO):pEq (.int a) (.int b) h= .ok (.bl (decide (a=b))) h:=by
 have ok:∀ l:Int,okD h (.int l)=true:=fun l=>by unfold okD dOf;simp [toD,PyData.canLay0,PyData.depth]
 unfold pEq
 rw [if_pos ⟨ok a,ok b⟩]
 have e:PyData.eqv (dOf h (.int a)) (dOf h (.int b))=decide (a=b):=by
  show PyData.eqv (toD (.int a)) (toD (.int b))=_
  simp only [toD,PyData.eqv]
  by_cases q:a=b<;>simp [q]
 rw [e]
theorem wS(a b:List Nat)(h:List L3.PO)(ha:∀ c∈a,c<1114112)(hb:∀ c∈b,c<1114112):pNe (.str a) (.str b) h= .ok (.bl (!decide (a=b))) h:=by
 have e:=wT a b h ha hb
 unfold pEq at e
 unfold pNe
 split at e
 ·rename_i hc
  rw [if_pos hc]
  injection e with e1 e2
  injection e1 with e1
  rw [e1]
 ·cases e
def dig(n:Nat):List Nat:=(Nat.toDigits 10 n).map Char.toNat
theorem oT(n:Nat):∀ c∈dig n,48≤c∧c≤57:=by
 intro c hc
 obtain ⟨ch,h1,rfl⟩:=List.mem_map.mp hc
 exact PyProof.Rows.digit_range (Nat.isDigit_of_mem_toDigits (by decide) (by decide) h1)
theorem ye(i:Int):pF i=if 0≤i then dig i.toNat else 45::dig (-i).toNat:=by
 unfold pF dig
 rw [PyProof.Rows.signs_ofString,Int.toString_eq_repr,Int.repr_eq_if]
 split
 ·rw [Nat.toList_repr]
 ·rw [String.toList_append,List.map_append,Nat.toList_repr];rfl
theorem pC{α:Type}(f:α→List Nat)(n:Nat)(h:∀ x,(f x).length≤n)(l:List α):((l.map f).map (fun l=>l.length)).sum≤l.length * n:=by
 induction l with
 | nil=>simp
 | cons a r ih=>
  rw [List.map_cons,List.map_cons,List.sum_cons,List.length_cons,Nat.succ_mul]
  have:=h a
  omega
end L3
namespace L3
open PySem L2
end L3
namespace L3
open PySem L2
def kT(mark raw letters:List Nat)(c:Nat):List Nat:=match bN [c] raw 0 with
 | some i=>mark++ [letters.getD i 0]
 | none=> [c]
def rl(mark raw letters l:List Nat):List Nat:=(l.map (kT mark raw letters)).flatten
variable {m:Nat} {raw letters:List Nat}
end L3
namespace L3
open PySem L2
open PySem.NumText (digitsVal AllDigits)
end L3
namespace L3
open PySem L2
end L3
namespace L3
open PySem L2
section
variable (h:List L3.PO) (ρ:Ev)
theorem Dx(xs:List PV):lL [.lst xs] h= .ok (.tup xs) h:=rfl
end
theorem qq{l:List Nat}(h:List L3.PO)(hl:∀ c∈l,c<1114112):okD h (.str l)=true:=by
 unfold okD dOf
 simp only [toD,PyData.canLay0,PyData.depth]
 simp [PyData.strOk,S]
 exact hl
theorem Iy(a b:List Nat)(ha:∀ c∈a,c<1114112)(hb:∀ c∈b,c<1114112):PyData.eqv (toD (.str a)) (toD (.str b))=decide (a=b):=by
 have:=wT a b [] ha hb
 unfold pEq at this
 rw [if_pos ⟨qq [] ha,qq [] hb⟩] at this
 injection this with this
 injection this
theorem ug{x:List Nat}(hx:∀ c∈x,c<1114112):∀ {ls:List (List Nat)},(∀ l∈ls,∀ c∈l,c<1114112)→((ls.map PV.str).any fun y=>PyData.eqv (toD y) (toD (.str x)))=decide (x∈ls)
 | [],_=>rfl
 | l::r,h=>by
  rw [List.map_cons,List.any_cons,Iy l x (h l (by simp)) hx,ug hx fun z hz=>h z (List.mem_cons_of_mem _ hz),Bool.eq_iff_iff,Bool.or_eq_true,decide_eq_true_eq,decide_eq_true_eq,decide_eq_true_eq,List.mem_cons]
  exact or_congr eq_comm Iff.rfl
theorem nR:∀ {ls:List (List Nat)},(∀ l∈ls,∀ c∈l,c<1114112)→(ls.map PV.str).all (okD [])=true
 | [],_=>rfl
 | l::r,h=>by rw [List.map_cons,List.all_cons,qq [] (h l (by simp)),nR fun z hz=>h z (List.mem_cons_of_mem _ hz)];rfl
theorem KB{x:List Nat}{ls:List (List Nat)}(hx:∀ c∈x,c<1114112)(hl:∀ l∈ls,∀ c∈l,c<1114112)(h:List L3.PO):BL (.str x) (.tup (ls.map PV.str)) h=some (decide (x∈ls)):=by
 show (if okD [] (.str x)=true∧(ls.map PV.str).all (okD [])=true then some ((ls.map PV.str).any fun y=>PyData.eqv (toD y) (toD (.str x))) else none)=_
 rw [if_pos ⟨qq [] hx,nR hl⟩,ug hx hl]
theorem KC{x:List Nat}{ls:List (List Nat)}(hx:∀ c∈x,c<1114112)(hl:∀ l∈ls,∀ c∈l,c<1114112)(h:List L3.PO):BL (.str x) (.lst (ls.map PV.str)) h=some (decide (x∈ls)):=by
 show (if okD [] (.str x)=true∧(ls.map PV.str).all (okD [])=true then some ((ls.map PV.str).any fun y=>PyData.eqv (toD y) (toD (.str x))) else none)=_
 rw [if_pos ⟨qq [] hx,nR hl⟩,ug hx hl]
theorem uY{x:List Nat}{ls:List (List Nat)}(hx:∀ c∈x,c<1114112)(hl:∀ l∈ls,∀ c∈l,c<1114112)(h:List L3.PO):cF (.str x) (.tup (ls.map PV.str)) h= .ok (.bl (!decide (x∈ls))) h:=by unfold cF;rw [KB hx hl]
end L3
namespace L3
open PySem L2
section
variable (ρ:Ev) (h:List PO)
theorem IM(C:Nat)(v:PV):ao h (.exa C v)= .exa C v:=rfl
theorem jh(C:Nat)(as:Ax):lF C as ρ h=match as ρ h with
 | .ok qs h1=>if qs.length≤sizeLine then .exc (.cls C) h1 else .bad
 | .exc e h1=>.exc e h1
 | .bad=>.bad:=rfl
theorem yM(l:List Nat)(q:PV):oz (.str l) q h=pEq (.str l) q h:=rfl
end
end L3
namespace L3
open PySem L2
section
variable (ρ:Ev) (h:List PO)
theorem Fw:qM ρ h= .ok (.ref h.length) (h++ [.dct []]):=rfl
theorem GS(kps:List (PK×PV)):gg (.dct kps) h= .ok (kps.map fun p=>gN p.1) h:=rfl
theorem GF(kps:List (PK×PV)):ya (.dct kps) h= .ok (.lst (kps.map (·.2))) h:=rfl
theorem JU(l:List (PK×PV)):fy [.dct l] h= .ok (.int l.length) h:=rfl
theorem FC(l:List (PK×PV)):qo [.dct l] h= .ok (.ref h.length) (h++ [.dct l]):=rfl
theorem Kw(l:List (PK×PV))(x:List Nat):pIx (.dct l) (.str x) h=match bJ l (.inr x) with | some v=>.ok (ao h v) h | none=>.bad:=rfl
theorem KA(l:List (PK×PV))(x:List Nat):cF (.str x) (.dct l) h= .ok (.bl (!(bJ l (.inr x)).isSome)) h:=rfl
theorem FK(i j:Int):aO (.int i) (.int j) h= .ok (.int (i+j)) h:=rfl
theorem FJ(a b:List Nat):aO (.str a) (.str b) h=if a.length+b.length≤sizeLine then .ok (.str (a++b)) h else .bad:=rfl
theorem KR(l:List (PK×PV))(r:List PO):ao (.dct l::r) (.ref 0)= .ref 0:=rfl
theorem KQ(a:PO)(l:List (PK×PV))(r:List PO):ao (a::.dct l::r) (.ref 1)= .ref 1:=rfl
theorem sp{l:List (PK×PV)}(r:List PO)(hp:aI l=true):fzR (.ref 0) (.dct l::r)= .ok (.dct l) (.froz (.dct l)::r):=by
 simp [fzR,fzP,jH,hp]
theorem im{p:PV}(hp:p.pure=true):fR h p=some (p,h):=by
 cases p<;>first | (simp [PV.pure] at hp;done) | simp [fR,hp]
theorem ak{p:PV}(hp:p.pure=true):ao h p=p:=by
 cases p<;>first | (simp [PV.pure] at hp;done) | rfl
theorem GQ(v:PV)(l:List (PK×PV))(r:List PO)(x:List Nat):pP v (.ref 0) (.str x) ρ (.dct l::r)=if l.length<sizeLine then .nx ρ (.dct (cg l (.inr x) v)::r) else .bad:=rfl
theorem JS(a:PO)(l:List (PK×PV))(r:List PO):(jH (a::.dct l::r) (.ref 1)).isSome=true:=rfl
end
end L3
namespace L3
open PySem L2
section
variable {ρ:Ev} {h:List L3.PO}
theorem KH(n:Nat)(gs:Gxs)(ps:List PV):gTp n gs (.tup ps) ρ=if ps.length=n then gs ps ρ else none:=rfl
theorem LP:lf [] ρ=some ρ:=rfl
theorem IA(xs:List PV):FA [.lst xs] h= .ok (enL 0 xs) h:=rfl
theorem FT(l:List PV)(lo hi:Option Int):kS (.lst l) lo hi h= .ok (.lst (cut l lo hi)) h:=rfl
theorem Hx(i j:Int):Eg [.int i,.int j] h= .ok (.int (if j>i then j else i)) h:=rfl
end
end L3
namespace L3
open PySem L2
end L3
namespace L3
open PySem L2
section
variable (ρ:Ev) (h:List PO)
theorem Lb(ok:Nat→Bool)(C:Nat)(v:PV):pAt ok (.exa C v) h=if ok C=true then .ok v h else .bad:=rfl
end
end L3
namespace L3
open PySem L2
section
variable (ρ:Ev) (h:List PO) (a K xa:PV) (b:Ev) (c d e f g i j k l m n o p q r s t u v y:Option PV) (w:Nat) (x I O:Ex) (z A:Sx) (B:PV→List PO→Res PV) (C:List PV→List PO→Res PV) (D:Ax) (E:List PV→Out) (G:List PV→Res PV) (H N:PV→PV→List PO→Res PV) (J:List PV) (L:Bool) (M W:Tx) (P Q:Ox) (R:PV→Option Int→Option Int→List PO→Res PV) (S:Option Int) (T:Int) (U:List PO→PV→Bool) (V:PV→List PV→List PO→Res PV) (X:List Nat) (Y:Gx) (Z:PV→PV→PV→Ev→List PO→SR) (xb:Gxs)
theorem kv0:af 0 (some a::b) h= .ok (ao h a) h:=rfl
theorem kv1:af 1 (c::some a::b) h= .ok (ao h a) h:=rfl
theorem kv2:af 2 (c::d::some a::b) h= .ok (ao h a) h:=rfl
theorem kv3:af 3 (c::d::e::some a::b) h= .ok (ao h a) h:=rfl
theorem kv4:af 4 (c::d::e::f::some a::b) h= .ok (ao h a) h:=rfl
theorem kv5:af 5 (c::d::e::f::g::some a::b) h= .ok (ao h a) h:=rfl
theorem kv6:af 6 (c::d::e::f::g::i::some a::b) h= .ok (ao h a) h:=rfl
theorem kv7:af 7 (c::d::e::f::g::i::j::some a::b) h= .ok (ao h a) h:=rfl
theorem kv8:af 8 (c::d::e::f::g::i::j::k::some a::b) h= .ok (ao h a) h:=rfl
theorem kv9:af 9 (c::d::e::f::g::i::j::k::l::some a::b) h= .ok (ao h a) h:=rfl
theorem LD:af 10 (c::d::e::f::g::i::j::k::l::m::some a::b) h= .ok (ao h a) h:=rfl
theorem LC:af 11 (c::d::e::f::g::i::j::k::l::m::n::some a::b) h= .ok (ao h a) h:=rfl
theorem LB:af 12 (c::d::e::f::g::i::j::k::l::m::n::o::some a::b) h= .ok (ao h a) h:=rfl
theorem LA:af 13 (c::d::e::f::g::i::j::k::l::m::n::o::p::some a::b) h= .ok (ao h a) h:=rfl
def kSt(i:Nat)(ρ:Ev)(r:Res PV):SR:=eH r fun v h1=>.nx (ρ.set i (some v)) h1
theorem EQ:aU w x ρ h=kSt w ρ (x ρ h):=rfl
theorem ks0:kSt 0 (c::b) (.ok a h)= .nx (some a::b) h:=rfl
theorem ks1:kSt 1 (c::d::b) (.ok a h)= .nx (c::some a::b) h:=rfl
theorem ks2:kSt 2 (c::d::e::b) (.ok a h)= .nx (c::d::some a::b) h:=rfl
theorem ks3:kSt 3 (c::d::e::f::b) (.ok a h)= .nx (c::d::e::some a::b) h:=rfl
theorem ks4:kSt 4 (c::d::e::f::g::b) (.ok a h)= .nx (c::d::e::f::some a::b) h:=rfl
theorem ks5:kSt 5 (c::d::e::f::g::i::b) (.ok a h)= .nx (c::d::e::f::g::some a::b) h:=rfl
theorem ks6:kSt 6 (c::d::e::f::g::i::j::b) (.ok a h)= .nx (c::d::e::f::g::i::some a::b) h:=rfl
theorem ks7:kSt 7 (c::d::e::f::g::i::j::k::b) (.ok a h)= .nx (c::d::e::f::g::i::j::some a::b) h:=rfl
theorem ks8:kSt 8 (c::d::e::f::g::i::j::k::l::b) (.ok a h)= .nx (c::d::e::f::g::i::j::k::some a::b) h:=rfl
theorem ks9:kSt 9 (c::d::e::f::g::i::j::k::l::m::b) (.ok a h)= .nx (c::d::e::f::g::i::j::k::l::some a::b) h:=rfl
theorem LI:kSt 10 (c::d::e::f::g::i::j::k::l::m::n::b) (.ok a h)= .nx (c::d::e::f::g::i::j::k::l::m::some a::b) h:=rfl
theorem LH:kSt 11 (c::d::e::f::g::i::j::k::l::m::n::o::b) (.ok a h)= .nx (c::d::e::f::g::i::j::k::l::m::n::some a::b) h:=rfl
theorem LG:kSt 12 (c::d::e::f::g::i::j::k::l::m::n::o::p::b) (.ok a h)= .nx (c::d::e::f::g::i::j::k::l::m::n::o::some a::b) h:=rfl
theorem LF:kSt 13 (c::d::e::f::g::i::j::k::l::m::n::o::p::q::b) (.ok a h)= .nx (c::d::e::f::g::i::j::k::l::m::n::o::p::some a::b) h:=rfl
theorem jY:kSt w ρ (.exc a h)= .exc a h:=rfl
def yi(g:Sx)(r:SR):SR:=match r with
 | .nx ρ1 h1=>g ρ1 h1
 | .rt v h1=>.rt v h1
 | .bk ρ1 h1=>.bk ρ1 h1
 | .ct ρ1 h1=>.ct ρ1 h1
 | .exc v h1=>.exc v h1
 | .bad=>.bad
theorem ER:aA z A ρ h=yi A (z ρ h):=rfl
theorem Jq:yi z (.nx ρ h)=z ρ h:=rfl
theorem Jp:yi z (.rt a h)= .rt a h:=rfl
theorem GM:yi z (.exc a h)= .exc a h:=rfl
def kg{α β:Type}(f:α→List PO→Res β)(r:Res α):Res β:=r.bind f
theorem Kg{α β:Type}(f:α→List PO→Res β)(a:α):kg f (.ok a h)=f a h:=rfl
theorem Kf:c1 B x ρ h=kg B (x ρ h):=rfl
theorem Kb:cN C D ρ h=kg C (D ρ h):=rfl
theorem EW:bj E D ρ h=kg (bn E) (D ρ h):=rfl
theorem Cp:eM C D ρ h=kg (callL C) (D ρ h):=rfl
theorem EY:ng x ρ h=kg mh (x ρ h):=rfl
theorem Cr:Dh D ρ h=kg FA (D ρ h):=rfl
theorem Ka:cFz x ρ h=kg fzR (x ρ h):=rfl
theorem Cq:og x ρ h=kg gg (x ρ h):=rfl
theorem EK:Da x ρ h=kg ya (x ρ h):=rfl
def k2(g:PV→PV→List PO→Res PV)(b:Ex)(ρ:Ev)(r:Res PV):Res PV:=r.bind fun x h1=>kg (g x) (b ρ h1)
theorem Ke:c2 H x I ρ h=k2 H I ρ (x ρ h):=rfl
theorem Kq:k2 H x ρ (.ok a h)=kg (H a) (x ρ h):=rfl
def kC2(x:PV)(r:Res (List PV)):Res (List PV):=r.bind fun xs h2=>.ok (x::xs) h2
def kC(r:Ax)(ρ:Ev)(x:Res PV):Res (List PV):=x.bind fun x h1=>kC2 x (r ρ h1)
theorem EU:aa x D ρ h=kC D ρ (x ρ h):=rfl
theorem Kn:kC D ρ (.ok a h)=kC2 a (D ρ h):=rfl
theorem Ij:kC2 a (.ok J h)= .ok (a::J) h:=rfl
def Kp(g:Ex)(ρ:Ev)(r:Res PV):Res PV:=r.bind fun p h1=>match p with | .bl b=>if b=true then g ρ h1 else .ok (.bl false) h1 | _=>.bad
theorem HJ:nP x I ρ h=Kp I ρ (x ρ h):=rfl
theorem Il:Kp x ρ (.ok (.bl L) h)=if L=true then x ρ h else .ok (.bl false) h:=rfl
def Kj(r:Res PV):Res PV:=r.bind fun p h1=>match p with | .bl b=>.ok (.bl (!b)) h1 | _=>.bad
theorem HG:IS x ρ h=Kj (x ρ h):=rfl
theorem HV:Kj (.ok (.bl L) h)= .ok (.bl (!L)) h:=rfl
def kIe(f g:Ex)(ρ:Ev)(r:Res Bool):Res PV:=r.bind fun b h1=>if b=true then f ρ h1 else g ρ h1
theorem HH:vX M x I ρ h=kIe x I ρ (M ρ h):=rfl
theorem HZ:kIe x I ρ (.ok L h)=if L=true then x ρ h else I ρ h:=rfl
def kH3(g':PV→PV→List PO→Res PV)(c:Ex)(ρ:Ev)(y:PV)(r:Res PV):Res PV:=r.bind fun z h3=>match z with | .bl false=>.ok (.bl false) h3 | .bl true=>kg (g' y) (c ρ h3) | _=>.bad
def kH2(g g':PV→PV→List PO→Res PV)(c:Ex)(ρ:Ev)(x:PV)(r:Res PV):Res PV:=r.bind fun y h2=>kH3 g' c ρ y (g x y h2)
def kH1(g g':PV→PV→List PO→Res PV)(b c:Ex)(ρ:Ev)(r:Res PV):Res PV:=r.bind fun x h1=>kH2 g g' c ρ x (b ρ h1)
theorem Co:ud H N x I O ρ h=kH1 H N I O ρ (x ρ h):=rfl
theorem Ib:kH1 H N x I ρ (.ok a h)=kH2 H N I ρ a (x ρ h):=rfl
theorem Ia:kH2 H N x ρ a (.ok K h)=kH3 N x ρ K (H a K h):=rfl
theorem Kl:kH3 H x ρ a (.ok (.bl L) h)=if L=true then kg (H a) (x ρ h) else .ok (.bl false) h:=by cases L<;>rfl
def kL2(f:PV→Option Int→Option Int→List PO→Res PV)(hi:Ox)(ρ:Ev)(p:PV)(r:Res (Option Int)):Res PV:=r.bind fun l h2=>kg (f p l) (hi ρ h2)
def kL1(f:PV→Option Int→Option Int→List PO→Res PV)(lo hi:Ox)(ρ:Ev)(r:Res PV):Res PV:=r.bind fun p h1=>kL2 f hi ρ p (lo ρ h1)
theorem HD:qL x P Q ρ h=kL1 kS P Q ρ (x ρ h):=rfl
theorem HX:kL1 R P Q ρ (.ok a h)=kL2 R Q ρ a (P ρ h):=rfl
theorem HW:kL2 R P ρ a (.ok S h)=kg (R a S) (P ρ h):=rfl
def kO(r:Res PV):Res (Option Int):=r.bind fun p h1=>match p with | .int i=>.ok (some i) h1 | _=>.bad
theorem Cn:jW x ρ h=kO (x ρ h):=rfl
theorem LK:kO (.ok (.int T) h)= .ok (some T) h:=rfl
def kM(recv:List PO→PV→Bool)(g:PV→List PV→List PO→Res PV)(as:Ax)(ρ:Ev)(r:Res PV):Res PV:=r.bind fun p h1=>if recv h1 p=true then kg (g p) (as ρ h1) else .bad
theorem Kc:cM U V x D ρ h=kM U V D ρ (x ρ h):=rfl
theorem Kk:kM U V D ρ (.ok a h)=if U h a=true then kg (V a) (D ρ h) else .bad:=rfl
def kTo(h:List PO)(o:Option Bool):Res Bool:=match o with | some b=>.ok b h | none=>.bad
def kTr(r:Res PV):Res Bool:=r.bind fun p h1=>kTo h1 (sS h1 p)
theorem EL:cO x ρ h=kTr (x ρ h):=rfl
theorem HO:kTr (.ok a h)=kTo h (sS h a):=rfl
theorem Kh:kTo h (some L)= .ok L h:=rfl
def kCm(r:Res PV):Res Bool:=r.bind fun p h1=>match p with | .bl b=>.ok b h1 | _=>.bad
theorem EN:aW x ρ h=kCm (x ρ h):=rfl
theorem Km:kCm (.ok (.bl L) h)= .ok L h:=rfl
def kNt(r:Res Bool):Res Bool:=r.bind fun b h1=>.ok (!b) h1
theorem EM:eY M ρ h=kNt (M ρ h):=rfl
theorem HU:kNt (.ok L h)= .ok (!L) h:=rfl
def kTa(g:Tx)(ρ:Ev)(r:Res Bool):Res Bool:=r.bind fun b h1=>if b=true then g ρ h1 else .ok false h1
theorem EO:pA M W ρ h=kTa W ρ (M ρ h):=rfl
theorem HP:kTa M ρ (.ok L h)=if L=true then M ρ h else .ok false h:=rfl
def kTu(g:Tx)(ρ:Ev)(r:Res Bool):Res Bool:=r.bind fun b h1=>if b=true then .ok true h1 else g ρ h1
theorem HC:wo M W ρ h=kTu W ρ (M ρ h):=rfl
theorem HN:kTu M ρ (.ok L h)=if L=true then .ok true h else M ρ h:=rfl
def kR1(ps:List PV)(h1:List PO):Res (List PV):=match ps with | [.int j]=>if bel 4611686018427387904 j=true then .ok ((List.range j.toNat).map fun i=>PV.int (0+(i:Nat))) h1 else .bad | _=>.bad
theorem Aq:eX D ρ h=kg kR1 (D ρ h):=rfl
theorem Ki(j:Int):kR1 [.int j] h=if bel 4611686018427387904 j=true then .ok ((List.range j.toNat).map fun i=>PV.int (0+(i:Nat))) h else .bad:=rfl
def kCo(caps:List Nat)(tt:Tx)(te:Ex)(ρ:Ev)(r:Res (List PV)):Res (List PV):=r.bind fun xs h1=>if xs.length<sizeLine then (eI tt te (dh caps ρ) xs h1).calm else .bad
theorem Cs:gH X D M x ρ h=kCo X M x ρ (D ρ h):=rfl
theorem Ii:kCo X M x ρ (.ok J h)=if J.length<sizeLine then (eI M x (dh X ρ) J h).calm else .bad:=rfl
def kCp(caps:List Nat)(tt:Tx)(te:Ex)(ρ:Ev)(r:Res (List PV)):Res (List PV):=r.bind fun xs h1=>if xs.length<sizeLine then (gL tt te (dh caps ρ) xs h1).calm else .bad
theorem Ar:nS X D M x ρ h=kCp X M x ρ (D ρ h):=rfl
theorem Ih:kCp X M x ρ (.ok J h)=if J.length<sizeLine then (gL M x (dh X ρ) J h).calm else .bad:=rfl
def kRt(r:Res PV):SR:=eH r fun v h1=>.rt v h1
theorem ES:aY x ρ h=kRt (x ρ h):=rfl
theorem HQ(v:PV):kRt (.ok v h)= .rt v h:=rfl
def kDr(ρ:Ev)(r:Res PV):SR:=eH r fun _ h1=>.nx ρ h1
theorem Cm:dk x ρ h=kDr ρ (x ρ h):=rfl
theorem Ig:kDr ρ (.ok a h)= .nx ρ h:=rfl
theorem Fa:kDr ρ (.exc a h)= .exc a h:=rfl
def kIf(f g:Sx)(ρ:Ev)(r:Res Bool):SR:=Gs r fun b h1=>if b=true then f ρ h1 else g ρ h1
theorem HE:sIf M z A ρ h=kIf z A ρ (M ρ h):=rfl
theorem HY:kIf z A ρ (.ok L h)=if L=true then z ρ h else A ρ h:=rfl
def kFo(g:Gx)(body:Sx)(ρ:Ev)(r:Res (List PV)):SR:=Gf r fun xs h1=>bh g body xs ρ h1
theorem ET:gR D Y z ρ h=kFo Y z ρ (D ρ h):=rfl
theorem Ic:kFo Y z ρ (.ok J h)=bh Y z J ρ h:=rfl
def kX3(s:PV→PV→PV→Ev→List PO→SR)(ρ:Ev)(v o:PV)(r:Res PV):SR:=eH r fun i h3=>s v o i ρ h3
def kX2(s:PV→PV→PV→Ev→List PO→SR)(fi:Ex)(ρ:Ev)(v:PV)(r:Res PV):SR:=eH r fun o h2=>kX3 s ρ v o (fi ρ h2)
def kX1(s:PV→PV→PV→Ev→List PO→SR)(fo fi:Ex)(ρ:Ev)(r:Res PV):SR:=eH r fun v h1=>kX2 s fi ρ v (fo ρ h1)
theorem Cl:tm x I O ρ h=kX1 nq x I ρ (O ρ h):=rfl
theorem EP:nV x I O ρ h=kX1 pP x I ρ (O ρ h):=rfl
theorem HM:kX1 Z x I ρ (.ok a h)=kX2 Z I ρ a (x ρ h):=rfl
theorem HL:kX2 Z x ρ a (.ok K h)=kX3 Z ρ a K (x ρ h):=rfl
theorem HK:kX3 Z ρ a K (.ok xa h)=Z a K xa ρ h:=rfl
def kAo(h:List PO)(o:Option Ev):SR:=match o with | some ρ1=>.nx ρ1 h | none=>.bad
def kAs(g:Gx)(ρ:Ev)(r:Res PV):SR:=eH r fun v h1=>kAo h1 (g v ρ)
theorem HI:DI Y x ρ h=kAs Y ρ (x ρ h):=rfl
theorem Ik:kAs Y ρ (.ok a h)=kAo h (Y a ρ):=rfl
theorem Ko:kAo h (some ρ)= .nx ρ h:=rfl
def kG(gs:Gxs)(r:List PV)(o:Option Ev):Option Ev:=match o with | some ρ1=>gs r ρ1 | none=>none
theorem LJ:dJ Y xb (a::J) ρ=kG xb J (Y a ρ):=rfl
theorem LL:kG xb J (some ρ)=xb J ρ:=rfl
def kP1(f:PV→PV→List PO→Res PV)(fk:Ex)(ρ:Ev)(r:Res PV):Res PV:=r.bind fun p h1=>if (jH h1 p).isSome=true then kg (f p) (fk ρ h1) else .bad
theorem HF:IR x I ρ h=kP1 Eb I ρ (x ρ h):=rfl
theorem HS:kP1 H x ρ (.ok a h)=if (jH h a).isSome=true then kg (H a) (x ρ h) else .bad:=rfl
def kIx(h:List PO)(o:Option PV):Res PV:=match o with | some v=>.ok (ao h v) h | none=>.bad
theorem Gh:kIx h (some a)= .ok (ao h a) h:=rfl
theorem Ck:pIx (.tup J) (.int T) h=kIx h (atI J T):=rfl
theorem JY:pIx (.lst J) (.int T) h=kIx h (atI J T):=rfl
theorem JZ:pIx (.giv J) (.int T) h=kIx h (atI J T):=rfl
end
end L3
namespace L3
open PySem L2
section
variable (ρ:Ev) (h:List PO) (a b:PV) (w j:Nat) (x y:Ex) (z g:Sx) (C:List PV→List PO→Res PV) (D:Ax) (J:List PV) (o:Option (Nat×List PV)) (f:Nat→Bool) (i:Nat)
theorem BR:nO C D ρ h=kg C (D ρ h):=rfl
def nMa(C:List PV→List PO→Res PV)(p:PV)(r:Res (List PV)):Res PV:=r.bind fun ps h2=>C (p::ps) h2
def nMo(w:Nat)(C:List PV→List PO→Res PV)(D:Ax)(ρ:Ev)(r:Res PV):Res PV:=r.bind fun p h1=>if (qt w h1 p).isSome=true then nMa C p (D ρ h1) else .bad
theorem Er:bK w C x D ρ h=nMo w C D ρ (x ρ h):=by
 unfold bK nMo
 cases x ρ h with
 | ok p h1=>
  show (match qt w h1 p with | some _=>_ | none=>_)=_
  cases q:qt w h1 p with
  | none=>simp [Res.bind,q]
  | some _=>simp [Res.bind,q,nMa]
 | exc _ _=>rfl
 | bad=>rfl
theorem Hs:nMo w C D ρ (.ok a h)=if (qt w h a).isSome=true then nMa C a (D ρ h) else .bad:=rfl
theorem Ht:nMa C a (.ok J h)=C (a::J) h:=rfl
theorem Hm:vW w C D ρ h=kg (mkO w C) (D ρ h):=rfl
def Hr(w j:Nat)(ρ:Ev)(v:PV)(r:Res PV):SR:=eH r fun o h2=>wv w j v o ρ h2
def JN(w j:Nat)(fo:Ex)(ρ:Ev)(r:Res PV):SR:=eH r fun v h1=>Hr w j ρ v (fo ρ h1)
theorem Eo:pU w j x y ρ h=JN w j x ρ (y ρ h):=rfl
theorem EC:JN w j x ρ (.ok a h)=Hr w j ρ a (x ρ h):=rfl
theorem EB:Hr w j ρ a (.ok b h)=wv w j a b ρ h:=rfl
theorem Hk:FM D ρ h=kg AK (D ρ h):=rfl
theorem Gz(J K:List PV):AK [.tup J,.tup K] h= .ok (zpL J K) h:=rfl
def nTr(f:Nat→Bool)(i:Nat)(gs:Sx)(ρ:Ev)(r:SR):SR:=match r with
 | .exc e h1=>match Ft e with
  | some (C,p)=>if f C=true then (match gs (ρ.set i (some p)) h1 with
   | .rt v h2=>.rt v h2
   | _=>.bad) else .bad
  | none=>.bad
 | r=>r
theorem En:rC f z i g ρ h=nTr f i g ρ (z ρ h):=rfl
theorem Ho(ρ1:Ev):nTr f i g ρ (.nx ρ1 h)= .nx ρ1 h:=rfl
end
end L3
namespace K10
open PySem L2 L3
local macro_rules | `(tactic| simp $c:optConfig only [EV,$xs,*])=>do let a←(("Res.bind_ok FF LS Ix CL Fx tU Fv AC CM CN IJ KT IF IG IE IH IL IP IK tW GL Hu JA JK IQ LO Ks JT yC Gd Hy EE GH Hh Ez Kz Lc Jn DG DF DH Fs Fc Fl Iv Fj Fi Fm CD AB BS Jl xq xr vx vt vw xx xy vG vF xB xC vM vK xt xu vB vz vA xo xp vq vo tP vp xv xw vE vC vD xz xA vJ vH vI szl Dx IM jh Fw GS GF JU FC Kw KA FK FJ KR KQ GQ JS KH LP IA Hx Lb kv0 kv1 kv2 kv3 kv4 kv5 kv6 kv7 kv8 kv9 LD LC LB LA EQ ks0 ks1 ks2 ks3 ks4 ks5 ks6 ks7 ks8 ks9 LI LH LG LF jY ER Jq Jp GM Kg Kf Kb EW Cp EY Cr Ka Cq EK Ke Kq EU Kn Ij HJ Il HG HV HH HZ Co Ib Ia Kl HD HX HW Cn LK Kc Kk EL HO Kh EN Km EM HU EO HP HC HN Aq Ki Cs Ii Ar Ih ES HQ Cm Ig Fa HE HY ET Ic Cl EP HM HL HK HI Ik Ko LJ LL HF HS Gh Ck JY JZ BR Er Hs Ht Hm Eo EC EB Hk Gz En Ho".splitOn.map fun n=>`L3++n.toName)++("List.getElem?_cons_zero List.getElem?_cons_succ List.set_cons_zero List.set_cons_succ List.map_cons List.map_nil List.append_nil List.nil_append List.cons_append if_true if_false reduceIte Bool.not_true Bool.not_false Bool.true_and Bool.false_and Bool.and_true Bool.and_false Bool.true_or Bool.false_or Bool.or_true Bool.or_false eq_self_iff_true true_and and_true Bool.false_eq_true reduceCtorEq List.length_cons List.length_nil List.replicate Nat.sub_self Nat.zero_add Option.isSome_some Option.isSome_none Nat.reduceAdd Nat.reduceLeDiff Int.reduceLT Int.reduceLE decide_true decide_false Int.reduceNeg Int.reducePow Nat.reducePow Int.reduceAdd Int.reduceMul Int.reduceSub Nat.reduceSub and_self Nat.reduceMul Nat.reduceEqDiff".splitOn.map fun n=>n.toName)).toArray.mapM fun n=>`(Lean.Parser.Tactic.simpLemma| $(Lean.mkIdent n):term);`(tactic| simp $c:optConfig only [$a,*,$xs,*])
theorem nT:∀ l:List (List Nat),hZ (l.map PV.str)=some l
 | []=>rfl
 | a::r=>by rw [List.map_cons,hZ,nT r];rfl
theorem LN:rZ .non=true:=rfl
theorem yJ:∀ {l:List PV} (h:List PO),ai l=true→frzs l h=some (l,h)
 | [],_,_=>rfl
 | p::r,h,e=>by
  rw [ai,Bool.and_eq_true] at e
  rw [frzs,im h e.1]
  dsimp only
  rw [yJ h e.2]
theorem aK{fn:List PV→Out}{ps:List PV}{v:PV}(h:List PO)(hp:ai ps=true)(e:fn ps= .ok v):bn fn ps h= .ok v h:=by
 rw [bp,yJ h hp]
 dsimp only
 rw [e]
theorem sX(x:PV)(r:List PV)(h:List PO):kS (.tup (x::r)) (some 1) none h= .ok (.tup r) h:=by
 have e1:HT.sIx (x::r).length 0 (some 1)=1:=by
  have:=HT.sIx_nat (x::r).length 0 1
  rw [show ((1:Nat):Int)=1 from rfl] at this
  rw [this,List.length_cons]
  omega
 have e2:HT.sIx (x::r).length (x::r).length none=(x::r).length:=rfl
 unfold kS
 dsimp only
 rw [if_neg (by rw [e1];intro z;cases z.1)]
 unfold cut
 rw [e1,e2]
 simp
theorem at0{α:Type}(a:α)(l:List α):atI (a::l) 0=some a:=gM (by decide) rfl
theorem at1{α:Type}(a b:α)(l:List α):atI (a::b::l) 1=some b:=gM (by decide) rfl
theorem at2{α:Type}(a b c:α)(l:List α):atI (a::b::c::l) 2=some c:=gM (by decide) rfl
theorem at3{α:Type}(a b c d:α)(l:List α):atI (a::b::c::d::l) 3=some d:=gM (by decide) rfl
theorem at4{α:Type}(a b c d e:α)(l:List α):atI (a::b::c::d::e::l) 4=some e:=gM (by decide) rfl
theorem Lp(x:PV)(h:List PO):sS h (.tup [x])=some true:=rfl
theorem Lq(h:List PO):sS h (.tup [])=some false:=rfl
theorem bl2(k:Nat):Nat.ble 2 (dl (k+1))=true:=rfl
def hW(n:Int)(ps:List (List Nat))(d:List (PK×PV)):List PO:= [.obj 601 [.ref 1,.ref 3],.obj 600 [.ref 2,.int n],.lst (ps.map PV.str),.dct d]
def okD(d:List (PK×PV)):Bool:=d.all fun x=>ltv 4 x.2
section
variable (n m:Int) (ps qs:List (List Nat)) (d:List (PK×PV)) (ρ:Ev) (t:List Nat) (v:PV)
theorem jI:iu 601 0 (.ref 0) (hW n ps d)= .ok (.ref 1) (hW n ps d):=rfl
theorem Gn:iu 601 1 (.ref 0) (hW n ps d)= .ok (.ref 3) (hW n ps d):=rfl
theorem CJ:iu 600 0 (.ref 1) (hW n ps d)= .ok (.ref 2) (hW n ps d):=rfl
theorem Go:iu 600 1 (.ref 1) (hW n ps d)= .ok (.int n) (hW n ps d):=rfl
theorem FW:wv 600 1 (.int m) (.ref 1) ρ (hW n ps d)= .nx ρ (hW m ps d):=rfl
theorem o_w:(qt 601 (hW n ps d) (.ref 0)).isSome=true:=rfl
theorem o_p:(qt 600 (hW n ps d) (.ref 1)).isSome=true:=rfl
theorem d_0:ao (hW n ps d) (.ref 0)= .ref 0:=rfl
theorem d_1:ao (hW n ps d) (.ref 1)= .ref 1:=rfl
theorem l_2:sd (hW n ps d) (.ref 2)=true:=rfl
theorem a_2(hl:ps.length<16777216):iH (.ref 2) [.str t] (hW n ps d)= .ok .non (hW n (ps++ [t]) d):=by
 have e:(ps.map PV.str).length<sizeLine:=by rw [List.length_map];exact Nat.lt_of_lt_of_le hl (by decide)
 show (if (ps.map PV.str).length<sizeLine then Res.ok PV.non [PO.obj 601 [.ref 1,.ref 3],.obj 600 [.ref 2,.int n],.lst (ps.map PV.str++ [.str t]),.dct d] else .bad)=_
 rw [if_pos e]
 unfold hW
 rw [List.map_append]
 rfl
theorem uh:∀ qs:List (List Nat),(qs.map PV.str).all (ltv 4)=true
 | []=>rfl
 | _::r=>uh r
theorem mV{d:List (PK×PV)}(hd:okD d=true):rm (hW n ps d).length v (hW m qs d)= .ok v (hW m qs d):=by
 have e:((hW m qs d).take (hW n ps d).length).all (ltP (hW n ps d).length)=true:=by
  show ([PO.obj 601 [.ref 1,.ref 3],.obj 600 [.ref 2,.int m],.lst (qs.map PV.str),.dct d].all (ltP 4))=true
  have h2:ltP 4 (.lst (qs.map PV.str))=true:=uh qs
  have h3:ltP 4 (.dct d)=true:=hd
  simp only [List.all_cons,h2,h3]
  rfl
 unfold rm
 rw [e]
 rfl
theorem gO{d:List (PK×PV)}(hd:okD d=true)(hv:v.pure=true):CX (hW n ps d).length v (hW m qs d)= .exc v (hW m qs d):=by
 have e:((hW m qs d).take (hW n ps d).length).all (ltP (hW n ps d).length)=true:=by
  show ([PO.obj 601 [.ref 1,.ref 3],.obj 600 [.ref 2,.int m],.lst (qs.map PV.str),.dct d].all (ltP 4))=true
  have h2:ltP 4 (.lst (qs.map PV.str))=true:=uh qs
  have h3:ltP 4 (.dct d)=true:=hd
  simp only [List.all_cons,h2,h3]
  rfl
 unfold CX
 rw [e,hv]
 rfl
theorem sw{d:List (PK×PV)}(hd:okD d=true)(hv:v.pure=true):xG (hW n ps d).length v (hW m qs d)= .ok v (hW m qs d):=by
 unfold xG
 rw [if_pos (vg hv),mV n m ps qs v hd]
end
section
variable (k:Nat) (n:Int) (ps:List (List Nat)) {d:List (PK×PV)} (hd:okD d=true)
include hd
theorem nB(hl:ps.length<16777216)(t:List Nat):X_ (k+1) .Pen_write [.ref 1,.str t] (hW n ps d)= .ok .non (hW n (ps++ [t]) d):=by
 show bq (iz (F k)) 2 2 [.ref 1,.str t] (hW n ps d)=_
 simp only [EV,bq,iz,CJ,l_2,a_2 _ _ _ _ hl,d_1,mV _ _ _ _ _ hd]
theorem nE(h0:n<2000):X_ (k+1) .Pen_count_one [.ref 1] (hW n ps d)= .ok .non (hW (n+1) ps d):=by
 show bq (cG (F k) _) 1 1 [.ref 1] (hW n ps d)=_
 have e:(decide (n+1>2000))=false:=decide_eq_false (by omega)
 simp only [EV,bq,cG,Go,FW,d_1,pGt,e,mV _ _ _ _ _ hd]
theorem zX(i:Int)(t:List Nat)(h0:n<2000)(hl:ps.length<16777216):X_ (k+2) .Pen_begin_round [.ref 1,.int i,.str t] (hW n ps d)= .ok .non (hW (n+1) (if i>0 then ps++ [t] else ps) d):=by
 have c:=nE k n ps hd h0
 have w:=nB k (n+1) ps hd hl t
 show bq (bR (F (k+1)) (X_ (k+1))) 3 3 [.ref 1,.int i,.str t] (hW n ps d)=_
 by_cases e:i>0
 ·have e':decide (i>0)=true:=decide_eq_true e
  simp only [EV,bq,bR,d_1,o_p,c,w,pGt,e',mV _ _ _ _ _ hd]
  rw [if_pos e]
 ·have e':decide (i>0)=false:=decide_eq_false e
  simp only [EV,bq,bR,d_1,o_p,c,w,pGt,e',mV _ _ _ _ _ hd]
  rw [if_neg e]
theorem ja(r:List PV)(x y:PV)(h0:n<2000)(e:F (k+1) .found [x,.tup r]= .ok (.tup [y]))(hx:x.pure=true)(hr:ai r=true)(hy:y.pure=true):X_ (k+2) .Pen_thing_wanted [.ref 1,.tup (x::r)] (hW n ps d)= .ok y (hW (n+1) ps d):=by
 have c:=nE k n ps hd h0
 show bq (bx (F (k+1)) (X_ (k+1)) _) 2 3 [.ref 1,.tup (x::r)] (hW n ps d)=_
 have z1:∀ h,kS (.tup (x::r)) (some 1) none h= .ok (.tup r) h:=sX x r
 have z2:∀ h,bn (F (k+1) .found) [x,.tup r] h= .ok (.tup [y]) h:=fun h=>aK h (by simp [ai,PV.pure,hx,hr]) e
 have n0:∀ h,pIx (.tup [y]) (.int 0) h= .ok y h:=fun h=>by show Res.ok (ao h y) h=_;rw [ak h hy]
 simp only [EV,bq,bx,d_1,o_p,c,at0,ak _ hx,z1,z2,n0,Lp,sw _ _ _ _ _ hd hy]
theorem jT(r:List PV)(x:PV)(h0:n<2000)(e:F (k+1) .found [x,.tup r]= .ok (.tup []))(hx:x.pure=true)(hr:ai r=true):X_ (k+2) .Pen_thing_wanted [.ref 1,.tup (x::r)] (hW n ps d)= .exc (.exa 500 (.str [102,105,101,108,100])) (hW (n+1) ps d):=by
 have c:=nE k n ps hd h0
 show bq (bx (F (k+1)) (X_ (k+1)) (Nat.ble 2 (dl (k+1)))) 2 3 [.ref 1,.tup (x::r)] (hW n ps d)=_
 have z2:∀ h,bn (F (k+1) .found) [x,.tup r] h= .ok (.tup []) h:=fun h=>aK h (by simp [ai,PV.pure,hx,hr]) e
 simp only [EV,bq,bx,d_1,o_p,c,at0,ak _ hx,sX,z2,Lq,bl2]
 exact gO _ _ _ _ _ hd rfl
end
theorem fm{v:PV}(h:List PO)(p:v.pure=true):br v h= .ok v:=by
 unfold br
 rw [im h p]
theorem tT(k:Nat)(v:PV)(p:v.pure=true):F (k+1) .found [v,.tup []]= .ok (.tup [v]):=by
 show ar (jE (F k)) 2 4 [v,.tup []]=_
 simp only [EV,ar,jE,ak _ p]
 exact fm _ (by simp [PV.pure,ai,p])
def xf(w:List Nat):PV:=.exa 500 (.str w)
section
variable (k:Nat) (n:Int) (ps:List (List Nat)) {d:List (PK×PV)} (hd:okD d=true) (r:List PV) (x:PV) (h0:n<2000) (hx:x.pure=true) (hr:ai r=true)
include hd h0 hx hr
theorem BK(xs:List PV)(e:F (k+1) .found [x,.tup r]= .ok (.tup [.lst xs]))(hy:ai xs=true):X_ (k+3) .Pen_list_wanted [.ref 1,.tup (x::r)] (hW n ps d)= .ok (.lst xs) (hW (n+1) ps d):=by
 have c:=ja k n ps hd r x (.lst xs) h0 e hx hr (by simpa [PV.pure] using hy)
 show bq (bD (F (k+2)) (X_ (k+2)) _) 2 3 [.ref 1,.tup (x::r)] (hW n ps d)=_
 simp only [EV,bq,bD,d_1,o_p,c]
 exact sw _ _ _ _ _ hd (by simpa [PV.pure] using hy)
theorem zW(b:Bool)(e:F (k+1) .found [x,.tup r]= .ok (.tup [.bl b])):X_ (k+3) .Pen_truth_wanted [.ref 1,.tup (x::r)] (hW n ps d)= .ok (.bl b) (hW (n+1) ps d):=by
 have c:=ja k n ps hd r x (.bl b) h0 e hx hr rfl
 show bq (bw (F (k+2)) (X_ (k+2)) _) 2 3 [.ref 1,.tup (x::r)] (hW n ps d)=_
 simp only [EV,bq,bw,d_1,o_p,c]
 exact sw _ _ _ _ _ hd rfl
end
theorem Cv(n:Int)(ps:List (List Nat))(d:List (PK×PV))(hz:(ps.map (fun l=>l.length)).sum≤16777216):eG (.str []) [.ref 2] (hW n ps d)= .ok (.str ps.flatten) (hW n ps d):=by
 rw [mH (ls:=ps) rfl (by simpa using hz),jf]
section
variable (k:Nat) (n:Int) (ps:List (List Nat)) {d:List (PK×PV)} (hd:okD d=true)
include hd
theorem uO(hz:(ps.map (fun l=>l.length)).sum≤16777216):X_ (k+1) .Pen_outcome_written [.ref 1] (hW n ps d)= .ok (.tup [.str [119,114,105,116,116,101,110],.str ps.flatten]) (hW n ps d):=by
 show bq (cC (F k)) 1 1 [.ref 1] (hW n ps d)=_
 have j:=Cv n ps d hz
 simp only [EV,bq,cC,d_1,CJ,j]
 exact sw _ _ _ _ _ hd rfl
theorem uP(hz:(ps.map (fun l=>l.length)).sum≤16777216)(w:List Nat):X_ (k+1) .Pen_outcome_refused [.ref 1,.str w] (hW n ps d)= .ok (.tup [.str [114,101,102,117,115,101,100],.str w,.str ps.flatten]) (hW n ps d):=by
 show bq (cD (F k)) 2 2 [.ref 1,.str w] (hW n ps d)=_
 have j:=Cv n ps d hz
 simp only [EV,bq,cD,d_1,CJ,j]
 exact sw _ _ _ _ _ hd rfl
end
def fU:List Nat:= [108,111,110,103]
def rn:List Nat:= [108,105,115,116]
def nk:List Nat:= [116,114,117,116,104]
def cE:List Nat:= [102,105,101,108,100]
section
variable (k:Nat) (n n2:Int) (ps:List (List Nat)) {d:List (PK×PV)} (hd:okD d=true)
include hd
theorem uQ(h0:n=2000):X_ (k+2) .Pen_count_one [.ref 1] (hW n ps d)= .exc (xf fU) (hW (n+1) ps d):=by
 show bq (cG (F (k+1)) (Nat.ble 2 (dl (k+1)))) 1 1 [.ref 1] (hW n ps d)=_
 have e:(decide (n+1>2000))=true:=decide_eq_true (by omega)
 simp only [EV,bq,cG,Go,FW,d_1,pGt,e,bl2]
 exact gO _ _ _ _ _ hd rfl
theorem wz(i:Int)(t:List Nat)(h0:n=2000):X_ (k+3) .Pen_begin_round [.ref 1,.int i,.str t] (hW n ps d)= .exc (xf fU) (hW (n+1) ps d):=by
 have c:=uQ k n ps hd h0
 show bq (bR (F (k+2)) (X_ (k+2))) 3 3 [.ref 1,.int i,.str t] (hW n ps d)=_
 simp only [EV,bq,bR,d_1,o_p,c]
 exact gO _ _ _ _ _ hd rfl
theorem hU(r:List PV)(h0:n=2000):X_ (k+3) .Pen_thing_wanted [.ref 1,.tup r] (hW n ps d)= .exc (xf fU) (hW (n+1) ps d):=by
 have c:=uQ k n ps hd h0
 show bq (bx (F (k+2)) (X_ (k+2)) (Nat.ble 2 (dl (k+2)))) 2 3 [.ref 1,.tup r] (hW n ps d)=_
 simp only [EV,bq,bx,d_1,o_p,c]
 exact gO _ _ _ _ _ hd rfl
section
variable (r:List PV) (w:List Nat) (c:X_ (k+1) .Pen_thing_wanted [.ref 1,.tup r] (hW n ps d)= .exc (xf w) (hW n2 ps d))
include c
theorem FZ(p:List Nat):X_ (k+2) .Pen_put [.ref 1,.tup r,.str p] (hW n ps d)= .exc (xf w) (hW n2 ps d):=by
 show bq (fN (F (k+1)) (X_ (k+1)) _) 3 5 [.ref 1,.tup r,.str p] (hW n ps d)=_
 simp only [EV,bq,fN,d_1,o_p,c,jY]
 exact gO _ _ _ _ _ hd rfl
theorem xl:X_ (k+2) .Pen_list_wanted [.ref 1,.tup r] (hW n ps d)= .exc (xf w) (hW n2 ps d):=by
 show bq (bD (F (k+1)) (X_ (k+1)) _) 2 3 [.ref 1,.tup r] (hW n ps d)=_
 simp only [EV,bq,bD,d_1,o_p,c,jY]
 exact gO _ _ _ _ _ hd rfl
theorem sQ:X_ (k+2) .Pen_truth_wanted [.ref 1,.tup r] (hW n ps d)= .exc (xf w) (hW n2 ps d):=by
 show bq (bw (F (k+1)) (X_ (k+1)) _) 2 3 [.ref 1,.tup r] (hW n ps d)=_
 simp only [EV,bq,bw,d_1,o_p,c,jY]
 exact gO _ _ _ _ _ hd rfl
end
variable (r:List PV) (v:PV) (pv:v.pure=true) (c:X_ (k+1) .Pen_thing_wanted [.ref 1,.tup r] (hW n ps d)= .ok v (hW n2 ps d))
include c pv
theorem EJ(q:∀ h,aH [v,.ty "list"] h= .ok (.bl false) h):X_ (k+2) .Pen_list_wanted [.ref 1,.tup r] (hW n ps d)= .exc (xf rn) (hW n2 ps d):=by
 show bq (bD (F (k+1)) (X_ (k+1)) (Nat.ble 2 (dl (k+1)))) 2 3 [.ref 1,.tup r] (hW n ps d)=_
 simp only [EV,bq,bD,d_1,o_p,c,ak _ pv,q,bl2]
 exact gO _ _ _ _ _ hd rfl
theorem AV(q:∀ h,aH [v,.ty "bool"] h= .ok (.bl false) h):X_ (k+2) .Pen_truth_wanted [.ref 1,.tup r] (hW n ps d)= .exc (xf nk) (hW n2 ps d):=by
 show bq (bw (F (k+1)) (X_ (k+1)) (Nat.ble 2 (dl (k+1)))) 2 3 [.ref 1,.tup r] (hW n ps d)=_
 simp only [EV,bq,bw,d_1,o_p,c,ak _ pv,q,bl2]
 exact gO _ _ _ _ _ hd rfl
end
def wW:List Nat:= [119,111,114,100]
def wN:List Nat:= [110,117,109,98,101,114]
theorem rQ(C:Fn→List PV→Out)(t:PV)(al:List Nat)(h:List L3.PO):∀ (l:List Nat) (o:Option PV),∃ o',bh (gNm 2) (ei C) (l.map fun c=>PV.str [c]) [some t,some (.str al),o] h=if l.all al.contains=true then .nx [some t,some (.str al),o'] h else .rt (.bl false) h
 | [],o=>⟨o,rfl⟩
 | c::r,o=>by
  obtain ⟨o',e⟩:=rQ C t al h r (some (.str [c]))
  refine ⟨o',?_⟩
  rw [List.map_cons,oS,List.all_cons]
  cases hc:al.contains c with
  | true=>
   simp only [EV,ei,sg,hc]
   simpa only [ei,Bool.true_and] using e
  | false=>simp only [EV,ei,sg,hc]
theorem made(k:Nat)(l al:List Nat):F (k+1) .is_made_of [.str l,.str al]= .ok (.bl (l.all al.contains)):=by
 obtain ⟨o',e⟩:=rQ (F k) (.str l) al [] l none
 show ar (fZ (F k)) 2 3 [.str l,.str al]=_
 cases q:l.all al.contains with
 | true=>simp only [EV,ar,fZ,e,q,br]
 | false=>simp only [EV,ar,fZ,e,q,br]
theorem rY(k:Nat)(l:List Nat)(n:Int)(hl:l.length≤16777216):F (k+2) .is_text [.str l,.int n]= .ok (.bl (decide ((l.length:Int)≤n)&&l.all bz.contains)):=by
 have e:=made k l bz
 show ar (bU (F (k+1))) 2 2 [.str l,.int n]=_
 cases q:decide ((l.length:Int)≤n) with
 | true=>
  simp only [EV,ar,bU,bp,hl,q,e,br]
 | false=>
  simp only [EV,ar,bU,bp,hl,q,e,br]
theorem Dy{l A B:List Nat}(h:∀ c∈l,c∈A)(s:∀ c∈A,c∈B):l.all B.contains=true:=by
 rw [List.all_eq_true];intro c hc;simpa using s c (h c hc)
theorem Df{l A:List Nat}(h:∀ c∈l,c∈A):l.all A.contains=true:=Dy h fun _ h=>h
theorem zj:∀ c∈bz,c<1114112:=by decide+kernel
theorem Le:∀ c∈fX,c∈bz:=by decide+kernel
theorem tV(a b:List Nat)(r:Bool)(ha:∀ c∈a,c<1114112)(hb:∀ c∈b,c<1114112)(hr:decide (a=b)=r)(h:List L3.PO):pEq (.str a) (.str b) h= .ok (.bl r) h:=by rw [wT a b h ha hb,hr]
theorem Jd(k:Nat):F (k+1) .way_of [.str wW]= .ok (.ins 0 []):=by
 show ar (dA (F k)) 1 1 [.str wW]=_
 have e:∀ h,oz (.str wW) (.str [119,111,114,100]) h= .ok (.bl true) h:=fun h=>(yM _ _ _).trans (tV _ _ _ (by decide) (by decide) (by decide) h)
 simp only [EV,ar,dA,ks,e,br]
theorem Jg(k:Nat):F (k+1) .way_of [.str wN]= .ok (.ins 1 []):=by
 show ar (dA (F k)) 1 1 [.str wN]=_
 have e1:∀ h,oz (.str wN) (.str [119,111,114,100]) h= .ok (.bl false) h:=fun h=>(yM _ _ _).trans (tV _ _ _ (by decide) (by decide) (by decide) h)
 have e2:∀ h,oz (.str wN) (.str [110,117,109,98,101,114]) h= .ok (.bl true) h:=fun h=>(yM _ _ _).trans (tV _ _ _ (by decide) (by decide) (by decide) h)
 simp only [EV,ar,dA,ks,e1,e2,br]
theorem rT{v:Int}(h1: -1000000000000000000000000000000<v)(h2:v<1000000000000000000000000000000):v.natAbs.log2<1920:=by
 have:v.natAbs<2 ^ 100:=by
  have:(1000000000000000000000000000000:Nat)<2 ^ 100:=by decide
  omega
 by_cases q:v.natAbs=0
 ·rw [q];decide
 ·have:=(Nat.log2_lt q).mpr this
  omega
abbrev QE:List Nat→List Nat:=rl [94] [94,34,10] [94,113,110]
abbrev PEs:List Nat→List Nat:=rl [126] [126,60,62,38,124,10] [126,108,103,97,98,110]
abbrev LE:List Nat→List Nat:=rl [126] [126,10] [126,110]
def sc_(d:List (PK×PV))(b:PV):PV:=.tup [.dct d,b]
theorem dz(d:List (PK×PV))(k k':PK)(v:PV):bJ (cg d k v) k'=if k'=k then some v else bJ d k':=by
 have hit:∀ l:List (PK×PV),(l.any fun kv=>decide (kv.1=k))=true→bJ (l.map fun kv=>if kv.1=k then (kv.1,v) else kv) k'=if k'=k then some v else bJ l k':=by
  intro l
  induction l with
  | nil=>intro h;cases h
  | cons a r ih=>
   intro h
   by_cases e:a.1=k
   ·by_cases e2:k'=k
    ·rw [if_pos e2]
     unfold bJ
     rw [List.map_cons,if_pos e,List.find?_cons_of_pos (by simp [e,e2])]
     rfl
    ·rw [if_neg e2]
     have miss:∀ t:List (PK×PV),bJ (t.map fun kv=>if kv.1=k then (kv.1,v) else kv) k'=bJ t k':=by
      intro t
      induction t with
      | nil=>rfl
      | cons b t it=>
       unfold bJ at it ⊢
       rw [List.map_cons]
       by_cases f:b.1=k
       ·rw [if_pos f,List.find?_cons_of_neg (by simp [f];exact fun z=>e2 z.symm),List.find?_cons_of_neg (by simp [f];exact fun z=>e2 z.symm)]
        exact it
       ·rw [if_neg f]
        by_cases g:b.1=k'
        ·rw [List.find?_cons_of_pos (by simp [g]),List.find?_cons_of_pos (by simp [g])]
        ·rw [List.find?_cons_of_neg (by simp [g]),List.find?_cons_of_neg (by simp [g])]
         exact it
     exact miss (a::r)
   ·have h':(r.any fun kv=>decide (kv.1=k))=true:=by simpa [List.any_cons,e] using h
    have i2:=ih h'
    unfold bJ at i2 ⊢
    rw [List.map_cons,if_neg e]
    by_cases g:a.1=k'
    ·have:k'≠k:=fun z=>e (g.trans z)
     rw [if_neg this,List.find?_cons_of_pos (by simp [g]),List.find?_cons_of_pos (by simp [g])]
    ·rw [List.find?_cons_of_neg (by simp [g]),List.find?_cons_of_neg (by simp [g])]
     exact i2
 unfold cg
 split
 ·rename_i h;exact hit d h
 ·rename_i h
  unfold bJ
  rw [List.find?_append]
  have none_:∀ x∈d,x.1≠k:=fun x hx z=>h (List.any_eq_true.mpr ⟨x,hx,by simp [z]⟩)
  by_cases e:k'=k
  ·rw [if_pos e]
   have:d.find? (fun kv=>decide (kv.1=k'))=none:=List.find?_eq_none.mpr fun x hx=>by simp [e];exact none_ x hx
   rw [this,e]
   simp
  ·rw [if_neg e]
   have: [(k,v)].find? (fun kv=>decide (kv.1=k'))=none:=by simp;exact fun z=>e z.symm
   rw [this,Option.or_none]
theorem kU(k:Nat)(x:List Nat)(r:List PV)(a:PV)(ref:List PV)(d:List (PK×PV))(b:PV)(e:bJ d (.inr x)=some (.tup (a::ref)))(hd:(PV.dct d).pure=true)(hr:ai r=true)(hf:ai (a::ref)=true)(hl:ref.length+r.length≤1000):F (k+1) .stood_for [.tup (.str x::r),sc_ d b]= .ok (.tup (a::ref++r)):=by
 show ar (iK (F k)) 2 2 [.tup (.str x::r),.tup [.dct d,b]]=_
 have q:(PV.tup (a::ref)).pure=true:=by simpa [PV.pure] using hf
 have ad:aO (.tup (a::ref)) (.tup r) []= .ok (.tup (a::ref++r)) []:=by
  show (if (a::ref).isEmpty=false∧(a::ref).length+r.length≤sizeLine then Res.ok (PV.tup (a::ref++r)) [] else .bad)=_
  rw [if_pos ⟨rfl,Nat.le_trans (by rw [List.length_cons];omega:(a::ref).length+r.length≤1001) (by decide)⟩]
 simp only [EV,ar,iK,at0,sX,ak _ hd,e,ak _ q,ad]
 refine fm _ ?_
 rw [PV.pure]
 have pa:∀ (l m:List PV),ai l=true→ai m=true→ai (l++m)=true:=fun l m hl hm=>by
  induction l with
  | nil=>exact hm
  | cons x t ih=>
   rw [ai,Bool.and_eq_true] at hl
   rw [List.cons_append,ai,hl.1,ih hl.2];rfl
 exact pa _ _ hf hr
theorem cb:∀ (d:List (PK×PV)) (k:PK) (v:PV),aI d=true→v.pure=true→aI (cg d k v)=true:=by
 intro d k v hd hv
 have mp:∀ l:List (PK×PV),aI l=true→aI (l.map fun kv=>if kv.1=k then (kv.1,v) else kv)=true:=by
  intro l
  induction l with
  | nil=>intro _;rfl
  | cons a r ih=>
   intro h
   obtain ⟨a1,a2⟩:=a
   rw [aI,Bool.and_eq_true] at h
   rw [List.map_cons]
   by_cases e:a1=k
   ·rw [if_pos e,aI,hv,ih h.2];rfl
   ·rw [if_neg e,aI,h.1,ih h.2];rfl
 have ap:∀ l:List (PK×PV),aI l=true→aI (l++ [(k,v)])=true:=by
  intro l
  induction l with
  | nil=>intro _;show aI [(k,v)]=true;rw [aI,hv];rfl
  | cons a r ih=>
   intro h
   obtain ⟨a1,a2⟩:=a
   rw [aI,Bool.and_eq_true] at h
   rw [List.cons_append,aI,h.1,ih h.2];rfl
 unfold cg
 split
 ·exact mp d hd
 ·exact ap d hd
theorem BF{d:List (PK×PV)}(hd:(PV.dct d).pure=true)(k:PK){v:PV}(hv:v.pure=true):(PV.dct (cg d k v)).pure=true:=by
 rw [PV.pure] at hd ⊢
 exact cb d k v hd hv
theorem yH(k:Nat)(x:List Nat)(m:List PV)(d:List (PK×PV))(b:PV)(hd:(PV.dct d).pure=true)(hb:b.pure=true)(hm:ai m=true)(hl:d.length≤1000):F (k+1) .scope_in_loop [.str x,.tup m,sc_ d b]= .ok (sc_ (cg d (.inr x) (.tup m)) b):=by
 have q:(PV.tup m).pure=true:=by simpa [PV.pure] using hm
 have l2:d.length<16777216:=Nat.lt_of_le_of_lt hl (by decide)
 show ar (fH (F k)) 3 4 [.str x,.tup m,.tup [.dct d,b]]=_
 simp only [Res.bind_ok,List.getElem?_cons_zero,List.getElem?_cons_succ,List.set_cons_zero,List.set_cons_succ,List.map_cons,List.map_nil,List.append_nil,List.nil_append,List.cons_append,if_true,if_false,reduceIte,Bool.not_true,Bool.not_false,Bool.true_and,Bool.false_and,Bool.and_true,Bool.and_false,Bool.true_or,Bool.false_or,Bool.or_true,Bool.or_false,eq_self_iff_true,true_and,and_true,Bool.false_eq_true,reduceCtorEq,List.length_cons,List.length_nil,List.replicate,Nat.sub_self,Nat.zero_add,Option.isSome_some,Option.isSome_none,Nat.reduceAdd,Nat.reduceLeDiff,Int.reduceLT,Int.reduceLE,decide_true,decide_false,szl,Int.reduceNeg,Int.reducePow,Nat.reducePow,Int.reduceAdd,Int.reduceMul,Int.reduceSub,Nat.reduceSub,and_self,Nat.reduceMul,Nat.reduceEqDiff,kv0,kv1,kv2,kv3,kv4,kv5,kv6,kv7,kv8,kv9,LD,LC,LB,LA,LS,Kf,Kg,Ke,Kq,Kb,Ix,EU,Kn,Ij,HJ,Il,HG,HV,HH,HZ,Co,Ib,Ia,Kl,HX,HW,CL,Cn,LK,Kc,Kk,EW,Fx,EL,HO,Kh,EN,Km,EM,HU,EO,HP,HC,HN,Aq,Ki,EY,Cs,Ii,tU,Fv,ER,Jq,Jp,GM,ES,HQ,Cm,Ig,Fa,HE,HY,EQ,ks0,ks1,ks2,ks3,ks4,ks5,ks6,ks7,ks8,ks9,LI,LH,LG,LF,jY,AC,ET,Ic,CM,CN,IJ,KT,IF,IG,IE,IH,IL,IP,IK,tW,GL,Hu,JA,JK,IQ,LO,Ks,Ck,Gh,JY,JZ,JT,yC,Gd,Hy,EE,GH,Hh,Ez,Kz,Lc,Jn,DG,DF,DH,Fs,Fc,Fl,Iv,Fj,Fi,Fm,CD,AB,BS,Jl,xq,xr,vx,vt,vw,xx,xy,vG,vF,xB,xC,vM,vK,xt,xu,vB,vz,vA,xo,xp,vq,vo,tP,vp,xv,xw,vE,vC,vD,xz,xA,vJ,vH,vI,Dx,Cl,HM,HL,HK,Ka,Fw,EP,Cq,EK,HF,HS,GS,GF,JU,FC,Kw,KA,FK,FJ,KR,KQ,GQ,JS,HI,Ik,Ko,KH,LJ,LL,LP,Cr,IA,HD,Hx,Cp,Ar,Ih,Lb,jh,IM,BR,Er,Hs,Ht,Hm,Eo,EC,EB,Hk,Gz,En,Ho,FF,ar,fH,at0,at1,ak _ hd,ak _ q,ak _ hb,l2,sp _ (show aI (cg d (.inr x) (.tup m))=true from cb d _ _ (by rw [PV.pure] at hd;exact hd) q)]
 refine fm _ ?_
 rw [PV.pure,ai,ai,hb,BF hd _ q]
 rfl
theorem eS{g:Gx}{b:Sx}{p:PV}{r:List PV}{ρ ρ1 ρ2:Ev}{h h2:List PO}(hg:g p ρ=some ρ1)(hb:b ρ1 h= .nx ρ2 h2):bh g b (p::r) ρ h=bh g b r ρ2 h2:=by simp only [bh,hg,hb]
abbrev Tr:=List Nat×List PV×List PV
def hnd(acc:List (PK×PV)):List Tr→List (PK×PV)
 | []=>acc
 | t::r=>hnd (cg acc (.inr t.1) (.tup t.2.2)) r
theorem sk(k:Nat)(a b c:Option PV)(S:PV)(hS:S.pure=true):∀ (ts:List Tr) (acc:List (PK×PV)) (x y:Option PV),(∀ t∈ts,F k .stood_for [.tup t.2.1,S]= .ok (.tup t.2.2)∧ai t.2.1=true∧ai t.2.2=true)→acc.length+ts.length≤1000→
  ∃ x' y',bh (gTp 2 (dJ (gNm 4) (dJ (gNm 5) lf))) (dZ (F k)) (zpL (ts.map fun t=>PV.str t.1) (ts.map fun t=>PV.tup t.2.1)) [some (.ref 0),b,c,some S,x,y] [.dct acc]= .nx [some (.ref 0),b,c,some S,x',y'] [.dct (hnd acc ts)]
 | [],acc,x,y,_,_=>⟨x,y,rfl⟩
 | t::r,acc,x,y,h,hl=>by
  obtain ⟨e,p1,p2⟩:=h t List.mem_cons_self
  have l2:acc.length<16777216:=Nat.lt_of_le_of_lt (by rw [List.length_cons] at hl;omega:acc.length≤1000) (by decide)
  have pl:(cg acc (.inr t.1) (.tup t.2.2)).length≤acc.length+1:=by
   unfold cg
   split
   ·rw [List.length_map];omega
   ·rw [List.length_append];exact Nat.le_refl _
  obtain ⟨x',y',lp⟩:=sk k a b c S hS r (cg acc (.inr t.1) (.tup t.2.2)) (some (.str t.1)) (some (.tup t.2.1)) (fun u hu=>h u (List.mem_cons_of_mem _ hu)) (by rw [List.length_cons] at hl;omega)
  refine ⟨x',y',?_⟩
  rw [List.map_cons,List.map_cons,zpL]
  have q:(PV.tup t.2.1).pure=true:=by simpa [PV.pure] using p1
  have q2:(PV.tup t.2.2).pure=true:=by simpa [PV.pure] using p2
  have z:∀ hh,bn (F k .stood_for) [.tup t.2.1,S] hh= .ok (.tup t.2.2) hh:=fun hh=>aK hh (by simp [ai,q,hS]) e
  refine (eS rfl ?_).trans lp
  simp only [EV,dZ,ak _ q,ak _ hS,z,l2]
theorem rX(n:Nat):∀ d:List (PK×PV),aI d=true→(d.all fun x=>ltv n x.2)=true
 | [],_=>rfl
 | (a,b)::r,h=>by
  rw [aI,Bool.and_eq_true] at h
  rw [List.all_cons,rX n r h.2,Bool.and_true]
  exact vg h.1
theorem gD:∀ (ts:List Tr) (acc:List (PK×PV)),aI acc=true→(∀ t∈ts,ai t.2.2=true)→aI (hnd acc ts)=true
 | [],_,h,_=>h
 | t::r,acc,h,g=>gD r _ (cb acc _ _ h (by have:=g t List.mem_cons_self;simpa [PV.pure] using this)) fun u hu=>g u (List.mem_cons_of_mem _ hu)
def okT(k:Nat)(S:PV)(ts:List Tr):Prop:=∀ t∈ts,F k .stood_for [.tup t.2.1,S]= .ok (.tup t.2.2)∧ai t.2.1=true∧ai t.2.2=true
def tnm(ts:List Tr):PV:=.tup (ts.map fun t=>PV.str t.1)
def tpt(ts:List Tr):PV:=.tup (ts.map fun t=>PV.tup t.2.1)
theorem fw:∀ ts:List Tr,(tnm ts).pure=true
 | []=>rfl
 | _::r=>by have:=fw r;unfold tnm at this ⊢;rw [PV.pure] at this ⊢;rw [List.map_cons,ai,this];rfl
theorem er{k:Nat}{S:PV}:∀ {ts:List Tr},okT k S ts→(tpt ts).pure=true
 | [],_=>rfl
 | t::r,h=>by
  have:=er (ts:=r) fun u hu=>h u (List.mem_cons_of_mem _ hu)
  have q:(PV.tup t.2.1).pure=true:=by have:=(h t List.mem_cons_self).2.1;simpa [PV.pure] using this
  unfold tpt at this ⊢;rw [PV.pure] at this ⊢;rw [List.map_cons,ai,this,q];rfl
theorem Iu(k:Nat)(S:PV)(hS:S.pure=true)(ts:List Tr)(acc:List (PK×PV))(h:okT k S ts)(ha:aI acc=true)(hl:acc.length+ts.length≤1000):X_ (k+1) .with_handed_in [.ref 0,tnm ts,tpt ts,S] [.dct acc]= .ok (.ref 0) [.dct (hnd acc ts)]:=by
 obtain ⟨x',y',lp⟩:=sk k none (some (tnm ts)) (some (tpt ts)) S hS ts acc none none h hl
 show bq (eP (F k)) 4 6 [.ref 0,tnm ts,tpt ts,S] [.dct acc]=_
 have z:∀ hh,AK [tnm ts,tpt ts] hh= .ok (zpL (ts.map fun t=>PV.str t.1) (ts.map fun t=>PV.tup t.2.1)) hh:=fun hh=>rfl
 simp only [EV,bq,eP,ak _ (fw ts),ak _ (er h),z,lp]
 have e:([PO.dct (hnd acc ts)].take 1).all (ltP 1)=true:=by
  show ((hnd acc ts).all (fun x=>ltv 1 x.2)&&true)=true
  rw [rX 1 _ (gD ts acc ha fun t ht=>(h t ht).2.2)]
  rfl
 show xG 1 (.ref 0) [.dct (hnd acc ts)]=_
 unfold xG
 rw [if_pos (show ltv 1 (PV.ref 0)=true from rfl)]
 unfold rm
 rw [e]
 rfl
theorem Ir(k:Nat)(S hs bd a b c e m nn:PV)(hS:S.pure=true)(ts:List Tr)(h:okT k S ts)(hl:ts.length≤1000)(p1:hs.pure=true)(p2:bd.pure=true)(nb:rZ bd=false)(fz:a.pure=true∧b.pure=true∧c.pure=true∧e.pure=true∧m.pure=true∧nn.pure=true):
  F (k+2) .scope_in_use [.tup [a,b,tpt ts,hs,bd],.tup [c,e,tnm ts,m,nn],S]= .ok (sc_ (hnd [] ts) (.tup [hs,bd,S])):=by
 have w:=Iu k S hS ts [] h rfl (by rw [List.length_nil];omega)
 show ar (dg (F (k+1)) (X_ (k+1))) 3 4 [.tup [a,b,tpt ts,hs,bd],.tup [c,e,tnm ts,m,nn],S]=_
 have pk:=gD ts [] rfl fun t ht=>(h t ht).2.2
 simp only [EV,ar,dg,at2,at3,at4,ak _ hS,ak _ p1,ak _ p2,ak _ (fw ts),ak _ (er h),nb,w,sp _ pk]
 refine fm _ ?_
 simp only [PV.pure,ai,pk,p1,p2,hS]
 rfl
theorem Fe(k:Nat)(S hs a b c e m nn:PV)(hS:S.pure=true)(ts:List Tr)(h:okT k S ts)(hl:ts.length≤1000):
  F (k+2) .scope_in_use [.tup [a,b,tpt ts,hs,.non],.tup [c,e,tnm ts,m,nn],S]= .ok (sc_ (hnd [] ts) .non):=by
 have w:=Iu k S hS ts [] h rfl (by rw [List.length_nil];omega)
 show ar (dg (F (k+1)) (X_ (k+1))) 3 4 [.tup [a,b,tpt ts,hs,.non],.tup [c,e,tnm ts,m,nn],S]=_
 have pk:=gD ts [] rfl fun t ht=>(h t ht).2.2
 simp only [EV,ar,dg,at2,at3,at4,ak _ hS,ak _ (fw ts),ak _ (er h),LN,w,sp _ pk]
 refine fm _ ?_
 simp only [PV.pure,ai,pk]
 rfl
theorem Ff(k:Nat)(d0:List (PK×PV))(b0 hs bd:PV)(D:List (PK×PV))(p0:aI d0=true)(pb:b0.pure=true)(ps:hs.pure=true)(pd:bd.pure=true)(pD:aI D=true)(ts:List Tr)(hh:hs=tnm ts)(h:okT k (sc_ D (.tup [hs,bd,sc_ d0 b0])) ts)(hl:d0.length+ts.length≤1000):
  F (k+2) .scope_in_body [tpt ts,sc_ D (.tup [hs,bd,sc_ d0 b0])]= .ok (sc_ (hnd d0 ts) b0):=by
 have hS:(sc_ D (.tup [hs,bd,sc_ d0 b0])).pure=true:=by simp only [sc_,PV.pure,ai,pD,ps,pd,p0,pb];rfl
 have q1:(PV.tup [hs,bd,sc_ d0 b0]).pure=true:=by simp only [sc_,PV.pure,ai,ps,pd,p0,pb];rfl
 have q2:(sc_ d0 b0).pure=true:=by simp only [sc_,PV.pure,ai,p0,pb];rfl
 have q3:(PV.dct d0).pure=true:=by rw [PV.pure];exact p0
 have w:=Iu k _ hS ts d0 h p0 hl
 have pk:=gD ts d0 p0 fun t ht=>(h t ht).2.2
 subst hh
 have i1:∀ g,pIx (sc_ D (.tup [tnm ts,bd,sc_ d0 b0])) (.int 1) g= .ok (.tup [tnm ts,bd,sc_ d0 b0]) g:=fun g=>by show Res.ok (ao g _) g=_;rw [ak g q1]
 have i2:∀ g,pIx (sc_ d0 b0) (.int 0) g= .ok (.dct d0) g:=fun g=>rfl
 have i3:∀ g,pIx (sc_ d0 b0) (.int 1) g= .ok b0 g:=fun g=>by show Res.ok (ao g b0) g=_;rw [ak g pb]
 show ar (fJ (F (k+1)) (X_ (k+1))) 2 4 [tpt ts,sc_ D (.tup [tnm ts,bd,sc_ d0 b0])]=_
 simp only [EV,ar,fJ,at0,at1,at2,i1,i2,i3,ak _ hS,ak _ q1,ak _ q2,ak _ (fw ts),ak _ (er h),w,sp _ pk]
 refine fm _ ?_
 simp only [PV.pure,ai,pk,pb]
 rfl
section
variable {d:List (PK×PV)} (hd:okD d=true)
def tgT:PV:=.str [116,101,120,116]
def tgP:PV:=.str [112,108,97,99,101]
def tgL:PV:=.str [108,111,111,112]
def tgC:PV:=.str [99,104,111,105,99,101]
def tgU:PV:=.str [117,115,101]
def tgB:PV:=.str [98,111,100,121]
theorem cL(a b:List Nat)(r:Bool)(h1:∀ c∈a,c<1114112)(h2:∀ c∈b,c<1114112)(e:decide (a=b)=r)(h:List PO):pEq (.str a) (.str b) h= .ok (.bl r) h:=tV a b r h1 h2 e h
include hd
theorem Af(k:Nat)(n:Int)(ps:List (List Nat))(hl:ps.length<16777216)(t:List Nat)(S:PV):X_ (k+2) .Writer_write_node [.ref 0,.tup [tgT,.str t],S] (hW n ps d)= .ok .non (hW n (ps++ [t]) d):=by
 have w:=nB k n ps hd hl t
 show bq (au (F (k+1)) (X_ (k+1))) 3 7 [.ref 0,.tup [tgT,.str t],S] (hW n ps d)=_
 have q:∀ h,pEq (.str [116,101,120,116]) (.str [116,101,120,116]) h= .ok (.bl true) h:=cL _ _ _ (by decide) (by decide) rfl
 simp only [EV,bq,au,tgT,at0,at1,d_0,o_w,o_p,jI,q,w]
 exact mV _ _ _ _ _ hd
theorem wU(k:Nat)(n n2:Int)(ps ps2:List (List Nat))(path ref:List PV)(w:List Nat)(v S:PV)(hS:S.pure=true)(hp:ai path=true)(hr:ai ref=true)(e1:F (k+1) .stood_for [.tup path,S]= .ok (.tup ref))(e2:X_ (k+1) .Pen_put [.ref 1,.tup ref,.str w] (hW n ps d)= .ok v (hW n2 ps2 d)):
  X_ (k+2) .Writer_write_node [.ref 0,.tup [tgP,.tup path,.str w],S] (hW n ps d)= .ok .non (hW n2 ps2 d):=by
 show bq (au (F (k+1)) (X_ (k+1))) 3 7 [.ref 0,.tup [tgP,.tup path,.str w],S] (hW n ps d)=_
 have q1:∀ h,pEq (.str [112,108,97,99,101]) (.str [116,101,120,116]) h= .ok (.bl false) h:=cL _ _ _ (by decide) (by decide) rfl
 have q2:∀ h,pEq (.str [112,108,97,99,101]) (.str [112,108,97,99,101]) h= .ok (.bl true) h:=cL _ _ _ (by decide) (by decide) rfl
 have pp:(PV.tup path).pure=true:=by rw [PV.pure];exact hp
 have z:∀ h,bn (F (k+1) .stood_for) [.tup path,S] h= .ok (.tup ref) h:=fun h=>aK h (by simp [ai,pp,hS]) e1
 simp only [EV,bq,au,tgP,at0,at1,at2,d_0,o_w,o_p,jI,q1,q2,ak _ pp,ak _ hS,z,e2]
 exact mV _ _ _ _ _ hd
end
def out(o:Option (List Nat))(n:Int)(ps:List (List Nat))(d:List (PK×PV)):Res PV:=match o with
 | none=>.ok .non (hW n ps d)
 | some w=>.exc (xf w) (hW n ps d)
theorem LM(n:Int)(ps:List (List Nat)){d:List (PK×PV)}{x:List Nat}{v:PV}(e:bJ d (.inr x)=some v)(p:v.pure=true):pIx (.ref 3) (.str x) (hW n ps d)= .ok v (hW n ps d):=by
 show (match bJ d (.inr x) with | some v=>Res.ok (ao (hW n ps d) v) (hW n ps d) | none=>.bad)=_
 rw [e]
 dsimp only
 rw [ak _ p]
def Iz(L:Nat)(r:SR):Res PV:=match r with
 | .nx _ h1=>rm L .non h1
 | .rt v h1=>xG L v h1
 | .exc e h1=>CX L e h1
 | _=>.bad
theorem iX(f:Sx)(np n:Nat)(ps:List PV)(h:List PO):bq f np n ps h=if ps.length=np then Iz h.length (f (ps.map some++List.replicate (n - ps.length) none) h) else .bad:=rfl
theorem mQ{d:List (PK×PV)}(hd:okD d=true)(n n2:Int)(ps ps2:List (List Nat))(ρ:Ev)(o:Option (List Nat)):Iz (hW n ps d).length (kDr ρ (out o n2 ps2 d))=out o n2 ps2 d:=by
 cases o with
 | none=>exact mV _ _ _ _ _ hd
 | some w=>exact gO _ _ _ _ _ hd rfl
section
variable {d:List (PK×PV)} (hd:okD d=true)
include hd
theorem uX(k:Nat)(n n1 n2:Int)(ps ps2:List (List Nat))(path ref ys ns:List PV)(S:PV)(b:Bool)(o:Option (List Nat))(hS:S.pure=true)(hp:ai path=true)(hr:ai ref=true)(hy:ai ys=true)(hn:ai ns=true)(e1:F (k+1) .stood_for [.tup path,S]= .ok (.tup ref))
  (e2:X_ (k+1) .Pen_truth_wanted [.ref 1,.tup ref] (hW n ps d)= .ok (.bl b) (hW n1 ps d)) (e3:X_ (k+1) .Writer_write_nodes [.ref 0,.tup (if b=true then ys else ns),S] (hW n1 ps d)=out o n2 ps2 d):
  X_ (k+2) .Writer_write_node [.ref 0,.tup [tgC,.tup path,.tup ys,.tup ns],S] (hW n ps d)=out o n2 ps2 d:=by
 show bq (au (F (k+1)) (X_ (k+1))) 3 7 [.ref 0,.tup [tgC,.tup path,.tup ys,.tup ns],S] (hW n ps d)=_
 rw [iX]
 have q1:∀ h,pEq (.str [99,104,111,105,99,101]) (.str [116,101,120,116]) h= .ok (.bl false) h:=cL _ _ _ (by decide) (by decide) rfl
 have q2:∀ h,pEq (.str [99,104,111,105,99,101]) (.str [112,108,97,99,101]) h= .ok (.bl false) h:=cL _ _ _ (by decide) (by decide) rfl
 have q3:∀ h,pEq (.str [99,104,111,105,99,101]) (.str [108,111,111,112]) h= .ok (.bl false) h:=cL _ _ _ (by decide) (by decide) rfl
 have q4:∀ h,pEq (.str [99,104,111,105,99,101]) (.str [99,104,111,105,99,101]) h= .ok (.bl true) h:=cL _ _ _ (by decide) (by decide) rfl
 have pp:(PV.tup path).pure=true:=by rw [PV.pure];exact hp
 have py:(PV.tup ys).pure=true:=by rw [PV.pure];exact hy
 have pn:(PV.tup ns).pure=true:=by rw [PV.pure];exact hn
 have z:∀ h,bn (F (k+1) .stood_for) [.tup path,S] h= .ok (.tup ref) h:=fun h=>aK h (by simp [ai,pp,hS]) e1
 cases b with
 | true=>
  have e3:X_ (k+1) .Writer_write_nodes [.ref 0,.tup ys,S] (hW n1 ps d)=out o n2 ps2 d:=e3
  simp only [EV,au,tgC,at0,at1,at2,at3,d_0,o_w,o_p,jI,q1,q2,q3,q4,ak _ pp,ak _ py,ak _ pn,ak _ hS,z,e2,e3]
  exact mQ hd _ _ _ _ _ _
 | false=>
  have e3:X_ (k+1) .Writer_write_nodes [.ref 0,.tup ns,S] (hW n1 ps d)=out o n2 ps2 d:=e3
  simp only [EV,au,tgC,at0,at1,at2,at3,d_0,o_w,o_p,jI,q1,q2,q3,q4,ak _ pp,ak _ py,ak _ pn,ak _ hS,z,e2,e3]
  exact mQ hd _ _ _ _ _ _
theorem uW(k:Nat)(n n2:Int)(ps ps2:List (List Nat))(x:List Nat)(pt hs bd a b c m S S2:PV)(l:List PV)(o:Option (List Nat))(hS:S.pure=true)(h2:S2.pure=true)(p1:pt.pure=true)(p2:hs.pure=true)(p3:bd.pure=true)(pl:ai l=true)(pc:(PV.tup [a,b,c,m,.tup l]).pure=true)(ev:bJ d (.inr x)=some (.tup [a,b,c,m,.tup l]))
  (e1:F (k+1) .scope_in_use [.tup [tgU,.str x,pt,hs,bd],.tup [a,b,c,m,.tup l],S]= .ok S2) (e3:X_ (k+1) .Writer_write_nodes [.ref 0,.tup l,S2] (hW n ps d)=out o n2 ps2 d):
  X_ (k+2) .Writer_write_node [.ref 0,.tup [tgU,.str x,pt,hs,bd],S] (hW n ps d)=out o n2 ps2 d:=by
 show bq (au (F (k+1)) (X_ (k+1))) 3 7 [.ref 0,.tup [tgU,.str x,pt,hs,bd],S] (hW n ps d)=_
 rw [iX]
 have q1:∀ h,pEq (.str [117,115,101]) (.str [116,101,120,116]) h= .ok (.bl false) h:=cL _ _ _ (by decide) (by decide) rfl
 have q2:∀ h,pEq (.str [117,115,101]) (.str [112,108,97,99,101]) h= .ok (.bl false) h:=cL _ _ _ (by decide) (by decide) rfl
 have q3:∀ h,pEq (.str [117,115,101]) (.str [108,111,111,112]) h= .ok (.bl false) h:=cL _ _ _ (by decide) (by decide) rfl
 have q4:∀ h,pEq (.str [117,115,101]) (.str [99,104,111,105,99,101]) h= .ok (.bl false) h:=cL _ _ _ (by decide) (by decide) rfl
 have q5:∀ h,pEq (.str [117,115,101]) (.str [117,115,101]) h= .ok (.bl true) h:=cL _ _ _ (by decide) (by decide) rfl
 have pn:(PV.tup [tgU,.str x,pt,hs,bd]).pure=true:=by simp only [PV.pure,ai,tgU,p1,p2,p3];rfl
 have pp:(PV.tup l).pure=true:=by rw [PV.pure];exact pl
 have z:∀ h,bn (F (k+1) .scope_in_use) [.tup [.str [117,115,101],.str x,pt,hs,bd],.tup [a,b,c,m,.tup l],S] h= .ok S2 h:=fun h=>aK h (by simp only [ai,pc,hS];simp only [tgU] at pn;rw [pn];rfl) e1
 simp -implicitDefEqProofs only [EV,au,tgU,at0,at1,at4,d_0,o_w,o_p,Gn,q1,q2,q3,q4,q5,LM _ _ ev pc,ak _ pp,ak _ hS,z,e3]
 exact mQ hd _ _ _ _ _ _
theorem Ah(k:Nat)(n n2:Int)(ps ps2:List (List Nat))(pt a c S2:PV)(D:List (PK×PV))(l:List PV)(o:Option (List Nat))(hS:(sc_ D (.tup [a,.tup l,c])).pure=true)(p1:pt.pure=true)(pl:ai l=true)(pa:a.pure=true)(pcc:c.pure=true)(h2:S2.pure=true)
  (e1:F (k+1) .scope_in_body [pt,sc_ D (.tup [a,.tup l,c])]= .ok S2) (e3:X_ (k+1) .Writer_write_nodes [.ref 0,.tup l,S2] (hW n ps d)=out o n2 ps2 d):
  X_ (k+2) .Writer_write_node [.ref 0,.tup [tgB,pt],sc_ D (.tup [a,.tup l,c])] (hW n ps d)=out o n2 ps2 d:=by
 show bq (au (F (k+1)) (X_ (k+1))) 3 7 [.ref 0,.tup [tgB,pt],sc_ D (.tup [a,.tup l,c])] (hW n ps d)=_
 rw [iX]
 have q1:∀ h,pEq (.str [98,111,100,121]) (.str [116,101,120,116]) h= .ok (.bl false) h:=cL _ _ _ (by decide) (by decide) rfl
 have q2:∀ h,pEq (.str [98,111,100,121]) (.str [112,108,97,99,101]) h= .ok (.bl false) h:=cL _ _ _ (by decide) (by decide) rfl
 have q3:∀ h,pEq (.str [98,111,100,121]) (.str [108,111,111,112]) h= .ok (.bl false) h:=cL _ _ _ (by decide) (by decide) rfl
 have q4:∀ h,pEq (.str [98,111,100,121]) (.str [99,104,111,105,99,101]) h= .ok (.bl false) h:=cL _ _ _ (by decide) (by decide) rfl
 have q5:∀ h,pEq (.str [98,111,100,121]) (.str [117,115,101]) h= .ok (.bl false) h:=cL _ _ _ (by decide) (by decide) rfl
 have pp:(PV.tup l).pure=true:=by rw [PV.pure];exact pl
 have pb:(PV.tup [a,.tup l,c]).pure=true:=by simp only [PV.pure,ai,pa,pcc,pl];rfl
 have i1:∀ g,pIx (sc_ D (.tup [a,.tup l,c])) (.int 1) g= .ok (.tup [a,.tup l,c]) g:=fun g=>by show Res.ok (ao g _) g=_;rw [ak g pb]
 have z:∀ h,bn (F (k+1) .scope_in_body) [pt,sc_ D (.tup [a,.tup l,c])] h= .ok S2 h:=fun h=>aK h (by simp only [ai,p1,hS];rfl) e1
 simp only [EV,au,tgB,at0,at1,d_0,o_w,o_p,q1,q2,q3,q4,q5,i1,ak _ pp,ak _ hS,ak _ pb,ak _ p1,z,e3]
 exact mQ hd _ _ _ _ _ _
end
def Ej(o:Option (List Nat))(ρ:Ev)(n:Int)(ps:List (List Nat))(d:List (PK×PV)):SR:=match o with
 | none=>.nx ρ (hW n ps d)
 | some w=>.exc (xf w) (hW n ps d)
inductive Lo(K:Nat)(d:List (PK×PV))(S:PV):List PV→Int→List (List Nat)→Option (List Nat)→Int→List (List Nat)→Prop
 | nil {n ps}:Lo K d S [] n ps none n ps
 | cons {nd r n ps n1 ps1 o n2 ps2} (p:nd.pure=true) (e:X_ K .Writer_write_node [.ref 0,nd,S] (hW n ps d)=out none n1 ps1 d) (t:Lo K d S r n1 ps1 o n2 ps2):Lo K d S (nd::r) n ps o n2 ps2
 | stop {nd r n ps n1 ps1 w} (p:nd.pure=true) (e:X_ K .Writer_write_node [.ref 0,nd,S] (hW n ps d)=out (some w) n1 ps1 d):Lo K d S (nd::r) n ps (some w) n1 ps1
theorem tK{g:Gx}{b:Sx}{p e:PV}{r:List PV}{ρ ρ1:Ev}{h h2:List PO}(hg:g p ρ=some ρ1)(hb:b ρ1 h= .exc e h2):bh g b (p::r) ρ h= .exc e h2:=by simp only [bh,hg,hb]
section
variable {d:List (PK×PV)}
theorem EH{K:Nat}{S:PV}(hS:S.pure=true)(a:PV){l:List PV}{n n2:Int}{ps ps2:List (List Nat)}{o:Option (List Nat)}(h:Lo K d S l n ps o n2 ps2):∀ x,∃ x',bh (gNm 3) (cf (F K) (X_ K)) l [some (.ref 0),some a,some S,x] (hW n ps d)=Ej o [some (.ref 0),some a,some S,x'] n2 ps2 d:=by
 induction h with
 | nil=>intro x;exact ⟨x,rfl⟩
 | @cons nd r n ps n1 ps1 o n2 ps2 p e t ih=>
  intro x
  obtain ⟨x',lp⟩:=ih (some nd)
  refine ⟨x',(eS rfl ?_).trans lp⟩
  simp only [EV,cf,d_0,o_w,ak _ p,ak _ hS,e,out]
 | @stop nd r n ps n1 ps1 w p e=>
  intro x
  refine ⟨x,tK rfl ?_⟩
  simp only [EV,cf,d_0,o_w,ak _ p,ak _ hS,e,out]
theorem vR(hd:okD d=true)(n n2:Int)(ps ps2:List (List Nat))(ρ:Ev)(o:Option (List Nat)):Iz (hW n ps d).length (Ej o ρ n2 ps2 d)=out o n2 ps2 d:=by
 cases o with
 | none=>exact mV _ _ _ _ _ hd
 | some w=>exact gO _ _ _ _ _ hd rfl
theorem Ae(hd:okD d=true){K:Nat}{S:PV}(hS:S.pure=true){l:List PV}(hl:ai l=true){n n2:Int}{ps ps2:List (List Nat)}{o:Option (List Nat)}(h:Lo K d S l n ps o n2 ps2):X_ (K+1) .Writer_write_nodes [.ref 0,.tup l,S] (hW n ps d)=out o n2 ps2 d:=by
 obtain ⟨x',lp⟩:=EH hS (.tup l) h none
 show bq (cJ (F K) (X_ K)) 3 4 [.ref 0,.tup l,S] (hW n ps d)=_
 rw [iX]
 simp only [EV,cJ,ak _ (show (PV.tup l).pure=true by rw [PV.pure];exact hl),lp]
 exact vR hd _ _ _ _ _ _
inductive Rd(K:Nat)(d:List (PK×PV))(x:List Nat)(nodes:List PV)(bt:List Nat)(S:PV):Nat→List PV→Int→List (List Nat)→Option (List Nat)→Int→List (List Nat)→Prop
 | nil {i n ps}:Rd K d x nodes bt S i [] n ps none n ps
 | cons {i v r n ps n1 ps1 o n2 ps2} (S1:PV) (p:v.pure=true) (p1:S1.pure=true) (hn:n<2000) (hl:ps.length<16777216) (e1:F K .scope_in_loop [.str x,.tup [v],S]= .ok S1) (e:X_ K .Writer_write_nodes [.ref 0,.tup nodes,S1] (hW (n+1) (if i>0 then ps++ [bt] else ps) d)=out none n1 ps1 d) (t:Rd K d x nodes bt S (i+1) r n1 ps1 o n2 ps2):Rd K d x nodes bt S i (v::r) n ps o n2 ps2
 | stop {i v r n ps n1 ps1 w} (S1:PV) (p:v.pure=true) (p1:S1.pure=true) (hn:n<2000) (hl:ps.length<16777216) (e1:F K .scope_in_loop [.str x,.tup [v],S]= .ok S1) (e:X_ K .Writer_write_nodes [.ref 0,.tup nodes,S1] (hW (n+1) (if i>0 then ps++ [bt] else ps) d)=out (some w) n1 ps1 d):Rd K d x nodes bt S i (v::r) n ps (some w) n1 ps1
 | lim {i v r n ps} (p:v.pure=true) (hn:n=2000):Rd K d x nodes bt S i (v::r) n ps (some fU) (n+1) ps
theorem DU(hd:okD d=true){k:Nat}{x bt:List Nat}{nodes path:List PV}{S:PV}(hS:S.pure=true)(hn:ai nodes=true)(hp:ai path=true)(tv:PV){i:Nat}{l:List PV}{n n2:Int}{ps ps2:List (List Nat)}{o:Option (List Nat)}(h:Rd (k+3) d x nodes bt S i l n ps o n2 ps2):
  ∀ u y,∃ u' y',bh (gTp 2 (dJ (gNm 4) (dJ (gNm 5) lf))) (bC (F (k+3)) (X_ (k+3))) (enL i l) [some (.ref 0),some (.tup [tgL,.str x,.tup path,.tup nodes,.str bt]),some S,some tv,u,y] (hW n ps d)=Ej o [some (.ref 0),some (.tup [tgL,.str x,.tup path,.tup nodes,.str bt]),some S,some tv,u',y'] n2 ps2 d:=by
 have pn:(PV.tup nodes).pure=true:=by rw [PV.pure];exact hn
 have body:∀ (i:Nat) (v S1:PV) (n n1:Int) (ps ps1:List (List Nat)) (o:Option (List Nat)),v.pure=true→S1.pure=true→n<2000→ps.length<16777216→F (k+3) .scope_in_loop [.str x,.tup [v],S]= .ok S1→X_ (k+3) .Writer_write_nodes [.ref 0,.tup nodes,S1] (hW (n+1) (if i>0 then ps++ [bt] else ps) d)=out o n1 ps1 d→
   bC (F (k+3)) (X_ (k+3)) [some (.ref 0),some (.tup [tgL,.str x,.tup path,.tup nodes,.str bt]),some S,some tv,some (.int i),some v] (hW n ps d)=Ej o [some (.ref 0),some (.tup [tgL,.str x,.tup path,.tup nodes,.str bt]),some S,some tv,some (.int i),some v] n1 ps1 d:=by
  intro i v S1 n n1 ps ps1 o pv p1 h0 hl e1 e
  have rr:=zX (k+1) n ps hd (i:Int) bt h0 hl
  have ci:(if (i:Int)>0 then ps++ [bt] else ps)=(if i>0 then ps++ [bt] else ps):=by
   by_cases z:i>0
   ·rw [if_pos z,if_pos (by omega)]
   ·rw [if_neg z,if_neg (by omega)]
  rw [ci] at rr
  have pvt:(PV.tup [v]).pure=true:=by simp only [PV.pure,ai,pv];rfl
  have z:∀ h,bn (F (k+3) .scope_in_loop) [.str x,.tup [v],S] h= .ok S1 h:=fun h=>aK h (by simp only [ai,pvt,hS];rfl) e1
  simp only [EV,bC,at1,at3,at4,d_0,o_w,o_p,jI,rr,ak _ pn,ak _ hS,ak _ pv,z,e]
  cases o<;>rfl
 induction h with
 | nil=>intro u y;exact ⟨u,y,rfl⟩
 | @cons i v r n ps n1 ps1 o n2 ps2 S1 p p1 h0 hl e1 e t ih=>
  intro u y
  obtain ⟨u',y',lp⟩:=ih (some (.int i)) (some v)
  exact ⟨u',y',(eS rfl (body i v S1 n n1 ps ps1 none p p1 h0 hl e1 e)).trans lp⟩
 | @stop i v r n ps n1 ps1 w S1 p p1 h0 hl e1 e=>
  intro u y
  exact ⟨u,y,tK rfl (body i v S1 n n1 ps ps1 (some w) p p1 h0 hl e1 e)⟩
 | @lim i v r n ps p h0=>
  intro u y
  refine ⟨u,y,tK (ρ1:= [some (.ref 0),some (.tup [tgL,.str x,.tup path,.tup nodes,.str bt]),some S,some tv,some (.int i),some v]) rfl ?_⟩
  have rr:=wz k n ps hd (i:Int) bt h0
  simp only [EV,bC,at1,at3,at4,d_0,o_w,o_p,jI,rr]
end
section
variable {d:List (PK×PV)} (hd:okD d=true)
include hd
theorem GY(k:Nat)(n n1 n2:Int)(ps ps2:List (List Nat))(x bt:List Nat)(path ref nodes xs:List PV)(S:PV)(o:Option (List Nat))(hS:S.pure=true)(hp:ai path=true)(hr:ai ref=true)(hn:ai nodes=true)(hx:ai xs=true)(e1:F (k+3) .stood_for [.tup path,S]= .ok (.tup ref))
  (e2:X_ (k+3) .Pen_list_wanted [.ref 1,.tup ref] (hW n ps d)= .ok (.lst xs) (hW n1 ps d)) (h:Rd (k+3) d x nodes bt S 0 xs n1 ps o n2 ps2):
  X_ (k+4) .Writer_write_rounds [.ref 0,.tup [tgL,.str x,.tup path,.tup nodes,.str bt],S] (hW n ps d)=out o n2 ps2 d:=by
 obtain ⟨u',y',lp⟩:=DU hd hS hn hp (.lst xs) h none none
 show bq (bI (F (k+3)) (X_ (k+3))) 3 6 [.ref 0,.tup [tgL,.str x,.tup path,.tup nodes,.str bt],S] (hW n ps d)=_
 rw [iX]
 have pp:(PV.tup path).pure=true:=by rw [PV.pure];exact hp
 have pl:(PV.lst xs).pure=true:=by rw [PV.pure];exact hx
 have z:∀ h,bn (F (k+3) .stood_for) [.tup path,S] h= .ok (.tup ref) h:=fun h=>aK h (by simp [ai,pp,hS]) e1
 simp only [EV,bI,at2,d_0,o_w,o_p,jI,ak _ pp,ak _ hS,ak _ pl,z,e2,lp]
 exact vR hd _ _ _ _ _ _
theorem Ag(k:Nat)(n n1 n2:Int)(ps ps2:List (List Nat))(x bt:List Nat)(path ref nodes xs:List PV)(S:PV)(o:Option (List Nat))(hS:S.pure=true)(hp:ai path=true)(hr:ai ref=true)(hn:ai nodes=true)(hx:ai xs=true)(e1:F (k+3) .stood_for [.tup path,S]= .ok (.tup ref))
  (e2:X_ (k+3) .Pen_list_wanted [.ref 1,.tup ref] (hW n ps d)= .ok (.lst xs) (hW n1 ps d)) (h:Rd (k+3) d x nodes bt S 0 xs n1 ps o n2 ps2):
  X_ (k+5) .Writer_write_node [.ref 0,.tup [tgL,.str x,.tup path,.tup nodes,.str bt],S] (hW n ps d)=out o n2 ps2 d:=by
 have w:=GY hd k n n1 n2 ps ps2 x bt path ref nodes xs S o hS hp hr hn hx e1 e2 h
 show bq (au (F (k+4)) (X_ (k+4))) 3 7 [.ref 0,.tup [tgL,.str x,.tup path,.tup nodes,.str bt],S] (hW n ps d)=_
 rw [iX]
 have q1:∀ h,pEq (.str [108,111,111,112]) (.str [116,101,120,116]) h= .ok (.bl false) h:=cL _ _ _ (by decide) (by decide) rfl
 have q2:∀ h,pEq (.str [108,111,111,112]) (.str [112,108,97,99,101]) h= .ok (.bl false) h:=cL _ _ _ (by decide) (by decide) rfl
 have q3:∀ h,pEq (.str [108,111,111,112]) (.str [108,111,111,112]) h= .ok (.bl true) h:=cL _ _ _ (by decide) (by decide) rfl
 have dn:∀ h,ao h (.tup [.str [108,111,111,112],.str x,.tup path,.tup nodes,.str bt])= .tup [.str [108,111,111,112],.str x,.tup path,.tup nodes,.str bt]:=fun h=>rfl
 simp only [tgL] at w ⊢
 simp only [EV,au,at0,d_0,o_w,o_p,q1,q2,q3,dn,ak _ hS,w]
 exact mQ hd _ _ _ _ _ _
end
abbrev Pq:=List Nat×List PV
def pq(p:Pq):PV:=.tup (.str [112,105,101,99,101]::.str p.1::p.2)
def pcs(acc:List (PK×PV)):List Pq→List (PK×PV)
 | []=>acc
 | p::r=>pcs (cg acc (.inr p.1) (pq p)) r
theorem mC{p:Pq}(h:ai p.2=true):(pq p).pure=true:=by unfold pq;rw [PV.pure,ai,ai,h];rfl
theorem se(k:Nat)(B:PV):∀ (l:List Pq) (acc:List (PK×PV)) (x:Option PV),(∀ p∈l,ai p.2=true)→acc.length+l.length≤1000→∃ x',bh (gNm 2) (dI (F k)) (l.map pq) [some (.ref 0),some B,x] (hW 0 [] acc)= .nx [some (.ref 0),some B,x'] (hW 0 [] (pcs acc l))
 | [],acc,x,_,_=>⟨x,rfl⟩
 | p::r,acc,x,h,hl=>by
  have l2:acc.length<16777216:=Nat.lt_of_le_of_lt (by rw [List.length_cons] at hl;omega:acc.length≤1000) (by decide)
  have pl:(cg acc (.inr p.1) (pq p)).length≤acc.length+1:=by
   unfold cg
   split
   ·rw [List.length_map];omega
   ·rw [List.length_append];exact Nat.le_refl _
  obtain ⟨x',lp⟩:=se k B r (cg acc (.inr p.1) (pq p)) (some (pq p)) (fun q hq=>h q (List.mem_cons_of_mem _ hq)) (by rw [List.length_cons] at hl;omega)
  refine ⟨x',?_⟩
  rw [List.map_cons]
  refine (eS rfl ?_).trans lp
  have i1:∀ g,pIx (pq p) (.int 1) g= .ok (.str p.1) g:=fun g=>by unfold pq;simp only [Ck,at1,Gh];rfl
  have st:∀ ρ,pP (pq p) (.ref 3) (.str p.1) ρ (hW 0 [] acc)= .nx ρ (hW 0 [] (cg acc (.inr p.1) (pq p))):=fun ρ=>by
   show (if acc.length<sizeLine then SR.nx ρ (hW 0 [] (cg acc (.inr p.1) (pq p))) else .bad)=_
   rw [if_pos (show acc.length<sizeLine from Nat.lt_of_lt_of_le l2 (by decide))]
  simp only [EV,dI,d_0,Gn,ak _ (mC (h p List.mem_cons_self)),i1,st]
theorem ul(k:Nat)(l:List Pq)(h:∀ p∈l,ai p.2=true)(hl:l.length≤1000):X_ (k+2) .Writer___init__ [.ref 0,.tup (l.map pq)] [.obj 601 []]= .ok .non (hW 0 [] (pcs [] l)):=by
 obtain ⟨x',lp⟩:=se (k+1) (.tup (l.map pq)) l [] none h (by rw [List.length_nil];omega)
 have pi:X_ (k+1) .Pen___init__ [.ref 1] [.obj 601 [],.obj 600 []]= .ok .non [.obj 601 [],.obj 600 [.ref 2,.int 0],.lst []]:=rfl
 have pp:(PV.tup (l.map pq)).pure=true:=by
  rw [PV.pure]
  clear lp hl
  induction l with
  | nil=>rfl
  | cons p r ih=>rw [List.map_cons,ai,mC (h p List.mem_cons_self),ih fun q hq=>h q (List.mem_cons_of_mem _ hq)];rfl
 have mk:mkO 600 (X_ (k+1) .Pen___init__) [] [.obj 601 []]= .ok (.ref 1) [.obj 601 [],.obj 600 [.ref 2,.int 0],.lst []]:=by
  unfold mkO
  show (match X_ (k+1) .Pen___init__ [.ref 1] [.obj 601 [],.obj 600 []] with | .ok .non h2=>Res.ok (PV.ref 1) h2 | _=>.bad)=_
  rw [pi]
 show uz (dQ (F (k+1)) (X_ (k+1))) 2 3 [.ref 0,.tup (l.map pq)] [.obj 601 []]=_
 have s1:∀ ρ,wv 601 0 (.ref 1) (.ref 0) ρ [.obj 601 [],.obj 600 [.ref 2,.int 0],.lst []]= .nx ρ [.obj 601 [.ref 1],.obj 600 [.ref 2,.int 0],.lst []]:=fun ρ=>rfl
 have s2:∀ ρ,wv 601 1 (.ref 3) (.ref 0) ρ [.obj 601 [.ref 1],.obj 600 [.ref 2,.int 0],.lst [],.dct []]= .nx ρ (hW 0 [] []):=fun ρ=>rfl
 have nd:∀ ρ,qM ρ [.obj 601 [.ref 1],.obj 600 [.ref 2,.int 0],.lst []]= .ok (.ref 3) [.obj 601 [.ref 1],.obj 600 [.ref 2,.int 0],.lst [],.dct []]:=fun ρ=>rfl
 have dd:∀ r,ao (.obj 601 []::r) (.ref 0)= .ref 0:=fun r=>rfl
 have de:∀ r,ao (.obj 601 [.ref 1]::r) (.ref 0)= .ref 0:=fun r=>rfl
 simp only [EV,uz,dQ,mk,s1,s2,nd,dd,de,ak _ pp,lp]
def wQ:List Nat:= [113,117,111,116,101,100]
def wP:List Nat:= [112,108,97,105,110]
def wL:List Nat:= [108,105,110,101]
theorem eqU(a b:List Nat)(r:Bool)(e:(a.all (fun c=>decide (c<1114112))&&b.all (fun c=>decide (c<1114112))&&(decide (a=b)==r))=true)(h:List PO):oz (.str a) (.str b) h= .ok (.bl r) h:=by
 simp only [Bool.and_eq_true,List.all_eq_true,decide_eq_true_eq,beq_iff_eq] at e
 exact (yM _ _ _).trans (tV a b r e.1.1 e.1.2 e.2 h)
theorem Je(k:Nat):F (k+1) .way_of [.str wQ]= .ok (.ins 2 []):=by
 show ar (dA (F k)) 1 1 [.str wQ]=_
 have e1:=eqU wQ [119,111,114,100] false (by decide)
 have e2:=eqU wQ [110,117,109,98,101,114] false (by decide)
 have e3:=eqU wQ [113,117,111,116,101,100] true (by decide)
 simp only [EV,ar,dA,ks,e1,e2,e3,br]
theorem Jf(k:Nat):F (k+1) .way_of [.str wP]= .ok (.ins 3 []):=by
 show ar (dA (F k)) 1 1 [.str wP]=_
 have e1:=eqU wP [119,111,114,100] false (by decide)
 have e2:=eqU wP [110,117,109,98,101,114] false (by decide)
 have e3:=eqU wP [113,117,111,116,101,100] false (by decide)
 have e4:=eqU wP [112,108,97,105,110] true (by decide)
 simp only [EV,ar,dA,ks,e1,e2,e3,e4,br]
theorem Jh(k:Nat):F (k+1) .way_of [.str wL]= .ok (.ins 4 []):=by
 show ar (dA (F k)) 1 1 [.str wL]=_
 have e1:=eqU wL [119,111,114,100] false (by decide)
 have e2:=eqU wL [110,117,109,98,101,114] false (by decide)
 have e3:=eqU wL [113,117,111,116,101,100] false (by decide)
 have e4:=eqU wL [112,108,97,105,110] false (by decide)
 have e5:=eqU wL [108,105,110,101] true (by decide)
 simp only [EV,ar,dA,ks,e1,e2,e3,e4,e5,br]
def gb:Nat→List Nat
 | 0=>wW
 | 1=>wN
 | 2=>wQ
 | 3=>wP
 | _=>wL
theorem sO(k i:Nat)(hi:i<5):F (k+1) .way_of [.str (gb i)]= .ok (.ins i []):=by
 rcases (show i=0∨i=1∨i=2∨i=3∨i=4 by omega) with rfl | rfl | rfl | rfl | rfl
 ·exact Jd k
 ·exact Jg k
 ·exact Je k
 ·exact Jf k
 ·exact Jh k
def vO:Nat→Fn
 | 0=>.Word_fits
 | 1=>.Number_fits
 | 2=>.Quoted_fits
 | 3=>.Plain_fits
 | _=>.Line_fits
def DA:Nat→Fn
 | 0=>.Word_spelling
 | 1=>.Number_spelling
 | 2=>.Quoted_spelling
 | 3=>.Plain_spelling
 | _=>.Line_spelling
theorem qJ(C:CC)(i:Nat)(hi:i<5):lX C i=some (C (vO i)):=by
 rcases (show i=0∨i=1∨i=2∨i=3∨i=4 by omega) with rfl | rfl | rfl | rfl | rfl<;>rfl
theorem KW(C:CC)(i:Nat)(hi:i<5):jA C i=some (C (DA i)):=by
 rcases (show i=0∨i=1∨i=2∨i=3∨i=4 by omega) with rfl | rfl | rfl | rfl | rfl<;>rfl
theorem CT(C:CC)(i:Nat)(hi:i<5):kH C i=some (C .Way_coded):=by
 rcases (show i=0∨i=1∨i=2∨i=3∨i=4 by omega) with rfl | rfl | rfl | rfl | rfl<;>rfl
inductive Dv:PV→Prop
 | str (l:List Nat) (h:l.length≤4000) (hc:∀ c∈l,c<1114112):Dv (.str l)
 | int (i:Int):Dv (.int i)
 | bl (b:Bool):Dv (.bl b)
 | lst (xs:List PV) (p:ai xs=true):Dv (.lst xs)
 | dct (l:List (PK×PV)) (p:aI l=true):Dv (.dct l)
theorem Dv.pure{v:PV}(h:Dv v):v.pure=true:=by
 cases h with
 | str=>rfl
 | int=>rfl
 | bl=>rfl
 | lst xs p=>rw [PV.pure];exact p
 | dct l p=>rw [PV.pure];exact p
theorem yb{v:PV}(hv:Dv v)(n:Int):∃ b:Bool,(∀ k,F (k+2) .is_text [v,.int n]= .ok (.bl b))∧(b=true→∃ l,v= .str l∧(l.length:Int)≤n∧∀ c∈l,c∈bz):=by
 cases hv with
 | str l h hc=>
  refine ⟨_,fun k=>rY k l n (by omega),fun e=>⟨l,rfl,?_⟩⟩
  rw [Bool.and_eq_true,decide_eq_true_eq,List.all_eq_true] at e
  exact ⟨e.1,fun c hc=>by simpa using e.2 c hc⟩
 | int i=>
  refine ⟨false,fun k=>?_,fun e=>by cases e⟩
  show ar (bU (F (k+1))) 2 2 [.int i,.int n]=_
  simp only [EV,ar,bU,br]
 | bl b=>
  refine ⟨false,fun k=>?_,fun e=>by cases e⟩
  show ar (bU (F (k+1))) 2 2 [.bl b,.int n]=_
  simp only [EV,ar,bU,br]
 | lst xs p=>
  refine ⟨false,fun k=>?_,fun e=>by cases e⟩
  show ar (bU (F (k+1))) 2 2 [.lst xs,.int n]=_
  simp only [EV,ar,bU,br]
 | dct l p=>
  refine ⟨false,fun k=>?_,fun e=>by cases e⟩
  show ar (bU (F (k+1))) 2 2 [.dct l,.int n]=_
  simp only [EV,ar,bU,br]
theorem CH{c:Nat}{raw:List Nat}{i:Nat}(h:bN [c] raw 0=some i):i<raw.length:=by
 unfold bN at h
 have h2:=List.find?_some h
 have h1:=List.mem_of_find?_eq_some h
 simp only [Bool.and_eq_true] at h2
 have:=(List.isPrefixOf_iff_prefix.mp h2.2).length_le
 simp only [List.length_cons,List.length_nil,List.length_drop] at this
 omega
theorem CO(C:Fn→List PV→Out)(t:PV)(mark raw letters:List Nat)(hl:raw.length≤letters.length)(hz:letters.length≤1000)(hm:mark.length≤1000)(c:Nat)(o2:Option PV)(xs:List PV)(hx:xs.length<16777216):∃ o2',
  gB C [some t,some (.str mark),some (.str raw),some (.str letters),some (.ref 0),some (.str [c]),o2] [.lst xs]= .nx [some t,some (.str mark),some (.str raw),some (.str letters),some (.ref 0),some (.str [c]),o2'] [.lst (xs++ [.str (kT mark raw letters c)])]:=by
 refine ⟨some (.int (sv (bN [c] raw 0))),?_⟩
 unfold kT
 cases q:bN [c] raw 0 with
 | none=>
  have d:decide ((-1:Int)<0)=true:=by decide
  simp only [EV,gB,q,sv,d,tW,IT,xE,hx]
 | some i=>
  have hi:=CH q
  have d:decide ((i:Int)<0)=false:=decide_eq_false (by omega)
  have e:atI letters (i:Int)=some (letters.getD i 0):=by
   have:=mZ (xs:=letters) (i:=(i:Int)) 0 (by omega) (by omega)
   simpa using this
  have z1:letters.length≤16777216:=by omega
  have z2:mark.length+1≤16777216:=by omega
  simp only [EV,gB,q,sv,d,e,z1,z2,tW,IT,xE,hx]
theorem vP(C:Fn→List PV→Out)(t:PV)(mark raw letters:List Nat)(hl:raw.length≤letters.length)(hz:letters.length≤1000)(hm:mark.length≤1000):∀ (l:List Nat) (o1 o2:Option PV) (xs:List PV),xs.length+l.length<16777216→∃ o1' o2',
  bh (gNm 5) (gB C) (l.map fun c=>PV.str [c]) [some t,some (.str mark),some (.str raw),some (.str letters),some (.ref 0),o1,o2] [.lst xs]= .nx [some t,some (.str mark),some (.str raw),some (.str letters),some (.ref 0),o1',o2'] [.lst (xs++l.map fun c=>.str (kT mark raw letters c))]
 | [],o1,o2,xs,_=>⟨o1,o2,by simp only [EV,if_true]⟩
 | c::r,o1,o2,xs,hx=>by
  simp only [List.length_cons] at hx
  obtain ⟨o3,t1⟩:=CO C t mark raw letters hl hz hm c o2 xs (by omega)
  obtain ⟨p,q,e⟩:=vP C t mark raw letters hl hz hm r (some (.str [c])) o3 (xs++ [.str (kT mark raw letters c)]) (by simp;omega)
  refine ⟨p,q,?_⟩
  rw [List.map_cons,oS]
  simp only [CN,List.set_cons_zero,List.set_cons_succ,t1]
  rw [e]
  simp
theorem vQ(mark raw letters:List Nat)(c:Nat):(kT mark raw letters c).length≤mark.length+1:=by
 unfold kT
 split
 ·simp
 ·simp
theorem lW(k:Nat)(l mark raw letters:List Nat)(hl:raw.length≤letters.length)(hz:letters.length≤1000)(hm:mark.length≤1000)(hn:l.length≤4000):F (k+1) .escaped [.str l,.str mark,.str raw,.str letters]= .ok (.str (rl mark raw letters l)):=by
 show ar (kL (F k)) 4 7 [.str l,.str mark,.str raw,.str letters]=_
 obtain ⟨p,q,lp⟩:=vP (F k) (.str l) mark raw letters hl hz hm l none none [] (by simp;omega)
 have mp:(l.map fun c=>PV.str (kT mark raw letters c))=(l.map (kT mark raw letters)).map PV.str:=by simp [Function.comp_def]
 have jn:∀ r,eG (.str []) [.ref 0] (.lst ((l.map (kT mark raw letters)).map PV.str)::r)= .ok (.str (l.map (kT mark raw letters)).flatten) (.lst ((l.map (kT mark raw letters)).map PV.str)::r):=fun r=>Eh (by
  have:=pC (kT mark raw letters) (mark.length+1) (vQ mark raw letters) l
  have:l.length * (mark.length+1)≤4000 * 1001:=Nat.mul_le_mul hn (by omega)
  omega)
 rw [List.nil_append,mp] at lp
 simp only [EV,ar,kL,br,lp,jn,rl]
theorem qE(mark raw letters l:List Nat):(rl mark raw letters l).length≤l.length * (mark.length+1):=by
 unfold rl
 rw [List.length_flatten]
 exact pC (kT mark raw letters) (mark.length+1) (vQ mark raw letters) l
def but(l:List Nat):List Nat:=bz.filter fun c=>!l.contains c
theorem Fy{mark raw letters l A:List Nat}{P:Nat→Prop}(h:∀ c∈l,c∈A)(ha:∀ c∈A,∀ x∈kT mark raw letters c,P x):∀ x∈rl mark raw letters l,P x:=by
 intro x hx
 unfold rl at hx
 obtain ⟨e,he,hxe⟩:=List.mem_flatten.mp hx
 obtain ⟨c,hc,rfl⟩:=List.mem_map.mp he
 exact ha c (h c hc) x hxe
theorem AY{v:Int}(h1: -1000000000000000000000000000000<v)(h2:v<1000000000000000000000000000000):(pF v).length≤1921:=by
 have:=PyProof.Rows.int_text_len_1921 (rT h1 h2)
 unfold pF
 rw [Array.length_toList]
 exact this
theorem Dz(i:Int):∀ c∈pF i,c<1114112:=fun c hc=>by
 rw [ye] at hc
 split at hc
 ·have:=oT _ c hc;omega
 ·rcases List.mem_cons.mp hc with rfl | q
  ·decide
  ·have:=oT _ c q;omega
theorem xI(m:Nat)(raw letters l:List Nat)(hm:m<1114112)(h:∀ c∈l,c∈bz)(hl:∀ c∈letters,c<1114112):∀ x∈rl [m] raw letters l,x<1114112:=by
 refine Fy (A:=bz) h fun c hc x hx=>?_
 unfold kT at hx
 split at hx
 ·rcases List.mem_append.mp hx with q | q
  ·rw [List.mem_singleton.mp q];exact hm
  ·rename_i j _
   cases e:letters[j]? with
   | none=>simp [e] at q;try omega
   | some y=>simp [e] at q;subst q;exact hl _ (List.mem_of_getElem? e)
 ·rw [List.mem_singleton.mp hx];exact zj c hc
def ky(i:Nat)(v:PV)(b:Bool)(s:List Nat):Prop:=(∀ k,F (k+3) (vO i) [.ins i [],v]= .ok (.bl b))∧(b=true→(∀ k,F (k+2) (DA i) [.ins i [],v]= .ok (.str s))∧s.length≤2000∧∀ c∈s,c<1114112)
theorem zF(k:Nat)(i:Int):F (k+1) .is_short_number [.int i]= .ok (.bl (decide ((if i<0 then -i else i)<1000000000000000000000000000000))):=by
 show ar (cj (F k)) 1 1 [.int i]=_
 have p1:decide (Int.natAbs 10<18446744073709551616)=true:=rfl
 simp only [EV,ar,cj,br,p1,Int.reduceToNat]
theorem KJ{v:PV}(hv:Dv v):∃ b s,ky 0 v b s:=by
 have pv:=hv.pure
 obtain ⟨b1,t1,t2⟩:=yb hv 40
 have z:∀ k h,bn (F (k+2) .is_text) [v,.int 40] h= .ok (.bl b1) h:=fun k h=>aK h (by simp only [ai,pv];rfl) (t1 k)
 cases b1 with
 | false=>
  refine ⟨false,[],fun k=>?_,fun e=>by cases e⟩
  show ar (eO (F (k+2))) 2 2 [.ins 0 [],v]=_
  simp only [EV,ar,eO,ak _ pv,z,br]
 | true=>
  obtain ⟨l,rfl,hl,hs⟩:=t2 rfl
  have lt:∀ c∈l,c<1114112:=fun c hc=>zj c (hs c hc)
  have e3:∀ h,pNe (.str l) (.str []) h= .ok (.bl (!decide (l= []))) h:=fun h=>wS _ _ _ lt (by simp)
  have e4:∀ k h,bn (F (k+2) .is_made_of) [.str l,.str fX] h= .ok (.bl (l.all fX.contains)) h:=fun k h=>aK h rfl (made (k+1) l fX)
  refine ⟨!decide (l= [])&&l.all fX.contains,l,fun k=>?_,fun e=>⟨fun k=>?_,by omega,lt⟩⟩
  ·show ar (eO (F (k+2))) 2 2 [.ins 0 [],.str l]=_
   cases q:decide (l= []) with
   | true=>simp only [EV,ar,eO,z,e3,q,br]
   | false=>simp only [EV,ar,eO,z,e3,e4,q,br]
  ·show ar (fK (F (k+1))) 2 2 [.ins 0 [],.str l]=_
   simp only [EV,ar,fK,br]
theorem KL{v:PV}(hv:Dv v):∃ b s,ky 1 v b s:=by
 cases hv with
 | int i=>
  refine ⟨decide ((if i<0 then -i else i)<1000000000000000000000000000000),pF i,fun k=>?_,fun e=>?_⟩
  ·show ar (bA (F (k+2))) 2 2 [.ins 1 [],.int i]=_
   have e:=zF (k+1) i
   simp only [EV,ar,bA,bp,e,br]
  ·have e:=of_decide_eq_true e
   have h1: -1000000000000000000000000000000<i:=by split at e<;>omega
   have h2:i<1000000000000000000000000000000:=by split at e<;>omega
   have lg:=rT h1 h2
   refine ⟨fun k=>?_,Nat.le_trans (AY h1 h2) (by decide),Dz i⟩
   show ar (dX (F (k+1))) 2 2 [.ins 1 [],.int i]=_
   simp only [EV,ar,dX,lg,br]
 | bl b=>
  refine ⟨false,[],fun k=>?_,fun e=>by cases e⟩
  show ar (bA (F (k+2))) 2 2 [.ins 1 [],.bl b]=_
  simp only [EV,ar,bA,br]
 | str l h hc=>
  refine ⟨false,[],fun k=>?_,fun e=>by cases e⟩
  show ar (bA (F (k+2))) 2 2 [.ins 1 [],.str l]=_
  simp only [EV,ar,bA,br]
 | lst l p=>
  refine ⟨false,[],fun k=>?_,fun e=>by cases e⟩
  show ar (bA (F (k+2))) 2 2 [.ins 1 [],.lst l]=_
  simp only [EV,ar,bA,br]
 | dct l p=>
  refine ⟨false,[],fun k=>?_,fun e=>by cases e⟩
  show ar (bA (F (k+2))) 2 2 [.ins 1 [],.dct l]=_
  simp only [EV,ar,bA,br]
theorem KK(i:Nat)(h2:2≤i)(h5:i<5){v:PV}(hv:Dv v):∃ b s,ky i v b s:=by
 have pv:=hv.pure
 obtain ⟨b,t1,t2⟩:=yb hv 400
 have z:∀ k h,bn (F (k+2) .is_text) [v,.int 400] h= .ok (.bl b) h:=fun k h=>aK h (by simp only [ai,pv];rfl) (t1 k)
 have ft:∀ k,F (k+3) (vO i) [.ins i [],v]= .ok (.bl b):=fun k=>by
  rcases (show i=2∨i=3∨i=4 by omega) with rfl | rfl | rfl
  ·show ar (gA (F (k+2))) 2 2 [.ins 2 [],v]=_
   simp only [EV,ar,gA,ak _ pv,z,br]
  ·show ar (gY (F (k+2))) 2 2 [.ins 3 [],v]=_
   simp only [EV,ar,gY,ak _ pv,z,br]
  ·show ar (iN (F (k+2))) 2 2 [.ins 4 [],v]=_
   simp only [EV,ar,iN,ak _ pv,z,br]
 cases b with
 | false=>exact ⟨false,[],ft,fun e=>by cases e⟩
 | true=>
  obtain ⟨l,rfl,hl,hs⟩:=t2 rfl
  have hl:l.length≤400:=by omega
  rcases (show i=2∨i=3∨i=4 by omega) with rfl | rfl | rfl
  ·have q:=fun k=>lW k l [94] [94,34,10] [94,113,110] (by decide) (by decide) (by decide) (by omega)
   have le:=qE [94] [94,34,10] [94,113,110] l
   have lt:=xI 94 [94,34,10] [94,113,110] l (by decide) hs (by decide)
   have le:(QE l).length≤800:=Nat.le_trans le (by simp only [List.length_cons,List.length_nil];omega)
   refine ⟨true,34::(QE l++ [34]),ft,fun _=>⟨fun k=>?_,by simp only [List.length_cons,List.length_append,List.length_nil];omega,fun c hc=>?_⟩⟩
   ·show ar (dU (F (k+1))) 2 2 [.ins 2 [],.str l]=_
    have a1:1+(QE l).length≤16777216:=by omega
    have a2:(QE l).length+1+1≤16777216:=by omega
    simp only [EV,ar,dU,bp,q k,a1,br,List.length_cons,a2]
   ·rcases List.mem_cons.mp hc with rfl | hc
    ·decide
    ·rcases List.mem_append.mp hc with hc | hc
     ·exact lt c hc
     ·rw [List.mem_singleton.mp hc];decide
  ·have q:=fun k=>lW k l [126] [126,60,62,38,124,10] [126,108,103,97,98,110] (by decide) (by decide) (by decide) (by omega)
   have le:=qE [126] [126,60,62,38,124,10] [126,108,103,97,98,110] l
   refine ⟨true,PEs l,ft,fun _=>⟨fun k=>?_,Nat.le_trans le (by simp only [List.length_cons,List.length_nil];omega),xI 126 _ _ l (by decide) hs (by decide)⟩⟩
   show ar (eV (F (k+1))) 2 2 [.ins 3 [],.str l]=_
   simp only [EV,ar,eV,bp,q k,br]
  ·have q:=fun k=>lW k l [126] [126,10] [126,110] (by decide) (by decide) (by decide) (by omega)
   have le:=qE [126] [126,10] [126,110] l
   refine ⟨true,LE l,ft,fun _=>⟨fun k=>?_,Nat.le_trans le (by simp only [List.length_cons,List.length_nil];omega),xI 126 _ _ l (by decide) hs (by decide)⟩⟩
   show ar (fL (F (k+1))) 2 2 [.ins 4 [],.str l]=_
   simp only [EV,ar,fL,bp,q k,br]
theorem yL(i:Nat)(hi:i<5){v:PV}(hv:Dv v):∃ b s,ky i v b s:=by
 rcases (show i=0∨i=1∨2≤i by omega) with rfl | rfl | h
 ·exact KJ hv
 ·exact KL hv
 ·exact KK i h hi hv
theorem uc{i:Nat}(hi:i<5){v:PV}(pv:v.pure=true){s:List Nat}(f:ky i v true s)(k:Nat):F (k+4) .Way_coded [.ins i [],v]= .ok (.str s):=by
 have pi:(PV.ins i []).pure=true:=rfl
 have z1:∀ h,bn (F (k+3) (vO i)) [.ins i [],v] h= .ok (.bl true) h:=fun h=>aK h (by simp only [ai,pv,pi];rfl) (f.1 k)
 have z2:∀ h,bn (F (k+3) (DA i)) [.ins i [],v] h= .ok (.str s) h:=fun h=>aK h (by simp only [ai,pv,pi];rfl) ((f.2 rfl).1 (k+1))
 show ar (iM (F (k+3))) 2 2 [.ins i [],v]=_
 simp only [EV,ar,iM,qJ _ i hi,KW _ i hi,ak _ pv,z1,z2,br]
def wV:List Nat:= [118,97,108,117,101]
def Lv(b:Bool)(v:PV)(s:List Nat)(n:Int)(ps:List (List Nat))(d:List (PK×PV)):Res PV:=match b with
 | true=>.ok v (hW (n+1) (ps++ [s]) d)
 | false=>.exc (xf wV) (hW (n+1) ps d)
theorem DY(k:Nat)(n:Int)(ps:List (List Nat)){d:List (PK×PV)}(hd:okD d=true)(r:List PV)(x:PV)(h0:n<2000)(hl:ps.length<16777216)(hx:x.pure=true)(hr:ai r=true){i:Nat}(hi:i<5){v:PV}(pv:v.pure=true){b:Bool}{s:List Nat}(f:ky i v b s)(e:F (k+4) .found [x,.tup r]= .ok (.tup [v])):
  X_ (k+6) .Pen_put [.ref 1,.tup (x::r),.str (gb i)] (hW n ps d)=Lv b v s n ps d:=by
 have c:=ja (k+3) n ps hd r x v h0 e hx hr pv
 have y:∀ h,bn (F (k+5) .way_of) [.str (gb i)] h= .ok (.ins i []) h:=fun h=>aK h rfl (sO (k+4) i hi)
 have pi:(PV.ins i []).pure=true:=rfl
 have g:∀ h,bn (F (k+5) (vO i)) [.ins i [],v] h= .ok (.bl b) h:=fun h=>aK h (by simp only [ai,pv,pi];rfl) (f.1 (k+2))
 cases b with
 | true=>
  have w:=nB (k+4) (n+1) ps hd hl s
  have q:∀ h,bn (F (k+5) .Way_coded) [.ins i [],v] h= .ok (.str s) h:=fun h=>aK h (by simp only [ai,pv,pi];rfl) (uc hi pv f (k+1))
  show bq (fN (F (k+5)) (X_ (k+5)) _) 3 5 [.ref 1,.tup (x::r),.str (gb i)] (hW n ps d)=_
  simp only [EV,bq,fN,d_1,o_p,c,w,y,g,q,qJ _ i hi,CT _ i hi,ak _ pv]
  exact sw _ _ _ _ _ hd pv
 | false=>
  show bq (fN (F (k+5)) (X_ (k+5)) (Nat.ble 2 (dl (k+5)))) 3 5 [.ref 1,.tup (x::r),.str (gb i)] (hW n ps d)=_
  have b2:Nat.ble 2 (dl (k+5))=true:=rfl
  simp only [EV,bq,fN,d_1,o_p,c,y,g,qJ _ i hi,ak _ pv,b2]
  exact gO _ _ _ _ _ hd rfl
abbrev Ls:=List (List Nat)
inductive Ev1 where
 | txt (t:List Nat)
 | cnt (t:List Nat)
 | stop (w:List Nat)
def go(n:Int):List Ev1→Option (List Nat)×Int×List Nat
 | []=>(none,n,[])
 | .txt t::r=>((go n r).1,(go n r).2.1,t++(go n r).2.2)
 | .cnt t::r=>if n=2000 then (some fU,n+1,[]) else ((go (n+1) r).1,(go (n+1) r).2.1,t++(go (n+1) r).2.2)
 | .stop w::_=>(some w,n,[])
theorem xF(a b:List Ev1):∀ n:Int,go n (a++b)=if (go n a).1=none then ((go (go n a).2.1 b).1,(go (go n a).2.1 b).2.1,(go n a).2.2++(go (go n a).2.1 b).2.2) else go n a:=by
 induction a with
 | nil=>intro n;rw [List.nil_append,go,if_pos rfl,List.nil_append]
 | cons e r ih=>
  intro n
  rw [List.cons_append]
  cases e with
  | txt t=>
   rw [go,ih n,go]
   by_cases q:(go n r).1=none
   ·simp only [q,if_true,List.append_assoc]
   ·simp only [q,if_false]
  | cnt t=>
   rw [go,go]
   by_cases z:n=2000
   ·rw [if_pos z,if_pos z,if_neg (by simp)]
   ·rw [if_neg z,if_neg z,ih (n+1)]
    by_cases q:(go (n+1) r).1=none
    ·simp only [q,if_true,List.append_assoc]
    ·simp only [q,if_false]
  | stop w=>rw [go,go,if_neg (by simp)]
theorem Gj(a:List Ev1):∀ n:Int,n≤2000→(go n a).1=none→n≤(go n a).2.1∧(go n a).2.1≤2000:=by
 induction a with
 | nil=>intro n h _;exact ⟨Int.le_refl _,h⟩
 | cons e r ih=>
  intro n h q
  cases e with
  | txt t=>exact ih n h q
  | cnt t=>
   rw [go] at q ⊢
   by_cases z:n=2000
   ·rw [if_pos z] at q;cases q
   ·rw [if_neg z] at q ⊢
    obtain ⟨a1,a2⟩:=ih (n+1) (by omega) q
    exact ⟨by show n≤(go (n+1) r).2.1;omega,a2⟩
  | stop w=>cases q
section
variable (K:Nat) (d:List (PK×PV)) (S:PV)
def Pn(nd:PV)(ev:List Ev1):Prop:=nd.pure=true∧∀ (n:Int) (ps:Ls),n≤2000→ps.length+ev.length≤100000→∃ ps2:Ls,X_ K .Writer_write_node [.ref 0,nd,S] (hW n ps d)=out (go n ev).1 (go n ev).2.1 ps2 d∧ps2.flatten=ps.flatten++(go n ev).2.2∧ps2.length≤ps.length+ev.length
def Pl(l:List PV)(ev:List Ev1):Prop:=ai l=true∧∀ (n:Int) (ps:Ls),n≤2000→ps.length+ev.length≤100000→∃ ps2:Ls,Lo K d S l n ps (go n ev).1 (go n ev).2.1 ps2∧ps2.flatten=ps.flatten++(go n ev).2.2∧ps2.length≤ps.length+ev.length
def Pw(l:List PV)(ev:List Ev1):Prop:=ai l=true∧∀ (n:Int) (ps:Ls),n≤2000→ps.length+ev.length≤100000→∃ ps2:Ls,X_ K .Writer_write_nodes [.ref 0,.tup l,S] (hW n ps d)=out (go n ev).1 (go n ev).2.1 ps2 d∧ps2.flatten=ps.flatten++(go n ev).2.2∧ps2.length≤ps.length+ev.length
end
section
variable {K:Nat} {d:List (PK×PV)} {S nd:PV} {l:List PV} {e1 e2:List Ev1}
theorem qk:Pl K d S [] []:=⟨rfl,fun n ps _ _=>⟨ps,.nil,by rw [go,List.append_nil],by simp⟩⟩
theorem gS(a:Pn K d S nd e1)(b:Pl K d S l e2):Pl K d S (nd::l) (e1++e2):=⟨by rw [ai,a.1,b.1];rfl,fun n ps h1 h2=>by
 rw [List.length_append] at h2
 obtain ⟨p1,x1,x2,x3⟩:=a.2 n ps h1 (by omega)
 rw [xF]
 by_cases q:(go n e1).1=none
 ·obtain ⟨p2,y1,y2,y3⟩:=b.2 (go n e1).2.1 p1 (Gj e1 n h1 q).2 (by omega)
  rw [if_pos q]
  rw [q] at x1
  refine ⟨p2,.cons a.1 x1 y1,?_,by rw [List.length_append];omega⟩
  show p2.flatten=ps.flatten++((go n e1).2.2++(go (go n e1).2.1 e2).2.2)
  rw [y2,x2,List.append_assoc]
 ·rw [if_neg q]
  cases hw:(go n e1).1 with
  | none=>exact absurd hw q
  | some w=>
   rw [hw] at x1
   exact ⟨p1,.stop a.1 x1,x2,by rw [List.length_append];omega⟩⟩
theorem jG(hd:okD d=true)(hS:S.pure=true)(a:Pl K d S l e1):Pw (K+1) d S l e1:=⟨a.1,fun n ps h1 h2=>by
 obtain ⟨p1,x1,x2,x3⟩:=a.2 n ps h1 h2
 exact ⟨p1,Ae hd hS a.1 x1,x2,x3⟩⟩
theorem jS(a:Pn K d S nd e1):Pl K d S [nd] e1:=by
 have:=gS a (qk (K:=K) (d:=d) (S:=S))
 rwa [List.append_nil] at this
end
def rdE(bt:List Nat):Nat→List (List Ev1)→List Ev1
 | _,[]=> []
 | i,e::r=>.cnt (if i>0 then bt else [])::(e++rdE bt (i+1) r)
abbrev Ie:=PV×List Ev1
theorem Gi(i:Nat)(bt:List Nat)(ps:Ls):(if i>0 then ps++ [bt] else ps).flatten=ps.flatten++(if i>0 then bt else []):=by
 by_cases h:i>0
 ·rw [if_pos h,if_pos h,List.flatten_append];simp
 ·rw [if_neg h,if_neg h,List.append_nil]
theorem It(i:Nat)(bt:List Nat)(ps:Ls):(if i>0 then ps++ [bt] else ps).length≤ps.length+1:=by split<;>simp
theorem FY{K:Nat}{d:List (PK×PV)}{x bt:List Nat}{nodes:List PV}{S:PV}:∀ (its:List Ie) (i:Nat) (n:Int) (ps:Ls),(∀ t∈its,t.1.pure=true∧∃ S1,S1.pure=true∧F K .scope_in_loop [.str x,.tup [t.1],S]= .ok S1∧Pw K d S1 nodes t.2)→n≤2000→ps.length+(rdE bt i (its.map (·.2))).length≤100000→
  ∃ ps2:Ls,Rd K d x nodes bt S i (its.map (·.1)) n ps (go n (rdE bt i (its.map (·.2)))).1 (go n (rdE bt i (its.map (·.2)))).2.1 ps2∧ps2.flatten=ps.flatten++(go n (rdE bt i (its.map (·.2)))).2.2∧ps2.length≤ps.length+(rdE bt i (its.map (·.2))).length
 | [],i,n,ps,_,_,_=>⟨ps,.nil,by simp [rdE,go],by simp⟩
 | (v,ev)::r,i,n,ps,h,hn,hl=>by
  obtain ⟨p,S1,p1,e1,w⟩:=h _ List.mem_cons_self
  rw [List.map_cons,List.map_cons,rdE] at *
  rw [List.length_cons,List.length_append] at hl
  dsimp only at hl w
  rw [go]
  by_cases z:n=2000
  ·rw [if_pos z]
   exact ⟨ps,.lim p z,by simp,by omega⟩
  ·rw [if_neg z,xF]
   have il:=It i bt ps
   obtain ⟨q1,x1,x2,x3⟩:=w.2 (n+1) (if i>0 then ps++ [bt] else ps) (by omega) (by omega)
   by_cases q:(go (n+1) ev).1=none
   ·rw [if_pos q]
    rw [q] at x1
    obtain ⟨q2,y1,y2,y3⟩:=FY (bt:=bt) r (i+1) (go (n+1) ev).2.1 q1 (fun t ht=>h t (List.mem_cons_of_mem _ ht)) (Gj ev (n+1) (by omega) q).2 (by omega)
    refine ⟨q2,.cons S1 p p1 (by omega) (by omega) e1 x1 y1,?_,by rw [List.length_cons,List.length_append];dsimp only;omega⟩
    rw [y2,x2,Gi]
    simp only [List.append_assoc]
   ·rw [if_neg q]
    cases hw:(go (n+1) ev).1 with
    | none=>exact absurd hw q
    | some u=>
     rw [hw] at x1
     refine ⟨q1,.stop S1 p p1 (by omega) (by omega) e1 x1,?_,by rw [List.length_cons,List.length_append];dsimp only;omega⟩
     rw [x2,Gi,List.append_assoc]
def Fo(a:PV)(fs:List PV)(o:Option PV):Prop:=∀ k,F (k+1) .found [a,.tup fs]= .ok (.tup (match o with | some v=> [v] | none=> []))
section
variable {d:List (PK×PV)} (hd:okD d=true)
include hd
theorem tF(k:Nat)(n n2:Int)(ps ps2:Ls)(path ref:List PV)(w u:List Nat)(S:PV)(hS:S.pure=true)(hp:ai path=true)(e1:F (k+1) .stood_for [.tup path,S]= .ok (.tup ref))(e2:X_ (k+1) .Pen_put [.ref 1,.tup ref,.str w] (hW n ps d)= .exc (xf u) (hW n2 ps2 d)):
  X_ (k+2) .Writer_write_node [.ref 0,.tup [tgP,.tup path,.str w],S] (hW n ps d)= .exc (xf u) (hW n2 ps2 d):=by
 show bq (au (F (k+1)) (X_ (k+1))) 3 7 [.ref 0,.tup [tgP,.tup path,.str w],S] (hW n ps d)=_
 have q1:∀ h,pEq (.str [112,108,97,99,101]) (.str [116,101,120,116]) h= .ok (.bl false) h:=cL _ _ _ (by decide) (by decide) rfl
 have q2:∀ h,pEq (.str [112,108,97,99,101]) (.str [112,108,97,99,101]) h= .ok (.bl true) h:=cL _ _ _ (by decide) (by decide) rfl
 have ppt:(PV.tup path).pure=true:=by rw [PV.pure];exact hp
 have z:∀ h,bn (F (k+1) .stood_for) [.tup path,S] h= .ok (.tup ref) h:=fun h=>aK h (by simp only [ai,ppt,hS];rfl) e1
 simp only [EV,bq,au,tgP,at0,at1,at2,d_0,o_w,o_p,jI,q1,q2,ak _ ppt,ak _ hS,z,e2,jY]
 exact gO _ _ _ _ _ hd rfl
theorem mE(k:Nat)(S:PV)(t:List Nat):Pn (k+2) d S (.tup [tgT,.str t]) [.txt t]:=⟨rfl,fun n ps h1 h2=>by
 simp only [List.length_cons,List.length_nil] at h2
 exact ⟨ps++ [t],Af hd k n ps (by omega) t S,by simp [go],by simp⟩⟩
def evP(b:Bool)(s:List Nat):List Ev1:=match b with
 | true=> [.cnt s]
 | false=> [.cnt [],.stop wV]
omit hd in
def evF:Option (List Ev1)→List Ev1
 | some e=>e
 | none=> [.cnt [],.stop cE]
theorem mF(k:Nat)(x:PV)(r path:List PV)(S:PV)(hS:S.pure=true)(hp:ai path=true)(hx:x.pure=true)(hr:ai r=true)(st:∀ k,F (k+1) .stood_for [.tup path,S]= .ok (.tup (x::r))){i:Nat}(hi:i<5){o:Option PV}(f:Fo x r o)(ho:∀ v,o=some v→v.pure=true)(bs:PV→Bool×List Nat)(fc:∀ v,o=some v→ky i v (bs v).1 (bs v).2):
  Pn (k+8) d S (.tup [tgP,.tup path,.str (gb i)]) (evF (o.map fun v=>evP (bs v).1 (bs v).2)):=by
 refine ⟨by simp only [PV.pure,tgP];rw [ai,ai,ai,PV.pure,hp];rfl,fun n ps h1 h2=>?_⟩
 by_cases z:n=2000
 ·have c:=hU (k+3) n ps hd (x::r) z
  have pu:=FZ (k+5) n (n+1) ps hd (x::r) fU c (gb i)
  have nd:=tF hd (k+6) n (n+1) ps ps path (x::r) (gb i) fU S hS hp (st _) pu
  refine ⟨ps,?_,?_,by omega⟩
  ·rw [nd]
   cases o with
   | none=>simp only [Option.map,evF,go,z,if_true,out]
   | some v=>cases q:(bs v).1<;>simp only [Option.map,evF,evP,q,go,z,if_true,out]
  ·cases o with
   | none=>simp only [Option.map,evF,go,z,if_true,List.append_nil]
   | some v=>cases q:(bs v).1<;>simp only [Option.map,evF,evP,q,go,z,if_true,List.append_nil]
 ·cases o with
  | none=>
   have c:=jT (k+4) n ps hd r x (by omega) (f _) hx hr
   have pu:=FZ (k+5) n (n+1) ps hd (x::r) cE c (gb i)
   have nd:=tF hd (k+6) n (n+1) ps ps path (x::r) (gb i) cE S hS hp (st _) pu
   refine ⟨ps,?_,by simp only [Option.map,evF,go,z,if_false,List.append_nil,List.nil_append],by omega⟩
   rw [nd]
   simp only [Option.map,evF,go,z,if_false,out]
  | some v=>
   have pv:=ho v rfl
   have pu:=DY (k+1) n ps hd r x (by omega) (by omega) hx hr hi pv (fc v rfl) (f _)
   cases q:(bs v).1 with
   | true=>
    rw [q] at pu
    have nd:=wU hd (k+6) n (n+1) ps (ps++ [(bs v).2]) path (x::r) (gb i) v S hS hp (by rw [ai,hx,hr];rfl) (st _) pu
    refine ⟨ps++ [(bs v).2],?_,by simp [Option.map,evF,evP,q,go,z],by simp [Option.map,evF,evP,q]⟩
    rw [nd]
    simp only [Option.map,evF,evP,q,go,z,if_false,out]
   | false=>
    rw [q] at pu
    have nd:=tF hd (k+6) n (n+1) ps ps path (x::r) (gb i) wV S hS hp (st _) pu
    refine ⟨ps,?_,by simp [Option.map,evF,evP,q,go,z],by omega⟩
    rw [nd]
    simp only [Option.map,evF,evP,q,go,z,if_false,out]
end
section
variable {d:List (PK×PV)} (hd:okD d=true)
include hd
theorem mW(k:Nat)(n n2:Int)(ps:Ls)(path ref ys ns:List PV)(S:PV)(u:List Nat)(hS:S.pure=true)(hp:ai path=true)(e1:F (k+1) .stood_for [.tup path,S]= .ok (.tup ref))(e2:X_ (k+1) .Pen_truth_wanted [.ref 1,.tup ref] (hW n ps d)= .exc (xf u) (hW n2 ps d)):
  X_ (k+2) .Writer_write_node [.ref 0,.tup [tgC,.tup path,.tup ys,.tup ns],S] (hW n ps d)= .exc (xf u) (hW n2 ps d):=by
 show bq (au (F (k+1)) (X_ (k+1))) 3 7 [.ref 0,.tup [tgC,.tup path,.tup ys,.tup ns],S] (hW n ps d)=_
 have q1:∀ h,pEq (.str [99,104,111,105,99,101]) (.str [116,101,120,116]) h= .ok (.bl false) h:=cL _ _ _ (by decide) (by decide) rfl
 have q2:∀ h,pEq (.str [99,104,111,105,99,101]) (.str [112,108,97,99,101]) h= .ok (.bl false) h:=cL _ _ _ (by decide) (by decide) rfl
 have q3:∀ h,pEq (.str [99,104,111,105,99,101]) (.str [108,111,111,112]) h= .ok (.bl false) h:=cL _ _ _ (by decide) (by decide) rfl
 have q4:∀ h,pEq (.str [99,104,111,105,99,101]) (.str [99,104,111,105,99,101]) h= .ok (.bl true) h:=cL _ _ _ (by decide) (by decide) rfl
 have ppt:(PV.tup path).pure=true:=by rw [PV.pure];exact hp
 have z:∀ h,bn (F (k+1) .stood_for) [.tup path,S] h= .ok (.tup ref) h:=fun h=>aK h (by simp only [ai,ppt,hS];rfl) e1
 simp only [EV,bq,au,tgC,at0,at1,d_0,o_w,o_p,jI,q1,q2,q3,q4,ak _ ppt,ak _ hS,z,e2,jY]
 exact gO _ _ _ _ _ hd rfl
theorem tJ(k:Nat)(n n2:Int)(ps:Ls)(x bt:List Nat)(path ref nodes:List PV)(S:PV)(u:List Nat)(hS:S.pure=true)(hp:ai path=true)(e1:F (k+1) .stood_for [.tup path,S]= .ok (.tup ref))(e2:X_ (k+1) .Pen_list_wanted [.ref 1,.tup ref] (hW n ps d)= .exc (xf u) (hW n2 ps d)):
  X_ (k+3) .Writer_write_node [.ref 0,.tup [tgL,.str x,.tup path,.tup nodes,.str bt],S] (hW n ps d)= .exc (xf u) (hW n2 ps d):=by
 have ppt:(PV.tup path).pure=true:=by rw [PV.pure];exact hp
 have z:∀ h,bn (F (k+1) .stood_for) [.tup path,S] h= .ok (.tup ref) h:=fun h=>aK h (by simp only [ai,ppt,hS];rfl) e1
 have w:X_ (k+2) .Writer_write_rounds [.ref 0,.tup [tgL,.str x,.tup path,.tup nodes,.str bt],S] (hW n ps d)= .exc (xf u) (hW n2 ps d):=by
  show bq (bI (F (k+1)) (X_ (k+1))) 3 6 [.ref 0,.tup [tgL,.str x,.tup path,.tup nodes,.str bt],S] (hW n ps d)=_
  simp only [EV,bq,bI,at2,d_0,o_w,o_p,jI,ak _ ppt,ak _ hS,z,e2,jY]
  exact gO _ _ _ _ _ hd rfl
 show bq (au (F (k+2)) (X_ (k+2))) 3 7 [.ref 0,.tup [tgL,.str x,.tup path,.tup nodes,.str bt],S] (hW n ps d)=_
 have q1:∀ h,pEq (.str [108,111,111,112]) (.str [116,101,120,116]) h= .ok (.bl false) h:=cL _ _ _ (by decide) (by decide) rfl
 have q2:∀ h,pEq (.str [108,111,111,112]) (.str [112,108,97,99,101]) h= .ok (.bl false) h:=cL _ _ _ (by decide) (by decide) rfl
 have q3:∀ h,pEq (.str [108,111,111,112]) (.str [108,111,111,112]) h= .ok (.bl true) h:=cL _ _ _ (by decide) (by decide) rfl
 have dn:∀ h,ao h (.tup [.str [108,111,111,112],.str x,.tup path,.tup nodes,.str bt])= .tup [.str [108,111,111,112],.str x,.tup path,.tup nodes,.str bt]:=fun h=>rfl
 simp only [tgL] at w ⊢
 simp only [EV,bq,au,at0,d_0,o_w,o_p,q1,q2,q3,dn,ak _ hS,w,jY]
 exact gO _ _ _ _ _ hd rfl
variable (k:Nat) (x:PV) (r path:List PV) (S:PV) (hS:S.pure=true) (hp:ai path=true) (hx:x.pure=true) (hr:ai r=true) (st:∀ k,F (k+1) .stood_for [.tup path,S]= .ok (.tup (x::r)))
include hS hp hx hr st
theorem wK(ys ns:List PV)(hy:ai ys=true)(hn:ai ns=true)(w:List Nat)(f:Fo x r none∧w=cE∨∃ v,v.pure=true∧Fo x r (some v)∧(∀ h,aH [v,.ty "bool"] h= .ok (.bl false) h)∧w=nk):Pn (k+6) d S (.tup [tgC,.tup path,.tup ys,.tup ns]) [.cnt [],.stop w]:=by
 refine ⟨by simp only [PV.pure,tgC];rw [ai,ai,ai,ai,PV.pure,PV.pure,PV.pure,hp,hy,hn];rfl,fun n ps h1 h2=>⟨ps,?_,?_,by omega⟩⟩
 ·by_cases z:n=2000
  ·have c:=hU (k+1) n ps hd (x::r) z
   rw [mW hd (k+4) n (n+1) ps path (x::r) ys ns S fU hS hp (st _) (sQ (k+3) n (n+1) ps hd (x::r) fU c)]
   simp only [go,z,if_true,out]
  ·rcases f with ⟨f,rfl⟩ | ⟨v,pv,f,q,rfl⟩
   ·have c:=jT (k+2) n ps hd r x (by omega) (f _) hx hr
    rw [mW hd (k+4) n (n+1) ps path (x::r) ys ns S cE hS hp (st _) (sQ (k+3) n (n+1) ps hd (x::r) cE c)]
    simp only [go,z,if_false,out]
   ·have c:=ja (k+2) n ps hd r x v (by omega) (f _) hx hr pv
    rw [mW hd (k+4) n (n+1) ps path (x::r) ys ns S nk hS hp (st _) (AV (k+3) n (n+1) ps hd (x::r) v pv c q)]
    simp only [go,z,if_false,out]
 ·simp [go];split<;>rfl
theorem rI(ys ns:List PV)(t:Bool)(ev:List Ev1)(f:Fo x r (some (.bl t)))(hy:ai ys=true)(hn:ai ns=true)(w:Pw (k+5) d S (if t=true then ys else ns) ev):Pn (k+6) d S (.tup [tgC,.tup path,.tup ys,.tup ns]) (.cnt []::ev):=by
 refine ⟨by simp only [PV.pure,tgC];rw [ai,ai,ai,ai,PV.pure,PV.pure,PV.pure,hp,hy,hn];rfl,fun n ps h1 h2=>?_⟩
 rw [List.length_cons] at h2
 by_cases z:n=2000
 ·have c:=hU (k+1) n ps hd (x::r) z
  refine ⟨ps,?_,by simp [go,z],by omega⟩
  rw [mW hd (k+4) n (n+1) ps path (x::r) ys ns S fU hS hp (st _) (sQ (k+3) n (n+1) ps hd (x::r) fU c)]
  simp only [go,z,if_true,out]
 ·obtain ⟨ps2,x1,x2,x3⟩:=w.2 (n+1) ps (by omega) (by omega)
  refine ⟨ps2,?_,by rw [x2];simp [go,z],by rw [List.length_cons];omega⟩
  rw [uX hd (k+4) n (n+1) (go (n+1) ev).2.1 ps ps2 path (x::r) ys ns S t (go (n+1) ev).1 hS hp (by rw [ai,hx,hr];rfl) hy hn (st _) (zW (k+2) n ps hd r x (by omega) hx hr t (f _)) x1]
  simp only [go,z,if_false]
theorem BI(y bt:List Nat)(nodes:List PV)(hn:ai nodes=true)(w:List Nat)(f:Fo x r none∧w=cE∨∃ v,v.pure=true∧Fo x r (some v)∧(∀ h,aH [v,.ty "list"] h= .ok (.bl false) h)∧w=rn):Pn (k+7) d S (.tup [tgL,.str y,.tup path,.tup nodes,.str bt]) [.cnt [],.stop w]:=by
 refine ⟨by simp only [PV.pure,tgL];rw [ai,ai,ai,ai,ai,PV.pure,PV.pure,hp,hn];rfl,fun n ps h1 h2=>⟨ps,?_,?_,by omega⟩⟩
 ·by_cases z:n=2000
  ·have c:=hU (k+1) n ps hd (x::r) z
   rw [tJ hd (k+4) n (n+1) ps y bt path (x::r) nodes S fU hS hp (st _) (xl (k+3) n (n+1) ps hd (x::r) fU c)]
   simp only [go,z,if_true,out]
  ·rcases f with ⟨f,rfl⟩ | ⟨v,pv,f,q,rfl⟩
   ·have c:=jT (k+2) n ps hd r x (by omega) (f _) hx hr
    rw [tJ hd (k+4) n (n+1) ps y bt path (x::r) nodes S cE hS hp (st _) (xl (k+3) n (n+1) ps hd (x::r) cE c)]
    simp only [go,z,if_false,out]
   ·have c:=ja (k+2) n ps hd r x v (by omega) (f _) hx hr pv
    rw [tJ hd (k+4) n (n+1) ps y bt path (x::r) nodes S rn hS hp (st _) (EJ (k+3) n (n+1) ps hd (x::r) v pv c q)]
    simp only [go,z,if_false,out]
 ·simp [go];split<;>rfl
theorem yn(y bt:List Nat)(nodes:List PV)(its:List Ie)(hn:ai nodes=true)(f:Fo x r (some (.lst (its.map (·.1)))))(h:∀ t∈its,t.1.pure=true∧∃ S1,S1.pure=true∧F (k+4) .scope_in_loop [.str y,.tup [t.1],S]= .ok S1∧Pw (k+4) d S1 nodes t.2):
  Pn (k+6) d S (.tup [tgL,.str y,.tup path,.tup nodes,.str bt]) (.cnt []::rdE bt 0 (its.map (·.2))):=by
 refine ⟨by simp only [PV.pure,tgL];rw [ai,ai,ai,ai,ai,PV.pure,PV.pure,hp,hn];rfl,fun n ps h1 h2=>?_⟩
 rw [List.length_cons] at h2
 have pxs:ai (its.map (·.1))=true:=by
  clear f h2
  induction its with
  | nil=>rfl
  | cons t r ih=>rw [List.map_cons,ai,(h t List.mem_cons_self).1,ih fun u hu=>h u (List.mem_cons_of_mem _ hu)];rfl
 by_cases z:n=2000
 ·have c:=hU k n ps hd (x::r) z
  refine ⟨ps,?_,by simp [go,z],by omega⟩
  rw [tJ hd (k+3) n (n+1) ps y bt path (x::r) nodes S fU hS hp (st _) (xl (k+2) n (n+1) ps hd (x::r) fU c)]
  simp only [go,z,if_true,out]
 ·obtain ⟨ps2,x1,x2,x3⟩:=FY (bt:=bt) its 0 (n+1) ps h (by omega) (by omega)
  refine ⟨ps2,?_,by rw [x2];simp [go,z],by rw [List.length_cons];omega⟩
  rw [Ag hd (k+1) n (n+1) _ ps ps2 y bt path (x::r) nodes (its.map (·.1)) S _ hS hp (by rw [ai,hx,hr];rfl) hn pxs (st _) (BK (k+1) n ps hd r x (by omega) hx hr _ (f _) pxs) x1]
  simp only [go,z,if_false]
end
theorem FI{α:Type}(xs:List α)(v:α):atI (xs++ [v]) (-1)=some v:=by
 have e:(-1+((xs.length+1:Nat):Int)).toNat=xs.length:=by omega
 unfold atI ixN
 rw [if_neg (by decide),if_pos (by simp only [List.length_append,List.length_singleton];omega),List.length_append,List.length_singleton,e]
 simp
section
variable {d:List (PK×PV)} (hd:okD d=true)
include hd
theorem Hf(k:Nat)(x:List Nat)(ts:List Tr)(hs bd a b m S:PV)(l:List PV)(ev:List Ev1)(hS:S.pure=true)(h:okT (k+1) S ts)(hl:ts.length≤1000)(p1:hs.pure=true)(p2:bd.pure=true)(nb:rZ bd=false)(pl:ai l=true)(pa:a.pure=true)(pb:b.pure=true)(pm:m.pure=true)
  (vv:bJ d (.inr x)=some (.tup [a,b,tnm ts,m,.tup l])) (w:Pw (k+3) d (sc_ (hnd [] ts) (.tup [hs,bd,S])) l ev):Pn (k+4) d S (.tup [tgU,.str x,tpt ts,hs,bd]) ev:=by
 have pk:=gD ts [] rfl fun t ht=>(h t ht).2.2
 have h2:(sc_ (hnd [] ts) (.tup [hs,bd,S])).pure=true:=by simp only [sc_,PV.pure,ai,pk,p1,p2,hS];rfl
 refine ⟨by simp only [PV.pure,tgU];rw [ai,ai,ai,ai,ai,er h,p1,p2];rfl,fun n ps h3 h4=>?_⟩
 obtain ⟨ps2,x1,x2,x3⟩:=w.2 n ps h3 h4
 exact ⟨ps2,uW hd (k+2) n _ ps ps2 x (tpt ts) hs bd a b (tnm ts) m S _ l _ hS h2 (er h) p1 p2 pl (by simp only [PV.pure];rw [ai,ai,ai,ai,ai,pa,pb,fw,pm,PV.pure,pl];rfl) vv
  (Ir (k+1) S hs bd tgU (.str x) a b m (.tup l) hS ts h hl p1 p2 nb ⟨rfl,rfl,pa,pb,pm,by rw [PV.pure];exact pl⟩) x1,x2,x3⟩
theorem Ec(k:Nat)(x:List Nat)(ts:List Tr)(a b m S:PV)(l:List PV)(ev:List Ev1)(hS:S.pure=true)(h:okT (k+1) S ts)(hl:ts.length≤1000)(pl:ai l=true)(pa:a.pure=true)(pb:b.pure=true)(pm:m.pure=true)
  (vv:bJ d (.inr x)=some (.tup [a,b,tnm ts,m,.tup l])) (w:Pw (k+3) d (sc_ (hnd [] ts) .non) l ev):Pn (k+4) d S (.tup [tgU,.str x,tpt ts,.non,.non]) ev:=by
 have pk:=gD ts [] rfl fun t ht=>(h t ht).2.2
 have h2:(sc_ (hnd [] ts) .non).pure=true:=by simp only [sc_,PV.pure,ai,pk];rfl
 refine ⟨by simp only [PV.pure,tgU];rw [ai,ai,ai,ai,ai,er h];rfl,fun n ps h3 h4=>?_⟩
 obtain ⟨ps2,x1,x2,x3⟩:=w.2 n ps h3 h4
 exact ⟨ps2,uW hd (k+2) n _ ps ps2 x (tpt ts) .non .non a b (tnm ts) m S _ l _ hS h2 (er h) rfl rfl pl (by simp only [PV.pure];rw [ai,ai,ai,ai,ai,pa,pb,fw,pm,PV.pure,pl];rfl) vv
  (Fe (k+1) S .non tgU (.str x) a b m (.tup l) hS ts h hl) x1,x2,x3⟩
theorem Ed(k:Nat)(d0:List (PK×PV))(b0:PV)(l:List PV)(D:List (PK×PV))(p0:aI d0=true)(pb:b0.pure=true)(pl:ai l=true)(pD:aI D=true)(ts:List Tr)(ev:List Ev1)(h:okT (k+1) (sc_ D (.tup [tnm ts,.tup l,sc_ d0 b0])) ts)(hl:d0.length+ts.length≤1000)(w:Pw (k+3) d (sc_ (hnd d0 ts) b0) l ev):
  Pn (k+4) d (sc_ D (.tup [tnm ts,.tup l,sc_ d0 b0])) (.tup [tgB,tpt ts]) ev:=by
 have pc:(sc_ d0 b0).pure=true:=by simp only [sc_,PV.pure,ai,p0,pb];rfl
 have pL:(PV.tup l).pure=true:=by rw [PV.pure];exact pl
 have hS:(sc_ D (.tup [tnm ts,.tup l,sc_ d0 b0])).pure=true:=by
  have:(PV.tup [tnm ts,.tup l,sc_ d0 b0]).pure=true:=by rw [PV.pure,ai,ai,ai,fw,pL,pc];rfl
  have p2:(PV.dct D).pure=true:=by rw [PV.pure];exact pD
  show ai [PV.dct D,_]=true
  rw [ai,ai,p2,this];rfl
 have pk:=gD ts d0 p0 fun t ht=>(h t ht).2.2
 have h2:(sc_ (hnd d0 ts) b0).pure=true:=by simp only [sc_,PV.pure,ai,pk,pb];rfl
 refine ⟨by simp only [PV.pure,tgB];rw [ai,ai,er h];rfl,fun n ps h3 h4=>?_⟩
 obtain ⟨ps2,x1,x2,x3⟩:=w.2 n ps h3 h4
 exact ⟨ps2,Ah hd (k+2) n _ ps ps2 (tpt ts) (tnm ts) (sc_ d0 b0) _ D l _ hS (er h) pl (fw ts) pc h2 (Ff (k+1) d0 b0 (tnm ts) (.tup l) D p0 pb (fw ts) pL pD ts rfl h hl) x1,x2,x3⟩
end
def GI(o:Option (List Nat))(t:List Nat):PV:=match o with
 | none=>.tup [.str [119,114,105,116,116,101,110],.str t]
 | some w=>.tup [.str [114,101,102,117,115,101,100],.str w,.str t]
theorem Hp(f:Nat→Bool)(i:Nat)(g:Sx)(ρ:Ev)(C:Nat)(v:PV)(h:List PO):nTr f i g ρ (.exc (.exa C v) h)=if f C=true then (match g (ρ.set i (some (.exa C v))) h with | .rt v h2=>.rt v h2 | _=>.bad) else .bad:=rfl
theorem qj:∀ l:List Pq,(∀ p∈l,ai p.2=true)→ai (l.map pq)=true
 | [],_=>rfl
 | p::r,h=>by rw [List.map_cons,ai,mC (h p List.mem_cons_self),qj r fun q hq=>h q (List.mem_cons_of_mem _ hq)];rfl
theorem jU:∀ (l:List Pq) (acc:List (PK×PV)),(∀ p∈l,ai p.2=true)→aI acc=true→aI (pcs acc l)=true
 | [],_,_,h=>h
 | p::r,acc,h,ha=>jU r _ (fun q hq=>h q (List.mem_cons_of_mem _ hq)) (cb acc _ _ ha (mC (h p List.mem_cons_self)))
theorem oY(k:Nat)(l:List Pq)(nm:List Nat)(c m v:PV)(R:List (PK×PV))(nodes:List PV)(ev:List Ev1)(hl:l.length≤10)(hv:v.pure=true)(hR:aI R=true)(h0:∀ p∈l,ai p.2=true)(hc:c.pure=true)(hm:m.pure=true)
  (e0:F (k+2) .need_values [c,v]= .ok .non) (e1:F (k+2) .references_to [v]= .ok (.dct R)) (hz:(go 0 ev).2.2.length≤16777216) (he:ev.length≤100000)
  (w:Pw (k+2) (pcs [] (l++ [(nm,[c,m,.tup nodes])])) (sc_ R .non) nodes ev):
  F (k+3) .written [.tup ((l++ [(nm,[c,m,.tup nodes])]).map pq),v]= .ok (GI (go 0 ev).1 (go 0 ev).2.2):=by
 have hn:=w.1
 have pl:ai ([c,m,.tup nodes]:List PV)=true:=by rw [ai,ai,ai,hc,hm,PV.pure,hn];rfl
 have hp:∀ p∈l++ [(nm,[c,m,.tup nodes])],ai p.2=true:=by
  intro p hp
  rcases List.mem_append.mp hp with q | q
  ·exact h0 p q
  ·cases List.mem_singleton.mp q;exact pl
 have wi:=ul k (l++ [(nm,[c,m,.tup nodes])]) hp (by rw [List.length_append];simp only [List.length_cons,List.length_nil];omega)
 obtain ⟨ps2,x1,x2,x3⟩:=w.2 0 [] (by decide) (by rw [List.length_nil];omega)
 have hd:okD (pcs [] (l++ [(nm,[c,m,.tup nodes])]))=true:=rX 4 _ (jU _ _ hp rfl)
 have pqs:=qj _ hp
 have lst:((l++ [(nm,[c,m,.tup nodes])]).map pq)=l.map pq++ [pq (nm,[c,m,.tup nodes])]:=by rw [List.map_append];rfl
 have x2:ps2.flatten=(go 0 ev).2.2:=x2
 generalize hD:pcs [] (l++ [(nm,[c,m,.tup nodes])])=D at *
 generalize hB:(l++ [(nm,[c,m,.tup nodes])]).map pq=B at *
 have mk:mkO 601 (X_ (k+2) .Writer___init__) [.tup B] []= .ok (.ref 0) (hW 0 [] D):=by
  unfold mkO
  show (match X_ (k+2) .Writer___init__ [.ref 0,.tup B] [.obj 601 []] with | .ok .non h2=>Res.ok (PV.ref 0) h2 | _=>.bad)=_
  rw [wi]
 have pm:=mC (p:=(nm,[c,m,.tup nodes])) pl
 have pb:(PV.tup B).pure=true:=by rw [PV.pure];exact pqs
 have i1:∀ g,pIx (.tup B) (.int (-1)) g= .ok (pq (nm,[c,m,.tup nodes])) g:=fun g=>by
  rw [lst,Ck,FI]
  show Res.ok (ao g _) g=_
  rw [ak g pm]
 have i2:∀ g,pIx (pq (nm,[c,m,.tup nodes])) (.int 2) g= .ok c g:=fun g=>by show Res.ok (ao g c) g=_;rw [ak g hc]
 have pn:(PV.tup nodes).pure=true:=by rw [PV.pure];exact hn
 have i4:∀ g,pIx (pq (nm,[c,m,.tup nodes])) (.int 4) g= .ok (.tup nodes) g:=fun g=>by show Res.ok (ao g (.tup nodes)) g=_;rw [ak g pn]
 have z0:∀ h,bn (F (k+2) .need_values) [c,v] h= .ok .non h:=fun h=>aK h (by simp [ai,hc,hv]) e0
 have z1:∀ h,bn (F (k+2) .references_to) [v] h= .ok (.dct R) h:=fun h=>aK h (by simp [ai,hv]) e1
 have hz':(ps2.map (fun l=>l.length)).sum≤16777216:=by
  have:ps2.flatten.length=(ps2.map List.length).sum:=List.length_flatten
  rw [x2] at this
  exact Nat.le_trans (Nat.le_of_eq this.symm) hz
 have pw:=uO (k+1) (go 0 ev).2.1 ps2 hd hz'
 have x1:X_ (k+2) .Writer_write_nodes [.ref 0,.tup nodes,.tup [.dct R,.non]] (hW 0 [] D)=out (go 0 ev).1 (go 0 ev).2.1 ps2 D:=x1
 show ar (ji (F (k+2)) (X_ (k+2))) 2 5 [.tup B,v]=_
 cases ho:(go 0 ev).1 with
 | none=>
  rw [ho] at x1
  simp only [EV,ar,ji,ak _ pb,ak _ hv,ak _ pm,i1,i2,i4,z0,z1,mk,d_0,o_w,x1,out,jI,o_p,pw,x2]
  exact fm _ rfl
 | some w=>
  rw [ho] at x1
  have pr:=uP (k+1) (go 0 ev).2.1 ps2 hd hz' w
  have okw:mI 500=true:=rfl
  have ca:gF 500=true:=rfl
  simp only [EV,ar,ji,ak _ pb,ak _ hv,ak _ pm,i1,i2,i4,z0,z1,mk,d_0,o_w,x1,out,xf,Hp,ca,jI,o_p,okw,pr,x2]
  exact fm _ rfl
theorem mls(x:Int):gV 3 x=true∧gV 5 x=true∧gV 7 x=true∧gV 31 x=true∧gV 7919 x=true∧gV x 48271=true:=by
 refine ⟨?_,?_,?_,?_,?_,lQ (by decide)⟩<;>exact Hv (by decide)
def CW:List (List Nat):= [[97,115],[98,101,116,119,101,101,110],[98,111,100,121],[101,108,115,101],[101,110,100],[102,111,114],[105,102],[105,110],[112,105,101,99,101],[117,115,101],[119,105,116,104]]
theorem Lj:∀ l∈CW,∀ c∈l,c<1114112:=by decide
theorem Li:eQ=CW:=rfl
theorem Ll:∀ c∈bg,c<1114112:=by decide
def lO(w:List Nat):Prop:=1≤w.length∧w.length≤8∧∀ c∈w,c∈bg
def nmO(w:List Nat):Prop:=lO w∧w∉CW
local macro_rules | `(tactic| simp $c:optConfig only [EX,$xs,*])=>do let a←(("Hg mls".splitOn.map fun n=>n.toName)).toArray.mapM fun n=>`(Lean.Parser.Tactic.simpLemma| $(Lean.mkIdent n):term);`(tactic| simp $c:optConfig only [EV,$a,*,$xs,*])
theorem rW{w:List Nat}(h:lO w):∀ c∈w,c<1114112:=fun c hc=>Ll c (h.2.2 c hc)
theorem wY{α:Type}{te:Ex}{cp:Ev}{h:List PO}(f g:α→PV)(l:List α)(h2:∀ x∈l,te (some (f x)::cp) h= .ok (g x) h):eI et te cp (l.map f) h= .ok (l.map g) h:=by
 induction l with
 | nil=>rfl
 | cons a r ih=>
  rw [List.map_cons,eI]
  show (te (some (f a)::cp) h).bind _=_
  rw [h2 a List.mem_cons_self]
  show (eI et te cp (r.map f) h).bind _=_
  rw [ih fun x hx=>h2 x (List.mem_cons_of_mem _ hx)]
  rfl
theorem bM:∀ l:List (List Nat),ai (l.map PV.str)=true
 | []=>rfl
 | a::r=>by rw [List.map_cons,ai,bM r];rfl
theorem LU{h:List PO}{i:Nat}{acc:List PV}(e:h[i]? =some (.lst acc)):ao h (.ref i)= .ref i:=by
 show (match h[i]? with | some (.froz q)=>q | _=>PV.ref i)=_
 rw [e]
def dup(l:List (List Nat)):Bool:=decide (qT l<l.length)
theorem pQ(f:Nat→List Nat):∀ (n:Nat) (x:List Nat),x∈dj f n↔∃ i,i<n∧f i=x
 | 0,x=>by simp [dj]
 | n+1,x=>by
  rw [dj,vd,pQ f n x]
  constructor
  ·rintro (⟨i,h,e⟩ | e)
   ·exact ⟨i,by omega,e⟩
   ·exact ⟨n,by omega,e.symm⟩
  ·rintro ⟨i,h,e⟩
   rcases Nat.lt_or_ge i n with q | q
   ·exact .inl ⟨i,q,e⟩
   ·have:i=n:=by omega
    subst this;exact .inr e.symm
theorem tj(f:Nat→List Nat):∀ n,(dj f n).length≤n
 | 0=>Nat.le_refl _
 | n+1=>by
  have:=tj f n
  rw [dj,oH]
  split
  ·omega
  ·rw [List.length_append,List.length_singleton];omega
theorem yh(f:Nat→List Nat):∀ n,(dj f n).length=n↔∀ i j,i<j→j<n→f i≠f j
 | 0=>⟨fun _ i j _ h=>(by omega),fun _=>rfl⟩
 | n+1=>by
  have le:=tj f n
  have ih:=yh f n
  rw [dj,oH]
  split
  ·rename_i hm
   obtain ⟨i,hi,e⟩:=(pQ f n _).mp hm
   exact ⟨fun z=>by omega,fun z=>(z i n hi (by omega) e).elim⟩
  ·rename_i hm
   rw [List.length_append,List.length_singleton]
   constructor
   ·intro z i j hij hj e
    rcases Nat.lt_or_ge j n with q | q
    ·exact ih.mp (by omega) i j hij q e
    ·have:j=n:=by omega
     subst this
     exact hm ((pQ f j _).mpr ⟨i,hij,e⟩)
   ·intro z
    have:=ih.mpr fun i j h g=>z i j h (by omega)
    omega
theorem IB(l:List (List Nat)):dup l=false↔l.Nodup:=by
 have h:=yh (fun i=>l.getD i []) l.length
 have le:=tj (fun i=>l.getD i []) l.length
 unfold dup qT
 rw [decide_eq_false_iff_not]
 constructor
 ·intro z
  have:=h.mp (by omega)
  rw [List.Nodup,List.pairwise_iff_getElem]
  intro i j hi hj hij
  have:=this i j hij hj
  simpa [List.getD_eq_getElem?_getD,hi,hj] using this
 ·intro z
  have:∀ i j,i<j→j<l.length→l.getD i []≠l.getD j []:=fun i j hij hj=>by
   rw [List.Nodup,List.pairwise_iff_getElem] at z
   have hi:i<l.length:=by omega
   have:=z i j hi hj hij
   simpa [List.getD_eq_getElem?_getD,hi,hj] using this
  have:=h.mpr this
  omega
theorem yX{α:Type}{l:List α}{a b:Option Int}{x:α}(h:x∈cut l a b):x∈l:=by
 unfold cut at h
 exact List.mem_of_mem_drop (List.mem_of_mem_take h)
theorem oU{α:Type}(l:List α)(a b:Option Int):(cut l a b).length≤l.length:=by
 unfold cut
 rw [List.length_take,List.length_drop]
 omega
theorem yY{α β:Type}(f:α→β)(l:List α)(a b:Option Int):cut (l.map f) a b=(cut l a b).map f:=by
 unfold cut
 rw [List.length_map,List.map_take,List.map_drop]
theorem pC{l:List (List Nat)}(h:∀ x∈l,x.length≤1):(l.map (fun l=>l.length)).sum≤l.length:=by
 induction l with
 | nil=>exact Nat.le_refl _
 | cons a r ih=>
  have:=ih fun x hx=>h x (List.mem_cons_of_mem _ hx)
  have:=h a List.mem_cons_self
  simp only [List.map_cons,List.sum_cons,List.length_cons]
  omega
def azA(i:Int):Nat:=bg.getD (i % 26).toNat 0
theorem xR:bg.length=26:=by decide
theorem Dd(i:Int):atI bg (i % 26)=some (azA i):=mZ 0 (Int.emod_nonneg _ (by decide)) (by rw [xR];exact Int.emod_lt_of_pos _ (by decide))
def w8(W:List (List Nat)):Prop:=W.length=8∧∀ x∈W,x.length≤1
theorem xZ{W V:List (List Nat)}(h:w8 W)(hm:∀ x∈V,x∈W)(hl:V.length≤100)(hp:List PO):V.flatten.length≤100∧eG (.str []) [.lst (V.map PV.str)] hp= .ok (.str V.flatten) hp:=by
 have s:=pC fun x hx=>h.2 x (hm x hx)
 exact ⟨by rw [List.length_flatten];exact Nat.le_trans s hl,tH (by omega)⟩
def wB(b:Nat):List Nat:=(List.range 8).map fun i=>bg.getD ((b+5 * i) % 26) 0
def sgl(l:List Nat):List (List Nat):=l.map fun c=> [c]
theorem pO(l:List Nat):(sgl l).flatten=l:=by
 induction l with
 | nil=>rfl
 | cons a r ih=>unfold sgl at *;rw [List.map_cons,List.flatten_cons,ih];rfl
theorem yW(l:List Nat)(a b:Option Int):cut (sgl l) a b=sgl (cut l a b):=yY _ l a b
def lOb(w:List Nat):Bool:=decide (1≤w.length)&&decide (w.length≤8)&&w.all bg.contains
theorem Cj{w:List Nat}(h:lOb w=true):lO w:=by
 simp only [lOb,Bool.and_eq_true,decide_eq_true_eq,List.all_eq_true,List.contains_iff_mem] at h
 exact ⟨h.1.1,h.1.2,h.2⟩
theorem nl0:((List.range 26).all fun b=>(List.range 8).all fun e=>lOb (cut (wB b) none (some (1+(e:Int)))))=true:=by kernel_rfl
theorem yj{n:Nat}{f:Nat→Bool}(h:(List.range n).all f=true){i:Nat}(hi:i<n):f i=true:=List.all_eq_true.mp h i (List.mem_range.mpr hi)
theorem ua{α:Type}(l:List α)(b:Nat):cut l none (some (b:Int))=l.take b:=by
 unfold cut
 rw [HT.sIx_nat,HT.sIx_none,List.drop_zero,Nat.sub_zero]
 rcases Nat.le_total b l.length with q | q
 ·rw [Nat.min_eq_left q]
 ·rw [Nat.min_eq_right q,List.take_of_length_le (Nat.le_refl _),List.take_of_length_le q]
theorem FH(i:Int):azA i∈bg:=by
 have h0:=Int.emod_nonneg i (by decide:(26:Int)≠0)
 have h1:=Int.emod_lt_of_pos i (by decide:(0:Int)<26)
 exact fA (by rw [xR];omega)
theorem GE(b:Nat):∀ c∈wB b,c∈bg:=fun c hc=>by
 obtain ⟨i,_,rfl⟩:=List.mem_map.mp hc
 exact fA (by rw [xR];omega)
def bB(n j:Int):Nat:=((n / 128+3 * (j / 8) * (1 - n % 2)) % 26).toNat
theorem La(n j:Int):bB n j<26:=by unfold bB;omega
theorem Ji(b:Nat):w8 (sgl (wB b)):=⟨by simp [sgl,wB],fun x hx=>by obtain ⟨c,hc,rfl⟩:=List.mem_map.mp hx;exact Nat.le_refl _⟩
theorem Ak(k:Nat)(n:Int)(ρ:Ev)(j:Int)(hc:dh [1,0,4] ρ= [some (.str bg),some (.int n),some (.int j)])(h:List PO):eI et (ko (F k)) (dh [1,0,4] ρ) ((List.range (Int.toNat 8)).map fun i=>PV.int (0+(i:Nat))) h= .ok ((sgl (wB (bB n j))).map PV.str) h:=by
 unfold sgl wB
 rw [hc,List.map_map,List.map_map]
 refine wY (fun i=>PV.int (0+(i:Nat))) _ (List.range 8) fun i _=>?_
 have mi:∀ x:Int,gV x (1 - n % 2)=true:=fun x=>lQ (bV.mpr ⟨by omega,by omega⟩)
 have az:=Dd (n / 128+5 * (0+(i:Int))+3 * (j / 8) * (1 - n % 2))
 have ee:azA (n / 128+5 * (0+(i:Int))+3 * (j / 8) * (1 - n % 2))=bg.getD ((bB n j+5 * i) % 26) 0:=by
  unfold azA bB
  generalize 3 * (j / 8) * (1 - n % 2)=z
  congr 1
  omega
 rw [ee] at az
 have zl:bg.length≤16777216:=by decide
 simp only [EX,ko,mi,az,zl]
 rfl
theorem Al(k:Nat)(n ax:Int)(ha:ax=n / 2 % 8)(j:Nat)(hj:j<12)(x5 x6:Option PV)(acc:List (List Nat))(la:acc.length<16777216)(rest:List PO):∃ l rest' y5,lO l∧
  fO (F k) [some (.int n),some (.str bg),some (.int ax),some (.ref 0),some (.int (0+(j:Nat))),x5,x6] (.lst (acc.map PV.str)::rest)= .nx [some (.int n),some (.str bg),some (.int ax),some (.ref 0),some (.int (0+(j:Nat))),y5,x6] (.lst ((acc++ [l]).map PV.str)::rest'):=by
 have cm:=Ak k n [some (.int n),some (.str bg),some (.int ax),some (.ref 0),some (.int (0+(j:Nat))),x5,x6] (0+(j:Nat)) rfl
 have hb:=La n (0+(j:Nat))
 generalize bB n (0+(j:Nat))=b at cm hb
 have hW:=Ji b
 obtain ⟨W,eW⟩:∃ W,sgl (wB b)=W:=⟨_,rfl⟩
 rw [eW] at cm hW
 have b8:bel 4611686018427387904 8=true:=rfl
 have ln:((List.range (Int.toNat 8)).map fun i=>PV.int (0+(i:Nat))).length<16777216:=by decide
 have nl:∀ (xs:List PV) (o:PO),uZ xs (o::rest)= .ok (.ref (rest.length+1)) (o::(rest++ [.lst xs])):=fun _ _=>rfl
 have d0:∀ (xs:List PV) r,ao (.lst xs::r) (.ref 0)= .ref 0:=fun xs r=>rfl
 have dW:∀ (xs ys:List PV),ao (.lst xs::(rest++ [.lst ys])) (.ref (rest.length+1))= .ref (rest.length+1):=fun xs ys=>LU (acc:=ys) (by simp)
 have sW:∀ (xs:List PV) (V:List (List Nat)) lo hi,kS (.ref (rest.length+1)) lo hi (.lst xs::(rest++ [.lst (V.map PV.str)]))= .ok (.lst ((cut V lo hi).map PV.str)) (.lst xs::(rest++ [.lst (V.map PV.str)])):=fun xs V lo hi=>by
  show (match lsM (.lst xs::(rest++ [.lst (V.map PV.str)])) (.ref (rest.length+1)) with | some ys=>Res.ok (PV.lst (cut ys lo hi)) _ | none=>.bad)=_
  have:lsM (.lst xs::(rest++ [.lst (V.map PV.str)])) (.ref (rest.length+1))=some (V.map PV.str):=by simp [lsM]
  rw [this,← yY]
 have ap:∀ (l:List Nat) r,iH (.ref 0) [.str l] (.lst (acc.map PV.str)::r)= .ok .non (.lst (acc.map PV.str++ [.str l])::r):=fun l r=>by rw [IT,if_pos (by rw [List.length_map];exact Nat.lt_of_lt_of_le la (by decide))]
 have cl:∀ (V:List (List Nat)) lo hi,V.length=8→(cut V lo hi).length≤100:=fun V lo hi h=>by have:=oU V lo hi;omega
 have ic:=xE
 have p8:decide (0<8 - ax)=true:=decide_eq_true (by omega)
 have m0:=Int.emod_nonneg (n / 16) (show 8 - ax≠0 by omega)
 have m1:=Int.emod_lt_of_pos (n / 16) (show 0<8 - ax by omega)
 by_cases q1:n % 2=1
 ·have e1:decide (n % 2=1)=true:=decide_eq_true q1
  have ix:∀ a b:PV,atI [a,b] (n % 2)=some b:=fun a b=>by rw [q1];rfl
  have az:=Dd (n / 128+7 * (0+(j:Nat))+1)
  have am:=FH (n / 128+7 * (0+(j:Nat))+1)
  have zl:bg.length≤16777216:=by decide
  generalize azA (n / 128+7 * (0+(j:Nat))+1)=s at az am
  generalize hsz:ax+1+n / 16 % (8 - ax)=sz at *
  have hs:1≤sz∧sz≤8:=by omega
  have hV:w8 (W.set ax.toNat [s]):=⟨by rw [List.length_set];exact hW.1,fun x hx=>by
   rcases List.mem_or_eq_of_mem_set hx with h | h
   ·exact hW.2 x h
   ·subst h;exact Nat.le_refl _⟩
  have si:∀ ρ,nq (.str [s]) (.ref (rest.length+1)) (.int ax) ρ (.lst (acc.map PV.str)::(rest++ [.lst (W.map PV.str)]))= .nx ρ (.lst (acc.map PV.str)::(rest++ [.lst ((W.set ax.toNat [s]).map PV.str)])):=fun ρ=>by
   unfold nq
   have e2:rU (.lst (acc.map PV.str)::(rest++ [.lst (W.map PV.str)])) (.ref (rest.length+1))=some (rest.length+1,W.map PV.str):=by unfold rU;simp
   have e3:ixN (W.map PV.str).length ax=some ax.toNat:=by unfold ixN;rw [List.length_map,hW.1,if_pos (by omega),if_pos (by omega)]
   rw [e2]
   dsimp only
   rw [e3]
   dsimp only
   rw [List.set_cons_succ,List.set_append_right _ _ (Nat.le_refl _),Nat.sub_self,List.set_cons_zero,List.map_set]
  obtain ⟨_,j3⟩:=xZ (V:=cut (W.set ax.toNat [s]) none (some sz)) hV (fun x hx=>yX hx) (cl _ _ _ hV.1) (.lst (acc.map PV.str)::(rest++ [.lst ((W.set ax.toNat [s]).map PV.str)]))
  have nw:lO (cut (W.set ax.toNat [s]) none (some sz)).flatten:=by
   have es:W.set ax.toNat [s]=sgl ((wB b).set ax.toNat s):=by rw [← eW];unfold sgl;rw [List.map_set]
   rw [es,yW,pO,show sz=((sz.toNat:Nat):Int) by omega,ua]
   have l8:((wB b).set ax.toNat s).length=8:=by rw [List.length_set];simp [wB]
   refine ⟨by rw [List.length_take,l8];omega,by rw [List.length_take,l8];omega,fun c hc=>?_⟩
   rcases List.mem_or_eq_of_mem_set (List.mem_of_mem_take hc) with h | h
   ·exact GE b c h
   ·subst h;exact am
  refine ⟨_,rest++ [.lst ((W.set ax.toNat [s]).map PV.str)],some (.ref (rest.length+1)),nw,?_⟩
  simp only [EX,fO,b8,ln,cm,nl,e1,ix,p8,hsz,d0,dW,sW,ic,az,zl,si,j3,ap,List.map_append]
 ·have e1:decide (n % 2=1)=false:=decide_eq_false q1
  have ix:∀ a b:PV,atI [a,b] (n % 2)=some a:=fun a b=>by rw [show n % 2=0 by omega];rfl
  obtain ⟨_,j3⟩:=xZ (V:=cut W none (some (1+(0+(j:Nat)) % 8))) hW (fun x hx=>yX hx) (cl _ _ _ hW.1) (.lst (acc.map PV.str)::(rest++ [.lst (W.map PV.str)]))
  have nw:lO (cut W none (some (1+(0+(j:Nat)) % 8))).flatten:=by
   rw [← eW,yW,pO]
   have:=Cj (yj (yj nl0 hb) (show j % 8<8 by omega))
   rw [show (1+(0+((j:Nat):Int)) % 8)=1+((j % 8:Nat):Int) by omega];exact this
  refine ⟨_,rest++ [.lst (W.map PV.str)],some (.ref (rest.length+1)),nw,?_⟩
  simp only [EX,fO,b8,ln,cm,nl,e1,ix,p8,d0,dW,sW,ic,j3,ap,List.map_append]
theorem rP(k:Nat)(n ax:Int)(ha:ax=n / 2 % 8)(x6:Option PV):∀ (js:List Nat) (x4 x5:Option PV) (acc:List (List Nat)) (rest:List PO),(∀ j∈js,j<12)→acc.length+js.length<16777216→(∀ x∈acc,lO x)→∃ (ls:List (List Nat)) (y4 y5:Option PV) (rest':List PO),ls.length=acc.length+js.length∧(∀ x∈ls,lO x)∧
  bh (gNm 4) (fO (F k)) (js.map fun j=>PV.int (0+(j:Nat))) [some (.int n),some (.str bg),some (.int ax),some (.ref 0),x4,x5,x6] (.lst (acc.map PV.str)::rest)= .nx [some (.int n),some (.str bg),some (.int ax),some (.ref 0),y4,y5,x6] (.lst (ls.map PV.str)::rest')
 | [],x4,x5,acc,rest,_,_,hn=>⟨acc,x4,x5,rest,rfl,hn,by rw [List.map_nil,bh]⟩
 | j::r,x4,x5,acc,rest,hj,hl,hn=>by
  rw [List.length_cons] at hl
  obtain ⟨l,rest1,x5',nl,e⟩:=Al k n ax ha j (hj j List.mem_cons_self) x5 x6 acc (by omega) rest
  obtain ⟨ls,y4,y5,rest2,e1,e2,e3⟩:=rP k n ax ha x6 r (some (.int (0+(j:Nat)))) x5' (acc++ [l]) rest1 (fun z hz=>hj z (List.mem_cons_of_mem _ hz)) (by rw [List.length_append,List.length_singleton];omega) (fun z hz=>by
   rcases List.mem_append.mp hz with q | q
   ·exact hn z q
   ·cases List.mem_singleton.mp q;exact nl)
  refine ⟨ls,y4,y5,rest2,by rw [e1,List.length_append];simp only [List.length_cons,List.length_nil];omega,e2,?_⟩
  rw [List.map_cons]
  exact Eq.trans (eS rfl e) e3
def mnu(ms:List (List Nat)):PV:=.lst (ms.map PV.str)
theorem gp(h:List PO)(ms:List (List Nat)):ao h (mnu ms)=mnu ms:=rfl
def KU:List (List Nat):= [[97],[98],[97,98],[98,97],[105,116,101,109],[105,116,101,109,115],[99],[120],[120,121],[121],[114,111,119],[114,111,119,115]]
theorem Ao(k:Nat)(n:Int):∃ ls:List (List Nat),ls.length=12∧ls.Nodup∧(∀ x∈ls,nmO x)∧F (k+1) .l_names [.int n]= .ok (mnu ls):=by
 obtain ⟨ls,y4,y5,rest,e1,nwl,e3⟩:=rP k n (n / 2 % 8) rfl none (List.range 12) none none [] [] (fun j hj=>List.mem_range.mp hj) (by simp) (fun x hx=>by cases hx)
 have l12:ls.length=12:=by rw [e1];simp
 have b12:bel 4611686018427387904 12=true:=rfl
 have r12:(List.range (Int.toNat 12))=List.range 12:=rfl
 have e3':bh (gNm 4) (fO (F k)) ((List.range 12).map fun j=>PV.int (0+(j:Nat))) [some (.int n),some (.str bg),some (.int (n / 2 % 8)),some (.ref 0),none,none,none] [.lst []]= .nx [some (.int n),some (.str bg),some (.int (n / 2 % 8)),some (.ref 0),y4,y5,none] (.lst (ls.map PV.str)::rest):=e3
 have d0:∀ (xs:List PV) r,ao (.lst xs::r) (.ref 0)= .ref 0:=fun xs r=>rfl
 have sc:(ls++CW).length+1<scanBound:=by rw [List.length_append,l12];decide
 have cw:CW.map PV.str= [PV.str [97,115],.str [98,101,116,119,101,101,110],.str [98,111,100,121],.str [101,108,115,101],.str [101,110,100],.str [102,111,114],.str [105,102],.str [105,110],.str [112,105,101,99,101],.str [117,115,101],.str [119,105,116,104]]:=rfl
 have ad:aO (.ref 0) (.lst (CW.map PV.str)) (.lst (ls.map PV.str)::rest)= .ok (.lst ((ls++CW).map PV.str)) (.lst (ls.map PV.str)::rest):=by
  show (if (ls.map PV.str).length+(CW.map PV.str).length≤sizeLine then Res.ok (PV.lst (ls.map PV.str++CW.map PV.str)) (.lst (ls.map PV.str)::rest) else .bad)=_
  rw [if_pos (by rw [List.length_map,l12];decide),List.map_append]
 have lz:∀ h,oQ (.lst ((ls++CW).map PV.str)) h= .ok (.int (qT (ls++CW):Nat)) h:=fun h=>by
  show (match hZ ((ls++CW).map PV.str) with | some ls=>if ls.length+1<scanBound then Res.ok (PV.int (qT ls:Nat)) _ else .bad | none=>.bad)=_
  rw [nT]
  dsimp only
  rw [if_pos sc]
 rw [cw] at ad
 have r2:F (k+1) .l_names [.int n]=match jj (F k) [some (.int n),none,none,none,none,none,none] [] with
   | .nx _ _=>.ok .non
   | .rt v h=>br v h
   | _=>.bad:=rfl
 by_cases c1:((qT (ls++CW):Nat):Int)<23
 ·have z1:decide (((qT (ls++CW):Nat):Int)<23)=true:=decide_eq_true c1
  refine ⟨KU,rfl,by decide,fun x hx=>by
   have:(KU.all fun x=>lOb x&&!CW.contains x)=true:=by kernel_rfl
   have:=List.all_eq_true.mp this x hx
   rw [Bool.and_eq_true] at this
   exact ⟨Cj this.1,fun z=>by rw [← List.contains_iff_mem] at z;rw [z] at this;cases this.2⟩,?_⟩
  rw [r2]
  simp only [EX,jj,b12,r12,e3',d0,ad,lz,z1]
  rfl
 ·have z1:decide (((qT (ls++CW):Nat):Int)<23)=false:=decide_eq_false c1
  have nd:(ls++CW).Nodup:=(IB (ls++CW)).mp (by unfold dup;rw [List.length_append,l12];exact decide_eq_false (by show ¬ qT (ls++CW)<12+11;omega))
  rw [List.nodup_append] at nd
  refine ⟨ls,l12,nd.1,fun x hx=>⟨nwl x hx,fun hc=>nd.2.2 x hx x hc rfl⟩,?_⟩
  rw [r2]
  have fi:br (.ref 0) (.lst (ls.map PV.str)::rest)= .ok (mnu ls):=by
   have:fR (.lst (ls.map PV.str)::rest) (.ref 0)=some (.lst (ls.map PV.str),.froz (.lst (ls.map PV.str))::rest):=by
    unfold fR
    simp only [List.getElem?_cons_zero,bM,if_true,List.set_cons_zero]
   unfold br
   rw [this]
   rfl
  simp only [EX,jj,b12,r12,e3',d0,ad,lz,z1,fi]
def nF(w:List Nat):Bool:=decide (1≤w.length∧w.length≤8)&&w.all bg.contains&&!decide (w∈CW)
abbrev Lt(w:List Nat):Prop:=∀ c∈w,c<1114112
theorem is_name(k:Nat)(w:List Nat)(hz:w.length≤16777216)(hw:Lt w):F (k+2) .is_name [.str w]= .ok (.bl (nF w)):=by
 show ar (eU (F (k+1))) 1 1 [.str w]=_
 have m:=made k w bg
 have n:=uY hw Lj
 unfold nF
 by_cases h1:1≤w.length
 ·have d1:decide ((1:Int)≤(w.length:Int))=true:=decide_eq_true (by omega)
  by_cases h2:w.length≤8
  ·have d2:decide ((w.length:Int)≤8)=true:=decide_eq_true (by omega)
   rw [decide_eq_true (p:=1≤w.length∧w.length≤8) ⟨h1,h2⟩]
   cases q:w.all bg.contains with
   | true=>simp only [EV,ar,eU,hz,d1,d2,bp,m,q,Li,n,br]
   | false=>simp only [EV,ar,eU,hz,d1,d2,bp,m,q,br]
  ·have d2:decide ((w.length:Int)≤8)=false:=decide_eq_false (by omega)
   rw [decide_eq_false (p:=1≤w.length∧w.length≤8) (fun z=>h2 z.2)]
   simp only [EV,ar,eU,hz,d1,d2,br]
 ·have d1:decide ((1:Int)≤(w.length:Int))=false:=decide_eq_false (by omega)
  rw [decide_eq_false (p:=1≤w.length∧w.length≤8) (fun z=>h1 z.1)]
  simp only [EV,ar,eU,hz,d1,br]
def je:PK→Bool
 | .inl _=>false
 | .inr l=>nF l
def isV:Nat→PV→Bool
 | 0,_=>false
 | d+1,p=>match p with
  | .bl _=>true
  | .int i=>decide ((if i<0 then -i else i)<1000000000000000000000000000000)
  | .lst xs=>decide (xs.length≤40)&&xs.all (isV d)
  | .dct kvs=>decide (kvs.length≤8)&&kvs.all (fun kv=>je kv.1)&&kvs.all (fun kv=>isV d kv.2)
  | .str l=>decide (l.length≤400)&&l.all bz.contains
  | _=>false
def oB:PK→Bool
 | .inl _=>true
 | .inr l=>decide (l.length≤16777216)&&l.all (fun c=>decide (c<1114112))
mutual
def dat:PV→Bool
 | .non=>true
 | .bl _=>true
 | .int _=>true
 | .str l=>decide (l.length≤16777216)
 | .tup xs=>ai xs
 | .lst xs=>xK xs
 | .dct kvs=>xL kvs&&decide (kvs.map (·.1)).Nodup
 | _=>false
def xK:List PV→Bool
 | []=>true
 | x::r=>dat x&&xK r
def xL:List (PK×PV)→Bool
 | []=>true
 | (k,x)::r=>oB k&&dat x&&xL r
end
theorem mT:∀ xs:List PV,xK xs=xs.all dat
 | []=>by simp [xK]
 | x::r=>by simp [xK,mT r]
theorem qI:∀ xs:List (PK×PV),xL xs=xs.all fun kv=>oB kv.1&&dat kv.2
 | []=>by simp [xL]
 | (k,x)::r=>by simp [xL,qI r]
mutual
theorem gE:∀ p:PV,dat p=true→p.pure=true
 | .non,_=>by simp [PV.pure]
 | .bl _,_=>by simp [PV.pure]
 | .int _,_=>by simp [PV.pure]
 | .str _,_=>by simp [PV.pure]
 | .tup xs,h=>by rw [dat] at h;rw [PV.pure];exact h
 | .lst xs,h=>by rw [dat] at h;rw [PV.pure];exact sy xs h
 | .dct kvs,h=>by
  rw [dat,Bool.and_eq_true] at h
  rw [PV.pure];exact sA kvs h.1
 | .ty _,h=>by simp [dat] at h
 | .cls _,h=>by simp [dat] at h
 | .giv _,h=>by simp [dat] at h
 | .ins _ _,h=>by simp [dat] at h
 | .ref _,h=>by simp [dat] at h
 | .exc _,h=>by simp [dat] at h
theorem sy:∀ xs:List PV,xK xs=true→ai xs=true
 | [],_=>by simp [ai]
 | x::r,h=>by
  rw [xK,Bool.and_eq_true] at h
  rw [ai,gE x h.1,sy r h.2];rfl
theorem sA:∀ xs:List (PK×PV),xL xs=true→aI xs=true
 | [],_=>by simp [aI]
 | (k,x)::r,h=>by
  rw [xL,Bool.and_eq_true,Bool.and_eq_true] at h
  rw [aI,gE x h.1.2,sA r h.2];rfl
end
theorem yU{xs:List PV}(h:dat (.lst xs)=true):∀ x∈xs,dat x=true:=by
 rw [dat,mT,List.all_eq_true] at h
 exact h
theorem tY{kvs:List (PK×PV)}(h:dat (.dct kvs)=true):(∀ p∈kvs,oB p.1=true∧dat p.2=true)∧(kvs.map (·.1)).Nodup:=by
 rw [dat,qI,Bool.and_eq_true,List.all_eq_true] at h
 refine ⟨fun p hp=>?_,of_decide_eq_true h.2⟩
 have:=h.1 p hp
 rw [Bool.and_eq_true] at this
 exact this
theorem Hw{kvs:List (PK×PV)}(h:∀ p∈kvs,oB p.1=true∧dat p.2=true)(nd:(kvs.map (·.1)).Nodup):dat (.dct kvs)=true:=by
 rw [dat,qI,Bool.and_eq_true,List.all_eq_true]
 exact ⟨fun p hp=>by rw [(h p hp).1,(h p hp).2];rfl,decide_eq_true nd⟩
theorem BY{xs:List PV}(h:∀ x∈xs,dat x=true):dat (.lst xs)=true:=by
 rw [dat,mT,List.all_eq_true]
 exact h
theorem vN{p:PV}(h:dat p=true):∀ hh,fR hh p=some (p,hh):=fun hh=>im hh (gE p h)
theorem KS{p:PV}(h:dat p=true):∀ hh,ao hh p=p:=fun hh=>ak hh (gE p h)
theorem Jr(k:Nat)(i:Int):F (k+1) .is_short_number [.int i]= .ok (.bl (decide ((if i<0 then -i else i)<1000000000000000000000000000000))):=by
 show ar (cj (F k)) 1 1 [.int i]=_
 have pw:∀ h,wR (.int 10) (.int 30) h= .ok (.int 1000000000000000000000000000000) h:=fun h=>by kernel_rfl
 simp only [EV,ar,cj,pw,br]
theorem yz(k:Nat){p:PV}(n:Int)(hp:p= .non∨∃ xs,p= .tup xs∧ai xs=true):F (k+1) .is_text [p,.int n]= .ok (.bl false):=by
 show ar (bU (F k)) 2 2 [p,.int n]=_
 rcases hp with rfl | ⟨xs,rfl,h⟩
 ·simp only [EV,ar,bU,br]
 ·simp only [EV,ar,bU,br]
theorem Ew(k:Nat){p:PV}(hp:∀ h,aH [p,.ty "str"] h= .ok (.bl false) h)(dp:∀ h,ao h p=p):F (k+1) .is_name [p]= .ok (.bl false):=by
 show ar (eU (F k)) 1 1 [p]=_
 simp only [EV,ar,eU,dp,hp,br]
theorem Cu(k:Nat){q:PK}(h:oB q=true):F (k+2) .is_name [gN q]= .ok (.bl (je q)):=by
 cases q with
 | inl i=>exact Ew (k+1) (fun _=>rfl) fun _=>rfl
 | inr l=>
  simp only [oB,Bool.and_eq_true,decide_eq_true_eq,List.all_eq_true] at h
  exact is_name k l h.1 fun c hc=>by simpa using h.2 c hc
theorem Fk(q:PK):∀ h,fR h (gN q)=some (gN q,h):=fun h=>by cases q<;>simp [gN,fR,PV.pure]
theorem II(q:PK):∀ h,ao h (gN q)=gN q:=fun h=>by cases q<;>rfl
theorem qw(k:Nat)(t a:PV)(h:List L3.PO):∀ (l:List PK) (o:Option PV),(∀ q∈l,oB q=true)→∃ o',bh (gNm 2) (bL (F (k+2))) (l.map gN) [some t,some a,o] h=if l.all je=true then .nx [some t,some a,o'] h else .rt (.bl false) h
 | [],o,_=>⟨o,rfl⟩
 | q::r,o,hq=>by
  obtain ⟨o',e⟩:=qw k t a h r (some (gN q)) fun x hx=>hq x (List.mem_cons_of_mem _ hx)
  refine ⟨o',?_⟩
  have n:=Cu k (hq q (List.mem_cons_self ..))
  have f:=Fk q
  have d:=II q
  rw [List.map_cons,oS,List.all_cons]
  cases hc:je q with
  | true=>
   simp only [EV,bL,bp,f,d,n,hc]
   simpa only [bL,Bool.true_and] using e
  | false=>simp only [EV,bL,bp,f,d,n,hc]
theorem ry(C:Fn→List PV→Out)(t:PV)(n:Int)(g:PV→Bool)(h:List L3.PO):∀ (l:List PV) (o:Option PV),(∀ x∈l,dat x=true∧C .is_value_within [x,.int n]= .ok (.bl (g x)))→∃ o',bh (gNm 2) (bW C) l [some t,some (.int n),o] h=if l.all g=true then .nx [some t,some (.int n),o'] h else .rt (.bl false) h
 | [],o,_=>⟨o,rfl⟩
 | q::r,o,hq=>by
  obtain ⟨o',e⟩:=ry C t n g h r (some q) fun x hx=>hq x (List.mem_cons_of_mem _ hx)
  refine ⟨o',?_⟩
  obtain ⟨dq,n⟩:=hq q (List.mem_cons_self ..)
  have f:=vN dq
  have d:=KS dq
  rw [oS,List.all_cons]
  cases hc:g q with
  | true=>
   simp only [EV,bW,bp,f,d,n,hc]
   simpa only [bW,Bool.true_and] using e
  | false=>simp only [EV,bW,bp,f,d,n,hc]
theorem are(k:Nat)(xs:List PV)(n:Int)(g:PV→Bool)(hx:∀ x∈xs,dat x=true∧F k .is_value_within [x,.int n]= .ok (.bl (g x))):F (k+1) .are_values_within [.lst xs,.int n]= .ok (.bl (xs.all g)):=by
 show ar (cq (F k)) 2 3 [.lst xs,.int n]=_
 obtain ⟨o',e⟩:=ry (F k) (.lst xs) n g [] xs none hx
 cases q:xs.all g with
 | true=>simp only [EV,ar,cq,e,q,br]
 | false=>simp only [EV,ar,cq,e,q,br]
theorem AQ:∀ (d N:Nat) (p:PV),3 * d+3≤N→dat p=true→F N .is_value_within [p,.int d]= .ok (.bl (isV d p))
 | 0,N,p,hN,hp=>by
  obtain ⟨k,rfl⟩:∃ k,N=k+1:=⟨N - 1,by omega⟩
  show ar (aR (F k)) 2 2 [p,.int 0]=_
  simp only [EV,ar,aR,isV,br]
 | d+1,N,p,hN,hp=>by
  obtain ⟨k,rfl⟩:∃ k,N=k+6+3 * d:=⟨N - 6 - 3 * d,by omega⟩
  have e0:k+6+3 * d=(k+3+3 * d)+3:=by omega
  rw [e0]
  generalize hM:k+3+3 * d=M at *
  have ih:∀ (j:Nat) (x:PV),dat x=true→F (M+j) .is_value_within [x,.int d]= .ok (.bl (isV d x)):=fun j x hx=>AQ d (M+j) x (by omega) hx
  show ar (aR (F (M+2))) 2 2 [p,.int ((d+1:Nat):Int)]=_
  have c1:decide (((d+1:Nat):Int)<1)=false:=decide_eq_false (by omega)
  have c2:((d+1:Nat):Int) - 1=(d:Int):=by omega
  cases p with
  | bl b=>simp only [EV,ar,aR,isV,c1,br]
  | int i=>
   have s:=Jr (M+1) i
   simp only [EV,ar,aR,isV,c1,bp,s,br]
  | non=>
   have s:=yz (M+1) 400 (p:=.non) (.inl rfl)
   simp only [EV,ar,aR,isV,c1,bp,s,br]
  | tup xs=>
   have hx:ai xs=true:=by simpa [dat] using hp
   have s:=yz (M+1) 400 (p:=.tup xs) (.inr ⟨xs,rfl,hx⟩)
   have f:=fun h=>Fh h hx
   simp only [EV,ar,aR,isV,c1,bp,f,s,br]
  | str l=>
   have hl:l.length≤16777216:=by simpa [dat] using hp
   have s:=rY M l 400 hl
   have e1:decide ((l.length:Int)≤400)=decide (l.length≤400):=decide_eq_decide.mpr (by omega)
   rw [e1] at s
   simp only [EV,ar,aR,isV,c1,bp,s,br]
  | lst xs=>
   have hx:=yU hp
   have f:=vN hp
   have s:=are (M+1) xs d (isV d) fun x h=>⟨hx x h,ih 1 x (hx x h)⟩
   by_cases hz:xs.length≤40
   ·have e1:decide ((xs.length:Int)≤40)=true:=decide_eq_true (by omega)
    simp only [EV,ar,aR,isV,c1,c2,bp,f,s,e1,hz,br]
   ·have e1:decide ((xs.length:Int)≤40)=false:=decide_eq_false (by omega)
    simp only [EV,ar,aR,isV,c1,c2,bp,e1,hz,br]
  | dct kvs=>
   obtain ⟨hx,nd⟩:=tY hp
   have f:=vN hp
   have rec1:F (M+2) .is_record_within [.dct kvs,.int ((d+1:Nat):Int)]= .ok (.bl (isV (d+1) (.dct kvs))):=by
    show ar (ce (F (M+1))) 2 3 [.dct kvs,.int ((d+1:Nat):Int)]=_
    by_cases hz:kvs.length≤8
    ·have e1:decide ((kvs.length:Int)>8)=false:=decide_eq_false (by omega)
     obtain ⟨o',lp⟩:=qw (M - 1) (.dct kvs) (.int ((d+1:Nat):Int)) [] (kvs.map (·.1)) none fun q hq=>by
      obtain ⟨p,hp,rfl⟩:=List.mem_map.mp hq
      exact (hx p hp).1
     rw [show M - 1+2=M+1 by omega,List.map_map,List.all_map] at lp
     have lp2:bh (gNm 2) (bL (F (M+1))) (kvs.map fun p=>gN p.1) [some (.dct kvs),some (.int ((d+1:Nat):Int)),none] []=_:=lp
     have dv:∀ x∈kvs.map (·.2),dat x=true:=fun x h=>by
      obtain ⟨p,hp,rfl⟩:=List.mem_map.mp h
      exact (hx p hp).2
     have s:=are M (kvs.map (·.2)) d (isV d) fun x h=>⟨dv x h,ih 0 x (dv x h)⟩
     rw [List.all_map] at s
     have f2:=vN (BY dv)
     cases q:kvs.all (je∘fun x=>x.1) with
     | true=>
      have q2:kvs.all (fun kv=>je kv.1)=true:=q
      rw [q] at lp2
      simp only [EV,ar,ce,isV,e1,hz,lp2,c2,bp,f2,s,q2,br]
      rfl
     | false=>
      have q2:kvs.all (fun kv=>je kv.1)=false:=q
      rw [q] at lp2
      simp only [EV,ar,ce,isV,e1,hz,lp2,q2,br]
    ·have e1:decide ((kvs.length:Int)>8)=true:=decide_eq_true (by omega)
     simp only [EV,ar,ce,isV,e1,hz,br]
   simp only [EV,ar,aR,c1,bp,f,rec1,br]
  | ty _=>simp [dat] at hp
  | cls _=>simp [dat] at hp
  | giv _=>simp [dat] at hp
  | ins _ _=>simp [dat] at hp
  | ref _=>simp [dat] at hp
  | exc _=>simp [dat] at hp
  | exa _ _=>simp [dat] at hp
theorem is_value(N:Nat)(p:PV)(hN:22≤N)(hp:dat p=true):F N .is_value [p]= .ok (.bl (isV 6 p)):=by
 obtain ⟨k,rfl⟩:∃ k,N=k+1:=⟨N - 1,by omega⟩
 show ar (jD (F k)) 1 1 [p]=_
 have w:=AQ 6 k p (by omega) hp
 have f:=vN hp
 have d:=KS hp
 have w':F k .is_value_within [p,.int 6]=_:=w
 simp only [EV,ar,jD,bp,f,d,w',br]
theorem JJ{w:List Nat}(h:nmO w):nF w=true:=by
 unfold nF
 rw [decide_eq_true (p:=1≤w.length∧w.length≤8) ⟨h.1.1,h.1.2.1⟩,Df h.1.2.2,decide_eq_false h.2]
 rfl
theorem yF{d:Nat}{xs:List PV}(h:isV (d+1) (.lst xs)=true):xs.length≤40∧∀ x∈xs,isV d x=true:=by
 simp only [isV,Bool.and_eq_true,decide_eq_true_eq,List.all_eq_true] at h
 exact h
theorem tR{d:Nat}{kvs:List (PK×PV)}(h:isV (d+1) (.dct kvs)=true):kvs.length≤8∧∀ p∈kvs,je p.1=true∧isV d p.2=true:=by
 simp only [isV,Bool.and_eq_true,decide_eq_true_eq,List.all_eq_true] at h
 exact ⟨h.1.1,fun p hp=>⟨h.1.2 p hp,h.2 p hp⟩⟩
theorem Au{q:PK}(h:je q=true):∃ l,q= .inr l∧nF l=true:=by
 cases q with
 | inl _=>simp [je] at h
 | inr l=>exact ⟨l,rfl,h⟩
theorem EZ{l:List Nat}(h:oB (.inr l)=true):Lt l:=by
 simp only [oB,Bool.and_eq_true,decide_eq_true_eq,List.all_eq_true] at h
 exact fun c hc=>by simpa using h.2 c hc
theorem KZ:∀ c∈bg,(Builtin.Str.reprChar 34 c).length=1∧(Builtin.Str.reprChar 39 c).length=1:=by decide+kernel
theorem qD{f:Nat→Nat}:∀ {l:List Nat} {n:Nat},(∀ c∈l,f c=1)→l.foldl (fun n c=>n+f c) n=n+l.length
 | [],n,_=>rfl
 | c::r,n,h=>by
  rw [List.foldl_cons,h c (List.mem_cons_self ..),qD fun x hx=>h x (List.mem_cons_of_mem _ hx),List.length_cons];omega
theorem Ba{l:List Nat}(h:∀ c∈l,c∈bg):(toE (.str l)).shown.length=l.length+2:=by
 rw [toE,PyData.shown,← reprLen_eq]
 have q:reprQuote (S l)=34∨reprQuote (S l)=39:=by unfold reprQuote;split<;>simp
 rw [← Array.foldl_toList,Dk]
 rcases q with q | q
 ·rw [q,qD fun c hc=>(KZ c (h c hc)).1];omega
 ·rw [q,qD fun c hc=>(KZ c (h c hc)).2];omega
theorem zE{i:Int}(h:decide ((if i<0 then -i else i)<1000000000000000000000000000000)=true):(toE (.int i)).shown.length≤402:=by
 have h:=of_decide_eq_true h
 have hn:i.natAbs<10 ^ 30:=by split at h<;>omega
 have e:=int_text_length_le10 (k:=30) (by decide) hn
 rw [toE,PyData.shown]
 show (Str.ofString (toString i)).length≤402
 rw [ofString_length];omega
theorem nU{B:Nat}:∀ {xs:List PV},(∀ x∈xs,(toE x).shown.length≤B)→((PyData.shownAll (fM xs)).map (·.length)).sum≤B * xs.length∧(PyData.shownAll (fM xs)).length=xs.length
 | [],_=>by simp [fM,PyData.shownAll]
 | x::r,h=>by
  obtain ⟨i1,i2⟩:=nU fun y hy=>h y (List.mem_cons_of_mem _ hy)
  have h0:=h x (List.mem_cons_self ..)
  rw [fM,PyData.shownAll,List.map_cons,List.sum_cons,List.length_cons,List.length_cons,Nat.mul_add,Nat.mul_one]
  exact ⟨by omega,by omega⟩
theorem zD{B:Nat}{xs:List PV}(h:∀ x∈xs,(toE x).shown.length≤B):(toE (.lst xs)).shown.length≤(B+2) * xs.length+3:=by
 rw [toE,PyData.shown]
 obtain ⟨i1,i2⟩:=nU h
 have:=listText_len_le (PyData.shownAll (fM xs))
 rw [Nat.add_mul]
 omega
def wu:PK→Prop
 | .inr l=>l.length≤8∧∀ c∈l,c∈bg
 | .inl _=>False
theorem pM{B:Nat}:∀ {xs:List (PK×PV)},(∀ p∈xs,wu p.1∧(toE p.2).shown.length≤B)→((PyData.shownKv (cY xs)).map (·.length)).sum≤(B+12) * xs.length∧(PyData.shownKv (cY xs)).length=xs.length
 | [],_=>by simp [cY,PyData.shownKv]
 | (q,v)::r,h=>by
  obtain ⟨i1,i2⟩:=pM fun y hy=>h y (List.mem_cons_of_mem _ hy)
  obtain ⟨h0,h1⟩:=h _ (List.mem_cons_self ..)
  cases q with
  | inl _=>exact h0.elim
  | inr l=>
   have e:=Ba h0.2
   rw [toE] at e
   have hl:=h0.1
   rw [cY,PyData.shownKv,List.map_cons,List.sum_cons,List.length_cons,List.length_cons,Nat.mul_add,Nat.mul_one,strLen_append,strLen_append]
   have k2:((": ":Str)).length=2:=by decide
   have e':(PyData.shown (ka (Sum.inr l))).length=l.length+2:=e
   dsimp only at h1
   refine ⟨?_,by omega⟩
   rw [e',k2]
   omega
theorem rB{B:Nat}{xs:List (PK×PV)}(h:∀ p∈xs,wu p.1∧(toE p.2).shown.length≤B):(toE (.dct xs)).shown.length≤(B+14) * xs.length+3:=by
 rw [toE,PyData.shown]
 obtain ⟨i1,i2⟩:=pM h
 have:=dictText_len_le (PyData.shownKv (cY xs))
 have e:(B+14) * xs.length=(B+12) * xs.length+2 * xs.length:=by rw [← Nat.add_mul]
 omega
structure Shw(n:Nat)(p:PV):Prop where
 dt:jz p=true
 dp:(toE p).depth≤n
 sh:(toE p).showable=true
theorem DB{n:Nat}{xs:List PV}(h:∀ x∈xs,Shw n x):Shw (n+1) (.lst xs):=by
 have go:∀ {xs:List PV},(∀ x∈xs,Shw n x)→lh xs=true∧PyData.depthAll (fM xs)≤n∧PyData.showableAll (fM xs)=true:=by
  intro xs
  induction xs with
  | nil=>intro _;simp [lh,fM,PyData.depthAll,PyData.showableAll]
  | cons x r ih=>
   intro h
   obtain ⟨a,b,c⟩:=ih fun y hy=>h y (List.mem_cons_of_mem _ hy)
   have q:=h x (List.mem_cons_self ..)
   rw [lh,fM,PyData.depthAll,PyData.showableAll,q.dt,q.sh,a,c]
   exact ⟨rfl,Nat.max_le.mpr ⟨q.dp,b⟩,rfl⟩
 obtain ⟨a,b,c⟩:=go h
 exact ⟨by rw [jz];exact a,by rw [toE,PyData.depth];omega,by rw [toE,PyData.showable];exact c⟩
theorem yg{n:Nat}(hn:1≤n){xs:List (PK×PV)}(h:∀ p∈xs,je p.1=true∧Shw n p.2):Shw (n+1) (.dct xs):=by
 have go:∀ {xs:List (PK×PV)},(∀ p∈xs,je p.1=true∧Shw n p.2)→nX xs=true∧PyData.depthKv (cY xs)≤n∧PyData.showableKv (cY xs)=true:=by
  intro xs
  induction xs with
  | nil=>intro _;simp [nX,cY,PyData.depthKv,PyData.showableKv]
  | cons p r ih=>
   intro h
   obtain ⟨a,b,c⟩:=ih fun y hy=>h y (List.mem_cons_of_mem _ hy)
   obtain ⟨h1,q⟩:=h p (List.mem_cons_self ..)
   obtain ⟨k,v⟩:=p
   obtain ⟨l,rfl,_⟩:=Au h1
   rw [nX,cY,PyData.depthKv,PyData.showableKv,q.dt,q.sh,a,c]
   have:=q.dp
   refine ⟨rfl,?_,by simp [ka,PyData.showable]⟩
   simp only [ka,PyData.depth]
   dsimp only at this
   omega
 obtain ⟨a,b,c⟩:=go h
 exact ⟨by rw [jz];exact a,by rw [toE,PyData.depth];omega,by rw [toE,PyData.showable];exact c⟩
theorem tQ:∀ (d:Nat) (p:PV),isV d p=true→Shw (d+1) p
 | 0,_,h=>by simp [isV] at h
 | d+1,p,h=>by
  cases p with
  | bl b=>exact ⟨rfl,by simp [toE,PyData.depth],by simp [toE,PyData.showable]⟩
  | int i=>
   refine ⟨rfl,by simp [toE,PyData.depth],?_⟩
   simp only [isV,decide_eq_true_eq] at h
   rw [toE,PyData.showable,decide_eq_true_eq]
   have hn:i.natAbs<2 ^ 1920:=by
    have:i.natAbs<10 ^ 30:=by split at h<;>omega
    exact Nat.lt_trans this (by decide+kernel)
   by_cases z:i.natAbs=0
   ·rw [z];decide
   ·exact (Nat.log2_lt z).mpr hn
  | str l=>exact ⟨rfl,by simp [toE,PyData.depth],by simp [toE,PyData.showable]⟩
  | lst xs=>exact DB fun x hx=>tQ d x ((yF h).2 x hx)
  | dct kvs=>exact yg (by omega) fun p hp=>⟨((tR h).2 p hp).1,tQ d p.2 ((tR h).2 p hp).2⟩
  | _=>simp [isV] at h
open PySem.Builtin.Str in
theorem Jy(q c:Nat)(hq:q<1114112)(hc:c<1114112):∀ z∈reprChar q c,z<1114112:=by
  have hx:∀ w:Nat,∀ z∈List.replicate (w - ((Nat.toDigits 16 c).map Char.toNat).length) 48++(Nat.toDigits 16 c).map Char.toNat,z<1114112:=by
    intro w z hz
    rcases List.mem_append.mp hz with h | h
    · rw [List.eq_of_mem_replicate h];decide
    · obtain ⟨ch,_,rfl⟩:=List.mem_map.mp h
      have:=ch.valid
      rcases this with h | h<;>(simp only [Char.toNat];omega)
  unfold reprChar
  dsimp only
  intro z hz
  repeat' split at hz
  all_goals first
    | (simp only [List.mem_cons,List.not_mem_nil,or_false] at hz;rcases hz with rfl | rfl<;>first | assumption | decide)
    | (simp only [List.mem_cons,List.not_mem_nil,or_false] at hz;rcases hz with rfl;assumption)
    | (rcases List.mem_append.mp hz with h | h
       · simp only [List.mem_cons,List.not_mem_nil,or_false] at h
         rcases h with rfl | rfl<;>decide
       · exact hx _ z h)
open PySem.Builtin.Str in
theorem yK(q:Nat)(hq:q<1114112):∀ (l:List Nat) (acc:Array Nat),(∀ c∈l,c<1114112)→(∀ z∈acc.toList,z<1114112)→∀ z∈(l.foldl (fun out c=>out++(reprChar q c).toArray) acc).toList,z<1114112
 | [],acc,_,h=>h
 | c::r,acc,hl,h=>by
  rw [List.foldl_cons]
  refine yK q hq r _ (fun z hz=>hl z (List.mem_cons_of_mem _ hz)) fun z hz=>?_
  rw [Array.toList_append] at hz
  rcases List.mem_append.mp hz with e | e
  ·exact h z e
  ·exact Jy q c hq (hl c (by simp)) z e
theorem Ju(x:Str)(hx:∀ c∈x.cps.toList,c<1114112):∀ z∈(reprText x).cps.toList,z<1114112:=by
 intro z hz
 unfold reprText at hz
 have hq:reprQuote x<1114112:=by unfold reprQuote;split<;>decide
 simp only [Array.toList_push] at hz
 rcases List.mem_append.mp hz with e | e
 ·rw [← Array.foldl_toList] at e
  exact yK _ hq x.cps.toList #[reprQuote x] hx (by intro y hy;simp at hy;rw [hy];exact hq) z e
 ·rw [List.mem_singleton.mp e];exact hq
theorem FS:∀ (ts:List Str) (k:Nat) (acc:Str),(∀ c∈acc.cps.toList,c<1114112)→(∀ t∈ts,∀ c∈t.cps.toList,c<1114112)→∀ c∈(textFrom k acc ts).cps.toList,c<1114112
 | [],_,_,h,_=>h
 | t::r,k,acc,h,ht=>by
  rw [textFrom]
  refine FS r (k+1) _ (fun c hc=>?_) fun x hx=>ht x (List.mem_cons_of_mem _ hx)
  rw [PyProof.Rows.mem_cps_append,PyProof.Rows.mem_cps_append] at hc
  rcases hc with (hc | hc) | hc
  ·exact h c hc
  ·split at hc
   ·rw [PyProof.Rows.signs_sep] at hc
    simp at hc
    omega
   ·rw [show (("":String):Str).cps.toList= [] by decide] at hc
    simp at hc
  ·exact ht t (List.mem_cons_self ..) c hc
theorem JR(ts:List Str)(h:∀ t∈ts,∀ c∈t.cps.toList,c<1114112):∀ c∈(listText ts).cps.toList,c<1114112:=by
 intro c hc
 unfold listText at hc
 rw [PyProof.Rows.mem_cps_append] at hc
 rcases hc with hc | hc
 ·exact FS ts 0 "[" (by decide) h c hc
 ·rw [show (("]":String):Str).cps.toList= [93] by decide] at hc
  rw [List.mem_singleton.mp hc];decide
theorem KP(ts:List Str)(h:∀ t∈ts,∀ c∈t.cps.toList,c<1114112):∀ c∈(dictText ts).cps.toList,c<1114112:=by
 intro c hc
 unfold dictText at hc
 rw [PyProof.Rows.mem_cps_append,PyProof.Rows.mem_cps_append,PyProof.Rows.mem_join] at hc
 rcases hc with (hc | hc) | hc
 ·rw [show (("{":String):Str).cps.toList= [123] by decide] at hc
  rw [List.mem_singleton.mp hc];decide
 ·rcases hc with ⟨t,ht,hc⟩ | ⟨_,hc⟩
  ·exact h t ht c hc
  ·rw [PyProof.Rows.signs_sep] at hc
   simp at hc
   omega
 ·rw [show (("}":String):Str).cps.toList= [125] by decide] at hc
  rw [List.mem_singleton.mp hc];decide
def Sg(p:PV):Prop:=∀ c∈(toE p).shown.cps.toList,c<1114112
theorem Bb{l:List Nat}(h:Lt l):Sg (.str l):=by
 unfold Sg
 rw [toE,PyData.shown]
 exact Ju _ (by rw [Dk];exact h)
theorem Bc(i:Int):Sg (.int i):=by
 unfold Sg
 rw [toE,PyData.shown]
 intro c hc
 have hc:c∈pF i:=hc
 rw [ye] at hc
 split at hc
 ·have:=oT _ c hc;omega
 ·rcases List.mem_cons.mp hc with rfl | hc
  ·decide
  ·have:=oT _ c hc;omega
theorem GP{xs:List PV}(h:∀ x∈xs,Sg x):Sg (.lst xs):=by
 unfold Sg
 rw [toE,PyData.shown]
 refine JR _ ?_
 induction xs with
 | nil=>intro t ht;simp [fM,PyData.shownAll] at ht
 | cons x r ih=>
  intro t ht
  rw [fM,PyData.shownAll,List.mem_cons] at ht
  rcases ht with rfl | ht
  ·exact h x (List.mem_cons_self ..)
  ·exact ih (fun y hy=>h y (List.mem_cons_of_mem _ hy)) t ht
theorem Bd{xs:List (PK×PV)}(h:∀ p∈xs,oB p.1=true∧Sg p.2):Sg (.dct xs):=by
 unfold Sg
 rw [toE,PyData.shown]
 refine KP _ ?_
 induction xs with
 | nil=>intro t ht;simp [cY,PyData.shownKv] at ht
 | cons p r ih=>
  intro t ht
  obtain ⟨q,v⟩:=p
  obtain ⟨h1,h2⟩:=h _ (List.mem_cons_self ..)
  rw [cY,PyData.shownKv,List.mem_cons] at ht
  rcases ht with rfl | ht
  ·intro c hc
   rw [PyProof.Rows.mem_cps_append,PyProof.Rows.mem_cps_append] at hc
   rcases hc with (hc | hc) | hc
   ·cases q with
    | inl i=>exact (by have z:=Bc i;unfold Sg at z;rw [toE] at z;exact z c hc)
    | inr l=>exact (by have z:=Bb (EZ h1);unfold Sg at z;rw [toE] at z;exact z c hc)
   ·rw [show ((": ":String):Str).cps.toList= [58,32] by decide] at hc
    simp at hc
    omega
   ·exact h2 c hc
  ·exact ih (fun y hy=>h y (List.mem_cons_of_mem _ hy)) t ht
theorem xD:∀ (d:Nat) (p:PV),isV d p=true→dat p=true→Sg p
 | 0,_,h,_=>by simp [isV] at h
 | d+1,p,h,hd=>by
  cases p with
  | bl b=>cases b<;>(unfold Sg;rw [toE,PyData.shown];decide)
  | int i=>exact Bc i
  | str l=>
   simp only [isV,Bool.and_eq_true,List.all_eq_true] at h
   exact Bb fun c hc=>zj c (List.contains_iff_mem.mp (h.2 c hc))
  | lst xs=>exact GP fun x hx=>xD d x ((yF h).2 x hx) (yU hd x hx)
  | dct kvs=>exact Bd fun p hp=>⟨((tY hd).1 p hp).1,xD d p.2 ((tR h).2 p hp).2 ((tY hd).1 p hp).2⟩
  | _=>simp [isV] at h
theorem KY:∀ c∈bz,(Builtin.Str.reprChar 34 c).length≤2∧(Builtin.Str.reprChar 39 c).length≤2:=by decide+kernel
theorem qC{f:Nat→Nat}:∀ {l:List Nat} {n:Nat},(∀ c∈l,f c≤2)→l.foldl (fun n c=>n+f c) n≤n+2 * l.length
 | [],n,_=>by simp
 | a::r,n,h=>by
  have h1:=h a List.mem_cons_self
  have h2:=qC (l:=r) (n:=n+f a) fun c hc=>h c (List.mem_cons_of_mem _ hc)
  rw [List.foldl_cons,List.length_cons]
  omega
theorem AZ{l:List Nat}(h:∀ c∈l,c∈bz):(toE (.str l)).shown.length≤2 * l.length+2:=by
 rw [toE,PyData.shown,← reprLen_eq]
 have q:reprQuote (S l)=34∨reprQuote (S l)=39:=by unfold reprQuote;split<;>simp
 rw [← Array.foldl_toList,Dk]
 rcases q with q | q
 ·rw [q];have:=qC (f:=fun c=>(Builtin.Str.reprChar 34 c).length) (l:=l) (n:=2) fun c hc=>(KY c (h c hc)).1;omega
 ·rw [q];have:=qC (f:=fun c=>(Builtin.Str.reprChar 39 c).length) (l:=l) (n:=2) fun c hc=>(KY c (h c hc)).2;omega
abbrev Kv:=List Nat×PV
def kvd(l:List Kv):List (PK×PV):=l.map fun p=>(.inr p.1,p.2)
inductive Gx:Nat→PV→Prop
 | int (d:Nat) (i:Int) (h1: -1000000000000000000000000000000<i) (h2:i<1000000000000000000000000000000):Gx (d+1) (.int i)
 | bl (d:Nat) (b:Bool):Gx (d+1) (.bl b)
 | str (d:Nat) (l:List Nat) (h:l.length≤400) (hs:∀ c∈l,c∈bz):Gx (d+1) (.str l)
 | lst (d:Nat) (xs:List PV) (h:xs.length≤3) (hx:∀ x∈xs,Gx d x):Gx (d+1) (.lst xs)
 | rcd (d:Nat) (l:List Kv) (h:l.length≤2) (hn:∀ p∈l,nmO p.1) (nd:(l.map (·.1)).Nodup) (hx:∀ p∈l,Gx d p.2):Gx (d+1) (.dct (kvd l))
theorem Gx.up{d:Nat}{v:PV}(h:Gx d v):∀ {e:Nat},d≤e→Gx e v:=by
 induction h with
 | int d i h1 h2=>intro e le;obtain ⟨f,rfl⟩:∃ f,e=f+1:=⟨e - 1,by omega⟩;exact .int f i h1 h2
 | bl d b=>intro e le;obtain ⟨f,rfl⟩:∃ f,e=f+1:=⟨e - 1,by omega⟩;exact .bl f b
 | str d l h hs=>intro e le;obtain ⟨f,rfl⟩:∃ f,e=f+1:=⟨e - 1,by omega⟩;exact .str f l h hs
 | lst d xs h hx ih=>intro e le;obtain ⟨f,rfl⟩:∃ f,e=f+1:=⟨e - 1,by omega⟩;exact .lst f xs h fun x q=>ih x q (by omega)
 | rcd d l h hn nd hx ih=>intro e le;obtain ⟨f,rfl⟩:∃ f,e=f+1:=⟨e - 1,by omega⟩;exact .rcd f l h hn nd fun p q=>ih p q (by omega)
theorem tN{w:List Nat}(h:nmO w):je (.inr w)=true∧oB (.inr w)=true∧wu (.inr w):=by
 refine ⟨JJ h,?_,?_⟩
 ·simp only [oB,Bool.and_eq_true,decide_eq_true_eq,List.all_eq_true]
  exact ⟨by have:=h.1.2.1;omega,fun c hc=>by simpa using rW h.1 c hc⟩
 ·exact ⟨h.1.2.1,h.1.2.2⟩
def BX:Nat→Nat
 | 0=>0
 | d+1=>(BX d+814) * 3+3
theorem Gx.all{d:Nat}{v:PV}(h:Gx d v):isV d v=true∧dat v=true∧Dv v∧(toE v).shown.length≤BX d:=by
 induction h with
 | int d i h1 h2=>
  have p:decide ((if i<0 then -i else i)<1000000000000000000000000000000)=true:=decide_eq_true (by split<;>omega)
  have:=zE p
  exact ⟨p,by simp [dat],.int i,by rw [BX];omega⟩
 | bl d b=>
  have q:(toE (.bl true)).shown.length≤5∧(toE (.bl false)).shown.length≤5:=by decide+kernel
  exact ⟨rfl,by simp [dat],.bl b,by rw [BX];cases b<;>omega⟩
 | str d l h hs=>
  have:=AZ hs
  refine ⟨?_,by rw [dat];exact decide_eq_true (by omega),.str l (by omega) fun c hc=>zj c (hs c hc),by rw [BX];omega⟩
  rw [isV,decide_eq_true h,Df hs];rfl
 | lst d xs h hx ih=>
  have dv:dat (.lst xs)=true:=BY fun x q=>(ih x q).2.1
  have sl:=zD (B:=BX d) (xs:=xs) fun x q=>(ih x q).2.2.2
  refine ⟨?_,dv,.lst xs (by have:=gE _ dv;rwa [PV.pure] at this),?_⟩
  ·rw [isV,decide_eq_true (by omega:xs.length≤40),List.all_eq_true.mpr fun x q=>(ih x q).1];rfl
  ·have:(BX d+2) * xs.length≤(BX d+2) * 3:=Nat.mul_le_mul_left _ h
   rw [BX];omega
 | rcd d l h hn nd hx ih=>
  have km:∀ p∈kvd l,∃ q∈l,p=(.inr q.1,q.2):=fun p hp=>by obtain ⟨q,hq,rfl⟩:=List.mem_map.mp hp;exact ⟨q,hq,rfl⟩
  have ndk:((kvd l).map (·.1)).Nodup:=by
   unfold kvd
   rw [List.map_map,List.nodup_iff_pairwise_ne,List.pairwise_map]
   rw [List.nodup_iff_pairwise_ne,List.pairwise_map] at nd
   exact nd.imp fun h e=>h (Sum.inr.inj e)
  have dv:dat (.dct (kvd l))=true:=Hw (fun p hp=>by obtain ⟨q,hq,rfl⟩:=km p hp;exact ⟨(tN (hn q hq)).2.1,(ih q hq).2.1⟩) ndk
  have lk:(kvd l).length=l.length:=by unfold kvd;rw [List.length_map]
  have sl:=rB (B:=BX d) (xs:=kvd l) fun p hp=>by obtain ⟨q,hq,rfl⟩:=km p hp;exact ⟨(tN (hn q hq)).2.2,(ih q hq).2.2.2⟩
  refine ⟨?_,dv,.dct _ (by have:=gE _ dv;rwa [PV.pure] at this),?_⟩
  ·rw [isV,decide_eq_true (by omega:(kvd l).length≤8),List.all_eq_true.mpr fun p hp=>by obtain ⟨q,hq,rfl⟩:=km p hp;exact (tN (hn q hq)).1,List.all_eq_true.mpr fun p hp=>by obtain ⟨q,hq,rfl⟩:=km p hp;exact (ih q hq).1];rfl
  ·have:(BX d+14) * (kvd l).length≤(BX d+14) * 2:=Nat.mul_le_mul_left _ (by omega)
   rw [BX];omega
theorem DP{x:List Nat}{v:PV}(hx:nmO x)(h:Gx 6 v):∃ R,(∀ g,qm [.dct [(.inr x,v)]] g= .ok (.str R) g)∧∀ c∈R,c<1114112:=by
 obtain ⟨h1,h2,_,h4⟩:=h.all
 obtain ⟨k1,k2,k3⟩:=tN hx
 have s:=yg (n:=7) (by decide) (xs:= [(.inr x,v)]) fun p hp=>by cases List.mem_singleton.mp hp;exact ⟨k1,tQ 6 v h1⟩
 have z:=rB (B:=BX 6) (xs:= [(.inr x,v)]) fun p hp=>by cases List.mem_singleton.mp hp;exact ⟨k3,h4⟩
 have zl:(toE (.dct [(.inr x,v)])).shown.length≤sizeLine:=Nat.le_trans z (by show (BX 6+14) * 1+3≤_;decide)
 have ok:okE (.dct [(.inr x,v)])=true:=by
  unfold okE
  rw [s.dt,s.sh,decide_eq_true (by have:=s.dp;omega),decide_eq_true zl];rfl
 refine ⟨(toE (.dct [(.inr x,v)])).shown.cps.toList,fun g=>if_pos ok,?_⟩
 exact Bd (xs:= [(.inr x,v)]) fun p hp=>by cases List.mem_singleton.mp hp;exact ⟨k2,xD 6 v h1 h2⟩
theorem BZ(i n:Nat)(l2:List PV)(h2:ai l2=true):∀ (l1:List PV),ai l1=true→lvs (l1++.ref i::l2)= [i]∧rnm n (l1++.ref i::l2)=l1++.ref n::l2∧mJ (l1++.ref i::l2)=true
 | [],_=>by
  have e:∀ (l:List PV),ai l=true→lvs l= []∧(∀ n,rnm n l=l)∧mJ l=true:=fun l hl=>by
   induction l with
   | nil=>exact ⟨rfl,fun _=>rfl,rfl⟩
   | cons p r ih=>
    rw [ai,Bool.and_eq_true] at hl
    obtain ⟨a,b,c⟩:=ih hl.2
    have np:∀ i,p≠.ref i:=fun i e=>by have:=hl.1;subst e;simp [PV.pure] at this
    have e:mJ (p::r)=(p.pure&&mJ r):=by cases p<;>first | rfl | exact (np _ rfl).elim
    refine ⟨?_,fun n=>?_,by rw [e,hl.1,c];rfl⟩
    ·cases p<;>first | exact a | exact (np _ rfl).elim
    ·cases p<;>first | exact congrArg _ (b n) | exact (np _ rfl).elim
  obtain ⟨a,b,c⟩:=e l2 h2
  refine ⟨?_,?_,c⟩
  ·show i::lvs l2=_;rw [a]
  ·show PV.ref n::rnm (n+1) l2=_;rw [b];rfl
 | p::r,h=>by
  rw [ai,Bool.and_eq_true] at h
  obtain ⟨a,b,c⟩:=BZ i n l2 h2 r h.2
  have np:∀ i,p≠.ref i:=fun i e=>by have:=h.1;subst e;simp [PV.pure] at this
  have e:mJ (p::(r++.ref i::l2))=(p.pure&&mJ (r++.ref i::l2)):=by cases p<;>first | rfl | exact (np _ rfl).elim
  rw [List.cons_append]
  refine ⟨?_,?_,by rw [e,h.1,c];rfl⟩
  ·cases p<;>first | exact a | exact (np _ rfl).elim
  ·cases p<;>first | exact congrArg _ b | exact (np _ rfl).elim
theorem kI{fn:List PV→List PO→Res PV}(l1 l2:List PV){h:List PO}{i:Nat}{o o':PO}{v:PV}(h1:ai l1=true)(h2:ai l2=true)(ho:h[i]? =some o)(oo:o.pure=true)(e:fn (l1++.ref 0::l2) [o]= .ok v [o'])(hv:v.pure=true)(ho':o'.pure=true):
  callL fn (l1++.ref i::l2) h= .ok v (h.set i o'):=by
 obtain ⟨q1,q2,q3⟩:=BZ i 0 l2 h2 l1 h1
 have e4:kh h [i]=some [o]:=by simp [kh,ho]
 unfold callL
 rw [q1,e4]
 dsimp only
 rw [q3,q2,e]
 have e5:(true&&eE [o]&&lN [i])=true:=by simp [eE,oo,lN]
 rw [if_pos e5]
 dsimp only
 rw [if_pos ⟨hv,by simp [eE,ho'],rfl⟩]
 rfl
def cv(cs:List Int):PV:=.giv (cs.map PV.int)
theorem mU(cs:List Int):(cv cs).pure=true:=by
 unfold cv;rw [PV.pure]
 induction cs with
 | nil=>rfl
 | cons a r ih=>rw [List.map_cons,ai,ih];rfl
theorem dS(cs:List Int)(h:List PO):ao h (cv cs)=cv cs:=rfl
abbrev spt(n m:Int):PO:=.lst [.int n,.int m]
theorem pH(n m:Int):(spt n m).pure=true:=rfl
theorem FE(k:Nat)(cs:List Int)(hc:cs.length≤63)(n m:Int)(h0:0≤n)(h1:n≤2000000):∃ v,0≤v∧v<400000000∧L (k+1) .l_cell [cv cs,.ref 0] [spt n m]= .ok (.int v) [spt (n+1) m]:=by
 have ix0:∀ i:Int,pIx (.ref 0) (.int 0) [spt i m]= .ok (.int i) [spt i m]:=fun m=>rfl
 have d0:∀ i:Int,ao [spt i m] (.ref 0)= .ref 0:=fun m=>rfl
 have st:∀ ρ,nq (.int (n+1)) (.ref 0) (.int 0) ρ [spt n m]= .nx ρ [spt (n+1) m]:=fun ρ=>rfl
 have ln:∀ h,fy [.giv (cs.map PV.int)] h= .ok (.int cs.length) h:=fun h=>by rw [Ge,List.length_map]
 have m3:∀ x:Int,gV x (n+1)=true:=fun x=>lQ (bV.mpr ⟨by omega,by omega⟩)
 have fin:∀ b:Int,0≤b * 48271 % 2147483647 / 7∧b * 48271 % 2147483647 / 7<400000000:=fun b=>by omega
 have ct:∀ v:Int,rj 1 (.int v) [spt (n+1) m]= .ok (.int v) [spt (n+1) m]:=fun v=>rfl
 cases cs with
 | nil=>
  refine ⟨_,(fin (31 * (n+1) * (n+1)+7919 * (n+1))).1,(fin _).2,?_⟩
  show fx (jk (F k)) 2 4 [.giv [],.ref 0] [spt n m]=_
  have ln0:∀ h,fy [.giv []] h= .ok (.int 0) h:=fun h=>rfl
  have g0:decide ((0:Int)<0)=false:=by decide
  simp -implicitDefEqProofs only [EX,dS,fx,jk,ix0,d0,st,ln0,m3,ct,Int.reduceLT]
 | cons a r=>
  have hl0:(0:Int)<(((a::r).length:Nat):Int):=by rw [List.length_cons];omega
  have hl1:(((a::r).length:Nat):Int)<1073741824:=by omega
  have q0:0≤(n+1) % (((a::r).length:Nat):Int):=Int.emod_nonneg _ (by omega)
  have q1:(n+1) % (((a::r).length:Nat):Int)<(((a::r).length:Nat):Int):=Int.emod_lt_of_pos _ hl0
  have ax:atI ((a::r).map PV.int) ((n+1) % (((a::r).length:Nat):Int))=some (.int ((a::r).getD ((n+1) % (((a::r).length:Nat):Int)).toNat 0)):=by
   refine gM q0 ?_
   rw [List.getElem?_map,List.getD_eq_getElem?_getD,List.getElem?_eq_getElem (by omega)]
   rfl
  have dv0:0≤(n+1) / (((a::r).length:Nat):Int):=Int.ediv_nonneg (by omega) (by omega)
  have dv1:(n+1) / (((a::r).length:Nat):Int)≤n+1:=Int.ediv_le_self _ (by omega)
  have m5:∀ x:Int,gV x (1+(n+1) / (((a::r).length:Nat):Int))=true:=fun x=>lQ (bV.mpr ⟨by omega,by omega⟩)
  have p3:decide ((0:Int)<(((a::r).length:Nat):Int))=true:=decide_eq_true hl0
  have p4:decide ((0:Int)<(((a::r).length:Nat):Int)∧(((a::r).length:Nat):Int)<1073741824)=true:=decide_eq_true ⟨hl0,hl1⟩
  unfold cv
  generalize hL:(((a::r).length:Nat):Int)=Ln at *
  generalize hC:(a::r).map PV.int=cl at *
  refine ⟨_,(fin (31 * (n+1) * (n+1)+7919 * (n+1)+(a::r).getD ((n+1) % Ln).toNat 0 * (1+(n+1) / Ln))).1,(fin _).2,?_⟩
  show fx (jk (F k)) 2 4 [.giv cl,.ref 0] [spt n m]=_
  simp -implicitDefEqProofs only [EX,dS,fx,jk,ix0,d0,st,ln,p3,ax,m3,m5,p4,ct]
theorem cH(k:Nat)(cs:List Int)(hc:cs.length≤63)(n m:Int)(h0:0≤n)(h1:n≤2000000)(r:List PO):∃ v,0≤v∧v<400000000∧callL (L (k+1) .l_cell) [cv cs,.ref 0] (spt n m::r)= .ok (.int v) (spt (n+1) m::r):=by
 obtain ⟨v,v0,v1,e⟩:=FE k cs hc n m h0 h1
 exact ⟨v,v0,v1,kI (fn:=L (k+1) .l_cell) [cv cs] [] (by rw [ai,mU];rfl) rfl rfl (pH _ _) e rfl (pH _ _)⟩
theorem yT{α β:Type}{te:Ex}{cp:Ev}{m:Int}{tl:List PO}(f:α→PV)(g:β→PV)(R:β→Prop)(c:Int)(hc:0≤c)(hi:Int):∀ (l:List α) (n:Int),0≤n→n+c * l.length≤hi→(∀ x∈l,∀ n,0≤n→n+c≤hi→∃ y n',R y∧n≤n'∧n'≤n+c∧te (some (f x)::cp) (spt n m::tl)= .ok (g y) (spt n' m::tl))→
  ∃ (ys:List β) (n':Int),ys.length=l.length∧(∀ y∈ys,R y)∧n≤n'∧n'≤n+c * l.length∧eI et te cp (l.map f) (spt n m::tl)= .ok (ys.map g) (spt n' m::tl)
 | [],n,_,_,_=>⟨[],n,rfl,by simp,Int.le_refl _,by simp,rfl⟩
 | x::r,n,h0,hn,hx=>by
  have e:c * ((x::r).length:Int)=c * (r.length:Int)+c:=by rw [List.length_cons,Int.natCast_add,Int.mul_add];simp
  have hr:0≤c * (r.length:Int):=Int.mul_nonneg hc (by omega)
  rw [e] at hn
  obtain ⟨y,n1,y1,y2,y3,y4⟩:=hx x List.mem_cons_self n h0 (by omega)
  obtain ⟨ys,n2,z0,z1,z2,z3,z4⟩:=yT f g R c hc hi r n1 (by omega) (by omega) fun z hz=>hx z (List.mem_cons_of_mem _ hz)
  refine ⟨y::ys,n2,by simp [z0],fun z hz=>?_,by omega,by rw [e];omega,?_⟩
  ·rcases List.mem_cons.mp hz with q | q
   ·subst q;exact y1
   ·exact z1 z q
  ·rw [List.map_cons,eI]
   simp only [et,Res.bind_ok,if_true,y4,z4,List.map_cons]
theorem AG(k:Nat)(ns:List Int)(j:Nat):F (k+1) .l_cell_at [cv ns,.int (j:Int)]= .ok (.int (ns.getD j 0)):=by
 have r2:F (k+1) .l_cell_at [cv ns,.int (j:Int)]=match gG (F k) [some (cv ns),some (.int (j:Int))] [] with
   | .nx _ _=>.ok .non
   | .rt v h=>br v h
   | _=>.bad:=rfl
 have ln:∀ h,fy [cv ns] h= .ok (.int ns.length) h:=fun h=>by unfold cv;rw [Ge,List.length_map]
 rw [r2]
 by_cases c:j<ns.length
 ·have d1:decide ((j:Int)<(ns.length:Int))=true:=decide_eq_true (by omega)
  have ix:∀ h,pIx (cv ns) (.int (j:Int)) h= .ok (.int (ns.getD j 0)) h:=fun h=>by
   unfold cv
   rw [Ku,gM (v:=PV.int (ns.getD j 0)) (by omega) (by rw [Int.toNat_natCast,List.getElem?_map,List.getD_eq_getElem?_getD,List.getElem?_eq_getElem c];rfl)]
   rfl
  simp only [EX,gG,dS,ln,d1,ix]
  rfl
 ·have d1:decide ((j:Int)<(ns.length:Int))=false:=decide_eq_false (by omega)
  have e:ns.getD j 0=0:=by rw [List.getD_eq_getElem?_getD,List.getElem?_eq_none (by omega)];rfl
  simp only [EX,gG,dS,ln,d1,e]
  rfl
theorem nY(k:Nat)(ns:List Int)(i:Int)(hi:0≤i):∃ v:Int,∀ h,bn (F (k+1) .l_cell_at) [cv ns,.int i] h= .ok (.int v) h:=by
 have e:=AG k ns i.toNat
 rw [Int.toNat_of_nonneg hi] at e
 exact ⟨_,fun h=>aK h (by simp [ai,mU,PV.pure]) e⟩
theorem bX{a b:Sx}{ρ:Ev}{h:List PO}{Q:SR→Prop}(ρ1:Ev)(h1:List PO)(e:a ρ h= .nx ρ1 h1)(k:Q (b ρ1 h1)):Q (aA a b ρ h):=by rw [Fu,e];exact k
theorem FV{α:Type}{a b:Sx}{ρ:Ev}{h:List PO}{Q:SR→Prop}(f:α→Ev)(g:α→List PO)(R:α→Prop)(e:∃ x,R x∧a ρ h= .nx (f x) (g x))(k:∀ x,R x→Q (b (f x) (g x))):Q (aA a b ρ h):=by
 obtain ⟨x,hx,e⟩:=e
 exact bX _ _ e (k x hx)
theorem gx(x:Int){m:Int}(h:0<m):0≤x % m∧x % m<m:=⟨Int.emod_nonneg _ (by omega),Int.emod_lt_of_pos _ h⟩
theorem va(m:List (List Nat)):(mnu m).pure=true:=by unfold mnu;rw [PV.pure];exact bM m
theorem Av{ls:List (List Nat)}{i:Int}(h0:0≤i)(h1:i<(ls.length:Int))(h:List PO):pIx (mnu ls) (.int i) h= .ok (.str (ls.getD i.toNat [])) h:=by
 have hi:i.toNat<ls.length:=by omega
 unfold mnu
 rw [Kt,gM (v:=PV.str (ls.getD i.toNat [])) h0 (by rw [List.getElem?_map,List.getD_eq_getElem?_getD,List.getElem?_eq_getElem hi];rfl)]
 rfl
def Ab:List PV:= [.int 5,.str [],.bl true,.lst [],.dct [],.str [97,32,98],.lst [.str [120]],.int 0,.int 1,.int (-7)]
theorem yt:∀ v∈Ab,Gx 2 v:=by
 intro v hv
 simp only [Ab,List.mem_cons,List.not_mem_nil,or_false] at hv
 have s:∀ l:List Nat,(decide (l.length≤400)&&l.all bz.contains)=true→∀ d,Gx (d+1) (.str l):=fun l h d=>by
  rw [Bool.and_eq_true,decide_eq_true_eq,List.all_eq_true] at h
  exact .str d l h.1 fun c hc=>by simpa using h.2 c hc
 rcases hv with rfl | rfl | rfl | rfl | rfl | rfl | rfl | rfl | rfl | rfl
 ·exact .int _ 5 (by decide) (by decide)
 ·exact s [] rfl _
 ·exact .bl _ _
 ·exact .lst _ [] (by decide) (by simp)
 ·exact .rcd _ [] (by decide) (by simp) (by simp) (by simp)
 ·exact s _ (by decide+kernel) _
 ·exact .lst _ _ (by decide) fun x hx=>by cases List.mem_singleton.mp hx;exact s _ (by decide+kernel) _
 ·exact .int _ 0 (by decide) (by decide)
 ·exact .int _ 1 (by decide) (by decide)
 ·exact .int _ (-7) (by decide) (by decide)
theorem qZ{xs:List PV}{m n:Int}(hn:n=xs.length)(hp:0<n):∃ v,v∈xs∧atI xs (m % n)=some v:=by
 have h0:=Int.emod_nonneg m (show n≠0 by omega)
 have h1:=Int.emod_lt_of_pos m hp
 have hi:(m % n).toNat<xs.length:=by omega
 exact ⟨xs[(m % n).toNat],List.getElem_mem hi,gM h0 (List.getElem?_eq_getElem hi)⟩
def Et(w:Int):List PV:= [.int (w % 21 - 10),.int (0 - w % 1000000007),.int (w * 5429316803059692481 % 1000000000000000000000000000000),.int (999999999999999999999999999999 - w % 3),.int 0]
theorem Es(w:Int):∀ v∈Et w,Gx 1 v:=by
 intro v hv
 simp only [Et,List.mem_cons,List.not_mem_nil,or_false] at hv
 have e1:0≤w * 5429316803059692481 % 1000000000000000000000000000000:=Int.emod_nonneg _ (by decide)
 have e2:w * 5429316803059692481 % 1000000000000000000000000000000<1000000000000000000000000000000:=Int.emod_lt_of_pos _ (by decide)
 rcases hv with rfl | rfl | rfl | rfl | rfl
 ·exact .int _ _ (by omega) (by omega)
 ·exact .int _ _ (by omega) (by omega)
 ·exact .int _ _ (by omega) (by omega)
 ·exact .int _ _ (by omega) (by omega)
 ·exact .int _ _ (by omega) (by omega)
theorem ki{v:PV}(n m:Int)(p:v.pure=true):rj 1 v [spt n m]= .ok v [spt n m]:=by
 unfold rj
 rw [im _ p]
 unfold qK
 rfl
theorem kq(a b:List Nat)(r:Bool)(e:(a.all (fun c=>decide (c<1114112))&&b.all (fun c=>decide (c<1114112))&&(decide (a=b)==r))=true:=by decide)(h:List PO):pEq (.str a) (.str b) h= .ok (.bl r) h:=by
 simp only [Bool.and_eq_true,List.all_eq_true,decide_eq_true_eq,beq_iff_eq] at e
 exact tV a b r e.1.1 e.1.2 e.2 h
section
variable (k:Nat) (cs:List Int) (hc:cs.length≤63) (n:Int) (h0:0≤n) (h1:n≤1000000)
include hc h0 h1
theorem FQ:∃ v,Gx 2 v∧L (k+2) .l_value [cv cs,.ref 0,.tup [.str [110]],.bl true] [spt n 0]= .ok v [spt (n+1) 0]:=by
 obtain ⟨w,w0,w1,ew⟩:=cH k cs hc n 0 h0 (by omega) []
 have d0:∀ i:Int,ao [spt i 0] (.ref 0)= .ref 0:=fun m=>rfl
 by_cases q:w / 11 % 23=1
 ·obtain ⟨v,hv,ev⟩:=qZ (xs:=Ab) (m:=w / 253) (n:=10) rfl (by decide)
  have g:=yt v hv
  have pv:=g.all.2.2.1.pure
  refine ⟨v,g,?_⟩
  have e1:decide (w / 11 % 23=1)=true:=decide_eq_true q
  unfold Ab at ev
  show fx (bv (F (k+1)) (L (k+1))) 4 9 [cv cs,.ref 0,.tup [.str [110]],.bl true] [spt n 0]=_
  simp only [EX,fx,bv,dS,d0,ew,e1,ev,ak _ pv]
  exact ki _ _ pv
 ·obtain ⟨v,hv,ev⟩:=qZ (xs:=Et w) (m:=w / 7) (n:=5) rfl (by decide)
  have g:=Es w v hv
  have pv:=g.all.2.2.1.pure
  refine ⟨v,g.up (by decide),?_⟩
  have e1:decide (w / 11 % 23=1)=false:=decide_eq_false q
  unfold Et at ev
  have m1:∀ x:Int,gV x 5429316803059692481=true:=fun x=>lQ rfl
  have p1:decide (Int.natAbs 10<18446744073709551616)=true:=rfl
  have p2:decide (Int.natAbs 48271<18446744073709551616)=true:=rfl
  have k1:=kq [110] [110] true
  show fx (bv (F (k+1)) (L (k+1))) 4 9 [cv cs,.ref 0,.tup [.str [110]],.bl true] [spt n 0]=_
  simp only [EX,fx,bv,dS,d0,ew,e1,at0,k1,m1,p1,p2,Int.reduceToNat,ev,ak _ pv]
  exact ki _ _ pv
end
theorem xm(k:Nat):F (k+1) .l_signs []= .ok (.str bz):=by
 show ar (kK (F k)) 0 1 []=_
 have e:qf++qe=bz:=by decide+kernel
 have z:qf.length+qe.length≤16777216:=by decide
 simp only [EX,ar,kK,z,e,br]
theorem yf(w M:Int)(h0:0≤M)(h1:M≤400):∃ c:Nat,c≤400∧atI [PV.int (w % 7),.int (w % 40),.int M] ((if decide (w / 40 % 6=1)=true then 1 else 0)+(if decide (w / 40 % 36=1)=true then 1 else 0))=some (.int (c:Int)):=by
 have a:∀ x:Int,0≤x→x≤400→∃ c:Nat,c≤400∧(some (PV.int x))=some (.int (c:Int)):=fun x h h'=>⟨x.toNat,by omega,by rw [Int.toNat_of_nonneg h]⟩
 cases decide (w / 40 % 6=1)<;>cases decide (w / 40 % 36=1)
 ·exact a _ (by omega) (by omega)
 ·exact a _ (by omega) (by omega)
 ·exact a _ (by omega) (by omega)
 ·exact a _ h0 h1
def tC(w:Int)(j:Nat):Nat:=bz.getD ((w / 240+(0+(j:Int)) * (1+w / 9 % 94)) % 95).toNat 0
def wC(w:Int)(j:Nat):Nat:=ij.getD ((w / 240+(0+(j:Int)) * (1+w / 9 % 61)) % 62).toNat 0
theorem Dm:bz.length=95:=by decide
theorem Di:ij.length=62:=by decide
theorem Ld:∀ c∈ij,c∈fX:=by decide+kernel
theorem GK(w:Int)(j:Nat):tC w j∈bz:=fA (by rw [Dm];omega)
theorem GD(w:Int)(j:Nat):wC w j∈fX:=Ld _ (fA (by rw [Di];omega))
theorem Aa(l:List Nat):(l.map fun c=> [c]).flatten=l:=pO l
theorem rN(l:List Nat)(hl:l.length≤1000)(h:List PO):eG (.str []) [.lst ((l.map fun c=> [c]).map PV.str)] h= .ok (.str l) h:=by
 rw [tH (by
  have:=pC (l:=l.map fun c=> [c]) fun x hx=>by obtain ⟨c,_,rfl⟩:=List.mem_map.mp hx;exact Nat.le_refl _
  rw [List.length_map] at this
  omega),Aa]
theorem GJ(k:Nat)(w:Int)(c:Nat)(hc:c≤1000)(h:List PO):eI et (kl (F (k+1))) [some (.int w)] ((List.range c).map fun i=>PV.int (0+(i:Nat))) h= .ok ((((List.range c).map (tC w)).map fun c=> [c]).map PV.str) h:=by
 rw [List.map_map,List.map_map]
 refine wY (fun i=>PV.int (0+(i:Nat))) _ (List.range c) fun i hi=>?_
 have hi:=List.mem_range.mp hi
 have z:∀ h,bn (F (k+1) .l_signs) [] h= .ok (.str bz) h:=fun h=>aK h rfl (xm k)
 have m1:gV (0+(i:Int)) (1+w / 9 % 94)=true:=lQ (bV.mpr ⟨by omega,by omega⟩)
 have az:atI bz ((w / 240+(0+(i:Int)) * (1+w / 9 % 94)) % 95)=some (tC w i):=mZ 0 (Int.emod_nonneg _ (by decide)) (by rw [Dm];exact Int.emod_lt_of_pos _ (by decide))
 have zl:bz.length≤16777216:=by decide
 simp only [EX,kl,z,m1,az,zl]
 rfl
theorem GC(k:Nat)(w:Int)(c:Nat)(hc:c≤1000)(h:List PO):eI et (kj (F k)) [some (.str ij),some (.int w)] ((List.range c).map fun i=>PV.int (0+(i:Nat))) h= .ok ((((List.range c).map (wC w)).map fun c=> [c]).map PV.str) h:=by
 rw [List.map_map,List.map_map]
 refine wY (fun i=>PV.int (0+(i:Nat))) _ (List.range c) fun i hi=>?_
 have hi:=List.mem_range.mp hi
 have m1:gV (0+(i:Int)) (1+w / 9 % 61)=true:=lQ (bV.mpr ⟨by omega,by omega⟩)
 have az:atI ij ((w / 240+(0+(i:Int)) * (1+w / 9 % 61)) % 62)=some (wC w i):=mZ 0 (Int.emod_nonneg _ (by decide)) (by rw [Di];exact Int.emod_lt_of_pos _ (by decide))
 have zl:ij.length≤16777216:=by decide
 simp only [EX,kj,m1,az,zl]
 rfl
section
variable (k:Nat) (cs:List Int) (hc:cs.length≤63) (n:Int) (h0:0≤n) (h1:n≤1000000)
include hc h0 h1
theorem lZ(K:PV)(pK:K.pure=true)(w:Int)(ew:callL (L (k+1) .l_cell) [cv cs,.ref 0] [spt n 0]= .ok (.int w) [spt (n+1) 0])(q:w / 11 % 23=1):∃ v,Gx 2 v∧L (k+2) .l_value [cv cs,.ref 0,K,.bl true] [spt n 0]= .ok v [spt (n+1) 0]:=by
 have d0:∀ i:Int,ao [spt i 0] (.ref 0)= .ref 0:=fun m=>rfl
 obtain ⟨v,hv,ev⟩:=qZ (xs:=Ab) (m:=w / 253) (n:=10) rfl (by decide)
 have g:=yt v hv
 have pv:=g.all.2.2.1.pure
 refine ⟨v,g,?_⟩
 have e1:decide (w / 11 % 23=1)=true:=decide_eq_true q
 unfold Ab at ev
 show fx (bv (F (k+1)) (L (k+1))) 4 9 [cv cs,.ref 0,K,.bl true] [spt n 0]=_
 simp only [EX,fx,bv,dS,d0,ew,e1,ev,ak _ pv]
 exact ki _ _ pv
theorem Jk:∃ v,Gx 2 v∧L (k+2) .l_value [cv cs,.ref 0,.tup [.str [98]],.bl true] [spt n 0]= .ok v [spt (n+1) 0]:=by
 obtain ⟨w,w0,w1,ew⟩:=cH k cs hc n 0 h0 (by omega) []
 have d0:∀ i:Int,ao [spt i 0] (.ref 0)= .ref 0:=fun m=>rfl
 by_cases q:w / 11 % 23=1
 ·exact lZ k cs hc n h0 h1 (.tup [.str [98]]) rfl w ew q
 ·refine ⟨.bl (decide (w / 5 % 2=1)),.bl _ _,?_⟩
  have e1:decide (w / 11 % 23=1)=false:=decide_eq_false q
  have k1:=kq [98] [110] false
  have k2:=kq [98] [98] true
  show fx (bv (F (k+1)) (L (k+1))) 4 9 [cv cs,.ref 0,.tup [.str [98]],.bl true] [spt n 0]=_
  simp -implicitDefEqProofs only [EX,fx,bv,dS,d0,ew,e1,at0,k1,k2]
  exact ki (v:=.bl (decide (w / 5 % 2=1))) _ _ rfl
theorem AS:∃ v,Gx 2 v∧L (k+2) .l_value [cv cs,.ref 0,.tup [.str [116]],.bl true] [spt n 0]= .ok v [spt (n+1) 0]:=by
 obtain ⟨w,w0,w1,ew⟩:=cH k cs hc n 0 h0 (by omega) []
 have d0:∀ i:Int,ao [spt i 0] (.ref 0)= .ref 0:=fun m=>rfl
 by_cases q:w / 11 % 23=1
 ·exact lZ k cs hc n h0 h1 (.tup [.str [116]]) rfl w ew q
 ·have e1:decide (w / 11 % 23=1)=false:=decide_eq_false q
  obtain ⟨c,hc4,ec⟩:=yf w (400 - w % 3) (by omega) (by omega)
  refine ⟨.str ((List.range c).map (tC w)),.str _ _ (by rw [List.length_map,List.length_range];exact hc4) (fun x hx=>by obtain ⟨j,_,rfl⟩:=List.mem_map.mp hx;exact GK w j),?_⟩
  have k1:=kq [116] [110] false
  have k2:=kq [116] [98] false
  have k3:=kq [116] [108] false
  have k4:=kq [116] [114] false
  have k5:=kq [116] [116] true
  have ix:∀ a b:PV,atI [a,b] 1=some b:=fun a b=>rfl
  have bc:bel 4611686018427387904 (c:Int)=true:=bV.mpr ⟨by omega,by omega⟩
  have tc:Int.toNat (c:Int)=c:=Int.toNat_natCast c
  have lc:((List.range c).map fun i=>PV.int (0+(i:Nat))).length<16777216:=by rw [List.length_map,List.length_range];omega
  have cm:=fun h=>GJ k w c (by omega) h
  have jo:=fun h=>rN ((List.range c).map (tC w)) (by rw [List.length_map,List.length_range];omega) h
  show fx (bv (F (k+1)) (L (k+1))) 4 9 [cv cs,.ref 0,.tup [.str [116]],.bl true] [spt n 0]=_
  simp -implicitDefEqProofs only [EX,fx,bv,dS,d0,ew,e1,at0,k1,k2,k3,k4,k5,ix,ec,bc,tc,lc,dh,Option.getD_some,cm,jo]
  exact ki (v:=.str ((List.range c).map (tC w))) _ _ rfl
end
section
variable (k:Nat) (cs:List Int) (hc:cs.length≤63) (n:Int) (h0:0≤n) (h1:n≤1000000)
include hc h0 h1
theorem FP:∃ v,Gx 2 v∧L (k+2) .l_value [cv cs,.ref 0,.tup [.str [119]],.bl true] [spt n 0]= .ok v [spt (n+1) 0]:=by
 obtain ⟨w,w0,w1,ew⟩:=cH k cs hc n 0 h0 (by omega) []
 have d0:∀ i:Int,ao [spt i 0] (.ref 0)= .ref 0:=fun m=>rfl
 by_cases q:w / 11 % 23=1
 ·exact lZ k cs hc n h0 h1 (.tup [.str [119]]) rfl w ew q
 ·have e1:decide (w / 11 % 23=1)=false:=decide_eq_false q
  obtain ⟨c,hc4,ec⟩:=yf w 40 (by omega) (by omega)
  obtain ⟨e,he4,ee⟩:∃ e:Nat,e≤400∧(if (c:Int)>1 then (c:Int) else 1)=(e:Int):=by
   by_cases z:(c:Int)>1
   ·exact ⟨c,hc4,if_pos z⟩
   ·exact ⟨1,by decide,if_neg z⟩
  refine ⟨.str ((List.range e).map (wC w)),.str _ _ (by rw [List.length_map,List.length_range];exact he4) (fun x hx=>by obtain ⟨j,_,rfl⟩:=List.mem_map.mp hx;exact Le _ (GD w j)),?_⟩
  have k1:=kq [119] [110] false
  have k2:=kq [119] [98] false
  have k3:=kq [119] [108] false
  have k4:=kq [119] [114] false
  have k5:=kq [119] [116] false
  have ix:∀ a b:PV,atI [a,b] 0=some a:=fun a b=>rfl
  have bc:bel 4611686018427387904 (e:Int)=true:=bV.mpr ⟨by omega,by omega⟩
  have tc:Int.toNat (e:Int)=e:=Int.toNat_natCast e
  have lc:((List.range e).map fun i=>PV.int (0+(i:Nat))).length<16777216:=by rw [List.length_map,List.length_range];omega
  have cm:=fun h=>GC (k+1) w e (by omega) h
  have jo:=fun h=>rN ((List.range e).map (wC w)) (by rw [List.length_map,List.length_range];omega) h
  show fx (bv (F (k+1)) (L (k+1))) 4 9 [cv cs,.ref 0,.tup [.str [119]],.bl true] [spt n 0]=_
  simp -implicitDefEqProofs only [EX,fx,bv,dS,d0,ew,e1,at0,k1,k2,k3,k4,k5,ix,ec,ee,bc,tc,lc,dh,Option.getD_some,cm,jo]
  exact ki (v:=.str ((List.range e).map (wC w))) _ _ rfl
end
section
variable (k:Nat) (cs:List Int) (hc:cs.length≤63)
def BO(E:PV):Prop:=∀ n:Int,0≤n→n≤1000000→∃ v,Gx 2 v∧L (k+2) .l_value [cv cs,.ref 0,E,.bl true] [spt n 0]= .ok v [spt (n+1) 0]
theorem um{E:PV}(pE:E.pure=true)(hE:BO k cs E)(n:Int)(h0:0≤n)(h1:n≤1000000)(tl:List PO):∃ v,Gx 2 v∧callL (L (k+2) .l_value) [cv cs,.ref 0,E,.bl true] (spt n 0::tl)= .ok v (spt (n+1) 0::tl):=by
 obtain ⟨v,g,e⟩:=hE n h0 h1
 refine ⟨v,g,?_⟩
 exact kI (l1:= [cv cs]) (l2:= [E,.bl true]) (i:=0) (by rw [ai,mU];rfl) (by rw [ai,pE];rfl) rfl rfl e g.all.2.2.1.pure rfl
include hc
theorem AT(E:PV)(pE:E.pure=true)(hE:BO k cs E)(n:Int)(h0:0≤n)(h1:n≤900000):∃ v n',Gx 3 v∧n≤n'∧n'≤n+4∧L (k+3) .l_value [cv cs,.ref 0,.tup [.str [108],E],.bl true] [spt n 0]= .ok v [spt n' 0]:=by
 obtain ⟨w,w0,w1,ew⟩:=cH (k+1) cs hc n 0 h0 (by omega) []
 have d0:∀ i:Int,ao [spt i 0] (.ref 0)= .ref 0:=fun m=>rfl
 by_cases q:w / 11 % 23=1
 ·obtain ⟨v,g,e⟩:=lZ (k+1) cs hc n h0 (by omega) (.tup [.str [108],E]) (by rw [PV.pure,ai,ai,pE];rfl) w ew q
  exact ⟨v,n+1,g.up (by decide),by omega,by omega,e⟩
 ·have e1:decide (w / 11 % 23=1)=false:=decide_eq_false q
  obtain ⟨s,hs,es⟩:=qZ (xs:= [PV.int 0,.int 1,.int 2,.int 2,.int 3]) (m:=w / 5) (n:=5) rfl (by decide)
  obtain ⟨c,hc3,rfl⟩:∃ c:Nat,c≤3∧s= .int (c:Int):=by
   simp only [List.mem_cons,List.not_mem_nil,or_false] at hs
   rcases hs with rfl | rfl | rfl | rfl | rfl
   ·exact ⟨0,by decide,rfl⟩
   ·exact ⟨1,by decide,rfl⟩
   ·exact ⟨2,by decide,rfl⟩
   ·exact ⟨2,by decide,rfl⟩
   ·exact ⟨3,by decide,rfl⟩
  obtain ⟨ys,n',g0,g1,g2,g3,g4⟩:=yT (te:=kn (F (k+2)) (L (k+2))) (cp:= [some (cv cs),some (.ref 0),some (.bl true),some (.tup [.str [108],E])]) (m:=0) (tl:= []) (fun i:Nat=>PV.int (0+(i:Nat))) (fun v:PV=>v) (fun v=>Gx 2 v) 1 (by decide) 1000000 (List.range c) (n+1) (by omega) (by rw [List.length_range];omega) fun i hi n h0 h1=>by
   obtain ⟨v,g,e⟩:=um k cs pE hE n h0 (by omega) []
   refine ⟨v,n+1,g,by omega,by omega,?_⟩
   have ix:∀ a b:PV,atI [a,b] 1=some b:=fun a b=>rfl
   have dE:∀ h,ao h E=E:=fun h=>ak h pE
   simp only [EX,kn,dS,d0,ix,dE,e]
  rw [List.length_range] at g0 g3
  rw [List.map_id'] at g4
  have gl:Gx 3 (.lst ys):=.lst 2 ys (by omega) g1
  have pv:=gl.all.2.2.1.pure
  refine ⟨.lst ys,n',gl,by omega,by omega,?_⟩
  have k1:=kq [108] [110] false
  have k2:=kq [108] [98] false
  have k3:=kq [108] [108] true
  have ix:∀ a b:PV,atI [a,b] 0=some a:=fun a b=>rfl
  have bc:bel 4611686018427387904 (c:Int)=true:=bV.mpr ⟨by omega,by omega⟩
  have tc:Int.toNat (c:Int)=c:=Int.toNat_natCast c
  have lc:((List.range c).map fun i=>PV.int (0+(i:Nat))).length<16777216:=by rw [List.length_map,List.length_range];omega
  have dT:∀ h,ao h (.tup [.str [108],E])= .tup [.str [108],E]:=fun h=>rfl
  show fx (bv (F (k+2)) (L (k+2))) 4 9 [cv cs,.ref 0,.tup [.str [108],E],.bl true] [spt n 0]=_
  simp -implicitDefEqProofs only [EX,fx,bv,dS,d0,ew,e1,at0,k1,k2,k3,ix,es,bc,tc,lc,dh,Option.getD_some,g4,dT,ak _ pv]
  exact ki (v:=.lst ys) _ _ pv
end
theorem CI{v:PV}(n m:Int)(r:List PO)(p:v.pure=true):rj 1 v (spt n m::r)= .ok v [spt n m]:=by
 unfold rj
 rw [im _ p]
 show qK 1 v (spt n m::r)=_
 unfold qK
 rw [if_pos (by simp [eE,pH,Nat.ble_eq])]
 rfl
theorem IV:nmO [97]:=⟨Cj (by decide),by decide⟩
section
variable (k:Nat) (cs:List Int) (hc:cs.length≤63)
include hc
abbrev rK:PV:=.tup [.str [114],.tup [.tup [.str [97],.tup [.str [116]]]]]
theorem Jj(n:Int)(h0:0≤n)(h1:n≤900000):∃ v n',Gx 3 v∧n≤n'∧n'≤n+4∧L (k+3) .l_value [cv cs,.ref 0,rK,.bl true] [spt n 0]= .ok v [spt n' 0]:=by
 obtain ⟨w,w0,w1,ew⟩:=cH (k+1) cs hc n 0 h0 (by omega) []
 have d0:∀ i:Int,ao [spt i 0] (.ref 0)= .ref 0:=fun m=>rfl
 by_cases q:w / 11 % 23=1
 ·obtain ⟨v,g,e⟩:=lZ (k+1) cs hc n h0 (by omega) rK rfl w ew q
  exact ⟨v,n+1,g.up (by decide),by omega,by omega,e⟩
 ·have e1:decide (w / 11 % 23=1)=false:=decide_eq_false q
  obtain ⟨u,gu,eu⟩:=um k cs (E:=.tup [.str [116]]) rfl (fun n h0 h1=>AS k cs hc n h0 h1) (n+1) (by omega) (by omega) []
  have pu:=gu.all.2.2.1.pure
  have du:∀ h,ao h u=u:=fun h=>ak h pu
  have cm:gL et (iJ (F (k+2)) (L (k+2))) [some (cv cs),some (.ref 0),some (.bl true)] [.tup [.str [97],.tup [.str [116]]]] [spt (n+1) 0]= .ok [.tup [.str [97],u]] [spt (n+1+1) 0]:=by
   have e:iJ (F (k+2)) (L (k+2)) [some (.str [97]),some (.tup [.str [116]]),some (cv cs),some (.ref 0),some (.bl true)] [spt (n+1) 0]= .ok (.tup [.str [97],u]) [spt (n+1+1) 0]:=by
    simp only [EX,iJ,dS,d0,eu,du]
   simp only [EX,gL,e]
  have dc:lM [.lst [.tup [.str [97],u]]] [spt (n+1+1) 0]= .ok (.ref 1) [spt (n+1+1) 0,.dct [(.inr [97],u)]]:=rfl
  have k1:=kq [114] [110] false
  have k2:=kq [114] [98] false
  have k3:=kq [114] [108] false
  have k4:=kq [114] [114] true
  have ix:∀ a b:PV,atI [a,b] 0=some a:=fun a b=>rfl
  have iy:∀ a b:PV,atI [a,b] 1=some b:=fun a b=>rfl
  have lc:(1:Nat)<16777216:=by decide
  have dT:∀ h,ao h rK=rK:=fun h=>rfl
  by_cases z:w / 3 % 17=1
  ·have e2:decide (w / 3 % 17=1)=true:=decide_eq_true z
   have po:Eb (.ref 1) (.str [97]) [spt (n+1+1) 0,.dct [(.inr [97],u)]]= .ok u [spt (n+1+1) 0,.dct []]:=rfl
   have fz:fzR (.ref 1) [spt (n+1+1) 0,.dct []]= .ok (.dct []) [spt (n+1+1) 0,.froz (.dct [])]:=rfl
   refine ⟨.dct (kvd []),n+1+1,.rcd 2 [] (by decide) (by simp) (by simp) (by simp),by omega,by omega,?_⟩
   show fx (bv (F (k+2)) (L (k+2))) 4 9 [cv cs,.ref 0,rK,.bl true] [spt n 0]=_
   simp -implicitDefEqProofs only [EX,fx,bv,dS,d0,ew,e1,e2,at0,k1,k2,k3,k4,ix,iy,lc,dh,Option.getD_some,cm,dc,po,fz,dT]
   exact CI (v:=.dct []) _ _ _ rfl
  ·have e2:decide (w / 3 % 17=1)=false:=decide_eq_false z
   have pk:aI [((.inr [97]:PK),u)]=true:=by rw [aI,pu];rfl
   have fz:fzR (.ref 1) [spt (n+1+1) 0,.dct [(.inr [97],u)]]= .ok (.dct [(.inr [97],u)]) [spt (n+1+1) 0,.froz (.dct [(.inr [97],u)])]:=by
    unfold fzR fzP
    show (match (if aI [((.inr [97]:PK),u)]=true then _ else _:Option (PV×List PO)) with | some (q,h2)=>Res.ok q h2 | none=>.bad)=_
    rw [if_pos pk];rfl
   have gr:Gx 3 (.dct (kvd [([97],u)])):=.rcd 2 [([97],u)] (by simp) (by simp [IV]) (by simp) (by simpa using gu)
   have pv:=gr.all.2.2.1.pure
   refine ⟨.dct (kvd [([97],u)]),n+1+1,gr,by omega,by omega,?_⟩
   show fx (bv (F (k+2)) (L (k+2))) 4 9 [cv cs,.ref 0,rK,.bl true] [spt n 0]=_
   simp -implicitDefEqProofs only [EX,fx,bv,dS,d0,ew,e1,e2,at0,k1,k2,k3,k4,ix,iy,lc,dh,Option.getD_some,cm,dc,fz,dT]
   exact CI (v:=.dct [(.inr [97],u)]) _ _ _ pv
end
def yD:List PV:= [.tup [.str [116]],.tup [.str [119]],.tup [.str [110]],.tup [.str [98]],.tup [.str [108],.tup [.str [116]]],.tup [.str [108],.tup [.str [110]]],rK,.tup [.str [108],.tup [.str [119]]]]
section
variable (k:Nat) (cs:List Int) (hc:cs.length≤63)
include hc
theorem Dw{K:PV}(hK:K∈yD)(n:Int)(h0:0≤n)(h1:n≤900000):K.pure=true∧∃ v n',Gx 3 v∧n≤n'∧n'≤n+4∧L (k+3) .l_value [cv cs,.ref 0,K,.bl true] [spt n 0]= .ok v [spt n' 0]:=by
 have up:(∃ v,Gx 2 v∧L (k+3) .l_value [cv cs,.ref 0,K,.bl true] [spt n 0]= .ok v [spt (n+1) 0])→∃ v n',Gx 3 v∧n≤n'∧n'≤n+4∧L (k+3) .l_value [cv cs,.ref 0,K,.bl true] [spt n 0]= .ok v [spt n' 0]:=fun ⟨v,g,e⟩=>⟨v,n+1,g.up (by decide),by omega,by omega,e⟩
 unfold yD at hK
 simp only [List.mem_cons,List.not_mem_nil,or_false] at hK
 rcases hK with rfl | rfl | rfl | rfl | rfl | rfl | rfl | rfl
 ·exact ⟨rfl,up (AS (k+1) cs hc n h0 (by omega))⟩
 ·exact ⟨rfl,up (FP (k+1) cs hc n h0 (by omega))⟩
 ·exact ⟨rfl,up (FQ (k+1) cs hc n h0 (by omega))⟩
 ·exact ⟨rfl,up (Jk (k+1) cs hc n h0 (by omega))⟩
 ·exact ⟨rfl,AT k cs hc _ rfl (fun n h0 h1=>AS k cs hc n h0 h1) n h0 h1⟩
 ·exact ⟨rfl,AT k cs hc _ rfl (fun n h0 h1=>FQ k cs hc n h0 h1) n h0 h1⟩
 ·exact ⟨rfl,Jj k cs hc n h0 h1⟩
 ·exact ⟨rfl,AT k cs hc _ rfl (fun n h0 h1=>FP k cs hc n h0 h1) n h0 h1⟩
theorem AW(n:Int)(h0:0≤n)(h1:n≤800000):∃ v n',Gx 3 v∧n≤n'∧n'≤n+5∧L (k+4) .l_thing [cv cs,.ref 0] [spt n 0]= .ok v [spt n' 0]:=by
 obtain ⟨w,w0,w1,ew⟩:=cH (k+2) cs hc n 0 h0 (by omega) []
 have d0:∀ i:Int,ao [spt i 0] (.ref 0)= .ref 0:=fun m=>rfl
 obtain ⟨K,hK,eK⟩:=qZ (xs:=yD) (m:=w / 3) (n:=8) rfl (by decide)
 obtain ⟨pK,v,n',g,g2,g3,e⟩:=Dw k cs hc hK (n+1) (by omega) (by omega)
 have pv:=g.all.2.2.1.pure
 have dK:∀ h,ao h K=K:=fun h=>ak h pK
 have ec:callL (L (k+3) .l_value) [cv cs,.ref 0,K,.bl true] [spt (n+1) 0]= .ok v [spt n' 0]:=kI (l1:= [cv cs]) (l2:= [K,.bl true]) (i:=0) (by rw [ai,mU];rfl) (by rw [ai,pK];rfl) rfl rfl e pv rfl
 refine ⟨v,n',g,by omega,by omega,?_⟩
 unfold yD at eK
 show fx (kJ (F (k+3)) (L (k+3))) 2 3 [cv cs,.ref 0] [spt n 0]=_
 simp -implicitDefEqProofs only [EX,fx,kJ,dS,d0,ew,eK,dK,ec,ak _ pv]
 exact ki (v:=v) _ _ pv
theorem wn(n:Int)(h0:0≤n)(h1:n≤800000)(tl:List PO):∃ v n',Gx 3 v∧n≤n'∧n'≤n+5∧callL (L (k+4) .l_thing) [cv cs,.ref 0] (spt n 0::tl)= .ok v (spt n' 0::tl):=by
 obtain ⟨v,n',g,g2,g3,e⟩:=AW k cs hc n h0 h1
 exact ⟨v,n',g,g2,g3,kI (l1:= [cv cs]) (l2:= []) (i:=0) (by rw [ai,mU];rfl) rfl rfl rfl e g.all.2.2.1.pure rfl⟩
end
section
variable {h:List PO} {ρ:Ev}
theorem IN(l:List (PK×PV)):ao (h++ [.dct l]) (.ref h.length)= .ref h.length:=by
 have:(h++ [PO.dct l])[h.length]? =some (.dct l):=by simp
 rw [ao,this]
theorem Cd(l:List (PK×PV)):jH (h++ [.dct l]) (.ref h.length)=some (h.length,l):=by
 have:(h++ [PO.dct l])[h.length]? =some (.dct l):=by simp
 rw [jH,this]
theorem FU(l:List (PK×PV))(hl:l.length<2)(v:PV)(w:List Nat):pP v (.ref h.length) (.str w) ρ (h++ [.dct l])= .nx ρ (h++ [.dct (cg l (.inr w) v)]):=by
 rw [pP,Cd]
 show (if l.length<16777216 then SR.nx ρ ((h++ [PO.dct l]).set h.length (.dct (cg l (.inr w) v))) else _)=_
 rw [if_pos (by omega),List.set_append_right _ _ (Nat.le_refl _),Nat.sub_self]
 rfl
theorem LR(l:List (PK×PV))(hp:aI l=true):fzR (.ref h.length) (h++ [.dct l])= .ok (.dct l) (h++ [.froz (.dct l)]):=by
 rw [fzR,fzP,Cd]
 dsimp only
 rw [if_pos hp,List.set_append_right _ _ (Nat.le_refl _),Nat.sub_self]
 rfl
end
theorem Gp{fa fb:Ex}{ρ:Ev}{h h1 h2:List PO}{x:List Nat}{y:PV}(e1:fa ρ h= .ok (.str x) h1)(e2:fb ρ h1= .ok y h2):eZ [(fa,fb)] ρ h= .ok (.dct [(.inr x,y)]) h2:=by
 unfold eZ
 simp only [kr,e1,e2,Res.bind_ok,jZ]
 rfl
theorem Gx.pure{d:Nat}{v:PV}(g:Gx d v):v.pure=true:=g.all.2.2.1.pure
def ntu(ms:List (List Nat)):PV:=.tup (ms.map PV.str)
def Lm(T:PV)(ls fs:List (List Nat))(n i:Int)(m d:Nat)(r:SR):Prop:=∃ v' h',Gx (d+1) v'∧r= .nx [some T,some (ntu fs),some (mnu ls),some (.int n),some v',some (.int i),some (.ref m)] h'
section
variable (k:Nat) (ls fs:List (List Nat)) (hl:ls.length=12) (hn:∀ x∈ls,nmO x) (hf:∀ x∈fs,x∈ls∧x≠ls.getD 8 []) (n:Int)
include hl hn hf
theorem Du(T:PV)(i:Int)(i0:0≤i)(i1:i<(fs.length:Int))(i2:(fs.length:Int)≤3)(d:Nat)(hd:2≤d)(v:PV)(g:Gx d v)(z6:Option PV)(h:List PO):
  Lm T ls fs n i h.length d (gQ (F k) [some T,some (ntu fs),some (mnu ls),some (.int n),some v,some (.int i),z6] h):=by
 have pv:=g.pure
 have dv:∀ h,ao h v=v:=fun h=>ak h pv
 have df:∀ h,ao h (ntu fs)=ntu fs:=fun h=>rfl
 have ln:∀ h,fy [ntu fs] h= .ok (.int fs.length) h:=fun h=>by unfold ntu;rw [yC,List.length_map]
 have mf:fs.getD i.toNat []∈fs:=fA (by omega)
 generalize hw:fs.getD i.toNat []=w at mf
 have nw:=hn w (hf w mf).1
 have ixf:∀ h,pIx (ntu fs) (.int i) h= .ok (.str w) h:=fun h=>by
  unfold ntu
  rw [Kr,gM (v:=PV.str w) i0 (by rw [List.getElem?_map,← hw,List.getD_eq_getElem?_getD,List.getElem?_eq_getElem (by omega)];rfl)]
  rfl
 have m8:ls.getD 8 []∈ls:=fA (by omega)
 have ne8:=(hf w mf).2
 have n8:=hn _ m8
 have ix8:∀ h,pIx (mnu ls) (.int 8) h= .ok (.str (ls.getD 8 [])) h:=fun h=>Av (i:=8) (by decide) (by omega) h
 generalize ls.getD 8 []=e8 at ix8 ne8 n8
 have p5:decide (0<i+5∧i+5<1073741824)=true:=decide_eq_true (by omega)
 have pL:decide (0<(fs.length:Int))=true:=decide_eq_true (by omega)
 unfold gQ
 refine bX [some T,some (ntu fs),some (mnu ls),some (.int n),some v,some (.int i),some (.ref h.length)] (h++ [.dct []]) (by simp only [EX,if_true]) ?_
 refine FV (fun _=> [some T,some (ntu fs),some (mnu ls),some (.int n),some v,some (.int i),some (.ref h.length)]) (fun l=>h++ [.dct (kvd l)]) (fun l:List Kv=>l.length≤1∧∀ p∈l,nmO p.1∧p.1≠w∧Gx d p.2) ?_ fun l hl=>?_
 ·by_cases q:n / (i+5) % 3=1
  ·refine ⟨[(e8,.int 5)],⟨by simp,by simpa using ⟨n8,fun e=>ne8 e.symm,(Gx.int 0 5 (by decide) (by decide)).up (by omega)⟩⟩,?_⟩
   simp only [EX,p5,decide_eq_true q,gp,ix8,IN,FU [] (by decide)]
   rfl
  ·refine ⟨[],⟨by simp,by simp⟩,?_⟩
   simp only [EX,p5,decide_eq_false q]
   rfl
 obtain ⟨l1,lg⟩:=hl
 have ep:cg (kvd l) (.inr w) v=kvd (l++ [(w,v)]):=by
  unfold cg
  rw [if_neg]
  ·simp [kvd]
  ·simp only [kvd,List.any_map,List.any_eq_true,Function.comp,decide_eq_true_eq,not_exists,not_and]
   exact fun p hp e=>(lg p hp).2.1 (by injection e)
 have gr:Gx (d+1) (.dct (kvd (l++ [(w,v)]))):=by
  refine .rcd d _ (by simp;omega) (fun p hp=>?_) ?_ fun p hp=>?_
  ·rcases List.mem_append.mp hp with q | q
   ·exact (lg p q).1
   ·rw [List.mem_singleton.mp q];exact nw
  ·match l,l1,lg with
   | [],_,_=>simp
   | [a],_,lg=>simpa using (lg a (by simp)).2.1
  ·rcases List.mem_append.mp hp with q | q
   ·exact (lg p q).2.2
   ·rw [List.mem_singleton.mp q];exact g
 refine bX [some T,some (ntu fs),some (mnu ls),some (.int n),some v,some (.int i),some (.ref h.length)] (h++ [.dct (kvd (l++ [(w,v)]))]) (by
  have z:(kvd l).length<2:=by unfold kvd;rw [List.length_map];omega
  simp only [EX,df,ixf,dv,IN,FU _ z,ep]) ?_
 have pr:=gr.pure
 generalize kvd (l++ [(w,v)])=R at gr pr
 refine bX [some T,some (ntu fs),some (mnu ls),some (.int n),some (.dct R),some (.int i),some (.ref h.length)] (h++ [.froz (.dct R)]) (by
  have z:aI R=true:=by rwa [PV.pure] at pr
  simp only [EX,IN,LR R z]) ?_
 by_cases q:n / 100 % 9=1
 ·by_cases q2:n / 900 % (fs.length:Int)=i
  ·have dd:eZ [((c2 pIx (af 1) (af 5)),(cK (.int 5)))] [some T,some (ntu fs),some (mnu ls),some (.int n),some (.dct R),some (.int i),some (.ref h.length)] (h++ [.froz (.dct R)])= .ok (.dct [(.inr w,.int 5)]) (h++ [.froz (.dct R)]):=Gp (by simp only [EX,df,ixf]) rfl
   obtain ⟨a,ha,ea⟩:=qZ (xs:= [.lst [.dct [(.inr w,.int 5)]],.str [116,101,120,116],.int 7,.bl true]) (m:=n / 2700) (n:=4) rfl (by decide)
   have ga:Gx (d+1) a:=by
    simp only [List.mem_cons,List.not_mem_nil,or_false] at ha
    rcases ha with rfl | rfl | rfl | rfl
    ·refine .lst d _ (by simp) fun x hx=>?_
     rw [List.mem_singleton.mp hx]
     exact (Gx.rcd 1 [(w,.int 5)] (by simp) (by simpa using nw) (by simp) (by simpa using Gx.int 0 5 (by decide) (by decide))).up (by omega)
    ·exact .str d _ (by decide) (by decide+kernel)
    ·exact .int d 7 (by decide) (by decide)
    ·exact .bl d true
   refine ⟨a,h++ [.froz (.dct R)],ga,?_⟩
   simp only [EX,pL,decide_eq_true q,decide_eq_true q2,df,ln,dd,ea,ak _ ga.pure]
  ·refine ⟨.dct R,h++ [.froz (.dct R)],gr,?_⟩
   simp only [EX,pL,decide_eq_true q,decide_eq_false q2,df,ln]
 ·refine ⟨.dct R,h++ [.froz (.dct R)],gr,?_⟩
  simp only [EX,decide_eq_false q]
end
section
variable (k:Nat) (ls fs:List (List Nat)) (hl:ls.length=12) (hn:∀ x∈ls,nmO x) (hf:∀ x∈fs,x∈ls∧x≠ls.getD 8 []) (n:Int) (i2:(fs.length:Int)≤3)
include hl hn hf i2
theorem xY(T:PV):∀ (js:List Int),(∀ j∈js,0≤j∧j<(fs.length:Int))→∀ (d:Nat) (v:PV) (z5 z6:Option PV) (h:List PO),2≤d→Gx d v→∃ v' z5' z6' h',Gx (d+js.length) v'∧
  bh (gNm 5) (gQ (F k)) (js.map PV.int) [some T,some (ntu fs),some (mnu ls),some (.int n),some v,z5,z6] h= .nx [some T,some (ntu fs),some (mnu ls),some (.int n),some v',z5',z6'] h'
 | [],_,d,v,z5,z6,h,_,g=>⟨v,z5,z6,h,g,rfl⟩
 | j::r,hj,d,v,z5,z6,h,hd,g=>by
  obtain ⟨j0,j1⟩:=hj j List.mem_cons_self
  obtain ⟨v1,h1,g1,e1⟩:=Du k ls fs hl hn hf n T j j0 j1 i2 d hd v g z6 h
  obtain ⟨v',z5',z6',h',g',e'⟩:=xY T r (fun j q=>hj j (List.mem_cons_of_mem _ q)) (d+1) v1 (some (.int j)) (some (.ref h.length)) h1 (by omega) g1
  exact ⟨v',z5',z6',h',by rw [List.length_cons,show d+(r.length+1)=d+1+r.length by omega];exact g',(eS rfl e1).trans e'⟩
theorem zu(T:PV)(g:Gx 3 T):∃ v,Gx 6 v∧F (k+1) .l_within [T,ntu fs,mnu ls,.int n]= .ok v:=by
 have js:(List.range fs.length).map (fun (i:Nat)=>PV.int ((fs.length:Int) - 1 - (i:Int)))=((List.range fs.length).map fun (i:Nat)=>(fs.length:Int) - 1 - (i:Int)).map PV.int:=by rw [List.map_map];rfl
 obtain ⟨v,z5,z6,h',g',e⟩:=xY k ls fs hl hn hf n i2 T ((List.range fs.length).map fun (i:Nat)=>(fs.length:Int) - 1 - (i:Int)) (fun j hj=>by
  obtain ⟨i,hi,rfl⟩:=List.mem_map.mp hj
  have:=List.mem_range.mp hi
  omega) 3 T none none [] (by omega) g
 rw [← js] at e
 rw [List.length_map,List.length_range] at g'
 have gv:Gx 6 v:=g'.up (by omega)
 refine ⟨v,gv,?_⟩
 have dT:∀ h,ao h T=T:=fun h=>ak h g.pure
 have dv:∀ h,ao h v=v:=fun h=>ak h gv.pure
 have df:∀ h,ao h (ntu fs)=ntu fs:=fun h=>rfl
 have ln:∀ h,fy [ntu fs] h= .ok (.int fs.length) h:=fun h=>by unfold ntu;rw [yC,List.length_map]
 have rv:∀ {f:Ax} {ρ:Ev} {h:List PO},f ρ h= .ok [.int fs.length] h→wf f ρ h= .ok ((List.range fs.length).map fun (i:Nat)=>PV.int ((fs.length:Int) - 1 - (i:Int))) h:=fun {f ρ h} e=>by
  unfold wf
  rw [e]
  show (if 0≤(fs.length:Int)∧bel 4611686018427387904 (fs.length:Int)=true then Res.ok ((List.range (fs.length:Int).toNat).map fun (i:Nat)=>PV.int ((fs.length:Int) - 1 - (i:Int))) h else .bad)=_
  rw [if_pos ⟨by omega,bV.mpr ⟨by omega,by omega⟩⟩,Int.toNat_natCast]
 have ra:wf (aa (cN fy (aa (af 1) aj)) aj) [some T,some (ntu fs),some (mnu ls),some (.int n),some T,none,none] []= .ok ((List.range fs.length).map fun (i:Nat)=>PV.int ((fs.length:Int) - 1 - (i:Int))) []:=rv (by simp only [EX,df,ln])
 have fin:br v h'= .ok v:=by unfold br;rw [im _ gv.pure]
 show ar (jC (F k)) 4 7 [T,ntu fs,mnu ls,.int n]=_
 simp only [EX,ar,jC,dT,ra,e,dv,fin]
end
theorem CU{α:Type}(l:List α)(b:Nat)(hb:b≤l.length):cut l (some (b:Int)) none=l.drop b:=by
 unfold cut
 rw [HT.sIx_nat,HT.sIx_none,Nat.min_eq_left hb]
 exact List.take_of_length_le (by rw [List.length_drop];omega)
theorem sY(xs:List PV)(lo hi:Option Int)(h:List PO):kS (.tup xs) lo hi h= .ok (.tup (cut xs lo hi)) h:=by
 unfold kS
 dsimp only
 split
 ·rename_i hz
  unfold cut
  rw [hz.1,hz.2]
  simp
 ·rfl
theorem ui(a b:List (List Nat))(hl:a.length+b.length≤100)(h:List PO):aO (ntu a) (ntu b) h= .ok (ntu (a++b)) h:=by
 cases a with
 | nil=>rfl
 | cons x r=>
  show BN (.tup ((x::r).map PV.str)) (.tup (b.map PV.str)) h=_
  rw [Dg,if_pos ⟨rfl,by rw [List.length_map,List.length_map];show _≤16777216;omega⟩,← List.map_append]
  rfl
theorem vj:∀ {l:List (List Nat)},(∀ x∈l,∀ c∈x,c<1114112)→PyData.canLayAll0 (iV (l.map PV.str))=true∧PyData.depthAll (iV (l.map PV.str))≤1
 | [],_=>⟨by simp [iV,PyData.canLayAll0],by simp [iV,PyData.depthAll]⟩
 | a::r,h=>by
  obtain ⟨i1,i2⟩:=vj fun x q=>h x (List.mem_cons_of_mem _ q)
  refine ⟨?_,?_⟩
  ·simp only [List.map_cons,iV,toD,PyData.canLayAll0,PyData.canLay0,i1,Bool.and_true]
   simp [PyData.strOk,S]
   exact h a List.mem_cons_self
  ·simp only [List.map_cons,iV,toD,PyData.depthAll,PyData.depth]
   exact Nat.max_le.mpr ⟨by omega,i2⟩
theorem JM(fs:List (List Nat))(hf:∀ x∈fs,nmO x)(h:List PO):pNe (ntu fs) (.tup []) h= .ok (.bl (!fs.isEmpty)) h:=by
 have z:=vj (l:=fs) fun x hx=>rW (hf x hx).1
 have ok:L3.okD h (ntu fs)=true:=by
  unfold L3.okD dOf ntu
  simp only [toD,PyData.canLay0,PyData.depth,z.1,Bool.true_and,decide_eq_true_eq]
  omega
 unfold pNe
 rw [if_pos ⟨ok,rfl⟩]
 cases fs<;>rfl
def oZ:List PV:= [.str [119,111,114,100],.str [110,117,109,98,101,114],.str [113,117,111,116,101,100],.str [112,108,97,105,110],.str [108,105,110,101]]
inductive Nq(ls:List (List Nat))(e:List Nat):PV→Prop
 | place (fs:List (List Nat)) (hl:fs.length≤3) (hf:∀ x∈fs,x∈ls) (w:PV) (hw:w∈oZ):Nq ls e (.tup [.str [112,108,97,99,101],ntu (e::fs),w])
 | loop (fs:List (List Nat)) (hl:fs.length≤3) (hf:∀ x∈fs,x∈ls) (w:PV) (hw:w∈oZ) (x:List Nat) (hx:x∈ls) (bt:List Nat) (hb:bt= []∨bt= [44,32]):Nq ls e (.tup [.str [108,111,111,112],.str x,ntu (e::fs),.tup [.tup [.str [112,108,97,99,101],.tup [.str x],w],.tup [.str [116,101,120,116],.str [59]]],.str bt])
 | choice (fs:List (List Nat)) (hl:fs.length≤3) (hf:∀ x∈fs,x∈ls) (no:PV) (hb:no= .tup [.tup [.str [116,101,120,116],.str [110,111]]]∨no= .tup []):Nq ls e (.tup [.str [99,104,111,105,99,101],ntu (e::fs),.tup [.tup [.str [116,101,120,116],.str [121,101,115]]],no])
theorem Js{α:Type}{a b:Sx}{ρ:Ev}{h:List PO}{Q:SR→Prop}(f:α→Ev)(R:α→Prop)(e:∃ x,R x∧a ρ h= .nx (f x) h)(k:∀ x,R x→Q (b (f x) h)):Q (aA a b ρ h):=FV f (fun _=>h) R e k
def Ly(ls:List (List Nat))(e:List Nat)(r:SR):Prop:=∃ N,Nq ls e N∧N.pure=true∧r= .rt N []
section
variable (k:Nat) (ls fs:List (List Nat)) (hl:ls.length=12) (hn:∀ x∈ls,nmO x) (hf:∀ x∈fs,x∈ls) (i2:fs.length≤3) (n:Int)
include hl hn hf i2
theorem BU:Ly ls (ls.getD 11 []) (kt (F k) [some (mnu ls),some (ntu fs),some (.int n),none,none,none,none,none] []):=by
 have df:∀ (fs:List (List Nat)) h,ao h (ntu fs)=ntu fs:=fun _ h=>rfl
 have ln:∀ (fs:List (List Nat)) h,fy [ntu fs] h= .ok (.int fs.length) h:=fun fs h=>by unfold ntu;rw [yC,List.length_map]
 have tn:∀ x:List Nat,PV.tup [.str x]=ntu [x]:=fun x=>rfl
 have ix:∀ (i:Int) h,0≤i→i<12→pIx (mnu ls) (.int i) h= .ok (.str (ls.getD i.toNat [])) h:=fun i h h0 h1=>Av h0 (by omega) h
 have mem:∀ i:Nat,i<12→ls.getD i []∈ls:=fun i hi=>fA (by omega)
 have ix9:∀ h,pIx (mnu ls) (.int 9) h= .ok (.str (ls.getD 9 [])) h:=fun h=>ix 9 h (by decide) (by decide)
 have ix11:∀ h,pIx (mnu ls) (.int 11) h= .ok (.str (ls.getD 11 [])) h:=fun h=>ix 11 h (by decide) (by decide)
 obtain ⟨r0,r1⟩:=gx (n / 9) (by decide:(0:Int)<12)
 have ixr:∀ h,pIx (mnu ls) (.int (n / 9 % 12)) h= .ok (.str (ls.getD (n / 9 % 12).toNat [])) h:=fun h=>ix _ h r0 r1
 have mr:=mem (n / 9 % 12).toNat (by omega)
 have nn:=JM fs (fun x hx=>hn x (hf x hx))
 unfold kt
 refine Js (fun p:List (List Nat)×Option PV=> [some (mnu ls),some (ntu p.1),some (.int n),p.2,none,none,none,none]) (fun p=>p.1.length≤3∧∀ x∈p.1,x∈ls) ?_ fun p hp=>?_
 ·by_cases q:n % 9=1
  ·cases fs with
   | nil=>
    refine ⟨([],none),⟨by simp,by simp⟩,?_⟩
    simp only [EX,decide_eq_true q,df,nn,List.isEmpty_nil]
   | cons a r=>
    have pL:decide (0<(((a::r).length:Nat):Int))=true:=decide_eq_true (by rw [List.length_cons];omega)
    obtain ⟨j,hj,ej⟩:∃ j:Nat,j<(a::r).length∧n / 9 % (((a::r).length:Nat):Int)=(j:Int):=by
     obtain ⟨u0,u1⟩:=gx (n / 9) (show (0:Int)<(((a::r).length:Nat):Int) by rw [List.length_cons];omega)
     exact ⟨(n / 9 % (((a::r).length:Nat):Int)).toNat,by omega,by omega⟩
    have s1:∀ h,kS (ntu (a::r)) none (some (j:Int)) h= .ok (ntu ((a::r).take j)) h:=fun h=>by unfold ntu;rw [sY,ua,List.map_take]
    have s2:∀ h,kS (ntu (a::r)) (some ((j:Int)+1)) none h= .ok (ntu ((a::r).drop (j+1))) h:=fun h=>by
     unfold ntu
     rw [sY,show (j:Int)+1=((j+1:Nat):Int) by omega,CU _ _ (by rw [List.length_map];omega),List.map_drop]
    have lt:((a::r).take j).length≤3:=by rw [List.length_take];omega
    have ld:((a::r).drop (j+1)).length≤3:=by rw [List.length_drop];omega
    have la:((a::r).take j).length+1+((a::r).drop (j+1)).length≤3:=by rw [List.length_take,List.length_drop];omega
    have a1:=fun h=>ui ((a::r).take j) [ls.getD 9 []] (by simp only [List.length_cons,List.length_nil];omega) h
    have a2:=fun h=>ui ((a::r).take j++ [ls.getD 9 []]) ((a::r).drop (j+1)) (by rw [List.length_append];simp only [List.length_cons,List.length_nil] at *;omega) h
    refine ⟨((a::r).take j++ [ls.getD 9 []]++(a::r).drop (j+1),some (.int j)),⟨by rw [List.length_append,List.length_append];exact la,fun x hx=>?_⟩,?_⟩
    ·rcases List.mem_append.mp hx with q | q
     ·rcases List.mem_append.mp q with q | q
      ·exact hf x (List.mem_of_mem_take q)
      ·rw [List.mem_singleton.mp q];exact mem 9 (by decide)
     ·exact hf x (List.mem_of_mem_drop q)
    ·generalize hL:a::r=L at *
     have ne:(!L.isEmpty)=true:=by rw [← hL];rfl
     simp only [EX,decide_eq_true q,df,nn,ne,ln,pL,ej,s1,s2,gp,ix9,tn,a1,a2]
  ·refine ⟨(fs,none),⟨i2,hf⟩,?_⟩
   simp only [EX,decide_eq_false q]
 obtain ⟨gs,z3⟩:=p
 obtain ⟨g3,gm⟩:=hp
 refine Js (fun hs:List (List Nat)=> [some (mnu ls),some (ntu hs),some (.int n),z3,none,none,none,none]) (fun hs=>hs.length≤3∧∀ x∈hs,x∈ls) ?_ fun hs hp=>?_
 ·by_cases q:n % 9=2
  ·by_cases q2:(gs.length:Int)<3
   ·have a1:=fun h=>ui gs [ls.getD (n / 9 % 12).toNat []] (by simp only [List.length_cons,List.length_nil];omega) h
    refine ⟨gs++ [ls.getD (n / 9 % 12).toNat []],⟨by rw [List.length_append];simp only [List.length_cons,List.length_nil];omega,fun x hx=>?_⟩,?_⟩
    ·rcases List.mem_append.mp hx with q | q
     ·exact gm x q
     ·rw [List.mem_singleton.mp q];exact mr
    ·simp only [EX,decide_eq_true q,decide_eq_true q2,df,ln,pLt,gp,ixr,tn,a1]
   ·refine ⟨gs,⟨g3,gm⟩,?_⟩
    simp only [EX,decide_eq_true q,decide_eq_false q2,df,ln,pLt]
  ·refine ⟨gs,⟨g3,gm⟩,?_⟩
   simp only [EX,decide_eq_false q]
 obtain ⟨h3,hm⟩:=hp
 obtain ⟨w,hw,ew⟩:=qZ (xs:=oZ) (m:=n / 108) (n:=5) rfl (by decide)
 have pw:w.pure=true:=by
  unfold oZ at hw
  simp only [List.mem_cons,List.not_mem_nil,or_false] at hw
  rcases hw with rfl | rfl | rfl | rfl | rfl<;>rfl
 have dw:∀ h,ao h w=w:=fun h=>ak h pw
 have ew':=ew
 unfold oZ at ew'
 have a1:=fun h=>ui [ls.getD 11 []] hs (by simp only [List.length_cons,List.length_nil];omega) h
 have pt:(ntu (ls.getD 11 []::hs)).pure=true:=by unfold ntu;rw [PV.pure];exact bM _
 have e4:∀ h,aO (ntu [ls.getD 11 []]) (ntu hs) h= .ok (ntu (ls.getD 11 []::hs)) h:=a1
 generalize hE:ls.getD 11 []=E at *
 by_cases q0:n / 540 % 3=0
 ·refine ⟨_,.place hs h3 hm w hw,by simp only [PV.pure,ai,pt,pw,Bool.and_self],?_⟩
  simp only [EX,df,gp,ix11,tn,e4,ew',dw,decide_eq_true q0]
 ·by_cases q1:n / 540 % 3=1
  ·obtain ⟨b,hb,eb⟩:=qZ (xs:= [.str [],.str [44,32]]) (m:=n) (n:=2) rfl (by decide)
   obtain ⟨bt,rfl,hb2⟩:∃ bt:List Nat,b= .str bt∧(bt= []∨bt= [44,32]):=by
    simp only [List.mem_cons,List.not_mem_nil,or_false] at hb
    rcases hb with rfl | rfl
    ·exact ⟨_,rfl,.inl rfl⟩
    ·exact ⟨_,rfl,.inr rfl⟩
   refine ⟨_,.loop hs h3 hm w hw _ mr bt hb2,by simp only [PV.pure,ai,pt,pw,Bool.and_self],?_⟩
   simp only [EX,df,gp,ix11,tn,e4,ew',dw,decide_eq_false q0,decide_eq_true q1,ixr,eb]
  ·obtain ⟨b,hb,eb⟩:=qZ (xs:= [.tup [.tup [.str [116,101,120,116],.str [110,111]]],.tup []]) (m:=n / 9) (n:=2) rfl (by decide)
   simp only [List.mem_cons,List.not_mem_nil,or_false] at hb
   have pb:b.pure=true:=by rcases hb with rfl | rfl<;>rfl
   refine ⟨_,.choice hs h3 hm b hb,by simp only [PV.pure,ai,pt,pb,Bool.and_self],?_⟩
   simp only [EX,df,gp,ix11,tn,e4,ew',dw,decide_eq_false q0,decide_eq_false q1,eb,ak _ pb]
theorem Eu:∃ N,Nq ls (ls.getD 11 []) N∧N.pure=true∧F (k+1) .l_node [mnu ls,ntu fs,.int n]= .ok N:=by
 obtain ⟨N,q,p,e⟩:=BU k ls fs hl hn hf i2 n
 refine ⟨N,q,p,?_⟩
 have r:F (k+1) .l_node [mnu ls,ntu fs,.int n]=match kt (F k) [some (mnu ls),some (ntu fs),some (.int n),none,none,none,none,none] [] with
   | .nx _ _=>.ok .non
   | .rt v h=>br v h
   | _=>.bad:=rfl
 rw [r,e]
 show br N []=_
 unfold br
 rw [im _ p]
end
def cR:PV→List (List Nat)→Option PV
 | v,[]=>some v
 | .dct l,f::r=>match bJ l (.inr f) with
  | some u=>cR u r
  | none=>none
 | _,_::_=>none
theorem ph(l:List Kv)(f:List Nat):(∃ u,bJ (kvd l) (.inr f)=some u∧(f,u)∈l∧f∈l.map (·.1))∨(bJ (kvd l) (.inr f)=none∧f∉l.map (·.1)):=by
 induction l with
 | nil=>exact .inr ⟨rfl,by simp⟩
 | cons p r ih=>
  by_cases q:p.1=f
  ·refine .inl ⟨p.2,?_,by rw [← q];exact List.mem_cons_self,by rw [List.map_cons,q];exact List.mem_cons_self⟩
   simp [bJ,kvd,q]
  ·have e:bJ (kvd (p::r)) (.inr f)=bJ (kvd r) (.inr f):=by simp [bJ,kvd,q]
   rw [e]
   rcases ih with ⟨u,a,b,c⟩ | ⟨a,b⟩
   ·exact .inl ⟨u,a,List.mem_cons_of_mem _ b,by rw [List.map_cons];exact List.mem_cons_of_mem _ c⟩
   ·exact .inr ⟨a,by rw [List.map_cons,List.mem_cons,not_or];exact ⟨fun z=>q z.symm,b⟩⟩
theorem fY:∀ (fs:List (List Nat)) {d:Nat} {v u:PV},Gx d v→cR v fs=some u→Gx d u
 | [],d,v,u,g,e=>by rw [cR] at e;injection e with e;subst e;exact g
 | f::r,d,v,u,g,e=>by
  cases g with
  | rcd d l h hn nd hx=>
   rw [cR] at e
   rcases ph l f with ⟨w,a,b,c⟩ | ⟨a,b⟩
   ·rw [a] at e
    exact (fY r (hx _ b) e).up (by omega)
   ·rw [a] at e;cases e
  | int d i h1 h2=>simp [cR] at e
  | bl d b=>simp [cR] at e
  | str d l h hs=>simp [cR] at e
  | lst d xs h hx=>simp [cR] at e
theorem qB(k:Nat)(a b:PV)(h:List PO):∀ (fs:List (List Nat)) {d:Nat} {v:PV},Gx d v→∀ z3:Option PV,
  match cR v fs with
  | some u=>∃ z,bh (gNm 3) (cX (F k)) (fs.map PV.str) [some a,some b,some v,z3] h= .nx [some a,some b,some u,z] h
  | none=>bh (gNm 3) (cX (F k)) (fs.map PV.str) [some a,some b,some v,z3] h= .rt (.tup []) h
 | [],d,v,g,z3=>by rw [cR];exact ⟨z3,rfl⟩
 | f::r,d,v,g,z3=>by
  have dv:∀ h,ao h v=v:=fun h=>ak h g.pure
  have gn:gNm 3 (.str f) [some a,some b,some v,z3]=some [some a,some b,some v,some (.str f)]:=rfl
  cases g with
  | rcd d l hl hn nd hx=>
   rw [cR]
   rcases ph l f with ⟨w,e,m,c⟩ | ⟨e,m⟩
   ·rw [e]
    have gw:=hx _ m
    have dw:∀ h,ao h w=w:=fun h=>ak h gw.pure
    have st:cX (F k) [some a,some b,some (.dct (kvd l)),some (.str f)] h= .nx [some a,some b,some w,some (.str f)] h:=by
     simp only [EX,cX,dv,e,dw]
    have ih:=qB k a b h r gw (some (.str f))
    dsimp only
    rw [List.map_cons,eS gn st]
    exact ih
   ·rw [e]
    dsimp only
    have st:cX (F k) [some a,some b,some (.dct (kvd l)),some (.str f)] h= .rt (.tup []) h:=by
     simp only [EX,cX,dv,e]
    rw [List.map_cons,bh,gn]
    dsimp only
    rw [st]
  | int d i h1 h2=>rw [cR,List.map_cons,bh,gn];simp only [EX,cX];all_goals simp
  | bl d b=>rw [cR,List.map_cons,bh,gn];simp only [EX,cX];all_goals simp
  | str d l h hs=>rw [cR,List.map_cons,bh,gn];simp only [EX,cX];all_goals simp
  | lst d xs h hx=>rw [cR,List.map_cons,bh,gn];simp only [EX,cX];all_goals simp
theorem jg(fs:List (List Nat)){d:Nat}{v:PV}(g:Gx d v):Fo v (fs.map PV.str) (cR v fs):=fun k=>by
 have dv:∀ h,ao h v=v:=fun h=>ak h g.pure
 have df:∀ h,ao h (.tup (fs.map PV.str))= .tup (fs.map PV.str):=fun h=>rfl
 have lp:=qB k v (.tup (fs.map PV.str)) [] fs g none
 show ar (jE (F k)) 2 4 [v,.tup (fs.map PV.str)]=_
 generalize hJ:fs.map PV.str=J at *
 cases e:cR v fs with
 | none=>
  rw [e] at lp
  dsimp only at lp
  simp only [EX,ar,jE,dv,lp]
  rfl
 | some u=>
  rw [e] at lp
  obtain ⟨z,lp⟩:=lp
  have pu:=(fY fs g e).pure
  simp only [EX,ar,jE,dv,lp,ak _ pu]
  exact fm _ (by simp [PV.pure,ai,pu])
theorem Ct(l:List Kv):(kvd l).map (fun p=>gN p.1)=(l.map (·.1)).map PV.str:=by
 unfold kvd;rw [List.map_map,List.map_map];rfl
theorem vi(k:Nat)(b:PV)(h:List PO):∀ (fs:List (List Nat)) {d:Nat} {v:PV},(∀ x∈fs,nmO x)→Gx d v→∀ z2:Option PV,
  match cR v fs with
  | some u=>∃ z,bh (gNm 2) (cW (F k)) (fs.map PV.str) [some v,some b,z2] h= .nx [some u,some b,z] h
  | none=>bh (gNm 2) (cW (F k)) (fs.map PV.str) [some v,some b,z2] h= .rt (.lst []) h
 | [],d,v,_,g,z2=>by rw [cR];exact ⟨z2,rfl⟩
 | f::r,d,v,hf,g,z2=>by
  have dv:∀ h,ao h v=v:=fun h=>ak h g.pure
  have gn:gNm 2 (.str f) [some v,some b,z2]=some [some v,some b,some (.str f)]:=rfl
  cases g with
  | rcd d l hl hn nd hx=>
   rw [cR]
   have la:∀ h,tG [.dct (kvd l)] h= .ok (.lst ((l.map (·.1)).map PV.str)) h:=fun h=>by
    show Res.ok (PV.lst ((kvd l).map fun p=>gN p.1)) h=_
    rw [Ct]
   have ni:∀ h,cF (.str f) (.lst ((l.map (·.1)).map PV.str)) h= .ok (.bl (!decide (f∈l.map (·.1)))) h:=fun h=>by
    unfold cF
    rw [KC (rW (hf f List.mem_cons_self).1) (fun x hx=>by obtain ⟨p,hp,rfl⟩:=List.mem_map.mp hx;exact rW (hn p hp).1)]
   rcases ph l f with ⟨w,e,m,c⟩ | ⟨e,m⟩
   ·rw [e]
    have gw:=hx _ m
    have dw:∀ h,ao h w=w:=fun h=>ak h gw.pure
    have st:cW (F k) [some (.dct (kvd l)),some b,some (.str f)] h= .nx [some w,some b,some (.str f)] h:=by
     simp only [EX,cW,dv,la,ni,decide_eq_true c,e,dw]
    have ih:=vi k b h r (fun x q=>hf x (List.mem_cons_of_mem _ q)) gw (some (.str f))
    dsimp only
    rw [List.map_cons,eS gn st]
    exact ih
   ·rw [e]
    dsimp only
    have st:cW (F k) [some (.dct (kvd l)),some b,some (.str f)] h= .rt (.lst []) h:=by
     simp only [EX,cW,dv,la,ni,decide_eq_false m]
    rw [List.map_cons,bh,gn]
    dsimp only
    rw [st]
  | int d i h1 h2=>rw [cR,List.map_cons,bh,gn];simp only [EX,cW];all_goals simp
  | bl d b=>rw [cR,List.map_cons,bh,gn];simp only [EX,cW];all_goals simp
  | str d l h hs=>rw [cR,List.map_cons,bh,gn];simp only [EX,cW];all_goals simp
  | lst d xs h hx=>rw [cR,List.map_cons,bh,gn];simp only [EX,cW];all_goals simp
theorem Hz(k:Nat)(fs:List (List Nat))(hf:∀ x∈fs,nmO x){d:Nat}{v:PV}(g:Gx d v):F (k+1) .l_led [v,ntu fs]= .ok (.lst (match cR v fs with | some u=> [u] | none=> [])):=by
 have dv:∀ h,ao h v=v:=fun h=>ak h g.pure
 have lp:=vi k (ntu fs) [] fs hf g none
 have sq:mh (ao [] (ntu fs)) []= .ok (fs.map PV.str) []:=rfl
 show ar (mY (F k)) 2 3 [v,ntu fs]=_
 generalize fs.map PV.str=J at *
 cases e:cR v fs with
 | none=>
  rw [e] at lp
  dsimp only at lp
  simp only [EX,ar,mY,sq,lp]
  rfl
 | some u=>
  rw [e] at lp
  obtain ⟨z,lp⟩:=lp
  have pu:=(fY fs g e).pure
  simp only [EX,ar,mY,sq,lp,ak _ pu]
  exact fm _ (by simp [PV.pure,ai,pu])
theorem qH(k:Nat)(N:PV):F (k+1) .l_due [N,.lst []]= .ok (.tup [.str [102,105,101,108,100],.str []]):=by
 have e:∀ h,tI (.lst []) (.lst []) h= .ok (.bl true) h:=fun h=>rfl
 show ar (cy (F k)) 2 6 [N,.lst []]=_
 simp only [EX,ar,cy,e]
 rfl
theorem AE(k:Nat)(P:PV){i:Nat}(hi:i<5){v:PV}(pv:v.pure=true){b:Bool}{s:List Nat}(f:ky i v b s):
  F (k+5) .l_due [.tup [.str [112,108,97,99,101],P,.str (gb i)],.lst [v]]= .ok (if b=true then .tup [.str [],.str s] else .tup [.str [118,97,108,117,101],.str []]):=by
 have e:∀ h,tI (.lst [v]) (.lst []) h= .ok (.bl false) h:=fun h=>rfl
 have dv:∀ h,ao h v=v:=fun h=>ak h pv
 have k1:=kq [112,108,97,99,101] [99,104,111,105,99,101] false
 have k2:=kq [112,108,97,99,101] [112,108,97,99,101] true
 have i0:∀ a b c:PV,atI [a,b,c] 0=some a:=fun a b c=>rfl
 have i2:∀ a b c:PV,atI [a,b,c] 2=some c:=fun a b c=>rfl
 have y:∀ h,bn (F (k+4) .way_of) [.str (gb i)] h= .ok (.ins i []) h:=fun h=>aK h rfl (sO (k+3) i hi)
 have pi:(PV.ins i []).pure=true:=rfl
 have g:∀ h,bn (F (k+4) (vO i)) [.ins i [],v] h= .ok (.bl b) h:=fun h=>aK h (by simp only [ai,pv,pi];rfl) (f.1 (k+1))
 cases b with
 | true=>
  have q:∀ h,bn (F (k+4) .Way_coded) [.ins i [],v] h= .ok (.str s) h:=fun h=>aK h (by simp only [ai,pv,pi];rfl) (uc hi pv f k)
  show ar (cy (F (k+4))) 2 6 [.tup [.str [112,108,97,99,101],P,.str (gb i)],.lst [v]]=_
  simp only [EX,ar,cy,e,dv,k1,k2,i0,i2,at0,y,g,q,qJ _ i hi,CT _ i hi]
  rfl
 | false=>
  show ar (cy (F (k+4))) 2 6 [.tup [.str [112,108,97,99,101],P,.str (gb i)],.lst [v]]=_
  simp only [EX,ar,cy,e,dv,k1,k2,i0,i2,at0,y,g,qJ _ i hi]
  rfl
def AN:PV:=.tup [.tup [.str [116,101,120,116],.str [121,101,115]]]
def noN(b:Bool):PV:=.tup (if b=true then [.tup [.str [116,101,120,116],.str [110,111]]] else [])
def noW(b:Bool):List Nat:=if b=true then [110,111] else []
section
variable (k:Nat) (P:PV) (c:Bool)
theorem AD(b:Bool):F (k+1) .l_due [.tup [.str [99,104,111,105,99,101],P,AN,noN c],.lst [.bl b]]= .ok (.tup [.str [],.str (if b=true then [121,101,115] else noW c)]):=by
 have e:∀ h,tI (.lst [.bl b]) (.lst []) h= .ok (.bl false) h:=fun h=>rfl
 have k1:=kq [99,104,111,105,99,101] [99,104,111,105,99,101] true
 have i0:∀ a b c d:PV,atI [a,b,c,d] 0=some a:=fun a b c d=>rfl
 have i2:∀ a b c d:PV,atI [a,b,c,d] 2=some c:=fun a b c d=>rfl
 have i3:∀ a b c d:PV,atI [a,b,c,d] 3=some d:=fun a b c d=>rfl
 have lc:(1:Nat)<16777216:=by decide
 have lz:(0:Nat)<16777216:=by decide
 have iy:∀ a b:PV,atI [a,b] 1=some b:=fun a b=>rfl
 have j1:∀ w h,w.length≤10→eG (.str []) [.lst [.str w]] h= .ok (.str w) h:=fun w h hw=>by
  have e:=tH (ls:= [w]) (h:=h) (by simp only [List.map_cons,List.map_nil,List.sum_cons,List.sum_nil];omega)
  simpa only [List.map_cons,List.map_nil,List.flatten_cons,List.flatten_nil,List.append_nil] using e
 show ar (cy (F k)) 2 6 [.tup [.str [99,104,111,105,99,101],P,AN,noN c],.lst [.bl b]]=_
 cases b with
 | true=>
  unfold AN
  simp only [EX,ar,cy,e,k1,i0,i2,at0,lc,eI,nM,iy,j1 [121,101,115] _ (by decide),dh]
  rfl
 | false=>
  cases c with
  | true=>
   unfold noN
   simp only [EX,ar,cy,e,k1,i0,i3,at0,lc,eI,nM,iy,j1 [110,111] _ (by decide),dh]
   rfl
  | false=>
   unfold noN
   have j0:∀ h,eG (.str []) [.lst []] h= .ok (.str []) h:=fun h=>rfl
   simp only [EX,ar,cy,e,k1,i0,i3,at0,lz,eI,j0,dh]
   rfl
theorem AF{d:Nat}{v:PV}(g:Gx d v)(hv:∀ b,v≠.bl b):F (k+1) .l_due [.tup [.str [99,104,111,105,99,101],P,AN,noN c],.lst [v]]= .ok (.tup [.str [116,114,117,116,104],.str []]):=by
 have e:∀ h,tI (.lst [v]) (.lst []) h= .ok (.bl false) h:=fun h=>rfl
 have dv:∀ h,ao h v=v:=fun h=>ak h g.pure
 have k1:=kq [99,104,111,105,99,101] [99,104,111,105,99,101] true
 have i0:∀ a b c d:PV,atI [a,b,c,d] 0=some a:=fun a b c d=>rfl
 have ib:∀ h,aH [v,.ty "bool"] h= .ok (.bl false) h:=fun h=>by
  cases g with
  | bl d b=>exact absurd rfl (hv b)
  | int d i _ _=>rfl
  | str d l _ _=>rfl
  | lst d xs _ _=>rfl
  | rcd d l _ _ _ _=>rfl
 show ar (cy (F k)) 2 6 [.tup [.str [99,104,111,105,99,101],P,AN,noN c],.lst [v]]=_
 simp only [EX,ar,cy,e,dv,k1,i0,at0,ib]
 rfl
end
def io(bt:List Nat)(bs:PV→Bool×List Nat):List PV→Bool→List Nat→Bool×List Nat
 | [],_,t=>(true,t)
 | v::r,fst,t=>if (bs v).1=true then io bt bs r false (t++(if fst=true then [] else bt)++(bs v).2++ [59]) else (false,t++(if fst=true then [] else bt))
section
variable (k:Nat) (x bt:List Nat) (hb:bt= []∨bt= [44,32]) (P B:PV) {i:Nat} (hi:i<5) (bs:PV→Bool×List Nat) (xs:List PV) (hx:∀ v∈xs,v.pure=true∧ky i v (bs v).1 (bs v).2) (hl:xs.length≤3)
include hb hi hx hl
theorem vS(fd:PV)(h:List PO):∀ (r:List PV) (pre:List PV),xs=pre++r→∀ (t:List Nat) (z5:Option PV),t.length+r.length * 2003≤100000→
  match io bt bs r pre.isEmpty t with
  | (true,s)=>∃ z,bh (gNm 5) (gc (F (k+4))) ((List.range' pre.length r.length).map fun (j:Nat)=>PV.int (0+(j:Int))) [some (.tup [.str [108,111,111,112],.str x,P,B,.str bt]),some fd,some (.lst xs),some (.ins i []),some (.str t),z5] h= .nx [some (.tup [.str [108,111,111,112],.str x,P,B,.str bt]),some fd,some (.lst xs),some (.ins i []),some (.str s),z] h
  | (false,s)=>bh (gNm 5) (gc (F (k+4))) ((List.range' pre.length r.length).map fun (j:Nat)=>PV.int (0+(j:Int))) [some (.tup [.str [108,111,111,112],.str x,P,B,.str bt]),some fd,some (.lst xs),some (.ins i []),some (.str t),z5] h= .rt (.tup [.str [118,97,108,117,101],.str s]) h
 | [],pre,_,t,z5,_=>⟨z5,rfl⟩
 | v::r,pre,e,t,z5,ht=>by
  rw [List.length_cons] at ht
  obtain ⟨pv,f⟩:=hx v (by rw [e];simp)
  have dv:∀ h,ao h v=v:=fun h=>ak h pv
  have i4:∀ a b c d e:PV,atI [a,b,c,d,e] 4=some e:=fun a b c d e=>rfl
  have iv:atI xs (0+(pre.length:Int))=some v:=gM (by omega) (by rw [e,show (0+(pre.length:Int)).toNat=pre.length by omega];simp)
  have mu:∀ h,eF (.str bt) (.int (if decide (0+(pre.length:Int)>0)=true then 1 else 0)) h= .ok (.str (if pre.isEmpty=true then [] else bt)) h:=fun h=>by
   cases pre with
   | nil=>rcases hb with rfl | rfl<;>rfl
   | cons a p=>
    rw [decide_eq_true (show 0+((a::p).length:Int)>0 by rw [List.length_cons];omega)]
    rcases hb with rfl | rfl<;>rfl
  have lb:(if pre.isEmpty=true then [] else bt).length≤2:=by split<;>rcases hb with rfl | rfl<;>simp
  rw [io]
  generalize (if pre.isEmpty=true then [] else bt)=u at mu lb ⊢
  have a1:t.length+u.length≤16777216:=by omega
  have pi:(PV.ins i []).pure=true:=rfl
  have g:∀ h,bn (F (k+4) (vO i)) [.ins i [],v] h= .ok (.bl (bs v).1) h:=fun h=>aK h (by simp only [ai,pv,pi];rfl) (f.1 (k+1))
  have gn:gNm 5 (.int (0+(pre.length:Int))) [some (.tup [.str [108,111,111,112],.str x,P,B,.str bt]),some fd,some (.lst xs),some (.ins i []),some (.str t),z5]=some [some (.tup [.str [108,111,111,112],.str x,P,B,.str bt]),some fd,some (.lst xs),some (.ins i []),some (.str t),some (.int (0+(pre.length:Int)))]:=rfl
  rw [List.length_cons,List.range'_succ,List.map_cons]
  cases c:(bs v).1 with
  | false=>
   rw [c] at g
   rw [if_neg (by decide)]
   dsimp only
   have st:gc (F (k+4)) [some (.tup [.str [108,111,111,112],.str x,P,B,.str bt]),some fd,some (.lst xs),some (.ins i []),some (.str t),some (.int (0+(pre.length:Int)))] h= .rt (.tup [.str [118,97,108,117,101],.str (t++u)]) h:=by
    simp only [EX,gc,i4,pGt,mu,a1,iv,dv,g,qJ _ i hi]
   rw [bh,gn]
   dsimp only
   rw [st]
  | true=>
   rw [c] at g f
   rw [if_pos rfl]
   have ls:=(f.2 rfl).2.1
   have q:∀ h,bn (F (k+4) .Way_coded) [.ins i [],v] h= .ok (.str (bs v).2) h:=fun h=>aK h (by simp only [ai,pv,pi];rfl) (uc hi pv f k)
   generalize (bs v).2=w at q ls ⊢
   have a2:(t++u).length+w.length≤16777216:=by rw [List.length_append];omega
   have a3:(t++u++w).length+1≤16777216:=by rw [List.length_append,List.length_append];omega
   have st:gc (F (k+4)) [some (.tup [.str [108,111,111,112],.str x,P,B,.str bt]),some fd,some (.lst xs),some (.ins i []),some (.str t),some (.int (0+(pre.length:Int)))] h= .nx [some (.tup [.str [108,111,111,112],.str x,P,B,.str bt]),some fd,some (.lst xs),some (.ins i []),some (.str (t++u++w++ [59])),some (.int (0+(pre.length:Int)))] h:=by
    simp only [EX,gc,i4,pGt,mu,a1,a2,a3,iv,dv,g,q,qJ _ i hi,CT _ i hi]
   have ih:=vS fd h r (pre++ [v]) (by rw [e,List.append_assoc];rfl) (t++u++w++ [59]) (some (.int (0+(pre.length:Int)))) (by simp only [List.length_append,List.length_cons,List.length_nil];omega)
   rw [show (pre++ [v]).isEmpty=false by cases pre<;>rfl,show (pre++ [v]).length=pre.length+1 by simp] at ih
   rw [eS gn st]
   exact ih
end
def lpN(x:List Nat)(P:PV)(i:Nat)(bt:List Nat):PV:=.tup [.str [108,111,111,112],.str x,P,.tup [.tup [.str [112,108,97,99,101],.tup [.str x],.str (gb i)],.tup [.str [116,101,120,116],.str [59]]],.str bt]
section
variable (k:Nat) (x bt:List Nat) (hb:bt= []∨bt= [44,32]) (P:PV) {i:Nat} (hi:i<5)
theorem CR(bs:PV→Bool×List Nat)(xs:List PV)(hx:∀ v∈xs,v.pure=true∧ky i v (bs v).1 (bs v).2)(hl:xs.length≤3)(hb:bt= []∨bt= [44,32])(hi:i<5)(px:(PV.lst xs).pure=true):
  F (k+5) .l_due [lpN x P i bt,.lst [.lst xs]]= .ok (.tup [.str (if (io bt bs xs true []).1=true then [] else [118,97,108,117,101]),.str (io bt bs xs true []).2]):=by
 have e:∀ h,tI (.lst [.lst xs]) (.lst []) h= .ok (.bl false) h:=fun h=>rfl
 have k1:=kq [108,111,111,112] [99,104,111,105,99,101] false
 have k2:=kq [108,111,111,112] [112,108,97,99,101] false
 have i0:∀ a b c d e:PV,atI [a,b,c,d,e] 0=some a:=fun a b c d e=>rfl
 have i3:∀ a b c d e:PV,atI [a,b,c,d,e] 3=some d:=fun a b c d e=>rfl
 have j0:∀ a b:PV,atI [a,b] 0=some a:=fun a b=>rfl
 have j2:∀ a b c:PV,atI [a,b,c] 2=some c:=fun a b c=>rfl
 have y:∀ h,bn (F (k+4) .way_of) [.str (gb i)] h= .ok (.ins i []) h:=fun h=>aK h rfl (sO (k+3) i hi)
 have bc:bel 4611686018427387904 (xs.length:Int)=true:=bV.mpr ⟨by omega,by omega⟩
 have tc:Int.toNat (xs.length:Int)=xs.length:=Int.toNat_natCast _
 have lp:=vS k x bt hb P (.tup [.tup [.str [112,108,97,99,101],.tup [.str x],.str (gb i)],.tup [.str [116,101,120,116],.str [59]]]) hi bs xs hx hl (.lst [.lst xs]) [] xs [] rfl [] none (by rw [List.length_nil];omega)
 have rg:(List.range xs.length).map (fun (j:Nat)=>PV.int (0+(j:Int)))=(List.range' ([]:List PV).length xs.length).map fun (j:Nat)=>PV.int (0+(j:Int)):=by rw [List.range_eq_range'];rfl
 rw [← rg] at lp
 show ar (cy (F (k+4))) 2 6 [lpN x P i bt,.lst [.lst xs]]=_
 unfold lpN
 rw [show ([]:List PV).isEmpty=true from rfl] at lp
 cases c:io bt bs xs true [] with
 | mk b s=>
  rw [c] at lp
  cases b with
  | true=>
   obtain ⟨z,lp⟩:=lp
   simp -implicitDefEqProofs only [EX,ar,cy,e,k1,k2,i0,i3,j0,j2,at0,y,bc,tc,lp]
   rfl
  | false=>
   dsimp only at lp
   simp -implicitDefEqProofs only [EX,ar,cy,e,k1,k2,i0,i3,j0,j2,at0,y,bc,tc,lp]
   rfl
theorem xJ{d:Nat}{v:PV}(g:Gx d v)(hv:∀ xs,v≠.lst xs):F (k+1) .l_due [lpN x P i bt,.lst [v]]= .ok (.tup [.str [108,105,115,116],.str []]):=by
 have e:∀ h,tI (.lst [v]) (.lst []) h= .ok (.bl false) h:=fun h=>rfl
 have dv:∀ h,ao h v=v:=fun h=>ak h g.pure
 have k1:=kq [108,111,111,112] [99,104,111,105,99,101] false
 have k2:=kq [108,111,111,112] [112,108,97,99,101] false
 have i0:∀ a b c d e:PV,atI [a,b,c,d,e] 0=some a:=fun a b c d e=>rfl
 have ib:∀ h,aH [v,.ty "list"] h= .ok (.bl false) h:=fun h=>by
  cases g with
  | bl d b=>rfl
  | int d i _ _=>rfl
  | str d l _ _=>rfl
  | lst d xs _ _=>exact absurd rfl (hv xs)
  | rcd d l _ _ _ _=>rfl
 show ar (cy (F k)) 2 6 [lpN x P i bt,.lst [v]]=_
 unfold lpN
 simp only [EX,ar,cy,e,dv,k1,k2,i0,at0,ib]
 rfl
end
def evT(bs:PV→Bool×List Nat)(v:PV):List Ev1:=evP (bs v).1 (bs v).2++ [.txt [59]]
theorem mS(bt:List Nat)(bs:PV→Bool×List Nat):∀ (xs:List PV) (f:Bool) (t:List Nat),io bt bs xs f t=((io bt bs xs f []).1,t++(io bt bs xs f []).2)
 | [],f,t=>by simp [io]
 | v::r,f,t=>by
  rw [io,io]
  by_cases c:(bs v).1=true
  ·rw [if_pos c,if_pos c,mS bt bs r false (t++_++_++_),mS bt bs r false ([]++_++_++_)]
   simp [List.append_assoc]
  ·rw [if_neg c,if_neg c]
   simp
theorem CA(bt:List Nat)(bs:PV→Bool×List Nat):∀ (xs:List PV) (i:Nat) (n:Int),n+2 * xs.length≤1000→
  ∃ m:Int,m≤n+2 * xs.length∧go n (rdE bt i (xs.map (evT bs)))=(if (io bt bs xs (i==0) []).1=true then none else some wV,m,(io bt bs xs (i==0) []).2)
 | [],i,n,_=>⟨n,by simp,by simp [rdE,go,io]⟩
 | v::r,i,n,hn=>by
  rw [List.length_cons] at hn
  have fe:(if i>0 then bt else [])=(if (i==0)=true then [] else bt):=by
   cases i<;>rfl
  have n1:n≠2000:=by omega
  have n2:n+1≠2000:=by omega
  rw [List.map_cons,rdE,go,if_neg n1,fe,io]
  generalize (if (i==0)=true then [] else bt)=u
  unfold evT
  by_cases c:(bs v).1=true
  ·obtain ⟨m,hm,e⟩:=CA bt bs r (i+1) (n+1+1) (by omega)
   rw [if_pos c,mS,c,evP]
   rw [show ((i+1)==0)=false from rfl] at e
   unfold evT at e
   refine ⟨m,by rw [List.length_cons];omega,?_⟩
   simp only [List.cons_append,List.nil_append,go,if_neg n2,e,List.append_assoc]
  ·rw [if_neg c,Bool.eq_false_iff.mpr c,evP]
   refine ⟨n+1+1,by rw [List.length_cons];omega,?_⟩
   simp only [List.cons_append,List.nil_append,go,if_neg n2,List.append_nil]
   rfl
theorem Jw(k:Nat)(x:List Nat)(v:PV)(hv:v.pure=true):F (k+1) .references_to [.dct [(.inr x,v)]]= .ok (.dct [(.inr x,.tup [v])]):=by
 show ar (cI (F k)) 1 3 [.dct [(.inr x,v)]]=_
 have pd:(PV.dct [(.inr x,v)]).pure=true:=by rw [PV.pure,aI,hv];rfl
 have e:bJ [(.inr x,v)] (.inr x)=some v:=by unfold bJ;rw [List.find?_cons_of_pos (by simp)];rfl
 have pt:(PV.tup [v]).pure=true:=by rw [PV.pure,ai,hv];rfl
 have pk:aI [((.inr x:PK),PV.tup [v])]=true:=by rw [aI,pt];rfl
 have pu:cg [] (.inr x) (.tup [v])= [(.inr x,.tup [v])]:=rfl
 have it:∀ h,gg (.dct [(.inr x,v)]) h= .ok [.str x] h:=fun h=>rfl
 simp only [EV,ar,cI,fS,bh,ak _ pd,it,e,ak _ hv,pu]
 simp only [EV,show (0:Nat)<16777216 from by decide,pu,sp _ pk]
 exact fm _ (by rw [PV.pure];exact pk)
theorem EA(k:Nat)(x:List Nat)(hx:∀ c∈x,c<1114112){v:PV}(g:Gx 6 v):F (k+23) .need_values [.tup [.str x],.dct [(.inr x,v)]]= .ok .non:=by
 have pv:=g.pure
 have z:∀ h,bn (F (k+22) .is_value) [v] h= .ok (.bl true) h:=fun h=>aK h (by simp only [ai,pv];rfl) (by rw [is_value (k+22) v (by omega) g.all.2.1,g.all.1])
 have pd:(PV.dct [(.inr x,v)]).pure=true:=by rw [PV.pure,aI,pv];rfl
 have e:bJ [(.inr x,v)] (.inr x)=some v:=by unfold bJ;rw [List.find?_cons_of_pos (by simp)];rfl
 have ni:=uY (x:=x) (ls:= [x]) hx (by intro l hl;cases List.mem_singleton.mp hl;exact hx)
 rw [decide_eq_true (List.mem_singleton.mpr rfl)] at ni
 have ni:∀ h,cF (.str x) (.tup [.str x]) h= .ok (.bl false) h:=ni
 have it:∀ h,gg (.dct [(.inr x,v)]) h= .ok [.str x] h:=fun h=>rfl
 have it2:∀ h,gg (.tup [.str x]) h= .ok [.str x] h:=fun h=>rfl
 show ar (dH (F (k+22))) 2 3 [.tup [.str x],.dct [(.inr x,v)]]=_
 simp only [EX,ar,dH,gK,gJ,bh,ak _ pd,it,it2,e,ak _ pv,z,ni]
def rM(e:List Nat)(v:PV):List (PK×PV):= [(.inr e,.tup [v])]
theorem fW(e:List Nat){v:PV}(pv:v.pure=true):(PV.dct (rM e v)).pure=true:=by
 unfold rM
 rw [PV.pure,aI,PV.pure,ai,pv];rfl
theorem md(e:List Nat)(fs:List (List Nat))(hl:fs.length≤3){v:PV}(pv:v.pure=true)(k:Nat):F (k+1) .stood_for [ntu (e::fs),sc_ (rM e v) .non]= .ok (.tup (v::fs.map PV.str)):=
 kU k e (fs.map PV.str) v [] (rM e v) .non (by unfold bJ rM;rw [List.find?_cons_of_pos (by simp)];rfl) (fW e pv) (bM fs) (by rw [ai,pv];rfl) (by rw [List.length_map,List.length_nil];omega)
section
variable {d:List (PK×PV)} (hd:okD d=true) (k:Nat) (e:List Nat) (fs:List (List Nat)) (hl:fs.length≤3) {dp:Nat} {v:PV} (g:Gx dp v)
include hd hl g
theorem zH{i:Nat}(hi:i<5)(bs:PV→Bool×List Nat)(fc:∀ u,cR v fs=some u→ky i u (bs u).1 (bs u).2):
  Pn (k+8) d (sc_ (rM e v) .non) (.tup [tgP,ntu (e::fs),.str (gb i)]) (evF ((cR v fs).map fun u=>evP (bs u).1 (bs u).2)):=
 mF hd k v (fs.map PV.str) ((e::fs).map PV.str) (sc_ (rM e v) .non) (by unfold sc_;rw [PV.pure,ai,fW e g.pure];rfl) (bM _) g.pure (bM _) (md e fs hl g.pure) hi (jg fs g) (fun u q=>(fY fs g q).pure) bs fc
theorem nW(ys ns:List PV)(hy:ai ys=true)(hn:ai ns=true)(w:List Nat)(f:cR v fs=none∧w=cE∨∃ u,cR v fs=some u∧(∀ b,u≠.bl b)∧w=nk):
  Pn (k+6) d (sc_ (rM e v) .non) (.tup [tgC,ntu (e::fs),.tup ys,.tup ns]) [.cnt [],.stop w]:=by
 have fo:=jg fs g
 refine wK hd k v (fs.map PV.str) ((e::fs).map PV.str) (sc_ (rM e v) .non) (by unfold sc_;rw [PV.pure,ai,fW e g.pure];rfl) (bM _) g.pure (bM _) (md e fs hl g.pure) ys ns hy hn w ?_
 rcases f with ⟨a,b⟩ | ⟨u,a,b,c⟩
 ·exact .inl ⟨by rwa [a] at fo,b⟩
 ·have gu:=fY fs g a
  refine .inr ⟨u,gu.pure,by rwa [a] at fo,fun h=>?_,c⟩
  cases gu with
  | bl d t=>exact absurd rfl (b t)
  | int d i _ _=>rfl
  | str d l _ _=>rfl
  | lst d xs _ _=>rfl
  | rcd d l _ _ _ _=>rfl
theorem rD(y bt:List Nat)(nodes:List PV)(hn:ai nodes=true)(w:List Nat)(f:cR v fs=none∧w=cE∨∃ u,cR v fs=some u∧(∀ b,u≠.lst b)∧w=rn):
  Pn (k+7) d (sc_ (rM e v) .non) (.tup [tgL,.str y,ntu (e::fs),.tup nodes,.str bt]) [.cnt [],.stop w]:=by
 have fo:=jg fs g
 refine BI hd k v (fs.map PV.str) ((e::fs).map PV.str) (sc_ (rM e v) .non) (by unfold sc_;rw [PV.pure,ai,fW e g.pure];rfl) (bM _) g.pure (bM _) (md e fs hl g.pure) y bt nodes hn w ?_
 rcases f with ⟨a,b⟩ | ⟨u,a,b,c⟩
 ·exact .inl ⟨by rwa [a] at fo,b⟩
 ·have gu:=fY fs g a
  refine .inr ⟨u,gu.pure,by rwa [a] at fo,fun h=>?_,c⟩
  cases gu with
  | bl d t=>rfl
  | int d i _ _=>rfl
  | str d l _ _=>rfl
  | lst d xs _ _=>exact absurd rfl (b xs)
  | rcd d l _ _ _ _=>rfl
end
section
variable {d:List (PK×PV)} (hd:okD d=true) (k:Nat) (e:List Nat) (fs:List (List Nat)) (hl:fs.length≤3) {dp:Nat} {v:PV} (g:Gx dp v)
include hd hl g
theorem wy(ys ns:List PV)(t:Bool)(ev:List Ev1)(q:cR v fs=some (.bl t))(hy:ai ys=true)(hn:ai ns=true)(w:Pw (k+5) d (sc_ (rM e v) .non) (if t=true then ys else ns) ev):
  Pn (k+6) d (sc_ (rM e v) .non) (.tup [tgC,ntu (e::fs),.tup ys,.tup ns]) (.cnt []::ev):=by
 have fo:=jg fs g
 rw [q] at fo
 exact rI hd k v (fs.map PV.str) ((e::fs).map PV.str) (sc_ (rM e v) .non) (by unfold sc_;rw [PV.pure,ai,fW e g.pure];rfl) (bM _) g.pure (bM _) (md e fs hl g.pure) ys ns t ev fo hy hn w
theorem DJ(y:List Nat){t:PV}(pt:t.pure=true){i:Nat}(hi:i<5)(bs:PV→Bool×List Nat)(fc:ky i t (bs t).1 (bs t).2):
  (sc_ (cg (rM e v) (.inr y) (.tup [t])) .non).pure=true∧Pw (k+9) d (sc_ (cg (rM e v) (.inr y) (.tup [t])) .non) [.tup [tgP,.tup [.str y],.str (gb i)],.tup [tgT,.str [59]]] (evT bs t):=by
 have q:(PV.tup [t]).pure=true:=by rw [PV.pure,ai,pt];rfl
 have pk:(PV.dct (cg (rM e v) (.inr y) (.tup [t]))).pure=true:=by rw [PV.pure];exact cb _ _ _ (by have:=fW e g.pure;rwa [PV.pure] at this) q
 have pS:(sc_ (cg (rM e v) (.inr y) (.tup [t])) .non).pure=true:=by unfold sc_;rw [PV.pure,ai,pk];rfl
 have st:∀ k,F (k+1) .stood_for [.tup [.str y],sc_ (cg (rM e v) (.inr y) (.tup [t])) .non]= .ok (.tup (t:: [])):=fun k=>kU k y [] t [] _ .non (by rw [dz,if_pos rfl]) pk rfl (by rw [ai,pt];rfl) (by simp)
 have p:=mF hd k t [] [.str y] (sc_ (cg (rM e v) (.inr y) (.tup [t])) .non) pS rfl pt rfl st hi (o:=some t) (fun k=>tT k t pt) (fun u z=>by injection z with z;rw [← z];exact pt) bs (fun u z=>by injection z with z;rw [← z];exact fc)
 exact ⟨pS,jG hd pS (gS p (gS (mE hd (k+6) _ [59]) (qk)))⟩
theorem Bj(y bt:List Nat)(xs:List PV)(q:cR v fs=some (.lst xs)){i:Nat}(hi:i<5)(bs:PV→Bool×List Nat)(hx:∀ t∈xs,t.pure=true∧ky i t (bs t).1 (bs t).2):
  Pn (k+11) d (sc_ (rM e v) .non) (.tup [tgL,.str y,ntu (e::fs),.tup [.tup [tgP,.tup [.str y],.str (gb i)],.tup [tgT,.str [59]]],.str bt]) (.cnt []::rdE bt 0 (xs.map (evT bs))):=by
 have fo:=jg fs g
 rw [q] at fo
 have e1:(xs.map fun t=>(t,evT bs t)).map (·.1)=xs:=by rw [List.map_map];exact List.map_id' xs
 have e2:(xs.map fun t=>(t,evT bs t)).map (·.2)=xs.map (evT bs):=by rw [List.map_map];rfl
 have p:=yn hd (k+5) v (fs.map PV.str) ((e::fs).map PV.str) (sc_ (rM e v) .non) (by unfold sc_;rw [PV.pure,ai,fW e g.pure];rfl) (bM _) g.pure (bM _) (md e fs hl g.pure) y bt [.tup [tgP,.tup [.str y],.str (gb i)],.tup [tgT,.str [59]]] (xs.map fun t=>(t,evT bs t)) rfl (by rw [e1];exact fo) (fun t ht=>by
  obtain ⟨t,ht1,rfl⟩:=List.mem_map.mp ht
  obtain ⟨pt,fc⟩:=hx t ht1
  obtain ⟨pS,w⟩:=DJ hd k e fs hl g y pt hi bs fc
  exact ⟨pt,_,pS,yH (k+8) y [t] (rM e v) .non (fW e g.pure) rfl (by rw [ai,pt];rfl) (by simp [rM]),w⟩)
 rw [e2] at p
 exact p
end
def tLp:List Nat:= [108,111,111,112]
def wg(ev:List Ev1)(w t:List Nat):Prop:=∀ n:Int,n≤900→∃ m:Int,m≤n+20∧go n ev=(if w= [] then none else some w,m,t)
theorem AR{w:PV}(h:w∈oZ):∃ i,i<5∧w= .str (gb i):=by
 unfold oZ at h
 simp only [List.mem_cons,List.not_mem_nil,or_false] at h
 rcases h with rfl | rfl | rfl | rfl | rfl
 ·exact ⟨0,by decide,rfl⟩
 ·exact ⟨1,by decide,rfl⟩
 ·exact ⟨2,by decide,rfl⟩
 ·exact ⟨3,by decide,rfl⟩
 ·exact ⟨4,by decide,rfl⟩
theorem Db{i:Nat}(hi:i<5):∃ bs:PV→Bool×List Nat,∀ v,Dv v→ky i v (bs v).1 (bs v).2:=by
 have h:∀ v:PV,∃ p:Bool×List Nat,Dv v→ky i v p.1 p.2:=fun v=>by
  by_cases q:Dv v
  ·obtain ⟨b,s,f⟩:=yL i hi q
   exact ⟨(b,s),fun _=>f⟩
  ·exact ⟨(false,[]),fun z=>absurd z q⟩
 exact ⟨fun v=>(h v).choose,fun v=>(h v).choose_spec⟩
theorem gf(w:List Nat)(h:w≠ []):wg [.cnt [],.stop w] w []:=fun n hn=>⟨n+1,by omega,by rw [go,if_neg (by omega),go,if_neg h];rfl⟩
theorem uu(b:Bool)(s:List Nat):wg (evP b s) (if b=true then [] else wV) (if b=true then s else []):=by
 cases b with
 | true=>exact fun n hn=>⟨n+1,by omega,by simp [evP,go];omega⟩
 | false=>exact gf wV (by decide)
theorem yR(bt:List Nat)(hb:bt= []∨bt= [44,32])(bs:PV→Bool×List Nat):∀ (xs:List PV) (f:Bool),(∀ t∈xs,(bs t).1=true→(bs t).2.length≤2000)→(io bt bs xs f []).2.length≤2003 * xs.length
 | [],_,_=>by simp [io]
 | v::r,f,h=>by
  have lb:(if f=true then [] else bt).length≤2:=by split<;>rcases hb with rfl | rfl<;>simp
  have:=yR bt hb bs r false fun t ht=>h t (List.mem_cons_of_mem _ ht)
  rw [io,List.length_cons]
  by_cases c:(bs v).1=true
  ·have hv:=h v List.mem_cons_self c
   rw [if_pos c,mS]
   simp only [List.length_append,List.length_cons,List.length_nil]
   omega
  ·rw [if_neg c]
   simp only [List.length_append,List.length_nil]
   omega
theorem yk(bt:List Nat)(bs:PV→Bool×List Nat):∀ (xs:List PV) (i:Nat),(rdE bt i (xs.map (evT bs))).length≤4 * xs.length
 | [],_=>by simp [rdE]
 | v::r,i=>by
  have:=yk bt bs r (i+1)
  have h:(evT bs v).length≤3:=by
   unfold evT
   cases (bs v).1<;>simp [evP]
  rw [List.map_cons,rdE,List.length_cons,List.length_append,List.length_cons]
  omega
theorem iT{a b:List Nat}(ha:∀ c∈a,c<1114112)(hb:∀ c∈b,c<1114112):∀ c∈a++b,c<1114112:=fun c hc=>by
 rcases List.mem_append.mp hc with q | q
 ·exact ha c q
 ·exact hb c q
theorem CQ(bt:List Nat)(hb:bt= []∨bt= [44,32])(bs:PV→Bool×List Nat):∀ (xs:List PV) (f:Bool),(∀ t∈xs,(bs t).1=true→∀ c∈(bs t).2,c<1114112)→∀ c∈(io bt bs xs f []).2,c<1114112
 | [],_,_=>by simp [io]
 | v::r,f,h=>by
  have lb:∀ c∈(if f=true then [] else bt),c<1114112:=by split<;>rcases hb with rfl | rfl<;>simp
  have:=CQ bt hb bs r false fun t ht=>h t (List.mem_cons_of_mem _ ht)
  rw [io]
  by_cases c:(bs v).1=true
  ·have hv:=h v List.mem_cons_self c
   rw [if_pos c,mS]
   exact iT (iT (iT (iT (by simp) lb) hv) (by simp)) this
  ·rw [if_neg c]
   exact iT (by simp) lb
section
variable {d:List (PK×PV)} (hd:okD d=true) (j k:Nat) (ls:List (List Nat)) (e:List Nat) {dp:Nat} {v:PV} (g:Gx dp v)
def An(o:Option PV):PV:=.lst (match o with | some u=> [u] | none=> [])
def LY(d:List (PK×PV))(j k:Nat)(ls:List (List Nat))(e:List Nat)(v N:PV):Prop:=∃ (fs:List (List Nat)) (tag w t:List Nat) (ev:List Ev1),fs.length≤3∧(∀ x∈fs,x∈ls)∧(∀ c∈tag,c<1114112)∧(∀ h,pIx N (.int 0) h= .ok (.str tag) h)∧(∀ h,pIx N (.int (if tag=tLp then 2 else 1)) h= .ok (ntu (e::fs)) h)∧
 F (j+5) .l_due [N,An (cR v fs)]= .ok (.tup [.str w,.str t])∧Pn (k+11) d (sc_ (rM e v) .non) N ev∧ev.length≤20∧t.length≤100000∧wg ev w t∧(∀ c∈w,c<1114112)∧∀ c∈t,c<1114112
include hd g
theorem Bi{N:PV}(hN:Nq ls e N):LY d j k ls e v N:=by
 cases hN with
 | place fs hl hf w hw=>
  obtain ⟨i,hi,rfl⟩:=AR hw
  obtain ⟨bs,hbs⟩:=Db hi
  have rp:=zH hd (k+3) e fs hl g hi bs (fun u q=>hbs u (fY fs g q).all.2.2.1)
  cases q:cR v fs with
  | none=>
   rw [q] at rp
   exact ⟨fs,_,_,_,_,hl,hf,by decide,fun h=>rfl,fun h=>rfl,by rw [q];exact qH (j+4) _,rp,(by show 2≤20;decide),by decide,gf cE (by decide),by decide,by decide⟩
  | some u=>
   have gu:=fY fs g q
   rw [q] at rp
   have du:=AE j (ntu (e::fs)) hi gu.pure (hbs u gu.all.2.2.1)
   refine ⟨fs,_,if (bs u).1=true then [] else wV,if (bs u).1=true then (bs u).2 else [],_,hl,hf,by decide,fun h=>rfl,fun h=>rfl,?_,rp,?_,?_,uu _ _,by split<;>decide,?_⟩
   ·rw [q]
    refine du.trans ?_
    cases (bs u).1<;>rfl
   ·show (evP (bs u).1 (bs u).2).length≤20
    cases (bs u).1<;>simp [evP]
   ·by_cases z:(bs u).1=true
    ·rw [if_pos z]
     have:=((hbs u gu.all.2.2.1).2 z).2.1
     omega
    ·rw [if_neg z];decide
   ·by_cases z:(bs u).1=true
    ·rw [if_pos z]
     exact ((hbs u gu.all.2.2.1).2 z).2.2
    ·rw [if_neg z];decide
 | loop fs hl hf w hw x hx bt hb=>
  obtain ⟨i,hi,rfl⟩:=AR hw
  obtain ⟨bs,hbs⟩:=Db hi
  cases q:cR v fs with
  | none=>
   exact ⟨fs,_,_,_,_,hl,hf,by decide,fun h=>rfl,fun h=>rfl,by rw [q];exact qH (j+4) _,rD hd (k+4) e fs hl g x bt _ rfl cE (.inl ⟨q,rfl⟩),by decide,by decide,gf cE (by decide),by decide,by decide⟩
  | some u=>
   have gu:=fY fs g q
   by_cases z:∃ xs,u= .lst xs
   ·obtain ⟨xs,rfl⟩:=z
    have px:=gu.pure
    obtain ⟨x3,xg⟩:xs.length≤3∧∀ t∈xs,t.pure=true∧ky i t (bs t).1 (bs t).2:=by
     cases gu with
     | lst d xs h hx=>exact ⟨h,fun t ht=>⟨(hx t ht).pure,hbs t (hx t ht).all.2.2.1⟩⟩
    have du:=CR j x bt (ntu (e::fs)) bs xs xg x3 hb hi px
    refine ⟨fs,_,_,_,_,hl,hf,by decide,fun h=>rfl,fun h=>rfl,by rw [q];exact du,Bj hd k e fs hl g x bt xs q hi bs xg,?_,?_,fun n hn=>?_,by split<;>decide,CQ bt hb bs xs true fun t ht z=>((xg t ht).2.2 z).2.2⟩
    ·have:=yk bt bs xs 0
     rw [List.length_cons];omega
    ·have:=yR bt hb bs xs true (fun t ht z=>((xg t ht).2.2 z).2.1)
     omega
    ·obtain ⟨m,hm,em⟩:=CA bt bs xs 0 (n+1) (by omega)
     refine ⟨m,by omega,?_⟩
     rw [go,if_neg (by omega),em]
     rw [show ((0:Nat)==0)=true from rfl]
     cases (io bt bs xs true []).1<;>rfl
   ·have nz:∀ xs,u≠.lst xs:=fun xs y=>z ⟨xs,y⟩
    exact ⟨fs,_,_,_,_,hl,hf,by decide,fun h=>rfl,fun h=>rfl,by rw [q];exact xJ (j+4) x bt (ntu (e::fs)) gu nz,rD hd (k+4) e fs hl g x bt _ rfl rn (.inr ⟨u,q,nz,rfl⟩),by decide,by decide,gf rn (by decide),by decide,by decide⟩
 | choice fs hl hf no hb=>
  obtain ⟨c,rfl⟩:∃ c,no=noN c:=by
   rcases hb with rfl | rfl
   ·exact ⟨true,rfl⟩
   ·exact ⟨false,rfl⟩
  have pS:(sc_ (rM e v) .non).pure=true:=by unfold sc_;rw [PV.pure,ai,fW e g.pure];rfl
  have hn:∀ c:Bool,ai (if c=true then [PV.tup [.str [116,101,120,116],.str [110,111]]] else [])=true:=fun c=>by cases c<;>rfl
  cases q:cR v fs with
  | none=>
   exact ⟨fs,_,_,_,_,hl,hf,by decide,fun h=>rfl,fun h=>rfl,by rw [q];exact qH (j+4) _,nW hd (k+5) e fs hl g _ _ rfl (hn c) cE (.inl ⟨q,rfl⟩),by decide,by decide,gf cE (by decide),by decide,by decide⟩
  | some u=>
   have gu:=fY fs g q
   by_cases z:∃ b,u= .bl b
   ·obtain ⟨b,rfl⟩:=z
    have du:=AD (j+4) (ntu (e::fs)) c b
    have one:∀ t:List Nat,Pw (k+10) d (sc_ (rM e v) .non) [.tup [tgT,.str t]] [.txt t]:=fun t=>jG hd pS (gS (mE hd (k+7) _ t) qk)
    have nil:Pw (k+10) d (sc_ (rM e v) .non) [] []:=jG hd pS qk
    obtain ⟨ev,hv,le,ge⟩:∃ ev,Pw (k+10) d (sc_ (rM e v) .non) (if b=true then [.tup [tgT,.str [121,101,115]]] else (if c=true then [PV.tup [.str [116,101,120,116],.str [110,111]]] else [])) ev∧ev.length≤1∧∀ n,go n ev=(none,n,if b=true then [121,101,115] else noW c):=by
     cases b with
     | true=>exact ⟨_,one _,by decide,fun n=>rfl⟩
     | false=>cases c with
      | true=>exact ⟨_,one _,by decide,fun n=>rfl⟩
      | false=>exact ⟨_,nil,by decide,fun n=>rfl⟩
    refine ⟨fs,_,_,_,_,hl,hf,by decide,fun h=>rfl,fun h=>rfl,by rw [q];exact du,wy hd (k+5) e fs hl g _ _ b ev q rfl (hn c) hv,by rw [List.length_cons];omega,by cases b<;>cases c<;>decide,fun n hn=>⟨n+1,by omega,?_⟩,by decide,by cases b<;>cases c<;>decide⟩
    rw [go,if_neg (by omega),ge];rfl
   ·have nz:∀ b,u≠.bl b:=fun b y=>z ⟨b,y⟩
    exact ⟨fs,_,_,_,_,hl,hf,by decide,fun h=>rfl,fun h=>rfl,by rw [q];exact AF (j+4) (ntu (e::fs)) c gu nz,nW hd (k+5) e fs hl g _ _ rfl (hn c) nk (.inr ⟨u,q,nz,rfl⟩),by decide,by decide,gf nk (by decide),by decide,by decide⟩
end
def bkN(nm e:List Nat)(N:PV):PV:=.tup [.tup [.str [112,105,101,99,101],.str nm,.tup [.str e],.non,.tup [.tup [tgT,.str [60]],N,.tup [tgT,.str [62]]]]]
def gW(w t:List Nat):PV:=if w= [] then .tup [.str [119,114,105,116,116,101,110],.str ([60]++t++ [62])] else .tup [.str [114,101,102,117,115,101,100],.str w,.str ([60]++t)]
theorem zB{ev:List Ev1}{w t:List Nat}(h:wg ev w t):∃ m,go 0 ([.txt [60]]++(ev++([.txt [62]]++ [])))=(if w= [] then none else some w,m,if w= [] then [60]++t++ [62] else [60]++t):=by
 obtain ⟨m,hm,e⟩:=h 0 (by decide)
 rw [List.cons_append,List.nil_append,go,xF,e]
 by_cases c:w= []
 ·rw [if_pos c,if_pos c]
  exact ⟨m,by simp [go]⟩
 ·rw [if_neg c,if_neg c]
  exact ⟨m,by simp⟩
def dN(nm e:List Nat)(N:PV):List (PK×PV):=pcs [] ([]++ [(nm,[PV.tup [.str e],.non,.tup [.tup [tgT,.str [60]],N,.tup [tgT,.str [62]]]])])
theorem BG{N:PV}(pN:N.pure=true):ai [PV.tup [tgT,.str [60]],N,.tup [tgT,.str [62]]]=true:=by simp only [ai,pN,Bool.true_and];rfl
theorem Gq(nm e:List Nat){N:PV}(pN:N.pure=true):okD (dN nm e N)=true:=rX 4 _ (jU _ _ (fun p hp=>by
  rw [List.nil_append] at hp
  rw [List.mem_singleton.mp hp]
  show ai [PV.tup [.str e],.non,.tup [.tup [tgT,.str [60]],N,.tup [tgT,.str [62]]]]=true
  rw [ai,ai,ai,PV.pure,PV.pure,BG pN];rfl) rfl)
theorem sM(k:Nat)(nm e:List Nat)(he:∀ c∈e,c<1114112){v:PV}(g:Gx 6 v){N:PV}(pN:N.pure=true){ev:List Ev1}{w t:List Nat}(ht:t.length≤100000)
  (hr:Pn (k+22) (dN nm e N) (sc_ (rM e v) .non) N ev) (le:ev.length≤20) (te:wg ev w t):
  F (k+24) .written [bkN nm e N,.dct [(.inr e,v)]]= .ok (gW w t):=by
 have pv:=g.pure
 have pn:=BG pN
 have pS:(sc_ (rM e v) .non).pure=true:=by unfold sc_;rw [PV.pure,ai,fW e pv];rfl
 have pd:(PV.dct [(.inr e,v)]).pure=true:=by rw [PV.pure,aI,pv];rfl
 have hd:=Gq nm e pN
 obtain ⟨m,eg⟩:=zB te
 have wr:=oY (k+21) [] nm (.tup [.str e]) .non (.dct [(.inr e,v)]) (rM e v) [.tup [tgT,.str [60]],N,.tup [tgT,.str [62]]] ([.txt [60]]++(ev++([.txt [62]]++ []))) (by decide) pd (by have:=fW e pv;rwa [PV.pure] at this) (fun p hp=>by cases hp) rfl rfl
  (EA k e he g) (Jw (k+22) e v pv) (by rw [eg];dsimp only;split<;>simp<;>omega) (by simp;omega)
  (jG hd pS (gS (mE hd (k+20) _ [60]) (gS hr (gS (mE hd (k+20) _ [62]) qk))))
 rw [eg] at wr
 refine wr.trans ?_
 unfold gW
 by_cases c:w= []
 ·rw [if_pos c,if_pos c,if_pos c];rfl
 ·rw [if_neg c,if_neg c,if_neg c];rfl
theorem mO(k:Nat){x:List Nat}(hx:∀ c∈x,c<1114112)(h:List PO):qG (F k) [some (.str x),some (.str x)] h= .ok (.bl true) h:=by
 have e:=tV x x true hx hx (decide_eq_true rfl)
 simp only [EX,qG,e]
theorem Kx(k:Nat){a b:List Nat}(ha:∀ c∈a,c<1114112)(hb:∀ c∈b,c<1114112):F (k+1) .l_is [.tup [.str a,.str b],.tup [.str a,.str b]]= .ok (.bl true):=by
 have z:zpL [PV.str a,.str b] [.str a,.str b]= [.tup [.str a,.str a],.tup [.str b,.str b]]:=rfl
 have l2:(2:Nat)<16777216:=by decide
 have n2:∀ h,pNe (.int 2) (.int 2) h= .ok (.bl false) h:=fun h=>rfl
 have al:∀ h,BM [.lst [.bl true,.bl true]] h= .ok (.bl true) h:=fun h=>rfl
 show ar (nQ (F k)) 2 2 [.tup [.str a,.str b],.tup [.str a,.str b]]=_
 simp only [EX,ar,nQ,Int.cast_ofNat_Int,n2,z,l2,gL,mO k ha,mO k hb,dh,al]
 rfl
theorem Ip(k:Nat){a b c:List Nat}(ha:∀ c∈a,c<1114112)(hb:∀ c∈b,c<1114112)(hc:∀ x∈c,x<1114112):F (k+1) .l_is [.tup [.str a,.str b,.str c],.tup [.str a,.str b,.str c]]= .ok (.bl true):=by
 have z:zpL [PV.str a,.str b,.str c] [.str a,.str b,.str c]= [.tup [.str a,.str a],.tup [.str b,.str b],.tup [.str c,.str c]]:=rfl
 have l3:(3:Nat)<16777216:=by decide
 have n3:∀ h,pNe (.int 3) (.int 3) h= .ok (.bl false) h:=fun h=>rfl
 have al:∀ h,BM [.lst [.bl true,.bl true,.bl true]] h= .ok (.bl true) h:=fun h=>rfl
 show ar (nQ (F k)) 2 2 [.tup [.str a,.str b,.str c],.tup [.str a,.str b,.str c]]=_
 simp only [EX,ar,nQ,Int.cast_ofNat_Int,n3,z,l3,gL,mO k ha,mO k hb,mO k hc,dh,al]
 rfl
theorem Io(k:Nat){w t:List Nat}(hw:∀ c∈w,c<1114112)(ht:∀ c∈t,c<1114112):F (k+1) .l_is [gW w t,gW w t]= .ok (.bl true):=by
 unfold gW
 by_cases c:w= []
 ·rw [if_pos c]
  exact Kx k (by decide) (iT (iT (by decide) ht) (by decide))
 ·rw [if_neg c]
  exact Ip k (by decide) hw (iT (by decide) ht)
inductive NoV(x:List Nat):PV→Prop
 | kind (v:PV) (pv:v.pure=true) (hk:∀ h,aH [v,.ty "dict"] h= .ok (.bl false) h):NoV x v
 | miss (kvs:List (PK×PV)) (p:aI kvs=true) (e:bJ kvs (.inr x)=none):NoV x (.dct kvs)
 | more (y:List Nat) (hy:y≠x) (ly:Lt y):NoV x (.dct [(.inr x,.int 1),(.inr y,.int 2)])
 | bad (v:PV) (hv:dat v=true) (hb:isV 6 v=false):NoV x (.dct [(.inr x,v)])
theorem NoV.pure{x:List Nat}{v:PV}(h:NoV x v):v.pure=true:=by
 cases h with
 | kind v pv hk=>exact pv
 | miss kvs p e=>rw [PV.pure];exact p
 | more y hy ly=>rfl
 | bad v hv hb=>rw [PV.pure,aI,gE v hv];rfl
section
variable (k:Nat) {x:List Nat} (hx:Lt x)
theorem Hl{v:PV}{e:PV}(h:cz (F (k+22)) [some (.tup [.str x]),some v,none] []= .exc (.cls 8) []):X_ (k+23) .need_values [.tup [.str x],v] []= .exc (.cls 8) []:=by
 have r:X_ (k+23) .need_values [.tup [.str x],v] []=match cz (F (k+22)) [some (.tup [.str x]),some v,none] [] with
   | .nx _ h1=>qK 0 .non h1
   | .rt v h1=>rj 0 v h1
   | .exc e h1=>FD 0 e h1
   | _=>.bad:=rfl
 rw [r,h];rfl
include hx in
theorem Lx{v:PV}(h:NoV x v):X_ (k+23) .need_values [.tup [.str x],v] []= .exc (.cls 8) []:=by
 refine Hl k (e:=.non) ?_
 have it2:∀ h,gg (.tup [.str x]) h= .ok [.str x] h:=fun h=>rfl
 have ni:∀ h,cF (.str x) (.tup [.str x]) h= .ok (.bl false) h:=by
  have ni:=uY (x:=x) (ls:= [x]) hx (by intro l hl;cases List.mem_singleton.mp hl;exact hx)
  rw [decide_eq_true (List.mem_singleton.mpr rfl)] at ni
  exact ni
 have pv:=h.pure
 cases h with
 | kind v _ hk=>simp only [EX,cz,ak _ pv,hk,jh]
 | miss kvs p e=>simp only [EX,cz,dR,bh,ak _ pv,it2,e,jh]
 | more y hy ly=>
  have n2:∀ h,cF (.str y) (.tup [.str x]) h= .ok (.bl true) h:=by
   have ni:=uY (x:=y) (ls:= [x]) ly (by intro l hl;cases List.mem_singleton.mp hl;exact hx)
   rw [decide_eq_false (fun z=>hy (List.mem_singleton.mp z))] at ni
   exact ni
  have e:bJ [((.inr x:PK),PV.int 1),(.inr y,.int 2)] (.inr x)=some (.int 1):=by unfold bJ;rw [List.find?_cons_of_pos (by simp)];rfl
  have it:∀ h,gg (.dct [(.inr x,.int 1),(.inr y,.int 2)]) h= .ok [.str x,.str y] h:=fun h=>rfl
  have z:∀ h,bn (F (k+22) .is_value) [.int 1] h= .ok (.bl true) h:=fun h=>aK h rfl (is_value (k+22) (.int 1) (by omega) (by decide))
  simp only [EX,cz,dR,fT,bh,ak _ pv,it,it2,e,jh,ni,n2,z]
 | bad v hv hb=>
  have p1:=gE v hv
  have e:bJ [((.inr x:PK),v)] (.inr x)=some v:=by unfold bJ;rw [List.find?_cons_of_pos (by simp)];rfl
  have it:∀ h,gg (.dct [(.inr x,v)]) h= .ok [.str x] h:=fun h=>rfl
  have z:∀ h,bn (F (k+22) .is_value) [v] h= .ok (.bl false) h:=fun h=>aK h (by simp only [ai,p1];rfl) (by rw [is_value (k+22) v (by omega) hv,hb])
  simp only [EX,cz,dR,fT,bh,ak _ pv,ak _ p1,it,it2,e,jh,ni,z]
end
theorem yA:∀ (l:List PV),ai l=true→lvs l= []∧(∀ n,rnm n l=l)∧mJ l=true
 | [],_=>⟨rfl,fun _=>rfl,rfl⟩
 | p::r,hl=>by
  rw [ai,Bool.and_eq_true] at hl
  obtain ⟨a,b,c⟩:=yA r hl.2
  have np:∀ i,p≠.ref i:=fun i e=>by have:=hl.1;subst e;simp [PV.pure] at this
  have e:mJ (p::r)=(p.pure&&mJ r):=by cases p<;>first | rfl | exact (np _ rfl).elim
  refine ⟨?_,fun n=>?_,by rw [e,hl.1,c];rfl⟩
  ·cases p<;>first | exact a | exact (np _ rfl).elim
  ·cases p<;>first | exact congrArg _ (b n) | exact (np _ rfl).elim
theorem CZ{fn:List PV→List PO→Res PV}{ps:List PV}{v:PV}(h:List PO)(hp:ai ps=true)(e:fn ps []= .exc v [])(pv:v.pure=true):callL fn ps h= .exc v h:=by
 obtain ⟨a,b,c⟩:=yA _ hp
 unfold callL
 rw [a,b 0,c]
 simp only [kh,eE,lN,e,pv]
 rfl
theorem Hq(f:Nat→Bool)(i:Nat)(g:Sx)(ρ:Ev)(C:Nat)(h:List PO):nTr f i g ρ (.exc (.cls C) h)=if f C=true then (match g (ρ.set i (some (.exc C))) h with | .rt v h2=>.rt v h2 | _=>.bad) else .bad:=rfl
theorem ue(nm x:List Nat){N:PV}(pN:N.pure=true):(bkN nm x N).pure=true:=by
 unfold bkN
 simp only [PV.pure,ai,pN,tgT,Bool.true_and]
theorem LW(nm x:List Nat){N:PV}(pN:N.pure=true):∃ m,m.pure=true∧(∀ g,pIx (bkN nm x N) (.int (-1)) g= .ok m g)∧∀ g,pIx m (.int 2) g= .ok (.tup [.str x]) g:=by
 refine ⟨.tup [.str [112,105,101,99,101],.str nm,.tup [.str x],.non,.tup [.tup [tgT,.str [60]],N,.tup [tgT,.str [62]]]],?_,fun g=>rfl,fun g=>rfl⟩
 simp only [PV.pure,ai,pN,tgT,Bool.true_and]
theorem zq(k:Nat)(nm:List Nat){x:List Nat}(hx:Lt x){N v:PV}(pN:N.pure=true)(h:NoV x v):X_ (k+24) .written [bkN nm x N,v] []= .exc (.cls 8) []:=by
 have pv:=h.pure
 have pb:=ue nm x pN
 obtain ⟨m,pm,i1,i2⟩:=LW nm x pN
 have z:∀ g,callL (X_ (k+23) .need_values) [.tup [.str x],v] g= .exc (.cls 8) g:=fun g=>CZ g (by simp only [ai,pv];rfl) (Lx k hx h) rfl
 have r:X_ (k+24) .written [bkN nm x N,v] []=match kA (F (k+23)) (X_ (k+23)) [some (bkN nm x N),some v,none,none,none] [] with
   | .nx _ h1=>qK 0 .non h1
   | .rt v h1=>rj 0 v h1
   | .exc e h1=>FD 0 e h1
   | _=>.bad:=rfl
 rw [r]
 simp only [EX,kA,ak _ pb,ak _ pv,ak _ pm,i1,i2,z]
 rfl
theorem wD(k:Nat)(nm:List Nat){x:List Nat}(hx:Lt x){N v:PV}(pN:N.pure=true)(h:NoV x v):F (k+25) .l_refused [bkN nm x N,v]= .ok (.bl true):=by
 have pv:=h.pure
 have pb:=ue nm x pN
 have w:=zq k nm hx pN h
 have ct:gy 8=true:=rfl
 have ad:∀ h,aO (.lst [.bl false,.bl false,.bl false,.bl false]) (.lst [.bl false,.bl false,.bl false,.bl false]) h= .ok (.lst [.bl false,.bl false,.bl false,.bl false,.bl false,.bl false,.bl false,.bl false]) h:=fun h=>rfl
 have de:∀ h,ao h (.exc 8)= .exc 8:=fun h=>rfl
 have c12:∀ h,ir kd_ sC_ sT_ [.exc 8,.cls 12] h= .ok (.bl false) h:=fun h=>rfl
 have c11:∀ h,ir kd_ sC_ sT_ [.exc 8,.cls 11] h= .ok (.bl false) h:=fun h=>rfl
 have c7:∀ h,ir kd_ sC_ sT_ [.exc 8,.cls 7] h= .ok (.bl false) h:=fun h=>rfl
 have c6:∀ h,ir kd_ sC_ sT_ [.exc 8,.cls 6] h= .ok (.bl false) h:=fun h=>rfl
 have c10:∀ h,ir kd_ sC_ sT_ [.exc 8,.cls 10] h= .ok (.bl false) h:=fun h=>rfl
 have c14:∀ h,ir kd_ sC_ sT_ [.exc 8,.cls 14] h= .ok (.bl false) h:=fun h=>rfl
 have c9:∀ h,ir kd_ sC_ sT_ [.exc 8,.cls 9] h= .ok (.bl false) h:=fun h=>rfl
 have c13:∀ h,ir kd_ sC_ sT_ [.exc 8,.cls 13] h= .ok (.bl false) h:=fun h=>rfl
 have c8:∀ h,ir kd_ sC_ sT_ [.exc 8,.cls 8] h= .ok (.bl true) h:=fun h=>rfl
 have cV:∀ h,ir kd_ sC_ sT_ [.exc 8,.ty "ValueError"] h= .ok (.bl true) h:=fun h=>rfl
 have ni:∀ h,cF (.bl true) (.lst [.bl false,.bl false,.bl false,.bl false,.bl false,.bl false,.bl false,.bl false]) h= .ok (.bl true) h:=fun h=>rfl
 show ar (iL (F (k+24)) (X_ (k+24))) 2 4 [bkN nm x N,v]=_
 simp only [EX,ar,iL,ak _ pb,ak _ pv,w,Hq,ct,de,ad,c12,c11,c7,c6,c10,c14,c9,c13,c8,cV,ni,br]
def zp:PV:=.str (List.replicate 401 120)
def l41:PV:=.lst (List.replicate 41 (.int 1))
def wX:PV:=.dct [(.inr [97],.int 1),(.inr [98],.int 1),(.inr [99],.int 1),(.inr [100],.int 1),(.inr [101],.int 1),(.inr [102],.int 1),(.inr [103],.int 1),(.inr [104],.int 1),(.inr [105],.int 1)]
def nvs(x y:List Nat):List PV:= [.dct [],.dct [(.inr x,.int 1),(.inr y,.int 2)],.dct [(.inr y,.int 1)],.non,.lst [.str x],.dct [(.inr x,.non)],.dct [(.inr x,.tup [.int 1])],.dct [(.inr x,zp)],.dct [(.inr x,.int 1000000000000000000000000000000)],.dct [(.inr x,l41)],.dct [(.inr x,.dct [(.inr [101,110,100],.int 1)])],.dct [(.inr x,.lst [.lst [.lst [.lst [.lst [.lst [.int 1]]]]]])],.dct [(.inr x,.dct [(.inl 1,.int 1)])],.dct [(.inr x,wX)],.str x]
theorem Hj{x y:List Nat}(hxy:y≠x)(ly:Lt y):∀ v∈nvs x y,NoV x v:=by
 intro v hv
 have vy:bJ [((.inr y:PK),PV.int 1)] (.inr x)=none:=by unfold bJ;simp [hxy]
 unfold nvs at hv
 simp only [List.mem_cons,List.not_mem_nil,or_false] at hv
 rcases hv with rfl | rfl | rfl | rfl | rfl | rfl | rfl | rfl | rfl | rfl | rfl | rfl | rfl | rfl | rfl
 ·exact .miss _ rfl rfl
 ·exact .more y hxy ly
 ·exact .miss _ rfl vy
 ·exact .kind _ rfl fun h=>rfl
 ·exact .kind _ rfl fun h=>rfl
 ·exact .bad _ (by decide) (by decide)
 ·exact .bad _ (by decide) (by decide)
 ·exact .bad _ (by kernel_rfl) (by kernel_rfl)
 ·exact .bad _ (by kernel_rfl) (by kernel_rfl)
 ·exact .bad _ (by kernel_rfl) (by kernel_rfl)
 ·exact .bad _ (by kernel_rfl) (by kernel_rfl)
 ·exact .bad _ (by kernel_rfl) (by kernel_rfl)
 ·exact .bad _ (by kernel_rfl) (by kernel_rfl)
 ·exact .bad _ (by kernel_rfl) (by kernel_rfl)
 ·exact .kind _ rfl fun h=>rfl
theorem Ai(k:Nat){x y:List Nat}(hxy:y≠x)(ly:Lt y)(n:Int):∃ v,NoV x v∧F (k+1) .l_no_values [.str x,.str y,.int n]= .ok v:=by
 obtain ⟨v,hv,ev⟩:=qZ (xs:=nvs x y) (m:=n) (n:=15) rfl (by decide)
 have no:=Hj hxy ly v hv
 have pv:=no.pure
 refine ⟨v,no,?_⟩
 have e9:∀ ρ,cFz (cN lM (aa (cN okL (gH [] (ng (cK (.str [97,98,99,100,101,102,103,104,105]))) et (fG (F k)))) aj)) ρ []= .ok wX [.froz wX]:=fun ρ=>by
  simp only [EX,fG]
  rw [if_pos (by decide)]
  simp only [EX,eI,dh]
  rfl
 have m1:∀ h,eF (.str [120]) (.int 401) h= .ok zp h:=fun h=>rfl
 have m2:∀ h,eF (.lst [.int 1]) (.int 41) h= .ok l41 h:=fun h=>rfl
 have pu:∀ (k:PK) (v:PV),cg [] k v= [(k,v)]:=fun _ _=>rfl
 have p2:cg [((.inr x:PK),PV.int 1)] (.inr y) (.int 2)= [(.inr x,.int 1),(.inr y,.int 2)]:=by
  simp [cg,Ne.symm hxy]
 have a1:∀ h,aO (.lst [.dct [],.dct [(.inr x,.int 1),(.inr y,.int 2)],.dct [(.inr y,.int 1)],.non,.lst [.str x],.dct [(.inr x,.non)],.dct [(.inr x,.tup [.int 1])],.dct [(.inr x,zp)]]) (.lst [.dct [(.inr x,.int 1000000000000000000000000000000)],.dct [(.inr x,l41)],.dct [(.inr x,.dct [(.inr [101,110,100],.int 1)])],.dct [(.inr x,.lst [.lst [.lst [.lst [.lst [.lst [.int 1]]]]]])],.dct [(.inr x,.dct [(.inl 1,.int 1)])]]) h= .ok (.lst [.dct [],.dct [(.inr x,.int 1),(.inr y,.int 2)],.dct [(.inr y,.int 1)],.non,.lst [.str x],.dct [(.inr x,.non)],.dct [(.inr x,.tup [.int 1])],.dct [(.inr x,zp)],.dct [(.inr x,.int 1000000000000000000000000000000)],.dct [(.inr x,l41)],.dct [(.inr x,.dct [(.inr [101,110,100],.int 1)])],.dct [(.inr x,.lst [.lst [.lst [.lst [.lst [.lst [.int 1]]]]]])],.dct [(.inr x,.dct [(.inl 1,.int 1)])]]) h:=fun h=>rfl
 have a2:∀ h,aO (.lst [.dct [],.dct [(.inr x,.int 1),(.inr y,.int 2)],.dct [(.inr y,.int 1)],.non,.lst [.str x],.dct [(.inr x,.non)],.dct [(.inr x,.tup [.int 1])],.dct [(.inr x,zp)],.dct [(.inr x,.int 1000000000000000000000000000000)],.dct [(.inr x,l41)],.dct [(.inr x,.dct [(.inr [101,110,100],.int 1)])],.dct [(.inr x,.lst [.lst [.lst [.lst [.lst [.lst [.int 1]]]]]])],.dct [(.inr x,.dct [(.inl 1,.int 1)])]]) (.lst [.dct [(.inr x,wX)],.str x]) h= .ok (.lst [.dct [],.dct [(.inr x,.int 1),(.inr y,.int 2)],.dct [(.inr y,.int 1)],.non,.lst [.str x],.dct [(.inr x,.non)],.dct [(.inr x,.tup [.int 1])],.dct [(.inr x,zp)],.dct [(.inr x,.int 1000000000000000000000000000000)],.dct [(.inr x,l41)],.dct [(.inr x,.dct [(.inr [101,110,100],.int 1)])],.dct [(.inr x,.lst [.lst [.lst [.lst [.lst [.lst [.int 1]]]]]])],.dct [(.inr x,.dct [(.inl 1,.int 1)])],.dct [(.inr x,wX)],.str x]) h:=fun h=>rfl
 have pw:decide (Int.natAbs 10<18446744073709551616)=true:=rfl
 have p30:(10:Int) ^ Int.toNat 30=1000000000000000000000000000000:=rfl
 have dn:∀ h,ao h wX=wX:=fun h=>rfl
 unfold nvs at ev
 show ar (gz (F k)) 3 5 [.str x,.str y,.int n]=_
 unfold gz
 generalize (cFz (cN lM (aa (cN okL (gH [] (ng (cK (.str [97,98,99,100,101,102,103,104,105]))) et (fG (F k)))) aj)))=f9 at e9
 simp only [EX,ar,e9,m1,m2,eZ,kr,jZ,Res.bind_ok,mkD,List.foldl_cons,List.foldl_nil,pu,p2,pw,p30,if_true,dn,a1,a2,ev,ak _ pv]
 exact fm _ pv
def rnL(bt:List Nat)(E:Ls):Nat→Nat→Ls
 | _,0=> []
 | i,s+1=>(if i>0 then bt else [])::(E++rnL bt E (i+1) s)
theorem yl(bt:List Nat)(E:Ls):∀ s i:Nat,rdE bt i (List.replicate s (E.map .cnt))=(rnL bt E i s).map .cnt
 | 0,_=>rfl
 | s+1,i=>by rw [List.replicate_succ,rdE,yl bt E s (i+1),rnL,List.map_cons,List.map_append]
theorem oN(bt:List Nat)(E:Ls):∀ s i:Nat,(rnL bt E i s).length=s * (1+E.length)
 | 0,_=>by simp [rnL]
 | s+1,i=>by rw [rnL,List.length_cons,List.length_append,oN bt E s (i+1),Nat.succ_mul];omega
def One(E:Ls):Prop:=∀ t∈E,t.length≤1∧∀ c∈t,c<1114112
theorem yr{a b:Ls}(ha:One a)(hb:One b):One (a++b):=fun t ht=>by
 rcases List.mem_append.mp ht with q | q
 ·exact ha t q
 ·exact hb t q
theorem qp{t:List Nat}{b:Ls}(ha:t.length≤1∧∀ c∈t,c<1114112)(hb:One b):One (t::b):=fun u hu=>by
 rcases List.mem_cons.mp hu with rfl | q
 ·exact ha
 ·exact hb u q
theorem tz{bt:List Nat}(hb:bt.length≤1∧∀ c∈bt,c<1114112){E:Ls}(h:One E):∀ s i:Nat,One (rnL bt E i s)
 | 0,_=>fun t ht=>by cases ht
 | s+1,i=>by
  rw [rnL]
  refine qp ?_ (yr h (tz hb h s (i+1)))
  split
  ·exact hb
  ·exact ⟨by simp,by simp⟩
theorem jb:∀ {E:Ls},One E→E.flatten.length≤E.length∧∀ c∈E.flatten,c<1114112
 | [],_=>by simp
 | t::r,h=>by
  obtain ⟨a,b⟩:=h t List.mem_cons_self
  obtain ⟨c,d⟩:=jb (E:=r) fun u hu=>h u (List.mem_cons_of_mem _ hu)
  rw [List.flatten_cons,List.length_append,List.length_cons]
  exact ⟨by omega,iT b d⟩
theorem uS{E:Ls}(h:One E)(n:Nat):One (E.take n):=fun t ht=>h t (List.mem_of_mem_take ht)
theorem CB(r:List Ev1):∀ (E:Ls) (n:Nat),n+E.length≤2000→go (n:Int) (E.map .cnt++r)=((go ((n+E.length:Nat):Int) r).1,(go ((n+E.length:Nat):Int) r).2.1,E.flatten++(go ((n+E.length:Nat):Int) r).2.2)
 | [],n,_=>by simp
 | t::E,n,h=>by
  rw [List.length_cons] at h
  have ih:=CB r E (n+1) (by omega)
  rw [List.map_cons,List.cons_append,go,if_neg (by omega),show (n:Int)+1=((n+1:Nat):Int) by omega,ih,List.length_cons,show n+1+E.length=n+(E.length+1) by omega,List.flatten_cons,List.append_assoc]
theorem yI(r:List Ev1):∀ (E:Ls) (n:Nat),n≤2000→2000<n+E.length→go (n:Int) (E.map .cnt++r)=(some fU,2001,(E.take (2000 - n)).flatten)
 | [],n,h0,h=>by rw [List.length_nil] at h;omega
 | t::E,n,h0,h=>by
  rw [List.length_cons] at h
  rw [List.map_cons,List.cons_append,go]
  by_cases z:n=2000
  ·subst z
   rw [if_pos (by omega)]
   simp
  ·have ih:=yI r E (n+1) (by omega) (by omega)
   rw [if_neg (by omega),show (n:Int)+1=((n+1:Nat):Int) by omega,ih,show 2000 - n=(2000 - (n+1))+1 by omega,List.take_succ_cons,List.flatten_cons]
def iS(E:Ls)(last:Bool):PV:=if 2000<E.length+(if last=true then 1 else 0) then .tup [.str [114,101,102,117,115,101,100],.str fU,.str (E.take 2000).flatten] else if last=true then .tup [.str [114,101,102,117,115,101,100],.str cE,.str E.flatten] else .tup [.str [119,114,105,116,116,101,110],.str (E.flatten++ [101,110,100])]
def jd(last:Bool):List Ev1:=if last=true then [.cnt [],.stop cE] else [.txt [101,110,100]]
theorem zA(E:Ls)(last:Bool):GI (go 0 (E.map .cnt++jd last)).1 (go 0 (E.map .cnt++jd last)).2.2=iS E last:=by
 by_cases h:E.length≤2000
 ·have g:=CB (jd last) E 0 (by omega)
  rw [Nat.zero_add] at g
  have g:go 0 (E.map .cnt++jd last)=_:=g
  rw [g]
  cases last with
  | false=>
   have d:iS E false= .tup [.str [119,114,105,116,116,101,110],.str (E.flatten++ [101,110,100])]:=by
    unfold iS
    rw [if_neg (by show ¬ 2000<E.length+0;omega)];rfl
   rw [d]
   rfl
  | true=>
   by_cases z:E.length=2000
   ·have d:iS E true= .tup [.str [114,101,102,117,115,101,100],.str fU,.str E.flatten]:=by
     unfold iS
     rw [if_pos (by show 2000<E.length+1;omega),← z,List.take_length]
    rw [d,z]
    show GI (some fU) (E.flatten++ [])=_
    rw [List.append_nil];rfl
   ·have d:iS E true= .tup [.str [114,101,102,117,115,101,100],.str cE,.str E.flatten]:=by
     unfold iS
     rw [if_neg (by show ¬ 2000<E.length+1;omega)];rfl
    have e:go (E.length:Int) (jd true)=(some cE,(E.length:Int)+1,[]):=by
     show go _ [.cnt [],.stop cE]=_
     rw [go,if_neg (by omega)];rfl
    rw [d,e,List.append_nil]
    rfl
 ·have g:=yI (jd last) E 0 (by omega) (by omega)
  have g:go 0 (E.map .cnt++jd last)=_:=g
  rw [g]
  unfold iS
  rw [if_pos (by omega)]
  rfl
def yS:PV:=.str [121]
def mL(s:Nat):PV:=.lst (List.replicate s yS)
def plB:PV:=.tup [tgP,.tup [.str [98]],.str (gb 0)]
def inN(q:Bool):List PV:=if q=true then [.tup [tgC,.tup [.str [99]],.tup [plB],.tup []]] else [plB]
def inE(q:Bool):Ls:=if q=true then [[],[121]] else [[121]]
theorem rF{v:PV}(p:v.pure=true):∀ s:Nat,ai (List.replicate s v)=true
 | 0=>rfl
 | s+1=>by rw [List.replicate_succ,ai,p,rF p s];rfl
theorem jx(s:Nat):(mL s).pure=true:=by unfold mL;rw [PV.pure];exact rF rfl s
theorem mP(q:Bool):ai (inN q)=true:=by cases q<;>rfl
theorem Fr(c:Nat)(hc:c=120∨c=121):ky 0 (.str [c]) true [c]:=by
 obtain ⟨b,s,f⟩:=yL 0 (by decide) (.str [c] (by simp) (by rcases hc with rfl | rfl<;>simp):Dv (.str [c]))
 have f1:F 3 (vO 0) [.ins 0 [],.str [c]]= .ok (.bl true):=by rcases hc with rfl | rfl<;>kernel_rfl
 have f2:F 2 (DA 0) [.ins 0 [],.str [c]]= .ok (.str [c]):=by rcases hc with rfl | rfl<;>kernel_rfl
 have b1:b=true:=by have:=(f.1 0).symm.trans f1;injection this with z;injection z
 subst b1
 have s1:s= [c]:=by have:=((f.2 rfl).1 0).symm.trans f2;injection this with z;injection z
 rwa [s1] at f
section
variable {d:List (PK×PV)} (hd:okD d=true) (k:Nat) (D:List (PK×PV)) (B:PV) (pD:aI D=true) (pB:B.pure=true)
include pD pB in
theorem fF:(sc_ D B).pure=true:=by
 have:(PV.dct D).pure=true:=by rw [PV.pure];exact pD
 unfold sc_;rw [PV.pure,ai,this,ai,pB];rfl
include hd pD pB
theorem nA(x:List Nat)(c:Nat)(hc:c=120∨c=121)(e:bJ D (.inr x)=some (.tup [.str [c]])):Pn (k+8) d (sc_ D B) (.tup [tgP,.tup [.str x],.str (gb 0)]) [.cnt [c]]:=
 mF hd k (.str [c]) [] [.str x] (sc_ D B) (fF D B pD pB) rfl rfl rfl (fun k=>kU k x [] (.str [c]) [] D B e (by rw [PV.pure];exact pD) rfl rfl (by simp)) (by decide) (o:=some (.str [c])) (fun k=>tT k _ rfl) (fun u z=>by injection z with z;rw [← z];rfl) (fun _=>(true,[c])) (fun u z=>by injection z with z;rw [← z];exact Fr c hc)
theorem Cy(eb:bJ D (.inr [98])=some (.tup [yS]))(ec:bJ D (.inr [99])=some (.tup [.bl true]))(q:Bool):Pw (k+11) d (sc_ D B) (inN q) ((inE q).map .cnt):=by
 have pS:=fF D B pD pB
 cases q with
 | false=>exact jG hd pS (jS (nA hd (k+2) D B pD pB [98] 121 (.inr rfl) eb))
 | true=>
  have p:=jG hd pS (jS (nA hd k D B pD pB [98] 121 (.inr rfl) eb))
  exact jG hd pS (jS (rI hd (k+4) (.bl true) [] [.str [99]] (sc_ D B) pS rfl rfl rfl (fun k=>kU k [99] [] (.bl true) [] D B ec (by rw [PV.pure];exact pD) rfl rfl (by simp)) [plB] [] true [.cnt [121]] (fun k=>tT k _ rfl) rfl rfl p))
theorem xj(hl:D.length≤1000)(s:Nat)(em:bJ D (.inr [109])=some (.tup [mL s]))(x bt:List Nat)(nodes:List PV)(pn:ai nodes=true)(E:Ls)(w:Pw (k+4) d (sc_ (cg D (.inr x) (.tup [yS])) B) nodes (E.map .cnt)):
  Pn (k+6) d (sc_ D B) (.tup [tgL,.str x,.tup [.str [109]],.tup nodes,.str bt]) (([]::rnL bt E 0 s).map .cnt):=by
 have pS:=fF D B pD pB
 have pm:=jx s
 have e1:(List.replicate s ((yS,E.map Ev1.cnt):Ie)).map (·.1)=List.replicate s yS:=by rw [List.map_replicate]
 have e2:(List.replicate s ((yS,E.map Ev1.cnt):Ie)).map (·.2)=List.replicate s (E.map .cnt):=by rw [List.map_replicate]
 have fo:Fo (mL s) [] (some (.lst ((List.replicate s ((yS,E.map Ev1.cnt):Ie)).map (·.1)))):=fun k=>by rw [e1];exact tT k _ pm
 have p:=yn hd k (mL s) [] [.str [109]] (sc_ D B) pS rfl pm rfl (fun k=>kU k [109] [] (mL s) [] D B em (by rw [PV.pure];exact pD) rfl (by rw [ai,pm];rfl) (by simp)) x bt nodes (List.replicate s (yS,E.map .cnt)) pn fo (fun t ht=>by
  rw [List.eq_of_mem_replicate ht]
  exact ⟨rfl,_,fF _ B (cb D _ _ pD rfl) pB,yH (k+3) x [yS] D B (by rw [PV.pure];exact pD) pB rfl hl,w⟩)
 rw [e2,yl] at p
 exact p
end
def rh(q:Bool):PV:=.tup [tgL,.str [98],.tup [.str [109]],.tup (inN q),.str [44]]
def HA:PV:=.tup [tgU,.str [113],.tup [.tup [.str [109]],.tup [.str [99]]],.non,.non]
def JX(q:Bool):PV:=.tup [tgU,.str [113],.tup [.tup [.str [109]]],.tup [.str [98]],.tup (inN q)]
def pc1(q:Bool):Pq:=([113],[.tup [.str [109],.str [99]],.non,.tup [rh q]])
def pc2:Pq:=([113],[.tup [.str [109]],.int 1,.tup [.tup [tgL,.str [120],.tup [.str [109]],.tup [.tup [tgB,.tup [.tup [.str [120]]]]],.str [44]]]])
def leE(q:Bool)(s:Nat):Ls:= []::rnL [44] (inE q) 0 s
theorem Ap(q:Bool):(rh q).pure=true:=by cases q<;>rfl
section
variable {d:List (PK×PV)} (hd:okD d=true) (k:Nat) (D:List (PK×PV)) (B:PV) (pD:aI D=true) (pB:B.pure=true) (hl:D.length≤900) (s:Nat) (em:bJ D (.inr [109])=some (.tup [mL s])) (ec:bJ D (.inr [99])=some (.tup [.bl true])) (q:Bool)
include hd pD pB hl em ec
theorem Jt:Pn (k+13) d (sc_ D B) (rh q) ((leE q s).map .cnt):=
 xj hd (k+7) D B pD pB (by omega) s em [98] [44] (inN q) (mP q) (inE q) (Cy hd k (cg D (.inr [98]) (.tup [yS])) B (cb D _ _ pD rfl) pB (by rw [dz,if_pos rfl]) (by rw [dz,if_neg (by decide)];exact ec) q)
theorem Lu(vv:bJ d (.inr [113])=some (pq (pc1 q))):Pn (k+15) d (sc_ D B) HA ((leE q s).map .cnt):=by
 have pm:=jx s
 have pS:=fF D B pD pB
 have pd:(PV.dct D).pure=true:=by rw [PV.pure];exact pD
 have p2:aI (hnd [] [([109],[.str [109]],[mL s]),([99],[.str [99]],[.bl true])])=true:=cb (cg [] (.inr [109]) (.tup [mL s])) (.inr [99]) (.tup [.bl true]) (cb [] (.inr [109]) (.tup [mL s]) rfl (by rw [PV.pure,ai,pm];rfl)) rfl
 refine Ec hd (k+11) [113] [([109],[.str [109]],[mL s]),([99],[.str [99]],[.bl true])] (.str [112,105,101,99,101]) (.str [113]) .non (sc_ D B) [rh q] _ pS ?_ (by simp) (by rw [ai,Ap];rfl) rfl rfl rfl vv ?_
 ·intro t ht
  simp only [List.mem_cons,List.not_mem_nil,or_false] at ht
  rcases ht with rfl | rfl
  ·exact ⟨kU (k+11) [109] [] (mL s) [] D B em pd rfl (by rw [ai,pm];rfl) (by simp),rfl,by rw [ai,pm];rfl⟩
  ·exact ⟨kU (k+11) [99] [] (.bl true) [] D B ec pd rfl rfl (by simp),rfl,rfl⟩
 ·exact jG hd (fF _ _ p2 rfl) (jS (Jt hd k (hnd [] [([109],[.str [109]],[mL s]),([99],[.str [99]],[.bl true])]) .non p2 rfl (by show (2:Nat)≤900;decide) s (by rfl) (by rfl) q))
theorem Lr(vv:bJ d (.inr [113])=some (pq pc2)):Pn (k+17) d (sc_ D B) (JX q) ((leE q s).map .cnt):=by
 have pm:=jx s
 have pS:=fF D B pD pB
 have pd:(PV.dct D).pure=true:=by rw [PV.pure];exact pD
 have p2:aI (hnd [] [([109],[.str [109]],[mL s])])=true:=cb [] (.inr [109]) (.tup [mL s]) rfl (by rw [PV.pure,ai,pm];rfl)
 have pB2:(PV.tup [.tup [.str [98]],.tup (inN q),sc_ D B]).pure=true:=by
  have:=mP q
  simp only [PV.pure,ai,this]
  have pS:=pS
  unfold sc_ at pS
  simp only [PV.pure,ai] at pS
  unfold sc_
  simp only [PV.pure,ai]
  rw [pS];rfl
 refine Hf hd (k+13) [113] [([109],[.str [109]],[mL s])] (.tup [.str [98]]) (.tup (inN q)) (.str [112,105,101,99,101]) (.str [113]) (.int 1) (sc_ D B) [.tup [tgL,.str [120],.tup [.str [109]],.tup [.tup [tgB,.tup [.tup [.str [120]]]]],.str [44]]] _ pS ?_ (by simp) rfl (by rw [PV.pure];exact mP q) rfl rfl rfl rfl rfl vv ?_
 ·intro t ht
  simp only [List.mem_cons,List.not_mem_nil,or_false] at ht
  subst ht
  exact ⟨kU (k+13) [109] [] (mL s) [] D B em pd rfl (by rw [ai,pm];rfl) (by simp),rfl,by rw [ai,pm];rfl⟩
 ·refine jG hd (fF _ _ p2 pB2) (jS (xj hd (k+9) _ _ p2 pB2 (by show (1:Nat)≤1000;decide) s (by rfl) [120] [44] [.tup [tgB,.tup [.tup [.str [120]]]]] rfl (inE q) ?_))
  have p3:aI (cg (hnd [] [([109],[.str [109]],[mL s])]) (.inr [120]) (.tup [yS]))=true:=cb _ _ _ p2 rfl
  refine jG hd (fF _ _ p3 pB2) (jS (Ed hd (k+8) D B (inN q) _ pD pB (mP q) p3 [([98],[.str [120]],[yS])] _ ?_ (by simp;omega) ?_))
  ·intro t ht
   simp only [List.mem_cons,List.not_mem_nil,or_false] at ht
   subst ht
   exact ⟨kU (k+8) [120] [] yS [] _ _ (by rw [dz,if_pos rfl]) (by rw [PV.pure];exact p3) rfl rfl (by simp),rfl,rfl⟩
  ·exact Cy hd k (hnd D [([98],[.str [120]],[yS])]) B (cb D _ _ pD rfl) pB (by show bJ (cg D _ _) _=_;rw [dz,if_pos rfl]) (by show bJ (cg D _ _) _=_;rw [dz,if_neg (by decide)];exact ec) q
end
def vL(s:Nat):List (PK×PV):= [(.inr [109],mL s),(.inr [116],.str [120]),(.inr [99],.bl true)]
def rL(s:Nat):List (PK×PV):= [(.inr [109],.tup [mL s]),(.inr [116],.tup [.str [120]]),(.inr [99],.tup [.bl true])]
def nmL:PV:=.tup [.str [109],.str [116],.str [99]]
theorem ma(s:Nat):(PV.dct (vL s)).pure=true:=by unfold vL;rw [PV.pure,aI,jx];rfl
theorem jv(s:Nat):aI (rL s)=true:=by unfold rL;rw [aI,PV.pure,ai,jx];rfl
theorem FR(s:Nat):bJ (vL s) (.inr [109])=some (mL s)∧bJ (vL s) (.inr [116])=some (.str [120])∧bJ (vL s) (.inr [99])=some (.bl true):=⟨rfl,rfl,rfl⟩
theorem Jv(k s:Nat):F (k+1) .references_to [.dct (vL s)]= .ok (.dct (rL s)):=by
 show ar (cI (F k)) 1 3 [.dct (vL s)]=_
 have pd:=ma s
 have pm:=jx s
 obtain ⟨e1,e2,e3⟩:=FR s
 have it:∀ h,gg (.dct (vL s)) h= .ok [.str [109],.str [116],.str [99]] h:=fun h=>rfl
 have u1:cg [] (.inr [109]) (.tup [mL s])= [(.inr [109],.tup [mL s])]:=rfl
 have u2:cg [(.inr [109],.tup [mL s])] (.inr [116]) (.tup [.str [120]])= [(.inr [109],.tup [mL s]),(.inr [116],.tup [.str [120]])]:=rfl
 have u3:cg [(.inr [109],.tup [mL s]),(.inr [116],.tup [.str [120]])] (.inr [99]) (.tup [.bl true])=rL s:=rfl
 have p1:aI [((.inr [109]:PK),PV.tup [mL s])]=true:=by rw [aI,PV.pure,ai,pm];rfl
 have p2:aI [((.inr [109]:PK),PV.tup [mL s]),(.inr [116],.tup [.str [120]])]=true:=by rw [aI,PV.pure,ai,pm];rfl
 have l3:(1:Nat)<16777216∧(2:Nat)<16777216∧(0:Nat)<16777216:=by decide
 simp only [EV,ar,cI,fS,bh,ak _ pd,it,e1,e2,e3,ak _ pm,u1,u2,u3]
 simp only [EV,l3,e2,e3,List.length_cons,List.length_nil,ak _ pm,u1,u2,u3,sp _ (jv s)]
 exact fm _ (by rw [PV.pure];exact jv s)
theorem JQ{s:Nat}(hs:s≤40):isV 6 (mL s)=true∧dat (mL s)=true:=by
 unfold mL
 constructor
 ·rw [isV,List.length_replicate,decide_eq_true hs,Bool.true_and,List.all_eq_true]
  intro x hx
  rw [List.eq_of_mem_replicate hx]
  kernel_rfl
 ·rw [dat,mT,List.all_eq_true]
  intro x hx
  rw [List.eq_of_mem_replicate hx]
  kernel_rfl
theorem JL(k:Nat){s:Nat}(hs:s≤40):F (k+23) .need_values [nmL,.dct (vL s)]= .ok .non:=by
 have pd:=ma s
 have pm:=jx s
 obtain ⟨e1,e2,e3⟩:=FR s
 obtain ⟨m1,m2⟩:=JQ hs
 have z1:∀ h,bn (F (k+22) .is_value) [mL s] h= .ok (.bl true) h:=fun h=>aK h (by rw [ai,pm];rfl) (by rw [is_value (k+22) (mL s) (by omega) m2,m1])
 have z2:∀ h,bn (F (k+22) .is_value) [.str [120]] h= .ok (.bl true) h:=fun h=>aK h rfl (by rw [is_value (k+22) (.str [120]) (by omega) (by decide)];congr 1)
 have z3:∀ h,bn (F (k+22) .is_value) [.bl true] h= .ok (.bl true) h:=fun h=>aK h rfl (by rw [is_value (k+22) (.bl true) (by omega) (by decide)];congr 1)
 have it:∀ h,gg (.dct (vL s)) h= .ok [.str [109],.str [116],.str [99]] h:=fun h=>rfl
 have it2:∀ h,gg nmL h= .ok [.str [109],.str [116],.str [99]] h:=fun h=>rfl
 have ni:∀ x,x∈ [[109],[116],[99]]→∀ h,cF (.str x) nmL h= .ok (.bl false) h:=fun x hx h=>by
  have ni:=uY (x:=x) (ls:= [[109],[116],[99]]) (by revert hx;revert x;decide) (by decide) h
  rw [decide_eq_true hx] at ni
  exact ni
 have n1:=ni [109] (by decide)
 have n2:=ni [116] (by decide)
 have n3:=ni [99] (by decide)
 have dn:∀ h,ao h nmL=nmL:=fun h=>rfl
 show ar (dH (F (k+22))) 2 3 [nmL,.dct (vL s)]=_
 simp only [EX,ar,dH,gK,gJ,bh,ak _ pd,dn,it,it2,e1,e2,e3,ak _ pm,z1,z2,z3,n1,n2,n3]
def plT:PV:=.tup [tgP,.tup [.str [116]],.str (gb 0)]
def jc(last:Bool):PV:=if last=true then .tup [tgP,.tup [.str [116],.str [108,111,115,116]],.str (gb 0)] else .tup [tgT,.str [101,110,100]]
def iB(L:PV):PV:=.tup [tgL,.str [97],.tup [.str [109]],.tup [L],.str [59]]
def fQ(A:Nat)(L:PV)(last:Bool):List PV:=List.replicate A plT++ [iB L,jc last]
def jF(A:Nat)(q:Bool)(s:Nat):Ls:=List.replicate A [120]++([]::rnL [59] (leE q s) 0 s)
theorem EF:Fo (.str [120]) [.str [108,111,115,116]] none:=jg [[108,111,115,116]] (d:=1) (v:=.str [120]) (.str 0 [120] (by decide) (by decide))
section
variable {d:List (PK×PV)} (hd:okD d=true) (k s:Nat) (q:Bool) (L:PV) (pL:L.pure=true)
 (hL:∀ k D,aI D=true→D.length≤900→bJ D (.inr [109])=some (.tup [mL s])→bJ D (.inr [99])=some (.tup [.bl true])→Pn (k+17) d (sc_ D .non) L ((leE q s).map .cnt))
include hd
theorem Ci(last:Bool):Pn (k+20) d (sc_ (rL s) .non) (jc last) (jd last):=by
 cases last with
 | false=>exact mE hd (k+18) _ [101,110,100]
 | true=>
  have p:=jv s
  exact mF hd (k+12) (.str [120]) [.str [108,111,115,116]] [.str [116],.str [108,111,115,116]] (sc_ (rL s) .non) (fF _ _ p rfl) rfl rfl rfl (fun k=>kU k [116] [.str [108,111,115,116]] (.str [120]) [] (rL s) .non rfl (by rw [PV.pure];exact p) rfl rfl (by simp)) (i:=0) (by decide) (o:=none) EF (fun u z=>by cases z) (fun _=>(true,[])) (fun u z=>by cases z)
include pL hL
theorem Bm:Pn (k+20) d (sc_ (rL s) .non) (iB L) (([]::rnL [59] (leE q s) 0 s).map .cnt):=by
 have p:=jv s
 have p2:aI (cg (rL s) (.inr [97]) (.tup [yS]))=true:=cb _ _ _ p rfl
 exact xj hd (k+14) (rL s) .non p rfl (by show (3:Nat)≤1000;decide) s rfl [97] [59] [L] (by rw [ai,pL];rfl) (leE q s) (jG hd (fF _ _ p2 rfl) (jS (hL k _ p2 (by show (4:Nat)≤900;decide) (by rw [dz,if_neg (by decide)];rfl) (by rw [dz,if_neg (by decide)];rfl))))
theorem vf(last:Bool):∀ A:Nat,Pl (k+20) d (sc_ (rL s) .non) (fQ A L last) ((jF A q s).map .cnt++jd last)
 | 0=>by
  have a:=gS (Bm hd k s q L pL hL) (jS (Ci hd k s last))
  exact a
 | A+1=>by
  have a:=gS (nA hd (k+12) (rL s) .non (jv s) rfl [116] 120 (.inl rfl) rfl) (vf last A)
  exact a
end
theorem wc(A:Nat)(q:Bool)(s:Nat):(jF A q s).length=A+1+s * (2+s * (2+(if q=true then 1 else 0))):=by
 have h:(inE q).length=1+(if q=true then 1 else 0):=by cases q<;>rfl
 have h2:(leE q s).length=1+s * (2+(if q=true then 1 else 0)):=by
  unfold leE
  rw [List.length_cons,oN,h,show 1+(1+if q=true then 1 else 0)=(2+if q=true then 1 else 0) by omega,Nat.add_comm]
 unfold jF
 rw [List.length_append,List.length_replicate,List.length_cons,oN,h2,show 1+(1+s * (2+if q=true then 1 else 0))=2+s * (2+(if q=true then 1 else 0)) by omega]
 omega
theorem wb(A:Nat)(q:Bool)(s:Nat):One (jF A q s):=by
 have n:([]:List Nat).length≤1∧∀ c∈([]:List Nat),c<1114112:=⟨by decide,by decide⟩
 have h:One (inE q):=by cases q<;>(intro t ht;simp [inE] at ht;rcases ht with rfl | rfl<;>simp)
 refine yr (fun t ht=>?_) (qp n (tz ⟨by decide,by decide⟩ (qp n (tz ⟨by decide,by decide⟩ h s 0)) s 0))
 rw [List.eq_of_mem_replicate ht]
 exact ⟨by decide,by decide⟩
def szE:List Ev1→Nat
 | []=>0
 | .txt t::r=>t.length+szE r
 | .cnt t::r=>t.length+szE r
 | .stop _::_=>0
theorem tS:∀ (ev:List Ev1) (n:Int),(go n ev).2.2.length≤szE ev
 | [],n=>Nat.le_refl _
 | .txt t::r,n=>by
  have:=tS r n
  rw [go,szE,List.length_append];omega
 | .cnt t::r,n=>by
  have:=tS r (n+1)
  rw [go,szE]
  split
  ·exact Nat.zero_le _
  ·rw [List.length_append];omega
 | .stop _::_,n=>Nat.le_refl _
theorem yd(r:List Ev1):∀ E:Ls,szE (E.map .cnt++r)=E.flatten.length+szE r
 | []=>by simp
 | t::E=>by rw [List.map_cons,List.cons_append,szE,yd r E,List.flatten_cons,List.length_append];omega
def bkL(l:List Pq)(A:Nat)(L:PV)(last:Bool):PV:=.tup ((l++ [([112],[nmL,.non,.tup (fQ A L last)])]).map pq)
theorem lT(A:Nat){L:PV}(pL:L.pure=true)(last:Bool):ai (fQ A L last)=true:=by
 unfold fQ
 induction A with
 | zero=>rw [List.replicate_zero,List.nil_append,ai,ai,iB];simp only [PV.pure,ai,pL,tgL];cases last<;>rfl
 | succ A ih=>rw [List.replicate_succ,List.cons_append,ai,ih];rfl
theorem sN(k:Nat)(l:List Pq)(hl:l.length≤10)(h0:∀ p∈l,ai p.2=true)(A s:Nat)(hs:s≤40)(hA:A≤1000)(q:Bool)(L:PV)(pL:L.pure=true)(last:Bool)
  (hL:∀ k D,aI D=true→D.length≤900→bJ D (.inr [109])=some (.tup [mL s])→bJ D (.inr [99])=some (.tup [.bl true])→Pn (k+17) (pcs [] (l++ [([112],[nmL,.non,.tup (fQ A L last)])])) (sc_ D .non) L ((leE q s).map .cnt)):
  F (k+24) .written [bkL l A L last,.dct (vL s)]= .ok (iS (jF A q s) last):=by
 have hp:∀ p∈l++ [([112],[nmL,.non,.tup (fQ A L last)])],ai p.2=true:=by
  intro p hp
  rcases List.mem_append.mp hp with q | q
  ·exact h0 p q
  ·rw [List.mem_singleton.mp q]
   have:=lT A pL last
   show ai [nmL,.non,.tup (fQ A L last)]=true
   rw [ai,ai,ai,PV.pure,this];rfl
 have hd:okD (pcs [] (l++ [([112],[nmL,.non,.tup (fQ A L last)])]))=true:=rX 4 _ (jU _ _ hp rfl)
 have le:=wc A q s
 have lb:(jF A q s).length≤8000:=by
  rw [le]
  have h1:s * (2+if q=true then 1 else 0)≤40 * 3:=Nat.mul_le_mul hs (by split<;>omega)
  have h2:s * (2+s * (2+if q=true then 1 else 0))≤40 * 122:=Nat.mul_le_mul hs (by omega)
  omega
 have tl:=zA (jF A q s) last
 have wr:=oY (k+21) l [112] nmL .non (.dct (vL s)) (rL s) (fQ A L last) ((jF A q s).map .cnt++jd last) hl (ma s) (jv s) h0 rfl rfl (JL k hs) (Jv (k+22) s) ?_ ?_
  (jG hd (fF _ _ (jv s) rfl) (vf hd (k+2) s q L pL hL last A))
 ·rw [tl] at wr
  exact wr
 ·have h1:=tS ((jF A q s).map .cnt++jd last) 0
  rw [yd] at h1
  have h2:=(jb (wb A q s)).1
  have:szE (jd last)≤3:=by cases last<;>decide
  omega
 ·rw [List.length_append,List.length_map]
  have:(jd last).length≤2:=by cases last<;>decide
  omega
def bQ(E:Ls):PV:=.lst (E.map PV.str)
theorem sx(E:Ls):(bQ E).pure=true:=by unfold bQ;rw [PV.pure];exact bM E
theorem we{a b:Ls}(hl:a.length+b.length≤200000)(h:List PO):aO (bQ a) (bQ b) h= .ok (bQ (a++b)) h:=by
 unfold bQ
 show (if (a.map PV.str).length+(b.map PV.str).length≤sizeLine then Res.ok (PV.lst (a.map PV.str++b.map PV.str)) h else .bad)=_
 rw [if_pos (Nat.le_trans (by rw [List.length_map,List.length_map];exact hl) (by decide)),List.map_append]
section
variable (k:Nat) (dr:Int) (q:Bool) (hq:dr % 2=if q=true then 1 else 0) (v2 v3 v4 v5 v6 v7 v11 v12:Option PV) (h:List PO)
include hq
theorem EI(v1 v9:Option PV)(acc:Ls)(i:Nat)(hl:acc.length≤100000):fE (F k) [some (.int dr),v1,v2,v3,v4,v5,v6,v7,some (bQ acc),v9,some (.int (0+(i:Int))),v11,v12] h= .nx [some (.int dr),v1,v2,v3,v4,v5,v6,v7,some (bQ (acc++(if i>0 then [44] else [])::inE q)),v9,some (.int (0+(i:Int))),v11,v12] h:=by
 have de:∀ E h,ao h (bQ E)=bQ E:=fun E h=>rfl
 have m1:∀ h,eF (.str [44]) (.int (if decide (0+(i:Int)>0)=true then 1 else 0)) h= .ok (.str (if i>0 then [44] else [])) h:=fun h=>by
  cases i with
  | zero=>rfl
  | succ i=>
   rw [decide_eq_true (show 0+((i+1:Nat):Int)>0 by omega)]
   rfl
 have m2:∀ h,eF (.lst [.str []]) (.int (dr % 2)) h= .ok (bQ (if q=true then [[]] else [])) h:=fun h=>by
  rw [hq];cases q<;>rfl
 generalize hu:(if i>0 then [44] else [])=u at m1
 have a1:∀ h,aO (bQ acc) (.lst [.str u]) h= .ok (bQ (acc++ [u])) h:=fun h=>we (b:= [u]) (by simp only [List.length_cons,List.length_nil];omega) h
 have lq:(if q=true then [([]:List Nat)] else []).length≤1:=by cases q<;>decide
 have a2:∀ h,aO (bQ (acc++ [u])) (bQ (if q=true then [[]] else [])) h= .ok (bQ (acc++ [u]++if q=true then [[]] else [])) h:=fun h=>we (by simp only [List.length_append,List.length_cons,List.length_nil];omega) h
 have a3:∀ h,aO (bQ (acc++ [u]++if q=true then [[]] else [])) (.lst [.str [121]]) h= .ok (bQ (acc++ [u]++(if q=true then [[]] else [])++ [[121]])) h:=fun h=>we (b:= [[121]]) (by simp only [List.length_append,List.length_cons,List.length_nil];omega) h
 have fin:acc++ [u]++(if q=true then [[]] else [])++ [[121]]=acc++u::inE q:=by
  cases q<;>simp [inE]
 rw [← fin]
 simp only [EX,fE,de,pGt,m1,m2,a1,a2,a3]
theorem lk1(v1 v9:Option PV):∀ (s i:Nat) (acc:Ls) (z:Option PV),acc.length+3 * s≤100000→∃ z',bh (gNm 10) (fE (F k)) ((List.range' i s).map fun (j:Nat)=>PV.int (0+(j:Int))) [some (.int dr),v1,v2,v3,v4,v5,v6,v7,some (bQ acc),v9,z,v11,v12] h= .nx [some (.int dr),v1,v2,v3,v4,v5,v6,v7,some (bQ (acc++rnL [44] (inE q) i s)),v9,z',v11,v12] h
 | 0,i,acc,z,_=>⟨z,by rw [rnL,List.append_nil];rfl⟩
 | s+1,i,acc,z,hl=>by
  have lq:(inE q).length≤2:=by cases q<;>decide
  obtain ⟨z',ih⟩:=lk1 v1 v9 s (i+1) (acc++(if i>0 then [44] else [])::inE q) (some (.int (0+(i:Int)))) (by rw [List.length_append,List.length_cons];omega)
  refine ⟨z',?_⟩
  have gn:gNm 10 (.int (0+(i:Int))) [some (.int dr),v1,v2,v3,v4,v5,v6,v7,some (bQ acc),v9,z,v11,v12]=some [some (.int dr),v1,v2,v3,v4,v5,v6,v7,some (bQ acc),v9,some (.int (0+(i:Int))),v11,v12]:=rfl
  rw [List.range'_succ,List.map_cons,eS gn (EI k dr q hq v2 v3 v4 v5 v6 v7 v11 v12 h v1 v9 acc i (by omega)),ih,rnL]
  simp only [List.append_assoc,List.cons_append]
theorem lk2(s:Nat)(hs:s≤1000):∀ (r i:Nat) (acc:Ls) (z9 z10:Option PV),acc.length+(3 * s+2) * r≤50000→∃ z9' z10',bh (gNm 9) (fD (F k)) ((List.range' i r).map fun (j:Nat)=>PV.int (0+(j:Int))) [some (.int dr),some (.int s),v2,v3,v4,v5,v6,v7,some (bQ acc),z9,z10,v11,v12] h= .nx [some (.int dr),some (.int s),v2,v3,v4,v5,v6,v7,some (bQ (acc++rnL [59] (leE q s) i r)),z9',z10',v11,v12] h
 | 0,i,acc,z9,z10,_=>⟨z9,z10,by rw [rnL,List.append_nil];rfl⟩
 | r+1,i,acc,z9,z10,hl=>by
  rw [Nat.mul_add,Nat.mul_one] at hl
  have lq:(inE q).length≤2:=by cases q<;>decide
  have lr:(rnL [44] (inE q) 0 s).length≤3 * s:=by
   rw [oN,Nat.mul_comm]
   exact Nat.mul_le_mul (by omega) (Nat.le_refl _)
  generalize hu:(if i>0 then [59] else [])=u
  have m1:∀ h,eF (.str [59]) (.int (if decide (0+(i:Int)>0)=true then 1 else 0)) h= .ok (.str u) h:=fun h=>by
   rw [← hu]
   cases i with
   | zero=>rfl
   | succ i=>
    rw [decide_eq_true (show 0+((i+1:Nat):Int)>0 by omega)]
    rfl
  obtain ⟨y,l1⟩:=lk1 k dr q hq v2 v3 v4 v5 v6 v7 v11 v12 h (some (.int s)) (some (.int (0+(i:Int)))) s 0 (acc++ [u,[]]) z10 (by simp only [List.length_append,List.length_cons,List.length_nil];omega)
  have rg:(List.range s).map (fun (j:Nat)=>PV.int (0+(j:Int)))=(List.range' 0 s).map fun (j:Nat)=>PV.int (0+(j:Int)):=by rw [List.range_eq_range']
  rw [← rg] at l1
  have de:∀ E h,ao h (bQ E)=bQ E:=fun E h=>rfl
  have a1:∀ h,aO (bQ acc) (.lst [.str u,.str []]) h= .ok (bQ (acc++ [u,[]])) h:=fun h=>we (b:= [u,[]]) (by simp only [List.length_cons,List.length_nil];omega) h
  have bc:bel 4611686018427387904 (s:Int)=true:=bV.mpr ⟨by omega,by omega⟩
  have tc:Int.toNat (s:Int)=s:=Int.toNat_natCast _
  have e:acc++ [u,[]]++rnL [44] (inE q) 0 s=acc++u::leE q s:=by unfold leE;simp
  have st:fD (F k) [some (.int dr),some (.int s),v2,v3,v4,v5,v6,v7,some (bQ acc),some (.int (0+(i:Int))),z10,v11,v12] h= .nx [some (.int dr),some (.int s),v2,v3,v4,v5,v6,v7,some (bQ (acc++u::leE q s)),some (.int (0+(i:Int))),y,v11,v12] h:=by
   rw [← e]
   simp only [EX,fD,de,pGt,m1,a1,bc,tc,l1]
  obtain ⟨z9',z10',ih⟩:=lk2 s hs r (i+1) (acc++u::leE q s) (some (.int (0+(i:Int)))) y (by unfold leE;simp only [List.length_append,List.length_cons];omega)
  refine ⟨z9',z10',?_⟩
  have gn:gNm 9 (.int (0+(i:Int))) [some (.int dr),some (.int s),v2,v3,v4,v5,v6,v7,some (bQ acc),z9,z10,v11,v12]=some [some (.int dr),some (.int s),v2,v3,v4,v5,v6,v7,some (bQ acc),some (.int (0+(i:Int))),z10,v11,v12]:=rfl
  rw [List.range'_succ,List.map_cons,eS gn st,ih,rnL,hu]
  simp only [List.append_assoc,List.cons_append]
end
def szL(q:Bool):Nat:=if q=true then 25 else 31
def lea(q:Bool):Nat→PV
 | 0=>rh q
 | 1=>HA
 | _=>JX q
def lpc(q:Bool):Nat→List Pq
 | 0=> []
 | 1=> [pc1 q]
 | _=> [pc2]
theorem rH{α:Type}(x:α)(A:Nat):ol [x] (A:Int)=List.replicate A x:=by
 unfold ol
 rw [Int.toNat_natCast]
 induction A with
 | zero=>rfl
 | succ A ih=>rw [List.replicate_succ,List.flatten_cons,ih];rfl
theorem Gc(A:Nat)(hA:A≤1000)(x:List Nat)(h:List PO):eF (.lst [.str x]) (.int (A:Int)) h= .ok (bQ (List.replicate A x)) h:=by
 show (if bel 9223372036854775808 (A:Int)=true∧ [PV.str x].length * (A:Int).toNat≤sizeLine then Res.ok (PV.lst (ol [PV.str x] (A:Int))) h else .bad)=_
 rw [if_pos ⟨bV.mpr ⟨by omega,by omega⟩,Nat.le_trans (by rw [Int.toNat_natCast];simp;exact hA) (by decide)⟩,rH]
 unfold bQ
 rw [List.map_replicate]
theorem JO(A:Nat)(hA:A≤1000)(x:PV)(h:List PO):rJ (.tup [x]) (.int (A:Int)) h= .ok (.tup (List.replicate A x)) h:=by
 show (if bel 9223372036854775808 (A:Int)=true∧ [x].length * (A:Int).toNat≤sizeLine then Res.ok (PV.tup (ol [x] (A:Int))) h else .bad)=_
 rw [if_pos ⟨bV.mpr ⟨by omega,by omega⟩,Nat.le_trans (by rw [Int.toNat_natCast];simp;exact hA) (by decide)⟩,rH]
def HB(q last:Bool)(vr A:Nat)(r:SR):Prop:=r= .rt (.tup [bkL (lpc q vr) A (lea q vr) last,.dct (vL (szL q)),bQ (jF A q (szL q))]) []
section
variable (k:Nat) (dr:Int) (q last:Bool) (vr A:Nat) (hq:dr % 2=if q=true then 1 else 0) (hl:dr / 22 % 2=if last=true then 1 else 0) (hv:dr / 44 % 3=(vr:Int)) (hA:dr / 2 % 11=(A:Int) - (if q=true then 69 else 10))
include hq hl hv hA
theorem Dc:HB q last vr A (fC (F k) [some (.int dr),none,none,none,none,none,none,none,none,none,none,none,none] []):=by
 obtain ⟨o0,o1⟩:=gx (dr / 2) (by decide:(0:Int)<11)
 have A1:A≤100:=by cases q<;>simp at hA<;>omega
 have v3:vr<3:=by have:=gx (dr / 44) (by decide:(0:Int)<3);omega
 have e1:∀ h,pIx (.lst [.int 31,.int 25]) (.int (dr % 2)) h= .ok (.int (szL q:Int)) h:=fun h=>by rw [hq];cases q<;>rfl
 unfold fC
 refine bX [some (.int dr),some (.int (szL q:Int)),none,none,none,none,none,none,none,none,none,none,none] [] (by simp only [EX,e1]) ?_
 refine bX [some (.int dr),some (.int (szL q:Int)),some (.int (A:Int)),none,none,none,none,none,none,none,none,none,none] [] ?_ ?_
 ·have m1:gV 2 31=true:=rfl
  have m2:gV 31 64=true:=rfl
  have m3:gV 3 25=true:=rfl
  have m4:gV 25 77=true:=rfl
  cases q with
  | false=>
   have eA:10+dr / 2 % 11=(A:Int):=by rw [hA];simp;omega
   simp only [EX,hq,szL,Int.cast_ofNat_Int,m1,m2,Int.reduceMul,Int.reduceAdd,Int.reduceSub,Int.add_zero,eA]
  | true=>
   have eA:69+dr / 2 % 11=(A:Int):=by rw [hA];simp;omega
   simp only [EX,hq,szL,Int.cast_ofNat_Int,m3,m4,Int.reduceMul,Int.reduceAdd,Int.reduceSub,eA]
 refine bX [some (.int dr),some (.int (szL q:Int)),some (.int (A:Int)),some (.tup [plB]),none,none,none,none,none,none,none,none,none] [] (by simp only [EX,if_true];rfl) ?_
 refine bX [some (.int dr),some (.int (szL q:Int)),some (.int (A:Int)),some (.tup (inN q)),none,none,none,none,none,none,none,none,none] [] ?_ ?_
 ·have dt:∀ l h,ao h (.tup l)= .tup l:=fun _ _=>rfl
  cases q<;>simp only [EX,hq,dt]<;>rfl
 have dt:∀ l h,ao h (.tup l)= .tup l:=fun _ _=>rfl
 refine bX [some (.int dr),some (.int (szL q:Int)),some (.int (A:Int)),some (.tup (inN q)),some (rh q),none,none,none,none,none,none,none,none] [] (by simp only [EX,dt];rfl) ?_
 refine bX [some (.int dr),some (.int (szL q:Int)),some (.int (A:Int)),some (.tup (inN q)),some (rh q),some (.lst []),none,none,none,none,none,none,none] [] (by simp only [EX,if_true]) ?_
 refine bX [some (.int dr),some (.int (szL q:Int)),some (.int (A:Int)),some (.tup (inN q)),some (if vr=1 then HA else rh q),some (.lst (if vr=1 then [pq (pc1 q)] else [])),none,none,none,none,none,none,none] [] ?_ ?_
 ·have dl:∀ h,ao h (rh q)=rh q:=fun _=>rfl
  by_cases c:vr=1
  ·rw [if_pos c,if_pos c]
   have hv1:decide (dr / 44 % 3=1)=true:=decide_eq_true (by omega)
   simp only [EX,hv1,dl]
   rfl
  ·rw [if_neg c,if_neg c]
   have hv1:decide (dr / 44 % 3=1)=false:=decide_eq_false (by omega)
   simp only [EX,hv1]
 refine bX [some (.int dr),some (.int (szL q:Int)),some (.int (A:Int)),some (.tup (inN q)),some (lea q vr),some (.lst ((lpc q vr).map pq)),none,none,none,none,none,none,none] [] ?_ ?_
 ·rcases (show vr=0∨vr=1∨vr=2 by omega) with rfl | rfl | rfl
  ·have hv1:decide (dr / 44 % 3=2)=false:=decide_eq_false (by omega)
   simp only [EX,hv1]
   rfl
  ·have hv1:decide (dr / 44 % 3=2)=false:=decide_eq_false (by omega)
   simp only [EX,hv1]
   rfl
  ·have hv1:decide (dr / 44 % 3=2)=true:=decide_eq_true (by omega)
   simp only [EX,hv1,dt]
   rfl
 have pL:(lea q vr).pure=true:=by rcases (show vr=0∨vr=1∨vr=2 by omega) with rfl | rfl | rfl<;>cases q<;>rfl
 have dL:∀ h,ao h (lea q vr)=lea q vr:=fun h=>ak h pL
 generalize hE:lpc q vr=P
 generalize hG:lea q vr=L at *
 refine bX [some (.int dr),some (.int (szL q:Int)),some (.int (A:Int)),some (.tup (inN q)),some L,some (.lst (P.map pq)),some (iB L),none,none,none,none,none,none] [] (by simp only [EX,dL];rfl) ?_
 have e7:∀ h,pIx (.lst [.tup [.str [116,101,120,116],.str [101,110,100]],.tup [.str [112,108,97,99,101],.tup [.str [116],.str [108,111,115,116]],.str [119,111,114,100]]]) (.int (dr / 22 % 2)) h= .ok (jc last) h:=fun h=>by rw [hl];cases last<;>rfl
 refine bX [some (.int dr),some (.int (szL q:Int)),some (.int (A:Int)),some (.tup (inN q)),some L,some (.lst (P.map pq)),some (iB L),some (jc last),none,none,none,none,none] [] (by simp only [EX,e7]) ?_
 have e8:∀ h,aO (bQ (List.replicate A [120])) (.lst [.str []]) h= .ok (bQ (List.replicate A [120]++ [[]])) h:=fun h=>we (b:= [[]]) (by rw [List.length_replicate];simp only [List.length_cons,List.length_nil];omega) h
 refine bX [some (.int dr),some (.int (szL q:Int)),some (.int (A:Int)),some (.tup (inN q)),some L,some (.lst (P.map pq)),some (iB L),some (jc last),some (bQ (List.replicate A [120]++ [[]])),none,none,none,none] [] (by simp only [EX,Gc A (show A≤1000 by omega) [120],e8]) ?_
 have sz:szL q≤40:=by cases q<;>decide
 obtain ⟨z9,z10,lk⟩:=lk2 k dr q hq (some (.int (A:Int))) (some (.tup (inN q))) (some L) (some (.lst (P.map pq))) (some (iB L)) (some (jc last)) none none [] (szL q) (by omega) (szL q) 0 (List.replicate A [120]++ [[]]) none none (by
  have:=Nat.mul_le_mul (show 3 * szL q+2≤122 by omega) sz
  rw [List.length_append,List.length_replicate];simp only [List.length_cons,List.length_nil];omega)
 have rg:(List.range (szL q)).map (fun (j:Nat)=>PV.int (0+(j:Int)))=(List.range' 0 (szL q)).map fun (j:Nat)=>PV.int (0+(j:Int)):=by rw [List.range_eq_range']
 rw [← rg] at lk
 have bc:bel 4611686018427387904 ((szL q:Nat):Int)=true:=bV.mpr ⟨by omega,by omega⟩
 have tc:Int.toNat ((szL q:Nat):Int)=szL q:=Int.toNat_natCast _
 have aE:List.replicate A [120]++ [[]]++rnL [59] (leE q (szL q)) 0 (szL q)=jF A q (szL q):=by unfold jF;simp
 rw [aE] at lk
 refine bX [some (.int dr),some (.int (szL q:Int)),some (.int (A:Int)),some (.tup (inN q)),some L,some (.lst (P.map pq)),some (iB L),some (jc last),some (bQ (jF A q (szL q))),z9,z10,none,none] [] (by simp only [EX,bc,tc,lk]) ?_
 have pR:∀ h,ao h (iB L)=iB L:=fun _=>rfl
 have pE:∀ h,ao h (jc last)=jc last:=fun h=>by cases last<;>rfl
 have aT:∀ h,aO (.tup (List.replicate A plT)) (.tup [iB L,jc last]) h= .ok (.tup (fQ A L last)) h:=fun h=>by
  unfold fQ
  cases A with
  | zero=>rfl
  | succ A=>
   show BN (.tup (List.replicate (A+1) plT)) (.tup [iB L,jc last]) h=_
   rw [Dg,if_pos ⟨rfl,by rw [List.length_replicate];show _≤16777216;simp only [List.length_cons,List.length_nil];omega⟩]
 have mt:=JO A (show A≤1000 by omega) plT
 refine bX [some (.int dr),some (.int (szL q:Int)),some (.int (A:Int)),some (.tup (inN q)),some L,some (.lst (P.map pq)),some (iB L),some (jc last),some (bQ (jF A q (szL q))),z9,z10,some (.tup (fQ A L last)),none] [] ?_ ?_
 ·have lit:PV.tup [.str [112,108,97,99,101],.tup [.str [116]],.str [119,111,114,100]]=plT:=rfl
  simp only [EX,lit,mt,pR,pE,aT]
 refine bX [some (.int dr),some (.int (szL q:Int)),some (.int (A:Int)),some (.tup (inN q)),some L,some (.lst (P.map pq)),some (iB L),some (jc last),some (bQ (jF A q (szL q))),z9,z10,some (.tup (fQ A L last)),some (.dct (vL (szL q)))] [] ?_ ?_
 ·have mm:∀ h,eF (.lst [.str [121]]) (.int ((szL q:Nat):Int)) h= .ok (mL (szL q)) h:=fun h=>by
   rw [Gc (szL q) (by omega) [121] h]
   unfold bQ mL yS
   rw [List.map_replicate]
  have mD:mkD [(.inr [109],mL (szL q)),(.inr [116],.str [120]),(.inr [99],.bl true)]=vL (szL q):=rfl
  simp only [EX,eZ,kr,jZ,Res.bind_ok,mm,mD]
 have dM:∀ h,ao h (.dct (vL (szL q)))= .dct (vL (szL q)):=fun _=>rfl
 have dE:∀ E h,ao h (bQ E)=bQ E:=fun E h=>rfl
 have aP:∀ h,aO (.lst (P.map pq)) (.lst [.tup [.str [112,105,101,99,101],.str [112],.tup [.str [109],.str [116],.str [99]],.non,.tup (fQ A L last)]]) h= .ok (.lst ((P++ [([112],[nmL,.non,.tup (fQ A L last)])]).map pq)) h:=fun h=>by
  have lp:P.length≤10:=by rw [← hE];rcases (show vr=0∨vr=1∨vr=2 by omega) with rfl | rfl | rfl<;>simp [lpc]
  show (if (P.map pq).length+1≤sizeLine then Res.ok (PV.lst (P.map pq++ [.tup [.str [112,105,101,99,101],.str [112],.tup [.str [109],.str [116],.str [99]],.non,.tup (fQ A L last)]])) h else .bad)=_
  rw [if_pos (Nat.le_trans (m:=1000) (by rw [List.length_map];omega) (by decide)),List.map_append]
  rfl
 have dP:∀ l h,ao h (.lst l)= .lst l:=fun _ _=>rfl
 unfold HB bkL
 rw [hE,hG]
 simp only [EX,dt,dM,dE,dP,aP]
 done
end
theorem Cw{E:Ls}(ho:One E)(hz:E.length≤100000)(h:List PO):eG (.str []) [bQ E] h= .ok (.str E.flatten) h:=by
 have e:lsR h (bQ E)=some (E.map PV.str):=rfl
 have:E.flatten.length=(E.map List.length).sum:=List.length_flatten
 have:=(jb ho).1
 have z:(E.map (fun l=>l.length)).sum+E.length * ([]:List Nat).length≤16777216:=by
  show (E.map List.length).sum+E.length * 0≤16777216
  omega
 unfold bQ
 rw [mH (ls:=E) rfl (by simpa using z),jf]
theorem xk(dr:Int)(h0:0≤dr):∃ (q last:Bool) (vr A:Nat),vr<3∧A≤100∧dr % 2=(if q=true then 1 else 0)∧dr / 22 % 2=(if last=true then 1 else 0)∧dr / 44 % 3=(vr:Int)∧dr / 2 % 11=(A:Int) - (if q=true then 69 else 10):=by
 refine ⟨decide (dr % 2=1),decide (dr / 22 % 2=1),(dr / 44 % 3).toNat,((if decide (dr % 2=1)=true then 69 else 10)+dr / 2 % 11).toNat,by omega,?_,?_,?_,by omega,?_⟩
 ·split<;>omega
 ·by_cases c:dr % 2=1
  ·rw [decide_eq_true c];simp [c]
  ·rw [decide_eq_false c];simp;omega
 ·by_cases c:dr / 22 % 2=1
  ·rw [decide_eq_true c];simp [c]
  ·rw [decide_eq_false c];simp;omega
 ·split<;>omega
theorem qx(q:Bool){vr:Nat}(hv:vr<3):(lea q vr).pure=true∧(∀ p∈lpc q vr,ai p.2=true)∧(lpc q vr).length≤10:=by
 rcases (show vr=0∨vr=1∨vr=2 by omega) with rfl | rfl | rfl<;>cases q<;>simp [lpc]<;>decide
theorem vY{l:List Pq}(h0:∀ p∈l,ai p.2=true)(A:Nat){L:PV}(pL:L.pure=true)(last:Bool):(bkL l A L last).pure=true:=by
 unfold bkL
 rw [PV.pure]
 refine qj _ fun p hp=>?_
 rcases List.mem_append.mp hp with q | q
 ·exact h0 p q
 ·rw [List.mem_singleton.mp q]
  have:=lT A pL last
  show ai [nmL,.non,.tup (fQ A L last)]=true
  rw [ai,ai,ai,PV.pure,this];rfl
theorem Cc(k:Nat)(q last:Bool){vr A:Nat}(hv:vr<3)(hA:A≤100):F (k+24) .written [bkL (lpc q vr) A (lea q vr) last,.dct (vL (szL q))]= .ok (iS (jF A q (szL q)) last):=by
 obtain ⟨pL,p0,pl⟩:=qx q hv
 refine sN k (lpc q vr) pl p0 A (szL q) (by cases q<;>decide) (by omega) q (lea q vr) pL last fun k D pD lD em ec=>?_
 have hp:∀ p∈lpc q vr++ [([112],[nmL,.non,.tup (fQ A (lea q vr) last)])],ai p.2=true:=by
  intro p hp
  rcases List.mem_append.mp hp with q | q
  ·exact p0 p q
  ·rw [List.mem_singleton.mp q]
   have:=lT A pL last
   show ai [nmL,.non,.tup (fQ A _ last)]=true
   rw [ai,ai,ai,PV.pure,this];rfl
 have hd:okD (pcs [] (lpc q vr++ [([112],[nmL,.non,.tup (fQ A (lea q vr) last)])]))=true:=rX 4 _ (jU _ _ hp rfl)
 rcases (show vr=0∨vr=1∨vr=2 by omega) with rfl | rfl | rfl
 ·exact Jt hd (k+4) D .non pD rfl lD (szL q) em ec q
 ·exact Lu hd (k+2) D .non pD rfl lD (szL q) em ec q (by
   show bJ (cg (cg [] (.inr [113]) (pq (pc1 q))) (.inr [112]) _) (.inr [113])=_
   rw [dz,if_neg (by decide),dz,if_pos rfl])
 ·exact Lr hd k D .non pD rfl lD (szL q) em ec q (by
   show bJ (cg (cg [] (.inr [113]) (pq pc2)) (.inr [112]) _) (.inr [113])=_
   rw [dz,if_neg (by decide),dz,if_pos rfl])
theorem IC(k:Nat){E:Ls}(ho:One E)(last:Bool):(iS E last).pure=true∧F (k+1) .l_is [iS E last,iS E last]= .ok (.bl true):=by
 have f1:=(jb ho).2
 have f2:=(jb (uS ho 2000)).2
 unfold iS
 by_cases c:2000<E.length+(if last=true then 1 else 0)
 ·rw [if_pos c]
  exact ⟨rfl,Ip k (by decide) (by decide) f2⟩
 ·rw [if_neg c]
  cases last with
  | true=>exact ⟨rfl,Ip k (by decide) (by decide) f1⟩
  | false=>exact ⟨rfl,Kx k (by decide) (iT f1 (by decide))⟩
theorem FG(k:Nat)(dr:Int)(q last:Bool){vr A:Nat}(hv3:vr<3)(hq:dr % 2=if q=true then 1 else 0)(hl:dr / 22 % 2=if last=true then 1 else 0)(hv:dr / 44 % 3=(vr:Int))(hA:dr / 2 % 11=(A:Int) - (if q=true then 69 else 10)):
  F (k+1) .l_long_book [.int dr]= .ok (.tup [bkL (lpc q vr) A (lea q vr) last,.dct (vL (szL q)),bQ (jF A q (szL q))]):=by
 obtain ⟨pL,p0,pl⟩:=qx q hv3
 have r:F (k+1) .l_long_book [.int dr]=match fC (F k) [some (.int dr),none,none,none,none,none,none,none,none,none,none,none,none] [] with
   | .nx _ _=>.ok .non
   | .rt v h=>br v h
   | _=>.bad:=rfl
 have e:=Dc k dr q last vr A hq hl hv hA
 unfold HB at e
 rw [r,e]
 refine fm _ ?_
 rw [PV.pure,ai,ai,ai,vY p0 A pL last,ma,sx]
 rfl
def FO(r:SR):Prop:=∃ h,r= .rt (.bl true) h
theorem EG(k:Nat)(dr:Int)(h0:0≤dr):F (k+26) .l_long [.int dr]= .ok (.bl true):=by
 obtain ⟨q,last,vr,A,hv3,hA3,hq,hl,hv,hA⟩:=xk dr h0
 obtain ⟨pL,p0,pl⟩:=qx q hv3
 have pb:=vY p0 A pL last
 have pv:=ma (szL q)
 have be:=FG (k+24) dr q last hv3 hq hl hv hA
 have wr:=Cc (k+1) q last hv3 hA3
 have ho:=wb A q (szL q)
 have le:=wc A q (szL q)
 have lE:(jF A q (szL q)).length≤3000:=by rw [le];cases q<;>simp [szL]<;>omega
 generalize hB:bkL (lpc q vr) A (lea q vr) last=B at *
 generalize hV:PV.dct (vL (szL q))=V at *
 generalize hE:jF A q (szL q)=E at *
 obtain ⟨pd,di⟩:=IC (k+24) ho last
 have dB:∀ h,ao h B=B:=fun h=>ak h pb
 have dV:∀ h,ao h V=V:=fun h=>ak h pv
 have dE:∀ E h,ao h (bQ E)=bQ E:=fun E h=>rfl
 have pE:=sx E
 have c1:∀ h,bn (F (k+25) .l_long_book) [.int dr] h= .ok (.tup [B,V,bQ E]) h:=fun h=>aK h rfl be
 have c2:∀ h,bn (F (k+25) .written) [B,V] h= .ok (iS E last) h:=fun h=>aK h (by rw [ai,ai,pb,pv];rfl) wr
 have c3:∀ h,bn (F (k+25) .l_is) [iS E last,iS E last] h= .ok (.bl true) h:=fun h=>aK h (by rw [ai,ai,pd];rfl) di
 have j1:=Cw ho (by omega)
 have j2:=Cw (uS ho 2000) (by rw [List.length_take];omega)
 have f1:=(jb ho).1
 have s1:∀ h,kS (bQ E) none (some 2000) h= .ok (bQ (E.take 2000)) h:=fun h=>by
  unfold bQ
  rw [FT,show (2000:Int)=((2000:Nat):Int) from rfl,ua,List.map_take]
 have ln:∀ h,fy [bQ E] h= .ok (.int (E.length:Int)) h:=fun h=>by unfold bQ;rw [Gd,List.length_map]
 have a1:E.flatten.length+3≤16777216:=by omega
 have r:F (k+26) .l_long [.int dr]=match ku (F (k+25)) [some (.int dr),none,none,none,none] [] with
   | .nx _ _=>.ok .non
   | .rt v h=>br v h
   | _=>.bad:=rfl
 have go:FO (ku (F (k+25)) [some (.int dr),none,none,none,none] []):=by
  unfold ku
  refine bX [some (.int dr),some B,some V,some (bQ E),none] [] ?_ ?_
  ·simp only [EX,c1]
  refine bX [some (.int dr),some B,some V,some (bQ E),some (.tup [.str [119,114,105,116,116,101,110],.str (E.flatten++ [101,110,100])])] [] ?_ ?_
  ·simp only [EX,dE,j1,a1]
  refine bX [some (.int dr),some B,some V,some (bQ E),some (if last=true then .tup [.str [114,101,102,117,115,101,100],.str cE,.str E.flatten] else .tup [.str [119,114,105,116,116,101,110],.str (E.flatten++ [101,110,100])])] [] ?_ ?_
  ·cases last with
   | true=>
    have z:decide (dr / 22 % 2=1)=true:=decide_eq_true (by rw [hl];rfl)
    simp only [EX,dE,j1,z]
    rfl
   | false=>
    have z:decide (dr / 22 % 2=1)=false:=decide_eq_false (by rw [hl];decide)
    simp only [EX,z]
  refine bX [some (.int dr),some B,some V,some (bQ E),some (iS E last)] [] ?_ ?_
  ·unfold iS
   by_cases c:2000<E.length+(if last=true then 1 else 0)
   ·have z:decide ((E.length:Int)+dr / 22 % 2>2000)=true:=decide_eq_true (by rw [hl];cases last<;>simp at c ⊢ <;>omega)
    rw [if_pos c]
    simp only [EX,dE,ln,pGt,z,s1,j2]
    rfl
   ·have z:decide ((E.length:Int)+dr / 22 % 2>2000)=false:=decide_eq_false (by rw [hl];cases last<;>simp at c ⊢ <;>omega)
    rw [if_neg c]
    simp only [EX,dE,ln,pGt,z]
  have dD:∀ h,ao h (iS E last)=iS E last:=fun h=>ak h pd
  exact ⟨[],by simp only [EX,dB,dV,dD,c2,c3]⟩
 obtain ⟨h,go⟩:=go
 rw [r,go]
 exact fm _ rfl
theorem Gb{l:List (List Nat)}(h:l.Nodup){i j:Nat}(hi:i<l.length)(hj:j<l.length)(e:i≠j):l.getD i []≠l.getD j []:=by
 rw [List.Nodup,List.pairwise_iff_getElem] at h
 rw [List.getD_eq_getElem?_getD,List.getD_eq_getElem?_getD,List.getElem?_eq_getElem hi,List.getElem?_eq_getElem hj]
 rcases Nat.lt_or_ge i j with q | q
 ·exact h i j hi hj q
 ·exact (h j i hj hi (by omega)).symm
section
variable (k:Nat) (ls:List (List Nat)) (hl:ls.length=12) (nd:ls.Nodup) (n:Int)
include hl
theorem nK(j:Nat)(p:Int)(hj:j=0∧p=1∨j=1∧p=8∨j=2∧p=64)(h:List PO):mR (F k) [some (.int (0+(j:Int))),some (mnu ls),some (.int n)] h= .ok (.str (ls.getD (n / p % 8).toNat [])) h:=by
 obtain ⟨r0,r1⟩:=gx (n / p) (by decide:(0:Int)<8)
 have ix:=Av (ls:=ls) (i:=n / p % 8) r0 (by omega)
 have e:∀ h,pIx (.lst [.int 1,.int 8,.int 64]) (.int (0+(j:Int))) h= .ok (.int p) h:=fun h=>by
  rcases hj with ⟨rfl,rfl⟩ | ⟨rfl,rfl⟩ | ⟨rfl,rfl⟩<;>rfl
 have pp:decide (0<p∧p<1073741824)=true:=decide_eq_true (by omega)
 simp only [EX,mR,gp,e,pp,ix]
def fld(ls:List (List Nat))(n:Int)(m:Nat):List (List Nat):= [ls.getD (n / 1 % 8).toNat [],ls.getD (n / 8 % 8).toNat [],ls.getD (n / 64 % 8).toNat []].take m
include nd in
theorem Iw(m:Nat):(fld ls n m).length≤3∧∀ x∈fld ls n m,x∈ls∧x≠ls.getD 8 []:=by
 have one:∀ p:Int,ls.getD (n / p % 8).toNat []∈ls∧ls.getD (n / p % 8).toNat []≠ls.getD 8 []:=fun p=>by
  obtain ⟨r0,r1⟩:=gx (n / p) (by decide:(0:Int)<8)
  exact ⟨fA (by omega),Gb nd (by omega) (by omega) (by omega)⟩
 refine ⟨by unfold fld;rw [List.length_take];simp;omega,fun x hx=>?_⟩
 have:=List.mem_of_mem_take hx
 simp only [List.mem_cons,List.not_mem_nil,or_false] at this
 rcases this with rfl | rfl | rfl
 ·exact one 1
 ·exact one 8
 ·exact one 64
theorem xH(s:Option PV)(z4 z5 z6 z7 z8 z9 z10 z11 z12 z13 z14:Option PV)(S:PV)(h:List PO)(m:Nat)(hm:n / 512 % 4=(m:Int)):
  (aU 4 (cN lL (aa (qL (cN okL (gH [2,3] (eX (aa (c2 bO (c2 cS (af 3) (cK (.int 512))) (cK (.int 4))) aj)) et (mR (F k)))) jX (jW (cK (.int 3)))) aj))) [s,some S,some (mnu ls),some (.int n),z4,z5,z6,z7,z8,z9,z10,z11,z12,z13,z14] h= .nx [s,some S,some (mnu ls),some (.int n),some (ntu (fld ls n m)),z5,z6,z7,z8,z9,z10,z11,z12,z13,z14] h:=by
 have m4:m<4:=by have:=gx (n / 512) (by decide:(0:Int)<4);omega
 have f0:=nK k ls hl n 0 1 (.inl ⟨rfl,rfl⟩)
 have f1:=nK k ls hl n 1 8 (.inr (.inl ⟨rfl,rfl⟩))
 have f2:=nK k ls hl n 2 64 (.inr (.inr ⟨rfl,rfl⟩))
 have bc:bel 4611686018427387904 (m:Int)=true:=bV.mpr ⟨by omega,by omega⟩
 have tc:Int.toNat (m:Int)=m:=Int.toNat_natCast _
 have cl:eI et (mR (F k)) [some (mnu ls),some (.int n)] ((List.range m).map fun (j:Nat)=>PV.int (0+(j:Int))) h= .ok ((fld ls n m).map PV.str) h:=by
  have r0:List.range 0= []:=rfl
  have r1:List.range 1= [0]:=rfl
  have r2:List.range 2= [0,1]:=rfl
  have r3:List.range 3= [0,1,2]:=rfl
  rcases (show m=0∨m=1∨m=2∨m=3 by omega) with rfl | rfl | rfl | rfl
  ·rfl
  ·rw [r1];simp only [List.map_cons,List.map_nil,eI,f0,f1,f2,tU,Res.bind_ok];rfl
  ·rw [r2];simp only [List.map_cons,List.map_nil,eI,f0,f1,f2,tU,Res.bind_ok];rfl
  ·rw [r3];simp only [List.map_cons,List.map_nil,eI,f0,f1,f2,tU,Res.bind_ok];rfl
 have cp:dh [2,3] [s,some S,some (mnu ls),some (.int n),z4,z5,z6,z7,z8,z9,z10,z11,z12,z13,z14]= [some (mnu ls),some (.int n)]:=rfl
 have lt:m<16777216:=by omega
 have sl:∀ h,kS (.lst ((fld ls n m).map PV.str)) none (some 3) h= .ok (.lst ((fld ls n m).map PV.str)) h:=fun h=>by
  rw [FT,show (3:Int)=((3:Nat):Int) from rfl,ua,List.take_of_length_le (by rw [List.length_map];unfold fld;rw [List.length_take];simp;omega)]
 have tu:∀ l h,lL [.lst l] h= .ok (.tup l) h:=fun l h=>rfl
 simp only [EX,hm,bc,tc,cp,List.length_map,List.length_range,lt,cl,sl,tu]
 rfl
end
theorem JP{x:Int}(h0:0≤x)(h1:x<6):gV 22 x=true:=by
 rcases (show x=0∨x=1∨x=2∨x=3∨x=4∨x=5 by omega) with rfl | rfl | rfl | rfl | rfl | rfl<;>rfl
theorem GO(e:List Nat)(fs:List (List Nat))(h:List PO):kS (ntu (e::fs)) (some 1) none h= .ok (ntu fs) h:=by
 unfold ntu
 rw [sY,show (1:Int)=((1:Nat):Int) from rfl,CU _ _ (by simp),List.map_cons]
 rfl
theorem CP(w t:List Nat):(gW w t).pure=true:=by unfold gW;split<;>rfl
theorem Cf:∀ ns:List Int,ns.length≤63→F 70 .law [.giv (ns.map PV.int)]= .ok (.bl true):=fun cs hc=>by
 suffices S:FO (sL (F 69) (L 69) [some (cv cs),none,none,none,none,none,none,none,none,none,none,none,none,none,none] []) by
  obtain ⟨h,e⟩:=S
  have r2:F 70 .law [.giv (cs.map PV.int)]=match sL (F 69) (L 69) [some (cv cs),none,none,none,none,none,none,none,none,none,none,none,none,none,none] [] with
   | .nx _ _=>.ok .non
   | .rt v h=>br v h
   | _=>.bad:=rfl
  rw [r2,e]
  exact fm _ rfl
 obtain ⟨u0,e0⟩:=nY 68 cs 0 (by decide)
 obtain ⟨u1,e1⟩:=nY 68 cs 1 (by decide)
 by_cases q:u0 % 9=1
 ·have z:decide (u0 % 9=1)=true:=decide_eq_true q
  obtain ⟨r0,r1⟩:=gx u1 (by decide:(0:Int)<6)
  obtain ⟨s0,s1⟩:=gx (u0 / 9) (by decide:(0:Int)<22)
  have lg:∀ h,bn (F 69 .l_long) [.int (u0 / 9 % 22+22 * (u1 % 6))] h= .ok (.bl true) h:=fun h=>aK h rfl (EG 43 _ (by omega))
  refine ⟨[],?_⟩
  simp only [EX,sL,dS,e0,e1,z,JP r0 r1,lg]
 have z:decide (u0 % 9=1)=false:=decide_eq_false q
 unfold sL
 refine bX [some (cv cs),none,none,none,none,none,none,none,none,none,none,none,none,none,none] [] (by simp only [EX,dS,e0,z]) ?_
 refine bX [some (cv cs),some (.ref 0),none,none,none,none,none,none,none,none,none,none,none,none,none] [spt 0 0] (by simp only [EX,if_true]) ?_
 obtain ⟨v0,v00,v01,ev0⟩:=cH 68 cs hc 0 0 (by decide) (by decide) []
 obtain ⟨ls,l12,hn,ho,en⟩:=Ao 68 v0
 have cn:∀ h,bn (F 69 .l_names) [.int v0] h= .ok (mnu ls) h:=fun h=>aK h rfl en
 have d0:∀ i,ao [spt i 0] (.ref 0)= .ref 0:=fun i=>rfl
 refine bX [some (cv cs),some (.ref 0),some (mnu ls),none,none,none,none,none,none,none,none,none,none,none,none] [spt 1 0] (by simp only [EX,dS,d0,ev0,cn]) ?_
 obtain ⟨n,n0,n1,en1⟩:=cH 68 cs hc 1 0 (by decide) (by decide) []
 refine bX [some (cv cs),some (.ref 0),some (mnu ls),some (.int n),none,none,none,none,none,none,none,none,none,none,none] [spt 2 0] (by simp only [EX,dS,d0,en1]) ?_
 obtain ⟨m,hm⟩:∃ m:Nat,n / 512 % 4=(m:Int):=⟨(n / 512 % 4).toNat,by have:=gx (n / 512) (by decide:(0:Int)<4);omega⟩
 obtain ⟨f3,fo⟩:=Iw ls l12 hn n m
 refine bX _ _ (xH 69 ls l12 n (some (cv cs)) none none none none none none none none none none none (.ref 0) [spt 2 0] m hm) ?_
 generalize fld ls n m=fs at *
 obtain ⟨T,a,gT,a0,a1,eT⟩:=wn 65 cs hc 2 (by decide) (by decide) []
 refine bX [some (cv cs),some (.ref 0),some (mnu ls),some (.int n),some (ntu fs),some T,none,none,none,none,none,none,none,none,none] [spt a 0] (by simp only [EX,dS,d0,eT]) ?_
 obtain ⟨c1,c10,c11,ec1⟩:=cH 68 cs hc a 0 (by omega) (by omega) []
 obtain ⟨v,gv,ew⟩:=zu 68 ls fs l12 ho fo c1 (by omega) T gT
 have pT:=gT.pure
 have pv:=gv.pure
 have dT:∀ h,ao h T=T:=fun h=>ak h pT
 have df:∀ (fs:List (List Nat)) h,ao h (ntu fs)=ntu fs:=fun _ h=>rfl
 have pf:∀ fs:List (List Nat),(ntu fs).pure=true:=fun fs=>by unfold ntu;rw [PV.pure];exact bM fs
 have cw:∀ h,bn (F 69 .l_within) [T,ntu fs,mnu ls,.int c1] h= .ok v h:=fun h=>aK h (by rw [ai,ai,ai,pT,pf,va];rfl) ew
 have i11:∀ h,pIx (mnu ls) (.int 11) h= .ok (.str (ls.getD 11 [])) h:=fun h=>Av (by decide) (by rw [l12];decide) h
 have i10:∀ h,pIx (mnu ls) (.int 10) h= .ok (.str (ls.getD 10 [])) h:=fun h=>Av (by decide) (by rw [l12];decide) h
 have i0:∀ h,pIx (mnu ls) (.int 0) h= .ok (.str (ls.getD 0 [])) h:=fun h=>Av (by decide) (by rw [l12];decide) h
 have o11:=ho (ls.getD 11 []) (fA (by omega))
 have o0:=ho (ls.getD 0 []) (fA (by omega))
 have ne0:ls.getD 0 []≠ls.getD 11 []:=Gb hn (by omega) (by omega) (by decide)
 have fo1:∀ x∈fs,x∈ls:=fun x hx=>(fo x hx).1
 have du:=Gp (ρ:= [some (cv cs),some (.ref 0),some (mnu ls),some (.int n),some (ntu fs),some T,none,none,none,none,none,none,none,none,none]) (h:= [spt a 0]) (h1:= [spt a 0]) (h2:= [spt (a+1) 0]) (fa:=c2 pIx (af 2) (cK (.int 11))) (fb:=bj (F 69 .l_within) (aa (af 5) (aa (af 4) (aa (af 2) (aa (eM (L 69 .l_cell) (aa (af 0) (aa (af 1) aj))) aj))))) (x:=ls.getD 11 []) (y:=v) (by simp only [EX,gp,i11]) (by simp only [EX,gp,dT,df,dS,d0,ec1,cw])
 obtain ⟨c2',c20,c21,ec2⟩:=cH 68 cs hc (a+1) 0 (by omega) (by omega) []
 obtain ⟨N,hN,pN,eN⟩:=Eu 68 ls fs l12 ho fo1 f3 c2'
 have cN':∀ h,bn (F 69 .l_node) [mnu ls,ntu fs,.int c2'] h= .ok N h:=fun h=>aK h (by rw [ai,ai,pf,va];rfl) eN
 generalize hX:ls.getD 11 []=e at *
 refine bX [some (cv cs),some (.ref 0),some (mnu ls),some (.int n),some (ntu fs),some T,some (.dct [(.inr e,v)]),none,none,none,none,none,none,none,none] [spt (a+1) 0] (by simp only [EX,du]) ?_
 refine bX [some (cv cs),some (.ref 0),some (mnu ls),some (.int n),some (ntu fs),some T,some (.dct [(.inr e,v)]),some N,none,none,none,none,none,none,none] [spt (a+1+1) 0] (by simp only [EX,dS,d0,gp,df,ec2,cN']) ?_
 have lx:=rW o11.1
 obtain ⟨gs,tag,w,t,evs,g3,gm,tl,p0,p1,ed,pn,le,lt,te,hw,ht⟩:=Bi (Gq (ls.getD 10 []) e pN) 64 56 ls e gv hN
 have wr:=sM 45 (ls.getD 10 []) e lx gv pN lt pn le te
 have dNn:∀ h,ao h N=N:=fun h=>ak h pN
 have pth:∀ h,(aU 8 (vX (aW (c2 pEq (c2 pIx (af 7) (cK (.int 0))) (cK (.str [108,111,111,112])))) (c2 pIx (af 7) (cK (.int 2))) (c2 pIx (af 7) (cK (.int 1))))) [some (cv cs),some (.ref 0),some (mnu ls),some (.int n),some (ntu fs),some T,some (.dct [(.inr e,v)]),some N,none,none,none,none,none,none,none] h= .nx [some (cv cs),some (.ref 0),some (mnu ls),some (.int n),some (ntu fs),some T,some (.dct [(.inr e,v)]),some N,some (ntu (e::gs)),none,none,none,none,none,none] h:=fun h=>by
  by_cases z:tag=tLp
  ·have k1:=tV tag [108,111,111,112] true tl (by decide) (decide_eq_true z)
   rw [if_pos z] at p1
   simp only [EX,dNn,p0,k1,p1]
  ·have k1:=tV tag [108,111,111,112] false tl (by decide) (decide_eq_false z)
   rw [if_neg z] at p1
   simp only [EX,dNn,p0,k1,p1]
 obtain ⟨R,eR,lR⟩:=DP o11 gv
 have pd:(PV.dct [(.inr e,v)]).pure=true:=by rw [PV.pure,aI,pv];rfl
 have dd:∀ h,ao h (.dct [(.inr e,v)])= .dct [(.inr e,v)]:=fun h=>rfl
 have pb:=ue (ls.getD 10 []) e pN
 have db:∀ h,ao h (bkN (ls.getD 10 []) e N)=bkN (ls.getD 10 []) e N:=fun h=>rfl
 have vv:bJ [((.inr e:PK),v)] (.inr e)=some v:=by unfold bJ;rw [List.find?_cons_of_pos (by simp)];rfl
 have dv:∀ h,ao h v=v:=fun h=>ak h pv
 have el:F 69 .l_led [v,ntu gs]= .ok (An (cR v gs)):=Hz 68 gs (fun x hx=>ho x (gm x hx)) gv
 have p2:(An (cR v gs)).pure=true:=by
  unfold An
  cases q:cR v gs with
  | none=>rfl
  | some u=>rw [PV.pure,ai,(fY gs gv q).pure];rfl
 have cl:∀ h,bn (F 69 .l_led) [v,ntu gs] h= .ok (An (cR v gs)) h:=fun h=>aK h (by rw [ai,ai,pv,pf];rfl) el
 have cd:∀ h,bn (F 69 .l_due) [N,An (cR v gs)] h= .ok (.tup [.str w,.str t]) h:=fun h=>aK h (by rw [ai,ai,pN,p2];rfl) ed
 have cwr:∀ h,bn (F 69 .written) [bkN (ls.getD 10 []) e N,.dct [(.inr e,v)]] h= .ok (gW w t) h:=fun h=>aK h (by rw [ai,ai,pb,pd];rfl) wr
 have pe:=CP w t
 have dE:∀ h,ao h (gW w t)=gW w t:=fun h=>ak h pe
 have cis:∀ h,bn (F 69 .l_is) [gW w t,gW w t] h= .ok (.bl true) h:=fun h=>aK h (by rw [ai,ai,pe];rfl) (Io 68 hw ht)
 have sR:=fun h=>wS R R h lR lR
 rw [decide_eq_true rfl] at sR
 have sl:=GO e gs
 refine bX [some (cv cs),some (.ref 0),some (mnu ls),some (.int n),some (ntu fs),some T,some (.dct [(.inr e,v)]),some N,some (ntu (e::gs)),none,none,none,none,none,none] [spt (a+1+1) 0] (pth _) ?_
 refine bX [some (cv cs),some (.ref 0),some (mnu ls),some (.int n),some (ntu fs),some T,some (.dct [(.inr e,v)]),some N,some (ntu (e::gs)),some (.str R),none,none,none,none,none] [spt (a+1+1) 0] (by simp only [EX,dd,eR]) ?_
 refine bX [some (cv cs),some (.ref 0),some (mnu ls),some (.int n),some (ntu fs),some T,some (.dct [(.inr e,v)]),some N,some (ntu (e::gs)),some (.str R),some (bkN (ls.getD 10 []) e N),none,none,none,none] [spt (a+1+1) 0] (by simp only [EX,gp,i10,i11,dNn];rfl) ?_
 refine bX [some (cv cs),some (.ref 0),some (mnu ls),some (.int n),some (ntu fs),some T,some (.dct [(.inr e,v)]),some N,some (ntu (e::gs)),some (.str R),some (bkN (ls.getD 10 []) e N),some (.str w),some (.str t),none,none] [spt (a+1+1) 0] (by simp only [EX,gp,i11,dNn,dd,df,dv,vv,sl,cl,cd]) ?_
 have b1:1+t.length≤16777216:=by omega
 have b2:1+t.length+1≤16777216:=by omega
 have b3:t.length≤16777214:=by omega
 have b4:t.length≤16777215:=by omega
 refine bX [some (cv cs),some (.ref 0),some (mnu ls),some (.int n),some (ntu fs),some T,some (.dct [(.inr e,v)]),some N,some (ntu (e::gs)),some (.str R),some (bkN (ls.getD 10 []) e N),some (.str w),some (.str t),some (.tup [.str [119,114,105,116,116,101,110],.str ([60]++t++ [62])]),none] [spt (a+1+1) 0] (by simp only [EX,List.length_append,List.length_cons,List.length_nil,b1,b2,b3,b4]) ?_
 have nw:=fun h=>wS w [] h hw (by decide)
 refine bX [some (cv cs),some (.ref 0),some (mnu ls),some (.int n),some (ntu fs),some T,some (.dct [(.inr e,v)]),some N,some (ntu (e::gs)),some (.str R),some (bkN (ls.getD 10 []) e N),some (.str w),some (.str t),some (gW w t),none] [spt (a+1+1) 0] ?_ ?_
 ·by_cases z:w= []
  ·rw [decide_eq_true z] at nw
   have en:gW w t=(.tup [.str [119,114,105,116,116,101,110],.str ([60]++t++ [62])]):=by unfold gW;rw [if_pos z]
   rw [en]
   simp only [EX,nw]
  ·rw [decide_eq_false z] at nw
   have en:gW w t= .tup [.str [114,101,102,117,115,101,100],.str w,.str ([60]++t)]:=by unfold gW;rw [if_neg z]
   rw [en]
   simp only [EX,nw,b1,b4]
 refine bX [some (cv cs),some (.ref 0),some (mnu ls),some (.int n),some (ntu fs),some T,some (.dct [(.inr e,v)]),some N,some (ntu (e::gs)),some (.str R),some (bkN (ls.getD 10 []) e N),some (.str w),some (.str t),some (gW w t),some (.int 1)] [spt (a+1+1) 0] ?_ ?_
 ·have b2:bel 4611686018427387904 2=true:=rfl
  have st:∀ i:PV,oJ (F 69) [some (cv cs),some (.ref 0),some (mnu ls),some (.int n),some (ntu fs),some T,some (.dct [(.inr e,v)]),some N,some (ntu (e::gs)),some (.str R),some (bkN (ls.getD 10 []) e N),some (.str w),some (.str t),some (gW w t),some i] [spt (a+1+1) 0]= .nx [some (cv cs),some (.ref 0),some (mnu ls),some (.int n),some (ntu fs),some T,some (.dct [(.inr e,v)]),some N,some (ntu (e::gs)),some (.str R),some (bkN (ls.getD 10 []) e N),some (.str w),some (.str t),some (gW w t),some i] [spt (a+1+1) 0]:=fun i=>by
   simp only [EX,oJ,db,dd,dE,cwr,cis,eR,sR]
  have rg:(List.range 2).map (fun (j:Nat)=>PV.int (0+(j:Int)))= [.int 0,.int 1]:=rfl
  have gn:∀ (i:PV) (z:Option PV),gNm 14 i [some (cv cs),some (.ref 0),some (mnu ls),some (.int n),some (ntu fs),some T,some (.dct [(.inr e,v)]),some N,some (ntu (e::gs)),some (.str R),some (bkN (ls.getD 10 []) e N),some (.str w),some (.str t),some (gW w t),z]=some [some (cv cs),some (.ref 0),some (mnu ls),some (.int n),some (ntu fs),some T,some (.dct [(.inr e,v)]),some N,some (ntu (e::gs)),some (.str R),some (bkN (ls.getD 10 []) e N),some (.str w),some (.str t),some (gW w t),some i]:=fun i z=>rfl
  have lp:bh (gNm 14) (oJ (F 69)) [.int 0,.int 1] [some (cv cs),some (.ref 0),some (mnu ls),some (.int n),some (ntu fs),some T,some (.dct [(.inr e,v)]),some N,some (ntu (e::gs)),some (.str R),some (bkN (ls.getD 10 []) e N),some (.str w),some (.str t),some (gW w t),none] [spt (a+1+1) 0]= .nx [some (cv cs),some (.ref 0),some (mnu ls),some (.int n),some (ntu fs),some T,some (.dct [(.inr e,v)]),some N,some (ntu (e::gs)),some (.str R),some (bkN (ls.getD 10 []) e N),some (.str w),some (.str t),some (gW w t),some (.int 1)] [spt (a+1+1) 0]:=by
   rw [eS (gn _ _) (st _),eS (gn _ _) (st _)];rfl
  have t2:Int.toNat 2=2:=rfl
  simp only [EX,b2,t2,rg,lp]
 obtain ⟨c3,c30,c31,ec3⟩:=cH 68 cs hc (a+1+1) 0 (by omega) (by omega) []
 obtain ⟨nv,hnv,env⟩:=Ai 68 ne0 (rW o0.1) (c3 / 7)
 have cnv:∀ h,bn (F 69 .l_no_values) [.str e,.str (ls.getD 0 []),.int (c3 / 7)] h= .ok nv h:=fun h=>aK h rfl env
 have crf:∀ h,bn (F 69 .l_refused) [bkN (ls.getD 10 []) e N,nv] h= .ok (.bl true) h:=fun h=>aK h (by rw [ai,ai,pb,hnv.pure];rfl) (wD 44 (ls.getD 10 []) lx pN hnv)
 exact ⟨[spt (a+1+1+1) 0],by simp only [EX,dS,d0,gp,db,i11,i0,ec3,cnv,crf]⟩
end K10
namespace PySem.W.Fast
open Lean in
local macro_rules|`(command|#check tws)=>do let p:=`PySem.Challenge;let q:=p.str "cw_formsmith_k10_one_node_holds";let c←((List.range 945).map (fun i=>q.str s!"o_{i+43}")++("sts_891 sts_307 tree_85 tree_47 tree_578 tree_255 tree_679 sts_190 view_39 sts_643 sts_116 tree_115 tree_167 sts_49 sts_71 tree_130 env_41 sts_256 sts_579 sts_840 tree_839 sts_344 tree_968 sts_168 tree_400 sts_458 sts_212 tree_145 sts_401 tree_70 heap_46 tree_514 sts_789 tree_702 tree_788 tree_457 tree_306 sts_131 tree_211 sts_680 tree_189 sts_146 tree_642 sts_101 tree_343 sts_515 tree_890 sts_86 heap_988 tree_100 sts_703 heap_39 sts_969 tree_987".splitOn.map q.str)++[p.str "pw_formsmith_k10_one_node",p.str "rw_formsmith_k10_one_node"]).mapM fun n=>`(command|theorem $(mkIdent (.mkSimple s!"tw{n.hash}")):ident:True:=⟨⟩);return mkNullNode c.toArray
#check tws
end PySem.W.Fast
open PySem PySem.W PyProof.Rows
set_option maxRecDepth 100000 in
set_option maxHeartbeats 0 in
theorem PySem.Challenge.cw_formsmith_k10_one_node_holds : PySem.Challenge.rw_formsmith_k10_one_node.Holds := by
  w_on; o_law; k_head; (case hw => w_witness2)
  k_fill
  refine Z.Ce (l := PySem.Challenge.rw_formsmith_k10_one_node) (k := K10.dl 70) (x := "_law_script") (fn := K10.F 70 .law) rfl rfl ⟨by decide, by decide, rfl⟩ (fun w h Y => PySem.W.kIn_of Y) K10.Cf ?F
  case F =>
    intro w mg fa h KX G hmg
    refine' K10.IU KX G hmg ?aC_Word ?cl_Word ?mk_Word ?in_Word ?kp_Word ?aC_Number ?cl_Number ?mk_Number ?in_Number ?kp_Number ?aC_Quoted ?cl_Quoted ?mk_Quoted ?in_Quoted ?kp_Quoted ?aC_Plain ?cl_Plain ?mk_Plain ?in_Plain ?kp_Plain ?aC_Line ?cl_Line ?mk_Line ?in_Line ?kp_Line ?aC_Pen ?cl_Pen ?mk_Pen ?kp_Pen ?na_Pen_parts ?na_Pen_counted ?aC_Writer ?cl_Writer ?mk_Writer ?kp_Writer ?na_Writer_pen ?na_Writer_pieces ?aC_FormError ?aC_BadWay ?aC_BadValue ?aC_BadValues ?aC_TooMany ?aC_Clash ?aC_BadText ?aC_BadName ?aC_Unclear ?aC_NoFill ?aC_Refused ?cg_ ?kc_Word ?kc_Number ?kc_Quoted ?kc_Plain ?kc_Line ?kc_BadValues ?kc_Refused ?ki_BadValues_BadName ?ki_BadValues_BadText ?ki_BadValues_BadValue ?ki_BadValues_BadValues ?ki_BadValues_BadWay ?ki_BadValues_Clash ?ki_BadValues_NoFill ?ki_BadValues_TooMany ?ki_BadValues_Unclear ?ki_BadValues_ValueError ?ki_Refused_BadName ?ki_Refused_BadText ?ki_Refused_BadValue ?ki_Refused_BadValues ?ki_Refused_BadWay ?ki_Refused_Clash ?ki_Refused_NoFill ?ki_Refused_TooMany ?ki_Refused_Unclear ?ki_Refused_ValueError ?xc_BadValues ?xc_Refused ?xr_BadValues ?ex_BadValues_FormError ?ex_Refused_Refused ?x1_Refused ?x3_Refused ?x4_Refused ?x5_Refused ?x6_Refused ?x7_Refused ?hf ?g_LINE_LETTERS ?g_LINE_SIGNS ?g_MOST_COUNTED ?g_MOST_DEPTH ?g_MOST_FIELDS ?g_MOST_LETTERS ?g_MOST_SIGNS ?g_MOST_THINGS ?g_MOST_WORD_SIGNS ?g_PLAIN_LETTERS ?g_PLAIN_SIGNS ?g_QUOTED_LETTERS ?g_QUOTED_SIGNS ?g_SIGNS ?g_SMALL_LETTERS ?g_WORD_SIGNS ?g_COMMAND_WORDS ?k_COMMAND_WORDS ?hn
    (case aC_Word | aC_Number | aC_Quoted | aC_Plain | aC_Line | aC_Pen | aC_Writer | aC_FormError | aC_BadWay | aC_BadValue | aC_BadValues | aC_TooMany | aC_Clash | aC_BadText | aC_BadName | aC_Unclear | aC_NoFill | aC_Refused | mk_Word | in_Word | kp_Word | mk_Number | in_Number | kp_Number | mk_Quoted | in_Quoted | kp_Quoted | mk_Plain | in_Plain | kp_Plain | mk_Line | in_Line | kp_Line | mk_Pen | kp_Pen | na_Pen_parts | na_Pen_counted | mk_Writer | kp_Writer | na_Writer_pen | na_Writer_pieces | x3_Refused | x5_Refused | x6_Refused | x7_Refused | g_LINE_LETTERS | g_LINE_SIGNS | g_MOST_COUNTED | g_MOST_DEPTH | g_MOST_FIELDS | g_MOST_LETTERS | g_MOST_SIGNS | g_MOST_THINGS | g_MOST_WORD_SIGNS | g_PLAIN_LETTERS | g_PLAIN_SIGNS | g_QUOTED_LETTERS | g_QUOTED_SIGNS | g_SIGNS | g_SMALL_LETTERS | g_WORD_SIGNS | g_COMMAND_WORDS | k_COMMAND_WORDS => k_is)
    (case cl_Word | cl_Number | cl_Quoted | cl_Plain | cl_Line | cl_Pen | cl_Writer | cg_ | xc_BadValues | xc_Refused => constructor <;> k_is)
    (case kc_Word | kc_Number | kc_Quoted | kc_Plain | kc_Line | kc_BadValues | kc_Refused => exact ⟨by k_is, by k_is, by first | rfl | kernel_rfl⟩)
    (case ki_BadValues_BadName | ki_BadValues_BadText | ki_BadValues_BadValue | ki_BadValues_BadValues | ki_BadValues_BadWay | ki_BadValues_Clash | ki_BadValues_NoFill | ki_BadValues_TooMany | ki_BadValues_Unclear | ki_BadValues_ValueError | ki_Refused_BadName | ki_Refused_BadText | ki_Refused_BadValue | ki_Refused_BadValues | ki_Refused_BadWay | ki_Refused_Clash | ki_Refused_NoFill | ki_Refused_TooMany | ki_Refused_Unclear | ki_Refused_ValueError => kit_is)
    (case xr_BadValues => k_exc)
    (case ex_BadValues_FormError | ex_Refused_Refused => kts_exm)
    (case x1_Refused | x4_Refused => first | rfl | kernel_rfl)
    (case hf => intro f; cases f <;> (refine' K10.fq (Ad := K10.adP _ _ _) ?fa ?fl ?fc ?fk ?fb; (case fa => dsimp only [K10.adP]; first | k_is | ((first | constructor | skip) <;> (repeat' apply And.intro) <;> k_is)); (case fl => k_is); (case fc => k_is); (case fk => k_is); (case fb => intro _ _ _ _ _ _ us hl; first | (obtain rfl := K10.us0 hl; rfl) | (obtain ⟨_, rfl⟩ := K10.us1 hl; rfl) | (obtain ⟨_, _, rfl⟩ := K10.us2 hl; rfl) | (obtain ⟨_, _, _, rfl⟩ := K10.us3 hl; rfl) | (obtain ⟨_, _, _, _, rfl⟩ := K10.us4 hl; rfl) | (obtain ⟨_, _, _, _, _, rfl⟩ := K10.us5 hl; rfl) | (obtain ⟨_, _, _, _, _, _, rfl⟩ := K10.us6 hl; rfl) | (obtain ⟨_, _, _, _, _, _, _, rfl⟩ := K10.us7 hl; rfl))))
    (case hn => intro i; cases i <;> k_is)
