import PyProof.Rows.All
import Wide.All
import OpenK.AllK
import Wide.FinOn
import Lean
import PyProof.EqAt
import PyProof.EqKinds
import PyProof.TupleCall
import PyProof.StationsW
import PyProof.TupleOps
import PyProof.ExcAttrAll.ValueError
import PyProof.ExcClass3
import PyProof.InstStoreFacts
import KE.KDictOf
import PyProof.AttrMissHeap
import KE.LcSums
import KE.KDictList
import PyProof.StrCalls
import PyProof.FactsAll.range_2
import KE.KRevIter
import PyProof.ZipIter
import PyProof.Draws
import PyProof.EnumMake
import PyProof.CompUse
import PyProof.ListCopy
import KE.KRevSl
import PyProof.DictUpdate
import PyProof.NeKinds
import PyProof.Rows.ExtendIn
import PyProof.DictItems
import KE.KPairComp
import PyProof.ListNew
import PyProof.ReprRoads
import PySem.Challenge.RW_formsmith_k22_rows_told
set_option compiler.extract_closed false
noncomputable section
set_option Elab.async false
set_option linter.all false
set_option maxRecDepth 100000
set_option maxHeartbeats 4000000
set_option autoImplicit false
namespace L3
open PySem PySem.Spec PyProof.Rows
abbrev PK:=Sum Int (List Nat)
def S(l:List Nat):Str:=⟨l.toArray⟩
theorem sV{a b:List Nat}(h:S a=S b):a=b:=by have:=congrArg (fun x=>x.cps.toList) h;simpa [S] using this
theorem Hr(x:Str):S x.cps.toList=x:=by cases x;simp [S]
theorem fO(l:List Nat):(S l).length=l.length:=by show (S l).cps.size=_;simp [S]
inductive PV where
 | non | bl (b:Bool) | int (i:Int) | str (x:List Nat) | ty (n:String) | cls (C:Nat)
 | tup (xs:List PV) | lst (xs:List PV) | giv (xs:List PV) | dct (kvs:List (PK×PV)) | ins (C:Nat) (fs:List (Str×PV))
 | ref (i:Nat) | exc (C:Nat) | exa (C:Nat) (v:PV)
mutual
def PV.pure:PV→Bool
 | .ref _=>false
 | .tup xs=>am xs
 | .lst xs=>am xs
 | .giv xs=>am xs
 | .dct kvs=>cW kvs
 | .ins _ fs=>ya fs
 | .exa _ v=>v.pure
 | _=>true
def am:List PV→Bool
 | []=>true
 | x::r=>x.pure&&am r
def cW:List (PK×PV)→Bool
 | []=>true
 | (_,x)::r=>x.pure&&cW r
def ya:List (Str×PV)→Bool
 | []=>true
 | (_,x)::r=>x.pure&&ya r
end
theorem eY:∀ (l:List (PK×PV)),cW l=am (l.map (·.2))
 | []=>by simp [am,cW]
 | (k,x)::r=>by simp [am,cW,eY r]
def xnm(C:Nat):Str:=if C<500 then "at" else "word"
def fnm:Nat→List Str
 | 600=> ["parts","counted"]
 | 601=> ["pen","pieces"]
 | 602=> ["loops","pieces"]
 | 603=> ["numbers","blocks"]
 | 604=> ["text","at"]
 | 605=> ["block","slots","body","place","walks"]
 | 606=> ["things","taken"]
 | 607=> ["program","pen","frames","stack","done","result"]
 | 608=> ["command","nodes","yes","between"]
 | 609=> ["pieces","opened","counted"]
 | _=> []
inductive PO where
 | lst (xs:List PV) | dct (kvs:List (PK×PV)) | froz (v:PV) | obj (C:Nat) (ps:List PV)
inductive Res(α:Type) where
 | ok (a:α) (h:List PO) | exc (e:PV) (h:List PO) | bad
def Res.bind{α β:Type}(r:Res α)(k:α→List PO→Res β):Res β:=match r with
 | .ok a h=>k a h
 | .exc e h=>.exc e h
 | .bad=>.bad
abbrev Ev:=List (Option PV)
abbrev Ex:=Ev→List PO→Res PV
abbrev Tx:=Ev→List PO→Res Bool
abbrev Ax:=Ev→List PO→Res (List PV)
end L3
namespace Z
open PySem PySem.Spec PyProof.Rows L3
def kIs:PK→Value→Bool
 | .inl k,v=>Value.isInt k v
 | .inr x,v=>Value.isStrOf (S x) v
theorem eO:∀ {k:PK} {v:Value},kIs k v=true→(∃ i t,k=Sum.inl i∧v=Value.int i t)∨(∃ x t,k=Sum.inr x∧v=Value.str (S x) t)
 | .inl i,v,h=>let ⟨t,e⟩:=Value.isInt_shape h;.inl ⟨i,t,rfl,e⟩
 | .inr x,v,h=>let ⟨t,e⟩:=Value.isStrOf_shape h;.inr ⟨x,t,rfl,e⟩
def pk(P:Program)(w:World):KeyKind P w PK where
 is:=kIs
 hash:=fun | .inl k=>hashInt k | .inr x=>hashStr w (S x)
 inj:=fun v a b ha hb=>by
  rcases eO ha with ⟨i,t,rfl,rfl⟩ | ⟨x,t,rfl,rfl⟩<;>rcases eO hb with ⟨j,u,rfl,e⟩ | ⟨y,u,rfl,e⟩<;>first | (injection e with e1;first | rw [e1] | rw [sV e1]) | cases e
 byValue:=fun k v h=>by
  rcases eO h with ⟨i,t,rfl,rfl⟩ | ⟨x,t,rfl,rfl⟩<;>rfl
 pyHash:=fun hv h=>by
  rcases eO hv with ⟨i,t,rfl,rfl⟩ | ⟨x,t,rfl,rfl⟩
  ·exact wpAny_pyHash_int h
  ·exact wpAny_pyHash_str h
 eqBool:=fun hu hv h=>by
  rcases eO hu with ⟨i,t,rfl,rfl⟩ | ⟨x,t,rfl,rfl⟩<;>rcases eO hv with ⟨j,u,rfl,rfl⟩ | ⟨y,u,rfl,rfl⟩
  ·exact wpAny_eqBool_int (by rw [Bool.beq_eq_decide_eq];simpa using h)
  ·exact SeqAt.EqAt.int_str i t _ u _ _ _ _ (by simpa using h)
  ·exact SeqAt.EqAt.str_int _ t j u _ _ _ _ (by simpa using h)
  ·exact wpAny_eqBool_str (by rw [show decide (S x=S y)=decide ((Sum.inr x:PK)= .inr y) from decide_eq_decide.mpr ⟨fun e=>by rw [sV e],fun e=>by cases e;rfl⟩];exact h)
 «strs» :=fun k x t v h=>by
  rcases eO h with ⟨i,u,rfl,e⟩ | ⟨y,u,rfl,e⟩<;>cases e
  cases v<;>rfl
structure SC where
 prog:Program
 w:World
 K:PySem.W.Frag
 mg:Str→Option Value
 base:Heap
 T:Nat→Option Addr
abbrev Fz:=Addr→Option Obj
structure Wo where
 F:Fz
 O:Addr→Option Addr
 m:List Addr
 s:Shared
def DO(G:SC)(o:Obj)(kvs:List (PK×Value)):Prop:=o.ExactDict∧∃ es ep,o.data= .dict es ep∧KeysOf (pk G.prog G.w) es∧Pairs (pk G.prog G.w) es.toList kvs∧(kvs.map (·.1)).Nodup
def NsO(o:Obj)(fs:List (Str×Value)):Prop:=∃ es ep,o.data= .dict es ep∧StrKeys es∧UniqKeys es∧∀ n,nsFind es n=fs.lookup n
def sqT:PV→Option (String×List PV)
 | .tup ps=>some ("tuple",ps)
 | .lst ps=>some ("list",ps)
 | .giv ps=>some ("list",ps)
 | _=>none
section
variable (G:SC) (F:Fz) (m:List Addr)
mutual
inductive aZ:PV→Value→Prop where
 | non:aZ .non .none
 | bl (b:Bool):aZ (.bl b) (.bool b)
 | int (i:Int) (t:Tok):aZ (.int i) (.int i t)
 | str (x:List Nat) (t:Tok):aZ (.str x) (.str (S x) t)
 | ty (n:String):aZ (.ty n) (.type n)
 | cls {C:Nat} {a:Addr} (c:G.T C=some a):aZ (.cls C) (.ref a)
 | tup {ps:List PV} {a:Addr} {its:Array Value} {n:Nat} (e:F a=some ({ cls:=.type "tuple",data:=.seq its n })) (z:its.size≤sizeLine) (r:aB ps its.toList):aZ (.tup ps) (.ref a)
 | lst {ps:List PV} {a:Addr} {its:Array Value} {n:Nat} (e:F a=some ({ cls:=.type "list",data:=.seq its n })) (z:its.size≤sizeLine) (r:aB ps its.toList):aZ (.lst ps) (.ref a)
 | giv {ps:List PV} {a:Addr} {its:Array Value} {n:Nat} (e:F a=some ({ cls:=.type "list",data:=.seq its n })) (z:its.size≤sizeLine) (r:aB ps its.toList):aZ (.giv ps) (.ref a)
 | dct {kps:List (PK×PV)} {a:Addr} {o:Obj} {kvs:List (PK×Value)} (e:F a=some o) (d:DO G o kvs) (sm:(a==sysModules)=false) (z:kvs.length≤sizeLine) (k:kvs.map (·.1)=kps.map (·.1)) (r:aB (kps.map (·.2)) (kvs.map (·.2))):aZ (.dct kps) (.ref a)
 | ins {C:Nat} {a Ca dx:Addr} {od:Obj} (c:G.T C=some Ca) (e:F a=some (PySem.W.instObj Ca dx)) (d:F dx=some od) (n:NsO od []):aZ (.ins C []) (.ref a)
 | ref {i:Nat} {a:Addr} (e:m[i]? =some a):aZ (.ref i) (.ref a)
 | exc {C:Nat} {a Ca:Addr} {o:Obj} {vs:Array Value} (c:G.T C=some Ca) (e:F a=some o) (oc:o.cls= .ref Ca) (d:o.data= .fields vs):aZ (.exc C) (.ref a)
 | exa {C:Nat} {a Ca dx:Addr} {o od:Obj} {vs:Array Value} {u:Value} {fs:List (Str×Value)} {p:PV} (c:G.T C=some Ca) (e:F a=some o) (oc:o.cls= .ref Ca) (d:o.data= .fields vs) (od':o.dict=some dx) (e2:F dx=some od) (n:NsO od fs) (l:fs.lookup (xnm C)=some u) (r:aZ p u):aZ (.exa C p) (.ref a)
inductive aB:List PV→List Value→Prop where
 | nil:aB [] []
 | cons {p:PV} {v:Value} {ps:List PV} {vs:List Value} (r:aZ p v) (t:aB ps vs):aB (p::ps) (v::vs)
end
def oB(O:Addr→Option Addr)(g:Heap)(a:Addr):PO→Prop
 | .lst ps=>F a=none∧∃ its n,g.get? a=some { cls:=.type "list",data:=.seq its n }∧its.size≤sizeLine∧aB G F m ps its.toList
 | .dct kps=>F a=none∧∃ o kvs,g.get? a=some o∧DO G o kvs∧(a==sysModules)=false∧kvs.length≤sizeLine∧kvs.map (·.1)=kps.map (·.1)∧aB G F m (kps.map (·.2)) (kvs.map (·.2))
 | .froz p=>aZ G F m p (.ref a)∧p.pure=true∧∃ o,F a=some o
 | .obj C ps=>F a=none∧∃ Ca dx od vs,G.T C=some Ca∧g.get? a=some (PySem.W.instObj Ca dx)∧O dx=some a∧g.get? dx=some od∧NsO od ((fnm C).zip vs)∧vs.length≤(fnm C).length∧aB G F m ps vs
end
section
variable {G:SC} {F F':Fz} {m m':List Addr}
def Sub(m m':List Addr):Prop:=∀ (i:Nat) (a:Addr),m[i]? =some a→m'[i]? =some a
mutual
theorem aZ.mono(hF:∀ a o,F a=some o→F' a=some o):∀ {p:PV} {v:Value},aZ G F m p v→p.pure=true∨Sub m m'→aZ G F' m' p v
 | _,_,.non,_=>.non
 | _,_,.bl b,_=>.bl b
 | _,_,.int i t,_=>.int i t
 | _,_,.str x t,_=>.str x t
 | _,_,.ty n,_=>.ty n
 | _,_,.cls c,_=>.cls c
 | _,_,.tup e z r,h=>.tup (hF _ _ e) z (aB.mono hF r (h.imp_left fun q=>by simpa [PV.pure] using q))
 | _,_,.lst e z r,h=>.lst (hF _ _ e) z (aB.mono hF r (h.imp_left fun q=>by simpa [PV.pure] using q))
 | _,_,.giv e z r,h=>.giv (hF _ _ e) z (aB.mono hF r (h.imp_left fun q=>by simpa [PV.pure] using q))
 | _,_,.dct e d sm z k r,h=>.dct (hF _ _ e) d sm z k (aB.mono hF r (h.imp_left fun q=>by simpa [PV.pure,eY] using q))
 | _,_,.ins c e d n,_=>.ins c (hF _ _ e) (hF _ _ d) n
 | _,_,.ref e,h=>.ref (h.elim (fun q=>by simp [PV.pure] at q) fun q=>q _ _ e)
 | _,_,.exc c e o d,_=>.exc c (hF _ _ e) o d
 | _,_,.exa c e o d o' e2 n l r,h=>.exa c (hF _ _ e) o d o' (hF _ _ e2) n l (aZ.mono hF r (h.imp_left fun q=>by simpa [PV.pure] using q))
theorem aB.mono(hF:∀ a o,F a=some o→F' a=some o):∀ {p:List PV} {v:List Value},aB G F m p v→am p=true∨Sub m m'→aB G F' m' p v
 | _,_,.nil,_=>.nil
 | _,_,.cons r t,h=>.cons (aZ.mono hF r (h.imp_left fun q=>by simp only [am,Bool.and_eq_true] at q;exact q.1)) (aB.mono hF t (h.imp_left fun q=>by simp only [am,Bool.and_eq_true] at q;exact q.2))
end
theorem aZ.sq{p:PV}{t:String}{ps:List PV}{a:Addr}{its:Array Value}{n:Nat}(k:sqT p=some (t,ps))(e:F a=some ({ cls:=.type t,data:=.seq its n }))(z:its.size≤sizeLine)(r:aB G F m ps its.toList):aZ G F m p (.ref a):=by
 unfold sqT at k
 split at k<;>cases k
 ·exact .tup e z r
 ·exact .lst e z r
 ·exact .giv e z r
end
end Z
namespace Z
open PySem PySem.Spec PyProof.Rows L3
structure HR(G:SC)(w:Wo)(h:List PO):Prop where
 sub:∀ a o,w.F a=some o→w.s.heap.get? a=some o
 own:∀ d a,w.O d=some a→(∃ o,w.s.heap.get? d=some o)∧d∉w.m∧w.F d=none
 len:h.length=w.m.length
 nd:w.m.Nodup
 obj:∀ (i:Nat) (o:PO) (a:Addr),h[i]? =some o→w.m[i]? =some a→oB G w.F w.m w.O w.s.heap a o
def Fre(w:Wo)(b:Addr):Prop:=b∉w.m∧w.F b=none∧w.O b=none
def Has(w:Wo)(b:Addr)(o:Obj):Prop:=w.s.heap.get? b=some o∧Fre w b
structure Stp(fs:List Addr)(W:Addr→Prop)(w w':Wo):Prop where
 os:w'.s.os=w.s.os
 ba:AllBare w.s.gens→AllBare w'.s.gens
 fz:∀ a o,w.F a=some o→w'.F a=some o
 ow:∀ d a,w.O d=some a→w'.O d=some a
 pre:∃ t,w'.m=w.m++t
 dom:∀ b o,w.s.heap.get? b=some o→∃ o',w'.s.heap.get? b=some o'
 keep:∀ b o,Has w b o→¬ W b→∃ sl,Has w' b { o with slots:=sl }∧(b∈fs∨sl=o.slots)
section
variable {G:SC} {fs:List Addr} {W W':Addr→Prop} {w w1 w2:Wo} {h h1:List PO} {a b:Addr} {o:Obj} {s':Shared}
theorem Stp.refl:Stp fs W w w:=⟨rfl,id,fun _ _ e=>e,fun _ _ e=>e,⟨[],by simp⟩,fun _ o e=>⟨o,e⟩,fun _ o q _=>⟨o.slots,q,.inr rfl⟩⟩
theorem Stp.trans(x:Stp fs W w w1)(y:Stp fs W w1 w2):Stp fs W w w2:=
 ⟨y.os.trans x.os,y.ba∘x.ba,fun a o e=>y.fz a o (x.fz a o e),fun a o e=>y.ow a o (x.ow a o e),let ⟨t,e⟩:=x.pre;let ⟨u,e'⟩:=y.pre;⟨t++u,by rw [e',e,List.append_assoc]⟩,fun b o e=>let ⟨o',q⟩:=x.dom b o e;y.dom b o' q,fun b o q n=>by
  obtain ⟨sl,q1,z1⟩:=x.keep b o q n
  obtain ⟨sl',q2,z2⟩:=y.keep b _ q1 n
  exact ⟨sl',q2,z1.elim .inl fun z=>z2.imp_right fun z'=>z'.trans z⟩⟩
theorem Stp.weak{fs':List Addr}(x:Stp fs W w w1)(k:∀ b,W b→W' b)(l:∀ b∈fs,b∈fs':=by exact fun _ z=>z):Stp fs' W' w w1:=⟨x.os,x.ba,x.fz,x.ow,x.pre,x.dom,fun b o q n=>let ⟨sl,q,z⟩:=x.keep b o q fun z=>n (k b z);⟨sl,q,z.imp_left (l b)⟩⟩
theorem Stp.sub(x:Stp fs W w w1):Sub w.m w1.m:=fun i a e=>by
 obtain ⟨t,z⟩:=x.pre
 rw [z,List.getElem?_append_left (List.getElem?_eq_some_iff.mp e).1];exact e
theorem Stp.rep(x:Stp fs W w w1){p:PV}{u:Value}(r:aZ G w.F w.m p u):aZ G w1.F w1.m p u:=r.mono x.fz (.inr x.sub)
theorem Stp.reps(x:Stp fs W w w1){p:List PV}{u:List Value}(r:aB G w.F w.m p u):aB G w1.F w1.m p u:=r.mono x.fz (.inr x.sub)
theorem HR.there(H:HR G w h)(e:a∈w.m):∃ o,w.s.heap.get? a=some o:=by
 obtain ⟨i,hi,e⟩:=List.mem_iff_getElem.mp e
 have q:=H.obj i (h[i]'(by rw [H.len];exact hi)) a (by simp) (by simp [← e])
 revert q
 cases h[i]'(by rw [H.len];exact hi) with
 | lst ps=>exact fun ⟨_,_,_,e,_⟩=>⟨_,e⟩
 | dct kps=>exact fun ⟨_,_,_,e,_⟩=>⟨_,e⟩
 | froz p=>exact fun ⟨_,_,o,e⟩=>⟨o,H.sub a o e⟩
 | obj C ps=>exact fun ⟨_,_,_,_,_,_,e,_⟩=>⟨_,e⟩
theorem HR.free(H:HR G w h)(e:w.s.heap.get? a=none):Fre w a:=by
 refine ⟨fun z=>?_,?_,?_⟩
 ·obtain ⟨o,q⟩:=H.there z;rw [e] at q;cases q
 ·cases q:w.F a with
  | none=>rfl
  | some x=>rw [H.sub a x q] at e;cases e
 ·cases q:w.O a with
  | none=>rfl
  | some x=>obtain ⟨⟨o,q'⟩,_⟩:=H.own a x q;rw [e] at q';cases q'
theorem HR.at(H:HR G w h)(e:w.F a=some o):w.s.heap.get? a=some o:=H.sub a o e
theorem bd(g:Heap):g.get? g.objs.size=none:=by
 cases q:g.get? g.objs.size with
 | none=>rfl
 | some o=>exact absurd (Heap.lt_size q) (Nat.lt_irrefl _)
theorem oB.on{g g':Heap}{F F':Fz}{m m':List Addr}{O O':Addr→Option Addr}{po:PO}(hF:∀ a o,F a=some o→F' a=some o)(hO:∀ d,O d=some a→O' d=some a)(hm:Sub m m')(q:oB G F m O g a po)(k:∀ b o,g.get? b=some o→b=a∨O b=some a→g'.get? b=some o)(f:F a=none→F' a=none):oB G F' m' O' g' a po:=by
 cases po with
 | lst ps=>obtain ⟨z,its,n,e,l,r⟩:=q;exact ⟨f z,its,n,k _ _ e (.inl rfl),l,r.mono hF (.inr hm)⟩
 | dct kps=>obtain ⟨z,o,kvs,e,d,y,l,c,r⟩:=q;exact ⟨f z,o,kvs,k _ _ e (.inl rfl),d,y,l,c,r.mono hF (.inr hm)⟩
 | froz p=>obtain ⟨r,z,o,e⟩:=q;exact ⟨r.mono hF (.inr hm),z,o,hF _ _ e⟩
 | obj C ps=>obtain ⟨z,Ca,dx,od,vs,c,e,d,e2,n,l,r⟩:=q;exact ⟨f z,Ca,dx,od,vs,c,k _ _ e (.inl rfl),hO _ d,k _ _ e2 (.inr d),n,l,r.mono hF (.inr hm)⟩
theorem HR.on(H:HR G w h)(k:∀ b o,w.s.heap.get? b=some o→¬ Fre w b→s'.heap.get? b=some o):HR G { w with s:=s' } h:=
 have f:∀ {b o},w.F b=some o→¬ Fre w b:=fun e z=>by rw [z.2.1] at e;cases e
 have d:∀ {b a},w.O b=some a→¬ Fre w b:=fun e z=>by rw [z.2.2] at e;cases e
 ⟨fun a o e=>k a o (H.sub a o e) (f e),fun b a e=>let ⟨⟨o,q⟩,z⟩:=H.own b a e;⟨⟨o,k b o q (d e)⟩,z⟩,H.len,H.nd,fun i o a e1 e2=>(H.obj i o a e1 e2).on (fun _ _ e=>e) (fun _ e=>e) (fun _ _ e=>e) (fun b o e z=>k b o e (z.elim (fun z y=>y.1 (z▸List.mem_of_getElem? e2)) d)) id⟩
end
structure Cx extends SC where
 A:Around
 N:List Str
 env:Env
 stack:List Env
 fn:Str→Bool
 calm:Bool
 tr:Bool
 Ep:(Value→Shared→Prop)→Prop
abbrev Cx.L(X:Cx):Addr:=X.env.locals
def frs(l:List Env):List Addr:=l.filterMap (·.frame)
abbrev Cx.fs(X:Cx):List Addr:=frs X.stack
abbrev Cx.M(X:Cx):Model:=model X.prog X.w
def Cx.W(X:Cx)(b:Addr):Prop:=b=X.L∨∃ x,X.fn x=true∧X.env.cells.lookup x=some b
def NoW:Addr→Prop:=fun _=>False
def Nw(X:Cx)(w w':Wo)(h:List PO):Prop:=Stp X.fs NoW w w'∧HR X.toSC w' h
structure Wd(X:Cx)(w:Wo)(h:List PO):Prop extends HR X.toSC w h where
 ba:AllBare w.s.gens
 bs:∀ b o,X.base.get? b=some o→w.F b=some o
 fr:∀ b∈X.fs,∃ o,Has w b o∧∀ vs,o.data≠.fields vs
def sX(env:Env)(g:Heap)(m:Str→Option Value)(x:Str)(u:Value):Prop:=
 (env.kindOf x=some .local∧m x=some u)∨((env.kindOf x=some .cell∨env.kindOf x=some .free)∧∃ c,env.cells.lookup x=some c∧g.IsCell c (some u))
structure Cx.Ok(X:Cx):Prop where
 kin:X.K.In X.base
 gl:X.base.Ns mainGlobals X.mg
 bl:∃ mb,X.base.Ns builtinsNs mb∧∀ x:Str,x≠"__name__"→mb x=bootBuiltins x
 nl:X.base.NoLimit
 kind:X.env.scope.kind= .function
 glob:X.env.globals=mainGlobals
 blt:X.env.builtins=builtinsNs
 inj:∀ x y c,X.env.cells.lookup x=some c→X.env.cells.lookup y=some c→x=y
 has:∀ x,(X.env.kindOf x=some .cell∨X.env.kindOf x=some .free)→∃ c,X.env.cells.lookup x=some c
 hd:X.calm=true→X.A.handled=none
 frames:X.A.frames=some X.stack
 nd:X.N.Nodup
 sf:∀ env∈X.stack,env.scope.kind≠.module∧∃ L,env.frame=some L∧X.base.get? L=none
structure Inv(X:Cx)(w:Wo)(ρ:Ev)(h:List PO):Prop extends Wd X w h where
 ok:X.Ok
 loc:∃ m o,w.s.heap.Ns X.L m∧Has w X.L o∧∀ (i:Nat) (p:PV),ρ[i]? =some (some p)→∃ x u,X.N[i]? =some x∧aZ X.toSC w.F w.m p u∧sX X.env w.s.heap m x u
 cel:∀ x c,X.env.cells.lookup x=some c→∃ v o,w.s.heap.IsCell c v∧Has w c o
 ln:ρ.length=X.N.length
section
variable {X:Cx} {w w1 w2:Wo} {ρ:Ev} {h h1:List PO} {b:Addr} {o:Obj}
theorem Nw.trans(x:Nw X w w1 h)(y:Nw X w1 w2 h1):Nw X w w2 h1:=⟨x.1.trans y.1,y.2⟩
theorem nN{g g':Heap}{a:Addr}{m:Str→Option Value}(n:g.Ns a m)(k:∀ o,g.get? a=some o→∃ sl,g'.get? a=some { o with slots:=sl }):g'.Ns a m:=let ⟨o,es,ep,e,r⟩:=n;let ⟨sl,q⟩:=k o e;⟨_,es,ep,q,r⟩
theorem uj{g g':Heap}{a:Addr}{v:Option Value}(n:g.IsCell a v)(k:∀ o,g.get? a=some o→∃ sl,g'.get? a=some { o with slots:=sl }):g'.IsCell a v:=let ⟨o,e,d⟩:=n;let ⟨sl,q⟩:=k o e;⟨_,q,d⟩
theorem Stp.slots{W:Addr→Prop}{fs:List Addr}(x:Stp fs W w w1)(q:Has w b o)(n:¬ W b):∀ o,w.s.heap.get? b=some o→∃ sl,w1.s.heap.get? b=some { o with slots:=sl }:=fun o' e=>by
 rw [q.1] at e;cases e
 obtain ⟨sl,z,_⟩:=x.keep b o q n
 exact ⟨sl,z.1⟩
theorem Wd.on{W:Addr→Prop}(I:Wd X w h)(x:Stp X.fs W w w1)(hw:∀ b∈X.fs,W b→∃ o,Has w1 b o∧∀ vs,o.data≠.fields vs)(H:HR X.toSC w1 h1):Wd X w1 h1:=
 ⟨H,x.ba I.ba,fun b o e=>x.fz _ _ (I.bs b o e),fun b hb=>by
  by_cases z:W b
  ·exact hw b hb z
  ·obtain ⟨o,q,d⟩:=I.fr b hb
   obtain ⟨sl,q',_⟩:=x.keep b o q z
   exact ⟨_,q',d⟩⟩
theorem Inv.on(I:Inv X w ρ h)(x:Nw X w w1 h1):Inv X w1 ρ h1:=by
 obtain ⟨m,o,n,hl,q⟩:=I.loc
 have nw:∀ b,¬ NoW b:=fun _ z=>z
 have cl:∀ x c,X.env.cells.lookup x=some c→∀ v,w.s.heap.IsCell c v→w1.s.heap.IsCell c v:=fun y c e v z=>let ⟨_,_,_,hc⟩:=I.cel y c e;uj z (x.1.slots hc (nw c))
 refine ⟨I.toWd.on x.1 (fun _ _ z=>z.elim) x.2,I.ok,⟨m,?_⟩,fun y c e=>?_,I.ln⟩
 ·obtain ⟨sl,z,_⟩:=x.1.keep _ _ hl (nw _)
  refine ⟨_,nN n (x.1.slots hl (nw _)),z,fun i p e=>?_⟩
  obtain ⟨y,u,e1,r,l⟩:=q i p e
  exact ⟨y,u,e1,x.1.rep r,l.imp_right fun ⟨k,c,e,z⟩=>⟨k,c,e,cl y c e _ z⟩⟩
 ·obtain ⟨v,o,z,hc⟩:=I.cel y c e
  obtain ⟨sl,q',_⟩:=x.1.keep _ _ hc (nw _)
  exact ⟨v,_,cl y c e v z,q'⟩
theorem Wd.bk(I:Wd X w h){b:Addr}{o:Obj}(e:X.base.get? b=some o):w.s.heap.get? b=some o:=I.toHR.at (I.bs b o e)
theorem Inv.kIn(I:Inv X w ρ h):X.K.In w.s.heap:=I.ok.kin.keeps fun _ _ e=>I.bk e
end
def Fst(B:Heap)(l:List Env)(a:Addr)(cls a0:Value)(h:Heap):Prop:=B.StaysIn h∧B.get? a=none∧h.FunFrames B l∧∃ o vs,h.get? a=some o∧o.cls=cls∧o.data= .fields vs∧vs[0]? =some a0∧vs[1]? =some .none
structure Fly(X:Cx)(w w':Wo)(a:Addr)(cls:Value)(dx:Option Addr):Prop where
 f:∃ a0 B,(Heap.FlyingW B X.stack a cls a0 w'.s.heap∨X.tr=true∧Fst B X.stack a cls a0 w'.s.heap)∧(∀ b o,w.s.heap.get? b=some o→b∉X.fs→∃ o',B.get? b=some o')∧∀ b,¬ Fre w' b→∃ o',B.get? b=some o'
 d:∃ o,w'.s.heap.get? a=some o∧o.dict=dx
def XV(G:SC)(F:Fz)(m:List Addr)(cls:Value)(dx:Option Addr):PV→Prop
 | .cls C=>∃ Ca,G.T C=some Ca∧cls= .ref Ca∧dx=none
 | .exa C v=>∃ Ca d od fs y,G.T C=some Ca∧cls= .ref Ca∧dx=some d∧F d=some od∧NsO od fs∧fs.lookup (xnm C)=some y∧aZ G F m v y
 | _=>False
def kI(X:Cx)(w w':Wo)(e:PV)(u:Value):Prop:=∃ a cls dx,u= .ref a∧Fly X w w' a cls dx∧XV X.toSC w'.F w'.m cls dx e
theorem kI.to{X:Cx}{w w0 w2 w3:Wo}{e:PV}{u:Value}(r:kI X w w2 e u)(pu:e.pure=true)(hF:w3.F=w2.F)(hs:w3.s=w2.s)(h0:w0.s=w.s)(k:∀ b,¬ Fre w3 b→¬ Fre w2 b∨(∃ o,w.s.heap.get? b=some o)∧b∉X.fs):kI X w0 w3 e u:=by
 obtain ⟨a,cls,dx,rfl,⟨⟨a0,B,f,c1,c2⟩,d⟩,m⟩:=r
 refine ⟨a,cls,dx,rfl,⟨⟨a0,B,hs▸f,h0▸c1,fun b z=>(k b z).elim (c2 b) fun ⟨⟨o,q⟩,n⟩=>c1 b o q n⟩,hs▸d⟩,?_⟩
 rw [hF]
 cases e with
 | exa C v=>obtain ⟨Ca,d,od,fs,y,a,b,c,d',e,f,g⟩:=m;exact ⟨Ca,d,od,fs,y,a,b,c,d',e,f,g.mono (fun _ _ e=>e) (.inl (by simpa [PV.pure] using pu))⟩
 | _=>exact m
abbrev RV(G:SC)(w:Wo):PV→Value→Prop:=aZ G w.F w.m
abbrev RVs(G:SC)(w:Wo):List PV→List Value→Prop:=aB G w.F w.m
def bC{α β:Type}(X:Cx)(R:Wo→α→β→Prop)(w:Wo)(Q:β→Shared→Prop)(E:Value→Shared→Prop):Res α→Prop
 | .ok a h=>X.Ep E∧∀ w' x,Nw X w w' h→R w' a x→Q x w'.s
 | .exc e h=>X.Ep E∧∀ w' u,Nw X w w' h→kI X w w' e u→E u w'.s
 | .bad=>False
abbrev Wp(X:Cx){β:Type}(t:Sem β)(Q:β→Shared→Prop)(E:Value→Shared→Prop)(s:Shared):Prop:=wpAny (model X.prog X.w) X.A t Q E s
structure RE(X:Cx)(e:Expr)(f:Ex):Prop where
 r:∀ {w:Wo} {ρ:Ev} {h:List PO} {Q:Value→Shared→Prop} {E:Value→Shared→Prop},Inv X w ρ h→bC X (RV X.toSC) w Q E (f ρ h)→Wp X (eval e X.env) Q E w.s
structure RT(X:Cx)(e:Expr)(f:Tx):Prop where
 r:∀ {w:Wo} {ρ:Ev} {h:List PO} {Q:Bool→Shared→Prop} {E:Value→Shared→Prop},Inv X w ρ h→bC X (fun _ a b=>a=b) w Q E (f ρ h)→Wp X (isTrue e X.env (eval e X.env)) Q E w.s
structure RA(X:Cx)(es:List Expr)(f:Ax):Prop where
 r:∀ {w:Wo} {ρ:Ev} {h:List PO} {Q:List Value→Shared→Prop} {E:Value→Shared→Prop} (pos:Pos),Inv X w ρ h→bC X (RVs X.toSC) w Q E (f ρ h)→Wp X (spliced (backTo pos (starEach es X.env))) Q E w.s
section
variable {X:Cx} {w w1:Wo} {ρ:Ev} {h:List PO} {α β γ δ:Type} {R:Wo→α→β→Prop} {R':Wo→γ→δ→Prop} {E:Value→Shared→Prop}
theorem Fly.back{a:Addr}{cls:Value}{dx:Option Addr}{w':Wo}{W:Addr→Prop}{fs:List Addr}(f:Fly X w1 w' a cls dx)(x:Stp fs W w w1):Fly X w w' a cls dx:=
 let ⟨a0,B,y,c,d⟩:=f.f;⟨⟨a0,B,y,fun b o e n=>let ⟨o',q⟩:=x.dom b o e;c b o' q n,d⟩,f.d⟩
theorem kI.back{w':Wo}{e:PV}{u:Value}{W:Addr→Prop}{fs:List Addr}(r:kI X w1 w' e u)(x:Stp fs W w w1):kI X w w' e u:=let ⟨a,c,d,e,f,r⟩:=r;⟨a,c,d,e,f.back x,r⟩
theorem bC.ep{Q:β→Shared→Prop}{r:Res α}(p:bC X R w Q E r):X.Ep E:=match r with
 | .ok _ _=>p.1
 | .exc _ _=>p.1
 | .bad=>p.elim
theorem bC.step{Q:β→Shared→Prop}{r:Res α}{h1:List PO}(p:bC X R w Q E r)(x:Nw X w w1 h1):bC X R w1 Q E r:=match r with
 | .ok _ _=>⟨p.1,fun w' u y=>p.2 w' u (x.trans y)⟩
 | .exc _ _=>⟨p.1,fun w' u y r=>p.2 w' u (x.trans y) (r.back x.1)⟩
 | .bad=>p
theorem bC.bind0{Q:δ→Shared→Prop}{G:β→Shared→Prop}{r:Res α}{k:α→List PO→Res γ}(p:bC X R' w Q E (r.bind k))(c:∀ w1 h1 a x,Nw X w w1 h1→R w1 a x→bC X R' w Q E (k a h1)→G x w1.s):bC X R w G E r:=match r with
 | .ok a h=>⟨p.ep,fun w' x y q=>c w' h a x y q p⟩
 | .exc _ _=>p
 | .bad=>p
theorem bC.bind{Q:δ→Shared→Prop}{G:β→Shared→Prop}{r:Res α}{k:α→List PO→Res γ}(p:bC X R' w Q E (r.bind k))(c:∀ w1 h1 a x,Nw X w w1 h1→R w1 a x→bC X R' w1 Q E (k a h1)→G x w1.s):bC X R w G E r:=p.bind0 fun w1 h1 a x y q p=>c w1 h1 a x y q (p.step y)
theorem bC.now{Q:β→Shared→Prop}{a:α}{x:β}{t:Nat}(p:bC X R w Q E (.ok a h))(H:HR X.toSC w h)(r:R { w with s:= { w.s with toks:=t } } a x):Q x { w.s with toks:=t }:=
 p.2 { w with s:= { w.s with toks:=t } } x ⟨⟨rfl,id,fun _ _ e=>e,fun _ _ e=>e,⟨[],by simp⟩,fun _ o e=>⟨o,e⟩,fun _ o q _=>⟨o.slots,q,.inr rfl⟩⟩,H.on fun _ _ e _=>e⟩ r
theorem bC.here{Q:β→Shared→Prop}{a:α}{x:β}(p:bC X R w Q E (.ok a h))(H:HR X.toSC w h)(r:R w a x):Q x w.s:=p.2 w x ⟨.refl,H⟩ r
end
def gz(F:Fz)(a:Addr)(o:Obj):Fz:=fun b=>if b=a then some o else F b
theorem bD{F:Fz}{a:Addr}{o:Obj}:gz F a o a=some o:=if_pos rfl
theorem jl{F:Fz}{a b:Addr}{o:Obj}(n:b≠a):gz F a o b=F b:=if_neg n
theorem cP{F:Fz}{a b:Addr}{o:Obj}(n:b≠a)(e:F b=none):gz F a o b=none:=(jl n).trans e
theorem cJ{F:Fz}{a:Addr}{o:Obj}(n:F a=none)(b:Addr)(x:Obj)(q:F b=some x):gz F a o b=some x:=by rw [jl];exact q;rintro rfl;rw [n] at q;cases q
theorem Nw.lay{X:Cx}{w:Wo}{h:List PO}{a:Addr}{o:Obj}{s':Shared}(H:HR X.toSC w h)(n:w.s.heap.get? a=none)(k:∀ b o,w.s.heap.get? b=some o→s'.heap.get? b=some o)(e:s'.heap.get? a=some o)(ho:s'.os=w.s.os:=by rfl)(hg:s'.gens=w.s.gens:=by rfl):Nw X w ⟨gz w.F a o,w.O,w.m,s'⟩ h:=by
 obtain ⟨z1,z2,z3⟩:=H.free n
 have ne:∀ {b o},w.s.heap.get? b=some o→b≠a:=fun q z=>by rw [z,n] at q;cases q
 refine ⟨⟨ho,fun q=>hg▸q,cJ z2,fun _ _ e=>e,⟨[],by simp⟩,fun b o e=>⟨o,k b o e⟩,fun b ob q _=>⟨ob.slots,⟨k b ob q.1,q.2.1,cP (ne q.1) q.2.2.1,q.2.2.2⟩,.inr rfl⟩⟩,fun b x q=>?_,fun b a q=>let ⟨⟨o,e⟩,z⟩:=H.own b a q;⟨⟨o,k b o e⟩,z.1,cP (ne e) z.2⟩,H.len,H.nd,fun i ob b e1 e2=>(H.obj i ob b e1 e2).on (cJ z2) (fun _ e=>e) (fun _ _ e=>e) (fun b o e _=>k b o e) (cP fun z=>z1 (z▸List.mem_of_getElem? e2))⟩
 by_cases z:b=a
 ·subst z;cases bD.symm.trans q;exact e
 ·exact k b x (H.sub b x ((jl z).symm.trans q))
end Z
namespace L3
def aq(h:List PO):PV→PV
 | .ref i=>match h[i]? with
  | some (.froz q)=>q
  | _=>.ref i
 | p=>p
noncomputable def af(i:Nat):Ex:=fun ρ h=>match ρ[i]? with
 | some (some p)=>.ok (aq h p) h
 | _=>.bad
noncomputable def cK(v:PV):Ex:=fun _ h=>.ok v h
def c1(g:PV→List PO→Res PV)(a:Ex):Ex:=fun ρ h=>(a ρ h).bind g
def c2(g:PV→PV→List PO→Res PV)(a b:Ex):Ex:=fun ρ h=>(a ρ h).bind fun x h1=>(b ρ h1).bind fun y h2=>g x y h2
def cN(g:List PV→List PO→Res PV)(a:Ax):Ex:=fun ρ h=>(a ρ h).bind g
noncomputable def aj:Ax:=fun _ h=>.ok [] h
def ab(a:Ex)(r:Ax):Ax:=fun ρ h=>(a ρ h).bind fun x h1=>(r ρ h1).bind fun xs h2=>.ok (x::xs) h2
end L3
namespace Z
open PySem PySem.Spec PyProof.Rows L3
section
variable {X:Cx} {w w1:Wo} {ρ:Ev} {h:List PO} {a b:Expr} {fa fb:Ex} {ta tb:Tx} {pos:Pos} {Q:Value→Shared→Prop} {E:Value→Shared→Prop}
theorem HR.deref{G:SC}(H:HR G w h){p:PV}{v:Value}(r:aZ G w.F w.m p v):aZ G w.F w.m (aq h p) v:=by
 unfold aq
 split
 ·cases r with
  | ref e=>
   split
   ·rename_i q;exact (H.obj _ _ _ q e).1
   ·exact .ref e
 ·exact r
theorem sX.nm{m:Str→Option Value}{x:Str}{u:Value}{s:Shared}(l:sX X.env s.heap m x u)(n:s.heap.Ns X.L m)(ok:X.Ok)(z:Q u s)(hd:(x==("__debug__":Str))=false)(hcd:(x==("__classdict__":Str))=false):Wp X (eval (.Name x pos) X.env) Q E s:=by
 rcases l with ⟨k,e⟩ | ⟨k | k,c,e,q⟩
 ·exact wpAny_Name (wpAny_loadName_local ok.kind k n e z) hd
 ·exact wpAny_Name (wpAny_loadName_cell ok.kind k e q z) hd
 ·exact wpAny_Name (wpAny_loadName_free ok.kind k e q z hcd) hd
theorem rv(i:Nat){x:Str}(hN:X.N[i]? =some x:=by rfl)(hd:(x==("__debug__":Str))=false:=by decide)(hcd:(x==("__classdict__":Str))=false:=by decide):RE X (.Name x pos) (af i) where
 r I p:=by
  unfold af at p
  split at p
  ·rename_i q
   obtain ⟨m,_,n,_,l⟩:=I.loc
   obtain ⟨y,u,e,r,l⟩:=l i _ q
   cases hN.symm.trans e
   exact l.nm n I.ok (p.here I.toHR (I.deref r)) hd hcd
  ·exact p.elim
theorem ah{i:Int}{j}:RE X (.Constant (.int i) j pos) (cK (.int i)):=⟨fun I p=>wpAny_Constant_int (p.now I.toHR (.int i _))⟩
theorem uM{b:Bool}{j}:RE X (.Constant (.bool b) j pos) (cK (.bl b)):=⟨fun I p=>Constant_bool (p.here I.toHR (.bl b))⟩
theorem dw{j}:RE X (.Constant .none j pos) (cK .non):=⟨fun I p=>Constant_none (p.here I.toHR .non)⟩
theorem Ci(l:List Nat){x:Str}{j}(e:x=S l:=by rfl):RE X (.Constant (.str x) j pos) (cK (.str l)):=⟨fun I p=>Calls.Constant_str (p.now I.toHR (e▸.str l _))⟩
def Op2(X:Cx)(op:Value→Value→Sem Value)(g:PV→PV→List PO→Res PV):Prop:=
 ∀ {w h p q u v Q E},Wd X w h→aZ X.toSC w.F w.m p u→aZ X.toSC w.F w.m q v→bC X (RV X.toSC) w Q E (g p q h)→Wp X (op u v) Q E w.s
def Op1(X:Cx)(op:Value→Sem Value)(g:PV→List PO→Res PV):Prop:=
 ∀ {w h p u Q E},Wd X w h→aZ X.toSC w.F w.m p u→bC X (RV X.toSC) w Q E (g p h)→Wp X (op u) Q E w.s
def OpN(X:Cx)(op:List Value→Sem Value)(g:List PV→List PO→Res PV):Prop:=
 ∀ {w h p u Q E},Wd X w h→aB X.toSC w.F w.m p u→bC X (RV X.toSC) w Q E (g p h)→Wp X (op u) Q E w.s
theorem two{op:Value→Value→Sem Value}{g:PV→PV→List PO→Res PV}(o:Op2 X op g)(ha:RE X a fa)(hb:RE X b fb)(I:Inv X w ρ h)(p:bC X (RV X.toSC) w Q E (c2 g fa fb ρ h)):
  Wp X (eval a X.env) (fun v s=>Wp X (eval b X.env) (fun u s=>Wp X (op v u) Q E s) E s) E w.s:=
 ha.r I (p.bind fun _ _ _ _ y r p=>hb.r (I.on y) (p.bind fun _ _ _ _ z r' p=>o ((I.on y).on z).toWd (z.1.rep r) r' p))
theorem nh{op:Operator}{g:PV→PV→List PO→Res PV}(o:Op2 X (binaryOp op) g)(ha:RE X a fa)(hb:RE X b fb):RE X (.BinOp a op b pos) (c2 g fa fb):=⟨fun I p=>wpAny_BinOp (two o ha hb I p)⟩
theorem Dz{op:UnaryOp}{g:PV→List PO→Res PV}(o:Op1 X (unaryOp op) g)(ha:RE X a fa):RE X (.UnaryOp op a pos) (c1 g fa):=⟨fun I p=>UnaryOp_ (ha.r I (p.bind fun _ _ _ _ y r p=>o (I.on y).toWd r p))⟩
theorem xN{op:CmpOp}{g:PV→PV→List PO→Res PV}(o:Op2 X (compareOp op) g)(hm:behindInMarks op b=false)(ha:RE X a fa)(hb:RE X b fb):RE X (.Compare a [op] [b] pos) (c2 g fa fb):=⟨fun I p=>wpAny_Compare1 (two o ha hb I p) hm⟩
theorem cu:RA X [] aj:=⟨fun _ I p=>Calls.spliced_nil (p.here I.toHR .nil)⟩
theorem ag{e:Expr}{es:List Expr}{f:Ex}{fs:Ax}(ha:RE X e f)(hr:RA X es fs)(hs:starEach (e::es) X.env=(false,eval e X.env)::starEach es X.env:=by rfl):RA X (e::es) (ab f fs):=⟨fun pos I p=>by
 rw [hs]
 exact Calls.spliced_cons (ha.r I (p.bind fun _ _ _ _ y r p=>hr.r pos (I.on y) (p.bind fun _ _ _ _ z r' p=>p.here z.2 (.cons (z.1.rep r) r'))))⟩
end
end Z
namespace L3
open PySem
def lsM(h:List PO):PV→Option (List PV)
 | .lst xs=>some xs
 | .ref i=>match h[i]? with
  | some (.lst xs)=>some xs
  | _=>none
 | _=>none
def lsR(h:List PO):PV→Option (List PV)
 | .giv xs=>some xs
 | p=>lsM h p
def dcR(h:List PO):PV→Option (List (PK×PV))
 | .dct kvs=>some kvs
 | .ref i=>match h[i]? with
  | some (.dct kvs)=>some kvs
  | _=>none
 | _=>none
def sqR(h:List PO):PV→Option (List PV)
 | .tup xs=>some xs
 | p=>lsR h p
end L3
namespace Z
open PySem PySem.Spec PyProof.Rows L3
def SqA(g:Heap)(t:String)(a:Addr)(its:Array Value):Prop:=∃ n,g.get? a=some { cls:=.type t,data:=.seq its n }
theorem SqA.tup{g:Heap}{a:Addr}{its:Array Value}(x:SqA g "tuple" a its):IsTup g a its:=let ⟨n,e⟩:=x;⟨_,e,rfl,n,rfl⟩
theorem SqA.pl{g:Heap}{a:Addr}{its:Array Value}(x:SqA g "list" a its):PlainL g a its:=let ⟨n,e⟩:=x;⟨_,n,e,rfl,rfl,rfl⟩
def sqH(h:List PO):PV→Option (String×List PV)
 | .ref i=>match h[i]? with
  | some (.lst xs)=>some ("list",xs)
  | _=>none
 | p=>sqT p
section
variable {G:SC} {w:Wo} {h:List PO} {p:PV} {u:Value} {t:String} {ps:List PV}
theorem HR.sq(H:HR G w h)(r:aZ G w.F w.m p u)(k:sqH h p=some (t,ps)):∃ a its,u= .ref a∧SqA w.s.heap t a its∧its.size≤sizeLine∧aB G w.F w.m ps its.toList:=by
 unfold sqH at k
 split at k
 ·split at k
  ·rename_i q
   cases k
   cases r with
   | ref e=>obtain ⟨_,its,n,e,z,r⟩:=H.obj _ _ _ q e;exact ⟨_,its,rfl,⟨n,e⟩,z,r⟩
  ·cases k
 ·cases r with
  | tup e z r=>cases k;exact ⟨_,_,rfl,⟨_,H.at e⟩,z,r⟩
  | lst e z r=>cases k;exact ⟨_,_,rfl,⟨_,H.at e⟩,z,r⟩
  | giv e z r=>cases k;exact ⟨_,_,rfl,⟨_,H.at e⟩,z,r⟩
  | _=>cases k
theorem jH(k:lsM h p=some ps):sqH h p=some ("list",ps):=by
 unfold lsM at k
 split at k
 ·cases k;rfl
 ·unfold sqH
  split at k
  ·rename_i q;cases k;simp only [q]
  ·cases k
 ·cases k
theorem fe(k:lsR h p=some ps):sqH h p=some ("list",ps):=by
 unfold lsR at k
 split at k
 ·cases k;rfl
 ·exact jH k
theorem th(k:sqR h p=some ps):∃ t,sqH h p=some (t,ps)∧(t="tuple"∨t="list"):=by
 unfold sqR at k
 split at k
 ·cases k;exact ⟨_,rfl,.inl rfl⟩
 ·exact ⟨_,fe k,.inr rfl⟩
theorem aB.length{F:Fz}{m:List Addr}:∀ {ps:List PV} {vs:List Value},aB G F m ps vs→ps.length=vs.length
 | _,_,.nil=>rfl
 | _,_,.cons _ t=>by simp [aB.length t]
theorem aB.app{F:Fz}{m:List Addr}:∀ {ps qs:List PV} {vs us:List Value},aB G F m ps vs→aB G F m qs us→aB G F m (ps++qs) (vs++us)
 | _,_,_,_,.nil,s=>s
 | _,_,_,_,.cons r t,s=>.cons r (aB.app t s)
theorem aB.get{F:Fz}{m:List Addr}{p:PV}:∀ {ps:List PV} {vs:List Value} {i:Nat},aB G F m ps vs→ps[i]? =some p→∃ v,vs[i]? =some v∧aZ G F m p v
 | _,_,0,.cons r _,e=>by cases e;exact ⟨_,rfl,r⟩
 | _,_,i+1,.cons _ t,e=>aB.get (i:=i) t e
theorem aB.td{F:Fz}{m:List Addr}:∀ {ps:List PV} {vs:List Value} (n:Nat),aB G F m ps vs→aB G F m (ps.take n) (vs.take n)∧aB G F m (ps.drop n) (vs.drop n)
 | _,_,0,r=>⟨.nil,r⟩
 | _,_,_+1,.nil=>⟨.nil,.nil⟩
 | _,_,n+1,.cons r t=>⟨.cons r (aB.td n t).1,(aB.td n t).2⟩
theorem aB.rep{F:Fz}{m:List Addr}{vs:List Value}(r:aB G F m ps vs):∀ n:Nat,aB G F m (List.replicate n ps).flatten (List.replicate n vs).flatten
 | 0=>.nil
 | n+1=>by rw [List.replicate_succ,List.replicate_succ,List.flatten_cons,List.flatten_cons];exact r.app (r.rep n)
theorem aB.len{F:Fz}{m:List Addr}{its:Array Value}(r:aB G F m ps its.toList):ps.length=its.size:=r.length
end
section
variable {X:Cx} {w:Wo} {h:List PO} {pv:PV} {ps:List PV} {Q:Value→Shared→Prop} {E:Value→Shared→Prop} {t:String} {n tk:Nat} {its:Array Value}
theorem bC.seq(p:bC X (RV X.toSC) w Q E (.ok pv h))(H:HR X.toSC w h)(k:sqT pv=some (t,ps))(r:aB X.toSC w.F w.m ps its.toList)(z:its.size≤sizeLine):Q (.ref w.s.heap.objs.size) { w.s with heap:=w.s.heap.push { cls:=.type t,data:=.seq its n },toks:=tk }:=
 have y:=Nw.lay (X:=X) (s':= { w.s with heap:=w.s.heap.push { cls:=.type t,data:=.seq its n },toks:=tk }) H (bd _) (fun _ _ e=>Heap.get?_push_of_some _ e) (Heap.get?_push_size _ rfl)
 p.2 _ _ y (.sq k bD z (y.1.reps r))
theorem Nw.mk{s':Shared}{a:Addr}{po:PO}{O:Addr→Option Addr}(H:HR X.toSC w h)(n:w.s.heap.get? a=none)(k:∀ b o,w.s.heap.get? b=some o→s'.heap.get? b=some o)(q:oB X.toSC w.F (w.m++ [a]) O s'.heap a po)(hO:∀ d b,w.O d=some b→O d=some b)(hn:∀ d b,O d=some b→w.O d=some b∨w.s.heap.get? d=none∧d≠a∧∃ o,s'.heap.get? d=some o)(ho:s'.os=w.s.os:=by rfl)(hg:s'.gens=w.s.gens:=by rfl):Nw X w ⟨w.F,O,w.m++ [a],s'⟩ (h++ [po]):=by
 obtain ⟨z1,z2⟩:=H.free n
 have sb:Sub w.m (w.m++ [a]):=fun i b e=>by rw [List.getElem?_append_left (List.getElem?_eq_some_iff.mp e).1];exact e
 refine ⟨⟨ho,fun q=>hg▸q,fun _ _ e=>e,hO,⟨_,rfl⟩,fun b o e=>⟨o,k b o e⟩,fun b ob q _=>⟨ob.slots,⟨k b ob q.1,fun z=>?_,q.2.2.1,?_⟩,.inr rfl⟩⟩,fun b x q=>k b x (H.sub b x q),fun d b q=>?_,by simp [H.len],List.nodup_append.mpr ⟨H.nd,by simp,fun x hx y hy z=>z1 (by simp at hy;rw [← hy,← z];exact hx)⟩,fun i ob b e1 e2=>?_⟩
 ·rcases List.mem_append.mp z with z | z
  ·exact q.2.1 z
  ·have q:=q.1;simp at z;rw [z,n] at q;cases q
 ·cases e:O b with
  | none=>exact e
  | some d=>
   rcases hn b d e with z | ⟨z,_⟩
   ·rw [q.2.2.2] at z;cases z
   ·have q:=q.1;rw [z] at q;cases q
 ·rcases hn d b q with z | ⟨z,y,x⟩
  ·obtain ⟨⟨o,e⟩,z,y⟩:=H.own d b z;exact ⟨⟨o,k d o e⟩,fun q=>(List.mem_append.mp q).elim z fun q=>(by simp at q;rw [q,n] at e;cases e),y⟩
  ·exact ⟨x,fun q=>(List.mem_append.mp q).elim (H.free z).1 fun q=>y (by simpa using q),(H.free z).2.1⟩
 ·rcases Nat.lt_or_ge i h.length with l | l
  ·rw [List.getElem?_append_left l] at e1
   rw [List.getElem?_append_left (H.len▸l)] at e2
   exact (H.obj i ob b e1 e2).on (fun _ _ e=>e) (fun d=>hO d b) sb (fun b o e _=>k b o e) id
  ·rw [List.getElem?_append_right l] at e1
   rw [List.getElem?_append_right (H.len▸l),← H.len] at e2
   cases e:i - h.length with
   | zero=>rw [e] at e1 e2;cases e1;cases e2;exact q
   | succ _=>rw [e] at e1;simp at e1
theorem bC.lm(p:bC X (RV X.toSC) w Q E (.ok (.ref h.length) (h++ [.lst ps])))(H:HR X.toSC w h)(r:aB X.toSC w.F w.m ps its.toList)(z:its.size≤sizeLine):Q (.ref w.s.heap.objs.size) { w.s with heap:=w.s.heap.push { cls:=.type "list",data:=.seq its n },toks:=tk }:=
 p.2 _ _ (Nw.mk (s':= { w.s with heap:=w.s.heap.push { cls:=.type "list",data:=.seq its n },toks:=tk }) H (bd _) (fun _ _ e=>Heap.get?_push_of_some _ e) ⟨(H.free (bd _)).2.1,its,n,Heap.get?_push_size _ rfl,z,r.mono (fun _ _ e=>e) (.inr fun i b e=>by rw [List.getElem?_append_left (List.getElem?_eq_some_iff.mp e).1];exact e)⟩ (fun _ _ e=>e) fun _ _ e=>.inl e) (.ref (by rw [H.len];simp))
end
end Z
namespace HT
open PySem PyProof.Rows
section
variable {prog:Program} {w:World} {A:Around} {E:Value→Shared→Prop} {s:Shared}
theorem cat_tup{t b:Addr}{vs ws:List Value}{Q:Value→Shared→Prop}(ht:IsTup s.heap t vs.toArray)(hb:IsTup s.heap b ws.toArray)(hv:vs≠ [])
  (h1:ws= []→Q (.ref t) s) (h2:ws≠ []→Q (.ref s.heap.objs.size) { s with heap:=s.heap.push { cls:=.type "tuple",data:=.seq (vs++ws).toArray } })
  (hsz:vs.length+ws.length≤sizeLine):wpAny (model prog w) A (binaryOp .Add (.ref t) (.ref b)) Q E s:=by
 obtain ⟨⟨cls,dd,data,sl⟩,ho,hc,n,hd⟩:=id ht
 obtain ⟨⟨cls2,dd2,data2,sl2⟩,ho2,hc2,n2,hd2⟩:=id hb
 simp only at hc hd hc2 hd2
 subst hc hd hc2 hd2
 have e:vs.toArray++ws.toArray=(vs++ws).toArray:=by simp
 by_cases hw:ws= []
 ·exact concat_meets ⟨_,ho,rfl⟩ ⟨_,ho2,rfl⟩ noFill_tuple_add seq_tuple_add PySem.F.slot_tuple_add PySem.F.entry_tuple_add (PySem.F.args_tuple_add_2 _ _)
   (tuple_addW1 t b vs.toArray ws.toArray n n2 dd dd2 sl sl2 (by simpa using hv) (by simp [hw])) ⟨ho,ho2,h1 hw⟩
 ·refine concat_meets ⟨_,ho,rfl⟩ ⟨_,ho2,rfl⟩ noFill_tuple_add seq_tuple_add PySem.F.slot_tuple_add PySem.F.entry_tuple_add (PySem.F.args_tuple_add_2 _ _)
   (tuple_addW2 t b vs.toArray ws.toArray n n2 dd dd2 sl sl2 (by simpa using hv) (by simpa using hw) (by rw [List.size_toArray,List.size_toArray];exact hsz)) ⟨ho,ho2,?_⟩
  rw [e]
  exact h2 hw
def sIx(n d:Nat):Option Int→Nat
 | none=>d
 | some v=>if v<0 then (v+(n:Int)).toNat else min v.toNat n
theorem sIx_none(n d:Nat):sIx n d none=d:=rfl
theorem sIx_nat(n d k:Nat):sIx n d (some (k:Int))=min k n:=by
 show (if (k:Int)<0 then ((k:Int)+(n:Int)).toNat else min (k:Int).toNat n)=min k n
 rw [if_neg (by omega),Int.toNat_natCast]
theorem sIx_le(n d:Nat)(hd:d≤n)(o:Option Int):sIx n d o≤n:=by
 cases o with
 | none=>exact hd
 | some v=>
  show (if v<0 then (v+(n:Int)).toNat else min v.toNat n)≤n
  by_cases hv:v<0
  ·rw [if_pos hv];omega
  ·rw [if_neg hv];exact Nat.min_le_right _ _
theorem vJ(v:Int)(n d:Nat):(if v<0 then max (v+(n:Int)) 0 else min v (n:Int))=((sIx n d (some v):Nat):Int):=by
 show (if v<0 then max (v+(n:Int)) 0 else min v (n:Int))=(((if v<0 then (v+(n:Int)).toNat else min v.toNat n):Nat):Int)
 by_cases hv:v<0
 ·simp only [if_pos hv];omega
 ·simp only [if_neg hv];omega
theorem uq(lo hi:Option Int)(n:Nat):Builtin.Slice.sliceAdjust lo hi 1 (n:Int)=(((sIx n 0 lo:Nat):Int),((sIx n n hi:Nat):Int)):=by
 have h1:¬ ((1:Int)<0):=by omega
 unfold Builtin.Slice.sliceAdjust
 simp only [h1,if_false]
 refine Prod.ext ?_ ?_
 ·cases lo with
  | none=>rfl
  | some v=>exact vJ v n 0
 ·cases hi with
  | none=>rfl
  | some v=>exact vJ v n n
theorem tH(i j:Nat):Builtin.Slice.slicePlaces (i:Int) (j:Int) 1=j - i:=by
 unfold Builtin.Slice.slicePlaces
 have h1:(1:Int)>0:=by omega
 simp only [h1,if_true,Int.ediv_one]
 split<;>omega
theorem mW{v:Value}{o:Option Int}{Q:Option Int→Shared→Prop}(p:IsPart v o)(h:Q o s):wpAny (model prog w) A (Builtin.Slice.slicePartIndex v) Q E s:=by
 cases p with
 | none=>exact slicePart_none h
 | int i t=>exact slicePart_int h
theorem gS{sl:Addr}{vl vu:Value}{lo hi:Option Int}{n:Nat}{Q:Int×Int×Nat→Shared→Prop}(hs:s.heap.IsSliceOf sl vl vu .none)(pl:IsPart vl lo)(pu:IsPart vu hi)
  (h:Q (((sIx n 0 lo:Nat):Int),1,sIx n n hi - sIx n 0 lo) s):wpAny (model prog w) A (Builtin.Slice.sliceApplied (.ref sl) (pure (n:Int))) Q E s:=by
 obtain ⟨os,hos,hcs,hds⟩:=id hs
 unfold Builtin.Slice.sliceApplied Builtin.Slice.sliceFields
 refine wpAny_bind (wpAny_bind (wpAny_field hos hds (x:=vl) rfl (wpAny_bind (wpAny_field hos hds (x:=vu) rfl (wpAny_bind (wpAny_field hos hds (x:=.none) rfl (wpAny_pure ?_)))))))
 refine wpAny_bind (slicePart_none ?_)
 show wpAny _ _ (if ((1:Int)==0)=true then _ else _) _ _ s
 rw [if_neg (by decide)]
 refine wpAny_bind (mW pl (wpAny_bind (mW pu (wpAny_bind (wpAny_pure ?_)))))
 show wpAny _ _ (match Builtin.Slice.sliceAdjust lo hi 1 (n:Int) with | (lo,hi)=>pure (lo,(1:Int),Builtin.Slice.slicePlaces lo hi 1)) _ _ s
 rw [uq lo hi n]
 show wpAny _ _ (pure (((sIx n 0 lo:Nat):Int),(1:Int),Builtin.Slice.slicePlaces ((sIx n 0 lo:Nat):Int) ((sIx n n hi:Nat):Int) 1)) _ _ s
 rw [tH]
 exact wpAny_pure h
theorem yh(xs:Array Value)(i k:Nat):((List.range k).filterMap fun (m:Nat)=>xs[((i:Int)+(m:Int) * 1).toNat]?).toArray=((xs.toList.drop i).take k).toArray:=by
 have e:(fun (m:Nat)=>xs[((i:Int)+(m:Int) * 1).toNat]?)=fun m=>xs[i+m]? :=by
  funext m
  have:((i:Int)+(m:Int) * 1).toNat=i+m:=by omega
  rw [this]
 rw [e]
 have:=pick_run xs i k
 rw [List.filterMap_map] at this
 have e2:((fun x=>xs[x]?)∘fun x=>i+x)=fun m=>xs[i+m]? :=rfl
 rw [e2] at this
 rw [this]
theorem getItem_tuple_cut{t sl:Addr}{items:Array Value}{vl vu:Value}{lo hi:Option Int}{Q:Value→Shared→Prop}(ht:IsTup s.heap t items)(hs:s.heap.IsSliceOf sl vl vu .none)(pl:IsPart vl lo)(pu:IsPart vu hi)
  (hw:¬ (sIx items.size 0 lo=0∧sIx items.size items.size hi=items.size))
  (h:Q (.ref s.heap.objs.size) { s with heap:=s.heap.push { cls:=.type "tuple",data:=.seq ((items.toList.drop (sIx items.size 0 lo)).take (sIx items.size items.size hi - sIx items.size 0 lo)).toArray } })
  (hsz:items.size≤sizeLine):wpAny (model prog w) A (getItem (.ref t) (.ref sl)) Q E s:=by
 have htake:sizeOk (.seq ((items.toList.drop (sIx items.size 0 lo)).take (sIx items.size items.size hi - sIx items.size 0 lo)).toArray):=by
  show ((items.toList.drop (sIx items.size 0 lo)).take (sIx items.size items.size hi - sIx items.size 0 lo)).toArray.size≤sizeLine
  rw [List.size_toArray,List.length_take,List.length_drop,Array.length_toList]
  omega
 have hj:sIx items.size items.size hi≤items.size:=sIx_le _ _ (Nat.le_refl _) hi
 obtain ⟨os,hos,hcs,hds⟩:=id hs
 have hTs:s.TypeIs (.ref sl) "slice":=⟨os,hos,hcs⟩
 unfold getItem
 try with_reducible refine wpAny_holding ?_
 first | refine wpAny_bind (wpAny_pure ?_) | skip
 refine wpAny_bind (wpAny_sequenceKey ht.typeIs (by decide) ?_)
 refine wpAny_bind (wpAny_callSpecial?_slot (name:=Str.ofString "__getitem__") ht.typeIs PyProof.Rows.slot_tuple_getitem
  (wpAny_call_entry PyProof.Rows.slot_tuple_getitem ht.typeIs entry_tuple_getitem ?_ (args_tuple_getitem _ _)))
 show wpAny _ _ (Builtin.Tuple.tupleItemsOf (.ref t) >>= _) _ _ s
 refine wpAny_bind (tupleItemsOf_ ht ?_)
 refine wpAny_bind (wpAny_typeOf hTs ?_)
 rw [if_pos (by decide)]
 refine wpAny_bind (gS hs pl pu ?_)
 have hno:¬ ((((sIx items.size 0 lo:Nat):Int)==0&&(1:Int)==1&&(sIx items.size items.size hi - sIx items.size 0 lo)==items.size)=true):=by
  intro q
  rw [Bool.and_eq_true,Bool.and_eq_true] at q
  have q1:((sIx items.size 0 lo:Nat):Int)=0:=eq_of_beq q.1.1
  have q2:sIx items.size items.size hi - sIx items.size 0 lo=items.size:=eq_of_beq q.2
  exact hw ⟨by omega,by omega⟩
 show wpAny _ _ (if (((sIx items.size 0 lo:Nat):Int)==0&&(1:Int)==1&&(sIx items.size items.size hi - sIx items.size 0 lo)==items.size)=true then _ else _) _ _ s
 rw [if_neg hno,yh]
 first
  | exact wpAny_bind (m:=Builtin.Tuple.tupleExact _) (wpAny_newObj_type (wpAny_pure ⟨_,rfl,wpAny_pure h⟩) htake)
  | exact wpAny_bind (m:=Builtin.Tuple.tupleExact _) (wpAny_newObj_type (wpAny_bind (wpAny_pure (wpAny_pure ⟨_,rfl,wpAny_pure h⟩))) htake)
  | exact wpAny_bind (wpAny_bind (m:=Builtin.Tuple.tupleExact _) (wpAny_newObj_type (wpAny_pure (wpAny_pure ⟨_,rfl,wpAny_pure h⟩)) htake))
  | exact wpAny_bind (wpAny_bind (m:=Builtin.Tuple.tupleExact _) (wpAny_newObj_type (wpAny_pure ⟨_,rfl,wpAny_pure h⟩) htake))
theorem getItem_tuple_all{t sl:Addr}{items:Array Value}{vl vu:Value}{lo hi:Option Int}{Q:Value→Shared→Prop}(ht:IsTup s.heap t items)(hs:s.heap.IsSliceOf sl vl vu .none)(pl:IsPart vl lo)(pu:IsPart vu hi)
  (hw:sIx items.size 0 lo=0∧sIx items.size items.size hi=items.size) (h:Q (.ref t) s):wpAny (model prog w) A (getItem (.ref t) (.ref sl)) Q E s:=by
 obtain ⟨os,hos,hcs,hds⟩:=id hs
 have hTs:s.TypeIs (.ref sl) "slice":=⟨os,hos,hcs⟩
 unfold getItem
 try with_reducible refine wpAny_holding ?_
 first | refine wpAny_bind (wpAny_pure ?_) | skip
 refine wpAny_bind (wpAny_sequenceKey ht.typeIs (by decide) ?_)
 refine wpAny_bind (wpAny_callSpecial?_slot (name:=Str.ofString "__getitem__") ht.typeIs PyProof.Rows.slot_tuple_getitem
  (wpAny_call_entry PyProof.Rows.slot_tuple_getitem ht.typeIs entry_tuple_getitem ?_ (args_tuple_getitem _ _)))
 show wpAny _ _ (Builtin.Tuple.tupleItemsOf (.ref t) >>= _) _ _ s
 refine wpAny_bind (tupleItemsOf_ ht ?_)
 refine wpAny_bind (wpAny_typeOf hTs ?_)
 rw [if_pos (by decide)]
 refine wpAny_bind (gS hs pl pu ?_)
 have yes:(((sIx items.size 0 lo:Nat):Int)==0&&(1:Int)==1&&(sIx items.size items.size hi - sIx items.size 0 lo)==items.size)=true:=by
  rw [hw.1,hw.2];simp
 show wpAny _ _ (if (((sIx items.size 0 lo:Nat):Int)==0&&(1:Int)==1&&(sIx items.size items.size hi - sIx items.size 0 lo)==items.size)=true then _ else _) _ _ s
 rw [if_pos yes]
 obtain ⟨⟨ct,dt,da,sl'⟩,hot,hct,n,hdt⟩:=id ht
 cases (show ct=Value.type "tuple" from hct)
 wp_walk using AutoSeq1.wpAny_loadPart' hot
 exact ⟨_,rfl,wpAny_pure h⟩
end
end HT
namespace L2
open PySem PySem.Spec PyProof.Rows
theorem lC(its:List Value):∀ (k:Nat) (acc:List Value),
  List.foldl (fun x1 x2=>x1++x2) acc.toArray (List.replicate k its.toArray)=(acc++(List.replicate k its).flatten).toArray
 | 0,acc=>by simp
 | k+1,acc=>by
  have e:acc.toArray++its.toArray=(acc++its).toArray:=by simp
  have e2:(acc++its)++(List.replicate k its).flatten=acc++(List.replicate (k+1) its).flatten:=by
   rw [List.replicate_succ,List.flatten_cons,List.append_assoc]
  rw [← e2,← lC its k (acc++its),← e,List.replicate_succ,List.foldl_cons]
theorem mH{α:Type}(xs:List α)(k:Nat):(List.replicate k xs).flatten.length=k * xs.length:=by
 induction k with
 | zero=>simp
 | succ k ih=>rw [List.replicate_succ,List.flatten_cons,List.length_append,ih,Nat.succ_mul,Nat.add_comm]
theorem sj{n:Nat}(h:n≤sizeLine):Builtin.List.listTooLong n=false:=by
 unfold Builtin.List.listTooLong
 exact decide_eq_false (by omega)
theorem vX:fillsNumberSlot (.type "tuple") "mul"=pure false:=by kernel_rfl
theorem rF:seqRepeat? (.type "tuple")=pure (some (.builtin "tuple.__mul__")):=by kernel_rfl
theorem tx(a:Int)(t:Tok)(l:Addr)(its:Array Value)(n:Nat)(dd:Option Addr)(sl:Array (Option Value)):
  Meets (Builtin.«int.__rmul__» ⟨[.int a t,.ref l],[]⟩) (fun _ R s=>s.heap.get? l=some { cls:=.type "tuple",dict:=dd,data:=.seq its n,slots:=sl }∧R (.ok (.ret Value.notImplemented)) s):=
 .of_wp fun prog w A R s h=>by
  obtain ⟨hp,g,d,tk,os⟩:=s
  obtain ⟨hl,h⟩:=h
  wp_walk
  exact ⟨_,rfl,h⟩
theorem vW(l:Addr)(its:List Value)(n:Nat)(dd:Option Addr)(sl:Array (Option Value))(k:Int)(t:Tok)(h1: -(2 ^ 63)≤k)(h2:k<2 ^ 63)(hz:its.length * k.toNat≤sizeLine):
  Meets (Builtin.«tuple.__mul__» ⟨[.ref l,.int k t],[]⟩) (fun _ R s=>s.heap.get? l=some { cls:=.type "tuple",dict:=dd,data:=.seq its.toArray n,slots:=sl }∧
   ((its= []∨k=1)→R (.ok (.ret (.ref l))) s)∧R (.ok (.ret (.ref s.heap.objs.size))) { s with heap:=s.heap.push { cls:=.type "tuple",data:=.seq (List.replicate k.toNat its).flatten.toArray } }):=
 .of_wp fun prog w A R s h=>by
  obtain ⟨hp,g,d,tk,os⟩:=s
  obtain ⟨hl,q1,q2⟩:=h
  have f1:=AutoSeq1.idx_int
  have f2:=AutoSeq1.sub_tuple_tuple
  have b1:¬ ((decide (k< -(2 ^ 63))||decide (k≥2 ^ 63))=true):=by simp;omega
  unfold Builtin.«tuple.__mul__»
  wp_walk using AutoSeq1.wpAny_loadPart' hl
  rw [if_neg b1]
  wp_walk using AutoSeq1.wpAny_loadPart' hl
  have em:its.toArray.isEmpty=its.isEmpty:=by cases its<;>rfl
  have fr:∀ xs:Array Value,xs.size≤sizeLine→xs=(List.replicate k.toNat its).flatten.toArray→wpAny (model prog w) A.in1 (Builtin.Tuple.tupleExact xs >>= fun v=>ret v) (fun fin s'=>∃ v,fin=Fin.done (Flow.ret v)∧R (Except.ok (Flow.ret v)) s') (fun e s'=>R (Except.error e) s') ⟨hp,g,d,tk,os⟩:=fun xs hx e=>by
   unfold Builtin.Tuple.tupleExact
   subst e
   exact wpAny_bind (wpAny_newObj_type (wpAny_pure ⟨_,rfl,q2⟩) hx)
  by_cases c:(its.toArray.isEmpty||k==1)=true
  ·rw [if_pos c]
   wp_walk using AutoSeq1.wpAny_loadPart' hl
   refine ⟨_,rfl,q1 ?_⟩
   rw [Bool.or_eq_true,em,List.isEmpty_iff,beq_iff_eq] at c
   exact c
  ·rw [if_neg c]
   rw [Bool.or_eq_true,not_or,em,List.isEmpty_iff] at c
   by_cases c2:(decide (k≤0)||its.toArray.isEmpty)=true
   ·rw [if_pos c2]
    rw [Bool.or_eq_true,em,List.isEmpty_iff] at c2
    have k0:k.toNat=0:=by
     rcases c2 with z | z
     ·have:=of_decide_eq_true z;omega
     ·exact absurd z c.1
    exact fr #[] (Nat.zero_le _) (by rw [k0];rfl)
   ·rw [if_neg c2]
    have e2:(its.toArray.size:Int) * k=((its.length * k.toNat:Nat):Int):=by
     have:((k.toNat:Nat):Int)=k:=Int.toNat_of_nonneg (by
      simp only [Bool.or_eq_true,not_or,decide_eq_true_eq] at c2;omega)
     rw [List.size_toArray];push_cast;rw [this]
    have sl8:(sizeLine:Nat)≤(2 ^ 63 - 1) / 8:=by decide
    rw [if_neg (by rw [e2];intro z;have:(its.length * k.toNat:Nat)≤(2 ^ 63 - 1) / 8:=Nat.le_trans hz sl8;omega)]
    rw [if_neg (by rw [e2];unfold Builtin.Tuple.tupleTooMany;intro z;have:=of_decide_eq_true z;have h3:((its.length * k.toNat:Nat):Int)≤(sizeLine:Nat):=Int.ofNat_le.mpr hz;omega)]
    have hf:List.foldl (fun x1 x2=>x1++x2) #[] (List.replicate k.toNat its.toArray)=(List.replicate k.toNat its).flatten.toArray:=by
     have:=lC its k.toNat []
     rw [List.nil_append] at this
     exact this
    refine fr _ ?_ hf
    rw [hf,List.size_toArray,mH,Nat.mul_comm]
    exact hz
theorem pX(lo hi:Option Int)(n:Nat):(sliceBounds lo hi none n).1=((HT.sIx n 0 lo:Nat):Int)∧(sliceBounds lo hi none n).2.1=((HT.sIx n n hi:Nat):Int)∧(sliceBounds lo hi none n).2.2=1:=by
 refine ⟨?_,?_,rfl⟩
 ·cases lo with
  | none=>simp [sliceBounds,HT.sIx]
  | some i=>
   simp only [sliceBounds,HT.sIx,Option.getD_none,show (1:Int)>0 by decide,if_true]
   by_cases h:i<0
   ·simp only [h,if_true]<;>omega
   ·simp only [h,if_false]<;>omega
 ·cases hi with
  | none=>simp [sliceBounds,HT.sIx]
  | some i=>
   simp only [sliceBounds,HT.sIx,Option.getD_none,show (1:Int)>0 by decide,if_true]
   by_cases h:i<0
   ·simp only [h,if_true]<;>omega
   ·simp only [h,if_false]<;>omega
theorem oF(its:List Value)(lo hi:Option Int):slicePick its.toArray lo hi none=((its.drop (HT.sIx its.length 0 lo)).take (HT.sIx its.length its.length hi - HT.sIx its.length 0 lo)).toArray:=by
 obtain ⟨h1,h2,h3⟩:=pX lo hi its.toArray.size
 unfold slicePick
 rw [h1,h2,h3]
 simp only [sliceRange_one,pick_run,List.size_toArray]<;>rfl
end L2
namespace L3
open PySem PySem.Spec PyProof.Rows
def wF(p q:PV)(h:List PO):Res PV:=match p,q with
 | .int i,.int j=>.ok (.int (i+j)) h
 | .int i,.bl b=>.ok (.int (i+b2i b)) h
 | .str a,.str b=>if a.length+b.length≤sizeLine then .ok (.str (a++b)) h else .bad
 | .tup a,.tup b=>if a.isEmpty=false∧a.length+b.length≤sizeLine then .ok (.tup (a++b)) h else .bad
 | p,q=>match lsM h p,lsM h q with
  | some a,some b=>if a.length+b.length≤sizeLine then .ok (.lst (a++b)) h else .bad
  | _,_=>.bad
def ay(p q:PV)(h:List PO):Res PV:=match p,q with
 | .tup [],.tup b=>.ok (.tup b) h
 | p,q=>wF p q h
def pI(C:Int→Int→Bool)(g:Int→Int→Int)(p q:PV)(h:List PO):Res PV:=match p,q with
 | .int i,.int j=>if C i j=true then .ok (.int (g i j)) h else .bad
 | _,_=>.bad
def ke(p q:PV)(h:List PO):Res PV:=match p,q with
 | .int i,.int j=>.ok (.int (i - j)) h
 | _,_=>.bad
abbrev bV:=pI (fun _ j=>decide (0<j)) (fun i j=>i % j)
abbrev db:=pI (fun _ j=>decide (0<j∧j<1073741824)) (fun i j=>i / j)
def bel(n:Nat)(i:Int):Bool:=Nat.blt i.natAbs n
def Gd(i j:Int):Bool:=decide (Builtin.Int.intBits i+Builtin.Int.intBits j≤134217728)
def hH(i j:Int):Bool:=bel 18446744073709551616 i||(bel 18446744073709551616 j||Gd i j)
def dI{α:Type}(xs:List α)(k:Int):List α:=(List.replicate k.toNat xs).flatten
def iP(p q:PV)(h:List PO):Res PV:=match p,q with
 | .int i,.int j=>if hH i j=true then .ok (.int (i * j)) h else .bad
 | .str a,.int k=>if bel 1048576 k=true∧a.length * k.toNat≤1048576 then .ok (.str (dI a k)) h else .bad
 | p,.int k=>match lsM h p with
  | some xs=>if bel 9223372036854775808 k=true∧xs.length * k.toNat≤sizeLine then .ok (.lst (dI xs k)) h else .bad
  | _=>.bad
 | _,_=>.bad
def ym(p q:PV)(h:List PO):Res PV:=match p,q with
 | .tup xs,.int k=>if bel 9223372036854775808 k=true∧xs.length * k.toNat≤sizeLine then .ok (.tup (dI xs k)) h else .bad
 | p,q=>iP p q h
def jE(p:PV)(h:List PO):Res PV:=match p with
 | .int i=>.ok (.int (-i)) h
 | _=>.bad
theorem bX{n:Nat}{i:Int}:bel n i=true↔ -(n:Int)<i∧i<(n:Int):=by
 unfold bel
 rw [Nat.blt_eq]
 omega
theorem zM(a b:List Nat):S a++S b=S (a++b):=by
 show (⟨(S a).cps++(S b).cps⟩:Str)=_
 simp [S]
end L3
namespace Z
open PySem PySem.Spec PyProof.Rows L3 L2
section
variable {X:Cx} {a b:Expr} {fa fb:Ex} {pos:Pos}
theorem DM:Op2 X (binaryOp .Add) ay:=fun {w h p q u v Q E} I rp rq k=>by
 unfold ay at k
 split at k
 ·obtain ⟨a,its,rfl,⟨n,e⟩,z,r⟩:=I.sq (ps:= []) rp rfl
  obtain ⟨b,its',rfl,⟨n',e'⟩,_⟩:=I.sq rq rfl
  exact concat_meets ⟨_,e,rfl⟩ ⟨_,e',rfl⟩ noFill_tuple_add seq_tuple_add F.slot_tuple_add F.entry_tuple_add (F.args_tuple_add_2 _ _) (tuple_addW0 a b _ _ n n' _ _ _ _ (by have:=r.len;simpa using this.symm)) ⟨e,e',k.here I.toHR rq⟩
 ·unfold wF at k
  split at k
  ·cases rp;cases rq;exact add_int (k.now I.toHR (.int _ _))
  ·cases rp;cases rq;exact add_int_bool (k.now I.toHR (.int _ _))
  ·split at k
   ·cases rp;cases rq;exact add_str (fun _ _=>by rw [zM];exact k.now I.toHR (.str _ _)) (by rw [fO,fO];assumption)
   ·exact k.elim
  ·split at k
   ·rename_i xs ys _ c
    obtain ⟨a,its,rfl,x,z,r⟩:=I.sq rp rfl
    obtain ⟨b,its',rfl,y,_,r'⟩:=I.sq rq rfl
    have l:=r.len;have l':=r'.len
    refine HT.cat_tup (vs:=its.toList) (ws:=its'.toList) x.tup y.tup (fun z=>?_) (fun z=>?_) (fun z=>?_) (by simp;omega)
    ·obtain rfl:xs= []:=(by simp at z;simpa [z] using l)
     cases c.1
    ·obtain rfl:ys= []:=(by simp at z;simpa [z] using l')
     rw [List.append_nil] at k;exact k.here I.toHR rp
    ·exact k.seq I.toHR rfl (by simpa using r.app r') (by simp;omega)
   ·exact k.elim
  ·split at k
   ·rename_i xs ys e1 e2
    split at k
    ·obtain ⟨a,its,rfl,⟨_,x⟩,z,r⟩:=I.sq rp (jH e1)
     obtain ⟨b,its',rfl,⟨_,y⟩,_,r'⟩:=I.sq rq (jH e2)
     have l:=r.len;have l':=r'.len
     exact PySem.P.add_list x y (k.seq I.toHR rfl (by simpa using r.app r') (by simp;omega)) (by omega)
    ·exact k.elim
   ·exact k.elim
theorem o_I{op:Operator}{C:Int→Int→Bool}{g:Int→Int→Int}(o:∀ {i j t t' s Q} {E:Value→Shared→Prop},C i j=true→Q (.int (g i j) s.toks) { s with toks:=s.toks+1 }→Wp X (binaryOp op (.int i t) (.int j t')) Q E s):Op2 X (binaryOp op) (pI C g):=fun I rp rq k=>by
 unfold pI at k
 split at k
 ·cases rp;cases rq
  split at k
  ·exact o ‹_› (k.now I.toHR (.int _ _))
  ·exact k.elim
 ·exact k.elim
theorem au(ha:RE X a fa)(hb:RE X b fb):RE X (.BinOp a .Add b pos) (c2 ay fa fb):=nh DM ha hb
theorem gM(ha:RE X a fa)(hb:RE X b fb):RE X (.BinOp a .Sub b pos) (c2 ke fa fb):=nh (fun I rp rq k=>by
 unfold ke at k
 split at k
 ·cases rp;cases rq;exact sub_int (k.now I.toHR (.int _ _))
 ·exact k.elim) ha hb
theorem aR(ha:RE X a fa)(hb:RE X b fb):RE X (.BinOp a .Mod b pos) (c2 bV fa fb):=nh (o_I fun {i j t t' s Q E} c q=>by
 have c:=of_decide_eq_true c
 exact mod_int' (by omega) (by rw [Int.fmod_eq_emod_of_nonneg i (by omega)];exact q)) ha hb
theorem aX(ha:RE X a fa)(hb:RE X b fb):RE X (.BinOp a .FloorDiv b pos) (c2 db fa fb):=nh (o_I fun {i j t t' s Q E} c q=>by
 have c:=of_decide_eq_true c
 exact floordiv_int (by omega) (by rw [Int.fdiv_eq_ediv_of_nonneg i (by omega)];exact q) (.inl (PyProof.noPylong_small (by omega)))) ha hb
theorem gN(ha:RE X a fa):RE X (.UnaryOp .USub a pos) (c1 jE fa):=Dz (fun I rp k=>by
 unfold jE at k
 split at k
 ·cases rp;exact neg_int (k.now I.toHR (.int _ _))
 ·exact k.elim) ha
theorem sJ(l:Array Value)(k:Nat):List.foldl (fun x1 x2=>x1++x2) #[] (List.replicate k l)=(List.replicate k l.toList).flatten.toArray:=by
 have:=lC l.toList k []
 simpa using this
theorem EZ(a:List Nat)(k:Int):Txt.mul (S a) k=S (dI a k):=by
 unfold Txt.mul dI
 have f:∀ (k:Nat) (acc:List Nat),(List.replicate k a.toArray).foldl (· ++ ·) acc.toArray=(acc++(List.replicate k a).flatten).toArray:=fun k=>by
  induction k with
  | zero=>simp
  | succ k ih=>intro acc;rw [List.replicate_succ,List.foldl_cons,List.replicate_succ,List.flatten_cons,← List.append_assoc,← ih (acc++a)];congr 1;simp
 split
 ·rw [show k.toNat=0 by omega];rfl
 ·split
  ·rename_i h1 h2
   rcases Bool.or_eq_true _ _▸h2 with z | z
   ·obtain rfl:k=1:=by simpa using z
    simp
   ·obtain rfl:a= []:=by rw [fO] at z;simpa using z
    simp
  ·show (⟨_⟩:Str)=⟨_⟩
   congr 1
   exact (f k.toNat []).trans (by simp)
theorem DG:Op2 X (binaryOp .Mult) ym:=fun {w h p q u v Q E} I rp rq k=>by
 unfold ym at k
 split at k
 ·split at k
  ·rename_i xs n hz
   have hk:=bX.mp hz.1
   cases rq
   obtain ⟨l,its,rfl,⟨_,e⟩,z,r⟩:=I.sq rp rfl
   have ln:=r.len
   refine wpAny_binaryOp_repeat_ref (T:="tuple") (U:="int") (by decide) ⟨_,e,rfl⟩ (fun s'=>typeIs_int s' _ _) vX F.fills_int_mul F.slot_int_rmul rF F.slot_int_index.lookup
    (call_meets F.slot_int_rmul (typeIs_int w.s _ _) F.entry_int_rmul (F.args_int_rmul_2 _ _) (tx _ _ l its _ _ _) ⟨e,rfl,⟨_,e,rfl⟩,call_meets F.slot_tuple_mul ⟨_,e,rfl⟩ F.entry_tuple_mul (F.args_tuple_mul_2 _ _) (vW l its.toList _ _ _ _ _ (by omega) (by omega) (by simp;rw [← ln];exact hz.2)) ⟨e,fun c=>?_,k.seq I.toHR rfl (r.rep _) (by rw [List.size_toArray,mH,← r.length,Nat.mul_comm];exact hz.2)⟩⟩)
   rw [show dI xs n=xs by
    rcases c with c | rfl
    ·obtain rfl:xs= []:=by simp at c;simpa [c] using ln
     simp [dI]
    ·simp [dI]] at k
   exact k.here I.toHR rp
  ·exact k.elim
 ·unfold iP at k
  split at k
  ·cases rp;cases rq
   split at k
   ·rename_i hc
    unfold hH at hc
    rw [Bool.or_eq_true,Bool.or_eq_true,bX,bX] at hc
    exact mul_int (k.now I.toHR (.int _ _)) (by
     rcases hc with c | c | c
     ·exact .of_left (intBits_le_64 c.1 c.2)
     ·exact .of_right (intBits_le_64 c.1 c.2)
     ·exact IntMulOk.of_le (Nat.le_refl _) (Nat.le_refl _) (of_decide_eq_true c))
   ·exact k.elim
  ·rename_i a n _
   cases rp;cases rq
   split at k
   ·rename_i hc
    obtain ⟨h1,h2⟩:=bX.mp hc.1
    have h3:=hc.2
    refine SB.mul ⟨by simp;omega,fun g1 g2=>?_,fun g1 g2=>?_⟩ fun _ _=>by rw [EZ];exact k.now I.toHR (.str _ _)
    ·have:a.length * 1≤a.length * n.toNat:=Nat.mul_le_mul_left _ (by omega)
     have:(2:Int) ^ 20≤(2 ^ 63 - 1) / n:=by
      rw [Int.le_ediv_iff_mul_le (by omega)]
      have:(2:Int) ^ 20 * n≤2 ^ 20 * 2 ^ 20:=Int.mul_le_mul_of_nonneg_left (by omega) (by decide)
      omega
     rw [fO];omega
    ·rw [fO]
     have:(2:Nat) ^ 20≤sizeLine:=by decide
     simp [Builtin.Str.tooLong];omega
   ·exact k.elim
  ·rename_i n _ _ _
   cases rq
   split at k
   ·rename_i xs e'
    split at k
    ·rename_i hz
     have hk:=bX.mp hz.1
     obtain ⟨l,its,rfl,⟨_,e⟩,z,r⟩:=I.sq rp (jH e')
     have ln:=r.len
     have hl:=hz.2
     rw [ln] at hl
     have:(sizeLine:Nat)≤(2 ^ 63 - 1) / 8:=by decide
     refine wpAny_binaryOp_repeat_ref (T:="list") (U:="int") (by decide) ⟨_,e,rfl⟩ (fun s'=>typeIs_int s' _ _) noFill_list_mul F.fills_int_mul F.slot_int_rmul repeat_list F.slot_int_index.lookup
      (call_meets F.slot_int_rmul (typeIs_int w.s _ _) F.entry_int_rmul (F.args_int_rmul_2 _ _) (int___rmul___int_list _ _ l its _) ⟨e,rfl,⟨_,e,rfl⟩,call_meets F.slot_list_mul ⟨_,e,rfl⟩ F.entry_list_mul (F.args_list_mul_2 _ _) (AutoListH.list___mul___list_int_3 l its _ n _ (by rw [fitsIndex_both (by omega) (by omega)];exact Bool.false_ne_true) (by omega) (by rw [sj hl];exact Bool.false_ne_true)) ⟨e,?_⟩⟩)
     rw [sJ,show (List.replicate (if its.isEmpty=true then 0 else n.toNat) its.toList).flatten=(List.replicate n.toNat its.toList).flatten by split<;>simp_all]
     exact k.seq I.toHR rfl (r.rep _) (by rw [List.size_toArray,mH,← r.length,Nat.mul_comm];exact hz.2)
    ·exact k.elim
   ·exact k.elim
  ·exact k.elim
end
end Z
namespace L3
open PySem PySem.Spec PyProof.Rows
mutual
def toD:PV→PyData
 | .non=>.none
 | .bl b=>.bool b
 | .int i=>.int i
 | .str l=>.str (S l)
 | .tup xs=>.tuple (dC xs)
 | .lst xs=>.list (dC xs)
 | .giv xs=>.list (dC xs)
 | _=>.dict []
def dC:List PV→List PyData
 | []=> []
 | x::r=>toD x::dC r
end
def dOf(h:List PO):PV→PyData
 | .ref i=>match h[i]? with
  | some (.lst xs)=>.list (dC xs)
  | _=>.dict []
 | p=>toD p
def okD(h:List PO)(p:PV):Bool:=(dOf h p).canLay0&&decide ((dOf h p).depth≤60)
def pEq(p q:PV)(h:List PO):Res PV:=if okD h p=true∧okD h q=true then .ok (.bl (PyData.eqv (dOf h p) (dOf h q))) h else .bad
def pNe(p q:PV)(h:List PO):Res PV:=if okD h p=true∧okD h q=true then .ok (.bl (!PyData.eqv (dOf h p) (dOf h q))) h else .bad
def yr(g:Int→Int→Bool)(p q:PV)(h:List PO):Res PV:=match p,q with
 | .int i,.int j=>.ok (.bl (g i j)) h
 | _,_=>.bad
abbrev pLt:=yr fun i j=>decide (i<j)
abbrev pGt:=yr fun i j=>decide (j<i)
def fL:PV→Bool
 | .non=>true
 | _=>false
def pIs(p q:PV)(h:List PO):Res PV:=match q with
 | .non=>.ok (.bl (fL p)) h
 | _=>.bad
def kZ(p q:PV)(h:List PO):Res PV:=match q with
 | .non=>.ok (.bl (!fL p)) h
 | _=>.bad
def aJ(f:Ex):Tx:=fun ρ h=>(f ρ h).bind fun p h1=>match p with
 | .bl b=>.ok b h1
 | _=>.bad
def xq(f:Tx):Tx:=fun ρ h=>(f ρ h).bind fun b h1=>.ok (!b) h1
def oK(f g:Tx):Tx:=fun ρ h=>(f ρ h).bind fun b h1=>if b=true then g ρ h1 else .ok false h1
def pV(f g:Tx):Tx:=fun ρ h=>(f ρ h).bind fun b h1=>if b=true then .ok true h1 else g ρ h1
def cOr(f g:Ex):Ex:=fun ρ h=>(f ρ h).bind fun p h1=>match p with
 | .bl b=>if b=true then .ok (.bl true) h1 else g ρ h1
 | _=>.bad
def Bc(t:Tx)(f g:Ex):Ex:=fun ρ h=>(t ρ h).bind fun b h1=>if b=true then f ρ h1 else g ρ h1
def dcM(h:List PO):PV→Option (List (PK×PV))
 | .ref i=>match h[i]? with
  | some (.dct kvs)=>some kvs
  | _=>none
 | _=>none
def pT(h:List PO):PV→Option Bool
 | .non=>some false
 | .bl b=>some b
 | .int i=>some (i !=0)
 | .str l=>if l.length≤sizeLine then some (!l.isEmpty) else none
 | p=>match sqR h p with
  | some xs=>some (!xs.isEmpty)
  | none=>match dcM h p with
   | some kvs=>some (!kvs.isEmpty)
   | none=>none
def iK(f:Ex):Tx:=fun ρ h=>(f ρ h).bind fun p h1=>match pT h1 p with
 | some b=>.ok b h1
 | none=>.bad
end L3
namespace Z
open PySem PySem.Spec PyProof.Rows L3
theorem bC.imp{α β:Type}{X:Cx}{R:Wo→α→β→Prop}{w:Wo}{Q Q':β→Shared→Prop}{E:Value→Shared→Prop}{r:Res α}(p:bC X R w Q E r)(k:∀ x s,Q x s→Q' x s):bC X R w Q' E r:=match r with
 | .ok _ _=>⟨p.1,fun w' x y q=>k _ _ (p.2 w' x y q)⟩
 | .exc _ _=>p
 | .bad=>p
section
variable {G:SC} {w:Wo} {h:List PO}
mutual
theorem aZ.reads(H:HR G w h):∀ {p:PV} {u:Value},aZ G w.F w.m p u→(toD p).canLay0=true→∃ as,Reads w.s.heap u (toD p) as
 | _,_,.non,_=>by simp only [toD];exact ⟨_,.none⟩
 | _,_,.bl b,_=>by simp only [toD];exact ⟨_,.bool b⟩
 | _,_,.int i t,_=>by simp only [toD];exact ⟨_,.int i t⟩
 | _,_,.str x t,_=>by simp only [toD];exact ⟨_,.str _ t⟩
 | _,_,.tup e _ r,c=>by
  simp only [toD,PyData.canLay0] at c ⊢
  obtain ⟨as,q⟩:=aB.reads H r c
  exact ⟨_,.tuple (H.at e) rfl rfl q⟩
 | _,_,.lst e _ r,c=>by
  simp only [toD,PyData.canLay0] at c ⊢
  obtain ⟨as,q⟩:=aB.reads H r c
  exact ⟨_,.list (H.at e) rfl rfl q⟩
 | _,_,.giv e _ r,c=>by
  simp only [toD,PyData.canLay0] at c ⊢
  obtain ⟨as,q⟩:=aB.reads H r c
  exact ⟨_,.list (H.at e) rfl rfl q⟩
 | _,_,.ty _,c=>by simp [toD,PyData.canLay0] at c
 | _,_,.cls _,c=>by simp [toD,PyData.canLay0] at c
 | _,_,.dct _ _ _ _ _ _,c=>by simp [toD,PyData.canLay0] at c
 | _,_,.ins _ _ _ _,c=>by simp [toD,PyData.canLay0] at c
 | _,_,.ref _,c=>by simp [toD,PyData.canLay0] at c
 | _,_,.exc _ _ _ _,c=>by simp [toD,PyData.canLay0] at c
 | _,_,.exa _ _ _ _ _ _ _ _ _,c=>by simp [toD,PyData.canLay0] at c
theorem aB.reads(H:HR G w h):∀ {p:List PV} {u:List Value},aB G w.F w.m p u→PyData.canLayAll0 (dC p)=true→∃ as,ReadsAll w.s.heap u (dC p) as
 | _,_,.nil,_=>by simp only [dC];exact ⟨_,.nil⟩
 | _,_,.cons r t,c=>by
  simp only [dC,PyData.canLayAll0,Bool.and_eq_true] at c ⊢
  obtain ⟨as,q⟩:=aZ.reads H r c.1
  obtain ⟨bs,q'⟩:=aB.reads H t c.2
  exact ⟨_,.cons q q'⟩
end
theorem HR.reads(H:HR G w h){p:PV}{u:Value}(r:aZ G w.F w.m p u)(c:(dOf h p).canLay0=true):∃ as,Reads w.s.heap u (dOf h p) as:=by
 unfold dOf at c ⊢
 split
 ·split
  ·rename_i q
   cases r with
   | ref e=>
    obtain ⟨_,its,n,e,_,r⟩:=H.obj _ _ _ q e
    simp only [q,PyData.canLay0] at c
    obtain ⟨as,q⟩:=r.reads H c
    exact ⟨_,.list e rfl rfl q⟩
  ·rename_i q;revert c;dsimp only;split
   ·rename_i q';exact absurd q' (q _)
   ·simp [PyData.canLay0]
 ·rename_i q
  have e:dOf h p=toD p:=by unfold dOf;split;exact absurd rfl (q _);rfl
  exact r.reads H (by rw [← e];exact c)
end
section
variable {X:Cx} {w:Wo} {ρ:Ev} {h:List PO} {a b c:Expr} {fa fb fc:Ex} {ta tb:Tx} {pos:Pos} {rest:List Expr}
theorem bN(b:Expr){op:CmpOp}(h:op≠.In:=by decide)(h2:op≠.NotIn:=by decide):behindInMarks op b=false:=by
 have e1:(op==CmpOp.In)=false:=by cases op<;>first | rfl | exact absurd rfl h
 have e2:(op==CmpOp.NotIn)=false:=by cases op<;>first | rfl | exact absurd rfl h2
 cases b<;>simp [behindInMarks,e1,e2]
theorem DJ(hu:X.A.units+64<cLine):Op2 X (compareOp .Eq) pEq:=fun {w h p q u v Q E} I rp rq k=>by
 unfold pEq okD at k
 split at k
 ·rename_i c
  simp only [Bool.and_eq_true,decide_eq_true_eq] at c
  obtain ⟨as,ra⟩:=I.reads rp c.1.1
  obtain ⟨bs,rb⟩:=I.reads rq c.2.1
  exact SeqAt.compareEq_reads ra rb c.1.1 c.2.1 (by have:=Nat.min_le_left (dOf h p).depth (dOf h q).depth;omega) (k.here I.toHR (.bl _))
 ·exact k.elim
theorem wG(hu:X.A.units+64<cLine):Op2 X (compareOp .NotEq) pNe:=fun {w h p q u v Q E} I rp rq k=>by
 unfold pNe okD at k
 split at k
 ·rename_i c
  simp only [Bool.and_eq_true,decide_eq_true_eq] at c
  obtain ⟨as,ra⟩:=I.reads rp c.1.1
  obtain ⟨bs,rb⟩:=I.reads rq c.2.1
  exact SeqAt.compareNe_reads ra rb c.1.1 c.2.1 (by have:=Nat.min_le_left (dOf h p).depth (dOf h q).depth;omega) (k.here I.toHR (.bl _))
 ·exact k.elim
theorem DL{op:CmpOp}{g:Int→Int→Bool}(o:∀ {i j t t' s Q} {E:Value→Shared→Prop},Q (.bool (g i j)) s→Wp X (compareOp op (.int i t) (.int j t')) Q E s):Op2 X (compareOp op) (yr g):=fun I rp rq k=>by
 unfold yr at k
 split at k
 ·cases rp;cases rq;exact o (k.here I.toHR (.bl _))
 ·exact k.elim
theorem qC:Op2 X (compareOp .Lt) pLt:=DL lt_int
theorem Cv:Op2 X (compareOp .Gt) pGt:=DL gt_int
theorem ph{G:SC}{F:Fz}{m:List Addr}{p:PV}{u:Value}(r:aZ G F m p u):(u==Value.none)=fL p:=by cases r<;>rfl
theorem oW:Op2 X (compareOp .Is) pIs:=fun I rp rq k=>by
 unfold pIs at k
 split at k
 ·cases rq;exact is_none_gen (ph rp▸k.here I.toHR (.bl _))
 ·exact k.elim
theorem tN:Op2 X (compareOp .IsNot) kZ:=fun I rp rq k=>by
 unfold kZ at k
 split at k
 ·cases rq;exact isnot_none_gen (ph rp▸k.here I.toHR (.bl _))
 ·exact k.elim
theorem bL{op:CmpOp}{g:PV→PV→List PO→Res PV}(o:Op2 X (compareOp op) g)(hm:behindInMarks op b=false)(ha:RE X a fa)(hb:RE X b fb):RT X (.Compare a [op] [b] pos) (aJ (c2 g fa fb)) where
 r I p:=wpAny_isTrue_Compare1 (two o ha hb I (p.bind fun _ _ q _ y r p=>by
  cases r with
  | bl=>exact wpAny_truthy_bool (p.here y.2 rfl)
  | _=>exact p.elim)) hm
structure RW(X:Cx)(e:Expr)(f:Tx):Prop where
 r:∀ {whole:Sem Value} {w:Wo} {ρ:Ev} {h:List PO} {Q:Bool→Shared→Prop} {E:Value→Shared→Prop},Inv X w ρ h→bC X (fun _ a b=>a=b) w Q E (f ρ h)→Wp X (isTrue e X.env whole) Q E w.s
theorem RW.rt{f:Tx}(h:RW X a f):RT X a f:=⟨h.r⟩
theorem BY(ha:RT X a ta):RT X (.UnaryOp .Not a pos) (xq ta):=⟨fun I p=>isTrue_not (ha.r I (p.bind fun _ _ _ _ y r p=>p.here y.2 (r▸rfl)))⟩
theorem qg(ha:RT X a ta):RW X (.BoolOp .And [a] pos) ta:=⟨fun {_ _ _ _ Q _} I p=>isTrue_and (ha.r I (bC.imp p fun b s q=>by cases b;exact q;exact isTrue_and_nil q))⟩
theorem mY(ha:RT X a ta):RW X (.BoolOp .Or [a] pos) ta:=⟨fun {_ _ _ _ Q _} I p=>isTrue_or (ha.r I (bC.imp p fun b s q=>by cases b;exact isTrue_or_nil q;exact q))⟩
theorem qh(ha:RT X a ta)(hb:RW X (.BoolOp .And (b::rest) pos) tb):RW X (.BoolOp .And (a::b::rest) pos) (oK ta tb):=⟨fun I p=>isTrue_and (ha.r I (p.bind fun _ _ c _ y r p=>by
 subst r
 cases c
 ·exact p.here y.2 rfl
 ·exact hb.r (I.on y) p))⟩
theorem oQ(ha:RT X a ta)(hb:RW X (.BoolOp .Or (b::rest) pos) tb):RW X (.BoolOp .Or (a::b::rest) pos) (pV ta tb):=⟨fun I p=>isTrue_or (ha.r I (p.bind fun _ _ c _ y r p=>by
 subst r
 cases c
 ·exact hb.r (I.on y) p
 ·exact p.here y.2 rfl))⟩
theorem xI{op}(ha:RE X a fa):RE X (.BoolOp op [a] pos) fa:=⟨fun I p=>BoolOp_one (ha.r I p)⟩
theorem Bj(ha:RE X a fa)(hb:RE X (.BoolOp .Or (b::rest) pos) fb):RE X (.BoolOp .Or (a::b::rest) pos) (cOr fa fb):=⟨fun I p=>BoolOp_or (ha.r I (p.bind fun _ _ c _ y r p=>by
 cases r with
 | bl c=>exact wpAny_truthy_bool (by cases c;exact hb.r (I.on y) p;exact p.here y.2 (.bl _))
 | _=>exact p.elim))⟩
theorem rP(hc:RT X c ta)(ha:RE X a fa)(hb:RE X b fb):RE X (.IfExp c a b pos) (Bc ta fa fb):=⟨fun I p=>wpAny_IfExp (hc.r I (p.bind fun _ _ c _ y r p=>by
 subst r
 cases c
 ·exact hb.r (I.on y) p
 ·exact ha.r (I.on y) p))⟩
end
end Z
namespace L3
open PySem
def br(ps:List PV)(h:List PO):Res PV:=if ps.length≤sizeLine then .ok (.lst ps) h else .bad
def eM(ps:List PV)(h:List PO):Res PV:=if ps.length≤sizeLine then .ok (.ref h.length) (h++ [.lst ps]) else .bad
def aS(ps:List PV)(h:List PO):Res PV:=if ps.length≤sizeLine then .ok (.tup ps) h else .bad
end L3
namespace Z
open PySem PySem.Spec PyProof.Rows L3
theorem DO.of{G:SC}{o:Obj}{kvs:List (PK×Value)}{g:Heap}{a:Addr}(d:DO G o kvs)(e:g.get? a=some o):g.DictOf (pk G.prog G.w) a kvs:=let ⟨x,es,ep,y,z⟩:=d;⟨o,es,ep,e,x,y,z⟩
section
variable {G:SC} {w:Wo} {h:List PO} {p:PV} {u:Value} {kps:List (PK×PV)}
def Dd(G:SC)(w:Wo)(kps:List (PK×PV))(kvs:List (PK×Value)):Prop:=kvs.length≤sizeLine∧kvs.map (·.1)=kps.map (·.1)∧aB G w.F w.m (kps.map (·.2)) (kvs.map (·.2))
theorem HR.dc(H:HR G w h)(r:aZ G w.F w.m p u)(k:dcR h p=some kps):∃ a kvs,u= .ref a∧(a==sysModules)=false∧w.s.heap.DictOf (pk G.prog G.w) a kvs∧Dd G w kps kvs:=by
 unfold dcR at k
 split at k
 ·cases k
  cases r with
  | dct e d y z c r=>exact ⟨_,_,rfl,y,d.of (H.at e),z,c,r⟩
 ·split at k
  ·rename_i q
   cases k
   cases r with
   | ref e=>obtain ⟨_,o,kvs,e,d,y,z⟩:=H.obj _ _ _ q e;exact ⟨_,kvs,rfl,y,d.of e,z⟩
  ·cases k
 ·cases k
theorem aB.sz{F:Fz}{m:List Addr}{ps:List PV}{us:List Value}(r:aB G F m ps us)(z:ps.length≤sizeLine):us.toArray.size≤sizeLine:=Nat.le_trans (Nat.le_of_eq r.length.symm) z
theorem Dd.len{kvs:List (PK×Value)}(r:Dd G w kps kvs):kvs.length=kps.length:=by have:=congrArg List.length r.2.1;simpa using this
theorem EO(k:dcM h p=some kps):dcR h p=some kps:=by
 unfold dcM at k
 split at k
 ·exact k
 ·cases k
end
section
variable {X:Cx} {w:Wo} {ρ:Ev} {h:List PO} {a b e:Expr} {es:List Expr} {fa fb:Ex} {f:Ax} {pos p0:Pos} {x:Str} {id:String} {g:List PV→List PO→Res PV}
theorem Wd.tru(I:Wd X w h){p:PV}{u:Value}{c:Bool}{Q:Bool→Shared→Prop}{E:Value→Shared→Prop}(r:aZ X.toSC w.F w.m p u)(k:pT h p=some c)(q:bC X (fun _ a b=>a=b) w Q E (.ok c h)):Wp X (truthy u) Q E w.s:=by
 have l:sizeLine=16777216:=sizeLine_eq
 unfold pT at k
 split at k
 ·cases k;cases r;exact truthy_none (q.here I.toHR rfl)
 ·cases k;cases r;exact wpAny_truthy_bool (q.here I.toHR rfl)
 ·cases k;cases r;exact PySem.P.truthy_int (q.here I.toHR rfl)
 ·cases r
  split at k
  ·cases k
   exact PySem.P.truthy_str (by rw [fO];omega) (q.now I.toHR (by rw [fO];cases ‹List Nat›;rfl;symm;simp;omega))
  ·cases k
 ·split at k
  ·rename_i e
   cases k
   obtain ⟨t,e,ht⟩:=th e
   obtain ⟨a,its,rfl,y,z,r⟩:=I.sq r e
   have n:its.isEmpty=(‹List PV›).isEmpty:=by
    have:=r.len
    cases its;rename_i l;cases l<;>cases ‹List PV› <;>simp_all
   rcases ht with rfl | rfl
   ·exact truthy_tuple y.tup (by omega) (q.now I.toHR (by rw [n]))
   ·exact wpAny_truthy_list y.pl.isList (by omega) (q.now I.toHR (by rw [n]))
  ·split at k
   ·rename_i e
    cases k
    obtain ⟨a,kvs,rfl,y,d,r⟩:=I.dc r (EO e)
    exact wpAny_truthy_dict y d (by have:=r.1;omega) (q.now I.toHR (by have:=r.len;cases kvs<;>cases ‹List (PK×PV)› <;>simp_all))
   ·cases k
theorem kW(ha:RE X a fa)(he:∀ whole,isTrue a X.env whole=(do let v ← whole;standAt a.pos;holding [v] (truthy v)):=by intro _;rfl):RT X a (iK fa):=⟨fun I p=>isTrue_plain (ha.r I (p.bind fun _ h1 q _ y r p=>by
 cases e:pT h1 q with
 | none=>rw [e] at p;exact p.elim
 | some b=>rw [e] at p;exact (I.on y).toWd.tru r e p)) (he _)⟩
theorem aA{k}(ha:RA X es f):RE X (.Tuple es k pos) (cN aS f):=⟨fun I p=>wpAny_Tuple_spliced (ha.r _ I (p.bind fun _ _ ps us y r p=>by
 unfold aS at p
 split at p
 ·exact ⟨r.length▸ ‹_›,p.seq (ps:=ps) y.2 rfl r (r.sz ‹_›)⟩
 ·exact p.elim))⟩
theorem aL(ha:RA X es f):RE X (.List es pos) (cN br f):=⟨fun I p=>wpAny_List_spliced (ha.r _ I (p.bind fun _ _ ps us y r p=>by
 unfold br at p
 split at p
 ·exact ⟨r.length▸ ‹_›,p.seq (ps:=ps) y.2 rfl r (r.sz ‹_›)⟩
 ·exact p.elim))⟩
theorem fy(ha:RA X es f):RE X (.List es pos) (cN eM f):=⟨fun I p=>wpAny_List_spliced (ha.r _ I (p.bind fun _ _ ps us y r p=>by
 unfold eM at p
 split at p
 ·exact ⟨r.length▸ ‹_›,p.lm (ps:=ps) y.2 r (r.sz ‹_›)⟩
 ·exact p.elim))⟩
def Gl(X:Cx)(x:Str):Prop:=X.env.kindOf x=some .globalImplicit
theorem Inv.glb(I:Inv X w ρ h){u:Value}{Q:Value→Shared→Prop}{E:Value→Shared→Prop}(hg:Gl X x)(hm:X.mg x=some u)(q:Q u w.s)(hd:(x==("__debug__":Str))=false:=by decide):Wp X (eval (.Name x p0) X.env) Q E w.s:=
 Calls.Name_function_global I.ok.kind hg (Calls.loadGlobal_global (by rw [I.ok.glob];exact I.ok.gl.keeps fun _ _ e=>I.bk e) hm q) hd
theorem Inv.blt(I:Inv X w ρ h){u:Value}{Q:Value→Shared→Prop}{E:Value→Shared→Prop}(hg:Gl X x)(hm:X.mg x=none)(hv:bootBuiltins x=some u)(q:Q u w.s)(hn:x≠"__name__":=by decide)(hd:(x==("__debug__":Str))=false:=by decide):Wp X (eval (.Name x p0) X.env) Q E w.s:=
 let ⟨mb,h1,h2⟩:=I.ok.bl
 Calls.Name_function_global I.ok.kind hg (Calls.loadGlobal_builtin (by rw [I.ok.glob];exact I.ok.gl.keeps fun _ _ e=>I.bk e) hm (by rw [I.ok.blt];exact h1.keeps fun _ _ e=>I.bk e) ((h2 x hn).trans hv) q) hd
def OpC(X:Cx)(f:Value)(g:List PV→List PO→Res PV):Prop:=X.Ok→OpN X (fun us=>call f us) g
theorem xP(o:OpC X (.builtin id) g)(hg:Gl X x)(hm:X.mg x=none)(hv:bootBuiltins x=some (.builtin id))(ha:RA X (e::es) f)(hn:x≠"__name__":=by decide)(hdb:(x==("__debug__":Str))=false:=by decide)(he:starEach (e::es) X.env=(false,eval e X.env)::starEach es X.env:=by rfl)(hpl:(backTo pos (starEach es X.env)).any (·.1)=false:=by rfl):RE X (.Call (.Name x p0) (e::es) [] pos) (cN g f):=
 ⟨fun I p=>wpAny_Call_Name_kw (I.blt hg hm hv (callWith_builtin1 (ha.r pos I (p.bind fun _ _ _ _ y r p=>o I.ok (I.on y).toWd r p)) he hpl) hn hdb)⟩
theorem wk(o:OpC X (.type id) g)(hg:Gl X x)(hm:X.mg x=none)(hv:bootBuiltins x=some (.type id))(ha:RA X (e::es) f)(hn:x≠"__name__":=by decide)(hdb:(x==("__debug__":Str))=false:=by decide)(he:starEach (e::es) X.env=(false,eval e X.env)::starEach es X.env:=by rfl)(hpl:(backTo pos (starEach es X.env)).any (·.1)=false:=by rfl):RE X (.Call (.Name x p0) (e::es) [] pos) (cN g f):=
 ⟨fun I p=>wpAny_Call_Name_kw (I.blt hg hm hv (callWith_type1 (ha.r pos I (p.bind fun _ _ _ _ y r p=>o I.ok (I.on y).toWd r p)) he hpl) hn hdb)⟩
end
end Z
namespace L2
open PySem PySem.Spec PyProof.Rows
def ixN(n:Nat)(i:Int):Option Nat:=if 0≤i then (if i<n then some i.toNat else none) else if -(n:Int)≤i then some (i+n).toNat else none
def atI{α:Type}(xs:List α)(i:Int):Option α:=(ixN xs.length i).bind fun j=>xs[j]?
theorem vg{n:Nat}{i:Int}{j:Nat}(h:ixN n i=some j):seqIndex? i n=some j∧j<n∧ -(n:Int)≤i∧i<n:=by
 unfold ixN at h
 by_cases h0:0≤i
 ·rw [if_pos h0] at h
  by_cases h1:i<n
  ·rw [if_pos h1] at h
   have e:i.toNat=j:=Option.some.inj h
   exact ⟨by rw [seqIndex_of h0 h1,e],by omega,by omega,h1⟩
  ·rw [if_neg h1] at h;cases h
 ·rw [if_neg h0] at h
  by_cases h1: -(n:Int)≤i
  ·rw [if_pos h1] at h
   have e:(i+n).toNat=j:=Option.some.inj h
   exact ⟨by rw [seqIndex_neg (by omega) h1,e],by omega,h1,by omega⟩
  ·rw [if_neg h1] at h;cases h
theorem rj{α:Type}{xs:List α}{i:Int}{v:α}(h:atI xs i=some v):∃ j,seqIndex? i xs.length=some j∧xs[j]? =some v∧j<xs.length∧ -(xs.length:Int)≤i∧i<xs.length:=by
 unfold atI at h
 cases e:ixN xs.length i with
 | none=>rw [e] at h;cases h
 | some j=>
  rw [e] at h
  obtain ⟨h1,h2,h3,h4⟩:=vg e
  exact ⟨j,h1,h,h2,h3,h4⟩
end L2
namespace L3
open PySem PySem.Spec PyProof.Rows L2
def kj:PV→Option PK
 | .int i=>some (.inl i)
 | .str l=>some (.inr l)
 | _=>none
def hZ(kvs:List (PK×PV))(k:PK):Option PV:=(kvs.find? fun kv=>decide (kv.1=k)).map (·.2)
def pIx(p q:PV)(h:List PO):Res PV:=match p,q with
 | .str l,.int i=>match atI l i with
  | some c=>if l.length≤sizeLine then .ok (.str [c]) h else .bad
  | none=>.bad
 | .tup xs,.int i=>match atI xs i with
  | some v=>.ok (aq h v) h
  | none=>.bad
 | p,q=>match dcR h p with
  | some kvs=>match kj q with
   | some k=>match hZ kvs k with
    | some v=>.ok (aq h v) h
    | none=>.bad
   | none=>.bad
  | none=>match lsR h p with
   | some xs=>match q with
    | .int i=>match atI xs i with
     | some v=>.ok (aq h v) h
     | none=>.bad
    | _=>.bad
   | none=>.bad
def cut{α:Type}(xs:List α)(lo hi:Option Int):List α:=(xs.drop (HT.sIx xs.length 0 lo)).take (HT.sIx xs.length xs.length hi - HT.sIx xs.length 0 lo)
abbrev Ox:=Ev→List PO→Res (Option Int)
def fI:Ox:=fun _ h=>.ok none h
def eS(f:Ex):Ox:=fun ρ h=>(f ρ h).bind fun p h1=>match p with
 | .int i=>.ok (some i) h1
 | _=>.bad
def pSl(p:PV)(lo hi:Option Int)(h:List PO):Res PV:=match p with
 | .str l=>if l.length≤sizeLine then .ok (.str (cut l lo hi)) h else .bad
 | .tup xs=>if HT.sIx xs.length 0 lo=0∧HT.sIx xs.length xs.length hi=xs.length then .bad else .ok (.tup (cut xs lo hi)) h
 | p=>match lsR h p with
  | some xs=>.ok (.lst (cut xs lo hi)) h
  | none=>.bad
def iH(p:PV)(lo hi:Option Int)(h:List PO):Res PV:=match p with
 | .tup xs=>if HT.sIx xs.length 0 lo=0∧HT.sIx xs.length xs.length hi=xs.length then .ok (.tup xs) h else .ok (.tup (cut xs lo hi)) h
 | p=>pSl p lo hi h
def iI(a:Ex)(lo hi:Ox):Ex:=fun ρ h=>(a ρ h).bind fun p h1=>(lo ρ h1).bind fun l h2=>(hi ρ h2).bind fun u h3=>iH p l u h3
theorem Dv(lo hi:Option Int)(n:Nat):Builtin.Str.strSliceIndices lo hi 1 n=(List.range (HT.sIx n n hi - HT.sIx n 0 lo)).map (HT.sIx n 0 lo+ ·):=by
 rw [← sliceRange_one]
 unfold Builtin.Str.strSliceIndices
 have e1:∀ d:Nat,d≤n→∀ o:Option Int,(match o with | none=>(d:Int) | some i=>(if (1:Int)>0 then max 0 (min (if i<0 then i+(n:Int) else i) n) else max (-1) (min (if i<0 then i+(n:Int) else i) ((n:Int) - 1))))=((HT.sIx n d o:Nat):Int):=by
  intro d hd o
  cases o with
  | none=>rfl
  | some i=>
   simp only [show (1:Int)>0 by decide,if_true,HT.sIx]
   by_cases h:i<0
   ·simp only [h,if_true];omega
   ·simp only [h,if_false];omega
 have e2:=e1 0 (Nat.zero_le _) lo
 have e3:=e1 n (Nat.le_refl _) hi
 simp only [show (1:Int)>0 by decide,if_true] at e2 e3 ⊢
 rw [← e2,← e3]
 rfl
theorem Bf(l:List Nat)(lo hi:Option Int):Txt.slice (S l) lo hi=S (cut l lo hi):=by
 unfold Txt.slice
 have hn:(S l).length=l.length:=fO l
 rw [hn,Dv]
 have hlo:=HT.sIx_le l.length 0 (Nat.zero_le _) lo
 have hhi:=HT.sIx_le l.length l.length (Nat.le_refl _) hi
 split
 ·rename_i h
  have h':HT.sIx l.length l.length hi - HT.sIx l.length 0 lo=l.length:=by
   simpa using h
  have e0:HT.sIx l.length 0 lo=0:=by omega
  unfold cut
  rw [h',e0]
  simp
 ·rw [pick_run]
  show (⟨_⟩:Str)=⟨_⟩
  unfold cut
  simp [S]
end L3
namespace Z
open PySem PySem.Spec PyProof.Rows L3 L2
theorem jI{G:SC}{F:Fz}{m:List Addr}{p:PV}{u:Value}{k:PK}(r:aZ G F m p u)(e:kj p=some k):(pk G.prog G.w).is k u=true:=by
 cases r<;>cases e<;>simp [pk,kIs,Value.isInt,Value.isStrOf]
theorem mw{G:SC}{F:Fz}{m:List Addr}:∀ {kps:List (PK×PV)} {kvs:List (PK×Value)},kvs.map (·.1)=kps.map (·.1)→aB G F m (kps.map (·.2)) (kvs.map (·.2))→∀ k:PK,(∃ p v,hZ kps k=some p∧valueAt kvs k=some v∧aZ G F m p v)∨(hZ kps k=none∧valueAt kvs k=none)
 | [],[],_,_,k=>.inr ⟨rfl,rfl⟩
 | [],_::_,h,_,_=>by simp at h
 | _::_,[],h,_,_=>by simp at h
 | (a,p)::ps,(b,v)::vs,h,.cons r t,k=>by
  simp only [List.map_cons,List.cons.injEq] at h
  obtain ⟨rfl,h⟩:=h
  unfold hZ valueAt
  rw [List.find?_cons,List.find?_cons]
  by_cases z:b=k
  ·simp only [z,decide_true];exact .inl ⟨p,v,rfl,rfl,r⟩
  ·simp only [z,decide_false];exact mw h t k
section
variable {X:Cx} {w:Wo} {ρ:Ev} {h:List PO} {a b:Expr} {fa fb:Ex} {pos p2:Pos} {Q:Value→Shared→Prop} {E:Value→Shared→Prop}
theorem FV(value slice:Expr)(hs:∀ o i,subscripted slice false o i=operate [o,i] (getItem o i)):Op2 X (subscriptTail value slice) pIx:=fun {w h p q u u2 Q E} I rp rq k=>by
 have hl:sizeLine=16777216:=sizeLine_eq
 unfold pIx at k
 split at k
 ·cases rp;cases rq
  split at k
  ·rename_i c e
   split at k
   ·rename_i z
    obtain ⟨j,h1,h2,h3,h4,h5⟩:=rj e
    exact tail_any (typeIs_str w.s _ _) slot_str_getitem.lookup (getItem_str (c:=c) (by rw [Bool.or_eq_false_iff];exact ⟨decide_eq_false (by omega),decide_eq_false (by omega)⟩) (by rw [fO,h1];simpa [S] using h2) (k.now I.toHR (.str [c] _))) (hs _ _)
   ·exact k.elim
  ·exact k.elim
 ·cases rq
  split at k
  ·rename_i e
   obtain ⟨a,its,rfl,y,z,r⟩:=I.sq rp rfl
   obtain ⟨j,h1,h2,h3,h4,h5⟩:=rj e
   obtain ⟨u,eu,ru⟩:=r.get h2
   have l:=r.len
   exact subscriptTail_builtinR (x:=u) y.tup.typeIs slot_tuple_getitem.lookup (getItem_tuple (j:=j) (Q:=fun r s'=>r=u∧Q r s') y.tup (by omega) (by omega) (by rw [← l];exact h1) (by simpa using eu) ⟨rfl,k.here I.toHR (I.deref ru)⟩) (hs _ _)
  ·exact k.elim
 ·split at k
  ·rename_i ed
   split at k
   ·rename_i kk ek
    split at k
    ·rename_i v ev
     obtain ⟨a,kvs,rfl,y,d,r⟩:=I.dc rp ed
     rcases mw r.2.1 r.2.2 kk with ⟨p1,v1,h1,h2,r1⟩ | ⟨h1,_⟩<;>rw [ev] at h1<;>cases h1
     have hT:w.s.TypeIs (.ref a) "dict":=d.mapOf.typeIs
     unfold subscriptTail
     refine wpAny_bind ?_
     rw [getitemInPython_of_ne hT.not_modules]
     refine wpAny_bind (wpAny_specialOf hT F.slot_dict_getitem.lookup ?_)
     have fin:Wp X (subscripted slice false (.ref a) u2) (fun r s₃=>Wp X (letTemporaryGo value (.ref a) r >>= fun _=>pure r) Q E s₃) E w.s:=by
      rw [hs]
      exact wpAny_operating (wpAny_getItem_of (jI rq ek) d.mapOf h2 (wpAny_bind (wpAny_letTemporaryGo (wpAny_pure (k.now I.toHR (I.deref r1))))))
     first
      | exact wpAny_pure (wpAny_bind fin)
      | exact wpAny_bind (wpAny_pure (wpAny_bind fin))
      | exact wpAny_bind fin
    ·exact k.elim
   ·exact k.elim
  ·split at k
   ·rename_i el
    split at k
    ·rename_i i _ _
     cases rq
     split at k
     ·rename_i e
      obtain ⟨a,its,rfl,y,z,r⟩:=I.sq rp (fe el)
      obtain ⟨j,h1,h2,h3,h4,h5⟩:=rj e
      obtain ⟨u,eu,ru⟩:=r.get h2
      have l:=r.len
      have fin:=k.here I.toHR (I.deref ru)
      by_cases h0:0≤i
      ·exact item_listR y.pl.isList h0 (by omega) (by rw [show i.toNat=j by rw [seqIndex_of h0 h5] at h1;exact Option.some.inj h1];simpa using eu) fin (hs _ _)
      ·exact subscriptTail_builtinR (x:=u) y.pl.isList.typeIs slot_list_getitem.lookup (wpAny_getItem_list_neg (Q:=fun r s'=>r=u∧Q r s') y.pl.isList (by omega) (by omega) (by omega) (by rw [show (i+(its.size:Int)).toNat=j by rw [seqIndex_neg (by omega) h4] at h1;rw [← l];exact Option.some.inj h1];simpa using eu) ⟨rfl,fin⟩) (hs _ _)
     ·exact k.elim
    ·exact k.elim
   ·exact k.elim
theorem ar(ha:RE X a fa)(hb:RE X b fb)(hs:∀ o i,subscripted b false o i=operate [o,i] (getItem o i):=by intro _ _;rfl):RE X (.Subscript a b pos) (c2 pIx fa fb):=⟨fun I p=>Subscript_ (two (FV a b hs) ha hb I p)⟩
structure RO(X:Cx)(e:Option Expr)(f:Ox):Prop where
 r:∀ {w:Wo} {ρ:Ev} {h:List PO} {Q:Value→Shared→Prop} {E:Value→Shared→Prop},Inv X w ρ h→bC X (fun _ o u=>IsPart u o) w Q E (f ρ h)→Wp X (evalPart e X.env) Q E w.s
theorem dR:RO X none fI:=⟨fun I p=>by rw [evalPart_none];exact wpAny_pure (p.here I.toHR .none)⟩
theorem dh(ha:RE X a fa):RO X (some a) (eS fa):=⟨fun I p=>by
 rw [evalPart_some]
 exact ha.r I (p.bind fun _ _ _ _ y r p=>by
  cases r with
  | int i t=>exact p.here y.2 (.int i t)
  | _=>exact p.elim)⟩
theorem Nw.also{s':Shared}(H:HR X.toSC w h)(k:∀ b o,w.s.heap.get? b=some o→s'.heap.get? b=some o)(ho:s'.os=w.s.os:=by rfl)(hg:s'.gens=w.s.gens:=by rfl):Nw X w { w with s:=s' } h:=
 ⟨⟨ho,fun q=>hg▸q,fun _ _ e=>e,fun _ _ e=>e,⟨[],by simp⟩,fun b o e=>⟨o,k b o e⟩,fun b o q _=>⟨o.slots,⟨k b o q.1,q.2⟩,.inr rfl⟩⟩,H.on fun b o e _=>k b o e⟩
theorem aB.cut{G:SC}{F:Fz}{m:List Addr}{ps:List PV}{vs:List Value}(r:aB G F m ps vs)(lo hi:Option Int):aB G F m (L3.cut ps lo hi) (L3.cut vs lo hi):=by
 unfold L3.cut
 rw [← r.length]
 exact ((r.td _).2.td _).1
theorem mM{α:Type}(xs:List α)(lo hi:Option Int):(L3.cut xs lo hi).length≤xs.length:=by
 unfold L3.cut
 rw [List.length_take,List.length_drop]
 omega
theorem Wd.sl(I:Wd X w h){p:PV}{u vl vu:Value}{lo hi:Option Int}{sl:Addr}(rp:aZ X.toSC w.F w.m p u)(hs:w.s.heap.IsSliceOf sl vl vu .none)(pl:IsPart vl lo)(pu:IsPart vu hi)(k:bC X (RV X.toSC) w Q E (iH p lo hi h)):∃ T id,typeLookup (.type T) "__getitem__"=pure (some (.builtin id))∧w.s.TypeIs u T∧Wp X (getItem u (.ref sl)) Q E w.s:=by
 unfold iH at k
 split at k
 ·obtain ⟨a,its,rfl,y,z,r⟩:=I.sq rp rfl
  have l:=r.len
  refine ⟨"tuple",_,slot_tuple_getitem.lookup,y.tup.typeIs,?_⟩
  split at k
  ·exact HT.getItem_tuple_all y.tup hs pl pu (by rw [← l];assumption) (k.here I.toHR rp)
  ·exact HT.getItem_tuple_cut y.tup hs pl pu (by rw [← l];assumption) (k.seq I.toHR rfl (r.cut lo hi) (Nat.le_trans (mM its.toList lo hi) z)) z
 ·unfold pSl at k
  split at k
  ·cases rp
   split at k
   ·refine ⟨"str",_,F.slot_str_getitem.lookup,typeIs_str _ _ _,?_⟩
    have fin:∀ t k,Q (.str (Txt.slice (S _) lo hi) t) { w.s with toks:=k }:=fun t _=>by rw [Bf];exact k.now I.toHR (.str _ t)
    have hz:∀ lo hi,(Txt.slice (S _) lo hi).length≤sizeLine:=fun lo hi=>Nat.le_trans (Txt.slice_le _ _ _) (by rw [fO];assumption)
    cases pl with
    | none=>cases pu with
     | none=>exact wpAny_getItem_str_slice (l:=none) (u:=none) (st:=none) hs rfl (post_val_or_str ⟨hz _ _,fin⟩)
     | int j u=>exact wpAny_getItem_str_slice (l:=none) (u:=some (j,u)) (st:=none) hs rfl (post_val_or_str ⟨hz _ _,fin⟩)
    | int i t=>cases pu with
     | none=>exact wpAny_getItem_str_slice (l:=some (i,t)) (u:=none) (st:=none) hs rfl (post_val_or_str ⟨hz _ _,fin⟩)
     | int j u=>exact wpAny_getItem_str_slice (l:=some (i,t)) (u:=some (j,u)) (st:=none) hs rfl (post_val_or_str ⟨hz _ _,fin⟩)
   ·exact k.elim
  ·rename_i n;exact (n _ rfl).elim
  ·split at k
   ·rename_i e
    obtain ⟨a,its,rfl,y,z,r⟩:=I.sq rp (fe e)
    refine ⟨"list",_,slot_list_getitem.lookup,y.pl.isList.typeIs,wpAny_getItem_list_slice y.pl.isList hs pl pu .none (by simp) ?_ z⟩
    rw [show its=its.toList.toArray by simp,oF]
    exact k.seq I.toHR rfl (r.cut lo hi) (Nat.le_trans (mM its.toList lo hi) z)
   ·exact k.elim
theorem cj{lo hi:Option Expr}{fl fu:Ox}(ha:RE X a fa)(hl:RO X lo fl)(hh:RO X hi fu):RE X (.Subscript a (.Slice lo hi none p2) pos) (iI fa fl fu):=⟨fun I k=>Subscript_ (ha.r I (k.bind fun _ _ p u y r k=>wpAny_Slice (hl.r (I.on y) (k.bind fun _ _ l vl y1 pl k=>hh.r ((I.on y).on y1) (k.bind fun w h h' vu y2 pu k=>by
 rw [evalPart_none]
 refine wpAny_pure ?_
 have n:=Nw.also (X:=X) (s':= { w.s with heap:=w.s.heap.push { cls:=.type "slice",data:=.fields #[vl,vu,.none] } }) y2.2 fun b o e=>Heap.get?_push_of_some _ e
 obtain ⟨T,id,a,b,c⟩:=((((I.on y).on y1).on y2).on n).toWd.sl (y2.1.rep (y1.1.rep r)) (Heap.IsSliceOf.new w.s.heap vl vu .none) pl pu (k.step n)
 exact tail_any (ops:= [.ref w.s.heap.objs.size,u]) b a c (by with_unfolding_all rfl))))))⟩
end
end Z
namespace L3
inductive SR where
 | nx (ρ:Ev) (h:List PO) | rt (v:PV) (h:List PO) | bk (ρ:Ev) (h:List PO) | ct (ρ:Ev) (h:List PO) | exc (e:PV) (h:List PO) | bad
abbrev Sx:=Ev→List PO→SR
noncomputable def cT:Sx:=fun ρ h=>.nx ρ h
noncomputable def aG(f g:Sx):Sx:=fun ρ h=>match f ρ h with
 | .nx ρ1 h1=>g ρ1 h1
 | .rt v h1=>.rt v h1
 | .bk ρ1 h1=>.bk ρ1 h1
 | .ct ρ1 h1=>.ct ρ1 h1
 | .exc v h1=>.exc v h1
 | .bad=>.bad
def fH{α:Type}(f:Res α)(k:α→List PO→SR):SR:=match f with
 | .ok v h=>k v h
 | .exc e h=>.exc e h
 | .bad=>.bad
def dB(f:Res PV)(k:PV→List PO→SR):SR:=fH f k
def zB(f:Res Bool)(k:Bool→List PO→SR):SR:=fH f k
def Bq(f:Res (List PV))(k:List PV→List PO→SR):SR:=fH f k
@[simp] theorem EN(v:PV)(h:List PO)(k:PV→List PO→SR):dB (.ok v h) k=k v h:=rfl
noncomputable def bS(f:Ex):Sx:=fun ρ h=>dB (f ρ h) fun v h1=>.rt v h1
def Dx:Sx:=fun _ h=>.rt .non h
def cf(f:Ex):Sx:=fun ρ h=>dB (f ρ h) fun _ h1=>.nx ρ h1
def sIf(t:Tx)(f g:Sx):Sx:=fun ρ h=>zB (t ρ h) fun b h1=>if b=true then f ρ h1 else g ρ h1
def aK(i:Nat)(f:Ex):Sx:=fun ρ h=>dB (f ρ h) fun v h1=>.nx (ρ.set i (some v)) h1
def BV:Sx:=fun _ _=>.bad
abbrev Gx:=PV→Ev→Option Ev
def gNm(i:Nat):Gx:=fun p ρ=>some (ρ.set i (some p))
abbrev Gxs:=List PV→Ev→Option Ev
noncomputable def gg:Gxs:=fun ps ρ=>match ps with
 | []=>some ρ
 | _=>none
def bR(g:Gx)(gs:Gxs):Gxs:=fun ps ρ=>match ps with
 | p::r=>match g p ρ with
  | some ρ1=>gs r ρ1
  | none=>none
 | _=>none
def gTp(n:Nat)(gs:Gxs):Gx:=fun p ρ=>match p with
 | .tup ps=>if ps.length=n then gs ps ρ else none
 | _=>none
def wf(g:Gx)(f:Ex):Sx:=fun ρ h=>dB (f ρ h) fun v h1=>match g v ρ with
 | some ρ'=>.nx ρ' h1
 | none=>.bad
end L3
namespace Z
open PySem PySem.Spec PyProof.Rows L3 L2
abbrev StS(X:Cx)(w w':Wo):Prop:=Stp X.fs X.W w w'
def bu(X:Cx)(w:Wo)(Q:Flow→Shared→Prop)(E:Value→Shared→Prop):SR→Prop
 | .nx ρ h=>X.Ep E∧∀ w',StS X w w'→Inv X w' ρ h→Q .next w'.s
 | .bk ρ h=>X.Ep E∧∀ w',StS X w w'→Inv X w' ρ h→Q .brk w'.s
 | .ct ρ h=>X.Ep E∧∀ w',StS X w w'→Inv X w' ρ h→Q .cont w'.s
 | .rt v h=>X.Ep E∧∀ w' u ρ,StS X w w'→Inv X w' ρ h→aZ X.toSC w'.F w'.m v u→Q (.ret u) w'.s
 | .exc e h=>X.Ep E∧∀ w' u ρ,StS X w w'→Inv X w' ρ h→kI X w w' e u→E u w'.s
 | .bad=>False
structure RS(X:Cx)(st:Stmt)(f:Sx):Prop where
 r:∀ {w:Wo} {ρ:Ev} {h:List PO} {Q:Flow→Shared→Prop} {E:Value→Shared→Prop},Inv X w ρ h→bu X w Q E (f ρ h)→Wp X (exec st X.env) Q E w.s
structure RSs(X:Cx)(st:List Stmt)(f:Sx):Prop where
 r:∀ {w:Wo} {ρ:Ev} {h:List PO} {Q:Flow→Shared→Prop} {E:Value→Shared→Prop},Inv X w ρ h→bu X w Q E (f ρ h)→Wp X (execs st X.env) Q E w.s
structure RG(X:Cx)(tg:Expr)(g:Gx):Prop where
 r:∀ {w:Wo} {ρ ρ':Ev} {h:List PO} {p:PV} {u:Value} {Q:Unit→Shared→Prop} {E:Value→Shared→Prop},Inv X w ρ h→aZ X.toSC w.F w.m p u→g p ρ=some ρ'→(∀ w',StS X w w'→Inv X w' ρ' h→Q () w'.s)→Wp X (assign tg X.env u) Q E w.s
section
variable {X:Cx} {w w1:Wo} {ρ:Ev} {h:List PO} {a:Expr} {fa:Ex} {ta:Tx} {pos pos':Pos} {x:Str} {i:Nat} {Q:Flow→Shared→Prop} {E:Value→Shared→Prop} {st:Stmt} {sts sts':List Stmt} {f g:Sx}
theorem Nw.s{h1:List PO}(y:Nw X w w1 h1):StS X w w1:=y.1.weak fun _ z=>z.elim
theorem bu.ep{r:SR}(p:bu X w Q E r):X.Ep E:=by cases r<;>first | exact p.1 | exact p.elim
theorem bu.step{r:SR}(p:bu X w Q E r)(x:StS X w w1):bu X w1 Q E r:=match r with
 | .nx _ _=>⟨p.1,fun w' y=>p.2 w' (x.trans y)⟩
 | .bk _ _=>⟨p.1,fun w' y=>p.2 w' (x.trans y)⟩
 | .ct _ _=>⟨p.1,fun w' y=>p.2 w' (x.trans y)⟩
 | .rt _ _=>⟨p.1,fun w' u ρ y=>p.2 w' u ρ (x.trans y)⟩
 | .exc _ _=>⟨p.1,fun w' u ρ y I r=>p.2 w' u ρ (x.trans y) I (r.back x)⟩
 | .bad=>p
theorem bu.e0{α β:Type}{R:Wo→α→β→Prop}{r:Res α}{k:α→List PO→SR}{G:β→Shared→Prop}(p:bu X w Q E (fH r k))(I:Inv X w ρ h)(c:∀ w1 h1 a x,Nw X w w1 h1→Inv X w1 ρ h1→R w1 a x→bu X w Q E (k a h1)→G x w1.s):bC X R w G E r:=match r with
 | .ok a h=>⟨p.ep,fun w' x y q=>c w' h a x y (I.on y) q p⟩
 | .exc _ _=>⟨p.1,fun w' u y r=>p.2 w' u ρ y.s (I.on y) r⟩
 | .bad=>p
theorem bu.e{α β:Type}{R:Wo→α→β→Prop}{r:Res α}{k:α→List PO→SR}{G:β→Shared→Prop}(p:bu X w Q E (fH r k))(I:Inv X w ρ h)(c:∀ w1 h1 a x,Nw X w w1 h1→Inv X w1 ρ h1→R w1 a x→bu X w1 Q E (k a h1)→G x w1.s):bC X R w G E r:=p.e0 I fun w1 h1 a x y I r p=>c w1 h1 a x y I r (p.step y.s)
theorem bu.here{ρ:Ev}(p:bu X w Q E (.nx ρ h))(I:Inv X w ρ h):Q .next w.s:=p.2 w .refl I
theorem Inv.store{p:PV}{u:Value}{Q:Unit→Shared→Prop}(I:Inv X w ρ h)(hi:X.N[i]? =some x)(hx:X.env.kindOf x=some .local∨(X.env.kindOf x=some .cell∧X.fn x=true))(r:aZ X.toSC w.F w.m p u)(q:∀ w',StS X w w'→Inv X w' (ρ.set i (some p)) h→Q () w'.s):Wp X (storeName X.env x u) Q E w.s:=by
 obtain ⟨m,o,n,hl,l⟩:=I.loc
 have hi':i<ρ.length:=by rw [I.ln];exact (List.getElem?_eq_some_iff.mp hi).1
 have go:∀ {a:Addr} {s':Shared} (oa oa':Obj),Has w a oa→X.W a→Heap.SameBut a w.s.heap s'.heap→s'.heap.get? a=some oa'→s'.os=w.s.os→s'.gens=w.s.gens→(∀ vs,oa'.data≠.fields vs)→
   (∃ m',s'.heap.Ns X.L m'∧∀ (j:Nat) (y:Str) (v:Value),X.N[j]? =some y→if j=i then sX X.env s'.heap m' y u else sX X.env w.s.heap m y v→sX X.env s'.heap m' y v)→(∀ y c,X.env.cells.lookup y=some c→∃ v,s'.heap.IsCell c v)→Q () s':=by
  intro a s' oa oa' ha wa sb ea eo eg ed ⟨m',n',lk⟩ cl
  have on:∀ b o,b≠a→w.s.heap.get? b=some o→s'.heap.get? b=some o:=fun b o z e=>(sb.2 b z).trans e
  have hs:∀ b o,Has w b o→∃ o',Has { w with s:=s' } b o'∧(b≠a→o'=o)∧(b=a→o'=oa'):=fun b o q=>by
   by_cases z:b=a
   ·subst z;exact ⟨oa',⟨ea,q.2⟩,fun z=>absurd rfl z,fun _=>rfl⟩
   ·exact ⟨o,⟨on b o z q.1,q.2⟩,fun _=>rfl,fun z'=>absurd z' z⟩
  have st:StS X w { w with s:=s' }:=⟨eo,fun q=>eg▸q,fun _ _ e=>e,fun _ _ e=>e,⟨[],by simp⟩,fun b o e=>by
   by_cases z:b=a
   ·subst z;exact ⟨_,ea⟩
   ·exact ⟨o,on b o z e⟩,fun b o q nw=>⟨o.slots,⟨on b o (fun z=>nw (z▸wa)) q.1,q.2⟩,.inr rfl⟩⟩
  refine q { w with s:=s' } st ⟨I.toWd.on st (fun b hb z=>?_) (I.toHR.on fun b o e z=>on b o ?_ e),I.ok,?_,fun y c e=>?_,by simp [I.ln]⟩
  ·obtain ⟨o,q,d⟩:=I.fr b hb
   obtain ⟨o',q',z1,z2⟩:=hs b o q
   refine ⟨o',q',?_⟩
   by_cases z:b=a
   ·rw [z2 z];exact ed
   ·rw [z1 z];exact d
  ·rintro rfl
   exact z ha.2
  ·obtain ⟨o',q',_⟩:=hs _ _ hl
   refine ⟨m',o',n',q',fun j p' e=>?_⟩
   by_cases z:j=i
   ·subst z
    rw [List.getElem?_set_self hi'] at e
    cases e
    have:=lk j x u hi
    rw [if_pos rfl] at this
    exact ⟨x,u,hi,r,this⟩
   ·rw [List.getElem?_set_ne (Ne.symm z)] at e
    obtain ⟨y,v,e1,r',l'⟩:=l j p' e
    have:=lk j y v e1
    rw [if_neg z] at this
    exact ⟨y,v,e1,r',this l'⟩
  ·obtain ⟨v,o,_,q⟩:=I.cel y c e
   obtain ⟨o',q',_⟩:=hs c o q
   obtain ⟨v',z⟩:=cl y c e
   exact ⟨v',o',z,q'⟩
 have nx:∀ j y,X.N[j]? =some y→j≠i→y≠x:=fun j y e z q=>z (by
  subst q
  obtain ⟨h1,e1⟩:=List.getElem?_eq_some_iff.mp e
  obtain ⟨h2,e2⟩:=List.getElem?_eq_some_iff.mp hi
  exact (List.getElem_inj I.ok.nd).mp (e1.trans e2.symm))
 have cne:∀ y c,X.env.cells.lookup y=some c→c≠X.L:=fun y c e z=>by
  obtain ⟨v,o,⟨o',ho,hd⟩,_⟩:=I.cel y c e
  obtain ⟨o2,es,ep,ho',hd',_⟩:=n
  rw [z,ho'] at ho;cases ho;rw [hd'] at hd;cases hd
 have hcls:(X.env.scope.kind==.class||(X.env.scope.kind==.module&&X.env.locals !=X.env.globals))=false:=by rw [I.ok.kind];rfl
 rcases hx with hk | ⟨hk,hf⟩
 ·refine wpAny_storeName_local hk n (fun h' n' hs=>?_) hcls
  obtain ⟨o',es,ep,e',d',_⟩:=id n'
  refine go o o' hl (.inl rfl) hs e' rfl rfl (fun vs z=>by rw [d'] at z;cases z) ⟨_,n',fun j y v e=>?_⟩ fun y c e=>let ⟨v,_,z,_⟩:=I.cel y c e;⟨v,z.sameBut hs (cne y c e)⟩
  split
  ·rename_i z;subst z;cases e.symm.trans hi;exact .inl ⟨hk,by simp⟩
  ·rename_i z
   rintro (⟨k,e'⟩ | ⟨k,c,e',q'⟩)
   ·exact .inl ⟨k,by simp [nx j y e z,e']⟩
   ·exact .inr ⟨k,c,e',q'.sameBut hs (cne y c e')⟩
 ·obtain ⟨c,hc⟩:=I.ok.has x (.inl hk)
  obtain ⟨v0,oc,z0,hcc⟩:=I.cel x c hc
  refine wpAny_storeName_cell I.ok.kind hk hc z0 (fun h' hc' hs=>?_)
  obtain ⟨o',e',d'⟩:=id hc'
  refine go (s':= { w.s with heap:=h' }) oc o' hcc (.inr ⟨x,hf,hc⟩) hs e' rfl rfl (fun vs z=>by rw [d'] at z;cases z) ⟨m,n.sameBut hs (Ne.symm (cne x c hc)),fun j y v e=>?_⟩ fun y d e=>?_
  ·split
   ·rename_i z;subst z;cases e.symm.trans hi;exact .inr ⟨.inl hk,c,hc,hc'⟩
   ·rename_i z
    rintro (l | ⟨k,d,e',q'⟩)
    ·exact .inl l
    ·exact .inr ⟨k,d,e',q'.sameBut hs fun q=>nx j y e z (I.ok.inj y x c (q▸e') hc)⟩
  ·by_cases z:d=c
   ·subst z;exact ⟨_,hc'⟩
   ·obtain ⟨v,_,q',_⟩:=I.cel y d e;exact ⟨v,q'.sameBut hs z⟩
end
end Z
namespace L3
def bg(g:Gx)(body:Sx):List PV→Sx
 | [],ρ,h=>.nx ρ h
 | p::r,ρ,h=>match g p ρ with
  | some ρ1=>match body ρ1 h with
   | .nx ρ2 h2=>bg g body r ρ2 h2
   | .ct ρ2 h2=>bg g body r ρ2 h2
   | .bk ρ2 h2=>.nx ρ2 h2
   | .rt v h2=>.rt v h2
   | .exc v h2=>.exc v h2
   | .bad=>.bad
  | none=>.bad
def iN(it:Ax)(g:Gx)(body:Sx):Sx:=fun ρ h=>Bq (it ρ h) fun xs h1=>bg g body xs ρ h1
def whl(t:Tx)(body:Sx):Nat→Sx
 | 0,_,_=>.bad
 | n+1,ρ,h=>zB (t ρ h) fun b h1=>if b=true then match body ρ h1 with
   | .nx ρ2 h2=>whl t body n ρ2 h2
   | .ct ρ2 h2=>whl t body n ρ2 h2
   | .bk ρ2 h2=>.nx ρ2 h2
   | .rt v h2=>.rt v h2
   | .exc v h2=>.exc v h2
   | .bad=>.bad
  else .nx ρ h1
end L3
namespace Z
open PySem PySem.Spec PyProof.Rows L3 L2
section
variable {X:Cx} {w w1:Wo} {ρ:Ev} {h:List PO} {a c:Expr} {fa:Ex} {ta:Tx} {pos pos':Pos} {x:Str} {i:Nat} {Q:Flow→Shared→Prop} {E:Value→Shared→Prop} {st:Stmt} {sts sts':List Stmt} {f g:Sx}
theorem Inv.quiet(I:Inv X w ρ h):interactive X.env=false:=by simp [interactive,I.ok.kind]
theorem aU:RSs X [] cT:=⟨fun I p=>wpAny_execs_nil (p.here I)⟩
theorem ai(ha:RS X st f)(hb:RSs X sts g):RSs X (st::sts) (aG f g):=⟨fun {w ρ h Q E} I p=>wpAny_execs_cons (ha.r I (by
 unfold aG at p
 split at p<;>rename_i e<;>rw [e]
 ·exact ⟨p.ep,fun w' y I'=>hb.r I' (p.step y)⟩
 all_goals exact p))⟩
theorem aE(ha:RS X st f):RSs X [st] f:=⟨fun {w ρ h Q E} I p=>wpAny_execs_cons (ha.r I (by
 cases e:f ρ h<;>rw [e] at p
 ·exact ⟨p.1,fun w' y I'=>wpAny_execs_nil (p.2 w' y I')⟩
 all_goals exact p))⟩
theorem Ce(ha:RE X a fa):RS X (.Return (some a) pos) (bS fa):=⟨fun {w ρ h Q E} I p=>wpAny_Return_some (ha.r I (bu.e p I fun _ _ _ _ _ I r p=>p.2 _ _ ρ .refl I r))⟩
theorem bB(ha:RE X a fa)(hs:swapsWith a none pos.line X.env=pure false:=by rfl):RS X (.Expr a pos) (cf fa):=⟨fun I p=>wpAny_Expr_any (ha.r I (bu.e p I fun _ _ _ _ _ I r p=>p.here I)) I.quiet hs⟩
theorem bm(hc:RT X c ta)(ha:RSs X sts f)(hb:RSs X sts' g):RS X (.If c sts sts' pos) (sIf ta f g):=⟨fun I p=>wpAny_If (hc.r I (bu.e p I fun _ _ b _ _ I r p=>by
 subst r
 cases b
 ·exact hb.r I p
 ·exact ha.r I p))⟩
theorem Cd(hi:X.N[i]? =some x:=by rfl)(hx:X.env.kindOf x=some .local∨(X.env.kindOf x=some .cell∧X.fn x=true):=by first | exact .inl rfl | exact .inr ⟨rfl,rfl⟩)(ha:RE X a fa)(hs:swapsWith a (some (.Name x pos')) pos.line X.env=pure false:=by rfl):RS X (.Assign [.Name x pos'] a pos) (aK i fa):=
 ⟨fun I p=>wpAny_Assign_Name (ha.r I (bu.e p I fun _ _ _ _ _ I r p=>I.store hi hx r fun w' y I'=>p.2 w' y I')) hs⟩
theorem aW(hi:X.N[i]? =some x:=by rfl)(hx:X.env.kindOf x=some .local∨(X.env.kindOf x=some .cell∧X.fn x=true):=by first | exact .inl rfl | exact .inr ⟨rfl,rfl⟩):RG X (.Name x pos) (gNm i):=⟨fun I r e q=>by cases e;exact wpAny_assign_Name (I.store hi hx r q)⟩
structure RGs(X:Cx)(tg:List Expr)(g:Gxs):Prop where
 r:∀ {w:Wo} {ρ ρ':Ev} {h:List PO} {p:List PV} {u:List Value} {Q:Unit→Shared→Prop} {E:Value→Shared→Prop},Inv X w ρ h→aB X.toSC w.F w.m p u→g p ρ=some ρ'→(∀ w',StS X w w'→Inv X w' ρ' h→Q () w'.s)→Wp X (assignInOrder ((assignEach tg X.env).map (·.2)) u) Q E w.s
theorem fx:RGs X [] gg:=⟨fun I r e q=>by
 unfold gg at e
 split at e<;>cases e
 cases r
 exact assignInOrder_nil (q _ .refl I)⟩
theorem bG{e:Expr}{es:List Expr}{g:Gx}{gs:Gxs}(h1:RG X e g)(h2:RGs X es gs)(hs:(assignEach (e::es) X.env).map (·.2)=assign e X.env::(assignEach es X.env).map (·.2):=by rfl):RGs X (e::es) (bR g gs):=⟨fun I r e q=>by
 unfold bR at e
 split at e
 ·split at e
  ·rename_i e1
   cases r with
   | cons r t=>rw [hs];exact assignInOrder_cons (h1.r I r e1 fun w' y I'=>h2.r I' (y.reps t) e fun w2 y2=>q w2 (y.trans y2))
  ·cases e
 ·cases e⟩
theorem gL{es:List Expr}{k n:Nat}{gs:Gxs}(hc:X.calm=true)(h:RGs X es gs)(hn:(assignEach es X.env).length=n:=by rfl)(hst:(assignEach es X.env).findIdx? (·.1)=none:=by rfl):RG X (.Tuple es k pos) (gTp n gs):=⟨fun {w ρ ρ' h p u Q E} I r e q=>by
 unfold gTp at e
 split at e
 ·split at e
  ·obtain ⟨a,its,rfl,y,z,r⟩:=I.sq r rfl
   refine assign_Tuple_tuple (I.ok.hd hc) y.tup (by rw [← r.len,hn];exact Eq.symm ‹_›) hst fun h' hx=>?_
   have n:=Nw.also (X:=X) (s':= { w.s with heap:=h' }) I.toHR fun b o e=>hx b o (Nat.ne_of_lt (Heap.lt_size e)) e
   exact ‹RGs X es gs›.r (I.on n) r e fun w2 y2=>q w2 (n.s.trans y2)
  ·cases e
 ·cases e⟩
theorem qj{tg:Expr}{g:Gx}(hg:RG X tg g)(ha:RE X a fa)(hs:swapsWithSole [tg] a pos.line X.env=pure false:=by rfl)(hw:swappedStores [tg] a X.env=pure none:=by rfl)(h1:(assignEach [tg] X.env).map (·.2)= [assign tg X.env]:=by rfl):RS X (.Assign [tg] a pos) (wf g fa):=⟨fun I p=>wpAny_Assign_stores (ha.r I (bu.e p I fun _ _ _ _ _ I r p=>by
 rw [h1]
 split at p
 ·exact hg.r I r ‹_› fun w' y I'=>p.2 w' y I'
 ·exact p.elim)) hs hw⟩
end
end Z
namespace Z
open PySem PySem.Spec PyProof.Rows L3 L2
def Lat(w w':Wo):Prop:=(∀ a o,w.F a=some o→w'.F a=some o)∧Sub w.m w'.m
theorem Stp.lat{fs:List Addr}{W:Addr→Prop}{w w':Wo}(x:Stp fs W w w'):Lat w w':=⟨x.fz,x.sub⟩
theorem Lat.trans{w w1 w2:Wo}(x:Lat w w1)(y:Lat w1 w2):Lat w w2:=⟨fun a o e=>y.1 a o (x.1 a o e),fun i a e=>y.2 i a (x.2 i a e)⟩
structure Pv(fp:List Addr)(w w':Wo):Prop where
 os:w'.s.os=w.s.os
 ba:AllBare w.s.gens→AllBare w'.s.gens
 fz:∀ a o,w.F a=some o→w'.F a=some o
 ow:∀ d a,w.O d=some a→w'.O d=some a
 pre:∃ t,w'.m=w.m++t
 dom:∀ b o,b∉fp→w.s.heap.get? b=some o→∃ o',w'.s.heap.get? b=some o'
 keep:∀ b o,b∉fp→Has w b o→Has w' b o
theorem Pv.sub{fp:List Addr}{w w1:Wo}(x:Pv fp w w1):Sub w.m w1.m:=fun i a e=>by
 obtain ⟨t,z⟩:=x.pre
 rw [z,List.getElem?_append_left (List.getElem?_eq_some_iff.mp e).1];exact e
structure xf(G:SC)(w0:Wo)(tg:Expr)(xs:List PV)(it:Addr)(fp:List Addr)(tn:Nat→Heap→Prop):Prop where
 keep:∀ {i:Nat} {w1 w2:Wo} {h1 h2:List PO},Lat w0 w1→HR G w1 h1→Lat w1 w2→HR G w2 h2→tn i w1.s.heap→(∀ b∈fp,∀ o,w1.s.heap.get? b=some o→w2.s.heap.get? b=some o)→tn i w2.s.heap
 item:∀ {A:Around} {w:Wo} {h:List PO} {i:Nat} {p:PV} {Q:Value→Shared→Prop} {E:Value→Shared→Prop},A.handled=none→Lat w0 w→HR G w h→tn i w.s.heap→xs[i]? =some p→(∀ b∈fp,∃ o,Has w b o)→
  (∀ u w',Pv fp w w'→HR G w' h→tn (i+1) w'.s.heap→(∀ b∈fp,∃ o,Has w' b o)→aZ G w'.F w'.m p u→Q u w'.s)→
  wpAny (model G.prog G.w) A (pyNext (.ref it)) (fun r s=>∃ u,r=some u∧wpAny (model G.prog G.w) A (letOwnedTupleGo tg (.ref it) u) (fun _ s=>Q u s) E s) E w.s
 done:∀ {A:Around} {w:Wo} {h:List PO} {i:Nat} {Q:Shared→Prop} {E:Value→Shared→Prop},A.handled=none→Lat w0 w→HR G w h→tn i w.s.heap→xs.length=i→(∀ b∈fp,∃ o,Has w b o)→
  (∀ w',Pv fp w w'→HR G w' h→Q w'.s)→wpAny (model G.prog G.w) A (pyNext (.ref it)) (fun r s=>r=none∧Q s) E w.s
 self:∀ {A:Around} {i:Nat} {s:Shared} {Q:Value→Shared→Prop} {E:Value→Shared→Prop},A.handled=none→tn i s.heap→Q (.ref it) s→wpAny (model G.prog G.w) A (pyIter (.ref it)) Q E s
def Apt(X:Cx)(b:Addr):Prop:=b≠X.L∧b∉X.fs∧∀ x c,X.env.cells.lookup x=some c→c≠b
theorem Apt.w{X:Cx}{b:Addr}(n:Apt X b):¬ X.W b:=fun z=>z.elim n.1 fun ⟨x,_,e⟩=>n.2.2 x b e rfl
theorem Inv.out{X:Cx}{w:Wo}{ρ:Ev}{h:List PO}{b:Addr}(I:Inv X w ρ h)(n:w.s.heap.get? b=none):Apt X b:=by
 have k:∀ {c o},Has w c o→b≠c:=fun q z=>by have q:=q.1;rw [← z,n] at q;cases q
 obtain ⟨_,_,_,q,_⟩:=I.loc
 exact ⟨k q,fun z=>let ⟨_,q,_⟩:=I.fr b z;k q rfl,fun x c e=>let ⟨_,_,_,q⟩:=I.cel x c e;Ne.symm (k q)⟩
def ItR(X:Cx)(tg:Expr)(w0 w:Wo)(xs:List PV)(v:Value):Prop:=∃ it fp tn,v= .ref it∧xf X.toSC w tg xs it fp tn∧tn 0 w.s.heap∧∀ b∈fp,(∃ o,Has w b o)∧Apt X b∧w0.s.heap.get? b=none
structure RI(X:Cx)(tg iter:Expr)(f:Ax):Prop where
 r:∀ {w:Wo} {ρ:Ev} {h:List PO} {Q:Value→Shared→Prop} {E:Value→Shared→Prop},Inv X w ρ h→bC X (ItR X tg w) w Q E (f ρ h)→Wp X (eval iter X.env) (fun v s=>Wp X (pyIter v) Q E s) E w.s
section
variable {X:Cx} {w w1:Wo} {ρ:Ev} {h:List PO} {pos:Pos} {tg iter:Expr} {it:Ax} {g:Gx} {body:List Stmt} {f:Sx}
theorem Inv.priv{fp:List Addr}{h1:List PO}(I:Inv X w ρ h)(x:Pv fp w w1)(H:HR X.toSC w1 h1)(n:∀ b∈fp,Apt X b):Inv X w1 ρ h1:=by
 obtain ⟨m,o,n1,hl,q⟩:=I.loc
 have k:=x.keep
 have cl:∀ x c,X.env.cells.lookup x=some c→c∉fp:=fun x c e z=>(n c z).2.2 x c e rfl
 have ck:∀ x c,X.env.cells.lookup x=some c→∀ v,w.s.heap.IsCell c v→w1.s.heap.IsCell c v:=fun y c e v ⟨o,q,d⟩=>(let ⟨_,o',⟨_,_,_⟩,hc⟩:=I.cel y c e;⟨o,(k c o (cl y c e) ⟨q,hc.2⟩).1,d⟩)
 have hL:X.L∉fp:=fun z=>(n _ z).1 rfl
 refine ⟨⟨H,x.ba I.ba,fun b o e=>x.fz _ _ (I.bs b o e),fun b hb=>let ⟨o,q,d⟩:=I.fr b hb;⟨o,k b o (fun z=>(n b z).2.1 hb) q,d⟩⟩,I.ok,⟨m,o,?_,k _ _ hL hl,fun i p e=>?_⟩,fun y c e=>?_,I.ln⟩
 ·obtain ⟨o',es,ep,e,r⟩:=n1;exact ⟨o',es,ep,(k _ _ hL ⟨e,hl.2⟩).1,r⟩
 ·obtain ⟨y,u,e1,r,l⟩:=q i p e
  exact ⟨y,u,e1,r.mono x.fz (.inr x.sub),l.imp_right fun ⟨k,c,e,z⟩=>⟨k,c,e,ck y c e _ z⟩⟩
 ·obtain ⟨v,o,z,hc⟩:=I.cel y c e
  exact ⟨v,o,ck y c e v z,k c o (cl y c e) hc⟩
theorem Stp.priv{w0:Wo}{fp fs:List Addr}{W:Addr→Prop}(x:Stp fs W w0 w)(y:Pv fp w w1)(n:∀ b∈fp,w0.s.heap.get? b=none):Stp fs W w0 w1:=
 have k:∀ {b o},w0.s.heap.get? b=some o→b∉fp:=fun e z=>by rw [n _ z] at e;cases e
 ⟨y.os.trans x.os,y.ba∘x.ba,fun a o e=>y.fz a o (x.fz a o e),fun a o e=>y.ow a o (x.ow a o e),let ⟨t,e⟩:=x.pre;let ⟨u,e'⟩:=y.pre;⟨t++u,by rw [e',e,List.append_assoc]⟩,fun b o e=>let ⟨o',q⟩:=x.dom b o e;y.dom b o' (k e) q,fun b o q z=>let ⟨sl,q1,z1⟩:=x.keep b o q z;⟨sl,y.keep b _ (k q.1) q1,z1⟩⟩
theorem Cf(hp:∀ E,X.Ep E→PassesOwn X.M X.A X.env E)(hc:X.calm=true)(hi:RI X tg iter it)(hg:RG X tg g)(hb:RSs X body f)(hs:∀ x,foldedSetIterable iter X.env x=pure x:=by intro _;rfl):RS X (.For tg iter body [] pos) (iN it g f) where
 r {w0 ρ h Q E} I0 p:=by
  have hp:=hp E p.ep
  refine wpAny_For (hi.r I0 (bu.e0 p I0 fun w h1 xs v y0 I r p=>?_)) hs
  obtain ⟨it,fp,tn,rfl,T,t0,fr⟩:=r
  have no:=fun b hb=>(fr b hb).2.1
  have nf:=fun b hb=>(fr b hb).2.2
  refine codeAny_forLoop_any (fun n s=>∃ w1 ρ1 h1 ys,w1.s=s∧StS X w0 w1∧Lat w w1∧Inv X w1 ρ1 h1∧ys.length=n∧ys=xs.drop (xs.length - n)∧n≤xs.length∧tn (xs.length - n) w1.s.heap∧(∀ b∈fp,∃ o,Has w1 b o)∧bu X w0 Q E (bg g f ys ρ1 h1)) ?_ xs.length ⟨w,ρ,h1,xs,rfl,y0.s,(Stp.refl (fs:= []) (W:=NoW)).lat,I,rfl,by simp,Nat.le_refl _,by simpa using t0,fun b hb=>(fr b hb).1,p⟩
  rintro n s ⟨w1,ρ1,h1,ys,rfl,y1,l1,I1,ln,dr,le,t1,f1,p1⟩
  cases ys with
  | nil=>
   cases ln
   exact wpAny_passesOwn hp (wpAny_mono (T.done (I1.ok.hd hc) l1 I1.toHR t1 (by simp) f1 (Q:=fun s=>wpAny X.M X.A (execs [] X.env) Q (notedBy X.M X.A X.env (cameBackBy X.M X.A X.env E)) s) fun w2 y2 H2=>wpAny_execs_nil (p1.2 w2 (y1.priv y2 nf) (I1.priv y2 H2 no))) (fun r s q=>by obtain ⟨rfl,q⟩:=q;exact q) fun _ _ z=>z)
  | cons q ys=>
   have ln':ys.length+1=n:=ln
   have eq:xs[xs.length - n]? =some q:=by rw [← List.head?_drop,← dr];rfl
   unfold bg at p1
   split at p1
   ·rename_i ρ2 e2
    refine wpAny_mono (T.item (I1.ok.hd hc) l1 I1.toHR t1 eq f1 (Q:=fun u s=>wpAny (model X.prog X.w) X.A (assign tg X.env u) ?R ?N s) ?c) (fun r s q=>by obtain ⟨u,rfl,q⟩:=q;exact q) fun _ _ z=>z
    intro u w2 y2 H2 t2 f2 r2
    refine wpAny_passesOwn hp (hg.r (I1.priv y2 H2 no) r2 e2 fun w3 y3 I3=>wpAny_passesOwn hp (hb.r I3 ?_))
    have y03:=(y1.priv y2 nf).trans y3
    have l2:Lat w w2:=l1.trans ⟨y2.fz,y2.sub⟩
    have t3:∀ w4 h4,HR X.toSC w4 h4→StS X w3 w4→tn (xs.length - ys.length) w4.s.heap∧∀ b∈fp,∃ o,Has w4 b o:=fun w4 h4 H4 y4=>by
     have k:∀ b∈fp,∀ o,Has w2 b o→Has w4 b o:=fun b hb o q=>by
      obtain ⟨sl,q',z⟩:=(y3.trans y4).keep b o q (no b hb).w
      rcases z with z | rfl
      ·exact absurd z (no b hb).2.1
      ·exact q'
     refine ⟨?_,fun b hb=>let ⟨o,q⟩:=f2 b hb;⟨o,k b hb o q⟩⟩
     rw [show xs.length - ys.length=xs.length - n+1 by omega]
     exact T.keep l2 H2 (y3.trans y4).lat H4 t2 fun b hb o e=>let ⟨o',q⟩:=f2 b hb;(k b hb o ⟨e,q.2⟩).1
    have dy:ys=xs.drop (xs.length - ys.length):=by rw [show xs.length - ys.length=xs.length - n+1 by omega,← List.drop_drop,← dr];rfl
    have go:∀ ρ4 h4,bu X w0 Q E (bg g f ys ρ4 h4)→∀ w4,StS X w3 w4→Inv X w4 ρ4 h4→∃ m,m<n∧∃ w1 ρ1 h1 ys,w1.s=w4.s∧StS X w0 w1∧Lat w w1∧Inv X w1 ρ1 h1∧ys.length=m∧ys=xs.drop (xs.length - m)∧m≤xs.length∧tn (xs.length - m) w1.s.heap∧(∀ b∈fp,∃ o,Has w1 b o)∧bu X w0 Q E (bg g f ys ρ1 h1):=fun ρ4 h4 p4 w4 y4 I4=>⟨ys.length,by omega,w4,ρ4,h4,ys,rfl,y03.trans y4,l2.trans (y3.trans y4).lat,I4,rfl,dy,by omega,(t3 w4 h4 I4.toHR y4).1,(t3 w4 h4 I4.toHR y4).2,p4⟩
    split at p1<;>rename_i e3<;>rw [e3]
    ·exact ⟨p1.ep,go _ _ p1⟩
    ·exact ⟨p1.ep,go _ _ p1⟩
    all_goals exact p1.step y03
   ·exact p1.elim
end
end Z
namespace L3
def ir(h:List PO):PV→Option (PV×List PO)
 | .ref i=>match h[i]? with
  | some (.lst xs)=>if am xs=true then some (.lst xs,h.set i (.froz (.lst xs))) else none
  | some (.dct _)=>none
  | some (.froz p)=>some (p,h)
  | some (.obj _ _)=>none
  | none=>none
 | p=>if p.pure=true then some (p,h) else none
def dT(f:Ax):Ax:=fun ρ h=>(f ρ h).bind fun ps h1=>match ps with
 | [.int j]=>if bel 4611686018427387904 j=true then .ok ((List.range j.toNat).map fun i=>PV.int (0+(i:Nat))) h1 else .bad
 | _=>.bad
def gC(p:PV)(h:List PO):Res (List PV):=match p with
 | .str l=>.ok (l.map fun c=>PV.str [c]) h
 | .tup xs=>.ok xs h
 | .lst xs=>.ok xs h
 | .giv xs=>.ok xs h
 | p=>match ir h p with
  | some (.lst xs,h2)=>.ok xs h2
  | _=>.bad
def gx(f:Ex):Ax:=fun ρ h=>(f ρ h).bind gC
end L3
namespace Z
open PySem PySem.Spec PyProof.Rows L3 L2
section
variable {G:SC} {X:Cx} {w w1:Wo} {ρ:Ev} {h:List PO} {pos p0:Pos} {tg a:Expr} {fa:Ex} {it:Addr} {xs:List PV} {s':Shared} {Q:Value→Shared→Prop} {E:Value→Shared→Prop}
theorem kK{o:Obj}(H:HR G w h)(q:Has w it o)(k:∀ b o,b≠it→w.s.heap.get? b=some o→s'.heap.get? b=some o)(ho:s'.os=w.s.os:=by rfl)(hg:s'.gens=w.s.gens:=by rfl):Pv [it] w { w with s:=s' }∧HR G { w with s:=s' } h:=
 ⟨⟨ho,fun q=>hg▸q,fun _ _ e=>e,fun _ _ e=>e,⟨[],by simp⟩,fun b o n e=>⟨o,k b o (by simpa using n) e⟩,fun b o n q=>⟨k b o (by simpa using n) q.1,q.2⟩⟩,H.on fun b o e' z=>k b o (by rintro rfl;exact z q.2) e'⟩
theorem ItR.new{w0:Wo}{o:Obj}{tn:Nat→Heap→Prop}{tk:Nat}(I:Inv X w ρ h)(y:Stp X.fs NoW w0 w)(T:xf X.toSC w tg xs w.s.heap.objs.size [w.s.heap.objs.size] tn)(t:tn 0 (w.s.heap.push o))(ho:o.isFreed=false)(p:bC X (ItR X tg w0) w Q E (.ok xs h)):Q (.ref w.s.heap.objs.size) { w.s with heap:=w.s.heap.push o,toks:=tk }:=by
 have n:=Nw.also (X:=X) (s':= { w.s with heap:=w.s.heap.push o,toks:=tk }) I.toHR fun b o e=>Heap.get?_push_of_some _ e
 refine p.2 _ _ n ⟨_,_,tn,rfl,⟨T.keep,T.item,T.done,T.self⟩,t,?_⟩
 simp only [List.mem_singleton,forall_eq]
 refine ⟨⟨o,Heap.get?_push_size _ ho,I.toHR.free (bd _)⟩,I.out (bd _),?_⟩
 cases q:w0.s.heap.get? w.s.heap.objs.size with
 | none=>rfl
 | some o=>obtain ⟨o',q'⟩:=y.dom _ _ q;rw [bd] at q';cases q'
theorem Ez{M:Model}{A:Around}{s:Shared}{u:Value}{o:Obj}{n:String}{vs:Array Value}{Q:Unit→Shared→Prop}(ho:s.heap.get? it=some o)(hc:o.cls= .type n)(hd:o.data= .fields vs)
    (hn: ["enumerate","zip","dict_itemiterator","dict_reverseitemiterator","odict_iterator","itertools.zip_longest","itertools.pairwise"].contains n=false) (hQ:Q () s):wpAny M A (letOwnedTupleGo tg (.ref it) u) Q E s:=by
  unfold letOwnedTupleGo
  cases tg<;>first
    | exact wpAny_pure hQ
    | (cases u<;>first
        | exact wpAny_pure hQ
        | (refine wpAny_bind (wpAny_load ho ?_)
           rw [hc,hd]
           show wpAny M A (if (["enumerate","zip","dict_itemiterator","dict_reverseitemiterator","odict_iterator","itertools.zip_longest","itertools.pairwise"].contains n&&vs[0]? ==some (rawInt _))=true then _ else _) Q E s
           rw [if_neg (by intro h;rw [hn,Bool.false_and] at h;cases h)]
           exact wpAny_pure hQ))
theorem iW{St:Nat→Heap→Prop}{P:Nat→Value→Prop}{src:List Addr}{n:Nat}(W:∀ A:Around,A.handled=none→Walks G.prog G.w A it (it::src) [it] n P St)(hl:xs.length=n)(fz:∀ b∈src,∃ o,w.F b=some o)
  (lv:∀ i g,St i g→∃ o m vs,g.get? it=some o∧o.cls= .type m∧o.data= .fields vs∧ ["enumerate","zip","dict_itemiterator","dict_reverseitemiterator","odict_iterator","itertools.zip_longest","itertools.pairwise"].contains m=false) (hP:∀ i p v,xs[i]? =some p→P i v→aZ G w.F w.m p v):xf G w tg xs it [it] St where
 keep {i w1 w2 h1 h2} l1 H1 l2 H2 st k:=(W callerA rfl).frame i _ _ st fun b hb o e=>by
  rcases List.mem_cons.mp hb with rfl | hb
  ·exact k b (by simp) o e
  ·obtain ⟨o',q⟩:=fz b hb
   rw [H1.at (l1.1 _ _ q)] at e
   cases e
   exact H2.at (l2.1 _ _ (l1.1 _ _ q))
 item {A w1 h i p Q E} hh y H st hx f q:=by
  obtain ⟨o,ho⟩:=f it (by simp)
  refine (W A hh).item i _ _ _ (by rw [← hl];exact (List.getElem?_eq_some_iff.mp hx).1) st fun v h' tk hv st' k=>⟨v,rfl,?_⟩
  obtain ⟨o',m,vs,e',c,d,z⟩:=lv _ _ st'
  obtain ⟨a1,a2⟩:=kK (s':= { w1.s with heap:=h',toks:=tk }) H ho fun b o hb e=>k b o (by simpa using hb) e
  exact Ez (s:= { w1.s with heap:=h',toks:=tk }) e' c d z (q v _ a1 a2 st' (by simp;exact ⟨o',e',ho.2⟩) ((hP i p v hx hv).mono y.1 (.inr y.2)))
 done {A w1 h i Q E} hh y H st hx f q:=by
  obtain ⟨o,ho⟩:=f it (by simp)
  subst hl hx
  refine (W A hh).done _ _ _ st fun h' tk k=>⟨rfl,?_⟩
  obtain ⟨a1,a2⟩:=kK (s':= { w1.s with heap:=h',toks:=tk }) H ho fun b o hb e=>k b o (by simpa using hb) e
  exact q _ a1 a2
 self hh st q:=(W _ hh).self _ _ _ _ st q
theorem HR.fix{p:PV}{i:Nat}{a:Addr}{o:Obj}(H:HR X.toSC w h)(e:w.m[i]? =some a)(f:w.F a=none)(e1:w.s.heap.get? a=some o)(rr:aZ X.toSC (gz w.F a o) w.m p (.ref a))(pu:p.pure=true):Nw X w ⟨gz w.F a o,w.O,w.m,w.s⟩ (h.set i (.froz p)):=by
 refine ⟨⟨rfl,id,cJ f,fun _ _ e=>e,⟨[],by simp⟩,fun b o e=>⟨o,e⟩,fun b o q _=>⟨o.slots,⟨q.1,q.2.1,cP (fun z=>q.2.1 (z▸List.mem_of_getElem? e)) q.2.2.1,q.2.2.2⟩,.inr rfl⟩⟩,fun b x q=>?_,fun d b q=>let ⟨o,z,y⟩:=H.own d b q;⟨o,z,cP (fun e'=>z (e'▸List.mem_of_getElem? e)) y⟩,by simp [H.len],H.nd,fun j po b h1 h2=>?_⟩
 ·by_cases z:b=a
  ·subst z;cases bD.symm.trans q;exact e1
  ·exact H.sub b x ((jl z).symm.trans q)
 ·by_cases z:j=i
  ·subst z
   cases h2.symm.trans e
   rw [List.getElem?_set_self (H.len▸(List.getElem?_eq_some_iff.mp e).1)] at h1
   cases h1
   exact ⟨rr,pu,_,bD⟩
  ·rw [List.getElem?_set_ne (Ne.symm z)] at h1
   refine (H.obj j po b h1 h2).on (cJ f) (fun _ e=>e) (fun _ _ e=>e) (fun _ _ e _=>e) (cP ?_)
   rintro rfl
   obtain ⟨l1,e1⟩:=List.getElem?_eq_some_iff.mp h2
   obtain ⟨l2,e2⟩:=List.getElem?_eq_some_iff.mp e
   exact z ((List.getElem_inj H.nd).mp (e1.trans e2.symm))
theorem HR.frz{p q:PV}{u:Value}{h':List PO}(H:HR X.toSC w h)(r:aZ X.toSC w.F w.m p u)(k:ir h p=some (q,h')):∃ F',Nw X w ⟨F',w.O,w.m,w.s⟩ h'∧aZ X.toSC F' w.m q u∧q.pure=true:=by
 unfold ir at k
 split at k
 ·rename_i i
  cases r with
  | @ref _ a e=>
   cases q0:h[i]? <;>rw [q0] at k<;>try simp only at k
   ·cases k
   ·rename_i po
    cases po with
    | lst xs=>
     simp only at k
     split at k<;>cases k
     obtain ⟨f,its,n,e1,z,r⟩:=H.obj _ _ _ q0 e
     have rr:aZ X.toSC (gz w.F a ({ cls:=.type "list",data:=.seq its n })) w.m (.lst xs) (.ref a):=.lst bD z (r.mono (cJ f) (.inr fun _ _ e=>e))
     have pu:(PV.lst xs).pure=true:=by simpa [PV.pure] using ‹_›
     exact ⟨_,H.fix e f e1 rr pu,rr,pu⟩
    | froz p=>simp only at k;cases k;obtain ⟨r,z,_⟩:=H.obj _ _ _ q0 e;exact ⟨w.F,⟨.refl,H⟩,r,z⟩
    | _=>cases k
 ·split at k<;>cases k
  exact ⟨w.F,⟨.refl,H⟩,r, ‹_›⟩
theorem BR{p:PV}{v:Value}{w0:Wo}(I:Inv X w ρ h)(y:Stp X.fs NoW w0 w)(r:aZ X.toSC w.F w.m p v)(k:bC X (ItR X tg w0) w Q E (gC p h)):Wp X (pyIter v) Q E w.s:=by
 have seq:∀ {w:Wo} {h:List PO} {xs:List PV} {p:PV} {t:String},Inv X w ρ h→Stp X.fs NoW w0 w→aZ X.toSC w.F w.m p v→sqT p=some (t,xs)→bC X (ItR X tg w0) w Q E (.ok xs h)→Wp X (pyIter v) Q E w.s:=by
  intro w h xs p t I y r k q
  have tup:∀ {a:Addr} {its:Array Value} {n:Nat},w.F a=some ({ cls:=.type "tuple",data:=.seq its n })→aB X.toSC w.F w.m xs its.toList→Wp X (pyIter (.ref a)) Q E w.s:=fun {a its n} e r=>by
   have ne:a≠w.s.heap.objs.size:=fun z=>by have:=I.toHR.at e;rw [z,bd] at this;cases this
   refine wpAny_pyIter_tuple (items:=its) ⟨_,I.toHR.at e,rfl,n,rfl⟩ (ItR.new I y (iW (src:= [a]) (fun A hA=>Walks.tuple hA _ a ne its) r.len (fun b hb=>by simp at hb;exact ⟨_,hb▸e⟩) (fun i g st=>let ⟨o,e,c,d⟩:=st.1;⟨o,_,_,e,c,d,by decide⟩) fun i p v e h=>?_) ⟨⟨_,Heap.get?_push_size _ rfl,rfl,rfl⟩,⟨_,Heap.get?_push_of_some _ (I.toHR.at e),rfl,n,rfl⟩⟩ rfl q)
   obtain ⟨u,e',r'⟩:=r.get e
   rw [show its[i]? =some u by simpa using e'] at h
   cases h;exact r'
  have lst:∀ {a:Addr} {its:Array Value} {n:Nat},w.F a=some ({ cls:=.type "list",data:=.seq its n })→aB X.toSC w.F w.m xs its.toList→Wp X (pyIter (.ref a)) Q E w.s:=fun {a its n} e r=>by
   have ne:a≠w.s.heap.objs.size:=fun z=>by have:=I.toHR.at e;rw [z,bd] at this;cases this
   refine wpAny_pyIter_list (items:=its) ⟨_,I.toHR.at e,rfl,n,rfl⟩ (ItR.new I y (iW (src:= [a]) (fun A hA=>Walks.list hA _ a ne its) r.len (fun b hb=>by simp at hb;exact ⟨_,hb▸e⟩) (fun i g st=>let ⟨o,e,c,d⟩:=st.1;⟨o,_,_,e,c,d,by decide⟩) fun i p v e h=>?_) ⟨⟨_,Heap.get?_push_size _ rfl,rfl,rfl⟩,⟨_,Heap.get?_push_of_some _ (I.toHR.at e),rfl,n,rfl⟩⟩ rfl q)
   obtain ⟨u,e',r'⟩:=r.get e
   rw [show its[i]? =some u by simpa using e'] at h
   cases h;exact r'
  cases r<;>cases k
  ·exact tup ‹_› ‹_›
  ·exact lst ‹_› ‹_›
  ·exact lst ‹_› ‹_›
 unfold gC at k
 split at k
 ·rename_i l
  cases r
  have hP:∀ (i:Nat) (p:PV) (v:Value),(l.map fun c=>PV.str [c])[i]? =some p→SignAt (S l) i v→aZ X.toSC w.F w.m p v:=fun i p v e ⟨c,t,e',e''⟩=>by
   rw [List.getElem?_map,show l[i]? =some c by simpa [S] using e'] at e
   cases e;subst e'';exact .str [c] t
  cases ha:(S l).cps.all (· <128)
  ·exact wpAny_pyIter_wide ha (ItR.new I y (iW (src:= []) (fun A hA=>Walks.strWide hA _ _ _) (by simp [S]) (fun b hb=>nomatch hb) (fun i g ⟨o,e,c,d⟩=>⟨o,_,_,e,c,d,by decide⟩) hP) ⟨_,Heap.get?_push_size _ rfl,rfl,rfl⟩ rfl k)
  ·exact wpAny_pyIter_ascii ha (ItR.new I y (iW (src:= []) (fun A hA=>Walks.strAscii hA _ _ _) (by simp [S]) (fun b hb=>nomatch hb) (fun i g ⟨o,e,c,d⟩=>⟨o,_,_,e,c,d,by decide⟩) hP) ⟨_,Heap.get?_push_size _ rfl,rfl,rfl⟩ rfl k)
 ·exact seq I y r rfl k
 ·exact seq I y r rfl k
 ·exact seq I y r rfl k
 ·split at k
  ·rename_i e
   obtain ⟨F',n,r',_⟩:=I.toHR.frz r e
   exact seq (w:=⟨F',w.O,w.m,w.s⟩) (I.on n) (y.trans n.1) r' rfl (k.step n)
  ·exact k.elim
theorem di(ha:RE X a fa):RI X tg a (gx fa):=⟨fun I p=>ha.r I (p.bind fun _ _ _ _ y r p=>BR (I.on y) y.1 r p)⟩
theorem cV{e:Expr}{f:Ax}(hg:Gl X "range")(hm:X.mg "range"=none)(ha:RA X [e] f)(hs:starEach [e] X.env= [(false,eval e X.env)]:=by rfl):RI X tg (.Call (.Name "range" p0) [e] [] pos) (dT f):=⟨fun I p=>Call_ (I.blt hg hm boot_range (callWith_type1 (ha.r pos I (p.bind fun w _ ps us y r p=>by
 split at p
 ·rename_i j
  split at p
  ·rename_i hb
   have hb:=bX.mp hb
   cases r with
   | cons r t=>
    cases t;cases r
    refine call_range_1 ?_
    have n:=Nw.also (X:=X) (s':= { w.s with heap:=w.s.heap.push { cls:=.type "range",data:=.fields #[.int 0 w.s.toks,.int j ‹_›,.int 1 (w.s.toks+1)] },toks:=w.s.toks+1+1 }) y.2 fun b o e=>Heap.get?_push_of_some _ e
    refine wpAny_pyIter_range (IsRange.new ..) (small_one (by omega) (by omega) (by omega) (by omega)) (ItR.new ((I.on y).on n) (y.1.trans n.1) (iW (n:=j.toNat) (src:= []) (fun A hA=>Walks.range hA _ 0 1 _) (by simp) (fun b hb=>nomatch hb) (fun i g st=>⟨_,_,_,st,rfl,rfl,by decide⟩) fun i p v e h=>?_) ?_ rfl (p.step n))
    ·obtain ⟨t,rfl⟩:=h
     rw [List.getElem?_map] at e
     obtain ⟨q,e',rfl⟩:=Option.map_eq_some_iff.mp e
     obtain rfl:i=q:=by have:=List.getElem?_eq_some_iff.mp e';simpa using this.2
     rw [Int.mul_one];exact .int _ t
    ·show IsRangeIter _ _ (0+((0:Nat):Int) * 1) ((j.toNat:Int) - ((0:Nat):Int)) 1
     rw [show (0:Int)+((0:Nat):Int) * 1=0 by simp,show (j.toNat:Int) - ((0:Nat):Int)=Builtin.Range.rangeSize 0 j 1 by rw [rangeSize_one];split<;>omega]
     exact Heap.get?_push_size _ rfl
  ·exact p.elim
 ·exact p.elim)) hs rfl))⟩
end
end Z
namespace L2
open PySem PySem.Spec PyProof.Rows
structure kJ(N P:List Str)(sc:Scope):Prop where
 kind:sc.kind= .function
 co:sc.isCoroutine=false
 gen:sc.isGenerator=false
 nd:N.Nodup
 pre:N.take P.length=P
 par:∀ x∈P,sc.names.lookup x=some .local∨sc.names.lookup x=some .cell
 nofree:∀ y∈sc.names,y.2≠.free
theorem pK{kindOf:Str→Option NameKind}{x:Str}:∀ {binds:List (Str×Value)} {m:Str→Option Value},(∀ v,(x,v)∉binds)→bindL kindOf binds m x=m x
 | [],_,_=>rfl
 | (n,v)::r,m,h=>by
  unfold bindL
  rw [pK fun w hw=>h w (List.mem_cons_of_mem _ hw)]
  split
  ·have:x≠n:=by rintro rfl;exact h v List.mem_cons_self
   simp [this]
  ·rfl
theorem pM{kindOf:Str→Option NameKind}{x:Str}:∀ {binds:List (Str×Value)} {m:Str→Option Value},(∀ v,(x,v)∉binds)→bindC kindOf binds m x=m x
 | [],_,_=>rfl
 | (n,v)::r,m,h=>by
  unfold bindC
  rw [pM fun w hw=>h w (List.mem_cons_of_mem _ hw)]
  split
  ·rfl
  ·have:x≠n:=by rintro rfl;exact h v List.mem_cons_self
   simp [this]
theorem pL{kindOf:Str→Option NameKind}{x:Str}{v:Value}:∀ {P:List Str} {vs:List Value} {i:Nat} {m:Str→Option Value},P.Nodup→P[i]? =some x→vs[i]? =some v→kindOf x=some .local→
  bindL kindOf (P.zip vs) m x=some v
 | [],_,_,_,_,h,_,_=>by simp at h
 | _::_,[],_,_,_,_,h,_=>by simp at h
 | p::P,w::vs,0,m,nd,h1,h2,hk=>by
  simp at h1 h2;subst h1;subst h2
  show bindL kindOf ((p,w)::P.zip vs) m p=_
  unfold bindL
  rw [pK fun v hv=>(List.nodup_cons.mp nd).1 (List.of_mem_zip hv).1,if_pos hk]
  simp
 | p::P,w::vs,i+1,m,nd,h1,h2,hk=>by
  show bindL kindOf ((p,w)::P.zip vs) m x=_
  unfold bindL
  exact pL (i:=i) (List.nodup_cons.mp nd).2 (by simpa using h1) (by simpa using h2) hk
theorem pN{kindOf:Str→Option NameKind}{x:Str}{v:Value}:∀ {P:List Str} {vs:List Value} {i:Nat} {m:Str→Option Value},P.Nodup→P[i]? =some x→vs[i]? =some v→kindOf x≠some .local→
  bindC kindOf (P.zip vs) m x=some v
 | [],_,_,_,_,h,_,_=>by simp at h
 | _::_,[],_,_,_,_,h,_=>by simp at h
 | p::P,w::vs,0,m,nd,h1,h2,hk=>by
  simp at h1 h2;subst h1;subst h2
  show bindC kindOf ((p,w)::P.zip vs) m p=_
  unfold bindC
  rw [pM fun v hv=>(List.nodup_cons.mp nd).1 (List.of_mem_zip hv).1,if_neg hk]
  simp
 | p::P,w::vs,i+1,m,nd,h1,h2,hk=>by
  show bindC kindOf ((p,w)::P.zip vs) m x=_
  unfold bindC
  exact pN (i:=i) (List.nodup_cons.mp nd).2 (by simpa using h1) (by simpa using h2) hk
theorem sR{sc:Scope}{n:Nat}{x:Str}(h:sc.names.lookup x=some .cell):∃ c,(cellsFrom n sc.names []).lookup x=some c:=by
 have q:=PySem.W.cellsFrom_some sc.names n [] (.inl h)
 exact Option.isSome_iff_exists.mp q
structure dZ(k:Nat)(A:Around):Prop where
 dp:A.depth+3 * k+5<recursionLimit
 un:A.units+16 * k+200<cLine
 gd:A.guards=some []
theorem dZ.mono{j k:Nat}{A:Around}(r:dZ k A)(h:j≤k):dZ j A:=⟨by have:=r.dp;omega,by have:=r.un;omega,r.gd⟩
theorem dZ.deeper{k:Nat}{A:Around}(r:dZ (k+1) A)(env:Env):dZ k (A.deeper env):=
 ⟨by have:=r.dp;show A.depth+1+3 * k+5<_;omega,by have:=r.un;show A.units+3+16 * k+200<_;omega,r.gd⟩
theorem tW{A:Around}{C:Addr}{us:List Value}{kw:List (Str×Value)}:(A.under (.builtin "type.__call__" ⟨.ref C::us,kw⟩)).depth=A.depth+1:=by
 first | rfl | simp [Around.under,Code.weight,Code.isCreation,Code.isGuard,Code.isCaller,Code.frames,Code.isFrame,guardIds]
theorem tV{A:Around}{C:Addr}{us:List Value}{kw:List (Str×Value)}:(A.under (.builtin "type.__call__" ⟨.ref C::us,kw⟩)).units=A.units+1:=by
 first | rfl | simp [Around.under,Code.cUnits,Code.frames,Code.isFrame]
theorem dZ.make{k:Nat}{A:Around}(r:dZ (k+1) A)(C:Addr)(us:List Value)(kw:List (Str×Value)):dZ k (A.under (.builtin "type.__call__" ⟨.ref C::us,kw⟩)):=
 ⟨by have:=r.dp;rw [tW];omega,by have:=r.un;rw [tV];omega,by first | exact r.gd | (simp [Around.under,Code.guards,Code.isGuard,guardIds,pushGuards];exact r.gd)⟩
theorem dZ.depth{k:Nat}{A:Around}(r:dZ k A):A.depth<recursionLimit:=by have:=r.dp;omega
theorem dZ.units{k:Nat}{A:Around}(r:dZ k A):A.units+64<cLine:=by have:=r.un;omega
def jf(K:PySem.W.Frag)(fd:FuncData)(ps:List Str)(ds:List Value):Prop:=
 ∀ (s:Shared) (us:List Value),K.In s.heap→(us++ds).length=ps.length→BindsTo s fd ⟨us,[]⟩ (ps.zip (us++ds))
def gE(s:Stmt)(j:Nat):Stmt:=match s with
 | .ClassDef _ _ _ body _ _ _ _ _ _ _=>body.getD j (.Pass ⟨0,0,0,0⟩)
 | _=>.Pass ⟨0,0,0,0⟩
def qX(s:Stmt):Arguments:=match s with
 | .FunctionDef _ a _ _ _ _ _ _ _ _=>a
 | _=> { posonlyargs:= [],args:= [],vararg:=none,kwonlyargs:= [],kw_defaults:= [],kwarg:=none,defaults:= [] }
def gG(s:Stmt):List Stmt:=match s with
 | .FunctionDef _ _ b _ _ _ _ _ _ _=>b
 | _=> []
def aQ(s:Stmt):Scope:=match s with
 | .FunctionDef _ _ _ _ _ _ sc _ _ _=>sc
 | _=> { kind:=.function,names:= [],isGenerator:=false,isCoroutine:=false }
structure Fun(K:PySem.W.Frag)(x qual:Str)(st:Stmt)(f:Addr)(fd:FuncData):Prop where
 ex:∃ (oc:Value) (od:Option Addr) (kV doc pm:Value) (an:Option Addr) (cdv ct:Value) (osl:Array (Option Value)),
  fd=PySem.W.fnOf x qual (qX st) (gG st) (aQ st) .none kV doc pm an cdv ct∧K.lookup f=some ⟨oc,od,.func fd,osl⟩∧PySem.W.codeIn K cdv qual=true
 kp:PySem.W.keepIn K (.ref f)=true
end L2
namespace L3
def st0(n:Nat)(ps:List PV):Ev:=ps.map some++List.replicate (n - ps.length) none
end L3
namespace Z
open PySem PySem.Spec PyProof.Rows L3 L2
def iC(c:Bool)(X:Cx)(N:List Str)(qual:Str)(scope:Scope)(f:Addr)(cd:Value)(A:Around)(s:Shared):Cx:=
 { X with A:=A.deeper (envOfC qual scope s.heap.objs.size f cd),N:=N,env:=envOfC qual scope s.heap.objs.size f cd,stack:=envOfC qual scope s.heap.objs.size f cd::X.stack,fn:=fun _=>true,calm:=c,tr:=true,Ep:=PassesOwn (model X.prog X.w) (A.deeper (envOfC qual scope s.heap.objs.size f cd)) (envOfC qual scope s.heap.objs.size f cd) }
def New(X Y:Cx)(w:Wo):Prop:=(∀ b,Y.W b→w.s.heap.get? b=none)∧∀ b∈Y.fs,b∈X.fs∨w.s.heap.get? b=none
section
variable {X:Cx} {w:Wo} {h:List PO} {N ps:List Str} {qual name:Str} {scope:Scope} {f:Addr} {cd:Value} {A:Around} {qs:List PV} {us:List Value} {k:Nat} {R:Result→Shared→Prop}
def BF(env:Env)(ps:List Str)(us:List Value)(s s1:Shared):Prop:=∃ h t,s1= { s with heap:=h,toks:=t }∧(∀ b o,s.heap.get? b=some o→h.get? b=some o)∧∃ m,h.Ns env.locals m∧∀ (i:Nat) y u,ps[i]? =some y→us[i]? =some u→sX env h m y u
theorem wV{s1:Shared}(S:kJ N ps scope){c:Bool}(hd:c=true→A.handled=none)(hf:A.frames=some X.stack)(I:Wd X w h)(ok:X.Ok)(hl:qs.length=ps.length)(r:aB X.toSC w.F w.m qs us)
  (x:InCallC w.s w.s.heap.objs.size (bindL (envOfC qual scope w.s.heap.objs.size f cd).kindOf (ps.zip us) fun _=>none) (cellsFrom (w.s.heap.objs.size+1) scope.names []) (bindC (envOfC qual scope w.s.heap.objs.size f cd).kindOf (ps.zip us) fun _=>none) s1):
  New X (iC c X N qual scope f cd A w.s) w∧Stp X.fs NoW w { w with s:=s1 }∧Inv (iC c X N qual scope f cd A w.s) { w with s:=s1 } (st0 N.length qs) h∧BF (envOfC qual scope w.s.heap.objs.size f cd) ps us w.s s1:=by
 have hpl:ps.length≤N.length:=by have:=congrArg List.length S.pre;rw [List.length_take] at this;omega
 obtain ⟨h1,tk,rfl,hk⟩:=x.done
 have n:=Nw.also (X:=X) (s':= { w.s with heap:=h1,toks:=tk }) I.toHR hk
 have W:=I.on n.1 (fun _ _ z=>z.elim) n.2
 have nn:∀ {b},w.s.heap.objs.size≤b→w.s.heap.get? b=none:=fun {b} z=>by cases q:w.s.heap.get? b with | none=>rfl | some o=>exact absurd (Nat.lt_of_lt_of_le (Heap.lt_size q) z) (Nat.lt_irrefl _)
 have pv:∀ {b o},w.s.heap.objs.size≤b→h1.get? b=some o→Has { w with s:= { w.s with heap:=h1,toks:=tk } } b o:=fun {b o} z e=>⟨e,I.toHR.free (nn z)⟩
 obtain ⟨oL,es,ep,eL,dL,_⟩:=id x.toInCall.ns
 have hL:=pv (Nat.le_refl _) eL
 have ndP:ps.Nodup:=by rw [← S.pre];exact S.nd.sublist (List.take_sublist _ _)
 have lk:∀ (i:Nat) y u,ps[i]? =some y→us[i]? =some u→sX (envOfC qual scope w.s.heap.objs.size f cd) h1 (bindL (envOfC qual scope w.s.heap.objs.size f cd).kindOf (ps.zip us) fun _=>none) y u:=fun i y u hp hu=>by
  rcases S.par y (List.mem_of_getElem? hp) with k | k
  ·exact .inl ⟨k,pL ndP hp hu k⟩
  ·obtain ⟨c,e⟩:=sR (n:=w.s.heap.objs.size+1) k
   refine .inr ⟨.inl k,c,e,?_⟩
   have q:=x.cell y c e
   rw [pN ndP hp hu (by show scope.names.lookup y≠_;rw [k];decide)] at q
   exact q
 refine ⟨⟨fun b z=>z.elim (fun z=>z▸bd _) fun ⟨y,_,e⟩=>nn (Nat.le_of_lt (x.above y b (PySem.mem_of_lookup e))),fun b z=>(List.mem_cons.mp (show b∈w.s.heap.objs.size::X.fs from z)).elim (fun z=>.inr (by rw [z];exact bd _)) .inl⟩,n.1,⟨⟨W.toHR,W.ba,W.bs,fun b hb=>?_⟩,⟨ok.kin,ok.gl,ok.bl,ok.nl,S.kind,rfl,rfl,fun y z c h1 h2=>?_,fun y hy=>?_,hd,Around.frames_deeper hf,S.nd,fun e he=>?_⟩,⟨_,oL,x.toInCall.ns,hL,fun i p e=>?_⟩,fun y c e=>?_,?_⟩,_,_,rfl,hk,_,x.toInCall.ns,lk⟩
 ·rcases List.mem_cons.mp (show b∈w.s.heap.objs.size::X.fs from hb) with rfl | hb
  ·exact ⟨oL,hL,fun vs z=>by rw [dL] at z;cases z⟩
  ·exact W.fr b hb
 ·exact name_of_addr x.apart (PySem.mem_of_lookup h1) (PySem.mem_of_lookup h2)
 ·have hy:scope.names.lookup y=some .cell∨scope.names.lookup y=some .free:=hy
  rcases hy with hy | hy
  ·exact sR hy
  ·exact absurd rfl (S.nofree _ (PySem.mem_of_lookup hy))
 ·rcases List.mem_cons.mp he with rfl | he
  ·exact ⟨by rw [show (envOfC qual scope w.s.heap.objs.size f cd).scope.kind= .function from S.kind];decide,_,rfl,by
    cases q:X.base.get? w.s.heap.objs.size with
    | none=>exact q
    | some o=>have:=I.bk q;rw [bd] at this;cases this⟩
  ·exact ok.sf e he
 ·have hi:i<qs.length:=by
   unfold st0 at e
   by_cases hi:i<qs.length
   ·exact hi
   ·rw [List.getElem?_append_right (by simpa using hi),List.getElem?_replicate] at e
    split at e<;>cases e
  have ha:qs[i]? =some p:=by
   unfold st0 at e
   rw [List.getElem?_append_left (by simpa using hi),List.getElem?_map] at e
   cases e':qs[i]? with
   | none=>rw [e'] at e;cases e
   | some a=>rw [e'] at e;cases e;rfl
  obtain ⟨u,hu,rv⟩:=r.get ha
  obtain ⟨y,hp⟩:∃ y,ps[i]? =some y:=⟨ps[i],by simp [hl▸hi]⟩
  have hN:N[i]? =some y:=by rw [← S.pre,List.getElem?_take_of_lt (by omega)] at hp;exact hp
  exact ⟨y,u,hN,rv,lk i y u hp hu⟩
 ·obtain ⟨o,q,d⟩:=x.cell y c e
  exact ⟨_,o,⟨o,q,d⟩,pv (Nat.le_of_lt (x.above y c (PySem.mem_of_lookup e))) q⟩
 ·simp only [st0,List.length_append,List.length_map,List.length_replicate]
  show _=N.length
  omega
abbrev RC(Q:Value→Shared→Prop)(E:Value→Shared→Prop)(r:Result)(s:Shared):Prop:=match r with
 | .ok (.ret u)=>Q u s
 | .ok _=>False
 | .error e=>E e s
theorem pG{c:Bool}{st:Stmt}{fd:FuncData}{args:Args}{Q:Value→Shared→Prop}{E:Value→Shared→Prop}(F:Fun X.K name qual st f fd)(S:kJ N ps (aQ st))(hr:dZ (k+1) A)(hd:c=true→A.handled=none)(hf:A.frames=some X.stack)(I:Wd X w h)(ok:X.Ok)(hl:qs.length=ps.length)(r:aB X.toSC w.F w.m qs us)(hb:BindsTo w.s fd args (ps.zip us))
  (go:∀ cd s1,dZ k (A.deeper (envOfC qual (aQ st) w.s.heap.objs.size f cd))→New X (iC c X N qual (aQ st) f cd A w.s) w→Stp X.fs NoW w { w with s:=s1 }→Inv (iC c X N qual (aQ st) f cd A w.s) { w with s:=s1 } (st0 N.length qs) h→BF (envOfC qual (aQ st) w.s.heap.objs.size f cd) ps us w.s s1→
   Wp (iC c X N qual (aQ st) f cd A w.s) (execs (gG st) (iC c X N qual (aQ st) f cd A w.s).env) (fun fl s=>match fl with | .ret u=>Q u s | .next=>Q .none s | _=>False) (fun e s=>Wp (iC c X N qual (aQ st) f cd A w.s) (leaving (iC c X N qual (aQ st) f cd A w.s).env e) (fun _ s=>E e s) E s) s1):
  codeAny (model X.prog X.w) A (.call (.ref f) args) (RC Q E) w.s:=by
 obtain ⟨oc,od,kV,doc,pm,an,cdv,ct,osl,rfl,lk,hcd⟩:=F.ex
 have KX:X.K.In w.s.heap:=ok.kin.keeps fun _ _ e=>I.bk e
 have lim:w.s.heap.NoLimit:=ok.nl.keeps fun _ _ e=>I.bk e
 have hkind:∀ y∈ps.zip us,(aQ st).names.lookup y.1=some .local∨((aQ st).names.lookup y.1=some .cell∧((cellsFrom (w.s.heap.objs.size+1) (aQ st).names []).lookup y.1).isSome=true):=fun ⟨n,v⟩ hy=>(S.par n (List.of_mem_zip hy).1).imp_right fun q=>⟨q,PySem.W.cellsFrom_some _ _ _ (.inl q)⟩
 refine codeAny_call_function hr.depth (KX _ _ lk) rfl S.co S.gen rfl (PySem.W.codeRec_of KX hcd) (hb _ _ _ _ ?_)
 refine wpAny_newFunctionEnv_cells S.kind hkind fun env he s1 x=>?_
 subst he
 refine ⟨lim.keeps x.toInCall.keep,codeAny_func ?_⟩
 obtain ⟨nw,y,J,gr⟩:=wV (N:=N) (cd:=cdv) S hd hf I ok hl r x
 refine wpAny_mono (go cdv s1 (hr.deeper _) nw y J gr) (fun fl s' hs=>?_) fun e s' hs=>hs
 cases fl<;>first | exact hs | exact hs.elim
end
end Z
namespace L3
def frzs:List PV→List PO→Option (List PV×List PO)
 | [],h=>some ([],h)
 | p::r,h=>match ir h p with
  | some (q,h1)=>match frzs r h1 with
   | some (qs,h2)=>some (q::qs,h2)
   | none=>none
  | none=>none
inductive Out where
 | ok (v:PV) | bad
def gh(v:PV)(h:List PO):Out:=match ir h v with
 | some (q,_)=>.ok q
 | none=>.bad
def gK(f:Sx)(np n:Nat)(ps:List PV):Out:=if ps.length=np then match f (ps.map some++List.replicate (n - ps.length) none) [] with
  | .nx _ _=>.ok .non
  | .rt v h=>gh v h
  | _=>.bad
 else .bad
def dv(fn:List PV→Out)(ps:List PV)(h:List PO):Res PV:=match frzs ps h with
 | some (qs,h2)=>match fn qs with
  | .ok v=>.ok v h2
  | .bad=>.bad
 | none=>.bad
def bP(fn:List PV→Out)(as:Ax):Ex:=fun ρ h=>(as ρ h).bind (dv fn)
end L3
namespace Z
open PySem PySem.Spec PyProof.Rows L3 L2
structure FnP(G:SC)(k:Nat)(f:Addr)(fd:FuncData)(ps:List Str)(fn:List PV→Out):Prop where
 len:∀ qs v,fn qs= .ok v→qs.length=ps.length
 run:∀ {X:Cx} {w:Wo} {h:List PO} {A:Around} {qs:List PV} {us:List Value} {v:PV} {args:Args} {Q:Value→Shared→Prop} {E:Value→Shared→Prop},X.toSC=G→dZ k A→A.handled=none→A.frames=some X.stack→Wd X w h→X.Ok→aB G w.F [] qs us→fn qs= .ok v→BindsTo w.s fd args (ps.zip us)→
  (∀ F' s' u,Nw X w ⟨F',w.O,w.m,s'⟩ h→aZ G F' [] v u→Q u s')→codeAny (model G.prog G.w) A (.call (.ref f) args) (RC Q E) w.s
section
variable {G:SC} {X:Cx} {w w1:Wo} {ρ:Ev} {h h1:List PO} {N ps:List Str} {qual name:Str} {st:Stmt} {f:Addr} {fd:FuncData} {k:Nat} {g:Sx}
theorem Wd.hide(I:Wd X w h):Wd X ⟨w.F,fun _=>none,[],w.s⟩ []:=⟨⟨I.sub,fun _ _ e=>(nomatch e),rfl,List.nodup_nil,fun _ _ _ e=>(nomatch e)⟩,I.ba,I.bs,fun b hb=>let ⟨o,q,d⟩:=I.fr b hb;⟨o,⟨q.1,by simp,q.2.2.1,rfl⟩,d⟩⟩
theorem Stp.out{Y:Cx}{w2:Wo}(nw:New X Y w)(y:StS Y w w2):Stp X.fs NoW w w2:=⟨y.os,y.ba,y.fz,y.ow,y.pre,y.dom,fun b o q _=>by
 obtain ⟨sl,q',z⟩:=y.keep b o q fun z=>by have q:=q.1;rw [nw.1 b z] at q;cases q
 exact ⟨sl,q',z.imp_left fun z=>(nw.2 b z).resolve_right fun z=>by have q:=q.1;rw [z] at q;cases q⟩⟩
theorem Nw.back{m0:List Addr}{h':List PO}(I:Wd X w h)(y:Stp X.fs NoW ⟨w.F,fun _=>none,m0,w.s⟩ w1)(H:HR X.toSC w1 h1)(hl:h'.length=h.length)(hm:∀ a∈m0,a∈w.m)(ho:∀ (i:Nat) po a,h'[i]? =some po→w.m[i]? =some a→a∈m0→oB X.toSC w1.F w.m w.O w1.s.heap a po)(hk:∀ (i:Nat) po a,h'[i]? =some po→w.m[i]? =some a→a∉m0→h[i]? =some po):Nw X w ⟨w1.F,w.O,w.m,w1.s⟩ h':=by
 have k:∀ b o,w.s.heap.get? b=some o→w.F b=none→b∉m0→∃ sl,(w1.s.heap.get? b=some { o with slots:=sl }∧w1.F b=none)∧(b∈X.fs∨sl=o.slots):=fun b o e n z=>by
  obtain ⟨sl,q,z⟩:=y.keep b o ⟨e,z,n,rfl⟩ fun z=>z
  exact ⟨sl,⟨q.1,q.2.2.1⟩,z⟩
 have k':∀ b o,w.s.heap.get? b=some o→w.F b=none→b∉m0→b∉X.fs→w1.s.heap.get? b=some o∧w1.F b=none:=fun b o e n y z=>by
  obtain ⟨sl,q,z'⟩:=k b o e n y
  rcases z' with z' | rfl
  ·exact absurd z' z
  ·exact q
 have nf:∀ {b},¬ Fre w b→b∉X.fs:=fun n z=>let ⟨_,q,_⟩:=I.fr _ z;n q.2
 have no:∀ {b a},w.O b=some a→b∉m0:=fun e z=>let ⟨_,y,_⟩:=I.own _ _ e;y (hm _ z)
 refine ⟨⟨y.os,y.ba,y.fz,fun _ _ e=>e,⟨[],by simp⟩,y.dom,fun b o q _=>?_⟩,H.sub,fun d a e=>?_,hl.trans I.len,I.nd,fun i po a e1 e2=>?_⟩
 ·obtain ⟨sl,q',z⟩:=k b o q.1 q.2.2.1 fun z=>q.2.1 (hm _ z);exact ⟨sl,⟨q'.1,q.2.1,q'.2,q.2.2.2⟩,z⟩
 ·obtain ⟨⟨o,q⟩,z,n⟩:=I.own d a e;exact ⟨y.dom d o q,z,(k' d o q n (no e) (nf fun y=>by rw [y.2.2] at e;cases e)).2⟩
 ·by_cases z0:a∈m0
  ·exact ho i po a e1 e2 z0
  ·refine (I.obj i po a (hk i po a e1 e2 z0) e2).on y.fz (fun _ e=>e) (fun _ _ e=>e) (fun b o e z=>?_) fun n=>?_
   ·cases n:w.F b with
    | some x=>rw [I.sub b x n] at e;cases e;exact H.sub b _ (y.fz _ _ n)
    | none=>exact (k' b o e n (z.elim (fun z=>z▸z0) no) (nf fun y=>z.elim (fun z=>y.1 (z▸List.mem_of_getElem? e2)) fun z=>by rw [y.2.2] at z;cases z)).1
   ·obtain ⟨o,q⟩:=I.toHR.there (List.mem_of_getElem? e2)
    exact (k' a o q n z0 (nf fun y=>y.1 (List.mem_of_getElem? e2))).2
theorem Nw.show{Y:Cx}(I:Wd X w h)(nw:New X Y w)(y:StS Y ⟨w.F,fun _=>none,[],w.s⟩ w1)(H:HR X.toSC w1 h1):Nw X w ⟨w1.F,w.O,w.m,w1.s⟩ h:=Nw.back I (Stp.out (w:=⟨w.F,fun _=>none,[],w.s⟩) nw y) H rfl (by simp) (fun _ _ _ _ _ z=>absurd z (by simp)) fun _ _ _ e _ _=>e
theorem AT(F:Fun G.K name qual st f fd)(S:kJ N ps (aQ st))(hb:∀ (X:Cx) (cd:Value) (A:Around) (s:Shared),X.toSC=G→dZ k (A.deeper (envOfC qual (aQ st) s.heap.objs.size f cd))→RSs (iC true X N qual (aQ st) f cd A s) (gG st) g):FnP G (k+1) f fd ps (gK g ps.length N.length) where
 len qs v e:=by
  unfold gK at e
  split at e
  ·assumption
  ·cases e
 run {X w h A qs us v args Q E} hG hr hd hf I ok r e hbd q:=by
  subst hG
  unfold gK at e
  split at e
  ·rename_i hl
   refine pG (c:=true) (w:=⟨w.F,fun _=>none,[],w.s⟩) F S hr (fun _=>hd) hf I.hide ok hl r hbd fun cd s1 hr1 nw y J _=>?_
   have ends:∀ {w2:Wo} {h2 h3:List PO} {p:PV} {u:Value},StS (iC true X N qual (aQ st) f cd A w.s) { F:=w.F,O:=fun _=>none,m:= [],s:=s1 } w2→HR X.toSC w2 h2→aZ X.toSC w2.F w2.m p u→ir h2 p=some (v,h3)→Q u w2.s:=fun {w2 h2 h3 p u} y2 H2 r2 e2=>by
    obtain ⟨F',n,r3,pu⟩:=H2.frz (X:=iC true X N qual (aQ st) f cd A w.s) r2 e2
    exact q F' w2.s u (Nw.show I nw (Stp.trans (y.weak (fun _ z=>z.elim) fun b z=>List.mem_cons_of_mem _ z) (y2.trans n.s)) n.2) (r3.mono (fun _ _ e=>e) (.inl pu))
   refine wpAny_mono ((hb X cd A w.s rfl hr1).r (E:=fun _ _=>False) J ?_) (fun _ _ z=>z) fun _ _ z=>z.elim
   unfold st0
   split at e<;>rename_i e'<;>first | rw [e'] | skip
   ·cases e
    exact ⟨.never,fun w2 y2 I2=>ends y2 I2.toHR .non (h3:=_) rfl⟩
   ·unfold gh at e
    split at e<;>cases e
    exact ⟨.never,fun w2 u ρ2 y2 I2 r2=>ends y2 I2.toHR r2 ‹_›⟩
   ·cases e
  ·cases e
theorem HR.frzs:∀ {ps qs:List PV} {us:List Value} {w:Wo} {h h':List PO},HR X.toSC w h→aB X.toSC w.F w.m ps us→frzs ps h=some (qs,h')→∃ F',Nw X w ⟨F',w.O,w.m,w.s⟩ h'∧aB X.toSC F' [] qs us
 | [],_,_,w,_,_,H,.nil,k=>by cases k;exact ⟨w.F,⟨.refl,H⟩,.nil⟩
 | p::ps,qs,_,w,h,h',H,.cons r t,k=>by
  unfold L3.frzs at k
  split at k
  ·rename_i e
   obtain ⟨F1,n1,r1,pu⟩:=H.frz (X:=X) r e
   split at k<;>cases k
   rename_i e2
   obtain ⟨F2,n2,r2⟩:=HR.frzs n1.2 (n1.1.reps t) e2
   exact ⟨F2,n1.trans n2,.cons (r1.mono n2.1.fz (.inl pu)) r2⟩
  ·cases k
structure ZC(X:Cx)(x:Str)(fn:List PV→L3.Out):Prop where
 ex:∃ k f fd ps,FnP X.toSC k f fd ps fn∧dZ k X.A∧X.mg x=some (.ref f)∧PySem.W.keepIn X.K (.ref f)=true∧jf X.K fd ps []
variable {x:Str} {e:Expr} {es:List Expr} {p0 pos:Pos} {fs:Ax} {fn:List PV→L3.Out}
theorem FnP.call{qs:List PV}{us:List Value}{Q:Value→Shared→Prop}{E:Value→Shared→Prop}(F:FnP X.toSC k f fd ps fn)(hr:dZ k X.A)(hc:X.calm=true)(hb:jf X.K fd ps [])(I:Inv X w ρ h)(r:aB X.toSC w.F w.m qs us)(p:bC X (RV X.toSC) w Q E (dv fn qs h)):Wp X (call (.ref f) us) Q E w.s:=by
 unfold dv at p
 split at p
 ·rename_i e1
  split at p
  ·rename_i qs' h2 v e2
   obtain ⟨F',n,r'⟩:=I.toHR.frzs r e1
   have I':=I.on n
   refine wpAny_call (F.run (w:=⟨F',w.O,w.m,w.s⟩) rfl hr (I.ok.hd hc) I.ok.frames I'.toWd I'.ok r' e2 (by simpa using hb w.s us I.kIn (by rw [List.append_nil,← r'.length];exact F.len _ _ e2)) fun F2 s2 u n2 r2=>?_)
   exact p.2 _ _ (n.trans n2) (r2.mono (fun _ _ e=>e) (.inr fun _ _ e=>nomatch e))
  ·exact p.elim
 ·exact p.elim
theorem Aa(c:ZC X x fn)(hg:Gl X x)(ha:RA X (e::es) fs)(hc:X.calm=true:=by rfl)(hdb:(x==("__debug__":Str))=false:=by decide)(he:starEach (e::es) X.env=(false,eval e X.env)::starEach es X.env:=by rfl)(hpl:(backTo pos (starEach es X.env)).any (·.1)=false:=by rfl):RE X (.Call (.Name x p0) (e::es) [] pos) (bP fn fs):=⟨fun I p=>by
 obtain ⟨k,f,fd,ps,F,hr,hm,hk,hb⟩:=c.ex
 exact wpAny_Call_Name_kw (I.glb hg hm (PySem.W.callWith_K (h₀:=X.base) I.ok.kin hk (ha.r pos I (p.bind fun _ _ _ _ y r p=>⟨(I.on y).kIn,F.call hr hc hb (I.on y) r p⟩)) he hpl) hdb)⟩
theorem xQ(c:ZC X x fn)(hg:Gl X x)(hc:X.calm=true:=by rfl)(hdb:(x==("__debug__":Str))=false:=by decide):RE X (.Call (.Name x p0) [] [] pos) (bP fn aj):=⟨fun I p=>by
 obtain ⟨k,f,fd,ps,F,hr,hm,hk,hb⟩:=c.ex
 exact wpAny_Call_Name_kw (I.glb hg hm (PySem.W.callWith_K0 I.kIn hk (F.call hr hc hb I .nil p)) hdb)⟩
end
end Z
namespace L2
open PySem PySem.Spec PyProof.Rows
def dQ(cells:List (Str×Addr)):List (Str×NameKind)→List (Str×Addr)→List (Str×Addr)
 | [],cs=>cs
 | (n,k)::r,cs=>dQ cells r (if k==.free then (match cells.lookup n with | some a=>(n,a)::cs | none=>cs) else cs)
theorem pC(cells:List (Str×Addr)):∀ (l:List (Str×NameKind)) (cs:List (Str×Addr)) (p:Str×Addr),p∈dQ cells l cs→p∈cs∨(cells.lookup p.1=some p.2∧(p.1,NameKind.free)∈l)
 | [],cs,p,h=>.inl h
 | (n,k)::r,cs,p,h=>by
  unfold dQ at h
  rcases pC cells r _ p h with q | ⟨q1,q2⟩
  ·by_cases hk:k= .free
   ·subst hk
    simp only [beq_self_eq_true,if_true] at q
    cases e:cells.lookup n with
    | none=>rw [e] at q;exact .inl q
    | some a=>
     rw [e] at q
     rcases List.mem_cons.mp q with rfl | q
     ·exact .inr ⟨e,List.mem_cons_self⟩
     ·exact .inl q
   ·have hb:(k==NameKind.free)=false:=by simpa using hk
    simp only [hb,Bool.false_eq_true,if_false] at q
    exact .inl q
  ·exact .inr ⟨q1,List.mem_cons_of_mem _ q2⟩
theorem pB(cells:List (Str×Addr)):∀ (l:List (Str×NameKind)) (cs:List (Str×Addr)) (p:Str×Addr),p∈cs→p∈dQ cells l cs
 | [],_,_,h=>h
 | (n,k)::r,cs,p,h=>by
  unfold dQ
  refine pB cells r _ p ?_
  split
  ·split
   ·exact List.mem_cons_of_mem _ h
   ·exact h
  ·exact h
theorem pD(cells:List (Str×Addr)){x:Str}{c:Addr}(hc:cells.lookup x=some c):∀ (l:List (Str×NameKind)) (cs:List (Str×Addr)),(x,NameKind.free)∈l→(x,c)∈dQ cells l cs
 | (n,k)::r,cs,h=>by
  unfold dQ
  rcases List.mem_cons.mp h with e | h
  ·cases e
   refine pB cells r _ _ ?_
   simp only [beq_self_eq_true,if_true,hc]
   exact List.mem_cons_self
  ·exact pD cells hc r _ h
theorem ju{x:Str}{c:Addr}:∀ {l:List (Str×Addr)},(x,c)∈l→∃ c',l.lookup x=some c'
 | (y,d)::r,h=>by
  by_cases e:x=y
  ·subst e;exact ⟨d,by simp [List.lookup_cons]⟩
  ·have hb:(x==y)=false:=by simpa using e
   rw [List.lookup_cons,hb]
   rcases List.mem_cons.mp h with q | q
   ·cases q;exact absurd rfl e
   ·exact ju q
theorem jT{cells:List (Str×Addr)}{l:List (Str×NameKind)}{x:Str}{c:Addr}(h:(dQ cells l []).lookup x=some c):cells.lookup x=some c∧(x,NameKind.free)∈l:=by
 rcases pC cells l [] (x,c) (PySem.mem_of_lookup h) with q | q
 ·cases q
 ·exact q
theorem sP{cells:List (Str×Addr)}{l:List (Str×NameKind)}{x:Str}{c:Addr}(hc:cells.lookup x=some c)(h:(x,NameKind.free)∈l):(dQ cells l []).lookup x=some c:=by
 obtain ⟨c',e⟩:=ju (pD cells hc l [] h)
 rw [e,← hc,(jT e).1]
theorem gP{scope:Scope}{env:Env}(h:∀ n,(n,NameKind.free)∈scope.names→∃ c,env.cells.lookup n=some c):closureFor scope env=pure (dQ env.cells scope.names []):=by
 unfold closureFor
 have go:∀ (l:List (Str×NameKind)) (cs:List (Str×Addr)),(∀ n,(n,NameKind.free)∈l→∃ c,env.cells.lookup n=some c)→
   (forIn l cs fun x r=>if (x.2==NameKind.free)=true then do let a ← cellOf env x.1;pure (ForInStep.yield ((x.1,a)::r)) else pure (ForInStep.yield r):Sem (List (Str×Addr)))=pure (dQ env.cells l cs):=by
  intro l
  induction l with
  | nil=>intro cs _;rfl
  | cons x r ih=>
   intro cs hl
   obtain ⟨n,k⟩:=x
   rw [List.forIn_cons]
   have hr:∀ n,(n,NameKind.free)∈r→∃ c,env.cells.lookup n=some c:=fun y hy=>hl y (List.mem_cons_of_mem _ hy)
   by_cases hk:k= .free
   ·subst hk
    obtain ⟨c,hc⟩:=hl n List.mem_cons_self
    have e:cellOf env n=pure c:=by unfold cellOf;rw [hc]
    simp only [beq_self_eq_true,if_true,e,pure_bind,dQ,hc]
    exact ih _ hr
   ·have hb:(k==NameKind.free)=false:=by simpa using hk
    simp only [hb,Bool.false_eq_true,if_false,pure_bind,dQ]
    exact ih _ hr
 have q:=go scope.names [] h
 simp only [bind_pure]
 exact q
theorem ij{env:Env}{x:Str}:∀ {names:List (Str×NameKind)},(∀ y∈names,y.2≠.cell)→∀ {k:NameKind},
  (names.map fun (n,k)=>if (k==NameKind.free&&env.scope.kind==.function&&env.kindOf n==some .cell) then (n,NameKind.cell) else (n,k)).lookup x=some k→k= .cell∨k= .free→(x,NameKind.free)∈names
 | [],_,_,h,_=>by simp at h
 | (n,k0)::r,hn,k,h,hk=>by
  have ih:= @ij env x r (fun y hy=>hn y (List.mem_cons_of_mem _ hy)) k
  rw [List.map_cons] at h
  by_cases hc:(k0==NameKind.free&&env.scope.kind==.function&&env.kindOf n==some .cell)=true
  ·have h2:List.lookup x ((n,NameKind.cell)::r.map fun (n,k)=>if (k==NameKind.free&&env.scope.kind==.function&&env.kindOf n==some .cell) then (n,NameKind.cell) else (n,k))=some k:=by
    have q:=h
    simp only [hc,if_true] at q
    exact q
   have hf:k0= .free:=by
    have z:(k0==NameKind.free)=true:=by
     cases e:(k0==NameKind.free) with
     | true=>rfl
     | false=>rw [e] at hc;simp at hc
    simpa using z
   by_cases e:x=n
   ·subst e;subst hf;exact List.mem_cons_self
   ·have hb:(x==n)=false:=by simpa using e
    rw [List.lookup_cons,hb] at h2
    exact List.mem_cons_of_mem _ (ih h2 hk)
  ·have h2:List.lookup x ((n,k0)::r.map fun (n,k)=>if (k==NameKind.free&&env.scope.kind==.function&&env.kindOf n==some .cell) then (n,NameKind.cell) else (n,k))=some k:=by
    have q:=h
    simp only [hc,if_false] at q
    exact q
   by_cases e:x=n
   ·subst e
    rw [List.lookup_cons,beq_self_eq_true] at h2
    have e2:k0=k:=Option.some.inj h2
    subst e2
    rcases hk with z | z
    ·exact absurd z (hn (x,k0) List.mem_cons_self)
    ·subst z;exact List.mem_cons_self
   ·have hb:(x==n)=false:=by simpa using e
    rw [List.lookup_cons,hb] at h2
    exact List.mem_cons_of_mem _ (ih h2 hk)
theorem jY{env:Env}{x:Str}:∀ {names:List (Str×NameKind)},names.lookup x=some .free→
  (names.map fun (n,k)=>if (k==NameKind.free&&env.scope.kind==.function&&env.kindOf n==some .cell) then (n,NameKind.cell) else (n,k)).lookup x=some .cell∨
  (names.map fun (n,k)=>if (k==NameKind.free&&env.scope.kind==.function&&env.kindOf n==some .cell) then (n,NameKind.cell) else (n,k)).lookup x=some .free
 | [],h=>by simp at h
 | (n,k)::r,h=>by
  have ih:= @jY env x r
  show List.lookup x ((if (k==NameKind.free&&env.scope.kind==.function&&env.kindOf n==some .cell)=true then (n,NameKind.cell) else (n,k))::_)=_∨List.lookup x ((if (k==NameKind.free&&env.scope.kind==.function&&env.kindOf n==some .cell)=true then (n,NameKind.cell) else (n,k))::_)=_
  by_cases hc:(k==NameKind.free&&env.scope.kind==.function&&env.kindOf n==some .cell)=true
  ·rw [if_pos hc]
   cases hx:x==n with
   | true=>left;simp [List.lookup_cons,hx]
   | false=>
    simp only [List.lookup_cons,hx] at h ⊢
    exact ih h
  ·rw [if_neg hc]
   cases hx:x==n with
   | true=>
    simp only [List.lookup_cons,hx] at h
    right;simp [List.lookup_cons,hx,h]
   | false=>
    simp only [List.lookup_cons,hx] at h ⊢
    exact ih h
theorem re{prog:Program}{w:World}{A:Around}{R:Result→Shared→Prop}{s:Shared}{elt target iter:Expr}{ifs:List Expr}{scope:Scope}{pos:Pos}{it acc:Value}{env:Env}(I:Nat→Shared→Prop)
  (turn:∀ n s,I n s→wpAny (model prog w) A (pyNext it) (fun r s₁=>match r with
   | none=>R (.ok .next) s₁
   | some v=>wpAny (model prog w) A (letOwnedTupleGo target it v) (fun _ s₂=>wpAny (model prog w) A (assign target env v) (fun _ s₃=>
     wpAny (model prog w) A (forIn ifs true fun c r=>if r=true then do let ok ← isTrue c env (eval c env);pure (ForInStep.yield ok) else pure (ForInStep.yield r)) (fun ok s₄=>
      if ok=true then wpAny (model prog w) A (eval elt env) (fun x s₅=>
       wpAny (model prog w) A (call (.builtin "list.append") [acc,x]) (fun _ s₆=>∃ m,m<n∧I m s₆) (fun _ _=>False) s₅) (fun _ _=>False) s₄
      else ∃ m,m<n∧I m s₄) (fun _ _=>False) s₃) (fun _ _=>False) s₂) (fun _ _=>False) s₁) (fun _ _=>False) s)
  (n:Nat) (h:I n s):
  codeAny (model prog w) A (.compLoop (.ListComp elt [⟨target,iter,ifs,0⟩] scope pos) 0 it acc env) R s:=by
 refine codeAny_loop rfl I (fun n s hI=>?_) n h
 show wpAny _ A ((compTurn (.ListComp elt [⟨target,iter,ifs,0⟩] scope pos) 0 it acc env).onRaise (fun x=>do noteFrame x env;theTreesLotGoes x)) _ _ s
 refine wpAny_noted ?_
 rw [compTurn_list]
 refine wpAny_bind (wpAny_standAt (wpAny_bind (wpAny_mono (turn n s hI) (fun r s₁ h₁=>?_) fun _ _ h'=>h'.elim)))
 cases r with
 | none=>exact wpAny_pure h₁
 | some v=>
  refine wpAny_bind (wpAny_mono h₁ (fun _ s₂ h₂=>wpAny_bind (wpAny_mono h₂ (fun _ s₃ h₃=>wpAny_bind (wpAny_mono h₃ (fun ok s₄ h₄=>?_) fun _ _ h'=>h'.elim)) fun _ _ h'=>h'.elim)) fun _ _ h'=>h'.elim)
  cases ok with
  | false=>exact wpAny_pure ⟨rfl,h₄⟩
  | true=>
   exact wpAny_bind (wpAny_bind (wpAny_mono h₄ (fun x s₅ h₅=>wpAny_bind (wpAny_mono h₅ (fun _ s₆ h₆=>wpAny_pure (wpAny_pure ⟨rfl,h₆⟩)) fun _ _ h'=>h'.elim)) fun _ _ h'=>h'.elim))
end L2
namespace L3
open PySem
def Res.calm{α:Type}(r:Res α):Res α:=match r with
 | .exc _ _=>.bad
 | r=>r
def bW(caps:List Nat)(ρ:Ev):Ev:=caps.map fun i=>(ρ[i]?).getD none
def dg(g:Gx)(tt:Tx)(te:Ex)(ρ0:Ev):List PV→List PO→Res (List PV)
 | [],h=>.ok [] h
 | p::r,h=>match g p ρ0 with
  | some ρ1=>(tt ρ1 h).bind fun b h1=>if b=true then (te ρ1 h1).bind fun v h2=>(dg g tt te ρ0 r h2).bind fun vs h3=>.ok (v::vs) h3 else dg g tt te ρ0 r h1
  | none=>.bad
def dk(n:Nat)(g:Gx)(caps:List Nat)(it:Ax)(tt:Tx)(te:Ex):Ax:=fun ρ h=>(it ρ h).bind fun xs h1=>if xs.length<sizeLine then (dg g tt te (List.replicate n none++bW caps ρ) xs h1).calm else .bad
noncomputable def bF:Tx:=fun _ h=>.ok true h
def okL(ps:List PV)(h:List PO):Res PV:=.ok (.lst ps) h
def nT(ps:List PV)(h:List PO):Res PV:=.ok (.ref h.length) (h++ [.lst ps])
end L3
namespace Z
open PySem PySem.Spec PyProof.Rows L3 L2
structure bA(N:List Str)(psc scope:Scope)(caps:List Nat)(vs M:List Str):Prop where
 kind:scope.kind= .function
 nocell:∀ y∈scope.names,y.2≠.cell
 names:∀ y∈scope.names,y.2= .local→scope.names.lookup y.1=some .local
 free:∀ y∈scope.names,y.2= .free→psc.names.lookup y.1=some .cell∨psc.names.lookup y.1=some .free
 inN:M=vs++caps.map fun i=>N.getD i ""
 cap:∀ i∈caps,i<N.length∧scope.names.lookup (N.getD i "")=some .free
 nd:M.Nodup
def vI(N:List Str)(psc scope:Scope)(caps:List Nat)(vs M:List Str):Bool:=
 decide (scope.kind= .function)&&decide (∀ y∈scope.names,y.2≠.cell)&&decide (∀ y∈scope.names,y.2= .local→scope.names.lookup y.1=some .local)
  &&decide (∀ y∈scope.names,y.2= .free→psc.names.lookup y.1=some .cell∨psc.names.lookup y.1=some .free)&&decide (M=vs++caps.map fun i=>N.getD i "")
  &&decide (∀ i∈caps,i<N.length∧scope.names.lookup (N.getD i "")=some .free)&&decide M.Nodup
theorem bA.of{N:List Str}{psc scope:Scope}{caps:List Nat}{vs M:List Str}(h:vI N psc scope caps vs M=true):bA N psc scope caps vs M:=by
 unfold vI at h
 simp only [Bool.and_eq_true,decide_eq_true_eq] at h
 obtain ⟨⟨⟨⟨⟨⟨a,b⟩,c⟩,d⟩,e⟩,f⟩,g⟩:=h
 exact ⟨a,b,c,d,e,f,g⟩
def bp(X:Cx)(M:List Str)(scope:Scope)(cl:List (Str×Addr))(C:Addr):Cx:= { X with N:=M,env:=compEnvC scope cl C X.env,fn:=fun _=>false,Ep:=fun _=>True }
structure RFs(X:Cx)(ifs:List Expr)(f:Tx):Prop where
 r:∀ {w:Wo} {ρ:Ev} {h:List PO} {Q:Bool→Shared→Prop} {E:Value→Shared→Prop},Inv X w ρ h→bC X (fun _ a b=>a=b) w Q E (f ρ h)→Wp X (forIn ifs true fun c r=>if r=true then do let ok ← isTrue c X.env (eval c X.env);pure (ForInStep.yield ok) else pure (ForInStep.yield r)) Q E w.s
section
variable {X:Cx} {w w1 w2:Wo} {ρ:Ev} {h:List PO} {c:Expr} {f:Tx}
theorem ey:RFs X [] bF:=⟨fun I p=>wpAny_tests_nil (p.here I.toHR rfl)⟩
theorem ng(ha:RT X c f):RFs X [c] f:=⟨fun I p=>wpAny_tests_one (ha.r I p)⟩
theorem Stp.new{fs:List Addr}{W W':Addr→Prop}(x:Stp fs W w w1)(y:Stp fs W' w1 w2)(n:∀ b,W' b→w.s.heap.get? b=none):Stp fs W w w2:=
 ⟨y.os.trans x.os,y.ba∘x.ba,fun a o e=>y.fz a o (x.fz a o e),fun a o e=>y.ow a o (x.ow a o e),let ⟨t,e⟩:=x.pre;let ⟨u,e'⟩:=y.pre;⟨t++u,by rw [e',e,List.append_assoc]⟩,fun b o e=>let ⟨o',q⟩:=x.dom b o e;y.dom b o' q,fun b o q z=>by
  obtain ⟨sl,q1,z1⟩:=x.keep b o q z
  obtain ⟨sl',q2,z2⟩:=y.keep b _ q1 fun z=>by have q:=q.1;rw [n b z] at q;cases q
  exact ⟨sl',q2,z1.elim .inl fun z=>z2.imp_right fun z'=>z'.trans z⟩⟩
theorem ui{M:List Str}{scope:Scope}{caps:List Nat}{vs:List Str}{C:Addr}{m:Str→Option Value}{s1:Shared}(S:bA X.N X.env.scope scope caps vs M)(I:Inv X w ρ h)(hC:w.s.heap.get? C=none)(k:∀ b o,w.s.heap.get? b=some o→s1.heap.get? b=some o)(hn:s1.heap.Ns C m)(ho:s1.os=w.s.os)(hg:s1.gens=w.s.gens):
  Inv (bp X M scope (dQ X.env.cells scope.names []) C) { w with s:=s1 } (List.replicate vs.length none++bW caps ρ) h:=by
 have n:=Nw.also (X:=X) (s':=s1) I.toHR k ho hg
 have J:=I.on n
 have c0:∀ y c,(dQ X.env.cells scope.names []).lookup y=some c→X.env.cells.lookup y=some c:=fun y c h=>(jT h).1
 obtain ⟨m0,_,_,_,l⟩:=J.loc
 obtain ⟨oC,es,ep,eC,_⟩:=id hn
 refine ⟨⟨J.toHR,J.ba,J.bs,J.fr⟩,⟨I.ok.kin,I.ok.gl,I.ok.bl,I.ok.nl,S.kind,I.ok.glob,I.ok.blt,fun y z c h1 h2=>I.ok.inj y z c (c0 _ _ h1) (c0 _ _ h2),fun y hy=>?_,I.ok.hd,I.ok.frames,S.nd,I.ok.sf⟩,⟨m,oC,hn,⟨eC,I.toHR.free hC⟩,fun i p e=>?_⟩,fun y c e=>J.cel y c (c0 y c e),?_⟩
 ·have hm:(y,NameKind.free)∈scope.names:=by
   rcases hy with h | h
   ·exact ij S.nocell h (.inl rfl)
   ·exact ij S.nocell h (.inr rfl)
  obtain ⟨c,hc⟩:=I.ok.has y (S.free _ hm rfl)
  exact ⟨c,sP hc hm⟩
 ·have hi:vs.length≤i:=by
   rcases Nat.lt_or_ge i vs.length with z | z
   ·rw [List.getElem?_append_left (by simpa using z)] at e;simp [List.getElem?_replicate] at e
   ·exact z
  rw [List.getElem?_append_right (by simpa using hi),List.length_replicate] at e
  simp only [bW,List.getElem?_map] at e
  cases e1:caps[i - vs.length]? with
  | none=>rw [e1] at e;cases e
  | some k=>
   rw [e1] at e
   obtain ⟨c1,c2⟩:=S.cap k (List.mem_of_getElem? e1)
   have e2:ρ[k]? =some (some p):=by
    simp only [Option.map_some,Option.some.injEq] at e
    cases q:ρ[k]? with
    | none=>rw [q] at e;cases e
    | some v=>rw [q] at e;simp at e;rw [e]
   obtain ⟨y,u,e3,r,l⟩:=l k p e2
   have e4:X.N.getD k ""=y:=by rw [List.getD_eq_getElem?_getD,e3];rfl
   rw [e4] at c2
   refine ⟨y,u,?_,r,?_⟩
   ·show M[i]? =some y
    rw [S.inN,List.getElem?_append_right hi,List.getElem?_map,e1,← e4];rfl
   ·have hm:(y,NameKind.free)∈scope.names:=PySem.mem_of_lookup c2
    rcases l with ⟨k1,_⟩ | ⟨k1,c,e5,q⟩
    ·rcases S.free _ hm rfl with z | z<;>(rw [show X.env.scope.names.lookup y=some .local from k1] at z;cases z)
    ·exact .inr ⟨jY c2,c,sP e5 hm,q⟩
 ·show _=M.length
  rw [S.inN];simp [bW]
theorem Inv.weak{ρ':Ev}(I:Inv X w ρ h)(l:ρ'.length=ρ.length)(k:∀ (i:Nat) p,ρ'[i]? =some (some p)→ρ[i]? =some (some p)):Inv X w ρ' h:=let ⟨m,o,a,b,c⟩:=I.loc;⟨I.toWd,I.ok,⟨m,o,a,b,fun i p e=>c i p (k i p e)⟩,I.cel,l.trans I.ln⟩
def PKn(K:List PV→List PO→Prop):Res (List PV)→Prop
 | .ok vs h=>K vs h
 | _=>False
theorem pF{α:Type}{K:List PV→List PO→Prop}{r:Res α}{k:α→List PO→Res (List PV)}(p:PKn K (r.bind k).calm):∃ a h,r= .ok a h∧PKn K (k a h).calm:=match r with
 | .ok a h=>⟨a,h,rfl,p⟩
 | .exc _ _=>p.elim
 | .bad=>p.elim
theorem lH{elt iter tg:Expr}{ifs:List Expr}{scope:Scope}{tt:Tx}{te:Ex}{M vs:List Str}{g:Gx}{pos:Pos}{use:Option (Value→Sem Unit)}{w0 w:Wo}{h1:List PO}{ρ:Ev}{xs:List PV}{v:Value}{Q:Value→Shared→Prop}{E:Value→Shared→Prop}{K:List PV→List PO→Prop}(caps:List Nat)(hc:X.calm=true)(S:bA X.N X.env.scope scope caps vs M)(hg:∀ cl C,RG (bp X M scope cl C) tg g)(ht:∀ cl C,RFs (bp X M scope cl C) ifs tt)(he:∀ cl C,RE (bp X M scope cl C) elt te)
  (gm:∀ q cp ρ1,g q (List.replicate vs.length none++cp)=some ρ1→∃ l,l.length=vs.length∧ρ1=l++cp) (I0:Inv X w0 ρ h) (y0:Nw X w0 w h1) (rr:ItR X tg w0 w xs v) (hz:xs.length<sizeLine) (p:PKn K (dg g tt te (List.replicate vs.length none++bW caps ρ) xs h1).calm)
  (hr:∀ {w2:Wo} {h2:List PO} {ps:List PV} {its:Array Value} {D C:Addr} {oC:Obj} {m:Str→Option Value},Stp X.fs NoW w0 w2→HR X.toSC w2 h2→w0.s.heap.get? D=none→w0.s.heap.get? C=none→D≠C→Has w2 C oC→w2.s.heap.Ns C m→w2.s.heap.PlainList D its→Fre w2 D→aB X.toSC w2.F w2.m ps its.toList→its.size≤sizeLine→K ps h2→compPost (model X.prog X.w) X.A E use Q (.ref D) C (.ok .next) w2.s):
  Wp X (newList []) (fun acc s=>Wp X (newFunctionEnv scope X.env.globals (dQ X.env.cells scope.names []) [] X.env.qual none .none (some X.env)) (fun cenv s=>codeAny (model X.prog X.w) X.A (.compStart (.ListComp elt [⟨tg,iter,ifs,0⟩] scope pos) 0 v acc { cenv with scope:=relabel scope X.env }) (compPost (model X.prog X.w) X.A E use Q acc cenv.locals) s) E s) E w.s:=by
  obtain ⟨it,fp,tn,rfl,T,t0,fr⟩:=rr
  have I:=I0.on y0
  ·refine wpAny_newObj_type (wpAny_newFunctionEnv S.nocell (by intro y hy;simp at hy) (fun h₁ hns hsb=>?_) S.kind)
   dsimp only at hns hsb ⊢
   generalize hP:w.s.heap.push { cls:=.type "list",dict:=none,data:=.seq ([]:List Value).toArray }=P at hns hsb ⊢
   have zP:P.objs.size=w.s.heap.objs.size+1:=by rw [← hP,Heap.size_push]
   have ne:∀ {b},b<w.s.heap.objs.size+1→b≠P.objs.size:=fun z e=>by rw [e,zP] at z;exact absurd z (Nat.lt_irrefl _)
   have old:∀ b o,w.s.heap.get? b=some o→h₁.get? b=some o:=fun b o e=>hsb.extBut b o (ne (Nat.lt_succ_of_lt (Heap.lt_size e))) (Heap.get?_push_of_some _ (hP▸Heap.get?_push_of_some _ e))
   have DC:w.s.heap.objs.size≠P.objs.size:=ne (Nat.lt_succ_self _)
   have eD:h₁.PlainList w.s.heap.objs.size #[]:=⟨_,hsb.extBut _ _ DC (Heap.get?_push_of_some _ (hP▸Heap.get?_push_size _ rfl))⟩
   have nC:w.s.heap.get? P.objs.size=none:=by
    cases q:w.s.heap.get? P.objs.size with
    | none=>rfl
    | some o=>exact absurd rfl (ne (Nat.lt_succ_of_lt (Heap.lt_size q)))
   have n0:∀ {b},w.s.heap.get? b=none→w0.s.heap.get? b=none:=fun {b} z=>by
    cases q:w0.s.heap.get? b with
    | none=>rfl
    | some o=>obtain ⟨o',q'⟩:=y0.1.dom b o q;rw [z] at q';cases q'
   have nD:=bd w.s.heap
   have nf:∀ b∈fp,w0.s.heap.get? b=none:=fun b hb=>(fr b hb).2.2
   have J:=ui S I nC old hns (s1:= { w.s with heap:=h₁,toks:=w.s.toks+([]:List (Str×Value)).length }) rfl rfl
   have n1:=Nw.also (X:=X) (s':= { w.s with heap:=h₁,toks:=w.s.toks+([]:List (Str×Value)).length }) I.toHR old
   generalize hY:bp X M scope (dQ X.env.cells scope.names []) P.objs.size=Y at J
   have fsY:Y.fs=X.fs:=by rw [← hY];rfl
   have apt:∀ b,Apt X b→b≠P.objs.size→Apt Y b:=fun b a z=>by subst hY;exact ⟨z,a.2.1,fun x c e=>a.2.2 x c (jT e).1⟩
   have aD:Apt Y w.s.heap.objs.size:=apt _ (I.out nD) DC
   have aF:∀ b∈fp,Apt Y b:=fun b hb=>apt b (fr b hb).2.1 (let ⟨o,q⟩:=(fr b hb).1;ne (Nat.lt_succ_of_lt (Heap.lt_size q.1)))
   have dF:w.s.heap.objs.size∉fp:=fun z=>let ⟨o,q⟩:=(fr _ z).1;absurd (Heap.lt_size q.1) (Nat.lt_irrefl _)
   have loop:codeAny (model X.prog X.w) X.A (.compLoop (.ListComp elt [⟨tg,iter,ifs,0⟩] scope pos) 0 (.ref it) (.ref w.s.heap.objs.size) (compEnvC scope (dQ X.env.cells scope.names []) P.objs.size X.env)) (compPost (model X.prog X.w) X.A E use Q (.ref w.s.heap.objs.size) P.objs.size) { w.s with heap:=h₁,toks:=w.s.toks+([]:List (Str×Value)).length }:=by
    refine re (fun n s=>∃ w1 h2 acc its ys,w1.s=s∧Stp X.fs NoW w0 w1∧Lat w w1∧Inv Y w1 (List.replicate vs.length none++bW caps ρ) h2∧ys.length=n∧n≤xs.length∧ys=xs.drop (xs.length - n)∧tn (xs.length - n) w1.s.heap∧(∀ b∈fp,∃ o,Has w1 b o)∧w1.s.heap.PlainList w.s.heap.objs.size its∧Fre w1 w.s.heap.objs.size∧aB X.toSC w1.F w1.m acc its.toList∧its.size+n<sizeLine∧PKn (fun vs h3=>K (acc++vs) h3) (dg g tt te (List.replicate vs.length none++bW caps ρ) ys h2).calm) ?_ xs.length ⟨_,h1,[], #[],xs,rfl,y0.1.trans n1.1,n1.1.lat,J,rfl,Nat.le_refl _,by simp,?_,fun b hb=>?_,eD,I.toHR.free nD,.nil,by simpa using hz,p⟩
    ·rintro n s ⟨w1,h2,acc,its,ys,rfl,y1,l1,I1,ln,le,dr,t1,f1,d1,dn1,ra,z1,p1⟩
     subst hY
     cases ys with
     | nil=>
      cases ln
      refine wpAny_mono (T.done (I.ok.hd hc) l1 I1.toHR t1 (by simp) f1 (Q:=fun s=>compPost (model X.prog X.w) X.A E use Q (.ref w.s.heap.objs.size) P.objs.size (.ok .next) s) fun w2 y2 H2=>?_) (fun r s q=>by obtain ⟨rfl,q⟩:=q;exact q) fun _ _ z=>z
      obtain ⟨m,o,n,hl,_⟩:=(I1.priv y2 H2 aF).loc
      obtain ⟨nn,e1⟩:=d1
      have q:=y2.keep _ _ dF ⟨e1,dn1⟩
      exact hr (y1.priv y2 nf) H2 (n0 nD) (n0 nC) DC hl n ⟨nn,q.1⟩ q.2 (ra.mono y2.fz (.inr y2.sub)) (by omega) (by simpa [dg,Res.calm,PKn] using p1)
     | cons q ys=>
      have ln':ys.length+1=n:=ln
      have eq:xs[xs.length - n]? =some q:=by rw [← List.head?_drop,← dr];rfl
      have dy:ys=xs.drop (xs.length - ys.length):=by rw [show xs.length - ys.length=xs.length - n+1 by omega,← List.drop_drop,← dr];rfl
      unfold dg at p1
      split at p1
      ·rename_i ρ2 e2
       obtain ⟨b,h3,e3,p3⟩:=pF p1
       refine wpAny_mono (T.item (I.ok.hd hc) l1 I1.toHR t1 eq f1 (Q:=fun u s=>wpAny (model X.prog X.w) X.A (assign tg (compEnvC scope (dQ X.env.cells scope.names []) P.objs.size X.env) u) ?R ?N s) ?c) (fun r s q=>by obtain ⟨u,rfl,q⟩:=q;exact q) fun _ _ z=>z
       intro u w2 y2 H2 t2 f2 r2
       refine (hg _ _).r (I1.priv y2 H2 aF) r2 e2 fun w3 y3 I3=>(ht _ _).r I3 ?_
       rw [e3]
       refine ⟨trivial,fun w4 b' y4 eb=>?_⟩
       subst eb
       obtain ⟨l,ll,rfl⟩:=gm _ _ _ e2
       have y04:Stp X.fs NoW w0 w4:=Stp.trans (Stp.new (y1.priv y2 nf) y3 fun b z=>n0 (z.elim (fun z=>z▸nC) fun ⟨_,z,_⟩=>nomatch z)) y4.1
       have l4:Lat w w4:=(l1.trans ⟨y2.fz,y2.sub⟩).trans (y3.lat.trans y4.1.lat)
       have k4:∀ b,Apt (bp X M scope (dQ X.env.cells scope.names []) P.objs.size) b→∀ o,Has w2 b o→Has w4 b o:=fun b a o q=>by
        obtain ⟨sl,q',z⟩:=(y3.trans y4.s).keep b o q a.w
        rcases z with z | rfl
        ·exact absurd z a.2.1
        ·exact q'
       have D2:∀ nn,w1.s.heap.get? w.s.heap.objs.size=some { cls:=.type "list",data:=.seq its nn }→Has w4 w.s.heap.objs.size { cls:=.type "list",data:=.seq its nn }:=fun nn e=>k4 _ aD _ (y2.keep _ _ dF ⟨e,dn1⟩)
       obtain ⟨nn,e1⟩:=d1
       have D4:=D2 nn e1
       have go:∀ w5 h5 acc' its',Stp X.fs NoW w0 w5→Lat w w5→Inv (bp X M scope (dQ X.env.cells scope.names []) P.objs.size) w5 (l++bW caps ρ) h5→(∀ b∈fp,∀ o,Has w2 b o→Has w5 b o)→Lat w2 w5→w5.s.heap.PlainList w.s.heap.objs.size its'→Fre w5 w.s.heap.objs.size→aB X.toSC w5.F w5.m acc' its'.toList→its'.size≤its.size+1→PKn (fun vs h3=>K (acc'++vs) h3) (dg g tt te (List.replicate vs.length none++bW caps ρ) ys h5).calm→
         ∃ m,m<n∧∃ w1 h2 acc its ys,w1.s=w5.s∧Stp X.fs NoW w0 w1∧Lat w w1∧Inv (bp X M scope (dQ X.env.cells scope.names []) P.objs.size) w1 (List.replicate vs.length none++bW caps ρ) h2∧ys.length=m∧m≤xs.length∧ys=xs.drop (xs.length - m)∧tn (xs.length - m) w1.s.heap∧(∀ b∈fp,∃ o,Has w1 b o)∧w1.s.heap.PlainList w.s.heap.objs.size its∧Fre w1 w.s.heap.objs.size∧aB X.toSC w1.F w1.m acc its.toList∧its.size+m<sizeLine∧PKn (fun vs h3=>K (acc++vs) h3) (dg g tt te (List.replicate vs.length none++bW caps ρ) ys h2).calm:=by
        intro w5 h5 acc' its' a b c d l25 e f ra' i p
        refine ⟨ys.length,by omega,w5,h5,acc',its',ys,rfl,a,b,c.weak (by simp [ll]) fun i p e=>?_,rfl,by omega,dy,?_,fun x hx=>let ⟨o,q⟩:=f2 x hx;⟨o,d x hx o q⟩,e,f,ra',by omega,p⟩
        ·rcases Nat.lt_or_ge i vs.length with z | z
         ·rw [List.getElem?_append_left (by simpa using z)] at e;simp [List.getElem?_replicate] at e
         ·rw [List.getElem?_append_right (by simpa using z),List.length_replicate] at e
          rw [List.getElem?_append_right (by omega),ll];exact e
        ·rw [show xs.length - ys.length=xs.length - n+1 by omega]
         exact T.keep (l1.trans ⟨y2.fz,y2.sub⟩) H2 l25 c.toHR t2 fun b hb o e=>let ⟨o',q⟩:=f2 b hb;(d b hb o ⟨e,q.2⟩).1
       have l24:Lat w2 w4:=y3.lat.trans y4.1.lat
       have ra4:=ra.mono (y2.fz) (.inr y2.sub) |>.mono l24.1 (.inr l24.2)
       cases b with
       | false=>
        rw [if_neg (by decide)] at p3 ⊢
        exact go w4 h3 acc its y04 l4 (I3.on y4) (fun b hb=>k4 b (aF b hb)) l24 ⟨nn,D4.1⟩ D4.2 ra4 (by omega) p3
       | true=>
        rw [if_pos rfl] at p3 ⊢
        obtain ⟨v,h5,e5,p5⟩:=pF p3
        refine (he _ _).r (I3.on y4) ?_
        rw [e5]
        refine ⟨trivial,fun w5 u5 y5 r5=>?_⟩
        have q5:∀ b,Apt (bp X M scope (dQ X.env.cells scope.names []) P.objs.size) b→∀ o,Has w4 b o→Has w5 b o:=fun b a o q=>by
         obtain ⟨sl,q',z⟩:=y5.1.keep b o q fun z=>z
         rcases z with z | rfl
         ·exact absurd z a.2.1
         ·exact q'
        have D5:=q5 _ aD _ D4
        refine wpAny_list_append_plain ⟨nn,D5.1⟩ (fun h' hl' sb'=>?_) (by omega)
        obtain ⟨a1,a2⟩:=kK (s':= { w5.s with heap:=h',toks:=w5.s.toks }) y5.2 D5 fun b o z e=>(sb'.2 b z).trans e
        refine go _ h5 (acc++ [v]) (its.push u5) ((y04.trans y5.1).priv a1 (by simp;exact n0 nD)) (l4.trans (y5.1.lat.trans ⟨a1.fz,a1.sub⟩)) (((I3.on y4).on y5).priv a1 a2 (by simp;exact aD)) (fun b hb o q=>a1.keep b o (by simp;rintro rfl;exact dF hb) (q5 b (aF b hb) o (k4 b (aF b hb) o q))) (l24.trans (y5.1.lat.trans ⟨a1.fz,a1.sub⟩)) hl' D5.2 ?_ (by simp) ?_
        ·rw [Array.toList_push];exact (ra4.mono y5.1.fz (.inr y5.1.sub)).app (.cons r5 .nil)
        ·revert p5;cases dg g tt te (List.replicate vs.length none++bW caps ρ) ys h5<;>simp [Res.bind,Res.calm,PKn]
      ·exact p1.elim
    ·simpa using T.keep (⟨fun _ _ e=>e,fun _ _ e=>e⟩) I.toHR n1.1.lat n1.2 t0 fun b hb o e=>old b o e
    ·obtain ⟨o,q⟩:=(fr b hb).1;exact ⟨o,old b o q.1,q.2⟩
   exact codeAny_compStart_list loop (T.self (I.ok.hd hc) (T.keep (⟨fun _ _ e=>e,fun _ _ e=>e⟩) I.toHR n1.1.lat n1.2 t0 fun b hb o e=>old b o e) loop)
theorem ET{elt iter tg:Expr}{ifs:List Expr}{scope:Scope}{it:Ax}{tt:Tx}{te:Ex}{M vs:List Str}{g:Gx}{pos:Pos}{r:List PV→List PO→Res PV}(caps:List Nat)(hc:X.calm=true)(S:bA X.N X.env.scope scope caps vs M)(hi:RI X tg iter it)(hg:∀ cl C,RG (bp X M scope cl C) tg g)(ht:∀ cl C,RFs (bp X M scope cl C) ifs tt)(he:∀ cl C,RE (bp X M scope cl C) elt te)
  (hr:∀ {w0 w:Wo} {h:List PO} {ps:List PV} {its:Array Value} {D:Addr} {Q:Value→Shared→Prop} {E:Value→Shared→Prop},Stp X.fs NoW w0 w→HR X.toSC w h→w0.s.heap.get? D=none→w.s.heap.PlainList D its→Fre w D→aB X.toSC w.F w.m ps its.toList→its.size≤sizeLine→bC X (RV X.toSC) w0 Q E (r ps h)→Q (.ref D) w.s)
  (gm:∀ q cp ρ1,g q (List.replicate vs.length none++cp)=some ρ1→∃ l,l.length=vs.length∧ρ1=l++cp)
  (hs:∀ y,foldedSetIterable iter X.env y=pure y:=by intro _;rfl):RE X (.ListComp elt [⟨tg,iter,ifs,0⟩] scope pos) (cN r (dk vs.length g caps it tt te)) where
 r {w0 ρ h Q E} I0 p:=by
  rw [eval_ListComp]
  refine wpAny_comprehension_free rfl hs (gP fun n hn=>I0.ok.has n (S.free _ hn rfl)) S.kind S.names ?_
  have p:bC X (RV X.toSC) w0 Q E ((it ρ h).bind fun xs h1=>(if xs.length<sizeLine then (dg g tt te (List.replicate vs.length none++bW caps ρ) xs h1).calm else .bad).bind r):=by
   have:cN r (dk vs.length g caps it tt te) ρ h=(it ρ h).bind fun xs h1=>(if xs.length<sizeLine then (dg g tt te (List.replicate vs.length none++bW caps ρ) xs h1).calm else .bad).bind r:=by
    unfold cN dk;cases it ρ h<;>rfl
   rw [← this];exact p
  refine hi.r I0 (p.bind0 fun w h1 xs v y0 rr p=>?_)
  split at p
  ·rename_i hz
   refine lH (use:=none) (K:=fun ps h=>bC X (RV X.toSC) w0 Q E (r ps h)) caps hc S hg ht he gm I0 y0 rr hz (by
    revert p
    cases dg g tt te (List.replicate vs.length none++bW caps ρ) xs h1<;>exact id) fun {w2 h2 ps its D C oC m} y2 H2 nD nC DC hl n l f ra z k=>⟨m,n,fun h' sb=>?_⟩
   obtain ⟨a1,a2⟩:=kK (s':= { w2.s with heap:=h' }) H2 hl fun b o z e=>(sb.2 b z).trans e
   obtain ⟨nn,e1⟩:=l
   have q:=a1.keep _ _ (by simp;exact DC) ⟨e1,f⟩
   exact hr (y2.priv a1 (by simp;exact nC)) a2 nD ⟨nn,q.1⟩ q.2 ra z k
  ·exact p.elim
theorem CM(q:PV)(cp ρ1:Ev)(e:gNm 0 q (List.replicate 1 none++cp)=some ρ1):∃ l:Ev,l.length=1∧ρ1=l++cp:=by cases e;exact ⟨[some q],rfl,rfl⟩
theorem vH{w0:Wo}{ps:List PV}{its:Array Value}{D:Addr}{Q:Value→Shared→Prop}{E:Value→Shared→Prop}(y:Stp X.fs NoW w0 w)(H:HR X.toSC w h)(n:w0.s.heap.get? D=none)(l:w.s.heap.PlainList D its)(f:Fre w D)(r:aB X.toSC w.F w.m ps its.toList)(z:its.size≤sizeLine)(p:bC X (RV X.toSC) w0 Q E (okL ps h)):Q (.ref D) w.s:=by
 obtain ⟨k,e⟩:=l
 have fz:=cJ (o:= { cls:=.type "list",data:=.seq its k }) f.2.1
 refine p.2 ⟨gz w.F D { cls:=.type "list",data:=.seq its k },w.O,w.m,w.s⟩ _ ⟨⟨y.os,y.ba,fun a o e=>fz a o (y.fz a o e),y.ow,y.pre,y.dom,fun b o q zz=>?_⟩,fun b x q=>?_,fun d b q=>let ⟨o,z,y⟩:=H.own d b q;⟨o,z,cP (fun e'=>by rw [e',f.2.2] at q;cases q) y⟩,H.len,H.nd,fun i po b e1 e2=>(H.obj i po b e1 e2).on fz (fun _ e=>e) (fun _ _ e=>e) (fun _ _ e _=>e) (cP fun z=>f.1 (z▸List.mem_of_getElem? e2))⟩ (.lst bD z (r.mono fz (.inr fun _ _ e=>e)))
 ·obtain ⟨sl,q',z'⟩:=y.keep b o q zz
  exact ⟨sl,⟨q'.1,q'.2.1,cP (fun z=>by have q:=q.1;rw [z,n] at q;cases q) q'.2.2.1,q'.2.2.2⟩,z'⟩
 ·by_cases z:b=D
  ·subst z;cases bD.symm.trans q;exact e
  ·exact H.sub b x ((jl z).symm.trans q)
end
end Z
namespace L2
open PySem
def DK(h h':Heap):Prop:=∀ b o,h.get? b=some o→∃ o',h'.get? b=some o'∧o'.dict=o.dict
theorem DK.refl(h:Heap):DK h h:=fun _ o e=>⟨o,e,rfl⟩
theorem DK.trans{h1 h2 h3:Heap}(x:DK h1 h2)(y:DK h2 h3):DK h1 h3:=fun b o e=>by
 obtain ⟨o1,e1,d1⟩:=x b o e
 obtain ⟨o2,e2,d2⟩:=y b o1 e1
 exact ⟨o2,e2,d2.trans d1⟩
def Kd{α:Type}(t:Sem α):Prop:=∀ (M:Model) (Γ:Ctx) (Q:α→Pos→Shared→Prop) (E:Value→Pos→Shared→Prop) (p:Pos) (s:Shared),Sem.wp M Γ t Q E p s→
 Sem.wp M Γ t (fun a p' s'=>Q a p' s'∧DK s.heap s'.heap) (fun e p' s'=>E e p' s'∧DK s.heap s'.heap) p s
section
variable {α β:Type}
theorem Kd.bind{m:Sem α}{f:α→Sem β}(hm:Kd m)(hf:∀ a,Kd (f a)):Kd (m >>= f):=fun M Γ Q E p s h=>by
 rw [Sem.wp_bind'] at h ⊢
 refine Sem.wp_mono M Γ m (fun a p1 s1 z=>?_) (fun e p1 s1 z=>z) p s (hm M Γ _ _ p s h)
 exact Sem.wp_mono M Γ (f a) (fun b p2 s2 y=>⟨y.1,z.2.trans y.2⟩) (fun e p2 s2 y=>⟨y.1,z.2.trans y.2⟩) p1 s1 (hf a M Γ Q E p1 s1 z.1)
theorem Kd.pure(a:α):Kd (Pure.pure a:Sem α):=fun M Γ Q E p s h=>by
 rw [Sem.wp_pure'] at h ⊢;exact ⟨h,DK.refl _⟩
theorem Kd.uns(x:String):Kd (unsupported x:Sem α):=fun M Γ Q E p s h=>by
 rw [show (unsupported x:Sem α)= .unsupported x from rfl,Sem.wp_unsupported] at h;exact h.elim
theorem Kd.load(a:Addr):Kd (PySem.load a):=fun M Γ Q E p s h=>by
 rw [show PySem.load a= .load a none .pure from rfl,Sem.wp_load] at h ⊢
 obtain ⟨o,h1,h2⟩:=h
 rw [Sem.wp_pure] at h2
 exact ⟨o,h1,by rw [Sem.wp_pure];exact ⟨h2,DK.refl _⟩⟩
theorem Kd.stack:Kd PySem.stack:=fun M Γ Q E p s h=>by
 rw [show PySem.stack= .stack .pure from rfl,Sem.wp_stack,Sem.wp_pure] at h ⊢
 exact ⟨h,DK.refl _⟩
theorem Kd.alloc(o:Obj):Kd (PySem.alloc o):=fun M Γ Q E p s h=>by
 rw [show PySem.alloc o= .alloc o .pure from rfl,Sem.wp_alloc,Sem.wp_pure] at h ⊢
 exact ⟨h,fun b o' e=>⟨o',Heap.get?_push_of_some _ e,rfl⟩⟩
theorem Kd.update{a:Addr}{f:Obj→Obj}(hf:∀ o,o.isFreed=false→(f o).isFreed=false∧(f o).dict=o.dict):Kd (PySem.update a f):=fun M Γ Q E p s h=>by
 rw [show PySem.update a f= .update a none f .pure from rfl,Sem.wp_update] at h ⊢
 obtain ⟨h1,h2⟩:=h
 rw [Sem.wp_pure] at h2
 refine ⟨h1,?_⟩
 rw [Sem.wp_pure]
 refine ⟨h2,fun b o e=>?_⟩
 by_cases hb:a=b
 ·subst hb
  obtain ⟨z1,z2⟩:=hf o (Heap.get?_some_iff.mp e).2
  exact ⟨f o,Heap.get?_update_self f e z1,z2⟩
 ·exact ⟨o,(Heap.get?_update_other _ _ hb).trans e,rfl⟩
theorem Kd.ite{c:Prop}[Decidable c]{t u:Sem α}(ht:Kd t)(hu:Kd u):Kd (if c then t else u):=by
 split
 ·exact ht
 ·exact hu
theorem sD(v:Value):Kd (fieldsOf v):=by
 unfold fieldsOf
 split
 ·refine (Kd.load _).bind fun o=>?_
  split
  ·exact Kd.pure _
  ·exact Kd.uns _
 ·exact Kd.uns _
theorem ko(v:Value)(i:Nat):Kd (field v i):=by
 refine (sD v).bind fun vs=>?_
 split
 ·exact Kd.pure _
 ·exact Kd.uns _
theorem mc(g:Array Value→Array Value)(o:Obj)(h:o.isFreed=false):(Obj.mapFields g o).isFreed=false∧(Obj.mapFields g o).dict=o.dict:=by
 unfold Obj.mapFields
 split
 ·exact ⟨rfl,rfl⟩
 ·exact ⟨h,rfl⟩
theorem iU(v:Value)(i:Nat)(x:Value):Kd (setField v i x):=by
 unfold setField
 split
 ·unfold updateField
  refine (Kd.load _).bind fun o=>?_
  split
  ·exact Kd.ite (Kd.update fun o h=>mc _ o h) (Kd.uns _)
  ·exact Kd.uns _
 ·exact Kd.uns _
theorem qJ(e:Value)(f:Option Addr):Kd (setFlight e f):=by
 refine (ko e 1).bind fun tb=>?_
 exact Kd.ite (iU _ _ _) (Kd.pure _)
theorem qL(ty:String)(vs:List Value):Kd (newFields ty vs):=by
 unfold newFields newObj
 have as:Kd (newObjAsIs (.type ty) (.fields vs.toArray) none):=by
  unfold newObjAsIs
  exact (Kd.alloc _).bind fun _=>Kd.pure _
 dsimp only
 split
 ·exact (Kd.uns _).bind fun _=>as
 ·exact as
theorem iV:∀ l:List Env,Kd (readyFrames l)
 | []=>Kd.pure _
 | env::outer=>by
  unfold readyFrames
  split
  ·refine (Kd.load _).bind fun o=>Kd.ite (Kd.pure _) ?_
   refine Kd.bind ?_ fun i=>Kd.bind ?_ fun b=>Kd.bind (Kd.update fun o h=>⟨?_,rfl⟩) fun _=>iV outer
   ·unfold behindIsImport
    exact Kd.ite (Kd.pure _) (Kd.ite (Kd.pure _) ((ko _ _).bind fun _=>Kd.pure _))
   ·unfold keptBack
    split
    ·refine Kd.ite (Kd.pure _) ?_
     exact Kd.bind (Kd.stack.bind fun _=>Kd.pure _) fun _=>Kd.pure _
    ·exact Kd.pure _
   ·obtain ⟨c,d,dt,s0⟩:=o
    cases dt<;>first | rfl | (simp [Obj.isFreed] at h)
  ·exact Kd.uns _
theorem tZ(env:Env):Kd (frameOf env):=by
 unfold frameOf
 refine Kd.bind (Kd.stack.bind fun _=>Kd.pure _) fun l=>Kd.bind ?_ fun o=>?_
 ·unfold frameObject
  split
  ·exact Kd.pure _
  ·exact (iV _).bind fun _=>Kd.pure _
 ·split
  ·exact Kd.pure _
  ·exact Kd.uns _
theorem mf(f:Addr)(b:Bool):Kd (entryPlaceOf f b):=by
 unfold entryPlaceOf
 refine Kd.stack.bind fun _=>?_
 split
 ·exact Kd.pure _
 ·exact Kd.pure _
theorem qK(e:Value)(env:Env):Kd (noteFrame e env):=by
 unfold noteFrame
 split
 ·have go:∀ hd:Value,∀ f:Addr,Kd (do setField e 1 (← EntryCells.newEntry hd (← frameOf env) .none (rawInt f) .none (← entryPlaceOf f (hd != .none)))):=fun hd f=>
   (tZ env).bind fun _=>(mf _ _).bind fun _=>(qL _ _).bind fun _=>iU _ _ _
  refine (ko e 1).bind fun hd=>?_
  refine Kd.ite ?_ (go _ _)
  exact (ko _ _).bind fun x=>Kd.ite (Kd.pure _) ((iU _ _ _).bind fun _=>go _ _)
 ·exact Kd.uns _
theorem nW(env:Env)(e:Value):Kd (leaving env e):=(qK e env).bind fun _=>qJ e none
end
end L2
namespace Z
open PySem PySem.Spec PyProof.Rows L3 L2
theorem Bs{α:Type}{M:Model}{A:Around}{t:Sem α}{Q:α→Shared→Prop}{E:Value→Shared→Prop}{s:Shared}{a:Addr}{dx:Option Addr}(k:Kd t)(d:∃ o,s.heap.get? a=some o∧o.dict=dx)(h:wpAny M A t (fun x s'=>(∃ o,s'.heap.get? a=some o∧o.dict=dx)→Q x s') E s):wpAny M A t Q E s:=
 fun Γ p hΓ=>Sem.wp_mono M Γ t (fun _ _ _ z=>z.1 (let ⟨o,e,d⟩:=d;let ⟨o',e',d'⟩:=z.2 a o e;⟨o',e',d'.trans d⟩)) (fun _ _ _ z=>z.1) p s (k M Γ _ _ p s (h Γ p hΓ))
section
variable {X Y:Cx} {w w2:Wo} {h h2:List PO}
theorem EA{B hp:Heap}{V:Addr→Prop}(y:Stp Y.fs V w w2)(W2:Wd Y w2 h2)(c1:∀ b o,w.s.heap.get? b=some o→b∉Y.fs→∃ o',B.get? b=some o')(c2:∀ b,¬ Fre w2 b→∃ o',B.get? b=some o')(s1:B.StaysIn w2.s.heap)(s2:B.StaysIn hp)(up:w2.s.heap.UpToSlots hp):Stp Y.fs V w { w2 with s:= { w2.s with heap:=hp } }∧HR Y.toSC { w2 with s:= { w2.s with heap:=hp } } h2:=by
 have fr:∀ b∈Y.fs,∀ o,w2.s.heap.get? b=some o→∃ sl,hp.get? b=some { o with slots:=sl }:=fun b hb o e=>by
  obtain ⟨o',q,d⟩:=W2.fr b hb
  have q:=q.1;rw [e] at q;cases q
  exact up b o e d
 refine ⟨⟨y.os,y.ba,y.fz,y.ow,y.pre,fun b o e=>?_,fun b o q n=>?_⟩,W2.toHR.on fun b o e n=>?_⟩
 ·by_cases hb:b∈Y.fs
  ·obtain ⟨o',q⟩:=y.dom b o e;obtain ⟨sl,q'⟩:=fr b hb o' q;exact ⟨_,q'⟩
  ·obtain ⟨o',q⟩:=c1 b o e hb;exact ⟨o',s2 b o' q⟩
 ·obtain ⟨sl,q',z⟩:=y.keep b o q n
  by_cases hb:b∈Y.fs
  ·obtain ⟨sl',e'⟩:=fr b hb _ q'.1;exact ⟨sl',⟨e',q'.2⟩,.inl hb⟩
  ·obtain ⟨o',e'⟩:=c1 b o q.1 hb
   have g1:=s1 b o' e'
   rw [q'.1] at g1;cases g1
   exact ⟨sl,⟨s2 b _ e',q'.2⟩,z⟩
 ·obtain ⟨o',q⟩:=c2 b n
  have:=s1 b o' q
  rw [e] at this;cases this
  exact s2 b o q
theorem DV{e:PV}{u:Value}{Q:Unit→Shared→Prop}{E:Value→Shared→Prop}(nw:New X Y w)(hG:Y.toSC=X.toSC)(hst:Y.stack=Y.env::X.stack)(hf:Y.env.frame=some Y.L)(hA:Y.A.frames=some Y.stack)(y:StS Y w w2)(W2:Wd Y w2 h2)(r:kI Y w w2 e u)
  (c:∀ s',Stp X.fs NoW w { w2 with s:=s' }→HR X.toSC { w2 with s:=s' } h2→kI X w { w2 with s:=s' } e u→Q () s'):Wp Y (leaving Y.env u) Q E w2.s:=by
 have fsY:Y.fs=Y.L::X.fs:=by simp [Cx.fs,frs,hst,hf]
 have oL:∀ {b o},w.s.heap.get? b=some o→b≠Y.L:=fun e z=>by rw [z,nw.1 _ (.inl rfl)] at e;cases e
 obtain ⟨a,cls,dx,rfl,⟨⟨a0,B,fl,c1,c2⟩,d⟩,m⟩:=r
 have go:∀ hp,B.StaysIn w2.s.heap→Heap.FlyingW B X.stack a cls a0 hp→w2.s.heap.UpToSlots hp→(∃ o,hp.get? a=some o∧o.dict=dx)→Q () { w2.s with heap:=hp }:=fun hp s1 fl2 up dx2=>by
  obtain ⟨g1,g2⟩:=EA y W2 c1 c2 s1 fl2.1 up
  exact c _ (Stp.out nw g1) (hG▸g2) ⟨a,cls,dx,rfl,⟨⟨a0,B,.inl fl2,fun b o e n=>c1 b o e fun z=>by rw [fsY] at z;exact (List.mem_cons.mp z).elim (oL e) n,fun b z=>c2 b z⟩,dx2⟩,by revert m;rw [hG];exact id⟩
 rw [hst] at fl
 rcases fl with fl | ⟨_,fl⟩
 ·exact Bs (nW _ _) d (wpAny_leaves_onW (hst▸hA) hf fl fun hp fl2 up dx2=>go hp fl.1 fl2 up dx2)
 ·obtain ⟨s1,eB,ff,o,vs,ho,rfl,hd,h0,h1⟩:=fl
  exact Bs (nW _ _) d (wpAny_leaving_firstW (hst▸hA) ff hf ho s1 eB hd h1 h0 fun hp L dx2=>go hp s1 ⟨L.1,eB,L.2.1.2.2,L.2.2.1⟩ L.2.2.2 dx2)
end
end Z
namespace L3
def PO.pure:PO→Bool
 | .lst xs=>am xs
 | .dct kvs=>cW kvs
 | .froz _=>true
 | .obj _ _=>false
def bq:List PO→Bool
 | []=>true
 | o::r=>o.pure&&bq r
def lG(n:Nat)(v:PV)(h:List PO):Res PV:=if (bq (h.take n)&&Nat.ble n h.length)=true then .ok v (h.take n) else .bad
def iu(n:Nat)(v:PV)(h:List PO):Res PV:=match ir h v with
 | some (q,h2)=>lG n q h2
 | none=>.bad
def gJ(f:Sx)(np n:Nat)(ps:List PV)(h:List PO):Res PV:=if ps.length=np then match f (ps.map some++List.replicate (n - ps.length) none) h with
  | .nx _ h1=>lG h.length .non h1
  | .rt v h1=>iu h.length v h1
  | _=>.bad
 else .bad
def ER(n:Nat)(e:PV)(h:List PO):Res PV:=if (bq (h.take n)&&Nat.ble n h.length&&e.pure)=true then .exc e (h.take n) else .bad
def xC(f:Sx)(np n:Nat)(ps:List PV)(h:List PO):Res PV:=if ps.length=np then match f (ps.map some++List.replicate (n - ps.length) none) h with
  | .nx _ h1=>lG h.length .non h1
  | .rt v h1=>iu h.length v h1
  | .exc e h1=>ER h.length e h1
  | _=>.bad
 else .bad
def lvs:List PV→List Nat
 | []=> []
 | .ref i::r=>i::lvs r
 | _::r=>lvs r
def rnm:Nat→List PV→List PV
 | _,[]=> []
 | n,.ref _::r=>.ref n::rnm (n+1) r
 | n,p::r=>p::rnm n r
def nU:List PV→Bool
 | []=>true
 | .ref _::r=>nU r
 | p::r=>p.pure&&nU r
def jK(h:List PO):List Nat→Option (List PO)
 | []=>some []
 | i::r=>match h[i]? with
  | some o=>match jK h r with
   | some l=>some (o::l)
   | none=>none
  | none=>none
def eX:List PO→List Nat→List PO→List PO
 | h,i::r,o::l=>eX (h.set i o) r l
 | h,_,_=>h
def lh:List Nat→Bool
 | []=>true
 | i::r=>!r.contains i&&lh r
def callL(fn:List PV→List PO→Res PV)(ps:List PV)(h:List PO):Res PV:=match jK h (lvs ps) with
 | some hs=>if (nU ps&&bq hs&&lh (lvs ps))=true then match fn (rnm 0 ps) hs with
   | .ok v hs'=>if v.pure=true∧bq hs'=true∧hs'.length=hs.length then .ok v (eX h (lvs ps) hs') else .bad
   | .exc v hs'=>if v.pure=true∧bq hs'=true∧hs'.length=hs.length then .exc v (eX h (lvs ps) hs') else .bad
   | .bad=>.bad
  else .bad
 | none=>.bad
def aM(fn:List PV→List PO→Res PV)(as:Ax):Ex:=fun ρ h=>(as ρ h).bind (callL fn)
def ltv(n:Nat):PV→Bool
 | .ref i=>decide (i<n)
 | p=>p.pure
def ltP(n:Nat):PO→Bool
 | .lst xs=>xs.all (ltv n)
 | .dct kvs=>kvs.all fun x=>ltv n x.2
 | .froz _=>true
 | .obj _ ps=>ps.all (ltv n)
def qY(n:Nat)(v:PV)(h:List PO):Res PV:=if ((h.take n).all (ltP n)&&Nat.ble n h.length)=true then .ok v (h.take n) else .bad
def uf(n:Nat)(v:PV)(h:List PO):Res PV:=if ltv n v=true then qY n v h else match ir h v with
 | some (q,h2)=>qY n q h2
 | none=>.bad
def CT(n:Nat)(e:PV)(h:List PO):Res PV:=if ((h.take n).all (ltP n)&&Nat.ble n h.length&&e.pure)=true then .exc e (h.take n) else .bad
def mZ(f:Sx)(np n:Nat)(ps:List PV)(h:List PO):Res PV:=if ps.length=np then match f (ps.map some++List.replicate (n - ps.length) none) h with
  | .nx _ h1=>qY h.length .non h1
  | .rt v h1=>uf h.length v h1
  | .exc e h1=>CT h.length e h1
  | _=>.bad
 else .bad
def xB(f:Sx)(np n:Nat)(ps:List PV)(h:List PO):Res PV:=if ps.length=np then match f (ps.map some++List.replicate (n - ps.length) none) h with
  | .nx _ h1=>.ok .non h1
  | _=>.bad
 else .bad
def CV(fn:List PV→List PO→Res PV)(as:Ax):Ex:=fun ρ h=>(as ρ h).bind fn
end L3
namespace Z
open PySem PySem.Spec PyProof.Rows L3 L2
def BE(X:Cx)(w:Wo)(Q:Value→Shared→Prop)(E:Value→Shared→Prop):Res PV→Prop
 | .ok a h=>∀ w' x,Nw X w w' h→aZ X.toSC w'.F w'.m a x→Q x w'.s
 | .exc e h=>∀ w' u,Nw X w w' h→kI X w w' e u→E u w'.s
 | .bad=>False
theorem bC.c{X:Cx}{w:Wo}{Q:Value→Shared→Prop}{E:Value→Shared→Prop}{r:Res PV}(p:bC X (RV X.toSC) w Q E r):BE X w Q E r:=match r with
 | .ok _ _=>p.2
 | .exc _ _=>p.2
 | .bad=>p
structure FnL(G:SC)(c:Bool)(k:Nat)(f:Addr)(fd:FuncData)(ps:List Str)(fn:List PV→List PO→Res PV):Prop where
 len:∀ qs h,fn qs h≠.bad→qs.length=ps.length
 run:∀ {X:Cx} {w:Wo} {h:List PO} {A:Around} {qs:List PV} {us:List Value} {args:Args} {Q:Value→Shared→Prop} {E:Value→Shared→Prop},X.toSC=G→dZ k A→(c=true→A.handled=none)→A.frames=some X.stack→Wd X w h→X.Ok→aB G w.F w.m qs us→BindsTo w.s fd args (ps.zip us)→
  BE X w Q E (fn qs h)→codeAny (model G.prog G.w) A (.call (.ref f) args) (RC Q E) w.s
def lV(n:Nat)(h:List PO):Prop:=(h.take n).all (ltP n)=true∧n≤h.length
inductive Fin(n:Nat):SR→Res PV→Prop where
 | nx {ρ:Ev} {h:List PO}:lV n h→Fin n (.nx ρ h) (.ok .non (h.take n))
 | al {ρ:Ev} {h:List PO}:Fin n (.nx ρ h) (.ok .non h)
 | rt {v:PV} {h:List PO}:ltv n v=true→lV n h→Fin n (.rt v h) (.ok v (h.take n))
 | rf {v q:PV} {h h2:List PO}:ir h v=some (q,h2)→lV n h2→Fin n (.rt v h) (.ok q (h2.take n))
 | ex {e:PV} {h:List PO}:e.pure=true→lV n h→Fin n (.exc e h) (.exc e (h.take n))
section
variable {G:SC} {X Y:Cx} {w w1 w2:Wo} {h h1 h2:List PO} {n:Nat}
theorem aZ.lt{F:Fz}{m:List Addr}{p:PV}{u:Value}(r:aZ G F m p u)(z:ltv n p=true):aZ G F (m.take n) p u:=by
 unfold ltv at z
 split at z
 ·cases r with | ref e=>exact .ref (by rw [List.getElem?_take_of_lt (of_decide_eq_true z)];exact e)
 ·exact r.mono (fun _ _ e=>e) (.inl z)
theorem aB.lt{F:Fz}{m:List Addr}:∀ {p:List PV} {u:List Value},aB G F m p u→p.all (ltv n)=true→aB G F (m.take n) p u
 | _,_,.nil,_=>.nil
 | _,_,.cons r t,z=>by simp only [List.all_cons,Bool.and_eq_true] at z;exact .cons (r.lt z.1) (aB.lt t z.2)
theorem HR.cut(H:HR G w h)(c:lV n h):HR G ⟨w.F,w.O,w.m.take n,w.s⟩ (h.take n):=by
 refine ⟨H.sub,fun d a e=>let ⟨o,z,y⟩:=H.own d a e;⟨o,fun x=>z (List.mem_of_mem_take x),y⟩,by simp [H.len],H.nd.sublist (List.take_sublist _ _),fun i o a e1 e2=>?_⟩
 have hi:i<n:=by
  rcases Nat.lt_or_ge i n with z | z
  ·exact z
  ·rw [List.getElem?_eq_none (by simp;omega)] at e1;cases e1
 have z:=List.all_eq_true.mp c.1 o (List.mem_of_getElem? e1)
 rw [List.getElem?_take_of_lt hi] at e1
 have q:=H.obj i o a e1 (by rw [← List.getElem?_take_of_lt hi];exact e2)
 cases o with
 | lst ps=>obtain ⟨f,its,n,e,l,r⟩:=q;exact ⟨f,its,n,e,l,r.lt z⟩
 | dct kps=>obtain ⟨f,o,kvs,e,d,y,l,c,r⟩:=q;exact ⟨f,o,kvs,e,d,y,l,c,r.lt (by simpa [ltP,List.all_map] using z)⟩
 | froz p=>obtain ⟨r,z,q⟩:=q;exact ⟨r.mono (fun _ _ e=>e) (.inl z),z,q⟩
 | obj C ps=>obtain ⟨f,Ca,dx,od,vs,c,e,d,e2,nn,l,r⟩:=q;exact ⟨f,Ca,dx,od,vs,c,e,d,e2,nn,l,r.lt z⟩
theorem Nw.cut(hl:h.length=w.m.length)(y:Stp X.fs NoW w w2)(H:HR X.toSC w2 h2)(c:lV h.length h2):Nw X w ⟨w2.F,w2.O,w2.m.take h.length,w2.s⟩ (h2.take h.length):=by
 refine ⟨⟨y.os,y.ba,y.fz,y.ow,?_,y.dom,fun b o q z=>let ⟨sl,q,z⟩:=y.keep b o q z;⟨sl,⟨q.1,fun z=>q.2.1 (List.mem_of_mem_take z),q.2.2⟩,z⟩⟩,H.cut c⟩
 obtain ⟨t,e⟩:=y.pre
 exact ⟨[],by simp [e,hl]⟩
theorem kI.cut{e:PV}{u:Value}(r:kI X w w2 e u)(pu:e.pure=true):kI X w ⟨w2.F,w2.O,w2.m.take n,w2.s⟩ e u:=r.to pu rfl rfl rfl fun b z=>.inl fun y=>z ⟨fun z=>y.1 (List.mem_of_mem_take z),y.2⟩
variable {N ps:List Str} {qual name:Str} {st:Stmt} {f:Addr} {fd:FuncData} {k:Nat} {g:Sx} {fn:List PV→List PO→Res PV}
theorem qQ{c:Bool}(F:Fun G.K name qual st f fd)(S:kJ N ps (aQ st))(hb:∀ (X:Cx) (cd:Value) (A:Around) (s:Shared),X.toSC=G→dZ k (A.deeper (envOfC qual (aQ st) s.heap.objs.size f cd))→RSs (iC c X N qual (aQ st) f cd A s) (gG st) g)
  (hfn:∀ qs h,fn qs h≠.bad→qs.length=ps.length∧Fin h.length (g (st0 N.length qs) h) (fn qs h)):FnL G c (k+1) f fd ps fn where
 len qs h z:=(hfn qs h z).1
 run {X w h A qs us args Q E} hG hr hd hf I ok r hbd p:=by
  subst hG
  obtain ⟨hl,fin⟩:=hfn qs h fun z=>by rw [z] at p;exact p
  refine pG (c:=c) F S hr hd hf I ok hl r hbd fun cd s1 hr1 nw y J _=>(hb X cd A w.s rfl hr1).r J ?_
  have yo:∀ {w2},StS (iC c X N qual (aQ st) f cd A w.s) { w with s:=s1 } w2→StS (iC c X N qual (aQ st) f cd A w.s) w w2:=fun y2=>Stp.trans (y.weak (fun _ z=>z.elim) fun b z=>List.mem_cons_of_mem _ z) y2
  revert fin p
  generalize g (st0 N.length qs) h=sr
  generalize fn qs h=res
  intro p fin
  cases fin with
  | nx ck=>exact ⟨.leaving,fun w2 y2 I2=>p ⟨w2.F,w2.O,w2.m.take h.length,w2.s⟩ _ (Nw.cut I.len ((yo y2).out nw) I2.toHR ck) .non⟩
  | al=>exact ⟨.leaving,fun w2 y2 I2=>p _ _ ⟨(yo y2).out nw,I2.toHR⟩ .non⟩
  | rt l ck=>exact ⟨.leaving,fun w2 u ρ y2 I2 r2=>p ⟨w2.F,w2.O,w2.m.take h.length,w2.s⟩ _ (Nw.cut I.len ((yo y2).out nw) I2.toHR ck) (r2.lt l)⟩
  | rf e ck=>exact ⟨.leaving,fun w2 u ρ y2 I2 r2=>by
    obtain ⟨F',n,r3,pu⟩:=I2.toHR.frz (X:=iC c X N qual (aQ st) f cd A w.s) r2 e
    exact p ⟨F',w2.O,w2.m.take h.length,w2.s⟩ _ (Nw.cut (w2:=⟨F',w2.O,w2.m,w2.s⟩) I.len ((yo (y2.trans n.s)).out nw) n.2 ck) (r3.mono (fun _ _ e=>e) (.inl pu))⟩
  | ex pu ck=>exact ⟨.leaving,fun w2 u ρ y2 I2 r2=>DV nw rfl rfl rfl (Around.frames_deeper hf) (yo y2) I2.toWd (r2.back y) fun s' y3 H3 r3=>p ⟨w2.F,w2.O,w2.m.take h.length,s'⟩ _ (Nw.cut (w2:= { w2 with s:=s' }) I.len y3 H3 ck) (r3.cut pu)⟩
theorem Ah{p:PV}(h:p.pure=true):ltv n p=true:=by cases p<;>first | exact h | cases h
theorem nA:∀ {l:List PV},am l=true→l.all (ltv n)=true
 | [],_=>rfl
 | p::r,h=>by simp only [am,Bool.and_eq_true] at h;simp [Ah h.1,nA h.2]
theorem gY:∀ {l:List PO},bq l=true→l.all (ltP n)=true
 | [],_=>rfl
 | o::r,h=>by
  simp only [bq,Bool.and_eq_true] at h
  simp only [List.all_cons,gY h.2,Bool.and_true]
  cases o with
  | lst xs=>exact nA h.1
  | dct kvs=>have:=nA (n:=n) (l:=kvs.map (·.2)) (by rw [← eY];exact h.1);simpa [ltP,List.all_map] using this
  | froz _=>rfl
  | obj _ ps=>cases h.1
theorem BB{v:PV}{h:List PO}(z:lG n v h≠.bad):lV n h∧lG n v h= .ok v (h.take n):=by
 unfold lG at z ⊢
 split at z
 ·rename_i c;rw [if_pos c];simp only [Bool.and_eq_true] at c;exact ⟨⟨gY c.1,Nat.le_of_ble_eq_true c.2⟩,rfl⟩
 ·exact absurd rfl z
theorem zw{v:PV}{h:List PO}(z:qY n v h≠.bad):lV n h∧qY n v h= .ok v (h.take n):=by
 unfold qY at z ⊢
 split at z
 ·rename_i c;rw [if_pos c];simp only [Bool.and_eq_true] at c;exact ⟨⟨c.1,Nat.le_of_ble_eq_true c.2⟩,rfl⟩
 ·exact absurd rfl z
theorem EF{np N:Nat}(qs:List PV)(h:List PO)(z:xC g np N qs h≠.bad):qs.length=np∧Fin h.length (g (st0 N qs) h) (xC g np N qs h):=by
 unfold xC at z ⊢
 split at z
 ·rename_i l
  rw [if_pos l]
  refine ⟨l,?_⟩
  unfold st0
  split at z<;>rename_i e<;>(try rw [e])
  ·obtain ⟨c,e⟩:=BB z;rw [e];exact .nx c
  ·unfold iu at z ⊢
   split at z
   ·rename_i e1;obtain ⟨c,e⟩:=BB z;rw [e];exact .rf e1 c
   ·exact absurd rfl z
  ·unfold ER at z ⊢
   split at z
   ·rename_i c;rw [if_pos c];simp only [Bool.and_eq_true] at c;exact .ex c.2 ⟨gY c.1.1,Nat.le_of_ble_eq_true c.1.2⟩
   ·exact absurd rfl z
  ·exact absurd rfl z
 ·exact absurd rfl z
theorem EE{np N:Nat}(qs:List PV)(h:List PO)(z:mZ g np N qs h≠.bad):qs.length=np∧Fin h.length (g (st0 N qs) h) (mZ g np N qs h):=by
 unfold mZ at z ⊢
 split at z
 ·rename_i l
  rw [if_pos l]
  refine ⟨l,?_⟩
  unfold st0
  split at z<;>rename_i e<;>(try rw [e])
  ·obtain ⟨c,e⟩:=zw z;rw [e];exact .nx c
  ·unfold uf at z ⊢
   split at z
   ·rename_i l;rw [if_pos l];obtain ⟨c,e⟩:=zw z;rw [e];exact .rt l c
   ·rename_i l
    rw [if_neg l]
    split at z
    ·rename_i e1;obtain ⟨c,e⟩:=zw z;rw [e];exact .rf e1 c
    ·exact absurd rfl z
  ·unfold CT at z ⊢
   split at z
   ·rename_i c;rw [if_pos c];simp only [Bool.and_eq_true] at c;exact .ex c.2 ⟨c.1.1,Nat.le_of_ble_eq_true c.1.2⟩
   ·exact absurd rfl z
  ·exact absurd rfl z
 ·exact absurd rfl z
theorem ED{np N:Nat}(qs:List PV)(h:List PO)(z:xB g np N qs h≠.bad):qs.length=np∧Fin h.length (g (st0 N qs) h) (xB g np N qs h):=by
 unfold xB at z ⊢
 split at z
 ·rename_i l
  rw [if_pos l]
  refine ⟨l,?_⟩
  unfold st0
  split at z<;>rename_i e<;>(try rw [e])
  ·exact .al
  ·exact absurd rfl z
 ·exact absurd rfl z
theorem EC{np N:Nat}(qs:List PV)(h:List PO)(z:gJ g np N qs h≠.bad):qs.length=np∧Fin h.length (g (st0 N qs) h) (gJ g np N qs h):=by
 have e:gJ g np N qs h=xC g np N qs h:=by
  unfold gJ xC at *
  split
  ·rw [if_pos ‹_›] at z;split<;>rename_i e<;>simp_all
  ·rfl
 rw [e] at z ⊢;exact EF qs h z
end
end Z
namespace Z
open PySem PySem.Spec PyProof.Rows L3 L2
section
variable {G:SC} {X:Cx} {w w1:Wo} {h hs:List PO} {is:List Nat}
theorem jJ:∀ {is:List Nat} {hs:List PO},jK h is=some hs→is.length=hs.length∧∀ (j i:Nat),is[j]? =some i→h[i]? =hs[j]?
 | [],_,e=>by cases e;exact ⟨rfl,fun _ _ e=>nomatch e⟩
 | i::r,_,e=>by
  unfold jK at e
  split at e
  ·rename_i e1
   split at e<;>cases e
   rename_i e2
   obtain ⟨l,k⟩:=jJ e2
   exact ⟨by simp [l],fun j i' q=>by cases j with | zero=>cases q;exact e1 | succ j=>exact k j i' q⟩
  ·cases e
theorem nO:∀ {is:List Nat},lh is=true→is.Nodup
 | [],_=>.nil
 | i::r,h=>by simp only [lh,Bool.and_eq_true,Bool.not_eq_true',List.contains_eq_mem,decide_eq_false_iff_not] at h;exact .cons (fun x hx z=>h.1 (z▸hx)) (nO h.2)
theorem nv:∀ (is:List Nat) (h hs:List PO),(L3.eX h is hs).length=h.length
 | [],h,_=>by simp [L3.eX]
 | _::_,h,[]=>by simp [L3.eX]
 | i::r,h,o::l=>by simp [L3.eX,nv r]
theorem ny:∀ {is:List Nat} {h hs:List PO} {i:Nat},is.Nodup→is.length=hs.length→(∀ j∈is,j<h.length)→(∀ j:Nat,is[j]? =some i→(L3.eX h is hs)[i]? =hs[j]?)∧(i∉is→(L3.eX h is hs)[i]? =h[i]?)
 | [],h,[],i,_,_,_=>⟨fun _ e=>(nomatch e),fun _=>rfl⟩
 | j0::r,h,o::l,i,nd,e,lt=>by
  rw [List.nodup_cons] at nd
  obtain ⟨a,b⟩:=ny (h:=h.set j0 o) (hs:=l) (i:=i) nd.2 (by simpa using e) (fun j hj=>by simpa using lt j (List.mem_cons_of_mem _ hj))
  refine ⟨fun j q=>?_,fun n=>?_⟩
  ·cases j with
   | zero=>cases q;simp only [L3.eX];rw [b nd.1];simp [lt _ List.mem_cons_self]
   | succ j=>simp only [L3.eX];rw [a j q];rfl
  ·simp only [L3.eX];rw [b fun z=>n (List.mem_cons_of_mem _ z),List.getElem?_set_ne fun z=>n (by simp [z])]
def sel(m:List Addr)(is:List Nat):List Addr:=is.map fun i=>m.getD i 0
theorem mz{m:List Addr}{j i:Nat}{a:Addr}(e:is[j]? =some i)(q:m[i]? =some a):(sel m is)[j]? =some a:=by simp [sel,e,List.getD_eq_getElem?_getD,q]
theorem kY:∀ {hs:List PO} {j:Nat} {o:PO},bq hs=true→hs[j]? =some o→o.pure=true
 | o::r,j,o',h,e=>by
  simp only [bq,Bool.and_eq_true] at h
  cases j with
  | zero=>cases e;exact h.1
  | succ j=>exact kY h.2 e
theorem oB.pure{F:Fz}{m m':List Addr}{O O':Addr→Option Addr}{g:Heap}{a:Addr}{o:PO}(q:oB G F m O g a o)(p:o.pure=true):oB G F m' O' g a o:=by
 cases o with
 | lst ps=>obtain ⟨f,its,n,e,l,r⟩:=q;exact ⟨f,its,n,e,l,r.mono (fun _ _ e=>e) (.inl p)⟩
 | dct kps=>obtain ⟨f,o,kvs,e,d,y,l,c,r⟩:=q;exact ⟨f,o,kvs,e,d,y,l,c,r.mono (fun _ _ e=>e) (.inl (by rw [← eY];exact p))⟩
 | froz p=>obtain ⟨r,z,q⟩:=q;exact ⟨r.mono (fun _ _ e=>e) (.inl z),z,q⟩
 | obj C ps=>cases p
theorem qd(H:HR G w h)(lt:∀ i∈is,i<h.length){a:Addr}(z:a∈sel w.m is):∃ i∈is,w.m[i]? =some a:=by
 obtain ⟨i,hi,rfl⟩:=List.mem_map.mp z
 have l:=lt i hi
 rw [H.len] at l
 exact ⟨i,hi,by simp [List.getD_eq_getElem?_getD,List.getElem?_eq_getElem l]⟩
theorem xy:∀ {is:List Nat},is.Nodup→(∀ i∈is,i<w.m.length)→w.m.Nodup→(sel w.m is).Nodup
 | [],_,_,_=>.nil
 | i::r,nd,lt,n=>by
  rw [List.nodup_cons] at nd
  refine List.nodup_cons.mpr ⟨fun z=>?_,xy nd.2 (fun j hj=>lt j (List.mem_cons_of_mem _ hj)) n⟩
  obtain ⟨j,hj,e⟩:=List.mem_map.mp z
  have l1:=lt i (by simp)
  have l2:=lt j (List.mem_cons_of_mem _ hj)
  simp only [List.getD_eq_getElem?_getD,List.getElem?_eq_getElem l1,List.getElem?_eq_getElem l2,Option.getD_some] at e
  exact nd.1 ((List.getElem_inj n).mp e▸hj)
theorem Wd.sel(I:Wd X w h)(e:jK h is=some hs)(nd:is.Nodup)(pu:bq hs=true)(lt:∀ i∈is,i<h.length):Wd X ⟨w.F,fun _=>none,sel w.m is,w.s⟩ hs:=by
 obtain ⟨l,k⟩:=jJ e
 have g:∀ i∈is,∃ a,w.m[i]? =some a:=fun i hi=>⟨_,List.getElem?_eq_getElem (I.len▸lt i hi)⟩
 refine ⟨⟨I.sub,fun _ _ e=>(nomatch e),by simp [Z.sel,l],xy nd (fun i hi=>I.len▸lt i hi) I.nd,fun j o a e1 e2=>?_⟩,I.ba,I.bs,fun b hb=>let ⟨o,q,d⟩:=I.fr b hb;⟨o,⟨q.1,fun z=>let ⟨i,_,q'⟩:=qd I.toHR lt z;q.2.1 (List.mem_of_getElem? q'),q.2.2.1,rfl⟩,d⟩⟩
 have hj:j<is.length:=by rw [l];exact (List.getElem?_eq_some_iff.mp e1).1
 obtain ⟨i,hi⟩:∃ i,is[j]? =some i:=⟨_,List.getElem?_eq_getElem hj⟩
 obtain ⟨a',ha⟩:=g i (List.mem_of_getElem? hi)
 cases (mz hi ha).symm.trans e2
 exact (I.obj i o a (by rw [k j i hi];exact e1) ha).pure (kY pu e1)
theorem qn{F:Fz}{m:List Addr}:∀ {ps:List PV} {us:List Value} {n:Nat} {m':List Addr},aB G F m ps us→nU ps=true→(∀ (j i:Nat) a,(lvs ps)[j]? =some i→m[i]? =some a→m'[n+j]? =some a)→aB G F m' (rnm n ps) us
 | [],_,_,_,.nil,_,_=>.nil
 | p::ps,_,n,m',.cons r t,ok,k=>by
  have z:p.pure=true∧nU ps=true∧lvs (p::ps)=lvs ps∧rnm n (p::ps)=p::rnm n ps∨∃ i,p= .ref i:=by
   cases p<;>first | exact .inr ⟨_,rfl⟩ | exact .inl ⟨(Bool.and_eq_true _ _▸ok).1,(Bool.and_eq_true _ _▸ok).2,rfl,rfl⟩
  rcases z with ⟨z,o,e,e'⟩ | ⟨i,rfl⟩
  ·rw [e'];rw [e] at k;exact .cons (r.mono (fun _ _ e=>e) (.inl z)) (qn t o k)
  ·cases r with
   | ref e=>exact .cons (.ref (k 0 i _ rfl e)) (qn t ok fun j i a e1 e2=>by have:=k (j+1) i a e1 e2;rwa [show n+1+j=n+(j+1) by omega])
theorem FnL.calH{c:Bool}{f:Addr}{fd:FuncData}{k:Nat}{ps:List Str}{fn:List PV→List PO→Res PV}{ρ:Ev}{qs:List PV}{us:List Value}{Q:Value→Shared→Prop}{E:Value→Shared→Prop}(F:FnL X.toSC c k f fd ps fn)(hr:dZ k X.A)(hc:c=true→X.calm=true)(hb:jf X.K fd ps [])(I:Inv X w ρ h)(r:aB X.toSC w.F w.m qs us)(p:bC X (RV X.toSC) w Q E (fn qs h)):Wp X (call (.ref f) us) Q E w.s:=by
 refine wpAny_call (F.run rfl hr (fun z=>I.ok.hd (hc z)) I.ok.frames I.toWd I.ok r (by simpa using hb w.s us I.kIn (by rw [List.append_nil,← r.length];exact F.len _ _ fun z=>by rw [z] at p;exact p)) p.c)
theorem FnL.callL{c:Bool}{f:Addr}{fd:FuncData}{k:Nat}{ps:List Str}{fn:List PV→List PO→Res PV}{ρ:Ev}{qs:List PV}{us:List Value}{Q:Value→Shared→Prop}{E:Value→Shared→Prop}(F:FnL X.toSC c k f fd ps fn)(hr:dZ k X.A)(hc:c=true→X.calm=true)(hb:jf X.K fd ps [])(I:Inv X w ρ h)(r:aB X.toSC w.F w.m qs us)(p:bC X (RV X.toSC) w Q E (callL fn qs h)):Wp X (call (.ref f) us) Q E w.s:=by
 unfold L3.callL at p
 split at p
 ·rename_i hs e
  split at p
  ·rename_i c
   simp only [Bool.and_eq_true] at c
   obtain ⟨⟨c1,c2⟩,c3⟩:=c
   obtain ⟨gl,gk⟩:=jJ e
   have nd:=nO c3
   have lt:∀ i∈lvs qs,i<h.length:=fun i hi=>by
    obtain ⟨j,hj,rfl⟩:=List.mem_iff_getElem.mp hi
    have:=gk j _ (List.getElem?_eq_getElem hj)
    rw [List.getElem?_eq_getElem (show j<hs.length from gl▸hj)] at this
    exact (List.getElem?_eq_some_iff.mp this).1
   have r':aB X.toSC w.F (sel w.m (lvs qs)) (rnm 0 qs) us:=qn r c1 fun j i a e1 e2=>by rw [Nat.zero_add];exact mz e1 e2
   have I':=I.toWd.sel e nd c2 lt
   have hm:∀ a∈sel w.m (lvs qs),a∈w.m:=fun a z=>let ⟨i,_,q⟩:=qd I.toHR lt z;List.mem_of_getElem? q
   have bk:∀ {w1:Wo} {hs':List PO},Nw X ⟨w.F,fun _=>none,sel w.m (lvs qs),w.s⟩ w1 hs'→bq hs'=true→hs'.length=hs.length→Nw X w ⟨w1.F,w.O,w.m,w1.s⟩ (L3.eX h (lvs qs) hs'):=fun {w1 hs'} y pu l=>by
    have pg:=fun i=>ny (i:=i) (h:=h) (hs:=hs') nd (gl.trans l.symm) lt
    refine Nw.back I.toWd y.1 y.2 (nv _ _ _) hm (fun i po a e1 e2 z=>?_) fun i po a e1 e2 z=>?_
    ·obtain ⟨i',hi',e3⟩:=qd I.toHR lt z
     have:i=i':=by
      obtain ⟨l1,q1⟩:=List.getElem?_eq_some_iff.mp e2
      obtain ⟨l2,q2⟩:=List.getElem?_eq_some_iff.mp e3
      exact (List.getElem_inj I.nd).mp (q1.trans q2.symm)
     subst this
     obtain ⟨j,hj,rfl⟩:=List.mem_iff_getElem.mp hi'
     have ej:=List.getElem?_eq_getElem hj
     rw [(pg _).1 j ej] at e1
     exact (y.2.obj j po a e1 (y.1.sub j a (mz ej e2))).pure (kY pu e1)
    ·rw [(pg i).2 fun hi=>z (List.mem_of_getElem? (mz (List.getElem?_eq_getElem (List.mem_iff_getElem.mp hi).choose_spec.choose) (by rw [(List.mem_iff_getElem.mp hi).choose_spec.choose_spec];exact e2)))] at e1;exact e1
   refine wpAny_call (F.run (w:=⟨w.F,fun _=>none,sel w.m (lvs qs),w.s⟩) rfl hr (fun z=>I.ok.hd (hc z)) I.ok.frames I' I.ok r' (by simpa using hb w.s us I.kIn (by rw [List.append_nil,← r'.length];exact F.len _ _ fun z=>by rw [z] at p;exact p)) ?_)
   split at p
   ·rename_i e1
    rw [e1]
    split at p
    ·rename_i c;exact fun w1 x y r1=>p.2 ⟨w1.F,w.O,w.m,w1.s⟩ _ (bk y c.2.1 c.2.2) (r1.mono (fun _ _ e=>e) (.inl c.1))
    ·exact p.elim
   ·rename_i e1
    rw [e1]
    split at p
    ·rename_i c
     refine fun w1 x y r1=>p.2 ⟨w1.F,w.O,w.m,w1.s⟩ _ (bk y c.2.1 c.2.2) (r1.to c.1 rfl rfl rfl fun b z=>?_)
     have nf:¬ Fre w b→b∉X.fs:=fun n z=>let ⟨_,q,_⟩:=I.fr _ z;n q.2
     by_cases z1:b∈w.m
     ·exact .inr ⟨I.toHR.there z1,nf fun y=>y.1 z1⟩
     ·by_cases z2:w.O b=none
      ·exact .inl fun y=>z ⟨z1,y.2.1,z2⟩
      ·obtain ⟨o,q⟩:=Option.ne_none_iff_exists'.mp z2;exact .inr ⟨(I.own b o q).1,nf fun y=>z2 y.2.2⟩
    ·exact p.elim
   ·exact p.elim
  ·exact p.elim
 ·exact p.elim
structure ZL(X:Cx)(x:Str)(fn:List PV→List PO→Res PV):Prop where
 ex:∃ c k f fd ps,FnL X.toSC c k f fd ps fn∧dZ k X.A∧(c=true→X.calm=true)∧X.mg x=some (.ref f)∧PySem.W.keepIn X.K (.ref f)=true∧jf X.K fd ps []
variable {x:Str} {e:Expr} {es:List Expr} {p0 pos:Pos} {fs:Ax} {fn:List PV→List PO→Res PV}
theorem xO(c:ZL X x fn)(hg:Gl X x)(ha:RA X (e::es) fs)(hdb:(x==("__debug__":Str))=false:=by decide)(he:starEach (e::es) X.env=(false,eval e X.env)::starEach es X.env:=by rfl)(hpl:(backTo pos (starEach es X.env)).any (·.1)=false:=by rfl):RE X (.Call (.Name x p0) (e::es) [] pos) (aM fn fs):=⟨fun I p=>by
 obtain ⟨c,k,f,fd,ps,F,hr,hc,hm,hk,hb⟩:=c.ex
 exact wpAny_Call_Name_kw (I.glb hg hm (PySem.W.callWith_K (h₀:=X.base) I.ok.kin hk (ha.r pos I (p.bind fun _ _ _ _ y r p=>⟨(I.on y).kIn,F.callL hr hc hb (I.on y) r p⟩)) he hpl) hdb)⟩
end
end Z
namespace L3
def oH(C:Nat)(h:List PO):PV→Option (Nat×List PV)
 | .ref i=>match h[i]? with
  | some (.obj D ps)=>if D=C then some (i,ps) else none
  | _=>none
 | _=>none
def nL(C j:Nat)(p:PV)(h:List PO):Res PV:=match oH C h p with
 | some (_,ps)=>match ps[j]? with
  | some q=>.ok (aq h q) h
  | none=>.bad
 | none=>.bad
def wc(C j:Nat)(v p:PV)(ρ:Ev)(h:List PO):SR:=match oH C h p with
 | some (i,ps)=>if j<ps.length then .nx ρ (h.set i (.obj C (ps.set j v))) else if j=ps.length then .nx ρ (h.set i (.obj C (ps++ [v]))) else .bad
 | none=>.bad
def uI(C j:Nat)(fo fv:Ex):Sx:=fun ρ h=>dB (fv ρ h) fun v h1=>dB (fo ρ h1) fun o h2=>wc C j v o ρ h2
def eF(C:Nat)(fn:List PV→List PO→Res PV)(o:Ex)(as:Ax):Ex:=fun ρ h=>(o ρ h).bind fun p h1=>match oH C h1 p with
 | some _=>(as ρ h1).bind fun ps h2=>fn (p::ps) h2
 | none=>.bad
def mkO(C:Nat)(fn:List PV→List PO→Res PV)(ps:List PV)(h:List PO):Res PV:=match fn (.ref h.length::ps) (h++ [.obj C []]) with
 | .ok .non h2=>.ok (.ref h.length) h2
 | _=>.bad
def Bb(C:Nat)(fn:List PV→List PO→Res PV)(as:Ax):Ex:=fun ρ h=>(as ρ h).bind (mkO C fn)
end L3
namespace Z
open PySem PySem.Spec PyProof.Rows L3 L2
section
variable {f:Str} {y:Value}
theorem mT:∀ {ns:List Str} {vs:List Value} {j:Nat} {v:Value},ns.Nodup→ns[j]? =some f→vs[j]? =some v→(ns.zip vs).lookup f=some v
 | [],_,_,_,_,e,_=>by simp at e
 | n::ns,[],j,v,_,_,e=>by simp at e
 | n::ns,x::vs,0,v,_,e1,e2=>by cases e1;cases e2;simp [List.lookup]
 | n::ns,x::vs,j+1,v,nd,e1,e2=>by
  rw [List.nodup_cons] at nd
  have ne:f≠n:=fun z=>nd.1 (z▸List.mem_of_getElem? e1)
  have:(f==n)=false:=by simpa using ne
  rw [List.zip_cons_cons,List.lookup,this]
  exact mT nd.2 e1 e2
theorem mS:∀ {ns:List Str} {vs:List Value},f∉ns→(ns.zip vs).lookup f=none
 | [],_,_=>by simp
 | n::ns,[],_=>by simp
 | n::ns,x::vs,h=>by
  have:(f==n)=false:=by simpa using fun z=>h (by simp [z])
  rw [List.zip_cons_cons,List.lookup,this]
  exact mS fun z=>h (List.mem_cons_of_mem _ z)
theorem ux{n:Str}:∀ {ns:List Str} {vs:List Value} {j:Nat},ns.Nodup→ns[j]? =some f→j≤vs.length→(ns.zip (vs.take j++y::vs.drop (j+1))).lookup n=if n=f then some y else (ns.zip vs).lookup n
 | [],_,_,_,e,_=>by simp at e
 | g::ns,vs,0,_,e,_=>by
  cases e
  by_cases z:n=f
  ·simp [z,List.lookup]
  ·have:(n==f)=false:=by simpa using z
   cases vs<;>simp [List.lookup,this,z]
 | g::ns,[],j+1,_,_,e=>by simp at e
 | g::ns,x::vs,j+1,nd,e1,l=>by
  rw [List.nodup_cons] at nd
  have ih:=ux (n:=n) nd.2 e1 (Nat.le_of_succ_le_succ l)
  simp only [List.take_succ_cons,List.drop_succ_cons,List.cons_append,List.zip_cons_cons,List.lookup]
  by_cases z:n=g
  ·have:n≠f:=fun z'=>nd.1 (z▸z'▸List.mem_of_getElem? e1)
   simp [z,if_neg (z▸this)]
  ·have:(n==g)=false:=by simpa using z
   simp only [this];exact ih
end
theorem nV{y:Str}{v:Value}:∀ {fs:List (Str×Value)},fs.lookup y=some v→(y,v)∈fs
 | p::r,e=>by
  simp only [List.lookup] at e
  split at e
  ·rename_i q;cases e;cases eq_of_beq q;simp
  ·exact List.mem_cons_of_mem _ (nV e)
theorem ze(C:Nat):(fnm C).Nodup:=by unfold fnm;split<;>decide+kernel
theorem AS(C:Nat):(fnm C).length<100:=by unfold fnm;split<;>decide+kernel
structure Cls(K:PySem.W.Frag)(C:Addr):Prop where
 pg:PySem.W.plainGet K C Str.empty=true
 hd:PySem.W.hasDictIn K C=true
 po:PySem.W.plainOver K C=true
 sa:PySem.W.findIn K (.ref C) "__setattr__"=some (some (.builtin "object.__setattr__"))
def rn(K:PySem.W.Frag)(C:Addr)(f:Str):Prop:=PySem.W.findIn K (.ref C) f=some none
structure iJ(K:PySem.W.Frag)(C:Addr)(m:Str)(f:Addr):Prop where
 at_:PySem.W.findIn K (.ref C) m=some (some (.ref f))
 fn:PySem.W.isFn K (.ref f)=true
 kp:PySem.W.keepIn K (.ref f)=true
structure Mk(K:PySem.W.Frag)(C f:Addr):Prop where
 makes:PySem.W.makesIn K C=true
 init:PySem.W.findIn K (.ref C) "__init__"=some (some (.ref f))
 fn:PySem.W.isFn K (.ref f)=true
 kp:PySem.W.keepIn K (.ref C)=true
def OM(g:Heap)(a dx C:Addr)(fs:List (Str×Value)):Prop:=g.get? a=some (PySem.W.instObj C dx)∧∃ od,g.get? dx=some od∧NsO od fs
section
variable {M:Model} {A:Around} {E:Value→Shared→Prop} {P:Program} {wd:World} {K:PySem.W.Frag} {s:Shared} {a dx C:Addr} {fs:List (Str×Value)} {f:Str}
theorem wR{od:Obj}(n:NsO od fs)(name:Str):PySem.W.lookIn name od=some (fs.lookup name):=by
 obtain ⟨es,ep,hd,hk,_,hm⟩:=n
 have e:=hm name
 unfold nsFind findBy at e
 rw [← Array.find?_toList] at e
 unfold PySem.W.lookIn
 rw [hd]
 dsimp only
 split
 ·rename_i y q;rw [q] at e;exact congrArg some e
 ·rename_i q
  rw [q] at e
  have n:es.toList.any (·.refKey)=false:=by
   rw [List.any_eq_false]
   intro y hy
   obtain ⟨z,t,hkey⟩:=hk y (Array.mem_toList_iff.mp hy)
   simp [DictEntry.refKey,hkey]
  rw [if_neg (by rw [n];exact Bool.false_ne_true)]
  exact congrArg some e
theorem OM.look{g:Heap}(I:OM g a dx C fs):∃ od,PySem.W.InstAt g a (PySem.W.instObj C dx) C (some od)∧∀ name,PySem.W.lookIn name od=some (fs.lookup name):=
 let ⟨hx,od,ho,n⟩:=I;⟨od,⟨hx,rfl,rfl,ho⟩,wR n⟩
theorem AR{b:Bool}{v:Value}{Q:Value→Shared→Prop}(k:K.In s.heap)(I:OM s.heap a dx C fs)(c:Cls K C)(n:rn K C f)(l:fs.lookup f=some v)(hv:PySem.W.handedIn v=true)(h:Q v { s with toks:=s.toks+1 }):wpAny (model P wd) A (getAttr (.ref a) f b) Q E s:=by
 obtain ⟨od,J,hl⟩:=I.look
 exact PySem.W.get_value k J (PySem.W.plainGet_of c.pg).1 (PySem.W.findObj_own c.hd n rfl (by rw [hl,l])) hv h
theorem yZ{g:Addr}{pl:Sem Bool}{Q:Value×List Value→Shared→Prop}(k:K.In s.heap)(I:OM s.heap a dx C fs)(c:Cls K C)(m:iJ K C f g)(l:fs.lookup f=none)(h:Q (.ref g,[.ref a]) s):wpAny (model P wd) A (getMethod (.ref a) f pl) Q E s:=by
 obtain ⟨od,J,hl⟩:=I.look
 exact PySem.W.method_fn k J (PySem.W.plainGet_of (name:=f) c.pg).1 (PySem.W.plainGet_of (name:=f) c.pg).2 m.at_ (beq_iff_eq.mp m.fn) (by show (PySem.W.lookIn f od).map (·.isSome)=some false;rw [hl,l];rfl) h
theorem zX{v:Value}{Q:Unit→Shared→Prop}(k:K.In s.heap)(I:OM s.heap a dx C fs)(ne:dx≠a)(c:Cls K C)(n:rn K C f)(z:fs.length≤sizeLine)(h:∀ h',h'.Ns1 dx (fun y=>if y=f then some v else fs.lookup y)→Heap.SameBut dx s.heap h'→Q () { s with heap:=h',toks:=s.toks+2 }):wpAny (model P wd) A (setAttr (.ref a) f v) Q E s:=by
 obtain ⟨od,J,hl⟩:=I.look
 obtain ⟨hx,od',ho,es,ep,q1,q2,q3,q4⟩:=id I
 have ns:s.heap.Ns1 dx fun y=>fs.lookup y:=⟨od',es,ep,ho,q1,q2,q3,q4⟩
 have hw:PySem.Within (fun y=>fs.lookup y) (fs.map (·.1)):=fun y hy=>by
  cases e:fs.lookup y with
  | none=>exact absurd e hy
  | some v=>exact List.mem_map.mpr ⟨(y,v),nV e,rfl⟩
 refine PySem.W.set_plain k J c.sa (PySem.W.osa_open (s:= { s with toks:=s.toks+1 }) (r:=none) k J c.po (by unfold PySem.W.takerIn;rw [show PySem.W.findIn K (.ref C) f=some none from n];rfl) fun b=>?_)
 obtain ⟨cd,hc,hd'⟩:=PySem.W.any_some c.hd
 refine wpAny_bind (wpAny_pure (wpAny_bind (wpAny_bind (wpAny_loadPart (show s.heap.get? a=some ⟨.ref C,some dx,.plain, #[]⟩ from hx) (wpAny_bind (PySem.W.Looks.here (s:= { s with toks:=s.toks+1 }) (PySem.W.looks_clsIn k hc) ?_))))))
 rw [hd']
 refine wpAny_pure (a:=some dx) (wpAny_bind (wpAny_pure (wpAny_bind ?_)))
 refine wpAny_nsSet1 (s:= { s with toks:=s.toks+1 }) ns fun h' hn2 hs2=>?_
 obtain ⟨oD,esD,epD,hoD,hdD,hcD⟩:=hn2.count (PySem.Within.cons f v hw)
 exact wpAny_bind (wpAny_lookBehind hoD (by rw [hdD];exact pastItsLine_dict (Nat.le_trans hcD (by rw [List.length_cons,List.length_map];omega))) (wpAny_pure (h _ hn2 hs2)))
end
section
variable {G:SC} {X:Cx} {w w1:Wo} {ρ:Ev} {h:List PO} {s':Shared} {a:Addr} {i:Nat} {po:PO}
theorem Nw.upd(H:HR X.toSC w h)(em:w.m[i]? =some a)(n:w.F a=none)(k:∀ b o,w.s.heap.get? b=some o→b=a∨w.O b=some a∨s'.heap.get? b=some o)(d:∀ b o,w.s.heap.get? b=some o→∃ o',s'.heap.get? b=some o')(q:oB X.toSC w.F w.m w.O s'.heap a po)(ho:s'.os=w.s.os:=by rfl)(hg:s'.gens=w.s.gens:=by rfl):Nw X w { w with s:=s' } (h.set i po):=by
 have k':∀ b o,w.s.heap.get? b=some o→b≠a→w.O b≠some a→s'.heap.get? b=some o:=fun b o e x y=>(k b o e).elim (fun z=>absurd z x) fun z=>z.resolve_left y
 refine ⟨⟨ho,fun q=>hg▸q,fun _ _ e=>e,fun _ _ e=>e,⟨[],by simp⟩,d,fun b o q _=>⟨o.slots,⟨k' b o q.1 (fun z=>q.2.1 (z▸List.mem_of_getElem? em)) (by rw [q.2.2.2];exact fun z=>nomatch z),q.2⟩,.inr rfl⟩⟩,fun b o e=>k' b o (H.sub b o e) (fun z=>by rw [z,n] at e;cases e) (fun z=>by rw [(H.own b a z).2.2] at e;cases e),fun b x e=>let ⟨⟨o,q⟩,z⟩:=H.own b x e;⟨d b o q,z⟩,by simp [H.len],H.nd,fun j o b e1 e2=>?_⟩
 by_cases z:j=i
 ·subst z
  cases em.symm.trans e2
  rw [List.getElem?_set_self (H.len▸(List.getElem?_eq_some_iff.mp em).1)] at e1
  cases e1;exact q
 ·rw [List.getElem?_set_ne (Ne.symm z)] at e1
  have nb:b≠a:=fun y=>z (by
   obtain ⟨l1,q1⟩:=List.getElem?_eq_some_iff.mp e2
   obtain ⟨l2,q2⟩:=List.getElem?_eq_some_iff.mp em
   exact (List.getElem_inj H.nd).mp (q1.trans (y.trans q2.symm)))
  exact (H.obj j o b e1 e2).on (fun _ _ e=>e) (fun _ e=>e) (fun _ _ e=>e) (fun c o e y=>k' c o e (y.elim (fun y=>y▸nb) fun y z=>by subst z;exact (H.own _ _ y).2.1 (List.mem_of_getElem? em)) (y.elim (fun y z=>(H.own c a z).2.1 (y▸List.mem_of_getElem? e2)) fun y z=>nb (Option.some.inj (y.symm.trans z)))) id
theorem HR.ob{C:Nat}{p:PV}{u:Value}{ps:List PV}(H:HR G w h)(r:aZ G w.F w.m p u)(e:oH C h p=some (i,ps)):∃ a Ca dx vs,u= .ref a∧p= .ref i∧w.m[i]? =some a∧w.F a=none∧G.T C=some Ca∧OM w.s.heap a dx Ca ((fnm C).zip vs)∧dx≠a∧w.O dx=some a∧vs.length≤(fnm C).length∧aB G w.F w.m ps vs:=by
 unfold oH at e
 split at e
 ·split at e
  ·rename_i q
   split at e<;>cases e
   subst_vars
   cases r with
   | ref em=>
    obtain ⟨f,Ca,dx,od,vs,c,e1,o,e2,n,l,r⟩:=H.obj _ _ _ q em
    exact ⟨_,Ca,dx,vs,rfl,rfl,em,f,c,⟨e1,od,e2,n⟩,fun z=>(H.own _ _ o).2.1 (z▸List.mem_of_getElem? em),o,l,r⟩
  ·cases e
 ·cases e
theorem CJ{F:Fz}{m:List Addr}{p:PV}{u:Value}(r:aZ G F m p u):PySem.W.handedIn u=true:=by cases r<;>rfl
structure OC(X:Cx)(C:Nat):Prop where
 ex:∃ Ca,X.T C=some Ca∧Cls X.K Ca∧∀ f∈fnm C,rn X.K Ca f
variable {f:Str} {o value:Expr} {fo fv:Ex} {pos pos' apos p0:Pos} {C j:Nat}
theorem kX(oc:OC X C)(hj:(fnm C)[j]? =some f)(ho:RE X o fo)(hb:attributeBase o f X.env (eval o X.env)=eval o X.env:=by rfl):RE X (.Attribute o f pos) (c1 (nL C j) fo):=⟨fun I p=>by
 obtain ⟨Ca,t,c,n⟩:=oc.ex
 refine Attribute_any_ (ho.r I (p.bind fun w1 h1 a u y r p=>?_)) (by rw [arm_eval_Attribute,hb])
 unfold nL at p
 split at p
 ·rename_i e
  obtain ⟨a,Cb,dx,vs,rfl,_,em,_,c',O,_,_,_,rr⟩:=y.2.ob r e
  cases t.symm.trans c'
  split at p
  ·obtain ⟨v,e3,rq⟩:=rr.get ‹_›
   exact AR (I.on y).kIn O c (n f (List.mem_of_getElem? hj)) (mT (ze C) hj e3) (CJ rq) (p.now y.2 (y.2.deref rq))
  ·exact p.elim
 ·exact p.elim⟩
theorem xD(oc:OC X C)(hj:(fnm C)[j]? =some f)(ho:RE X o fo)(hv:RE X value fv)(hs:swapsWith value (some (.Attribute o f pos')) pos.line X.env=pure false:=by rfl):RS X (.Assign [.Attribute o f pos'] value pos) (uI C j fo fv):=⟨fun {w ρ h Q E} I p=>by
 obtain ⟨Ca,t,c,n⟩:=oc.ex
 refine plainObj_wpAny_Assign_Attribute (hv.r I (bu.e p I fun w1 h1 pv v y1 I1 rv p=>ho.r I1 (bu.e p I1 fun w2 h2 po u y2 I2 r p=>?_))) hs
 unfold wc at p
 split at p
 ·rename_i i ps e
  obtain ⟨a,Cb,dx,vs,rfl,_,em,hf,c',O,ne,od,l,rr⟩:=I2.toHR.ob r e
  cases t.symm.trans c'
  have lj:=(List.getElem?_eq_some_iff.mp hj).1
  have go:∀ qs,qs=ps.take j++pv::ps.drop (j+1)→j≤ps.length→bu X w2 Q E (.nx ρ (h2.set i (.obj C qs)))→Wp X (setAttr (.ref a) f v) (fun _=>Q .next) E w2.s:=by
   rintro qs rfl hl p
   have hl':j≤vs.length:=rr.length▸hl
   refine zX I2.kIn O ne c (n f (List.mem_of_getElem? hj)) (by have:=AS C;rw [List.length_zip,sizeLine_eq];omega) fun h' ns sb=>?_
   obtain ⟨od',es,ep,e1,e2,e3,e4,e5⟩:=id ns
   have y3:=Nw.upd (X:=X) (s':= { w2.s with heap:=h',toks:=w2.s.toks+2 }) (po:=.obj C (ps.take j++pv::ps.drop (j+1))) I2.toHR em hf (fun b o e=>by
     by_cases z:b=dx
     ·exact .inr (.inl (z▸od))
     ·exact .inr (.inr ((sb.2 b z).trans e))) (fun b o e=>by
     by_cases z:b=dx
     ·exact ⟨od',z▸e1⟩
     ·exact ⟨o,(sb.2 b z).trans e⟩) ⟨hf,Ca,dx,od',vs.take j++v::vs.drop (j+1),t,(sb.2 a (Ne.symm ne)).trans O.1,od,e1,⟨es,ep,e2,e3,e4,fun m=>by rw [e5 m,ux (ze C) hj hl']⟩,by simp;omega,(rr.td j).1.app (.cons (y2.1.rep rv) (rr.td (j+1)).2)⟩
   exact p.2 _ y3.s (I2.on y3)
  split at p
  ·exact go _ (by rw [List.set_eq_take_append_cons_drop,if_pos ‹_›]) (Nat.le_of_lt ‹_›) p
  ·split at p
   ·exact go _ (by subst_vars;simp) (Nat.le_of_eq ‹_›) p
   ·exact p.elim
 ·exact p.elim⟩
variable {m x:Str} {e:Expr} {es:List Expr} {fs:Ax} {fn:List PV→List PO→Res PV}
structure ZO(X:Cx)(C:Nat)(m:Str)(fn:List PV→List PO→Res PV):Prop where
 ex:∃ Ca c k f fd ps,X.T C=some Ca∧Cls X.K Ca∧iJ X.K Ca m f∧m∉fnm C∧FnL X.toSC c k f fd ps fn∧dZ k X.A∧(c=true→X.calm=true)∧jf X.K fd ps []
theorem xJ{pl:Sem Bool}(c:ZO X C m fn)(ho:RE X o fo)(ha:RA X (e::es) fs)
  (hst:starEach (e::es) X.env=(false,eval e X.env)::starEach es X.env:=by rfl) (hpl:(backTo pos (starEach es X.env)).any (·.1)=false:=by rfl)
  (ht:eval (.Call (.Attribute o m apos) (e::es) [] pos) X.env=(do
   let ov ← eval o X.env
   standAt apos.atName
   let (f,first) ← holding [ov] (getMethod ov m pl)
   callWith pos f first (backTo pos (starEach (e::es) X.env)) (backToKw pos (keywordEach [] X.env))):=by rfl):
  RE X (.Call (.Attribute o m apos) (e::es) [] pos) (eF C fn fo fs):=⟨fun I p=>by
 obtain ⟨Ca,cc,k,f,fd,ps,t,c,hm,nm,F,hr,hc,hb⟩:=c.ex
 refine PySem.W.methodCall_KW (pl:=pl) (ho.r I (p.bind fun w1 h1 q u y r p=>?_)) ht
 split at p
 ·obtain ⟨a,Cb,dx,vs,rfl,_,em,_,c',O,_⟩:=y.2.ob r ‹_›
  cases t.symm.trans c'
  have I1:=I.on y
  exact yZ I1.kIn O c hm (mS nm) (PySem.W.callWith_K (first:= [.ref a]) (h₀:=X.base) I.ok.kin hm.kp (ha.r pos I1 (p.bind fun w2 h2 qs us y2 r2 p=>⟨(I1.on y2).kIn,F.calH hr hc hb (I1.on y2) (.cons (y2.1.rep r) r2) p⟩)) hst hpl)
 ·exact p.elim⟩
structure ZK(X:Cx)(C:Nat)(x:Str)(fn:List PV→List PO→Res PV):Prop where
 ex:∃ Ca c k f fd ps,X.T C=some Ca∧Mk X.K Ca f∧FnL X.toSC c k f fd ps fn∧dZ (k+1) X.A∧(c=true→X.calm=true)∧X.mg x=some (.ref Ca)∧jf X.K fd ps []
theorem make{Ca g:Addr}{fd:FuncData}{k:Nat}{ps:List Str}{qs:List PV}{us:List Value}{Q:Value→Shared→Prop}{E:Value→Shared→Prop}(t:X.T C=some Ca)(M:Mk X.K Ca g){c:Bool}(F:FnL X.toSC c k g fd ps fn)(hr:dZ (k+1) X.A)(hc:c=true→X.calm=true)(hb:jf X.K fd ps [])(I:Inv X w ρ h)(r:aB X.toSC w.F w.m qs us)(p:bC X (RV X.toSC) w Q E (mkO C fn qs h)):Wp X (call (.ref Ca) us) Q E w.s:=by
 have hl:fn (.ref h.length::qs) (h++ [.obj C []])≠.bad:=fun z=>by unfold mkO at p;rw [z] at p;exact p
 let s1:Shared:= { w.s with heap:=(w.s.heap.push PySem.W.emptyDict).push (PySem.W.instObj Ca w.s.heap.objs.size) }
 let w1:Wo:=⟨w.F,fun d=>if d=w.s.heap.objs.size then some (w.s.heap.objs.size+1) else w.O d,w.m++ [w.s.heap.objs.size+1],s1⟩
 have g0:s1.heap.get? w.s.heap.objs.size=some PySem.W.emptyDict:=Heap.get?_push_of_some _ (Heap.get?_push_size _ rfl)
 have e1:s1.heap.get? (w.s.heap.objs.size+1)=some (PySem.W.instObj Ca w.s.heap.objs.size):=by
  have:=Heap.get?_push_size (w.s.heap.push PySem.W.emptyDict) (o:=PySem.W.instObj Ca w.s.heap.objs.size) rfl
  rwa [show (w.s.heap.push PySem.W.emptyDict).objs.size=w.s.heap.objs.size+1 by simp [Heap.push]] at this
 have n0:=bd w.s.heap
 have n1:w.s.heap.get? (w.s.heap.objs.size+1)=none:=by
  cases q:w.s.heap.get? (w.s.heap.objs.size+1) with
  | none=>rfl
  | some o=>exact absurd (Heap.lt_size q) (Nat.not_lt_of_le (Nat.le_succ _))
 have y:Nw X w w1 (h++ [.obj C []]):=Nw.mk (s':=s1) I.toHR n1 (fun _ _ e=>Heap.get?_push_of_some _ (Heap.get?_push_of_some _ e)) ⟨(I.free n1).2.1,Ca,_,_,[],t,e1,if_pos rfl,g0,⟨#[],0,rfl,by intro e he;simp at he,by simp [UniqKeys],fun n=>by simp [nsFind,findBy]⟩,by simp,.nil⟩ (fun d b e=>by
   by_cases z:d=w.s.heap.objs.size
   ·rw [z,(I.free n0).2.2] at e;cases e
   ·exact (if_neg z).trans e) fun d b e=>by
   by_cases z:d=w.s.heap.objs.size
   ·exact .inr ⟨z▸n0,fun z'=>Nat.ne_of_lt (Nat.lt_succ_self _) (z.symm.trans z'),_,z▸g0⟩
   ·exact .inl ((if_neg z).symm.trans e)
 have I1:=I.on y
 have r0:aZ X.toSC w1.F w1.m (.ref h.length) (.ref (w.s.heap.objs.size+1)):=.ref (by rw [I.len];simp [w1])
 have r1:aB X.toSC w1.F w1.m (.ref h.length::qs) (.ref (w.s.heap.objs.size+1)::us):=.cons r0 (y.1.reps r)
 refine wpAny_call (PySem.W.make_core (PySem.W.makes_of I.kIn M.makes) (PySem.W.looks_findIn I.kIn M.init) (fun self=>PySem.W.bind_fn I.kIn self (beq_iff_eq.mp M.fn)) (.inl rfl) (codeAny_mono (F.run (w:=w1) (Q:=fun v s=>v= .none∧Q (.ref (w.s.heap.objs.size+1)) s) (E:=E) rfl (hr.make Ca us []) (fun z=>I.ok.hd (hc z)) (by first | exact I.ok.frames | (simpa [Around.under,Code.envs,Code.isFrame,pushEnvs] using I.ok.frames)) I1.toWd I1.ok r1 (by simpa using hb s1 _ I1.kIn (by rw [List.append_nil,← r1.length];exact F.len _ _ hl)) ?_) ?_))
 ·unfold mkO at p
  split at p
  ·rename_i e;rw [e];exact fun w' x y' rx=>by cases rx;exact ⟨rfl,p.2 _ _ (y.trans y') (y'.1.rep r0)⟩
  ·exact p.elim
 ·intro r s hq
  cases r with
  | error e=>exact hq
  | ok fl=>
   cases fl with
   | ret u=>exact hq
   | _=>exact False.elim hq
theorem Cj(c:ZK X C x fn)(hg:Gl X x)(ha:RA X (e::es) fs)(hdb:(x==("__debug__":Str))=false:=by decide)(he:starEach (e::es) X.env=(false,eval e X.env)::starEach es X.env:=by rfl)(hpl:(backTo pos (starEach es X.env)).any (·.1)=false:=by rfl):RE X (.Call (.Name x p0) (e::es) [] pos) (Bb C fn fs):=⟨fun I p=>by
 obtain ⟨Ca,cc,k,f,fd,ps,t,M,F,hr,hc,hm,hb⟩:=c.ex
 exact wpAny_Call_Name_kw (I.glb hg hm (PySem.W.callWith_K (h₀:=X.base) I.ok.kin M.kp (ha.r pos I (p.bind fun _ _ _ _ y r p=>⟨(I.on y).kIn,make t M F hr hc hb (I.on y) r p⟩)) he hpl) hdb)⟩
end
end Z
namespace L3
end L3
namespace Z
open PySem PySem.Spec PyProof.Rows L3 L2
section
variable {G:SC} {X:Cx} {w w1:Wo} {ρ:Ev} {h:List PO} {o e:Expr} {es:List Expr} {fo:Ex} {fs:Ax} {m x:Str} {pos apos p0:Pos}
theorem Ch{n:String}(hg:Gl X x)(hm:X.mg x=none)(hv:bootBuiltins x=some (.type n))(hn:x≠"__name__":=by decide)(hd:(x==("__debug__":Str))=false:=by decide):RE X (.Name x pos) (cK (.ty n)):=⟨fun I p=>I.blt hg hm hv (p.here I.toHR (.ty n)) hn hd⟩
end
end Z
namespace L2
open PySem PySem.Spec PyProof.Rows PySem.W PySem.Builtin PySem.Builtin.ObjectAttr PySem.Builtin.Getset_descriptor
end L2
namespace L2
open PySem PySem.Spec PyProof.Rows PySem.W PySem.Builtin PySem.Builtin.ObjectAttr
end L2
namespace L2
open PySem PySem.Spec PyProof.Rows PySem.W
end L2
namespace L3
open PySem
def BU(C:Nat)(as:Ax):Sx:=fun ρ h=>match as ρ h with
 | .ok qs h1=>if qs.length≤sizeLine then .exc (.cls C) h1 else .bad
 | .exc e h1=>.exc e h1
 | .bad=>.bad
def Cl(C:Nat):Res (List PV)→SR
 | .ok [v] h1=>.exc (.exa C v) h1
 | .exc e h1=>.exc e h1
 | _=>.bad
end L3
namespace Z
open PySem PySem.Spec PyProof.Rows L3 L2
section
variable {X:Cx} {w w1 w3:Wo} {ρ:Ev} {h:List PO} {a:Addr} {o:Obj}
variable {x:Str} {C:Nat} {np cpos pos:Pos} {e0:Expr} {es:List Expr} {fs:Ax}
theorem HR.freeze{G:SC}(H:HR G w h)(ha:Has w a o):HR G ⟨gz w.F a o,w.O,w.m,w.s⟩ h:=by
 have nb:∀ {b},¬ Fre w b→b≠a:=fun n z=>n (z▸ha.2)
 refine ⟨fun b x e=>?_,fun d b e=>let ⟨q,z,y⟩:=H.own d b e;⟨q,z,cP (nb fun z=>by rw [z.2.2] at e;cases e) y⟩,H.len,H.nd,fun i po b e1 e2=>(H.obj i po b e1 e2).on (cJ ha.2.2.1) (fun _ e=>e) (fun _ _ e=>e) (fun _ _ e _=>e) (cP (nb fun z=>z.1 (List.mem_of_getElem? e2)))⟩
 by_cases z:b=a
 ·subst z;cases bD.symm.trans e;exact ha.1
 ·exact H.sub b x ((jl z).symm.trans e)
end
end Z
namespace L3
end L3
namespace Z
open PySem PySem.Spec PyProof.Rows L3 L2
section
variable {X:Cx} {w w1 w3:Wo} {ρ:Ev} {h h1:List PO} {a:Addr} {o:Obj}
theorem Nw.freeze(n:Nw X w w1 h)(na:w.s.heap.get? a=none)(ha:Has w1 a o):Nw X w ⟨gz w1.F a o,w1.O,w1.m,w1.s⟩ h:=⟨⟨n.1.os,n.1.ba,fun b o' e=>cJ ha.2.2.1 _ _ (n.1.fz b o' e),n.1.ow,n.1.pre,n.1.dom,fun b o' q z=>let ⟨sl,q',z⟩:=n.1.keep b o' q z;⟨sl,⟨q'.1,q'.2.1,cP (fun y=>by have q:=q.1;rw [y,na] at q;cases q) q'.2.2.1,q'.2.2.2⟩,z⟩⟩,n.2.freeze ha⟩
end
end Z
namespace L3
open PySem
def DU(h:List PO)(p:PV):Option Nat:=match p with
 | .str l=>if l.length≤sizeLine then some l.length else none
 | p=>match dcR h p with
  | some kvs=>some kvs.length
  | none=>match sqR h p with
   | some xs=>some xs.length
   | none=>none
def bv(ps:List PV)(h:List PO):Res PV:=match ps with
 | [p]=>match DU h p with
  | some n=>.ok (.int n) h
  | none=>.bad
 | _=>.bad
def xo(h:List PO):PV→Option String
 | .non=>some "NoneType"
 | .bl _=>some "bool"
 | .int _=>some "int"
 | .str _=>some "str"
 | .tup _=>some "tuple"
 | p=>match dcR h p with
  | some _=>some "dict"
  | none=>match lsR h p with
   | some _=>some "list"
   | none=>none
def xt(t c:String):Bool:=(t==c)||(t=="bool"&&c=="int")
def vi:List String:= ["str","int","bool","list","tuple","dict"]
def eR(ps:List PV)(h:List PO):Res PV:=match ps with
 | [p,.ty c]=>if vi.contains c=true then match xo h p with
   | some t=>.ok (.bl (xt t c)) h
   | none=>.bad
  else .bad
 | _=>.bad
def Dw(i:Int):List Nat:=(Str.ofString (toString i)).cps.toList
def FS(ps:List PV)(h:List PO):Res PV:=match ps with
 | [.int i]=>if i.natAbs.log2<1920 then .ok (.str (Dw i)) h else .bad
 | _=>.bad
def qw(ps:List PV)(h:List PO):Res PV:=match ps with
 | [.int i]=>.ok (.int i) h
 | [.bl b]=>.ok (.int (if b then 1 else 0)) h
 | _=>.bad
def FT(ps:List PV)(h:List PO):Res PV:=match ps with
 | [.int i,.int j]=>.ok (.int (if j>i then j else i)) h
 | _=>.bad
def cF(ps:List PV)(h:List PO):Res PV:=match ps with
 | [p]=>match sqR h p with
  | some xs=>.ok (.tup xs) h
  | none=>.bad
 | _=>.bad
end L3
namespace Z
open PySem PySem.Spec PyProof.Rows L3 L2
section
variable {G:SC} {X:Cx} {w w1:Wo} {ρ:Ev} {h:List PO}
theorem aB.one{F:Fz}{m:List Addr}{p:PV}{us:List Value}(r:aB G F m [p] us):∃ u,us= [u]∧aZ G F m p u:=by cases r with | cons r t=>cases t;exact ⟨_,rfl,r⟩
theorem aB.two{F:Fz}{m:List Addr}{p q:PV}{us:List Value}(r:aB G F m [p,q] us):∃ u v,us= [u,v]∧aZ G F m p u∧aZ G F m q v:=by cases r with | cons r t=>obtain ⟨v,rfl,r'⟩:=t.one;exact ⟨_,v,rfl,r,r'⟩
theorem Wd.kIn(I:Wd X w h)(ok:X.Ok):X.K.In w.s.heap:=ok.kin.keeps fun _ _ e=>I.bk e
theorem DI:OpC X (.builtin "len") bv:=fun ok {w h p u Q E} I rs k=>by
 have l:sizeLine=16777216:=sizeLine_eq
 unfold bv at k
 split at k
 ·obtain ⟨u,rfl,r1⟩:=rs.one
  show Wp X (call (.builtin "len") [u]) Q E w.s
  split at k
  ·rename_i e
   unfold DU at e
   split at e
   ·split at e<;>cases e
    cases r1
    exact len_str (by rw [fO];omega) (by rw [fO];exact k.now I.toHR (.int _ _))
   ·split at e
    ·cases e
     obtain ⟨a,kvs,rfl,y,d,r⟩:=I.dc r1 ‹_›
     exact call_len_dict y d (by have:=r.1;omega) (by rw [r.len];exact k.now I.toHR (.int _ _))
    ·split at e<;>cases e
     obtain ⟨t,e,ht⟩:=th ‹_›
     obtain ⟨a,its,rfl,y,z,r⟩:=I.sq r1 e
     rcases ht with rfl | rfl
     ·exact len_tuple y.tup (by omega) (k.now I.toHR (by rw [r.len];exact .int _ _))
     ·exact Calls.call_len_list y.pl.isList (by omega) (k.now I.toHR (by rw [r.len];exact .int _ _))
  ·exact k.elim
 ·exact k.elim
theorem wT(K:PySem.W.Frag){t c:String}(ht:t∈ ["NoneType","bool","int","str","tuple","dict","list"])(hc:vi.contains c=true):PySem.W.kitOne K (.type t) (.type c)=some (xt t c):=by
 have hc':c∈vi:=by simpa using hc
 simp only [vi,List.mem_cons,List.not_mem_nil,or_false] at hc' ht
 rcases ht with rfl | rfl | rfl | rfl | rfl | rfl | rfl<;>rcases hc' with rfl | rfl | rfl | rfl | rfl | rfl<;>rfl
theorem yu:OpC X (.builtin "isinstance") eR:=fun ok {w h p u Q E} I rs k=>by
 unfold eR at k
 split at k
 ·obtain ⟨u,v,rfl,r,r2⟩:=rs.two
  cases r2
  show Wp X (call (.builtin "isinstance") [u,_]) Q E w.s
  split at k
  ·rename_i hc
   split at k
   ·rename_i t e
    have fin:∀ tk,Q (.bool (xt t _)) { w.s with toks:=tk }:=fun tk=>k.now I.toHR (.bl _)
    have hh:=fun tt=>wT (t:=tt) X.K (hc:=hc)
    have KI:=I.kIn ok
    unfold xo at e
    split at e
    ·cases e;cases r;exact PySem.W.kia_one PySem.W.kitx_none KI True.intro (hh _ (by simp)) (fun z=>nomatch z) fin
    ·cases e;cases r;exact PySem.W.kia_one PySem.W.kitx_bool KI True.intro (hh _ (by simp)) (fun z=>nomatch z) fin
    ·cases e;cases r;exact PySem.W.kia_one PySem.W.kitx_int KI True.intro (hh _ (by simp)) (fun z=>nomatch z) fin
    ·cases e;cases r;exact PySem.W.kia_one PySem.W.kitx_str KI True.intro (hh _ (by simp)) (fun z=>nomatch z) fin
    ·cases e
     obtain ⟨a,its,rfl,⟨n,y⟩,z,r⟩:=I.sq r rfl
     exact PySem.W.kia_one PySem.W.kitx_tuple KI ⟨_,y,rfl⟩ (hh _ (by simp)) (fun z=>nomatch z) fin
    ·split at e
     ·cases e
      obtain ⟨a,kvs,rfl,_,⟨o,es,ep,h1,h2,_⟩,_⟩:=I.dc r ‹_›
      exact PySem.W.kia_one PySem.W.kitx_dict KI ⟨o,h1,h2.1⟩ (hh _ (by simp)) (fun z=>nomatch z) fin
     ·split at e<;>cases e
      obtain ⟨a,its,rfl,⟨n,y⟩,z,r⟩:=I.sq r (fe ‹_›)
      exact PySem.W.kia_one PySem.W.kitx_list KI ⟨_,y,rfl⟩ (hh _ (by simp)) (fun z=>nomatch z) fin
   ·exact k.elim
  ·exact k.elim
 ·exact k.elim
theorem oX:OpC X (.type "int") qw:=fun ok {w h p u Q E} I rs k=>by
 unfold qw at k
 split at k
 ·obtain ⟨u,rfl,r⟩:=rs.one
  cases r
  exact call_int_int (k.here I.toHR (.int _ _))
 ·obtain ⟨u,rfl,r⟩:=rs.one
  cases r
  exact call_int_bool (k.now I.toHR (.int _ _))
 ·exact k.elim
end
end Z
namespace L2
open PySem PySem.Spec PyProof.Rows
theorem jV:plainId "dict.update.loop"=true:=by decide+kernel
theorem rD:entryFor table "dict.update.loop"=some Builtin.«dict.update.loop» :=entryFor_of_tree (by kernel_rfl)
section
variable {prog:Program} {w:World} {κ:Type} [DecidableEq κ] {knd:KeyKind prog w κ} {A:Around} {R:Result→Shared→Prop} {E:Value→Shared→Prop}
inductive Prs(knd:KeyKind prog w κ)(h:Heap):List Value→List (κ×Value)→Prop where
 | nil:Prs knd h [] []
 | cons {a:Addr} {k' v:Value} {k:κ} {us:List Value} {kvs:List (κ×Value)} (t:IsTup h a #[k',v]) (kk:knd.is k k'=true) (r:Prs knd h us kvs):Prs knd h (.ref a::us) ((k,v)::kvs)
theorem vV{s:Shared}{a:Addr}{x y:Value}{Q:List Value→Shared→Prop}(t:IsTup s.heap a #[x,y])(q:Q [x,y] s):wpAny (model prog w) A (Builtin.Dict.pairItems (.ref a)) Q E s:=by
 obtain ⟨o,ho,hc,n,hd⟩:=t
 have ty:s.TypeIs (.ref a) "tuple":=⟨o,ho,hc⟩
 unfold Builtin.Dict.pairItems
 refine wpAny_bind (wpAny_typeOf ty ?_)
 wp_walk
 rw [hd]
 exact wpAny_pure (wpAny_pure q)
theorem tK{h0:Heap}{D I l:Addr}{us:List Value}(hh:A.handled=none)(hD:h0.objs.size≤D)(hI:h0.objs.size≤I)(ne:D≠I)(hl:h0.IsList l us.toArray):
  ∀ (rest:List Value) (kvs:List (κ×Value)) (i:Nat) (s:Shared) (cur:List (κ×Value)),us.drop i=rest→Prs knd h0 rest kvs→(∀ b o,h0.get? b=some o→s.heap.get? b=some o)→s.heap.IsListIter I l i→s.heap.DictOf knd D cur→cur.length+rest.length≤sizeLine→
   (∀ h' tk,(∀ b o,h0.get? b=some o→h'.get? b=some o)→h'.DictOf knd D (merged cur kvs)→R (.ok (.ret .none)) { s with heap:=h',toks:=tk })→
   codeAny (model prog w) A (.builtin "dict.update.loop" ⟨[.ref D,.ref I,rawInt i,.none],[]⟩) R s:=by
 have nI:∀ b o,h0.get? b=some o→b≠I:=fun b o q z=>Nat.lt_irrefl _ (Nat.lt_of_lt_of_le (Heap.lt_size q) (z▸hI))
 have nD:∀ b o,h0.get? b=some o→b≠D:=fun b o q z=>Nat.lt_irrefl _ (Nat.lt_of_lt_of_le (Heap.lt_size q) (z▸hD))
 intro rest
 induction rest with
 | nil=>
  intro kvs i s cur e p kp it d z hR
  cases p
  refine codeAny_builtin rD ?_
  rw [Around.under_plainId jV _]
  unfold Builtin.«dict.update.loop»
  dsimp only
  refine wpAny_bind (wpAny_pyNext_list_end hh it (hl.at fun o q=>kp _ o q) ?_ fun h' x=>?_)
  ·rw [List.getElem?_toArray]
   have:=congrArg List.length e
   rw [List.length_drop] at this
   exact List.getElem?_eq_none (by simp at this;omega)
  ·have kd:∀ b o,h0.get? b=some o→h'.get? b=some o:=fun b o q=>x b o (nI b o q) (kp b o q)
   exact wpAny_bind (wpAny_pure (wpAny_pure (hR h' s.toks kd (d.extBut x ne))))
 | cons u rest ih=>
  intro kvs i s cur e p kp it d z hR
  cases p with
  | @cons a k' v k _ kvs t kk r=>
   refine codeAny_builtin rD ?_
   rw [Around.under_plainId jV _]
   unfold Builtin.«dict.update.loop»
   dsimp only
   refine wpAny_bind (wpAny_pyNext_list_item it (hl.at fun o q=>kp _ o q) (x:=.ref a) ?_ fun h' it' sb=>?_)
   ·rw [List.getElem?_toArray,← List.head?_drop,e];rfl
   ·have k1:∀ b o,h0.get? b=some o→h'.get? b=some o:=fun b o q=>(sb.2 b (nI b o q)).trans (kp b o q)
    refine wpAny_bind (wpAny_holding (wpAny_bind (wpAny_tryCatch (vV (t.keeps k1) ?_))))
    rw [List.length_cons] at z
    refine wpAny_holding (wpAny_dictSet_pairs (hsz:=by omega) kk (d.sameBut sb ne) fun h2 d2 s2=>?_)
    have k2:∀ b o,h0.get? b=some o→h2.get? b=some o:=fun b o q=>(s2.2 b (nD b o q)).trans (k1 b o q)
    refine wpAny_pure ⟨plainId_quiet jV _,?_⟩
    have ln:(stored cur k v).length≤cur.length+1:=by
     have:=merged_length_le cur [(k,v)]
     exact this
    have e':us.drop (i+1)=rest:=by rw [← List.drop_drop,e];rfl
    exact ih kvs (i+1) _ (stored cur k v) e' r k2 (it'.at fun o q=>(s2.2 I ne.symm).trans q) d2 (by omega) fun h3 tk k3 d3=>hR h3 tk k3 d3
theorem tX:typeLookup (.type "list") "keys"=pure none:=by rw [typeLookup_type,builtinLookup_eq_fast];kernel_rfl
theorem wJ{s:Shared}{l:Addr}{xs:Array Value}{c:Nat}{sl:Array (Option Value)}{u:Tok}(hh:A.handled=none)(hl:s.heap.get? l=some { cls:=.type "list",dict:=none,data:=.seq xs c,slots:=sl })
  (h:∀ h' tk e,Heap.NewAttrErr s.heap h' e (.ref l) "keys"→R (.error (.ref e)) { s with heap:=h',toks:=tk }):codeAny (model prog w) A (.call (.builtin "list.__getattribute__") ⟨[.ref l,.str "keys" u],[]⟩) R s:=
 codeAny_call_builtin PySem.F.slot_list_getattribute.plain am_entry_list_getattribute (PySem.F.slot_list_getattribute.check _ _ _ _ _ _ _ _ ⟨_,hl,rfl⟩ (PySem.F.args_list_getattribute_2 _ _) (meets_getattribute_miss_list l xs c sl "keys" u tX (by decide+kernel) (by size_fits) prog w A R s ⟨hl,hh,h⟩))
theorem Au{s:Shared}{l:Addr}{o:Obj}{xs:Array Value}{c:Nat}{Q:Option Value→Shared→Prop}(hh:A.handled=none)(hl:s.heap.get? l=some o)(hc:o.cls= .type "list")(hd:o.data= .seq xs c)(hn:o.dict=none)
  (hQ:∀ h' tk,(∀ b o,s.heap.get? b=some o→h'.get? b=some o)→Q none { s with heap:=h',toks:=tk }):wpAny (model prog w) A (getAttr? (.ref l) "keys") Q E s:=by
 obtain ⟨c0,dct,dat,sl⟩:=o
 simp only at hc hd hn
 subst hc hd hn
 obtain ⟨hp,g,d,tk,os⟩:=s
 have ty:∀ tk',(⟨hp,g,d,tk',os⟩:Shared).TypeIs (.ref l) "list":=fun _=>⟨_,hl,rfl⟩
 have t1:=ty (tk+1)
 have f1:=sub_AttributeError
 have f3:=PySem.F.slot_list_getattribute.lookup
 have f4:=PySem.F.slot_list_getattribute.bind (.ref l)
 have f5:=am_list_getattr_none
 unfold getAttr? getAttrBy? getAttrBy getAttrByItsOwn
 wp_walk
 refine wJ hh hl fun h2 t2 e x=>?_
 obtain ⟨t3,u3,he⟩:=x.there
 dsimp only
 unfold getattributeRaised
 wp_walk
 exact hQ h2 t2 x.keeps
theorem uk{s:Shared}{l:Addr}{o:Obj}{us:List Value}{c:Nat}{kvs:List (κ×Value)}{Q:Value→Shared→Prop}(hh:A.handled=none)(hl:s.heap.get? l=some o)(hc:o.cls= .type "list")(hd:o.data= .seq us.toArray c)(hn:o.dict=none)(p:Prs knd s.heap us kvs)(hz:us.length≤sizeLine)
  (hQ:∀ h' tk,(∀ b o,s.heap.get? b=some o→h'.get? b=some o)→h'.DictOf knd s.heap.objs.size (merged [] kvs)→Q (.ref s.heap.objs.size) { s with heap:=h',toks:=tk }):
  wpAny (model prog w) A (call (.type "dict") [.ref l]) Q E s:=by
 refine callType_codes (Q₁:=fun v t=>v= .ref s.heap.objs.size∧t= { s with heap:=s.heap.push { cls:=.type "dict",data:=.dict #[] } }) PySem.F.kt_called_dict (PySem.F.kt_typeCall_dict_1 _) PySem.F.entry_dict_init (kt_code_dict_new _ ⟨rfl,rfl⟩) ?_
 rintro v t ⟨rfl,rfl⟩
 have new:(s.heap.push { cls:=.type "dict",data:=.dict #[] }).DictOf knd s.heap.objs.size []:=Heap.DictOf.new s.heap
 refine ⟨new.typeIs,PySem.F.args_dict_init_2 _ _,?_⟩
 have kp:∀ b q,s.heap.get? b=some q→(s.heap.push { cls:=.type "dict",data:=.dict #[] }).get? b=some q:=fun b q e=>Heap.get?_push_of_some _ e
 have ty:({ s with heap:=s.heap.push { cls:=.type "dict",data:=.dict #[] } }:Shared).TypeIs (.ref l) "list":=⟨o,kp _ _ hl,hc⟩
 unfold Builtin.«dict.__init__» Builtin.Dict.selfAndRest
 refine wpAny_bind (wpAny_bind (wpAny_notOrdered_dict new.typeIs ?_))
 dsimp only
 refine wpAny_bind (wpAny_pure (wpAny_pure ?_))
 unfold Builtin.Dict.updateCommon Builtin.Dict.updateFrom
 dsimp only
 refine wpAny_bind (wpAny_typeOf ty ?_)
 refine wpAny_ite_true (by decide) (wpAny_bind (Au (A:=A.in1.in1) hh (kp _ _ hl) hc hd hn fun h1 t1 k1=>?_))
 refine wpAny_ite_true rfl (wpAny_bind (wpAny_rule ?_))
 have k2:∀ b q,s.heap.get? b=some q→h1.get? b=some q:=fun b q e=>k1 b q (kp b q e)
 have l1:h1.IsList l us.toArray:=⟨o,k2 _ _ hl,hc,c,hd⟩
 have new1:h1.DictOf knd s.heap.objs.size []:=by obtain ⟨q,es,ep,hq,rest⟩:=new;exact ⟨q,es,ep,k1 _ _ hq,rest⟩
 have lt:s.heap.objs.size<h1.objs.size:=by obtain ⟨q,es,ep,hq,rest⟩:=new1;exact Heap.lt_size hq
 refine wpAny_bind (wpAny_pyIter_list (s:= { s with heap:=h1,toks:=t1 }) l1 ?_)
 refine wpAny_pure ⟨plainId_quiet jV _,?_⟩
 refine tK (A:=A.in1) (h0:=s.heap) (I:=h1.objs.size) hh (Nat.le_refl _) (Nat.le_of_lt lt) (Nat.ne_of_lt lt) ⟨o,hl,hc,c,hd⟩ us kvs 0 _ [] rfl p (fun b q e=>Heap.get?_push_of_some _ (k2 b q e)) ⟨_,Heap.get?_push_size _ rfl,rfl,rfl⟩ (new1.push _) (by simpa using hz) fun h3 t3 k3 d3=>?_
 exact ⟨rfl,hQ h3 t3 k3 d3⟩
end
end L2
namespace L3
open PySem
def jB(kvs:List (PK×PV))(k:PK)(v:PV):List (PK×PV):=
 if (kvs.any fun kv=>decide (kv.1=k))=true then kvs.map (fun kv=>if kv.1=k then (kv.1,v) else kv) else kvs++ [(k,v)]
def mkD(ps:List (PK×PV)):List (PK×PV):=ps.foldl (fun acc kv=>jB acc kv.1 kv.2) []
def ox:List (Ex×Ex)→Ev→List PO→Res (List (PK×PV))
 | [],_,h=>.ok [] h
 | (a,b)::r,ρ,h=>(a ρ h).bind fun x h1=>(b ρ h1).bind fun y h2=>match kj x with
  | some k=>(ox r ρ h2).bind fun ps h3=>.ok ((k,y)::ps) h3
  | none=>.bad
def lT(fs:List (Ex×Ex)):Ex:=fun ρ h=>(ox fs ρ h).bind fun ps h1=>.ok (.dct (mkD ps)) h1
def vM:Ex:=fun _ h=>.ok (.ref h.length) (h++ [.dct []])
def nM(ps:List PV)(h:List PO):Res PV:=match ps with
 | [p]=>match dcR h p with
  | some kps=>.ok (.ref h.length) (h++ [.dct kps])
  | none=>.bad
 | _=>.bad
def jt:List PV→Option (List (PK×PV))
 | []=>some []
 | .tup [k,v]::r=>match kj k,jt r with
  | some kk,some l=>some ((kk,v)::l)
  | _,_=>none
 | _=>none
def iR(ps:List PV)(h:List PO):Res PV:=match ps with
 | [p]=>match lsR h p with
  | some xs=>match jt xs with
   | some l=>.ok (.ref h.length) (h++ [.dct (mkD l)])
   | none=>.bad
  | none=>.bad
 | _=>.bad
end L3
namespace Z
open PySem PySem.Spec PyProof.Rows L3 L2
section
variable {G:SC} {F:Fz} {m:List Addr} {kps:List (PK×PV)} {kvs:List (PK×Value)}
def RK(G:SC)(F:Fz)(m:List Addr)(kps:List (PK×PV))(kvs:List (PK×Value)):Prop:=kvs.map (·.1)=kps.map (·.1)∧aB G F m (kps.map (·.2)) (kvs.map (·.2))
theorem RK.length(r:RK G F m kps kvs):kvs.length=kps.length:=by have:=congrArg List.length r.1;simpa using this
theorem RK.mono{F':Fz}{m':List Addr}(r:RK G F m kps kvs)(hF:∀ a o,F a=some o→F' a=some o)(hm:Sub m m'):RK G F' m' kps kvs:=⟨r.1,r.2.mono hF (.inr hm)⟩
theorem RK.any(k:PK):∀ {kps:List (PK×PV)} {kvs:List (PK×Value)},kvs.map (·.1)=kps.map (·.1)→(kvs.any fun kv=>decide (kv.1=k))=kps.any fun kv=>decide (kv.1=k)
 | [],[],_=>rfl
 | [],_::_,h=>by simp at h
 | _::_,[],h=>by simp at h
 | a::r,b::t,h=>by simp only [List.map_cons,List.cons.injEq] at h;simp only [List.any_cons,h.1,RK.any k h.2]
theorem RK.repl{k:PK}{p:PV}{v:Value}(r:aZ G F m p v):∀ {kps:List (PK×PV)} {kvs:List (PK×Value)},RK G F m kps kvs→RK G F m (kps.map fun kv=>if kv.1=k then (kv.1,p) else kv) (kvs.map fun kv=>if kv.1=k then (kv.1,v) else kv)
 | [],[],h=>h
 | [],_::_,h=>by have:=h.1;simp at this
 | _::_,[],h=>by have:=h.1;simp at this
 | (k1,a)::t,(k2,b)::t',⟨h1,h2⟩=>by
  simp only [List.map_cons,List.cons.injEq] at h1
  obtain ⟨rfl,h1⟩:=h1
  cases h2 with
  | cons x y=>
   obtain ⟨i1,i2⟩:=RK.repl r ⟨h1,y⟩
   simp only [List.map_cons]
   by_cases z:k2=k
   ·simp only [z,if_true];exact ⟨by simp [i1],.cons r i2⟩
   ·simp only [z,if_false];exact ⟨by simp [i1],.cons x i2⟩
theorem RK.put{k:PK}{p:PV}{v:Value}(h:RK G F m kps kvs)(r:aZ G F m p v):RK G F m (jB kps k p) (stored kvs k v):=by
 unfold jB stored
 rw [RK.any k h.1]
 split
 ·exact h.repl r
 ·exact ⟨by rw [List.map_append,List.map_append,h.1];rfl,by rw [List.map_append,List.map_append];exact h.2.app (.cons r .nil)⟩
theorem RK.merge:∀ {more:List (PK×PV)} {mv:List (PK×Value)} {kps:List (PK×PV)} {kvs:List (PK×Value)},RK G F m more mv→RK G F m kps kvs→RK G F m (more.foldl (fun acc kv=>jB acc kv.1 kv.2) kps) (merged kvs mv)
 | [],[],_,_,_,h=>h
 | [],_::_,_,_,h,_=>by have:=h.1;simp at this
 | _::_,[],_,_,h,_=>by have:=h.1;simp at this
 | (k1,p1)::more,(k2,v2)::mv,kps,kvs,⟨h1,h2⟩,h=>by
  simp only [List.map_cons,List.cons.injEq] at h1 h2
  obtain ⟨rfl,h1⟩:=h1
  cases h2 with
  | cons a b=>show RK G F m (more.foldl _ (jB kps k2 p1)) (merged (stored kvs k2 v2) mv);exact RK.merge ⟨h1,b⟩ (h.put a)
theorem mV(k:PK)(v:Value):(stored kvs k v).length≤kvs.length+1:=by unfold stored;split<;>simp
theorem jG:∀ (mv:List (PK×Value)) (kvs:List (PK×Value)),(merged kvs mv).length≤kvs.length+mv.length
 | [],_=>Nat.le_refl _
 | (k,v)::mv,kvs=>by
  have:=jG mv (stored kvs k v)
  have:=mV (kvs:=kvs) k v
  show (merged (stored kvs k v) mv).length≤_
  simp;omega
end
section
variable {X:Cx} {w w1:Wo} {ρ:Ev} {h:List PO} {kps:List (PK×PV)} {kvs:List (PK×Value)} {s':Shared} {Q:Value→Shared→Prop} {E:Value→Shared→Prop} {a:Addr} {o:Obj} {pos:Pos}
theorem Wd.big(I:Wd X w h)(ok:X.Ok):(w.s.heap.objs.size==sysModules)=false:=by
 obtain ⟨o,es,ep,e,_⟩:=ok.gl
 have:=Heap.lt_size (I.bk e)
 exact beq_eq_false_iff_ne.mpr fun z=>absurd (z▸this) (by decide)
theorem bC.dm(p:bC X (RV X.toSC) w Q E (.ok (.ref h.length) (h++ [.dct kps])))(I:Wd X w h)(ok:X.Ok)(k:∀ b o,w.s.heap.get? b=some o→s'.heap.get? b=some o)(d:s'.heap.DictOf (pk X.prog X.w) w.s.heap.objs.size kvs)(z:kvs.length≤sizeLine)(r:RK X.toSC w.F w.m kps kvs)(ho:s'.os=w.s.os:=by rfl)(hg:s'.gens=w.s.gens:=by rfl):Q (.ref w.s.heap.objs.size) s':=by
 obtain ⟨o,es,ep,e1,e2,e3⟩:=d
 have sb:Sub w.m (w.m++ [w.s.heap.objs.size]):=fun i b e=>by rw [List.getElem?_append_left (List.getElem?_eq_some_iff.mp e).1];exact e
 exact p.2 _ _ (Nw.mk I.toHR (bd _) k ⟨(I.toHR.free (bd _)).2.1,o,kvs,e1,⟨e2,es,ep,e3⟩,I.big ok,z,r.1,(r.mono (fun _ _ e=>e) sb).2⟩ (fun _ _ e=>e) (fun _ _ e=>.inl e) ho hg) (.ref (by rw [I.len];simp))
theorem Nw.priv{o2:Obj}(n:Nw X w w1 h)(na:w.s.heap.get? a=none)(ha:Has w1 a o2)(sb:Heap.SameBut a w1.s.heap s'.heap)(e:s'.heap.get? a=some o)(ho:s'.os=w1.s.os:=by rfl)(hg:s'.gens=w1.s.gens:=by rfl):Nw X w { w1 with s:=s' } h∧Has { w1 with s:=s' } a o:=by
 have on:∀ b o,b≠a→w1.s.heap.get? b=some o→s'.heap.get? b=some o:=fun b o z e=>(sb.2 b z).trans e
 have ne:∀ {b o},w.s.heap.get? b=some o→b≠a:=fun q z=>by rw [z,na] at q;cases q
 refine ⟨⟨⟨ho.trans n.1.os,fun q=>hg▸n.1.ba q,n.1.fz,n.1.ow,n.1.pre,fun b o e=>let ⟨o',q⟩:=n.1.dom b o e;⟨o',on b o' (ne e) q⟩,fun b o q z=>let ⟨sl,q',z⟩:=n.1.keep b o q z;⟨sl,⟨on b _ (ne q.1) q'.1,q'.2⟩,z⟩⟩,n.2.on fun b o e z=>on b o (fun y=>z (y▸ha.2)) e⟩,e,ha.2⟩
theorem Nw.track{po:PO}(n:Nw X w w1 h)(na:w.s.heap.get? a=none)(ha:Has w1 a o)(q:oB X.toSC w1.F (w1.m++ [a]) w1.O w1.s.heap a po):Nw X w ⟨w1.F,w1.O,w1.m++ [a],w1.s⟩ (h++ [po]):=by
 have H:=n.2
 have ne:∀ {b o},w.s.heap.get? b=some o→b≠a:=fun q z=>by rw [z,na] at q;cases q
 have sb:Sub w1.m (w1.m++ [a]):=fun i b e=>by rw [List.getElem?_append_left (List.getElem?_eq_some_iff.mp e).1];exact e
 refine ⟨⟨n.1.os,n.1.ba,n.1.fz,n.1.ow,let ⟨t,e⟩:=n.1.pre;⟨t++ [a],by rw [e,List.append_assoc]⟩,n.1.dom,fun b o q z=>let ⟨sl,q',z⟩:=n.1.keep b o q z;⟨sl,⟨q'.1,fun y=>(List.mem_append.mp y).elim q'.2.1 fun y=>ne q.1 (by simpa using y),q'.2.2⟩,z⟩⟩,H.sub,fun d b e=>let ⟨x,z,y⟩:=H.own d b e;⟨x,fun q'=>(List.mem_append.mp q').elim z fun q'=>(by simp at q';rw [q',ha.2.2.2] at e;cases e),y⟩,by simp [H.len],List.nodup_append.mpr ⟨H.nd,by simp,fun x hx y hy z=>ha.2.1 (by simp at hy;rw [← hy,← z];exact hx)⟩,fun i ob b e1 e2=>?_⟩
 rcases Nat.lt_or_ge i h.length with l | l
 ·rw [List.getElem?_append_left l] at e1
  rw [List.getElem?_append_left (H.len▸l)] at e2
  exact (H.obj i ob b e1 e2).on (fun _ _ e=>e) (fun _ e=>e) sb (fun _ _ e _=>e) id
 ·rw [List.getElem?_append_right l] at e1
  rw [List.getElem?_append_right (H.len▸l),← H.len] at e2
  cases z:i - h.length with
  | zero=>rw [z] at e1 e2;cases e1;cases e2;exact q
  | succ _=>rw [z] at e1;simp at e1
theorem zZ:RE X (.Dict [] [] pos) vM:=⟨fun {w ρ h Q E} I p=>wpAny_Dict_empty (bC.dm p I.toWd I.ok (fun _ _ e=>Heap.get?_push_of_some _ e) (Heap.DictOf.new _) (Nat.zero_le _) ⟨rfl,.nil⟩)⟩
theorem As:OpC X (.type "dict") nM:=fun ok {w h p u Q E} I rs k=>by
 unfold nM at k
 split at k
 ·obtain ⟨u,rfl,r⟩:=rs.one
  split at k
  ·obtain ⟨a,kvs,rfl,y,d,r⟩:=I.dc r ‹_›
   exact kt_call_dict y d r.1 fun h' dd' hs=>bC.dm k I ok (fun b q hq=>(hs.2 b (Nat.ne_of_lt (Heap.lt_size hq))).trans (Heap.get?_push_of_some _ hq)) dd' r.1 r.2
  ·exact k.elim
 ·exact k.elim
theorem ye(H:HR X.toSC w h):∀ {xs:List PV} {us:List Value} {l:List (PK×PV)},aB X.toSC w.F w.m xs us→jt xs=some l→∃ kvs,Prs (pk X.prog X.w) w.s.heap us kvs∧RK X.toSC w.F w.m l kvs
 | [],_,_,.nil,e=>by cases e;exact ⟨[],.nil,rfl,.nil⟩
 | x::r,_,l,.cons r1 t,e=>by
  unfold jt at e
  split at e
  ·rename_i q;cases q
  ·rename_i q
   cases q
   split at e<;>cases e
   obtain ⟨kvs,p,rk⟩:=ye H t ‹_›
   obtain ⟨a,its,rfl,y,z,rr⟩:=H.sq r1 rfl
   obtain ⟨u,v,e,ru,rv⟩:=rr.two
   have:its= #[u,v]:=by cases its;cases e;rfl
   subst this
   exact ⟨_::kvs,.cons y.tup (jI ru ‹_›) p,by simp [rk.1],.cons rv rk.2⟩
  ·cases e
theorem Ak{us:List Value}(p:Prs (pk X.prog X.w) w.s.heap us kvs):kvs.length=us.length:=by
 induction p with
 | nil=>rfl
 | cons _ _ _ ih=>simp [ih]
theorem uV(hc:X.calm=true):OpC X (.type "dict") iR:=fun ok {w h p u Q E} I rs k=>by
 unfold iR at k
 split at k
 ·obtain ⟨u,rfl,r⟩:=rs.one
  split at k
  ·split at k
   ·obtain ⟨a,its,rfl,⟨n,y⟩,z,r⟩:=I.sq r (fe ‹_›)
    obtain ⟨kvs,pm,rk⟩:=ye I.toHR r ‹_›
    have l2:=Ak pm
    refine uk (us:=its.toList) (ok.hd hc) y rfl rfl rfl pm z fun h' tk kp d=>bC.dm k I ok kp d ?_ (RK.merge rk ⟨rfl,.nil⟩)
    exact Nat.le_trans (jG _ _) (by simp;rw [l2];exact z)
   ·exact k.elim
  ·exact k.elim
 ·exact k.elim
structure RPs(X:Cx)(pos:Pos)(keys:List (Option Expr))(values:List Expr)(fs:List (Ex×Ex)):Prop where
 r:∀ {w:Wo} {ρ:Ev} {h:List PO} {Q:List (Value×Value)→Shared→Prop} {E:Value→Shared→Prop},Inv X w ρ h→bC X (fun w ps vs=>∃ kvs,Carries (pk X.prog X.w) vs kvs∧RK X.toSC w.F w.m ps kvs∧kvs.length=keys.length) w Q E (ox fs ρ h)→Wp X (evalPairs (pairTrees keys values X.env pos)) Q E w.s
theorem qk:RPs X pos [] [] []:=⟨fun I p=>pairTrees_nil_walk (p.here I.toHR ⟨[],trivial,⟨rfl,.nil⟩,rfl⟩)⟩
theorem dH{k v:Expr}{fa fb:Ex}{keys:List (Option Expr)}{values:List Expr}{fs:List (Ex×Ex)}(hk:RE X k fa)(hv:RE X v fb)(hr:RPs X pos keys values fs):RPs X pos (some k::keys) (v::values) ((fa,fb)::fs):=⟨fun I p=>pairTrees_cons_walk (hk.r I (p.bind fun _ _ x _ y1 r1 p=>hv.r (I.on y1) (p.bind fun _ _ _ _ y2 r2 p=>by
 split at p
 ·refine hr.r ((I.on y1).on y2) (p.bind fun _ _ _ _ y3 ⟨kvs,c,rk,l⟩ p=>p.here y3.2 ⟨(_,_)::kvs,⟨jI (y2.1.rep r1) ‹_›,rfl,c⟩,⟨by simp [rk.1],.cons (y3.1.rep r2) rk.2⟩,by simp [l]⟩)
 ·exact p.elim)))⟩
theorem Hi{keys:List (Option Expr)}{values:List Expr}{fs:List (Ex×Ex)}{k:List (PK×PV)→List PO→Res PV}(hr:RPs X pos keys values fs)(hall:keys.all (·.isSome)=true)(hl:keys.length=values.length)(h0:keys≠ [])(h15:keys.length≤15)
  (go:∀ {w w2:Wo} {h2:List PO} {a:Addr} {ps:List (PK×PV)} {kvs:List (PK×Value)} {o:Obj} {Q:Value→Shared→Prop} {E:Value→Shared→Prop},Nw X w w2 h2→w.s.heap.get? a=none→(a==sysModules)=false→Has w2 a o→DO X.toSC o kvs→kvs.length≤sizeLine→RK X.toSC w2.F w2.m (mkD ps) kvs→bC X (RV X.toSC) w Q E (k ps h2)→Q (.ref a) w2.s):RE X (.Dict keys values pos) (fun ρ h=>(ox fs ρ h).bind k):=⟨fun {w ρ h Q E} I p=>wpAny_Dict_walk (knd:=pk X.prog X.w) hall hl h0 h15 (by
 have n1:=Nw.also (X:=X) (s':= { w.s with heap:=w.s.heap.push { cls:=.type "dict",data:=.dict #[] } }) I.toHR fun _ _ e=>Heap.get?_push_of_some _ e
 refine hr.r (I.on n1) ?_
 cases e:ox fs ρ h with
 | bad=>rw [e] at p;exact p
 | exc _ _=>rw [e] at p;exact ⟨p.1,fun w' u y r=>p.2 w' u (n1.trans y) (r.back n1.1)⟩
 | ok ps h2=>
  rw [e] at p
  refine ⟨p.ep,fun w2 vs y ⟨kvs,c,rk,l⟩=>?_⟩
  have na:=bd w.s.heap
  have z:w.s.heap.objs.size∉X.fs:=fun z=>by obtain ⟨o,q,_⟩:=I.fr _ z;have q:=q.1;rw [na] at q;cases q
  obtain ⟨sl,ha,zz⟩:=y.1.keep w.s.heap.objs.size _ ⟨Heap.get?_push_size _ rfl,I.toHR.free na⟩ fun z=>z
  cases zz.resolve_left z
  obtain ⟨o,es,ep,e1,e2⟩:(w.s.heap.push { cls:=.type "dict",data:=.dict #[] }).DictOf (pk X.prog X.w) w.s.heap.objs.size []:=Heap.DictOf.new _
  rw [Heap.get?_push_size _ rfl] at e1
  cases e1
  refine ⟨kvs,c,⟨_,es,ep,ha.1,e2⟩,fun h' ⟨o',es',ep',g1,g2⟩ sb=>?_⟩
  obtain ⟨n3,ha3⟩:=Nw.priv (s':= { w2.s with heap:=h',toks:=w2.s.toks+vs.length }) (n1.trans y) na ha sb g1
  exact go n3 na (I.big I.ok) ha3 ⟨g2.1,es',ep',g2.2⟩ (Nat.le_trans (jG _ _) (by rw [sizeLine_eq];simp;omega)) (RK.merge rk ⟨rfl,.nil⟩) p)⟩
theorem qp{keys:List (Option Expr)}{values:List Expr}{fs:List (Ex×Ex)}(hr:RPs X pos keys values fs)(hall:keys.all (·.isSome)=true:=by rfl)(hl:keys.length=values.length:=by rfl)(h0:keys≠ []:=by intro z;cases z)(h15:keys.length≤15:=by decide):RE X (.Dict keys values pos) (lT fs):=Hi hr hall hl h0 h15 fun {w w2 h2 a ps kvs o Q E} n na sm ha d z r p=>p.2 ⟨gz w2.F a o,w2.O,w2.m,w2.s⟩ _ (n.freeze na ha) (.dct bD d sm z r.1 (r.mono (cJ ha.2.2.1) fun _ _ e=>e).2)
end
end Z
namespace L3
open PySem L2
def fK(h:List PO):PV→Option (Nat×List PV)
 | .ref i=>match h[i]? with
  | some (.lst xs)=>some (i,xs)
  | _=>none
 | _=>none
def sy(h:List PO):PV→Option (Nat×List (PK×PV))
 | .ref i=>match h[i]? with
  | some (.dct kvs)=>some (i,kvs)
  | _=>none
 | _=>none
def dG(v o i:PV)(ρ:Ev)(h:List PO):SR:=match fK h o,i with
 | some (n,xs),.int k=>match ixN xs.length k with
  | some j=>.nx ρ (h.set n (.lst (xs.set j v)))
  | none=>.bad
 | _,_=>.bad
def fR(fo fi fv:Ex):Sx:=fun ρ h=>dB (fv ρ h) fun v h1=>dB (fo ρ h1) fun o h2=>dB (fi ρ h2) fun i h3=>dG v o i ρ h3
def oO(v o i:PV)(ρ:Ev)(h:List PO):SR:=match sy h o,kj i with
 | some (n,kps),some k=>if kps.length<sizeLine then .nx ρ (h.set n (.dct (jB kps k v))) else .bad
 | _,_=>.bad
def uH(fo fi fv:Ex):Sx:=fun ρ h=>dB (fv ρ h) fun v h1=>dB (fo ρ h1) fun o h2=>dB (fi ρ h2) fun i h3=>oO v o i ρ h3
def fzP(h:List PO)(p:PV):Option (PV×List PO):=match sy h p with
 | some (i,kvs)=>if cW kvs=true then some (.dct kvs,h.set i (.froz (.dct kvs))) else none
 | none=>ir h p
def fzR(p:PV)(h:List PO):Res PV:=match fzP h p with
 | some (q,h2)=>.ok q h2
 | none=>.bad
def cFz(f:Ex):Ex:=fun ρ h=>(f ρ h).bind fzR
def cM(recv:List PO→PV→Bool)(g:PV→List PV→List PO→Res PV)(o:Ex)(as:Ax):Ex:=fun ρ h=>(o ρ h).bind fun p h1=>if recv h1 p=true then (as ρ h1).bind fun ps h2=>g p ps h2 else .bad
def bH(p:PV)(ps:List PV)(h:List PO):Res PV:=match ps with
 | [q]=>match fK h p with
  | some (i,xs)=>if xs.length<sizeLine then .ok .non (h.set i (.lst (xs++ [q]))) else .bad
  | none=>.bad
 | _=>.bad
end L3
namespace Z
open PySem PySem.Spec PyProof.Rows L3 L2
section
variable {G:SC} {X:Cx} {w w1:Wo} {ρ:Ev} {h:List PO} {p:PV} {u:Value} {i:Nat} {ps:List PV} {kps:List (PK×PV)} {a:Addr} {o:Obj}
theorem HR.ll(H:HR G w h)(r:aZ G w.F w.m p u)(k:fK h p=some (i,ps)):∃ a its n,u= .ref a∧w.m[i]? =some a∧w.F a=none∧w.s.heap.get? a=some { cls:=.type "list",data:=.seq its n }∧its.size≤sizeLine∧aB G w.F w.m ps its.toList:=by
 unfold fK at k
 split at k
 ·split at k<;>cases k
  rename_i q
  cases r with
  | ref e=>obtain ⟨f,its,n,g,z,r⟩:=H.obj _ _ _ q e;exact ⟨_,its,n,rfl,e,f,g,z,r⟩
 ·cases k
theorem HR.ld(H:HR G w h)(r:aZ G w.F w.m p u)(k:sy h p=some (i,kps)):∃ a o kvs,u= .ref a∧w.m[i]? =some a∧w.F a=none∧(a==sysModules)=false∧w.s.heap.get? a=some o∧DO G o kvs∧kvs.length≤sizeLine∧RK G w.F w.m kps kvs:=by
 unfold sy at k
 split at k
 ·split at k<;>cases k
  rename_i q
  cases r with
  | ref e=>obtain ⟨f,o,kvs,g,d,y,z,c,r⟩:=H.obj _ _ _ q e;exact ⟨_,o,kvs,rfl,e,f,y,g,d,z,c,r⟩
 ·cases k
theorem aB.set{F:Fz}{m:List Addr}{x:PV}{u:Value}(r:aZ G F m x u):∀ {xs:List PV} {us:List Value} (i:Nat),aB G F m xs us→aB G F m (xs.set i x) (us.set i u)
 | _,_,_,.nil=>.nil
 | _,_,0,.cons _ t=>.cons r t
 | _,_,i+1,.cons q t=>.cons q (aB.set r i t)
theorem Nw.lupd{f:Obj→Obj}{its':Array Value}{n' tk:Nat}(H:HR X.toSC w h)(em:w.m[i]? =some a)(hf:w.F a=none)(e:w.s.heap.get? a=some o)(ef:f o= { cls:=.type "list",data:=.seq its' n' })(z:its'.size≤sizeLine)(r:aB X.toSC w.F w.m ps its'.toList):Nw X w { w with s:= { w.s with heap:=w.s.heap.update a f,toks:=tk } } (h.set i (.lst ps)):=by
 have eu:(w.s.heap.update a f).get? a=some { cls:=.type "list",data:=.seq its' n' }:=ef▸Heap.get?_update_self _ e (by rw [ef];rfl)
 exact Nw.upd (s':= { w.s with heap:=w.s.heap.update a f,toks:=tk }) H em hf (fun b o' e=>by
  by_cases z:b=a
  ·exact .inl z
  ·exact .inr (.inr ((Heap.get?_update_ne _ _ _ _ z).trans e))) (fun b o' e=>by
  by_cases z:b=a
  ·exact ⟨{ cls:=.type "list",data:=.seq its' n' },by subst z;exact eu⟩
  ·exact ⟨o',(Heap.get?_update_ne _ _ _ _ z).trans e⟩) ⟨hf,its',n',eu,z,r⟩
variable {oe ie ve:Expr} {fo fi fv:Ex} {px pos:Pos}
theorem dY(ho:RE X oe fo)(hi:RE X ie fi)(hv:RE X ve fv)
  (hs:swapsWith ve (some (.Subscript oe ie px)) pos.line X.env=pure false:=by rfl):RS X (.Assign [.Subscript oe ie px] ve pos) (fR fo fi fv):=⟨fun {w ρ h Q E} I p=>wpAny_Assign_Subscript (hv.r I (bu.e p I fun w1 h1 pv v y1 I1 rv p=>ho.r I1 (bu.e p I1 fun w2 h2 po u y2 I2 ro p=>hi.r I2 (bu.e p I2 fun w3 h3 pi iv y3 I3 ri p=>by
 unfold dG at p
 split at p
 ·rename_i el
  split at p
  ·rename_i j hj
   obtain ⟨a,its,n,rfl,em,hf,e,z,r⟩:=I3.toHR.ll (y3.1.rep ro) el
   cases ri
   obtain ⟨h1,h2,h3,h4⟩:=vg hj
   have hl:=r.len
   have sl:=sizeLine_eq
   have hz:∀ t,Nw X w3 { w3 with s:= { w3.s with heap:=w3.s.heap.update a (Obj.mapSeq (·.setIfInBounds j v)),toks:=t } } _:=fun t=>Nw.lupd (its':=its.setIfInBounds j v) (n':=n) I3.toHR em hf e (by simp [Obj.mapSeq]) (by simpa using z) (by simpa using r.set (y3.1.rep (y2.1.rep rv)) j)
   rename_i k _ _
   by_cases h0:0≤k
   ·have hk:k.toNat=j:=by rw [seqIndex_of h0 h4] at h1;exact Option.some.inj h1
    exact PySem.W.ki_setAt e h0 (by omega) (by rw [← hl];exact h4) (by rw [hk];exact p.2 _ (hz _).s (I3.on (hz _)))
   ·have hk:(k+(its.size:Int)).toNat=j:=by rw [seqIndex_neg (by omega) h3] at h1;rw [← hl];exact Option.some.inj h1
    exact PySem.W.ki_setBack e (by omega) (by rw [← hl];exact h3) (by omega) (by rw [hk];exact p.2 _ (hz _).s (I3.on (hz _)))
  ·exact p.elim
 ·exact p.elim)))) hs⟩
theorem uJ(ho:RE X oe fo)(hi:RE X ie fi)(hv:RE X ve fv)
  (hs:swapsWith ve (some (.Subscript oe ie px)) pos.line X.env=pure false:=by rfl):RS X (.Assign [.Subscript oe ie px] ve pos) (uH fo fi fv):=⟨fun {w ρ h Q E} I p=>wpAny_Assign_Subscript (hv.r I (bu.e p I fun w1 h1 pv v y1 I1 rv p=>ho.r I1 (bu.e p I1 fun w2 h2 po u y2 I2 ro p=>hi.r I2 (bu.e p I2 fun w3 h3 pi iv y3 I3 ri p=>by
 unfold oO at p
 split at p
 ·rename_i el ek
  split at p
  ·rename_i hz
   obtain ⟨a,o,kvs,rfl,em,hf,sm,e,d,z,r⟩:=I3.toHR.ld (y3.1.rep ro) el
   refine wpAny_setItem_pairs (hsz:=z) (jI ri ek) (d.of e) fun h' dd' sb=>?_
   obtain ⟨o',es,ep,e1,e2,e3⟩:=dd'
   have r':=r.put (k:= ‹PK›) (y3.1.rep (y2.1.rep rv))
   have y4:=Nw.upd (X:=X) (s':= { w3.s with heap:=h',toks:=w3.s.toks+1 }) I3.toHR em hf (fun b o e=>by
     by_cases z:b=a
     ·exact .inl z
     ·exact .inr (.inr ((sb.2 b z).trans e))) (fun b o e=>by
     by_cases z:b=a
     ·exact ⟨o',by subst z;exact e1⟩
     ·exact ⟨o,(sb.2 b z).trans e⟩) (po:=.dct _) ⟨hf,o',_,e1,⟨e2,es,ep,e3⟩,sm,Nat.le_trans (mV _ _) (by rw [r.length];exact hz),r'.1,r'.2⟩
   exact p.2 _ y4.s (I3.on y4)
  ·exact p.elim
 ·exact p.elim)))) hs⟩
theorem xL{ae:Expr}{fa:Ex}(ha:RE X ae fa):RE X ae (cFz fa):=⟨fun I p=>ha.r I (p.bind fun w1 h1 q u y r p=>by
 unfold fzR fzP at p
 split at p
 ·rename_i e
  split at e
  ·split at e<;>cases e
   rename_i hp
   obtain ⟨a,o,kvs,rfl,em,hf,sm,e,d,z,r'⟩:=y.2.ld r ‹_›
   have rr:aZ X.toSC (gz w1.F a o) w1.m (.dct _) (.ref a):=.dct bD d sm z r'.1 (r'.2.mono (cJ hf) (.inr fun _ _ e=>e))
   exact p.2 ⟨gz w1.F a o,w1.O,w1.m,w1.s⟩ _ (y.2.fix em hf e rr (by simpa [PV.pure] using hp)) rr
  ·obtain ⟨F',n,r',_⟩:=y.2.frz (X:=X) r e
   exact p.2 ⟨F',w1.O,w1.m,w1.s⟩ _ n r'
 ·exact p.elim)⟩
end
end Z
namespace L3
open PySem L2
def sE(_:List PO)(p:PV):Bool:=match p with
 | .str _=>true
 | _=>false
def bM(h:List PO)(p:PV):Bool:=(lsR h p).isSome
def dU:List PV→Option (List (List Nat))
 | []=>some []
 | .str l::r=>(dU r).map (l:: ·)
 | _::_=>none
def jv(sep:List Nat):List (List Nat)→List Nat
 | []=> []
 | [x]=>x
 | x::rest=>x++sep++jv sep rest
def lN(p:PV)(ps:List PV)(h:List PO):Res PV:=match p,ps with
 | .str sep,[q]=>match lsR h q with
  | some xs=>match dU xs with
   | some ls=>if (ls.map (·.length)).sum+ls.length * sep.length≤16777216 then .ok (.str (jv sep ls)) h else .bad
   | none=>.bad
  | none=>.bad
 | _,_=>.bad
end L3
namespace Z
open PySem PySem.Spec PyProof.Rows L3 L2
section
variable {G:SC} {X:Cx} {w w1:Wo} {ρ:Ev} {h:List PO} {p:PV} {u:Value} {i:Nat} {ps:List PV} {kps:List (PK×PV)} {kvs:List (PK×Value)} {a:Addr} {o:Obj} {h':Heap}
def OpM(X:Cx)(id:String)(g:PV→List PV→List PO→Res PV):Prop:=
 ∀ {w h p u ps us Q E},Wd X w h→aZ X.toSC w.F w.m p u→aB X.toSC w.F w.m ps us→bC X (RV X.toSC) w Q E (g p ps h)→Wp X (call (.builtin id) (u::us)) Q E w.s
def TyM(X:Cx)(Ty:String)(recv:List PO→PV→Bool):Prop:=∀ {w h p u},HR X.toSC w h→aZ X.toSC w.F w.m p u→recv h p=true→w.s.TypeIs u Ty∧∀ a,u= .ref a→∃ ob,w.s.heap.get? a=some ob∧ob.dict=none
theorem dJ{Ty:String}{recv:List PO→PV→Bool}{name:Str}{id:String}{g:PV→List PV→List PO→Res PV}{oe e:Expr}{es:List Expr}{fo:Ex}{fs:Ax}{apos cpos:Pos}(ty:TyM X Ty recv)(pa:PlainAttrs Ty)(kL:Slot Ty name id)(hty:typeOf (.builtin id)=pure (.type "method_descriptor"))(hm:OpM X id g)
  (ho:RE X oe fo) (ha:RA X (e::es) fs)
  (hbase:attributeBase oe name X.env (eval oe X.env)=eval oe X.env:=by rfl)
  (hfew:((backTo cpos (starEach (e::es) X.env)).all (fun x=>!x.1)&&(backToKw cpos (keywordEach [] X.env)).all (fun x=>x.1.isSome)
   &&decide ((e::es).length+([]:List Keyword).length+(if ([]:List Keyword).isEmpty then 0 else 1)<30))=true:=by rfl)
  (hline:(apos.endLine==cpos.line)=true:=by rfl) (hs:starEach (e::es) X.env=(false,eval e X.env)::starEach es X.env:=by rfl) (hplain:(backTo cpos (starEach es X.env)).any (·.1)=false:=by rfl):
  RE X (.Call (.Attribute oe name apos) (e::es) [] cpos) (cM recv g fo fs):=⟨fun I p=>wpAny_Call_method_late hbase hfew hline rfl (ho.r I (p.bind fun w1 h1 q u y r p=>by
 split at p
 ·obtain ⟨t1,t2⟩:=ty y.2 r ‹_›
  refine ⟨Ty,id,pa,kL,hty,t1,t2,?_⟩
  have hA:=ha.r cpos (I.on y) (p.bind (G:=fun us s=>Wp X (call (.builtin id) (u::us)) _ _ s) fun w2 h2 qs us y2 r2 p=>hm ((I.on y).on y2).toWd (y2.1.rep r) r2 p)
  rw [hs] at hA ⊢
  exact Calls.callWith_builtin (by show (false||(backTo cpos (starEach es X.env)).any (·.1))=false;rw [hplain]<;>rfl) (Calls.evalArgs_plain hA)
 ·exact p.elim))⟩
theorem xn:TyM X "str" sE:=fun H r e=>by
 unfold sE at e
 split at e
 ·cases r;exact ⟨typeIs_str _ _ _,fun _ e=>nomatch e⟩
 ·cases e
theorem cU:TyM X "list" bM:=fun H r e=>by
 obtain ⟨xs,ex⟩:=Option.isSome_iff_exists.mp e
 obtain ⟨a,its,rfl,⟨n,y⟩,_⟩:=H.sq r (fe ex)
 exact ⟨⟨_,y,rfl⟩,fun _ e=>by cases e;exact ⟨_,y,rfl⟩⟩
theorem cY:OpM X "list.append" bH:=fun {w h p u ps us Q E} I r rs k=>by
 unfold bH at k
 split at k
 ·split at k
  ·split at k
   ·obtain ⟨v,rfl,rv⟩:=rs.one
    obtain ⟨a,its,n,rfl,em,hf,e,z,r⟩:=I.toHR.ll r ‹_›
    refine call_meets F.slot_list_append ⟨_,e,rfl⟩ F.entry_list_append (F.args_list_append_2 _ _) (PySem.list_append a its n v z) ⟨e,?_⟩
    exact k.2 _ _ (Nw.lupd (f:=Obj.mapSeq (·.push v)) (its':=its.push v) (tk:=w.s.toks) I.toHR em hf e (by simp [Obj.mapSeq];rfl) (by have:=r.len;simp;omega) (by simpa using r.app (.cons rv .nil))) .non
   ·exact k.elim
  ·exact k.elim
 ·exact k.elim
theorem ig{F:Fz}{m:List Addr}:∀ {ps:List PV} {us:List Value} {ls:List (List Nat)},dU ps=some ls→aB G F m ps us→StrsAre us (ls.map S)
 | [],_,_,e,.nil=>by cases e;exact .nil
 | p::r,_,ls,e,.cons rp t=>by
  cases p with
  | str l=>
   simp only [dU,Option.map_eq_some_iff] at e
   obtain ⟨ls',e1,rfl⟩:=e
   cases rp
   exact .cons _ _ (ig e1 t)
  | _=>simp [dU] at e
theorem BD(a b:List Nat):S a++S b=S (a++b):=by
 show (⟨(S a).cps++(S b).cps⟩:Str)=_
 simp [S]
theorem Db(sep:List Nat)(xs:List (List Nat)):Txt.join (S sep) (xs.map S)=S (jv sep xs):=by
 have go:∀ xs:List (List Nat),Str.join (S sep) (xs.map S)=S (jv sep xs):=by
  intro xs
  induction xs with
  | nil=>rfl
  | cons x r ih=>
   cases r with
   | nil=>rfl
   | cons y r=>
    have e:jv sep (x::y::r)=x++sep++jv sep (y::r):=rfl
    rw [e,← BD,← BD,← ih]
    rfl
 show Builtin.Str.glued _ _=_
 rw [StrLaws.glued_eq_join]
 exact go xs
theorem vc:OpM X "str.join" lN:=fun {w h p u ps us Q E} I r rs k=>by
 unfold lN at k
 split at k
 ·split at k
  ·split at k
   ·split at k
    ·rename_i el hz
     cases r
     obtain ⟨v,rfl,rv⟩:=rs.one
     obtain ⟨a,its,rfl,y,_,r⟩:=I.sq rv (fe ‹_›)
     refine join_list y.pl.isList (ig ‹_› r) ?_ fun t' k'=>by rw [Db];exact k.now I.toHR (.str _ _)
     rw [List.map_map,List.length_map,fO,show ((fun x:Str=>x.length)∘S)=(·.length) from funext fO];exact hz
    ·exact k.elim
   ·exact k.elim
  ·exact k.elim
 ·exact k.elim
end
end Z
namespace L3
open PySem L2
def fg(y x:List Nat)(lo:Nat):Option Nat:=(List.range (x.length+1)).find? fun i=>decide (lo≤i)&&y.isPrefixOf (x.drop i)
def vj(y x:List Nat):Bool:=(fg y x 0).isSome
def yq(p q:PV)(h:List PO):Option Bool:=match q with
 | .str b=>match p with
  | .str a=>some (vj a b)
  | _=>none
 | q=>match dcR h q with
  | some kvs=>match kj p with
   | some k=>some (hZ kvs k).isSome
   | none=>none
  | none=>match sqR h q with
   | some xs=>if okD [] p=true∧xs.all (okD [])=true then some (xs.any fun y=>PyData.eqv (toD y) (toD p)) else none
   | none=>none
def pIn(p q:PV)(h:List PO):Res PV:=match yq p q h with
 | some b=>.ok (.bl b) h
 | none=>.bad
def yk(p q:PV)(h:List PO):Res PV:=match yq p q h with
 | some b=>.ok (.bl (!b)) h
 | none=>.bad
end L3
namespace Z
open PySem PySem.Spec PyProof.Rows L3 L2
theorem oM(x y:List Nat)(i:Nat)(hi:i+y.length≤x.length):Builtin.Str.subAt (S x) (S y) i=y.isPrefixOf (x.drop i):=by
 unfold Builtin.Str.subAt
 rw [fO]
 rw [Bool.eq_iff_iff,beq_iff_eq,List.isPrefixOf_iff_prefix]
 have e:(S x).cps.extract i (i+y.length)=((x.drop i).take y.length).toArray:=by
  apply Array.toList_inj.mp
  simp [S,List.extract_eq_drop_take]
 rw [e]
 show ((x.drop i).take y.length).toArray=(S y).cps↔_
 constructor
 ·intro h
  have h':(x.drop i).take y.length=y:=by simpa [S] using congrArg Array.toList h
  refine ⟨(x.drop i).drop y.length,?_⟩
  have q:=List.take_append_drop y.length (x.drop i)
  rw [h'] at q
  exact q
 ·rintro ⟨t,ht⟩
  rw [← ht,List.take_left];rfl
theorem uo(x y:List Nat)(i:Nat):StrLaws.At (S x) (S y) (S x).length i↔i≤x.length∧y.isPrefixOf (x.drop i)=true:=by
 unfold StrLaws.At
 rw [fO,fO]
 constructor
 ·rintro ⟨h1,h2⟩
  rw [oM x y i h1] at h2
  exact ⟨by omega,h2⟩
 ·rintro ⟨h1,h2⟩
  have:i+y.length≤x.length:=by
   have:=(List.isPrefixOf_iff_prefix.mp h2).length_le
   rw [List.length_drop] at this
   omega
  exact ⟨this,by rw [oM x y i this];exact h2⟩
theorem tM(x y:List Nat)(lo:Nat):Builtin.Str.occurrences (S x) (S y) lo (S x).length 1=(fg y x lo).toList:=by
 have hlen:=StrLaws.occ_length_le (S x) (S y) lo (S x).length 1
 rcases StrLaws.occ_head_from (S x) (S y) lo 1 (Nat.le_refl _) with ⟨h0,hn⟩ | ⟨i,r,h0,hl,ha,hn⟩
 ·rw [h0]
  have:fg y x lo=none:=by
   unfold fg
   rw [List.find?_eq_none]
   intro i hi hc
   simp only [Bool.and_eq_true,decide_eq_true_eq] at hc
   exact hn i hc.1 ((uo x y i).mpr ⟨by have:=List.mem_range.mp hi;omega,hc.2⟩)
  rw [this];rfl
 ·rw [h0] at hlen ⊢
  have hr:r= []:=by cases r with
   | nil=>rfl
   | cons _ _=>simp at hlen
  subst hr
  obtain ⟨a1,a2⟩:=(uo x y i).mp ha
  have:fg y x lo=some i:=by
   unfold fg
   rw [List.find?_range_eq_some]
   refine ⟨by simp [hl,a2],by simp;omega,fun j hj=>?_⟩
   simp only [Bool.not_eq_true',Bool.and_eq_false_iff,decide_eq_false_iff_not]
   rcases Nat.lt_or_ge j lo with q | q
   ·exact .inl (by omega)
   ·right
    cases z:y.isPrefixOf (x.drop j) with
    | false=>rfl
    | true=>exact absurd ((uo x y j).mpr ⟨by omega,z⟩) (hn j q hj)
  rw [this];rfl
theorem Hs(x y:List Nat):(!(Builtin.Str.occurrences (S x) (S y) 0 (S x).length 1).isEmpty)=vj y x:=by
 rw [tM]
 unfold vj
 cases fg y x 0<;>rfl
noncomputable def oq(h:Heap)(d:PyData)(y:Value):Bool:=open Classical in if q:∃ e as,Reads h y e as∧e.canLay0=true then PyData.eqv q.choose d else false
theorem vx{h:Heap}{d e:PyData}{y:Value}{as:List Addr}(r:Reads h y e as)(c:e.canLay0=true):oq h d y=PyData.eqv e d:=by
 have q:∃ e as,Reads h y e as∧e.canLay0=true:=⟨e,as,r,c⟩
 unfold oq
 rw [dif_pos q]
 obtain ⟨as',r',c'⟩:=q.choose_spec
 rw [SeqAt.Reads.unique _ _ _ _ _ c r r']
theorem sp{A:Around}{s:Shared}{d:PyData}{v:Value}{bs:List Addr}(rv:Reads s.heap v d bs)(cd:d.canLay0=true)(hu:A.units+d.depth<cLine):
  ∀ {us:List Value} {ds:List PyData} {as:List Addr},ReadsAll s.heap us ds as→ds.all PyData.canLay0=true→∀ u∈us,SeqAt.EqAt A s u v (oq s.heap d u)
 | _,_,_,.nil,_=>fun u hu=>by cases hu
 | _,_,_,.cons r t,c=>fun u hu'=>by
  simp only [List.all_cons,Bool.and_eq_true] at c
  rcases List.mem_cons.mp hu' with rfl | hu'
  ·rw [vx r c.1]
   exact SeqAt.eqAt_reads _ _ A s _ _ _ _ r rv c.1 cd (by have:=Nat.min_le_right (PyData.depth ‹PyData›) d.depth;omega)
  ·exact sp rv cd hu t c.2 u hu'
theorem sT{h:Heap}{d:PyData}:∀ {us:List Value} {ds:List PyData} {as:List Addr},ReadsAll h us ds as→ds.all PyData.canLay0=true→us.any (oq h d)=ds.any fun e=>PyData.eqv e d
 | _,_,_,.nil,_=>rfl
 | _,_,_,.cons r t,c=>by
  simp only [List.all_cons,Bool.and_eq_true] at c
  rw [List.any_cons,List.any_cons,vx r c.1,sT t c.2]
theorem gu:∀ l:List PyData,PyData.canLayAll0 l=l.all PyData.canLay0
 | []=>by simp [PyData.canLayAll0]
 | x::r=>by simp [PyData.canLayAll0,gu r]
theorem mU:∀ l:List PV,dC l=l.map toD
 | []=>by simp [dC]
 | x::r=>by simp [dC,mU r]
theorem vC(p:PV):dOf [] p=toD p:=by
 unfold dOf
 split
 ·simp [toD]
 ·rfl
section
variable {G:SC} {X:Cx} {w w1:Wo} {ρ:Ev} {h:List PO} {a b c:Expr} {fa fb fc:Ex} {pos:Pos}
theorem inB{p q:PV}{u v:Value}{k:Bool}{op:CmpOp}{neg:Bool}{Q:Value→Shared→Prop}{E:Value→Shared→Prop}(ho:op= .In∧neg=false∨op= .NotIn∧neg=true)(hu:X.A.units+64<cLine)(I:Wd X w h)(rp:aZ X.toSC w.F w.m p u)(rq:aZ X.toSC w.F w.m q v)(e:yq p q h=some k)(fin:∀ t,Q (.bool (if neg then !k else k)) { w.s with toks:=t }):Wp X (compareOp op u v) Q E w.s:=by
 unfold yq at e
 split at e
 ·split at e<;>cases e
  cases rp;cases rq
  rw [← Hs] at fin
  rcases ho with ⟨rfl,rfl⟩ | ⟨rfl,rfl⟩
  ·exact in_str (fin w.s.toks)
  ·exact notIn_str (fin w.s.toks)
 ·split at e
  ·split at e<;>cases e
   rename_i kk ek
   obtain ⟨a,kvs,rfl,sm,d,rr⟩:=I.dc rq ‹_›
   have:(hZ ‹_› kk).isSome=(valueAt kvs kk).isSome:=by
    rcases mw rr.2.1 rr.2.2 kk with ⟨p1,v1,h1,h2,_⟩ | ⟨h1,h2⟩
    ·rw [h1,h2];rfl
    ·rw [h1,h2];rfl
   rw [this] at fin
   rcases ho with ⟨rfl,rfl⟩ | ⟨rfl,rfl⟩
   ·exact wpAny_in_of (jI rp ek) sm d.mapOf (fin _)
   ·exact wpAny_notIn_of (jI rp ek) sm d.mapOf (fin _)
  ·split at e
   ·split at e
    ·rename_i hc
     cases e
     rename_i xs es
     have h1:(toD p).canLay0=true∧(toD p).depth≤60:=by
      have:=hc.1
      unfold okD at this
      simpa [vC] using this
     have h2:PyData.canLayAll0 (dC xs)=true:=by
      rw [gu,mU,List.all_map]
      rw [List.all_eq_true] at hc ⊢
      intro z hz
      have:=hc.2 z hz
      unfold okD at this
      rw [vC,Bool.and_eq_true] at this
      exact this.1
     have h3:(dC xs).all PyData.canLay0=true:=by rw [← gu];exact h2
     obtain ⟨t,e,ht⟩:=th es
     obtain ⟨a,its,rfl,y,z,r⟩:=I.sq rq e
     obtain ⟨as,ra⟩:=aZ.reads I.toHR rp h1.1
     obtain ⟨bs,rb⟩:=aB.reads I.toHR r h2
     have en:(xs.any fun y=>PyData.eqv (toD y) (toD p))=its.any (oq w.s.heap (toD p)):=by
      rw [show its.any (oq w.s.heap (toD p))=its.toList.any (oq w.s.heap (toD p)) by simp,sT rb h3,mU,List.any_map];rfl
     rw [en] at fin
     have me:=fun {B:Around} (hB:B.units+(toD p).depth<cLine) (x:Value) (hx:x∈its)=>sp (A:=B) ra h1.1 hB rb h3 x (by simpa using hx)
     have hb:X.A.in1.units+(toD p).depth<cLine:=by show X.A.units+1+_<_;omega
     rcases ht with rfl | rfl<;>rcases ho with ⟨rfl,rfl⟩ | ⟨rfl,rfl⟩
     ·exact SeqAt.in_tupleAt (oq w.s.heap (toD p)) y.tup (fun x hx=>me hb x hx) (fin _)
     ·exact SeqAt.notIn_tupleAt (oq w.s.heap (toD p)) y.tup (fun x hx=>me hb x hx) (fin _)
     ·exact SeqAt.in_listAt (oq w.s.heap (toD p)) y.pl.isList (fun x hx=>me hb x hx) (fin _)
     ·exact SeqAt.notIn_listAt (oq w.s.heap (toD p)) y.pl.isList (fun x hx=>me hb x hx) (fin _)
    ·cases e
   ·cases e
theorem Cu(hu:X.A.units+64<cLine):Op2 X (compareOp .In) pIn:=fun {w h p q u v Q E} I rp rq k=>by
 unfold pIn at k
 split at k
 ·exact inB (.inl ⟨rfl,rfl⟩) hu I rp rq ‹_› fun t=>k.now I.toHR (.bl _)
 ·exact k.elim
end
end Z
namespace Z
open PySem PySem.Spec PyProof.Rows L3 L2
end Z
namespace Z
open PySem PySem.Spec PyProof.Rows L3 L2
section
variable {G:SC} {X:Cx} {w w1:Wo} {ρ:Ev} {h:List PO}
theorem bC.seqAt{Q:Value→Shared→Prop}{E:Value→Shared→Prop}{pv:PV}{t:String}{ps:List PV}{its:Array Value}{n:Nat}{s':Shared}(p:bC X (RV X.toSC) w Q E (.ok pv h))(H:HR X.toSC w h){a:Addr}(na:w.s.heap.get? a=none)(kp:∀ b o,w.s.heap.get? b=some o→s'.heap.get? b=some o)(e:s'.heap.get? a=some { cls:=.type t,data:=.seq its n })(k:sqT pv=some (t,ps))(r:aB X.toSC w.F w.m ps its.toList)(z:its.size≤sizeLine)(ho:s'.os=w.s.os:=by rfl)(hg:s'.gens=w.s.gens:=by rfl):Q (.ref a) s':=
 have y:=Nw.lay (X:=X) H na kp e ho hg
 p.2 _ _ y (.sq k bD z (y.1.reps r))
theorem fB:OpC X (.type "tuple") cF:=fun ok {w h p u Q E} I rs k=>by
 unfold cF at k
 split at k
 ·obtain ⟨u,rfl,r1⟩:=rs.one
  show Wp X (call (.type "tuple") [u]) Q E w.s
  split at k
  ·rename_i e
   have sl:=sizeLine_eq
   unfold sqR at e
   split at e
   ·cases e
    obtain ⟨a,its,rfl,y,z,r⟩:=I.sq r1 rfl
    exact call_tuple_same y.tup (k.here I.toHR r1)
   ·obtain ⟨a,its,rfl,y,z,r⟩:=I.sq r1 (fe e)
    refine call_tuple_list y.pl.isList (fun h' kp=>?_) (by omega)
    have na:w.s.heap.get? h'.objs.size=none:=by
     cases q:w.s.heap.get? h'.objs.size with
     | none=>rfl
     | some o=>have:=kp _ _ q;rw [bd] at this;cases this
    exact k.seqAt I.toHR na (fun b o e=>Heap.get?_push_of_some _ (kp b o e)) (Heap.get?_push_size _ rfl) rfl r z
  ·exact k.elim
 ·exact k.elim
end
end Z
namespace L3
open PySem L2
end L3
namespace L2
open PySem PySem.Spec PyProof.Rows
end L2
namespace Z
open PySem PySem.Spec PyProof.Rows L3 L2
end Z
namespace L2
open PySem PySem.Spec PyProof.Rows
section
variable {prog:Program} {w:World} {A:Around} {E:Value→Shared→Prop} {s:Shared} {it t:Addr} {i:Nat} {items:Array Value}
theorem rW{Q:Value→Shared→Prop}(hit:s.heap.IsTupleIter it t i)
  (go:wpAny (model prog w) A.in1 (Builtin.«tuple_iterator.__next__» ⟨[.ref it],[]⟩) (fun fin s'=>∃ v,fin= .done (.ret v)∧Q v s') E s):wpAny (model prog w) A (Builtin.SmallTypes.nextOf (.ref it)) Q E s:=by
 have ty:=hit.typeIs
 have c:=wpAny_callSpecial?_slot (E:=E) (name:="__next__") (Q:=fun r s'=>∃ v,r=some v∧Q v s') ty F.slot_tuple_iterator_next (wpAny_call_entry F.slot_tuple_iterator_next ty F.entry_tuple_iterator_next (wpAny_mono go (fun fin s' ⟨v,e,q⟩=>⟨v,e,v,rfl,q⟩) fun _ _ z=>z) (F.args_tuple_iterator_next_1 _))
 unfold Builtin.SmallTypes.nextOf
 exact wpAny_bind (wpAny_mono c (fun r s' ⟨v,e,q⟩=>by subst e;exact wpAny_pure q) fun _ _ z=>z)
theorem wj{x:Value}{Q:Value→Shared→Prop}(hit:s.heap.IsTupleIter it t i)(ht:s.heap.IsTuple t items)(hx:items[i]? =some x)(hQ:∀ h',h'.IsTupleIter it t (i+1)→Heap.SameBut it s.heap h'→Q x { s with heap:=h' }):
  wpAny (model prog w) A (Builtin.«tuple_iterator.__next__» ⟨[.ref it],[]⟩) (fun fin s'=>∃ v,fin= .done (.ret v)∧Q v s') E s:=by
 obtain ⟨o,ho,hc,hd⟩:=id hit
 obtain ⟨p,hp,_,n,hdp⟩:=ht
 have nn:¬ ((Value.ref t==Value.none)=true):=Bool.false_ne_true
 refine (show wpAny (model prog w) A (field (.ref it) 0 >>= _) _ E s from wpAny_bind (wpAny_field ho hd (x:=.ref t) rfl ?_))
 refine (show wpAny (model prog w) A (if (Value.ref t==Value.none)=true then _ else _) _ E s from ?_)
 rw [if_neg nn]
 refine (show wpAny (model prog w) A (field (.ref it) 1 >>= _) _ E s from wpAny_bind (wpAny_field ho hd (x:=.int i 0) rfl ?_))
 refine (show wpAny (model prog w) A (seqItems? (.ref t) >>= _) _ E s from wpAny_bind (wpAny_seqItems hp hdp ?_))
 simp only [Int.toNat_natCast,hx]
 have st:∀ f,(o.mapFields f).data= .fields (f #[.ref t,.int i 0]):=fun f=>Obj.data_mapFields hd f
 refine wpAny_bind (wpAny_setField ho hd (by simp) (wpAny_pure ⟨x,rfl,hQ _ ⟨_,Heap.get?_update_self _ ho (Obj.isFreed_of_fields (Obj.data_mapFields hd _)),?_,?_⟩ (Heap.SameBut.update ..)⟩))
 ·rw [Obj.cls_mapFields];exact hc
 ·rw [Obj.data_mapFields hd];simp [rawInt]
theorem xF{Q:Fin→Shared→Prop}(hh:A.handled=none)(hit:s.heap.IsTupleIter it t i)(ht:s.heap.IsTuple t items)(hx:items[i]? =none)
  (hE:∀ h' e,Heap.ExtBut it s.heap h'→(∃ o,h'.get? e=some o∧o.cls= .type "StopIteration")→E (.ref e) { s with heap:=h' }):
  wpAny (model prog w) A (Builtin.«tuple_iterator.__next__» ⟨[.ref it],[]⟩) Q E s:=by
 obtain ⟨o,ho,hc,hd⟩:=id hit
 obtain ⟨p,hp,_,n,hdp⟩:=ht
 have nn:¬ ((Value.ref t==Value.none)=true):=Bool.false_ne_true
 refine (show wpAny (model prog w) A (field (.ref it) 0 >>= _) _ E s from wpAny_bind (wpAny_field ho hd (x:=.ref t) rfl ?_))
 refine (show wpAny (model prog w) A (if (Value.ref t==Value.none)=true then _ else _) _ E s from ?_)
 rw [if_neg nn]
 refine (show wpAny (model prog w) A (field (.ref it) 1 >>= _) _ E s from wpAny_bind (wpAny_field ho hd (x:=.int i 0) rfl ?_))
 refine (show wpAny (model prog w) A (seqItems? (.ref t) >>= _) _ E s from wpAny_bind (wpAny_seqItems hp hdp ?_))
 simp only [Int.toNat_natCast,hx]
 refine wpAny_bind (wpAny_rule (wpAny_bind (wpAny_setField ho hd (by simp) (wpAny_bind ?_))))
 simp only [newExc,newTuple]
 refine wpAny_bind (wpAny_newObj_type (wpAny_bind (m:=firstArgMember _ _) (wpAny_of_eq (a:=Value.none) (by first | rfl | (simp only [firstArgMember];rfl)) (wpAny_newObj_type ?_ (by size_fits)))) (by size_fits))
 simp only [raiseNew]
 refine wpAny_bind (wpAny_handled ?_)
 rw [hh]
 exact wpAny_bind (wpAny_pure (wpAny_throw (hE _ _ (((Heap.SameBut.update ..).extBut.push _).push _) ⟨_,Heap.get?_push_size _ rfl,rfl⟩)))
theorem zn(hh:A.handled=none)(ne:t≠it):Draws prog w A.in1 it [it,t] items.size (fun j v=>items[j]? =some v) (fun j h=>h.IsTupleIter it t j∧h.IsTuple t items) where
 live:=fun j h st=>by obtain ⟨o,ho,_⟩:=st.1;exact ⟨o,ho⟩
 frame:=fun j h h' st k=>by
  obtain ⟨⟨o,ho,r⟩,⟨p,hp,q⟩⟩:=st
  exact ⟨⟨o,k _ (by simp) o ho,r⟩,⟨p,k _ (by simp) p hp,q⟩⟩
 item:=fun j s Q E hj st hQ=>rW st.1 (wj st.1 st.2 (x:=items[j]) (by simp [hj]) fun h' st' sb=>hQ _ h' s.toks (by simp [hj]) ⟨st',st.2.extBut sb.extBut ne⟩ sb)
 done:=fun s Q E st hE=>rW st.1 (xF (A:=A.in1.in1) hh st.1 st.2 (by simp) hE)
def vy(a:Addr):Obj:= { cls:=.type "enumerate",data:=.fields #[.none,.bool false,.ref a,rawInt 0,.none,.none] }
def jw(a:Addr):Obj:= { cls:=.type "tuple_iterator",data:=.fields #[.ref a,.int 0 0] }
theorem wH(a:Addr)(xs:Array Value)(o:Obj)(hc:o.cls= .type "tuple")(n:Nat)(hd:o.data= .seq xs n):Meets (Builtin.«enumerate.__new__» ⟨[.type "enumerate",.ref a],[]⟩) (fun _ R s=>s.heap.get? a=some o∧
   R (.ok (.ret (.ref (s.heap.push (jw a)).objs.size))) { s with heap:=(s.heap.push (jw a)).push (vy s.heap.objs.size) }):=
 .of_wp fun P1 w1 A1 R s ⟨hl,h⟩=>by
  cases s with
  | mk hp gs dd tk os=>
  have sub:=sub_enumerate
  have tt:Heap.IsTuple hp a xs:=⟨o,hl,hc,n,hd⟩
  wp_walk using AutoSeq1.wpAny_loadPart' hl
  refine wpAny_stack_any fun st=>wpAny_pure ?_
  split
  ·rename_i c _ _ _ _ _
   by_cases e:(c==Value.type "enumerate")=true
   ·rw [e];wp_walk using AutoSeq1.wpAny_loadPart' hl,wpAny_pyIter_tuple tt;exact ⟨_,rfl,h⟩
   ·rw [Bool.not_eq_true] at e;rw [e];wp_walk using AutoSeq1.wpAny_loadPart' hl,wpAny_pyIter_tuple tt;exact ⟨_,rfl,h⟩
  ·wp_walk using AutoSeq1.wpAny_loadPart' hl,wpAny_pyIter_tuple tt;exact ⟨_,rfl,h⟩
theorem um{Q:Value→Shared→Prop}(ht:s.heap.IsTuple t items)(h:Q (.ref (s.heap.objs.size+1)) { s with heap:=(s.heap.push (jw t)).push (vy s.heap.objs.size) }):wpAny (model prog w) A (call (.type "enumerate") [.ref t]) Q E s:=by
 obtain ⟨o,ho,hc,n,hd⟩:=ht
 have z:(s.heap.push (jw t)).objs.size=s.heap.objs.size+1:=Heap.size_push ..
 have g:=Heap.get?_push_size (s.heap.push (jw t)) (o:=vy s.heap.objs.size) rfl
 refine callType_new F.called_enumerate (by decide) (F.typeCall_enumerate_1 _) (F.newCall_enumerate_1 _) (fun obj=>F.args_object_init_2 obj _) F.entry_enumerate_new (wH t items o hc n hd) ⟨ho,?_⟩
 exact ⟨⟨_,g,rfl⟩,by rw [z];exact h⟩
end
end L2
namespace L2
open PySem PySem.Spec PyProof.Rows
structure Zap(z ti to i1 i2:Addr)(f1 f2:List Addr):Prop where
 a1:ti≠z
 a2:to≠z
 a3:i1≠z
 a4:i2≠z
 a5:ti≠to
 a6:ti≠i1
 a7:ti≠i2
 a8:to≠i1
 a9:to≠i2
 z1:z∉f1
 z2:z∉f2
 t1:to∉f1
 t2:to∉f2
 o1:i2∉f1
 o2:i1∉f2
section
variable {prog:Program} {w:World} {A:Around} {E:Value→Shared→Prop} {s:Shared} {z ti to i1 i2:Addr} {f1 f2:List Addr} {n1 n2:Nat} {P1 P2:Nat→Value→Prop} {S1 S2:Nat→Heap→Prop}
theorem Draws.but{it c:Addr}{fp:List Addr}{n:Nat}{P:Nat→Value→Prop}{St:Nat→Heap→Prop}(D:Draws prog w A it fp n P St){j:Nat}{h h':Heap}(st:St j h)(e:Heap.ExtBut c h h')(nc:c∉fp):St j h':=
 D.frame j h h' st fun b hb o q=>e b o (fun y=>nc (y▸hb)) q
theorem xh{j:Nat}{a b:Value}{Q:Value→Shared→Prop}(Z:Zap z ti to i1 i2 f1 f2)(D1:Draws prog w A i1 f1 n1 P1 S1)(D2:Draws prog w A i2 f2 n2 P2 S2)
  (hz:IsZip s.heap z ti to .none) (hti:IsPair s.heap ti (.ref i1) (.ref i2)) (hto:IsPair s.heap to a b) (s1:S1 j s.heap) (s2:S2 j s.heap) (l1:j<n1) (l2:j<n2)
  (hQ:∀ x y h' tk,P1 j x→P2 j y→IsZip h' z ti to (rawInt s.heap.objs.size)→IsPair h' to x y→S1 (j+1) h'→S2 (j+1) h'→IsPair h' s.heap.objs.size x y→h'.objs.size=s.heap.objs.size+1→
   (∀ c o,c≠z→c≠to→c≠i1→c≠i2→s.heap.get? c=some o→h'.get? c=some o)→Q (.ref s.heap.objs.size) { s with heap:=h',toks:=tk }):
  wpAny (model prog w) A (Builtin.«zip.__next__» ⟨[.ref z],[]⟩) (fun fin s'=>∃ v,fin= .done (.ret v)∧Q v s') E s:=by
 refine (show wpAny (model prog w) A (field (.ref z) 2 >>= _) _ E s from wpAny_bind (wpAny_field hz rfl (x:=.bool false) rfl ?_))
 refine (show wpAny (model prog w) A (field (.ref z) 3 >>= _) _ E s from wpAny_bind (wpAny_field hz rfl (x:=.ref ti) rfl (wpAny_bind (wpAny_seqItems hti rfl ?_))))
 refine (show wpAny (model prog w) A ((field (.ref z) 0 >>= _) >>= _) _ E s from wpAny_bind (wpAny_bind (wpAny_field hz rfl (x:=.none) rfl (wpAny_pure ?_))))
 rw [if_pos (by rfl)]
 refine wpAny_bind (wpAny_rule (wpAny_bind (wpAny_field hz rfl (x:=.ref to) rfl (wpAny_bind (wpAny_setField_rec hz (by simp) fun g1 zg b1=>?_)))))
 have zg:IsZip g1 z ti to .ellipsis:=zg
 rw [show (#[Value.ref i1,.ref i2]:Array Value).toList.zipIdx= [(Value.ref i1,0),(.ref i2,1)] from rfl]
 refine wpAny_bind ?_
 rw [List.forIn_cons]
 refine wpAny_bind (wpAny_bind (wpAny_onRaise ?_))
 refine (show wpAny (model prog w) A (Builtin.SmallTypes.nextOf (.ref i1) >>= _) _ _ _ from wpAny_bind (D1.item j _ _ _ l1 (Draws.but D1 s1 b1.extBut Z.z1) fun x g2 k2 px t1 b2=>wpAny_pure ?_))
 have to2:IsPair g2 to a b:=b2.extBut _ _ Z.a8 (b1.extBut _ _ Z.a2 hto)
 refine wpAny_bind (wpAny_seqItems to2 rfl (wpAny_bind (wpAny_updateSeq_pair to2 fun g3 to3 b3=>wpAny_bind (wpAny_letGo (wpAny_pure ?_)))))
 have to3:IsPair g3 to x b:=to3
 dsimp only
 rw [List.forIn_cons]
 refine wpAny_bind (wpAny_bind (wpAny_onRaise ?_))
 refine (show wpAny (model prog w) A (Builtin.SmallTypes.nextOf (.ref i2) >>= _) _ _ _ from wpAny_bind (D2.item j _ _ _ l2 (Draws.but D2 (Draws.but D2 (Draws.but D2 s2 b1.extBut Z.z2) b2.extBut Z.o2) b3.extBut Z.t2) fun y g4 k4 py t2 b4=>wpAny_pure ?_))
 have to4:IsPair g4 to x b:=b4.extBut _ _ Z.a9 to3
 refine wpAny_bind (wpAny_seqItems to4 rfl (wpAny_bind (wpAny_updateSeq_pair to4 fun g5 to5 b5=>wpAny_bind (wpAny_letGo (wpAny_pure ?_)))))
 have to5:IsPair g5 to x y:=to5
 dsimp only
 rw [List.forIn_nil]
 refine wpAny_pure (wpAny_bind (wpAny_seqItems to5 rfl (wpAny_bind (wpAny_newTuple ?_))))
 have kz:∀ c o,c≠to→c≠i1→c≠i2→g1.get? c=some o→g5.get? c=some o:=fun c o c1 c2 c3 q=>b5.extBut _ _ c1 (b4.extBut _ _ c3 (b3.extBut _ _ c1 (b2.extBut _ _ c2 q)))
 have z5:IsZip g5 z ti to .ellipsis:=kz _ _ (Ne.symm Z.a2) (Ne.symm Z.a3) (Ne.symm Z.a4) zg
 have sz:g5.objs.size=s.heap.objs.size:=by rw [b5.1,b4.1,b3.1,b2.1,b1.1]
 have u1:S1 (j+1) g5:=Draws.but D1 (Draws.but D1 (Draws.but D1 t1 b3.extBut Z.t1) b4.extBut Z.o1) b5.extBut Z.t1
 have u2:S2 (j+1) g5:=Draws.but D2 t2 b5.extBut Z.t2
 have z6:IsZip (g5.push { cls:=.type "tuple",data:=.seq #[x,y] }) z ti to .ellipsis:=Heap.get?_push_of_some _ z5
 refine (show wpAny (model prog w) A ((setField (.ref z) 0 _ >>= _) >>= _) _ E _ from wpAny_bind (wpAny_bind (wpAny_setField_rec z6 (by simp) fun g7 z7 b7=>?_)))
 refine (show wpAny (model prog w) A (setField (.ref z) 1 _) _ E _ from wpAny_setField_rec (show IsZip g7 z ti to (rawInt g5.objs.size) from z7) (by simp) fun g8 z8 b8=>?_)
 have z8:IsZip g8 z ti to (rawInt g5.objs.size):=z8
 have lz:z<g5.objs.size:=Heap.lt_size z5
 have p8:IsPair g8 g5.objs.size x y:=b8.extBut _ _ (Nat.ne_of_gt lz) (b7.extBut _ _ (Nat.ne_of_gt lz) (Heap.get?_push_size _ rfl))
 have k8:∀ c o,c≠z→g5.get? c=some o→g8.get? c=some o:=fun c o c1 q=>b8.extBut _ _ c1 (b7.extBut _ _ c1 (Heap.get?_push_of_some _ q))
 have s8:g8.objs.size=g5.objs.size+1:=by rw [b8.1,b7.1,Heap.size_push]
 have v1:S1 (j+1) g8:=D1.frame _ _ _ u1 fun c hc o q=>k8 c o (fun y=>Z.z1 (y▸hc)) q
 have v2:S2 (j+1) g8:=D2.frame _ _ _ u2 fun c hc o q=>k8 c o (fun y=>Z.z2 (y▸hc)) q
 rw [sz] at z8 p8 s8
 refine wpAny_pure ⟨_,rfl,?_⟩
 have q:=hQ x y g8 k4 px py z8 (k8 _ _ Z.a2 to5) v1 v2 p8 s8 fun c o c1 c2 c3 c4 q=>k8 c o c1 (kz c o c2 c3 c4 (b1.extBut _ _ c1 q))
 rw [← sz] at q
 exact q
theorem zO{j:Nat}{a b:Value}{R:Fin→Shared→Prop}(Z:Zap z ti to i1 i2 f1 f2)(D1:Draws prog w A i1 f1 n1 P1 S1)(D2:Draws prog w A i2 f2 n2 P2 S2)
  (hz:IsZip s.heap z ti to .none) (hti:IsPair s.heap ti (.ref i1) (.ref i2)) (hto:IsPair s.heap to a b) (s1:S1 j s.heap) (s2:S2 j s.heap) (l:j=n1∨(j<n1∧j=n2))
  (hE:∀ h' e tk,(∀ c o,c≠z→c≠to→c≠i1→c≠i2→s.heap.get? c=some o→h'.get? c=some o)→(∃ o,h'.get? e=some o∧o.cls= .type "StopIteration")→E (.ref e) { s with heap:=h',toks:=tk }):
  wpAny (model prog w) A (Builtin.«zip.__next__» ⟨[.ref z],[]⟩) R E s:=by
 refine (show wpAny (model prog w) A (field (.ref z) 2 >>= _) _ E s from wpAny_bind (wpAny_field hz rfl (x:=.bool false) rfl ?_))
 refine (show wpAny (model prog w) A (field (.ref z) 3 >>= _) _ E s from wpAny_bind (wpAny_field hz rfl (x:=.ref ti) rfl (wpAny_bind (wpAny_seqItems hti rfl ?_))))
 refine (show wpAny (model prog w) A ((field (.ref z) 0 >>= _) >>= _) _ E s from wpAny_bind (wpAny_bind (wpAny_field hz rfl (x:=.none) rfl (wpAny_pure ?_))))
 rw [if_pos (by rfl)]
 refine wpAny_bind (wpAny_rule (wpAny_bind (wpAny_field hz rfl (x:=.ref to) rfl (wpAny_bind (wpAny_setField_rec hz (by simp) fun g1 zg b1=>?_)))))
 have zg:IsZip g1 z ti to .ellipsis:=zg
 rw [show (#[Value.ref i1,.ref i2]:Array Value).toList.zipIdx= [(Value.ref i1,0),(.ref i2,1)] from rfl]
 refine wpAny_bind ?_
 rw [List.forIn_cons]
 refine wpAny_bind (wpAny_bind (wpAny_onRaise ?_))
 have go:∀ (g:Heap) (e:Addr) (k:Nat),IsZip g z ti to .ellipsis→(∀ c o,c≠z→c≠to→c≠i1→c≠i2→s.heap.get? c=some o→g.get? c=some o)→(∃ o,g.get? e=some o∧o.cls= .type "StopIteration")→
   wpAny (model prog w) A (setField (.ref z) 0 .none) (fun _ s'=>E (.ref e) s') E { s with heap:=g,toks:=k }:=fun g e k zz kk ⟨oe,q1,q2⟩=>by
  have ne:e≠z:=fun y=>by subst y;rw [zz] at q1;cases q1;simp at q2
  exact wpAny_setField_rec zz (by simp) fun g' _ bb=>hE g' e k (fun c o c1 c2 c3 c4 q=>bb.extBut _ _ c1 (kk c o c1 c2 c3 c4 q)) ⟨oe,bb.extBut _ _ ne q1,q2⟩
 rcases l with l | ⟨l1,l⟩
 ·subst l
  refine (show wpAny (model prog w) A (Builtin.SmallTypes.nextOf (.ref i1) >>= _) _ _ _ from wpAny_bind (D1.done _ _ _ (Draws.but D1 s1 b1.extBut Z.z1) fun g2 e b2 q=>?_))
  exact go g2 e _ (b2 _ _ (Ne.symm Z.a3) zg) (fun c o c1 _ c3 _ q=>b2 _ _ c3 (b1.extBut _ _ c1 q)) q
 ·subst l
  refine (show wpAny (model prog w) A (Builtin.SmallTypes.nextOf (.ref i1) >>= _) _ _ _ from wpAny_bind (D1.item j _ _ _ l1 (Draws.but D1 s1 b1.extBut Z.z1) fun x g2 k2 px t1 b2=>wpAny_pure ?_))
  have to2:IsPair g2 to a b:=b2.extBut _ _ Z.a8 (b1.extBut _ _ Z.a2 hto)
  refine wpAny_bind (wpAny_seqItems to2 rfl (wpAny_bind (wpAny_updateSeq_pair to2 fun g3 to3 b3=>wpAny_bind (wpAny_letGo (wpAny_pure ?_)))))
  dsimp only
  rw [List.forIn_cons]
  refine wpAny_bind (wpAny_bind (wpAny_onRaise ?_))
  refine (show wpAny (model prog w) A (Builtin.SmallTypes.nextOf (.ref i2) >>= _) _ _ _ from wpAny_bind (D2.done _ _ _ (Draws.but D2 (Draws.but D2 (Draws.but D2 s2 b1.extBut Z.z2) b2.extBut Z.o2) b3.extBut Z.t2) fun g4 e b4 q=>?_))
  exact go g4 e _ (b4 _ _ (Ne.symm Z.a4) (b3.extBut _ _ (Ne.symm Z.a2) (b2.extBut _ _ (Ne.symm Z.a3) zg))) (fun c o c1 c2 c3 c4 q=>b4 _ _ c4 (b3.extBut _ _ c2 (b2.extBut _ _ c3 (b1.extBut _ _ c1 q)))) q
theorem yz{j:Nat}{a b:Value}{Q:Option Value→Shared→Prop}(Z:Zap z ti to i1 i2 f1 f2)(D1:Draws prog w A.in1 i1 f1 n1 P1 S1)(D2:Draws prog w A.in1 i2 f2 n2 P2 S2)
  (hz:IsZip s.heap z ti to .none) (hti:IsPair s.heap ti (.ref i1) (.ref i2)) (hto:IsPair s.heap to a b) (s1:S1 j s.heap) (s2:S2 j s.heap) (l1:j<n1) (l2:j<n2)
  (hQ:∀ x y h' tk,P1 j x→P2 j y→IsZip h' z ti to (rawInt s.heap.objs.size)→IsPair h' to x y→S1 (j+1) h'→S2 (j+1) h'→IsPair h' s.heap.objs.size x y→h'.objs.size=s.heap.objs.size+1→
   (∀ c o,c≠z→c≠to→c≠i1→c≠i2→s.heap.get? c=some o→h'.get? c=some o)→Q (some (.ref s.heap.objs.size)) { s with heap:=h',toks:=tk }):wpAny (model prog w) A (pyNext (.ref z)) Q E s:=by
 have ty:s.TypeIs (.ref z) "zip":=⟨_,hz,rfl⟩
 unfold pyNext
 exact wpAny_bind (wpAny_attempt (wpAny_callSpecial?_slot (name:="__next__") ty F.slot_zip_next (wpAny_call_entry F.slot_zip_next ty F.entry_zip_next (xh Z D1 D2 hz hti hto s1 s2 l1 l2 fun x y h' tk p1 p2 q1 q2 q3 q4 q5 q6 q7=>wpAny_pure (hQ x y h' tk p1 p2 q1 q2 q3 q4 q5 q6 q7)) (F.args_zip_next_1 _))))
theorem yM{j:Nat}{a b:Value}{Q:Option Value→Shared→Prop}(Z:Zap z ti to i1 i2 f1 f2)(D1:Draws prog w A.in1 i1 f1 n1 P1 S1)(D2:Draws prog w A.in1 i2 f2 n2 P2 S2)
  (hz:IsZip s.heap z ti to .none) (hti:IsPair s.heap ti (.ref i1) (.ref i2)) (hto:IsPair s.heap to a b) (s1:S1 j s.heap) (s2:S2 j s.heap) (l:j=n1∨(j<n1∧j=n2))
  (hQ:∀ h' tk,(∀ c o,c≠z→c≠to→c≠i1→c≠i2→s.heap.get? c=some o→h'.get? c=some o)→Q none { s with heap:=h',toks:=tk }):wpAny (model prog w) A (pyNext (.ref z)) Q E s:=by
 have ty:s.TypeIs (.ref z) "zip":=⟨_,hz,rfl⟩
 unfold pyNext
 refine wpAny_bind (wpAny_attempt (wpAny_callSpecial?_slot (name:="__next__") ty F.slot_zip_next (wpAny_call_entry F.slot_zip_next ty F.entry_zip_next (zO Z D1 D2 hz hti hto s1 s2 l fun h' e tk kk ⟨o,q1,q2⟩=>?_) (F.args_zip_next_1 _))))
 exact wpAny_bind (wpAny_isInstance (T:="StopIteration") (b:=true) ⟨o,q1,q2⟩ isSubtype_stop (wpAny_pure (hQ _ _ kk)))
def uQ(a b:Value):Obj:= { cls:=.type "tuple",data:=.seq #[a,b] }
def Dk(a b:Addr):Obj:= { cls:=.type "zip",data:=.fields #[.none,.bool false,.bool false,.ref a,.ref b] }
end
end L2
namespace L2
open PySem PySem.Spec PyProof.Rows
section
variable {prog:Program} {w:World} {A:Around} {E:Value→Shared→Prop} {s:Shared}
theorem zQ(n a b:Nat)(la:a<n)(lb:b<n):Zap (n+4) (n+2) (n+3) n (n+1) [n,a] [n+1,b]:=by
 have l:∀ {i j:Nat},i<j→(n+i:Nat)≠n+j:=fun h=>Nat.ne_of_lt (Nat.add_lt_add_left h n)
 have m:∀ {x y z:Nat},x≠y→x≠z→x∉ [y,z]:=fun h1 h2 h=>by
  rcases List.mem_cons.mp h with q | q
  ·exact h1 q
  ·exact h2 (List.mem_singleton.mp q)
 have g:∀ {i c:Nat},c<n→(n+i:Nat)≠c:=fun h=>Nat.ne_of_gt (Nat.lt_of_lt_of_le h (Nat.le_add_right n _))
 have d:∀ {i j:Nat},i>j→(n+i:Nat)≠n+j:=fun h=>Ne.symm (l h)
 exact ⟨l (i:=2) (by decide),l (i:=3) (by decide),l (i:=0) (j:=4) (by decide),l (i:=1) (by decide),l (i:=2) (by decide),d (i:=2) (j:=0) (by decide),d (i:=2) (by decide),d (i:=3) (j:=0) (by decide),d (i:=3) (by decide),
  m (d (i:=4) (j:=0) (by decide)) (g la),m (d (i:=4) (by decide)) (g lb),m (d (i:=3) (j:=0) (by decide)) (g la),m (d (i:=3) (by decide)) (g lb),m (d (i:=1) (j:=0) (by decide)) (g la),m (l (i:=0) (by decide)) (g (i:=0) lb)⟩
end
end L2
namespace L3
open PySem L2
def enL:Nat→List PV→List PV
 | _,[]=> []
 | n,x::r=>.tup [.int n,x]::enL (n+1) r
def uh(ps:List PV)(h:List PO):Res (List PV):=match ps with
 | [.tup xs]=>.ok (enL 0 xs) h
 | [.lst xs]=>.ok (enL 0 xs) h
 | _=>.bad
def sU(f:Ax):Ax:=fun ρ h=>(f ρ h).bind uh
def zpL:List PV→List PV→List PV
 | x::r,y::t=>.tup [x,y]::zpL r t
 | _,_=> []
def BG(ps:List PV)(h:List PO):Res (List PV):=match ps with
 | [.tup xs,.tup ys]=>.ok (zpL xs ys) h
 | _=>.bad
def Hq(f:Ax):Ax:=fun ρ h=>(f ρ h).bind BG
end L3
namespace Z
open PySem PySem.Spec PyProof.Rows L3 L2
section
variable {G:SC} {X:Cx} {w w0 w1:Wo} {ρ:Ev} {h:List PO} {s':Shared} {fp:List Addr} {a b e it:Addr} {o:Obj} {its jts:Array Value} {xs ys:List PV} {J:Nat→Heap→Prop} {elts:List Expr} {k:Nat} {pos p0 p1:Pos}
theorem vA:∀ {xs:List PV} {n i:Nat} {p:PV},(enL n xs)[i]? =some p→∃ x,xs[i]? =some x∧p= .tup [.int ((n+i:Nat):Int),x]
 | [],_,_,_,e=>by simp [enL] at e
 | x::r,n,0,p,e=>by cases e;exact ⟨x,rfl,rfl⟩
 | x::r,n,i+1,p,e=>by obtain ⟨y,e1,rfl⟩:=vA (xs:=r) (n:=n+1) (i:=i) e;exact ⟨y,e1,by rw [show n+1+i=n+(i+1) by omega]⟩
theorem vz:∀ (xs:List PV) (n:Nat),(enL n xs).length=xs.length
 | [],_=>rfl
 | x::r,n=>by simp [enL,vz r]
theorem uw:∀ (xs ys:List PV),(zpL xs ys).length=min xs.length ys.length
 | [],_=>by simp [zpL]
 | _::_,[]=>by simp [zpL]
 | x::r,y::t=>by simp [zpL,uw r t]
theorem pS(H:HR G w h)(f:∀ b∈fp,∃ o,Has w b o)(k:∀ b o,b∉fp→w.s.heap.get? b=some o→s'.heap.get? b=some o)(ho:s'.os=w.s.os:=by rfl)(hg:s'.gens=w.s.gens:=by rfl):Pv fp w { w with s:=s' }∧HR G { w with s:=s' } h:=
 ⟨⟨ho,fun q=>hg▸q,fun _ _ e=>e,fun _ _ e=>e,⟨[],by simp⟩,fun b o n e=>⟨o,k b o n e⟩,fun b o n q=>⟨k b o n q.1,q.2⟩⟩,H.on fun b o e z=>k b o (fun q=>let ⟨_,r⟩:=f b q;z r.2) e⟩
theorem uA(H:HR G w h)(f:∀ b∈fp,∃ o,Has w b o)(n:w.s.heap.get? a=none)(k:∀ b o,b∉fp→w.s.heap.get? b=some o→s'.heap.get? b=some o)(e:s'.heap.get? a=some o)(ho:s'.os=w.s.os:=by rfl)(hg:s'.gens=w.s.gens:=by rfl):Pv fp w ⟨gz w.F a o,w.O,w.m,s'⟩∧HR G ⟨gz w.F a o,w.O,w.m,s'⟩ h:=by
 obtain ⟨x,y⟩:=pS H f k ho hg
 have na:∀ {b o},w.s.heap.get? b=some o→b≠a:=fun q z=>by rw [z,n] at q;cases q
 have hF:=(H.free n).2.1
 exact ⟨⟨ho,fun q=>hg▸q,cJ hF,fun _ _ e=>e,⟨[],by simp⟩,x.dom,fun b o n q=>let ⟨q1,q2⟩:=x.keep b o n q;⟨q1,q2.1,cP (na q.1) q2.2.1,q2.2.2⟩⟩,y.freeze ⟨e,H.free n⟩⟩
structure Sq(G:SC)(w0:Wo)(a it:Addr)(its:Array Value)(J:Nat→Heap→Prop):Prop where
 keep:∀ j g g',J j g→(∀ o,g.get? it=some o→g'.get? it=some o)→J j g'
 ob:∀ j g,J j g→∃ o,g.get? it=some o
 dr:∀ {A:Around} {w:Wo} {h:List PO},A.handled=none→Lat w0 w→HR G w h→∃ S,Draws G.prog G.w A.in1 it [it,a] its.size (fun j v=>its[j]? =some v) S∧(∀ j,J j w.s.heap→S j w.s.heap)∧∀ j g,S j g→J j g
theorem BN{n:Nat}(ne:a≠it)(e:w0.F a=some { cls:=.type "tuple",data:=.seq its n }):Sq G w0 a it its (fun j g=>g.IsTupleIter it a j) where
 keep:=fun j g g' ⟨o,ho,r⟩ k=>⟨o,k o ho,r⟩
 ob:=fun j g ⟨o,ho,_⟩=>⟨o,ho⟩
 dr hh l H:=⟨_,zn hh ne,fun j q=>⟨q,⟨_,H.at (l.1 _ _ e),rfl,_,rfl⟩⟩,fun j g q=>q.1⟩
theorem BO{n:Nat}(ne:a≠it)(e:w0.F a=some { cls:=.type "list",data:=.seq its n }):Sq G w0 a it its (fun j g=>g.IsListIter it a j) where
 keep:=fun j g g' ⟨o,ho,r⟩ k=>⟨o,k o ho,r⟩
 ob:=fun j g ⟨o,ho,_⟩=>⟨o,ho⟩
 dr {A w h} hh l H:=⟨_,Draws.list (A:=A.in1) hh it a ne its,fun j q=>⟨q,⟨_,H.at (l.1 _ _ e),rfl,_,rfl⟩⟩,fun j g q=>q.1⟩
theorem AL(S:Sq G w0 a it its J)(r:aB G w0.F w0.m xs its.toList)(ne:e≠it)(n1:a≠e):xf G w0 (.Tuple elts k pos) (enL 0 xs) e [e,it] (fun i g=>(∃ old,IsEnum g e it i old)∧J i g) where
 keep l1 H1 l2 H2 st q:=by obtain ⟨⟨old,he⟩,hi⟩:=st;exact ⟨⟨old,q e (by simp) _ he⟩,S.keep _ _ _ hi fun o ho=>q it (by simp) _ ho⟩
 item {A w h i p Q E} hh l H st hx f q:=by
  obtain ⟨⟨old,he⟩,hi⟩:=st
  obtain ⟨x,ex,rfl⟩:=vA hx
  obtain ⟨u,hu,ru⟩:=r.get ex
  obtain ⟨St,D,t1,t2⟩:=S.dr hh l H
  have hlt:i<its.size:=(List.getElem?_eq_some_iff.mp hu).1
  refine wpAny_pyNext_enum_itemD D he (t1 _ hi) hlt ne (by simp [ne,Ne.symm n1]) fun u' h' tk hu' ho hi' ht hsz hk=>⟨_,rfl,?_⟩
  have:u'=u:=by rw [Array.getElem?_toList] at hu;rw [hu] at hu';cases hu';rfl
  subst this
  refine wpAny_letOwnedTupleGo_enum ho fun h2 he2 sb=>?_
  have lt:e<w.s.heap.objs.size:=Heap.lt_size he
  have kk:∀ b o,b∉ [e,it]→w.s.heap.get? b=some o→h2.get? b=some o:=fun b o nb q=>by
   simp only [List.mem_cons,List.not_mem_nil,or_false,not_or] at nb
   exact (sb.2 b nb.1).trans (hk b o nb.1 nb.2 q)
  have ht2:h2.get? w.s.heap.objs.size=some { cls:=.type "tuple",data:=.seq #[.int i tk,u'] }:=(sb.2 _ (Nat.ne_of_gt lt)).trans ht
  obtain ⟨a1,a2⟩:=uA (s':= { w.s with heap:=h2,toks:=tk+1 }) H f (bd _) kk ht2
  have hi2:J (i+1) h2:=S.keep _ _ _ (t2 _ _ hi') fun o q=>(sb.2 it (Ne.symm ne)).trans q
  have fr:∀ b∈ [e,it],∃ o,Has ⟨gz w.F w.s.heap.objs.size { cls:=.type "tuple",data:=.seq #[.int i tk,u'] },w.O,w.m,{ w.s with heap:=h2,toks:=tk+1 }⟩ b o:=fun b hb=>by
   obtain ⟨o,q⟩:=f b hb
   have nb:b≠w.s.heap.objs.size:=fun z=>by have q:=q.1;rw [z,bd] at q;cases q
   have:∃ o,h2.get? b=some o:=by
    simp only [List.mem_cons,List.not_mem_nil,or_false] at hb
    rcases hb with rfl | rfl
    ·exact ⟨_,he2⟩
    ·exact S.ob _ _ hi2
   obtain ⟨o',q'⟩:=this
   exact ⟨o',q',q.2.1,cP nb q.2.2.1,q.2.2.2⟩
  refine q _ _ a1 a2 ⟨⟨u',by simpa using he2⟩,hi2⟩ fr ?_
  exact .tup bD (by show 2≤sizeLine;decide) (.cons (by simpa using .int i tk) (.cons ((ru.mono l.1 (.inr l.2)).mono (cJ (H.free (bd _)).2.1) (.inr fun _ _ e=>e)) .nil))
 done {A w h i Q E} hh l H st hx f q:=by
  obtain ⟨⟨old,he⟩,hi⟩:=st
  obtain ⟨St,D,t1,t2⟩:=S.dr hh l H
  rw [vz,r.len] at hx
  subst hx
  refine wpAny_pyNext_enum_endD D he (t1 _ hi) fun h' eb=>⟨rfl,?_⟩
  obtain ⟨a1,a2⟩:=pS (fp:= [e,it]) (s':= { w.s with heap:=h' }) H f fun b o nb q=>eb b o (by simp only [List.mem_cons,List.not_mem_nil,or_false,not_or] at nb;exact nb.2) q
  exact q _ a1 a2
 self hh st q:=by obtain ⟨⟨old,he⟩,hi⟩:=st;exact wpAny_pyIter_enum he q
variable {Q:Value→Shared→Prop} {E:Value→Shared→Prop} {tg:Expr} {f:Ax} {ae be:Expr}
theorem ItR.of{tn:Nat→Heap→Prop}{h':Heap}{tk:Nat}(I:Inv X w ρ h)(y:Stp X.fs NoW w0 w)(kp:∀ b o,w.s.heap.get? b=some o→h'.get? b=some o)(T:xf X.toSC w tg xs it fp tn)(t:tn 0 h')(fr:∀ b∈fp,w.s.heap.objs.size≤b∧∃ o,h'.get? b=some o)(p:bC X (ItR X tg w0) w Q E (.ok xs h)):Q (.ref it) { w.s with heap:=h',toks:=tk }:=by
 have n:=Nw.also (X:=X) (s':= { w.s with heap:=h',toks:=tk }) I.toHR kp
 refine p.2 _ _ n ⟨_,fp,tn,rfl,⟨T.keep,T.item,T.done,T.self⟩,t,fun b hb=>?_⟩
 obtain ⟨l,o,q⟩:=fr b hb
 have nb:w.s.heap.get? b=none:=by
  cases q:w.s.heap.get? b with
  | none=>rfl
  | some o=>exact absurd (Nat.lt_of_lt_of_le (Heap.lt_size q) l) (Nat.lt_irrefl _)
 refine ⟨⟨o,q,I.toHR.free nb⟩,I.out nb,?_⟩
 cases q:w0.s.heap.get? b with
 | none=>rfl
 | some o=>obtain ⟨o',q'⟩:=y.dom _ _ q;rw [nb] at q';cases q'
theorem qo(hg:Gl X "enumerate")(hm:X.mg "enumerate"=none)(ha:RA X [ae] f)(hs:starEach [ae] X.env= [(false,eval ae X.env)]:=by rfl):RI X (.Tuple elts k pos) (.Call (.Name "enumerate" p0) [ae] [] p1) (sU f):=⟨fun {w0 ρ h Q E} I p=>Call_ (I.blt hg hm (show bootBuiltins "enumerate"=some (.type "enumerate") by decide+kernel) (PyProof.Rows.callWith_type1 (ha.r p1 I (p.bind fun w1 h1 ps us y r p=>by
 have fin:∀ {a:Addr} {its:Array Value} {J:Nat→Heap→Prop} {xs:List PV} {h':Heap},Sq X.toSC w1 a w1.s.heap.objs.size its J→aB X.toSC w1.F w1.m xs its.toList→a<w1.s.heap.objs.size→(∀ b o,w1.s.heap.get? b=some o→h'.get? b=some o)→IsEnum h' (w1.s.heap.objs.size+1) w1.s.heap.objs.size 0 .none→J 0 h'→bC X (ItR X (.Tuple elts k pos) w0) w1 Q E (.ok (enL 0 xs) h1)→Q (.ref (w1.s.heap.objs.size+1)) { w1.s with heap:=h',toks:=w1.s.toks }:=fun {a its J xs h'} S rr la kk hE hJ p=>ItR.of (tk:=w1.s.toks) (I.on y) y.1 kk (AL (elts:=elts) (k:=k) (pos:=pos) S rr (Nat.succ_ne_self _) (Nat.ne_of_lt (Nat.lt_succ_of_lt la))) ⟨⟨_,hE⟩,hJ⟩ (fun b hb=>by
  simp only [List.mem_cons,List.not_mem_nil,or_false] at hb
  rcases hb with rfl | rfl
  ·exact ⟨Nat.le_succ _,_,hE⟩
  ·exact ⟨Nat.le_refl _,S.ob _ _ hJ⟩) p
 unfold uh at p
 split at p
 ·obtain ⟨u,rfl,r1⟩:=r.one
  cases r1 with
  | tup e z rr=>
   rename_i a its n
   have t:=y.2.at e
   have la:=Heap.lt_size t
   refine um (t:=a) (items:=its) ⟨_,t,rfl,_,rfl⟩ ?_
   have zz:(w1.s.heap.push (jw a)).objs.size=w1.s.heap.objs.size+1:=Heap.size_push ..
   have g:=Heap.get?_push_size (w1.s.heap.push (jw a)) (o:=vy w1.s.heap.objs.size) rfl
   rw [zz] at g
   exact wpAny_pyIter_enum (it:=w1.s.heap.objs.size) (i:=0) (old:=.none) g (fin (BN (Nat.ne_of_lt la) e) rr la (fun b o e=>Heap.get?_push_of_some _ (Heap.get?_push_of_some _ e)) g ⟨_,Heap.get?_push_of_some _ (Heap.get?_push_size _ rfl),rfl,rfl⟩ p)
 ·obtain ⟨u,rfl,r1⟩:=r.one
  cases r1 with
  | lst e z rr=>
   rename_i a its n
   have t:=y.2.at e
   have la:=Heap.lt_size t
   exact call_enumerate_list (items:=its) ⟨_,t,rfl,_,rfl⟩ fun h2 hE hI hsz kk=>wpAny_pyIter_enum hE (fin (BO (Nat.ne_of_lt la) e) rr la kk hE hI p)
 ·exact p.elim)) hs rfl))⟩
end
end Z
namespace Z
open PySem PySem.Spec PyProof.Rows L3 L2
end Z
namespace L3
open PySem L2
end L3
namespace Z
open PySem PySem.Spec PyProof.Rows L3 L2
end Z
namespace L3
open PySem L2
end L3
namespace Z
open PySem PySem.Spec PyProof.Rows L3 L2
end Z
namespace Z
open PySem PySem.Spec PyProof.Rows L3 L2
section
variable {X:Cx} {w w1:Wo} {ρ:Ev} {h:List PO}
theorem lL{elt iter tg:Expr}{ifs:List Expr}{scope:Scope}{it:Ax}{tt:Tx}{te:Ex}{M vs:List Str}{g:Gx}{pos py spos:Pos}{y:Str}{iy:Nat}(caps:List Nat)(hc:X.calm=true)(S:bA X.N X.env.scope scope caps vs M)(hi:RI X tg iter it)(hg:∀ cl C,RG (bp X M scope cl C) tg g)(ht:∀ cl C,RFs (bp X M scope cl C) ifs tt)(he:∀ cl C,RE (bp X M scope cl C) elt te)
  (gm:∀ q cp ρ1,g q (List.replicate vs.length none++cp)=some ρ1→∃ l,l.length=vs.length∧ρ1=l++cp) (hy:X.N[iy]? =some y) (hLy:X.env.scope.names.lookup y=some .local) (hsw:swapsWith (.ListComp elt [⟨tg,iter,ifs,0⟩] scope pos) (some (.Name y py)) spos.line X.env=pure true)
  (hs:∀ y,foldedSetIterable iter X.env y=pure y:=by intro _;rfl):RS X (.Assign [.Name y py] (.ListComp elt [⟨tg,iter,ifs,0⟩] scope pos) spos) (aK iy (cN nT (dk vs.length g caps it tt te))):=⟨fun {w0 ρ h Q E} I p=>by
 rw [exec_Assign_Name_used _ _ _ _ hsw]
 refine wpAny_bind<|wpAny_standAt<|wpAny_bind ?_
 show wpAny _ X.A (comprehension (.ListComp elt [⟨tg,iter,ifs,0⟩] scope pos) scope X.env _ (newList []) false (eval iter X.env) (some (assign (.Name y py) X.env)) >>= fun _=>pure ()) _ _ w0.s
 refine wpAny_bind<|wpAny_mono (wpAny_comprehension_free (use:=some (assign (.Name y py) X.env)) (Q:=fun _ s'=>Q .next s') rfl hs (gP fun n hn=>I.ok.has n (S.free _ hn rfl)) S.kind S.names ?_) (fun _ _ z=>wpAny_pure (wpAny_pure z)) fun _ _ z=>z
 have p:bu X w0 Q E (fH (it ρ h) fun xs h1=>fH (if xs.length<sizeLine then (dg g tt te (List.replicate vs.length none++bW caps ρ) xs h1).calm else .bad) fun ps h2=>fH (nT ps h2) fun v h3=>.nx (ρ.set iy (some v)) h3):=by
  unfold aK dB cN dk at p
  cases e:it ρ h with
  | ok xs h1=>
   rw [e] at p
   revert p
   show bu X w0 Q E (fH (((if xs.length<sizeLine then (dg g tt te (List.replicate vs.length none++bW caps ρ) xs h1).calm else .bad):Res (List PV)).bind nT) _)→bu X w0 Q E (fH (if xs.length<sizeLine then (dg g tt te (List.replicate vs.length none++bW caps ρ) xs h1).calm else .bad) _)
   generalize (if xs.length<sizeLine then (dg g tt te (List.replicate vs.length none++bW caps ρ) xs h1).calm else .bad:Res (List PV))=rr
   cases rr<;>exact id
  | exc _ _=>rw [e] at p;exact p
  | bad=>rw [e] at p;exact p
 refine hi.r I (bu.e0 p I fun w h1 xs v y0 I1 rr p=>?_)
 split at p
 ·rename_i hz
  refine lH (use:=some (assign (.Name y py) X.env)) (Q:=fun _ s=>Q .next s) (K:=fun ps h=>bu X w0 Q E (fH (nT ps h) fun v h3=>.nx (ρ.set iy (some v)) h3)) caps hc S hg ht he gm I y0 rr hz (by
   revert p
   cases dg g tt te (List.replicate vs.length none++bW caps ρ) xs h1<;>first | exact id | exact fun z=>bu.ep z |>.elim) fun {w2 h2 ps its D C oC m} y2 H2 nD nC DC hl n l f ra z k=>?_
  obtain ⟨nn,e1⟩:=l
  have sb:Sub w2.m (w2.m++ [D]):=fun i b e=>by rw [List.getElem?_append_left (List.getElem?_eq_some_iff.mp e).1];exact e
  have n3:=Nw.track (X:=X) (w:=w0) (w1:=w2) ⟨y2,H2⟩ nD ⟨e1,f⟩ (po:=.lst ps) ⟨f.2.1,its,nn,e1,z,ra.mono (fun _ _ e=>e) (.inr sb)⟩
  have I3:=I.on n3
  have aC:=I.out nC
  show wpAny _ X.A (assign (.Name y py) X.env (.ref D)) _ _ w2.s
  refine wpAny_assign_Name (I3.store (w:=⟨w2.F,w2.O,w2.m++ [D],w2.s⟩) hy (.inl hLy) (p:=.ref h2.length) (.ref (by rw [H2.len];simp)) fun w4 y4 I4=>?_)
  obtain ⟨sl,hC,zz⟩:=y4.keep C oC ⟨hl.1,fun z=>(List.mem_append.mp z).elim hl.2.1 fun z=>DC (by simp at z;exact z.symm),hl.2.2⟩ aC.w
  refine ⟨m,nN n fun o e=>by rw [hl.1] at e;cases e;exact ⟨sl,hC.1⟩,fun h' sb'=>?_⟩
  obtain ⟨a1,a2⟩:=kK (s':= { w4.s with heap:=h' }) I4.toHR hC fun b o z e=>(sb'.2 b z).trans e
  exact k.2 _ ((n3.s.trans y4).priv a1 (by simp;exact nC)) (I4.priv a1 a2 (by simp;exact aC))
 ·exact p.elim⟩
end
end Z
namespace L2
open PySem PySem.Spec PyProof.Rows PySem.Builtin
abbrev qc(b:Bool):Obj:= { cls:=.type "set",dict:=none,data:=.set #[] 0 (.fresh 0 0 b) }
section
variable {κ:Type} [DecidableEq κ]
def mr(σ:List κ)(k:κ):List κ:=if k∈σ then σ else σ++ [k]
def de(f:Nat→κ):Nat→List κ
 | 0=> []
 | n+1=>mr (de f n) (f n)
theorem sw{σ:List κ}{k x:κ}:x∈mr σ k↔x∈σ∨x=k:=by
 unfold mr
 split
 ·rename_i h
  exact ⟨.inl,fun z=>z.elim id fun e=>e▸h⟩
 ·rw [List.mem_append,List.mem_singleton]
theorem sB(σ:List κ)(k:κ):(mr σ k).length=if k∈σ then σ.length else σ.length+1:=by
 unfold mr
 split
 ·rfl
 ·rw [List.length_append,List.length_singleton]
theorem oY(f:Nat→κ)(n:Nat):(de f n).length≤n:=by
 induction n with
 | zero=>exact Nat.le_refl _
 | succ n ih=>
  show (mr _ _).length≤_
  rw [sB]
  split<;>omega
abbrev inK(σ:List κ)(k:κ):Bool:=decide (k∈σ)
end
section
variable {P:Program} {w:World} {A:Around} {R:Result→Shared→Prop} {it:Addr} {fp wr:List Addr} {G:Array GenState→Array GenState→Prop} {n:Nat} {Pn:Nat→Value→Prop} {St:Nat→Shared→Prop}
theorem rJ{h h':Heap}{a:Addr}{f:Str→Bool}{c:Nat}(e:∀ o,h.get? a=some o→h'.get? a=some o)(z:h.SetOf (strKind P w) a f c):h'.SetOf (strKind P w) a f c:=by
 obtain ⟨o,es,ep,t,q,rest⟩:=z
 exact ⟨o,es,ep,t,e o q,rest⟩
theorem rK(W:WalksS P w A.in1 it fp wr G n Pn St)(a:Addr)(out:a∉fp)(f:Nat→Str)(txt:∀ i v,Pn i v→∃ t,v= .str (f i) t)(few:n+1<scanBound)(r:Nat):
  ∀ (i:Nat) (s:Shared),i+r=n→St i s→s.heap.SetOf (strKind P w) a (inK (de f i)) (de f i).length→
   (∀ s',Moved (a::wr) G s s'→s'.heap.SetOf (strKind P w) a (inK (de f n)) (de f n).length→R (.ok (.ret .none)) s')→
   codeAny (model P w) A (.builtin "set.update.loop" ⟨[.ref a,.ref it],[]⟩) R s:=by
 have aw:a∉wr:=fun z=>out (W.sub _ z)
 have tl:∀ b∈wr,b∈a::wr:=fun _ z=>List.mem_cons_of_mem _ z
 induction r with
 | zero=>
  intro i s e st so k
  obtain rfl:i=n:=e
  apply codeAny_builtin F.entry_set_update_loop
  rw [Around.under_plainId F.plain_set_update_loop _]
  apply wpAny_bind (m:=pyNext (.ref it))
  exact W.done s _ _ st fun s' mv=>wpAny_pure (k s' (mv.mono tl) (rJ (fun o q=>mv.heap a o aw q) so))
 | succ r ih=>
  intro i s e st so k
  apply codeAny_builtin F.entry_set_update_loop
  rw [Around.under_plainId F.plain_set_update_loop _]
  apply wpAny_bind (m:=pyNext (.ref it))
  refine W.item i s _ _ (by omega) st fun v s' hv st' mv=>?_
  obtain ⟨t,rfl⟩:=txt i v hv
  have so':=rJ (h':=s'.heap) (fun o q=>mv.heap a o aw q) so
  apply wpAny_bind (m:=holding [Value.str (f i) t] (setAdd a (.str (f i) t)))
  apply wpAny_holding
  unfold setAdd
  apply wpAny_holding
  apply wpAny_bind
  apply (strKind P w).pyHash (strKind_is P w (f i) t)
  have room:=oY f i
  refine wpAny_setAddHashed_of (knd:=strKind P w) (strKind_is _ _ _ _) rfl so' (by omega) fun h' sb so2=>wpAny_pure ⟨plainId_quiet F.plain_set_update_loop _,?_⟩
  have other:∀ b,b≠a→∀ o,s'.heap.get? b=some o→h'.get? b=some o:=fun b ne o q=>(sb.2 b ne).trans q
  have next:h'.SetOf (strKind P w) a (inK (de f (i+1))) (de f (i+1)).length:=by
   refine SetOf_congr so2 (fun x=>?_) ?_
   ·rw [Bool.eq_iff_iff,Bool.or_eq_true,decide_eq_true_eq,decide_eq_true_eq,decide_eq_true_eq]
    exact sw.symm
   ·show _=(mr _ _).length
    rw [sB]
    simp only [decide_eq_true_eq]
  refine ih (i+1) _ (by omega) (W.frame _ s' _ _ st' (Nat.le_succ _) fun b hb o q=>other b (fun z=>out (z▸hb)) o q) next fun s2 mv2 so3=>k s2 ?_ so3
  exact Moved.trans W.gtrans ((mv.mono tl).then_heap (Nat.le_succ _) fun b o hb q=>other b (fun z=>hb (z▸List.mem_cons_self)) o q) mv2
end
section
variable {P:Program} {w:World} {A:Around} {E:Value→Shared→Prop} {s:Shared}
theorem pU:∀ {zs:List Str} {us:List Value},StrsAre us zs→∀ (i:Nat) (v:Value),us[i]? =some v→∃ t,v= .str (zs.getD i Str.empty) t
 | _,_,.nil,_,_,e=>by simp at e
 | _,_,.cons y tk r,0,v,e=>by cases e;exact ⟨tk,rfl⟩
 | _,_,.cons y tk r,i+1,v,e=>by simpa using pU r i v (by simpa using e)
abbrev zL(P:Program)(w:World)(s:Shared)(a:Addr)(zs:List Str)(n:Nat)(h':Heap):Prop:=
 h'.SetOf (strKind P w) a (inK (de (fun i=>zs.getD i Str.empty) n)) (de (fun i=>zs.getD i Str.empty) n).length∧∀ b o,b<a→s.heap.get? b=some o→h'.get? b=some o
theorem xx{b:Bool}{t:String}{l:Addr}{its:Array Value}{zs:List Str}(hh:A.handled=none)(ht:t="list"∨t="tuple")(hl:∃ n,s.heap.get? l=some { cls:=.type t,data:=.seq its n })(r:StrsAre its.toList zs)(few:its.size+1<scanBound):
  codeAny (model P w) A (.call (.builtin "set.__init__") ⟨[.ref s.heap.objs.size,.ref l],[]⟩)
   (wants (fun u s2=>u= .none∧∃ h' tk,s2= { s with heap:=h',toks:=tk }∧zL P w s s.heap.objs.size zs its.size h') E) { s with heap:=s.heap.push (qc b) }:=by
 have at0:(s.heap.push (qc b)).get? s.heap.objs.size=some (qc b):=Heap.get?_push_size _ rfl
 refine codeAny_call_builtin F.called_set.init.plain F.entry_set_init (check_set_init_1 ⟨_,at0,rfl⟩ ?_)
 obtain ⟨c,q⟩:=hl
 have q':(s.heap.push (qc b)).get? l=some { cls:=.type t,data:=.seq its c }:=Heap.get?_push_of_some _ q
 have ll:l<s.heap.objs.size:=Heap.lt_size q
 have sz:(s.heap.push (qc b)).objs.size=s.heap.objs.size+1:=Heap.size_push _ _
 have ne1:l≠(s.heap.push (qc b)).objs.size:=fun z=>by
  rw [sz] at z
  exact Nat.lt_irrefl _ (Nat.lt_trans (z▸ll) (Nat.lt_succ_self _))
 have out:s.heap.objs.size∉ [(s.heap.push (qc b)).objs.size,l]:=by
  intro z
  rcases List.mem_cons.mp z with z | z
  ·rw [sz] at z
   exact Nat.ne_of_lt (Nat.lt_succ_self _) z
  ·exact Nat.ne_of_gt ll (List.mem_singleton.mp z)
 have n1:isSubtype (.type t) (.type "set")=pure false:=ht.elim (· ▸F.sub_list_set) (· ▸F.sub_tuple_set)
 have n2:isSubtype (.type t) (.type "frozenset")=pure false:=ht.elim (· ▸F.sub_list_frozenset) (· ▸F.sub_tuple_frozenset)
 have n3:(Value.type t==Value.type "dict")=false:=by rcases ht with rfl | rfl<;>decide
 have hA:A.in1.in1.handled=none:=by simp [hh]
 unfold Builtin.«set.__init__» noKeywords Builtin.Frozenset.updateFrom
 generalize gi:pyIter=iter
 wp_walk
 subst gi
 rcases ht with rfl | rfl
 all_goals first | apply wpAny_pyIter_list ⟨_,q',rfl,c,rfl⟩ | apply wpAny_pyIter_tuple ⟨_,q',rfl,c,rfl⟩
 all_goals refine wpAny_bind<|wpAny_runValue ?_
 all_goals first
  | refine rK ((Walks.list (prog:=P) (w:=w) hA _ l ne1 its).toS) s.heap.objs.size out (fun i=>zs.getD i Str.empty) (fun i v z=>pU r i v (by rw [Array.getElem?_toList];exact z)) few its.size 0 _ (Nat.zero_add _) ⟨⟨_,Heap.get?_push_size _ rfl,rfl,rfl⟩,⟨_,Heap.get?_push_of_some _ q',rfl,c,rfl⟩⟩ ?_ ?_
  | refine rK ((Walks.tuple (prog:=P) (w:=w) hA _ l ne1 its).toS) s.heap.objs.size out (fun i=>zs.getD i Str.empty) (fun i v z=>pU r i v (by rw [Array.getElem?_toList];exact z)) few its.size 0 _ (Nat.zero_add _) ⟨⟨_,Heap.get?_push_size _ rfl,rfl,rfl⟩,⟨_,Heap.get?_push_of_some _ q',rfl,c,rfl⟩⟩ ?_ ?_
 all_goals first
 | exact SetOf_congr ((setObjOf_fresh (knd:=strKind P w) b).setOf (Heap.get?_push_of_some _ at0) (by decide)) (fun _=>rfl) rfl
 | skip
 all_goals
  rintro ⟨h',g',d',t',o'⟩ mv so
  obtain rfl:g'=s.gens:=mv.gens
  obtain rfl:d'=s.drawn:=mv.drawn
  obtain rfl:o'=s.os:=mv.os
  apply wpAny_pure
  refine wpAny_pure ⟨rfl,h',t',rfl,so,fun x o hx e=>mv.heap x o (fun z=>?_) (Heap.get?_push_of_some _ (Heap.get?_push_of_some _ e))⟩
  rcases List.mem_cons.mp z with z | z
  ·exact Nat.ne_of_lt hx z
  ·have z:=List.mem_singleton.mp z
   rw [sz] at z
   exact Nat.ne_of_lt (Nat.lt_succ_of_lt hx) z
theorem qb{t:String}{l:Addr}{its:Array Value}{zs:List Str}{Q:Value→Shared→Prop}(hh:A.handled=none)(ht:t="list"∨t="tuple")(hl:∃ n,s.heap.get? l=some { cls:=.type t,data:=.seq its n })(r:StrsAre its.toList zs)(few:its.size+1<scanBound)
  (k:∀ (h':Heap) (tk:Nat),zL P w s s.heap.objs.size zs its.size h'→Q (.ref s.heap.objs.size) { s with heap:=h',toks:=tk }):wpAny (model P w) A (call (.type "set") [.ref l]) Q E s:=by
 have C:=F.called_set
 obtain ⟨_,_,c1⟩:=C.mro
 have c2:=C.made
 have c3:=C.sub
 have c4:=C.notType
 have c5:=C.canCreate
 have c6:=F.typeCall_set_1 (.ref l)
 have c7:=C.init.lookup
 have c8:=C.init.bind (.ref s.heap.objs.size)
 apply wpAny_call
 apply codeAny_of_tree
 show wpAny _ _ (callAny (.type "set") ⟨[.ref l],[]⟩) _ _ _
 apply wpAny_pure
 refine And.intro (Code.quiet_builtin _ (by decide+kernel))<|codeAny_builtin F.entry_type_call ?_
 rw [Around.under_plain (weight_type_call_type "set" [.ref l] []) rfl]
 repeat any_goals first | assumption | wp_step
 refine codeAny_mono (R:=wants (fun o s1=>∃ b:Bool,o= .ref s.heap.objs.size∧s1= { s with heap:=s.heap.push (qc b) }) E) (code_set_new_1 _ fun b=>⟨b,rfl,rfl⟩) fun res s1 z=>?_
 rcases res with e | (o | _ | _ | _)<;>first | exact z | exact z.elim | skip
 obtain ⟨b,rfl,rfl⟩:=z
 have isS:Shared.TypeIs { s with heap:=s.heap.push (qc b) } (.ref s.heap.objs.size) "set":=⟨_,Heap.get?_push_size _ rfl,rfl⟩
 repeat any_goals first | assumption | wp_step
 refine codeAny_mono (xx (E:=E) (by simp [hh]) ht hl r few) fun res2 s2 z2=>?_
 rcases res2 with e | (o | _ | _ | _)<;>first | exact z2 | exact z2.elim | skip
 obtain ⟨rfl,h',tk,rfl,fin⟩:=z2
 repeat any_goals first | assumption | wp_step
 exact k h' tk fin
end
end L2
namespace L3
open PySem PySem.Spec PyProof.Rows L2
theorem xz(f:Nat→List Nat):∀ n,de (fun i=>S (f i)) n=(de f n).map S
 | 0=>rfl
 | n+1=>by
  show mr (de (fun i=>S (f i)) n) (S (f n))=(mr (de f n) (f n)).map S
  rw [xz f n]
  unfold mr
  have:S (f n)∈(de f n).map S↔f n∈de f n:=by
   constructor
   ·intro h
    obtain ⟨x,hx,e⟩:=List.mem_map.mp h
    rw [← sV e];exact hx
   ·exact fun h=>List.mem_map.mpr ⟨_,h,rfl⟩
  by_cases q:f n∈de f n
  ·rw [if_pos q,if_pos (this.mpr q)]
  ·rw [if_neg q,if_neg (fun z=>q (this.mp z)),List.map_append];rfl
def kQ(ls:List (List Nat)):Nat:=(de (fun i=>ls.getD i []) ls.length).length
theorem BQ(ls:List (List Nat)):(de (fun i=>(ls.map S).getD i Str.empty) (ls.map S).length).length=kQ ls:=by
 have:(fun i=>(ls.map S).getD i Str.empty)=fun i=>S (ls.getD i []):=by
  funext i
  rw [List.getD_eq_getElem?_getD,List.getD_eq_getElem?_getD,List.getElem?_map]
  cases ls[i]? <;>rfl
 rw [this,List.length_map,xz,List.length_map]
 rfl
def Ap(p:PV)(h:List PO):Res PV:=match lsR h p with
 | some xs=>match dU xs with
  | some ls=>if ls.length+1<scanBound then .ok (.int (kQ ls:Nat)) h else .bad
  | none=>.bad
 | none=>.bad
end L3
namespace Z
open PySem PySem.Spec PyProof.Rows L3 L2
section
variable {X:Cx} {e:Expr} {f:Ex} {p1 p2 pos pos2:Pos}
theorem StrsAre.len:∀ {us:List Value} {ys:List Str},StrsAre us ys→us.length=ys.length
 | _,_,.nil=>rfl
 | _,_,.cons _ _ r=>by simp [StrsAre.len r]
end
end Z
namespace Att
open PySem PySem.W PySem.Calls PyProof.Rows
theorem mh{P:Params}{h:Heap}:∀ (ns:List Int) (vs:List Value),WellAll P h vs (ns.map WData.int)→IntsAre vs ns:=by
 intro ns
 induction ns with
 | nil=>
  intro vs w
  rw [List.map_nil] at w
  cases w
  exact .nil
 | cons n ns ih=>
  intro vs w
  rw [List.map_cons] at w
  cases w with
  | cons a b=>
   cases a
   exact .cons _ _ (ih _ b)
theorem we{l:OpenLaw}{n:Nat}(hn:l.most=some n){P:Params}{h:Heap}{args:List WData}{vals:List Value}
  (hpre:l.row.toRowW.claim.pre args=true) (hwl:WellAll P h vals args):
  ∃ a vs ns,vals= [Value.ref a]∧args= [WData.list (ns.map WData.int)]∧h.get? a=some { cls:=.type "list",data:=.seq vs.toArray }∧IntsAre vs ns∧ns.length≤n:=by
 have hsh:WShape.hasAll [] args [.list .int]=true:=(pre_splitW hpre).1
 have hc:l.pre.holds [] { args:=args }=true:=(pre_splitW hpre).2
 obtain ⟨d,r,rfl,h1,h2⟩:=hasAllW_cons hsh
 obtain rfl:=hasAllW_nil h2
 obtain ⟨xs,rfl,h3⟩:=hasW_list h1
 obtain ⟨ns,rfl⟩:=items_int h3
 have hlen:ns.length≤n:=by
  unfold OpenLaw.pre at hc
  have h4:(WTm.not (.lt (.lit (.int (n:Int))) (.len (.arg 0)))).holds [] { args:= [.list (ns.map .int)] }=true:=by
   have h4:=(holds_andW hc).1
   rw [hn] at h4
   exact h4
  have h5:=condW_of h4 (w_not (w_lt w_lit (w_len_list (w_arg rfl))))
  rw [List.length_map] at h5
  refine Nat.le_of_not_lt fun q=>?_
  have q':(n:Int)<((ns.length:Nat):Int):=by omega
  first
   | (rw [decide_eq_true q'] at h5;exact absurd h5 (by decide))
   | (simp at h5;omega)
 cases hwl with
 | cons w1 w2=>
  cases w2
  cases w1 with
  | list ho hall=>exact ⟨_,_,ns,rfl,rfl,ho,mh ns _ hall,hlen⟩
theorem wB(l:OpenLaw)(args:List WData):l.row.toRowW.claim.post args (.bool true) args=true:=
 postW_of (r:=l.row.toRowW) (X:=(true==true))
  (show WShape.has [] (.bool true) .bool=true by first | rfl | decide | simp [WShape.has,WShape.arms,WShape.armsAll])
  (show (WTm.eq .res (.lit (.bool true))).value [] { args:=args,res:=some (.bool true),after:=args }=some (.bool (true==true)) from w_eq_bool (w_res rfl) w_lit) rfl
theorem attach_call{l:OpenLaw}{n:Nat}{q:Program}{loose:List Str}{XP:(Str→Option Value)→Heap→Prop}{YP:World→Heap→Prop}{d:DefRec}
  (hn:l.most=some n) (hdf:d.params.defaults= [])
  (call:∀ (w:World) (s₀ s₁:Shared) (mg mb:Str→Option Value) (fa:Addr) (o:Obj) (pm cd doc:Value) (a:Addr) (vs:List Value) (ns:List Int),
   Ground q loose [] XP w s₀ mg mb s₁.heap→YP w s₁.heap→
   s₁.heap.get? fa=some o→o.data= .func (docDef d.name d.params d.body d.scope pm cd doc)→s₁.heap.CodeRec cd d.name→mg d.name=some (.ref fa)→
   s₁.heap.get? a=some { cls:=.type "list",data:=.seq vs.toArray }→IntsAre vs ns→ns.length≤n→s₁.gens= #[]→
   codeAny (model l.prog w) callerA (.call (.ref fa) ⟨[.ref a],[]⟩) (fun r s'=>r= .ok (.ret (.bool true))∧OldK s₁.heap s'.heap∧s'.os=s₁.os∧AllBare s'.gens) s₁):
  WalkO q loose XP YP l.row.toRowW d [] (fun f vs=>PySem.call f vs):=by
 intro w s₀ s₁ mg mb G Y fa o pm cd doc dV kV ho hd hcd hD hmg hg args vals as hpre hlay hrd hwl hlo
 obtain rfl:dV= .none:=Dflts.none hD hdf
 obtain rfl:kV= .none:=Dflts.noKw hD
 obtain ⟨a,vs,ns,rfl,rfl,hobj,hints,hlen⟩:=we hn hpre hwl
 refine enter_call (codeAny_mono (call w s₀ s₁ mg mb fa o pm cd doc a vs ns G Y ho (fd_plain hd) hcd hmg hobj hints hlen hg) fun r s' hq=>?_)
 obtain ⟨rfl,h2,h3,h4⟩:=hq
 exact ⟨.inl ⟨.bool true,.bool true,[],rfl,fun _=>rfl,.bool true,wB l _,fun _=>⟨List.Pairwise.nil,fun _ hm=>(nomatch hm)⟩⟩,h2,h3,h4⟩
end Att
namespace Z
open PySem PySem.Spec PyProof.Rows L3 L2
def cx0(G:SC):Cx:= { G with A:=callerA,N:= [],env:=envOfC "" { kind:=.function,names:= [],isGenerator:=false,isCoroutine:=false } 0 0 .none,stack:= [],fn:=fun _=>true,calm:=true,tr:=true,Ep:=fun _=>True }
theorem oS{G:SC}{F:Fz}{m:List Addr}:∀ {vs:List Value} {ns:List Int},IntsAre vs ns→aB G F m (ns.map PV.int) vs
 | _,_,.nil=>.nil
 | _,_,.cons i t r=>.cons (.int i t) (oS r)
theorem yL{P:Program}{w:World}{K:PySem.W.Frag}{mg mb:Str→Option Value}{T:Nat→Option Addr}{k:Nat}{fa a:Addr}{fd:FuncData}{x:Str}{fn:List PV→L3.Out}{s₁:Shared}{vs:List Value}{ns:List Int}
  (KX:K.In s₁.heap) (hns:s₁.heap.Ns mainGlobals mg) (hb:s₁.heap.Ns builtinsNs mb) (hbb:∀ x:Str,x≠"__name__"→mb x=bootBuiltins x) (hlim:s₁.heap.NoLimit) (hg:s₁.gens= #[])
  (ha:s₁.heap.get? a=some { cls:=.type "list",data:=.seq vs.toArray }) (hi:IntsAre vs ns) (hl:ns.length≤sizeLine) (hr:dZ k callerA)
  (F:FnP ⟨P,w,K,mg,s₁.heap,T⟩ k fa fd [x] fn) (hbind:∀ (s:Shared) (u:Value),BindsTo s fd ⟨[u],[]⟩ [(x,u)]) (hsp:fn [.giv (ns.map PV.int)]= .ok (.bl true)):
  codeAny (model P w) callerA (.call (.ref fa) ⟨[.ref a],[]⟩) (fun r s'=>r= .ok (.ret (.bool true))∧OldK s₁.heap s'.heap∧s'.os=s₁.os∧AllBare s'.gens) s₁:=by
 have ok:(cx0 ⟨P,w,K,mg,s₁.heap,T⟩).Ok:=⟨KX,hns,⟨mb,hb,hbb⟩,hlim,rfl,rfl,rfl,fun x y c e=>(nomatch e),fun x e=>(by rcases e with e | e<;>cases e),fun _=>rfl,rfl,.nil,fun e he=>(nomatch he)⟩
 have W:Wd (cx0 ⟨P,w,K,mg,s₁.heap,T⟩) ⟨fun b=>s₁.heap.get? b,fun _=>none,[],s₁⟩ []:=⟨⟨fun _ _ e=>e,fun _ _ e=>(nomatch e),rfl,.nil,fun _ _ _ e=>(nomatch e)⟩,.of_eq hg,fun _ _ e=>e,fun b hb=>(nomatch hb)⟩
 refine codeAny_mono (F.run (X:=cx0 ⟨P,w,K,mg,s₁.heap,T⟩) (w:=⟨fun b=>s₁.heap.get? b,fun _=>none,[],s₁⟩) (h:= []) (us:= [.ref a]) (Q:=fun v s'=>v= .bool true∧OldK s₁.heap s'.heap∧s'.os=s₁.os∧AllBare s'.gens) (E:=fun _ _=>False) rfl hr rfl rfl W ok (.cons (.giv ha (by simpa [hi.length] using hl) (by simpa using oS hi)) .nil) hsp (hbind s₁ (.ref a)) fun F' s' u n r=>?_) fun r s' h=>?_
 ·cases r
  exact ⟨rfl,OldK.of_keep fun b o e=>n.2.sub b o (n.1.fz b o e),n.1.os,n.1.ba (.of_eq hg)⟩
 ·cases r with
  | error e=>exact h.elim
  | ok fl=>
   cases fl with
   | ret u=>obtain ⟨rfl,z⟩:=h;exact ⟨rfl,z⟩
   | _=>exact False.elim h
theorem yJ{l:PySem.W.OpenLaw}{k:Nat}{q:Program}{loose:List Str}{XP:(Str→Option Value)→Heap→Prop}{YP:World→Heap→Prop}{d:DefRec}{K:Params→PySem.W.Frag}{x:Str}{fn:List PV→L3.Out}(hn:l.most=some 63)(hdf:d.params.defaults= [])(hr:dZ k callerA)
  (hY:∀ (w:World) (h:Heap),YP w h→(K w.params).In h) (law:∀ ns:List Int,ns.length≤63→fn [.giv (ns.map PV.int)]= .ok (.bl true))
  (F:∀ (w:World) (mg:Str→Option Value) (fa:Addr) (h:Heap),(K w.params).In h→h.Ns mainGlobals mg→mg d.name=some (.ref fa)→
   ∃ (fd:FuncData) (T:Nat→Option Addr),(∀ (s:Shared) (u:Value),BindsTo s fd ⟨[u],[]⟩ [(x,u)])∧FnP ⟨l.prog,w,K w.params,mg,h,T⟩ k fa fd [x] fn):
  PySem.W.WalkO q loose XP YP l.row.toRowW d [] (fun f vs=>PySem.call f vs):=by
 refine Att.attach_call hn hdf fun w s₀ s₁ mg mb fa o pm cd doc a vs ns G Y ho hd hcd hmg hobj hints hlen hg=>?_
 have KX:=hY w _ Y
 obtain ⟨fd,T,hb,hF⟩:=F w mg fa _ KX G.T.g hmg
 exact yL KX G.T.g G.T.b G.T.builtins G.T.nolimit hg hobj hints (Nat.le_trans hlen (by decide)) hr hF hb (law ns hlen)
end Z
namespace L3
open PySem L2
end L3
namespace Z
open PySem PySem.Spec PyProof.Rows L3 L2
open PySem PySem.Spec PyProof.Rows
end Z
namespace Z
open PySem PySem.Spec PyProof.Rows L3 L2
end Z
namespace L3
open PySem
def bZ(tt:Tx)(te:Ex)(cp:Ev):List PV→List PO→Res (List PV)
 | [],h=>.ok [] h
 | p::r,h=>(tt (some p::cp) h).bind fun b h1=>if b=true then (te (some p::cp) h1).bind fun v h2=>(bZ tt te cp r h2).bind fun vs h3=>.ok (v::vs) h3 else bZ tt te cp r h1
def cS(caps:List Nat)(it:Ax)(tt:Tx)(te:Ex):Ax:=fun ρ h=>(it ρ h).bind fun xs h1=>if xs.length<sizeLine then (bZ tt te (bW caps ρ) xs h1).calm else .bad
def eE(tt:Tx)(te:Ex)(cp:Ev):List PV→List PO→Res (List PV)
 | [],h=>.ok [] h
 | .tup [p1,p2]::r,h=>(tt (some p1::some p2::cp) h).bind fun b h1=>if b=true then (te (some p1::some p2::cp) h1).bind fun v h2=>(eE tt te cp r h2).bind fun vs h3=>.ok (v::vs) h3 else eE tt te cp r h1
 | _,_=>.bad
def fw(caps:List Nat)(it:Ax)(tt:Tx)(te:Ex):Ax:=fun ρ h=>(it ρ h).bind fun xs h1=>if xs.length<sizeLine then (eE tt te (bW caps ρ) xs h1).calm else .bad
theorem rd(tt:Tx)(te:Ex)(cp:Ev):∀ xs h,dg (gNm 0) tt te (List.replicate 1 none++cp) xs h=bZ tt te cp xs h
 | [],h=>rfl
 | p::r,h=>by simp only [bZ,← rd tt te cp r];rfl
abbrev g2:Gx:=gTp 2 (bR (gNm 0) (bR (gNm 1) gg))
theorem qZ(tt:Tx)(te:Ex)(cp:Ev):∀ xs h,dg g2 tt te (List.replicate 2 none++cp) xs h=eE tt te cp xs h
 | [],h=>rfl
 | .tup [p1,p2]::r,h=>by simp only [eE,← qZ tt te cp r];rfl
 | .tup []::r,h=>rfl
 | .tup [_]::r,h=>rfl
 | .tup (_::_::_::_)::r,h=>by simp [dg,eE,gTp]
 | .non::r,h | .bl _::r,h | .int _::r,h | .str _::r,h | .ty _::r,h | .cls _::r,h | .lst _::r,h | .giv _::r,h | .dct _::r,h | .ins _ _::r,h | .ref _::r,h | .exc _::r,h | .exa _ _::r,h=>rfl
end L3
namespace Z
open PySem PySem.Spec PyProof.Rows L3 L2
section
variable {X:Cx} {e a b elt iter tg:Expr} {es ifs:List Expr} {f fa fb te:Ex} {fs it:Ax} {tt:Tx} {pos p0 p1 tp:Pos} {x y:Str} {scope:Scope} {M:List Str} {caps:List Nat} {u:Value}
theorem fS(ha:RE X a fa)(hb:RE X b fb):RE X (.BinOp a .Mult b pos) (c2 iP fa fb):=nh (fun {w h p q u v Q E} I rp rq k=>DG I rp rq (by
 unfold ym
 split
 ·exact k.elim
 ·exact k)) ha hb
theorem CL(q:PV)(cp ρ1:Ev)(e:g2 q (List.replicate 2 none++cp)=some ρ1):∃ l:Ev,l.length=2∧ρ1=l++cp:=by
 unfold g2 gTp at e
 split at e
 ·rename_i ps
  split at e
  ·rename_i z
   obtain ⟨a,b,rfl⟩:∃ a b,ps= [a,b]:=by
    match ps,z with
    | [a,b],_=>exact ⟨a,b,rfl⟩
   cases e
   exact ⟨[some a,some b],rfl,rfl⟩
  ·cases e
 ·cases e
theorem fA(S:bA X.N X.env.scope scope caps [x] M)(hi:RI X (.Name x tp) iter it)(ht:∀ cl C,RFs (bp X M scope cl C) ifs tt)(he:∀ cl C,RE (bp X M scope cl C) elt te)(hc:X.calm=true:=by rfl)(hg:∀ cl C,RG (bp X M scope cl C) (.Name x tp) (gNm 0):=by exact fun _ _=>aW)
  (hs:∀ y,foldedSetIterable iter X.env y=pure y:=by intro _;rfl):RE X (.ListComp elt [⟨.Name x tp,iter,ifs,0⟩] scope pos) (cN okL (cS caps it tt te)):=by
 have q:=ET (pos:=pos) caps hc S hi hg ht he vH CM hs
 have z:dk 1 (gNm 0) caps it tt te=cS caps it tt te:=by funext ρ h;simp only [dk,cS,rd]
 exact z▸q
theorem xM{k:Nat}{tp2 tp3:Pos}(S:bA X.N X.env.scope scope caps [x,y] M)(hi:RI X (.Tuple [.Name x tp,.Name y tp2] k tp3) iter it)(ht:∀ cl C,RFs (bp X M scope cl C) ifs tt)(he:∀ cl C,RE (bp X M scope cl C) elt te)(hc:X.calm=true:=by rfl)(hg:∀ cl C,RG (bp X M scope cl C) (.Tuple [.Name x tp,.Name y tp2] k tp3) g2:=by exact fun _ _=>gL rfl (bG aW (bG aW fx)))
  (hs:∀ y,foldedSetIterable iter X.env y=pure y:=by intro _;rfl):RE X (.ListComp elt [⟨.Tuple [.Name x tp,.Name y tp2] k tp3,iter,ifs,0⟩] scope pos) (cN okL (fw caps it tt te)):=by
 have q:=ET (pos:=pos) caps hc S hi hg ht he vH CL hs
 have z:dk 2 g2 caps it tt te=fw caps it tt te:=by funext ρ h;simp only [dk,fw,qZ]
 exact z▸q
theorem rO{iy:Nat}{py spos:Pos}(S:bA X.N X.env.scope scope caps [x] M)(hi:RI X (.Name x tp) iter it)(ht:∀ cl C,RFs (bp X M scope cl C) ifs tt)(he:∀ cl C,RE (bp X M scope cl C) elt te)(hy:X.N[iy]? =some y)(hLy:X.env.scope.names.lookup y=some .local)(hsw:swapsWith (.ListComp elt [⟨.Name x tp,iter,ifs,0⟩] scope pos) (some (.Name y py)) spos.line X.env=pure true)(hc:X.calm=true:=by rfl)(hg:∀ cl C,RG (bp X M scope cl C) (.Name x tp) (gNm 0):=by exact fun _ _=>aW)
  (hs:∀ y,foldedSetIterable iter X.env y=pure y:=by intro _;rfl):RS X (.Assign [.Name y py] (.ListComp elt [⟨.Name x tp,iter,ifs,0⟩] scope pos) spos) (aK iy (cN nT (cS caps it tt te))):=by
 have q:=lL (pos:=pos) (py:=py) caps hc S hi hg ht he CM hy hLy hsw hs
 have z:dk 1 (gNm 0) caps it tt te=cS caps it tt te:=by funext ρ h;simp only [dk,cS,rd]
 exact z▸q
theorem rst{l:List Nat}{j}(e:x=S l:=by kernel_rfl):RE X (.Constant (.str x) j pos) (cK (.str l)):=Ci l e
theorem ra1(ha:RE X e f)(hs:starEach [e] X.env=(false,eval e X.env)::starEach [] X.env:=by rfl):RA X [e] (ab f aj):=ag ha cu hs
theorem req(hu:X.A.units+64<cLine)(ha:RE X a fa)(hb:RE X b fb):RE X (.Compare a [.Eq] [b] pos) (c2 pEq fa fb):=xN (DJ hu) (bN _) ha hb
theorem rte(hu:X.A.units+64<cLine)(ha:RE X a fa)(hb:RE X b fb):RT X (.Compare a [.Eq] [b] pos) (aJ (c2 pEq fa fb)):=bL (DJ hu) (bN _) ha hb
theorem zr(ha:RE X e f):RSs X [.Return (some e) pos] (bS f):=aE (Ce ha)
theorem aT{i:Nat}{pos':Pos}(ha:RE X a fa)(hi:X.N[i]? =some x:=by rfl)(hx:X.env.kindOf x=some .local∨(X.env.kindOf x=some .cell∧X.fn x=true):=by first | exact .inl rfl | exact .inr ⟨rfl,rfl⟩)(hs:swapsWith a (some (.Name x pos')) pos.line X.env=pure false:=by rfl):RS X (.Assign [.Name x pos'] a pos) (aK i fa):=Cd hi hx ha hs
theorem zf{g:Gx}{body:List Stmt}{fb:Sx}(hi:RI X tg iter it)(hg:RG X tg g)(hb:RSs X body fb)(hp:∀ E,X.Ep E→PassesOwn X.M X.A X.env E:=by exact fun _ h=>h)(hc:X.calm=true:=by rfl)(hs:∀ x,foldedSetIterable iter X.env x=pure x:=by intro _;rfl):RS X (.For tg iter body [] pos) (iN it g fb):=Cf hp hc hi hg hb hs
theorem zb{id:String}{g:List PV→List PO→Res PV}(o:OpC X (.builtin id) g)(hm:X.mg x=none)(ha:RA X (e::es) fs)(hv:bootBuiltins x=some (.builtin id):=by decide+kernel)(hg:Gl X x:=by rfl)(hn:x≠"__name__":=by decide)(hdb:(x==("__debug__":Str))=false:=by decide)(he:starEach (e::es) X.env=(false,eval e X.env)::starEach es X.env:=by rfl)(hpl:(backTo pos (starEach es X.env)).any (·.1)=false:=by rfl):RE X (.Call (.Name x p0) (e::es) [] pos) (cN g fs):=xP o hg hm hv ha hn hdb he hpl
theorem zt{id:String}{g:List PV→List PO→Res PV}(o:OpC X (.type id) g)(hm:X.mg x=none)(ha:RA X (e::es) fs)(hv:bootBuiltins x=some (.type id):=by decide+kernel)(hg:Gl X x:=by rfl)(hn:x≠"__name__":=by decide)(hdb:(x==("__debug__":Str))=false:=by decide)(he:starEach (e::es) X.env=(false,eval e X.env)::starEach es X.env:=by rfl)(hpl:(backTo pos (starEach es X.env)).any (·.1)=false:=by rfl):RE X (.Call (.Name x p0) (e::es) [] pos) (cN g fs):=wk o hg hm hv ha hn hdb he hpl
theorem zty{n:String}(hm:X.mg x=none)(hg:Gl X x:=by rfl)(hv:bootBuiltins x=some (.type n):=by decide+kernel)(hn:x≠"__name__":=by decide)(hd:(x==("__debug__":Str))=false:=by decide):RE X (.Name x pos) (cK (.ty n)):=Ch hg hm hv hn hd
theorem zis{n:String}(hi:X.mg "isinstance"=none)(hm:X.mg x=none)(ha:RE X e f)(hg:Gl X "isinstance":=by rfl)(h1:Gl X x:=by rfl)(hv:bootBuiltins x=some (.type n):=by decide+kernel)(hn:x≠"__name__":=by decide)(hd:(x==("__debug__":Str))=false:=by decide)(he:starEach [e,.Name x p1] X.env=(false,eval e X.env)::starEach [.Name x p1] X.env:=by rfl)(h2:starEach [.Name x p1] X.env=(false,eval (.Name x p1) X.env)::starEach [] X.env:=by rfl)(hpl:(backTo pos (starEach [.Name x p1] X.env)).any (·.1)=false:=by rfl):RE X (.Call (.Name "isinstance" p0) [e,.Name x p1] [] pos) (cN eR (ab f (ab (cK (.ty n)) aj))):=zb yu hi (ag ha (ag (zty hm h1 hv hn hd) cu h2) he) (by decide+kernel) hg (by decide) (by decide) he hpl
theorem zl(hm:X.mg "len"=none)(ha:RE X e f)(hg:Gl X "len":=by rfl)(he:starEach [e] X.env=(false,eval e X.env)::starEach [] X.env:=by rfl)(hpl:(backTo pos (starEach [] X.env)).any (·.1)=false:=by rfl):RE X (.Call (.Name "len" p0) [e] [] pos) (cN bv (ab f aj)):=zb DI hm (ra1 ha he) (by decide+kernel) hg (by decide) (by decide) he hpl
theorem FnP.bad{G:SC}{k:Nat}{f:Addr}{fd:FuncData}{ps:List Str}:FnP G k f fd ps fun _=>.bad:=⟨fun _ _ h=>(nomatch h),fun _ _ _ _ _ _ _ h=>(nomatch h)⟩
theorem FnL.bad{G:SC}{c:Bool}{k:Nat}{f:Addr}{fd:FuncData}{ps:List Str}:FnL G c k f fd ps fun _ _=>.bad:=⟨fun _ _ h=>absurd rfl h,fun _ _ _ _ _ _ _ _ h=>h.elim⟩
end
end Z
namespace L3
open PySem
def lM(ps:List PV)(h:List PO):Res PV:=match ps with
 | [p]=>match sqR h p with
  | some xs=>.ok (.lst xs) h
  | none=>.bad
 | _=>.bad
end L3
namespace Z
open PySem PySem.Spec PyProof.Rows L3 L2
section
variable {G:SC} {X:Cx} {w w1:Wo} {ρ:Ev} {h:List PO}
theorem HR.sqR{p:PV}{u:Value}{xs:List PV}(H:HR G w h)(r:aZ G w.F w.m p u)(e:sqR h p=some xs):∃ t a its,(t="list"∨t="tuple")∧u= .ref a∧SqA w.s.heap t a its∧its.size≤sizeLine∧aB G w.F w.m xs its.toList:=by
 unfold L3.sqR at e
 split at e
 ·cases e
  obtain ⟨a,its,e1,y,z,r⟩:=H.sq r rfl
  exact ⟨_,a,its,.inr rfl,e1,y,z,r⟩
 ·obtain ⟨a,its,e1,y,z,r⟩:=H.sq r (fe e)
  exact ⟨_,a,its,.inl rfl,e1,y,z,r⟩
theorem tO:OpC X (.type "list") lM:=fun ok {w h p u Q E} I rs k=>by
 unfold lM at k
 split at k
 ·obtain ⟨u,rfl,r1⟩:=rs.one
  show Wp X (call (.type "list") [u]) Q E w.s
  split at k
  ·rename_i e
   obtain ⟨t,a,its,ht,rfl,⟨n,y⟩,z,r⟩:=I.toHR.sqR r1 e
   exact call_list_seq a ht y rfl rfl (fun h' c' kp e=>k.seqAt I.toHR (bd _) kp e rfl r z) z
  ·exact k.elim
 ·exact k.elim
end
end Z
namespace L3
open PySem
end L3
namespace Z
open PySem PySem.Spec PyProof.Rows L3 L2
end Z
namespace L2
open PySem PySem.Spec PyProof.Rows
section
variable {prog:Program} {w:World} {A:Around} {R:Result→Shared→Prop} {E:Value→Shared→Prop}
abbrev uu(h:Heap)(z ti to:Addr)(f0 f1:Value):Prop:=h.get? z=some { cls:=.type "zip",data:=.fields #[f0,f1,.bool false,.ref ti,.ref to] }
end
section
variable {prog:Program} {w:World} {A:Around} {E:Value→Shared→Prop} {s:Shared} {z ti to i1 i2:Addr} {f1 f2:List Addr} {n1 n2:Nat} {P1 P2:Nat→Value→Prop} {S1 S2:Nat→Heap→Prop}
theorem rA{a:Addr}{b:Bool}{oa:Obj}{Q:Bool→Shared→Prop}(hz:uu s.heap z ti to (rawInt a) (.bool b))(ha:s.heap.get? a=some oa)(hQ:∀ h',uu h' z ti to (rawInt a) (.bool true)→Heap.SameBut z s.heap h'→Q false { s with heap:=h' }):
  wpAny (model prog w) A (Builtin.SmallTypes.ownedTupleIsFree (.ref z)) Q E s:=by
 refine (show wpAny (model prog w) A (field (.ref z) 0 >>= _) _ E s from wpAny_bind (wpAny_field hz rfl (x:=rawInt a) rfl ?_))
 refine (show wpAny (model prog w) A (loadIfAlive ((a:Int).toNat) >>= _) _ E s from wpAny_bind ?_)
 have al:∀ {Q:Option Obj→Shared→Prop},Q (some oa) s→wpAny (model prog w) A (loadIfAlive ((a:Int).toNat)) Q E s:=fun {Q} h=>by
  have q:Q (s.heap.get? ((a:Int).toNat)) s:=by rw [Int.toNat_natCast,ha];exact h
  exact fun _ _ _=>q
 refine al (wpAny_ite_false (by simp) (wpAny_bind (wpAny_field hz rfl (x:=.bool b) rfl ?_)))
 cases b with
 | true=>exact wpAny_ite_false (by decide) (wpAny_pure (hQ _ hz (Heap.SameBut.refl _ _)))
 | false=>exact wpAny_ite_true (by decide) (wpAny_bind (wpAny_setField_rec hz (by simp) fun g zg b1=>wpAny_pure (hQ g zg b1)))
theorem xg{j:Nat}{a:Addr}{b:Bool}{oa:Obj}{Q:Value→Shared→Prop}(Z:Zap z ti to i1 i2 f1 f2)(D1:Draws prog w A i1 f1 n1 P1 S1)(D2:Draws prog w A i2 f2 n2 P2 S2)
  (hz:uu s.heap z ti to (rawInt a) (.bool b)) (ha:s.heap.get? a=some oa) (hti:IsPair s.heap ti (.ref i1) (.ref i2)) (s1:S1 j s.heap) (s2:S2 j s.heap) (l1:j<n1) (l2:j<n2)
  (hQ:∀ x y h' tk,P1 j x→P2 j y→uu h' z ti to (rawInt a) (.bool true)→S1 (j+1) h'→S2 (j+1) h'→IsPair h' s.heap.objs.size x y→h'.objs.size=s.heap.objs.size+1→
   (∀ c o,c≠z→c≠i1→c≠i2→s.heap.get? c=some o→h'.get? c=some o)→Q (.ref s.heap.objs.size) { s with heap:=h',toks:=tk }):
  wpAny (model prog w) A (Builtin.«zip.__next__» ⟨[.ref z],[]⟩) (fun fin s'=>∃ v,fin= .done (.ret v)∧Q v s') E s:=by
 refine (show wpAny (model prog w) A (field (.ref z) 2 >>= _) _ E s from wpAny_bind (wpAny_field hz rfl (x:=.bool false) rfl ?_))
 refine (show wpAny (model prog w) A (field (.ref z) 3 >>= _) _ E s from wpAny_bind (wpAny_field hz rfl (x:=.ref ti) rfl (wpAny_bind (wpAny_seqItems hti rfl ?_))))
 refine (show wpAny (model prog w) A (Builtin.SmallTypes.ownedTupleIsFree (.ref z) >>= _) _ E s from wpAny_bind (rA hz ha fun g1 zg b1=>?_))
 refine wpAny_ite_false (by decide) (wpAny_bind ?_)
 rw [← Array.forIn_toList]
 show wpAny _ _ (forIn [Value.ref i1,.ref i2] _ _) _ _ _
 rw [List.forIn_cons]
 refine wpAny_bind (wpAny_bind (wpAny_holding ?_))
 refine (show wpAny (model prog w) A (Builtin.SmallTypes.nextOf (.ref i1) >>= _) _ _ _ from wpAny_bind (D1.item j _ _ _ l1 (Draws.but D1 s1 b1.extBut Z.z1) fun x g2 k2 px t1 b2=>wpAny_pure (wpAny_pure ?_)))
 dsimp only
 rw [List.forIn_cons]
 refine wpAny_bind (wpAny_bind (wpAny_holding ?_))
 refine (show wpAny (model prog w) A (Builtin.SmallTypes.nextOf (.ref i2) >>= _) _ _ _ from wpAny_bind (D2.item j _ _ _ l2 (Draws.but D2 (Draws.but D2 s2 b1.extBut Z.z2) b2.extBut Z.o2) fun y g3 k3 py t2 b3=>wpAny_pure (wpAny_pure ?_)))
 dsimp only
 rw [List.forIn_nil]
 refine wpAny_pure (wpAny_bind (wpAny_newTuple (hsz:=show 2≤sizeLine by decide) (wpAny_pure ⟨_,rfl,?_⟩)))
 have kz:∀ c o,c≠z→c≠i1→c≠i2→s.heap.get? c=some o→g3.get? c=some o:=fun c o c1 c2 c3 q=>b3.extBut _ _ c3 (b2.extBut _ _ c2 (b1.extBut _ _ c1 q))
 have z3:uu g3 z ti to (rawInt a) (.bool true):=b3.extBut _ _ (Ne.symm Z.a4) (b2.extBut _ _ (Ne.symm Z.a3) zg)
 have sz:g3.objs.size=s.heap.objs.size:=by rw [b3.1,b2.1,b1.1]
 have up:∀ {o:Obj} {c:Addr} {ob:Obj},g3.get? c=some ob→(g3.push o).get? c=some ob:=fun e=>Heap.get?_push_of_some _ e
 have q:=hQ x y (g3.push { cls:=.type "tuple",data:=.seq #[x,y] }) k3 px py (up z3) (D1.frame _ _ _ (Draws.but D1 t1 b3.extBut Z.o1) fun _ _ _ q=>up q) (D2.frame _ _ _ t2 fun _ _ _ q=>up q) (sz▸Heap.get?_push_size _ rfl) (by rw [Heap.size_push,sz]) fun c o c1 c2 c3 q=>up (kz c o c1 c2 c3 q)
 rw [← sz] at q
 exact q
theorem zN{j:Nat}{a:Addr}{b:Bool}{oa:Obj}{R:Fin→Shared→Prop}(Z:Zap z ti to i1 i2 f1 f2)(D1:Draws prog w A i1 f1 n1 P1 S1)(D2:Draws prog w A i2 f2 n2 P2 S2)
  (hz:uu s.heap z ti to (rawInt a) (.bool b)) (ha:s.heap.get? a=some oa) (hti:IsPair s.heap ti (.ref i1) (.ref i2)) (s1:S1 j s.heap) (s2:S2 j s.heap) (l:j=n1∨(j<n1∧j=n2))
  (hE:∀ h' e tk,(∀ c o,c≠z→c≠i1→c≠i2→s.heap.get? c=some o→h'.get? c=some o)→(∃ o,h'.get? e=some o∧o.cls= .type "StopIteration")→E (.ref e) { s with heap:=h',toks:=tk }):
  wpAny (model prog w) A (Builtin.«zip.__next__» ⟨[.ref z],[]⟩) R E s:=by
 refine (show wpAny (model prog w) A (field (.ref z) 2 >>= _) _ E s from wpAny_bind (wpAny_field hz rfl (x:=.bool false) rfl ?_))
 refine (show wpAny (model prog w) A (field (.ref z) 3 >>= _) _ E s from wpAny_bind (wpAny_field hz rfl (x:=.ref ti) rfl (wpAny_bind (wpAny_seqItems hti rfl ?_))))
 refine (show wpAny (model prog w) A (Builtin.SmallTypes.ownedTupleIsFree (.ref z) >>= _) _ E s from wpAny_bind (rA hz ha fun g1 zg b1=>?_))
 refine wpAny_ite_false (by decide) (wpAny_bind ?_)
 rw [← Array.forIn_toList]
 show wpAny _ _ (forIn [Value.ref i1,.ref i2] _ _) _ _ _
 rw [List.forIn_cons]
 refine wpAny_bind (wpAny_bind (wpAny_holding ?_))
 rcases l with l | ⟨l1,l⟩
 ·subst l
  exact (show wpAny (model prog w) A (Builtin.SmallTypes.nextOf (.ref i1) >>= _) _ _ _ from wpAny_bind (D1.done _ _ _ (Draws.but D1 s1 b1.extBut Z.z1) fun g2 e b2 q=>hE g2 e _ (fun c o c1 c2 _ q=>b2 _ _ c2 (b1.extBut _ _ c1 q)) q))
 ·subst l
  refine (show wpAny (model prog w) A (Builtin.SmallTypes.nextOf (.ref i1) >>= _) _ _ _ from wpAny_bind (D1.item j _ _ _ l1 (Draws.but D1 s1 b1.extBut Z.z1) fun x g2 k2 px t1 b2=>wpAny_pure (wpAny_pure ?_)))
  dsimp only
  rw [List.forIn_cons]
  refine wpAny_bind (wpAny_bind (wpAny_holding ?_))
  exact (show wpAny (model prog w) A (Builtin.SmallTypes.nextOf (.ref i2) >>= _) _ _ _ from wpAny_bind (D2.done _ _ _ (Draws.but D2 (Draws.but D2 s2 b1.extBut Z.z2) b2.extBut Z.o2) fun g3 e b3 q=>hE g3 e _ (fun c o c1 c2 c3 q=>b3 _ _ c3 (b2.extBut _ _ c2 (b1.extBut _ _ c1 q))) q))
end
end L2
namespace L2
open PySem PySem.Spec PyProof.Rows
end L2
namespace L3
open PySem
end L3
namespace Z
open PySem PySem.Spec PyProof.Rows L3 L2
end Z
namespace L3
end L3
namespace Z
open PySem PySem.Spec PyProof.Rows L3 L2
end Z
namespace L3
open PySem PySem.Spec PyProof.Rows L2
def iQ(p:PV)(h:List PO):Res PV:=match p with
 | .tup xs=>match dU xs with
  | some ls=>if ls.length+1<scanBound then .ok (.int (kQ ls:Nat)) h else .bad
  | none=>.bad
 | p=>Ap p h
theorem AH(p:PV)(h:List PO):iQ p h=match sqR h p with
 | some xs=>match dU xs with
  | some ls=>if ls.length+1<scanBound then .ok (.int (kQ ls:Nat)) h else .bad
  | none=>.bad
 | none=>.bad:=by cases p<;>rfl
end L3
namespace Z
open PySem PySem.Spec PyProof.Rows L3 L2
section
variable {X:Cx} {e:Expr} {f:Ex} {p1 p2 pos pos2:Pos}
theorem tA(g1:Gl X "len")(m1:X.mg "len"=none)(g2:Gl X "set")(m2:X.mg "set"=none)(he:RE X e f)(hc:X.calm=true:=by rfl)
  (hs:starEach [e] X.env=(false,eval e X.env)::starEach [] X.env:=by rfl) (hs2:starEach [.Call (.Name "set" p2) [e] [] pos2] X.env=(false,eval (.Call (.Name "set" p2) [e] [] pos2) X.env)::starEach [] X.env:=by rfl)
  (hp:(backTo pos (starEach [] X.env)).any (·.1)=false:=by rfl) (hp2:(backTo pos2 (starEach [] X.env)).any (·.1)=false:=by rfl):
  RE X (.Call (.Name "len" p1) [.Call (.Name "set" p2) [e] [] pos2] [] pos) (c1 iQ f):=⟨fun {w0 ρ h0 Q E} I p=>by
 refine wpAny_Call_Name_kw (I.blt g1 m1 PySem.boot_len ?_ (by decide) (by decide))
 refine PyProof.Rows.callWith_builtin1 ?_ hs2 hp
 rw [hs2]
 show wpAny _ _ (spliced ((false,eval (.Call (.Name "set" p2) [e] [] pos2) X.env)::backTo pos (starEach [] X.env))) _ _ w0.s
 refine Calls.spliced_cons ?_
 have hv:bootBuiltins "set"=some (.type "set"):=by decide+kernel
 refine wpAny_Call_Name_kw (I.blt g2 m2 hv ?_ (by decide) (by decide))
 refine callWith_type1 ?_ hs hp2
 rw [hs]
 refine (show wpAny _ _ (spliced ((false,eval e X.env):: [])) _ _ w0.s from Calls.spliced_cons (he.r I (p.bind fun w1 h1 q u y r k=>Calls.spliced_nil ?_)))
 rw [AH] at k
 split at k
 ·split at k
  ·split at k
   ·rename_i ls el q
    obtain ⟨tt,a,its,ht,rfl,y1,hz,rr⟩:=y.2.sqR r ‹_›
    have sa:=ig (G:=X.toSC) el rr
    have ln:its.size=ls.length:=by have:=StrsAre.len sa;simpa using this
    refine qb (I.ok.hd hc) ht y1 sa (by rw [ln];exact q) fun h' tk fin=>?_
    obtain ⟨so,kp⟩:=fin
    have n:=Nw.also (X:=X) (s':= { w1.s with heap:=h',toks:=tk }) y.2 fun b o z=>kp b o (Heap.lt_size z) z
    refine Calls.spliced_nil ?_
    obtain ⟨o,go,oo⟩:=so.objOf
    obtain ⟨o1,es,ep,t,o2,_,_,o3,o4⟩:=oo
    have lz:=oY (fun i=>(ls.map S).getD i Str.empty) its.size
    have sb:scanBound<2 ^ 63:=by decide
    refine call_len_set go o1 o2 o4 (by omega) ?_
    rw [o3,ln]
    have e:=BQ ls
    rw [List.length_map] at e
    rw [e]
    exact (k.step n).now n.2 (.int _ _)
   ·exact k.elim
  ·exact k.elim
 ·exact k.elim⟩
end
end Z
namespace L3
open PySem
end L3
namespace Z
open PySem PySem.Spec PyProof.Rows L3 L2
section
variable {G:SC} {X:Cx} {w w2:Wo} {ρ:Ev} {h:List PO} {a:Addr} {o:Obj}
abbrev Hw(w:Wo)(a:Addr)(o:Obj):Wo:=⟨gz w.F a o,fun _=>none,[],w.s⟩
end
end Z
namespace L3
open PySem
def mC(p:PV)(ps:List PV)(h:List PO):Res PV:=match ps with
 | [.str z]=>match (lsR h p).bind dU with
  | some ls=>if ls.length≤sizeLine∧ls.idxOf z<ls.length then .ok (.int (ls.idxOf z:Nat)) h else .bad
  | none=>.bad
 | _=>.bad
theorem Bw(z:List Nat):∀ ls:List (List Nat),(ls.map S).idxOf (S z)=ls.idxOf z
 | []=>rfl
 | l::r=>by
  rw [List.map_cons,List.idxOf_cons,List.idxOf_cons,Bw z r]
  by_cases hl:l=z
  ·subst hl;simp
  ·have:S l≠S z:=fun q=>hl (sV q)
   rw [beq_eq_false_iff_ne.mpr hl,beq_eq_false_iff_ne.mpr this]
end L3
namespace Z
open PySem PySem.Spec PyProof.Rows L3 L2
def isT(z:Str):Value→Bool
 | .str y _=>y==z
 | _=>false
theorem pO:∀ {zs:List Str} {us:List Value},StrsAre us zs→∀ v∈us,∃ y t,v= .str y t
 | _,_,.cons y t r,v,h=>(List.mem_cons.mp h).elim (fun e=>⟨y,t,e⟩) (pO r v)
theorem vQ(z:Str):∀ {zs:List Str} {us:List Value},StrsAre us zs→us.map (isT z)=zs.map (· ==z)
 | _,_,.nil=>rfl
 | _,_,.cons y t r=>by
  show (y==z)::_=_
  rw [vQ z r];rfl
section
variable {X:Cx}
theorem wI:OpM X "list.index" mC:=fun {w h p u ps us Q E} I rp rs k=>by
 unfold mC at k
 split at k
 ·rename_i z
  obtain ⟨u1,rfl,r1⟩:=rs.one
  cases r1 with
  | str _ tz=>
   split at k
   ·rename_i ls e
    split at k
    ·rename_i hz
     obtain ⟨xs,e1,e2⟩:=Option.bind_eq_some_iff.mp e
     obtain ⟨a,its,rfl,⟨n,ho⟩,_,rr⟩:=I.sq rp (fe e1)
     have sa:=ig (G:=X.toSC) e2 rr
     have ln:its.toList.length=(ls.map S).length:=StrsAre.len sa
     have mp:=vQ (S z) sa
     have ix:=Bw z ls
     have hi:(ls.map S).idxOf (S z)<(ls.map S).length:=by rw [ix,List.length_map];exact hz.2
     generalize ls.map S=zs at sa ln mp hi ix ⊢
     have at':∀ m (h1:m<its.toList.length) (h2:m<zs.length),isT (S z) its.toList[m]=(zs[m]==S z):=fun m h1 h2=>by
      have:=congrArg (·[m]?) mp
      rw [List.getElem?_map,List.getElem?_map,List.getElem?_eq_getElem h1,List.getElem?_eq_getElem h2] at this
      exact Option.some.inj this
     have hj:zs.idxOf (S z)<its.size:=by rw [← Array.length_toList,ln];exact hi
     have hsm:((zs.idxOf (S z):Nat):Int)<2 ^ 63 - 1:=by have:=sizeLine_eq;have:=hz.1;have:=hz.2;rw [ix];omega
     have hit:isT (S z) its[zs.idxOf (S z)]=true:=by
      have:=at' _ (by rw [ln];exact hi) hi
      rw [Array.getElem_toList] at this
      rw [this];simp
     have hno:∀ m (hm:m<its.size),m<zs.idxOf (S z)→isT (S z) its[m]=false:=fun m hm hlt=>by
      have:=at' m (by simpa using hm) (by omega)
      rw [Array.getElem_toList] at this
      rw [this]
      exact List.not_of_lt_findIdx (p:=(· ==S z)) (xs:=zs) (i:=m) hlt
     refine call_meets PySem.F.slot_list_index ⟨_,ho,rfl⟩ PySem.F.entry_list_index (PySem.F.args_list_index_2 _ _) (SeqAt.list_indexAt a _ n none #[] (.str (S z) tz) (isT (S z)) (zs.idxOf (S z)) hj hsm hit hno) ⟨ho,fun y hy=>?_,?_⟩
     ·obtain ⟨w,t,rfl⟩:=pO sa y (by simpa using hy)
      exact SeqAt.EqAt.str_str w t (S z) tz
     ·rw [ix];exact k.now I.toHR (.int _ _)
    ·exact k.elim
   ·exact k.elim
 ·exact k.elim
end
end Z
namespace Z
open PySem PySem.Spec PyProof.Rows L3 L2
section
variable {X:Cx} {w w1:Wo} {ρ:Ev} {h:List PO}
theorem lK{elt iter tg:Expr}{ifs:List Expr}{scope:Scope}{it:Ax}{tt:Tx}{te:Ex}{M vs:List Str}{g:Gx}{pos py spos:Pos}{y:Str}{iy:Nat}(caps:List Nat)(hc:X.calm=true)(S:bA X.N X.env.scope scope caps vs M)(hi:RI X tg iter it)(hg:∀ cl C,RG (bp X M scope cl C) tg g)(ht:∀ cl C,RFs (bp X M scope cl C) ifs tt)(he:∀ cl C,RE (bp X M scope cl C) elt te)
  (gm:∀ q cp ρ1,g q (List.replicate vs.length none++cp)=some ρ1→∃ l,l.length=vs.length∧ρ1=l++cp) (hy:X.N[iy]? =some y) (hLy:X.env.scope.names.lookup y=some .local) (hsw:swapsWith (.ListComp elt [⟨tg,iter,ifs,0⟩] scope pos) (some (.Name y py)) spos.line X.env=pure true)
  (hs:∀ y,foldedSetIterable iter X.env y=pure y:=by intro _;rfl):RS X (.Assign [.Name y py] (.ListComp elt [⟨tg,iter,ifs,0⟩] scope pos) spos) (aK iy (cN okL (dk vs.length g caps it tt te))):=⟨fun {w0 ρ h Q E} I p=>by
 rw [exec_Assign_Name_used _ _ _ _ hsw]
 refine wpAny_bind<|wpAny_standAt<|wpAny_bind ?_
 show wpAny _ X.A (comprehension (.ListComp elt [⟨tg,iter,ifs,0⟩] scope pos) scope X.env _ (newList []) false (eval iter X.env) (some (assign (.Name y py) X.env)) >>= fun _=>pure ()) _ _ w0.s
 refine wpAny_bind<|wpAny_mono (wpAny_comprehension_free (use:=some (assign (.Name y py) X.env)) (Q:=fun _ s'=>Q .next s') rfl hs (gP fun n hn=>I.ok.has n (S.free _ hn rfl)) S.kind S.names ?_) (fun _ _ z=>wpAny_pure (wpAny_pure z)) fun _ _ z=>z
 have p:bu X w0 Q E (fH (it ρ h) fun xs h1=>fH (if xs.length<sizeLine then (dg g tt te (List.replicate vs.length none++bW caps ρ) xs h1).calm else .bad) fun ps h2=>fH (okL ps h2) fun v h3=>.nx (ρ.set iy (some v)) h3):=by
  unfold aK dB cN dk at p
  cases e:it ρ h with
  | ok xs h1=>
   rw [e] at p
   revert p
   show bu X w0 Q E (fH (((if xs.length<sizeLine then (dg g tt te (List.replicate vs.length none++bW caps ρ) xs h1).calm else .bad):Res (List PV)).bind okL) _)→bu X w0 Q E (fH (if xs.length<sizeLine then (dg g tt te (List.replicate vs.length none++bW caps ρ) xs h1).calm else .bad) _)
   generalize (if xs.length<sizeLine then (dg g tt te (List.replicate vs.length none++bW caps ρ) xs h1).calm else .bad:Res (List PV))=rr
   cases rr<;>exact id
  | exc _ _=>rw [e] at p;exact p
  | bad=>rw [e] at p;exact p
 refine hi.r I (bu.e0 p I fun w h1 xs v y0 I1 rr p=>?_)
 split at p
 ·rename_i hz
  refine lH (use:=some (assign (.Name y py) X.env)) (Q:=fun _ s=>Q .next s) (K:=fun ps h=>bu X w0 Q E (fH (okL ps h) fun v h3=>.nx (ρ.set iy (some v)) h3)) caps hc S hg ht he gm I y0 rr hz (by
   revert p
   cases dg g tt te (List.replicate vs.length none++bW caps ρ) xs h1<;>first | exact id | exact fun z=>bu.ep z |>.elim) fun {w2 h2 ps its D C oC m} y2 H2 nD nC DC hl n l f ra z k=>?_
  obtain ⟨nn,e1⟩:=l
  have fz:=cJ (o:= { cls:=.type "list",data:=.seq its nn }) f.2.1
  have n3:=Nw.freeze (X:=X) (w:=w0) (w1:=w2) ⟨y2,H2⟩ nD ⟨e1,f⟩
  have I3:=I.on n3
  have aC:=I.out nC
  show wpAny _ X.A (assign (.Name y py) X.env (.ref D)) _ _ w2.s
  refine wpAny_assign_Name (I3.store (w:=⟨gz w2.F D { cls:=.type "list",data:=.seq its nn },w2.O,w2.m,w2.s⟩) hy (.inl hLy) (p:=.lst ps) (.lst bD z (ra.mono fz (.inr fun _ _ e=>e))) fun w4 y4 I4=>?_)
  obtain ⟨sl,hC,zz⟩:=y4.keep C oC ⟨hl.1,hl.2.1,cP (Ne.symm DC) hl.2.2.1,hl.2.2.2⟩ aC.w
  refine ⟨m,nN n fun o e=>by rw [hl.1] at e;cases e;exact ⟨sl,hC.1⟩,fun h' sb'=>?_⟩
  obtain ⟨a1,a2⟩:=kK (s':= { w4.s with heap:=h' }) I4.toHR hC fun b o z e=>(sb'.2 b z).trans e
  exact k.2 _ ((n3.s.trans y4).priv a1 (by simp;exact nC)) (I4.priv a1 a2 (by simp;exact aC))
 ·exact p.elim⟩
end
end Z
namespace Z
open PySem PySem.Spec PyProof.Rows L3 L2
section
variable {X:Cx} {e a b elt iter tg:Expr} {es ifs:List Expr} {f fa fb te:Ex} {fs it:Ax} {tt:Tx} {pos p0 p1 tp:Pos} {x y:Str} {scope:Scope} {M:List Str} {caps:List Nat} {u:Value}
theorem eK{iy:Nat}{py spos:Pos}(S:bA X.N X.env.scope scope caps [x] M)(hi:RI X (.Name x tp) iter it)(ht:∀ cl C,RFs (bp X M scope cl C) ifs tt)(he:∀ cl C,RE (bp X M scope cl C) elt te)(hy:X.N[iy]? =some y)(hLy:X.env.scope.names.lookup y=some .local)(hsw:swapsWith (.ListComp elt [⟨.Name x tp,iter,ifs,0⟩] scope pos) (some (.Name y py)) spos.line X.env=pure true)(hc:X.calm=true:=by rfl)(hg:∀ cl C,RG (bp X M scope cl C) (.Name x tp) (gNm 0):=by exact fun _ _=>aW)
  (hs:∀ y,foldedSetIterable iter X.env y=pure y:=by intro _;rfl):RS X (.Assign [.Name y py] (.ListComp elt [⟨.Name x tp,iter,ifs,0⟩] scope pos) spos) (aK iy (cN okL (cS caps it tt te))):=by
 have q:=lK (pos:=pos) (py:=py) caps hc S hi hg ht he CM hy hLy hsw hs
 have z:dk 1 (gNm 0) caps it tt te=cS caps it tt te:=by funext ρ h;simp only [dk,cS,rd]
 exact z▸q
end
end Z
namespace L3
open PySem
def yV(h:List PO)(p:PV):Bool:=(dcR h p).isSome
def Aq(p:PV)(ps:List PV)(h:List PO):Res PV:=match ps with
 | [q,z]=>match dcR h p,kj q with
  | some kvs,some k=>.ok (match hZ kvs k with | some v=>aq h v | none=>z) h
  | _,_=>.bad
 | _=>.bad
def lO(p q:PV)(h:List PO):Res PV:=match lsM h p,lsM h q with
 | some a,some b=>if a.length+b.length≤sizeLine then .ok (.ref h.length) (h++ [.lst (a++b)]) else .bad
 | _,_=>.bad
end L3
namespace Z
open PySem PySem.Spec PyProof.Rows L3 L2
section
variable {X:Cx} {a b:Expr} {fa fb:Ex} {pos:Pos}
theorem BJ:TyM X "dict" yV:=fun H r e=>by
 obtain ⟨xs,ex⟩:=Option.isSome_iff_exists.mp e
 obtain ⟨a,kvs,rfl,_,d,_⟩:=H.dc r ex
 exact ⟨d.typeIs,fun _ e=>by cases e;exact let ⟨o,es,ep,e,x,_⟩:=d;⟨o,e,x.2.1⟩⟩
theorem CD:OpM X "dict.get" Aq:=fun {w h p u ps us Q E} I r rs k=>by
 unfold Aq at k
 split at k
 ·obtain ⟨v1,v2,rfl,r1,r2⟩:=rs.two
  split at k
  ·rename_i kk e1 e2
   obtain ⟨a,kvs,rfl,sm,d,rr⟩:=I.dc r e1
   refine call_meetsIn PySem.F.slot_dict_get d.typeIs PySem.F.entry_dict_get (PySem.F.args_dict_get_3 _ _ _) (meets_dict_get_default (pk X.prog X.w) a (jI r1 e2) sm v2) ⟨_,d.mapOf,?_⟩
   rcases mw rr.2.1 rr.2.2 kk with ⟨p3,v,z1,z2,z3⟩ | ⟨z1,z2⟩
   ·rw [z1] at k;show Q ((valueAt kvs kk).getD v2) _;rw [z2];exact k.now I.toHR (I.deref z3)
   ·rw [z1] at k;show Q ((valueAt kvs kk).getD v2) _;rw [z2];exact k.now I.toHR r2
  ·exact k.elim
 ·exact k.elim
theorem qq(ha:RE X a fa)(hb:RE X b fb):RE X (.BinOp a .Add b pos) (c2 lO fa fb):=nh (fun {w h p q u v Q E} I rp rq k=>by
 unfold lO at k
 split at k
 ·rename_i xs ys e1 e2
  split at k
  ·obtain ⟨a,its,rfl,⟨_,x⟩,z,r⟩:=I.sq rp (jH e1)
   obtain ⟨b,its',rfl,⟨_,y⟩,_,r'⟩:=I.sq rq (jH e2)
   have l:=r.len;have l':=r'.len
   exact PySem.P.add_list x y (k.lm I.toHR (by simpa using r.app r') (by simp;omega)) (by omega)
  ·exact k.elim
 ·exact k.elim) ha hb
end
end Z
namespace L3
open PySem
noncomputable def ew(t:Tx)(body:Sx):Sx:=fun ρ h=>open Classical in if q:∃ n,whl t body n ρ h≠.bad then whl t body q.choose ρ h else .bad
theorem rB(t:Tx)(body:Sx):∀ (n:Nat) (ρ:Ev) (h:List PO),whl t body n ρ h≠.bad→whl t body (n+1) ρ h=whl t body n ρ h
 | 0,ρ,h,q=>absurd rfl q
 | n+1,ρ,h,q=>by
  rw [whl] at q
  rw [whl,whl]
  cases z:t ρ h with
  | bad=>rfl
  | exc e h=>rfl
  | ok b h1=>
   rw [z] at q
   show (if b=true then _ else _)=(if b=true then _ else _)
   have q:(if b=true then _ else _)≠SR.bad:=q
   cases b with
   | false=>rfl
   | true=>
    simp only [if_true] at q ⊢
    cases y:body ρ h1<;>rw [y] at q<;>first | rfl | exact rB t body n _ _ q
theorem xl(t:Tx)(body:Sx){n:Nat}{ρ:Ev}{h:List PO}(q:whl t body n ρ h≠.bad):∀ {m:Nat},n≤m→whl t body m ρ h=whl t body n ρ h:=fun {m} l=>by
 induction l with
 | refl=>rfl
 | step l ih=>rw [rB t body _ ρ h (by rw [ih];exact q),ih]
theorem oP(t:Tx)(body:Sx){n:Nat}{ρ:Ev}{h:List PO}(q:whl t body n ρ h≠.bad):ew t body ρ h=whl t body n ρ h:=by
 have e:∃ n,whl t body n ρ h≠.bad:=⟨n,q⟩
 unfold ew
 rw [dif_pos e]
 rcases Nat.le_total e.choose n with l | l
 ·exact (xl t body e.choose_spec l).symm
 ·exact xl t body q l
theorem BT{t:Tx}{body:Sx}{ρ:Ev}{h:List PO}(q:ew t body ρ h≠.bad):∃ n,whl t body n ρ h≠.bad∧ew t body ρ h=whl t body n ρ h:=by
 unfold ew at q ⊢
 split
 ·rename_i e;exact ⟨_,e.choose_spec,rfl⟩
 ·rename_i e;rw [dif_neg e] at q;exact absurd rfl q
theorem xA{t:Tx}{body:Sx}{ρ:Ev}{h h1:List PO}(e:t ρ h= .ok false h1):ew t body ρ h= .nx ρ h1:=by
 have:whl t body 1 ρ h= .nx ρ h1:=by rw [whl,e];rfl
 rw [oP t body (n:=1) (by rw [this];intro z;cases z),this]
theorem Bi{t:Tx}{body:Sx}{ρ ρ2:Ev}{h h1 h2:List PO}{r:SR}(e:t ρ h= .ok true h1)(b:body ρ h1= .nx ρ2 h2)(w:ew t body ρ2 h2=r)(nb:r≠.bad):ew t body ρ h=r:=by
 obtain ⟨n,q,z⟩:=BT (by rw [w];exact nb)
 have:whl t body (n+1) ρ h=whl t body n ρ2 h2:=by
  rw [whl,e]
  show (match body ρ h1 with | .nx ρ2 h2=>_ | .ct ρ2 h2=>_ | .bk ρ2 h2=>_ | .rt v h2=>_ | .exc v h2=>_ | .bad=>_)=_
  rw [b]
 rw [oP t body (n:=n+1) (by rw [this];exact q),this,← z,w]
end L3
namespace Z
open PySem PySem.Spec PyProof.Rows L3 L2
section
variable {X:Cx} {c:Expr} {body:List Stmt} {t:Tx} {f:Sx} {pos:Pos}
theorem Cc(n:Nat)(hc:RT X c t)(hb:RSs X body f)(hp:∀ E,X.Ep E→PassesOwn X.M X.A X.env E):RS X (.While c body [] pos) (whl t f n) where
 r {w0 ρ h Q E} I0 p:=by
  cases n with
  | zero=>exact p.elim
  | succ n=>
  have hp:=hp E p.ep
  refine wpAny_While (codeAny_whileLoop (fun n s=>∃ w1 ρ1 h1,w1.s=s∧Inv X w1 ρ1 h1∧bu X w1 Q E (whl t f n ρ1 h1)) ?_ (n+1) ⟨w0,ρ,h,rfl,I0,p⟩)
  rintro n s ⟨w1,ρ1,h1,rfl,I1,p1⟩
  cases n with
  | zero=>exact p1.elim
  | succ n=>
   refine wpAny_passesOwn hp (hc.r I1 (p1.e I1 fun w2 h2 b b' y2 I2 r p2=>?_))
   subst r
   cases b with
   | false=>exact wpAny_passesOwn hp (wpAny_execs_nil (p2.2 w2 .refl I2))
   | true=>
    refine wpAny_passesOwn hp (hb.r I2 ?_)
    have p3:bu X w2 Q E (match f ρ1 h2 with
     | .nx ρ2 h2=>whl t f n ρ2 h2
     | .ct ρ2 h2=>whl t f n ρ2 h2
     | .bk ρ2 h2=>.nx ρ2 h2
     | .rt v h2=>.rt v h2
     | .exc v h2=>.exc v h2
     | .bad=>.bad):=p2
    revert p3
    cases f ρ1 h2 with
    | nx ρ4 h4=>exact fun p3=>⟨p3.ep,fun w4 y4 I4=>⟨n,Nat.lt_succ_self n,w4,ρ4,h4,rfl,I4,p3.step y4⟩⟩
    | ct ρ4 h4=>exact fun p3=>⟨p3.ep,fun w4 y4 I4=>⟨n,Nat.lt_succ_self n,w4,ρ4,h4,rfl,I4,p3.step y4⟩⟩
    | bk ρ4 h4=>exact fun p3=>p3
    | rt v h4=>exact fun p3=>p3
    | exc v h4=>exact fun p3=>p3
    | bad=>exact fun p3=>p3
theorem rM(hc:RT X c t)(hb:RSs X body f)(hp:∀ E,X.Ep E→PassesOwn X.M X.A X.env E:=by exact fun _ h=>h):RS X (.While c body [] pos) (ew t f) where
 r {w ρ h Q E} I p:=by
  unfold ew at p
  split at p
  ·exact (Cc _ hc hb hp).r I p
  ·exact p.elim
end
end Z
namespace L3
open PySem
def cG(p:PV)(ps:List PV)(h:List PO):Res PV:=match ps with
 | [q]=>match fK h p,lsR h q with
  | some (i,xs),some ys=>if xs.length+ys.length≤sizeLine then .ok .non (h.set i (.lst (xs++ys))) else .bad
  | _,_=>.bad
 | _=>.bad
end L3
namespace Z
open PySem PySem.Spec PyProof.Rows L3 L2
section
variable {X:Cx}
theorem eN:OpM X "list.extend" cG:=fun {w h p u ps us Q E} I r rs k=>by
 unfold cG at k
 split at k
 ·split at k
  ·split at k
   ·rename_i hz
    obtain ⟨v,rfl,rv⟩:=rs.one
    obtain ⟨a,its,n,rfl,em,hf,e,z,r⟩:=I.toHR.ll r ‹_›
    obtain ⟨b,its2,rfl,⟨n2,e2⟩,z2,r2⟩:=I.sq rv (fe ‹_›)
    have l1:=r.len;have l2:=r2.len
    refine call_meets F.slot_list_extend ⟨_,e,rfl⟩ F.entry_list_extend (F.args_list_extend_2 _ _) (AutoSeq1.list_extend_list_list_0 a its n b its2 n2 (extend_door (by omega)) z (by omega)) ⟨e,e2,?_⟩
    exact k.2 _ _ (Nw.lupd (f:=Obj.mapSeq (· ++its2)) (its':=its++its2) (tk:=w.s.toks) I.toHR em hf e (by simp [Obj.mapSeq];rfl) (by simp;omega) (by simpa using r.app r2)) .non
   ·exact k.elim
  ·exact k.elim
 ·exact k.elim
end
end Z
namespace L3
open PySem L2
def pkV:PK→PV
 | .inl i=>.int i
 | .inr x=>.str x
def ua(kps:List (PK×PV)):List PV:=kps.map fun kv=>.tup [pkV kv.1,kv.2]
def vh(p:PV)(h:List PO):Res (List PV):=match p with
 | .dct kps=>.ok (ua kps) h
 | _=>.bad
def ut(f:Ex):Ax:=fun ρ h=>(f ρ h).bind vh
end L3
namespace Z
open PySem PySem.Spec PyProof.Rows L3 L2
section
variable {G:SC} {X:Cx} {w w0 w1:Wo} {ρ:Ev} {h:List PO} {a it:Addr} {o:Obj} {kps:List (PK×PV)} {kvs:List (PK×Value)} {elts:List Expr} {k:Nat} {pos apos cpos:Pos} {oe:Expr} {f:Ex}
theorem AI{F:Fz}{m:List Addr}{k:PK}{key:Value}(h:(pk G.prog G.w).is k key=true):aZ G F m (pkV k) key:=by
 rcases eO h with ⟨i,t,rfl,rfl⟩ | ⟨x,t,rfl,rfl⟩
 ·exact .int i t
 ·exact .str x t
theorem yT{es:Array DictEntry}{ep:Nat}(e:w0.F a=some o)(x:o.ExactDict)(od:o.data= .dict es ep)(ks:KeysOf (pk G.prog G.w) es)(ps:Pairs (pk G.prog G.w) es.toList kvs)(nd:(kvs.map (·.1)).Nodup)(kk:kvs.map (·.1)=kps.map (·.1))(r:aB G w0.F w0.m (kps.map (·.2)) (kvs.map (·.2)))(ne:a≠it):xf G w0 (.Tuple elts k pos) (ua kps) it [it] (fun i g=>∃ ok ov,IsItemIter g it a i kvs.length ep ok ov) where
 keep l1 H1 l2 H2 st q:=by
  obtain ⟨ok,ov,z⟩:=st
  exact ⟨ok,ov,q it (by simp) _ z⟩
 item {A w h i p Q E} hh l H st hx f q:=by
  obtain ⟨ok,ov,z⟩:=st
  have hm:w.s.heap.DictAt (pk G.prog G.w) a kvs ep:=⟨o,es,H.at (l.1 _ _ e),x,od,ks,ps,nd⟩
  unfold ua at hx
  rw [List.getElem?_map] at hx
  obtain ⟨⟨k1,p1⟩,e1,rfl⟩:=Option.map_eq_some_iff.mp hx
  obtain ⟨v,ev,rv⟩:=r.get (i:=i) (p:=p1) (by rw [List.getElem?_map,e1];rfl)
  have ek:(kvs.map (·.1))[i]? =some k1:=by rw [kk,List.getElem?_map,e1];rfl
  have ekv:kvs[i]? =some (k1,v):=by
   rw [List.getElem?_map] at ek ev
   obtain ⟨⟨a1,b1⟩,c1,d1⟩:=Option.map_eq_some_iff.mp ek
   obtain ⟨⟨a2,b2⟩,c2,d2⟩:=Option.map_eq_some_iff.mp ev
   rw [c1] at c2
   cases c2
   cases d1
   cases d2
   exact c1
  refine wpAny_pyNext_items_item z hm ekv fun key h' hk io pr sz kp=>⟨_,rfl,?_⟩
  refine wpAny_letOwnedTupleGo_items io fun h2' z2 sb=>?_
  have lt:it<w.s.heap.objs.size:=Heap.lt_size z
  have kk2:∀ b o,b∉ [it]→w.s.heap.get? b=some o→h2'.get? b=some o:=fun b o nb q=>by
   simp only [List.mem_cons,List.not_mem_nil,or_false] at nb
   exact (sb.2 b nb).trans (kp b o nb q)
  have pr2:h2'.get? w.s.heap.objs.size=some { cls:=.type "tuple",data:=.seq #[key,v] }:=(sb.2 _ (Nat.ne_of_gt lt)).trans pr
  obtain ⟨a1,a2⟩:=uA (s':= { w.s with heap:=h2' }) H f (bd _) kk2 pr2
  refine q _ _ a1 a2 ⟨_,_,z2⟩ (fun b hb=>?_) ?_
  ·obtain ⟨o,q⟩:=f b hb
   have nb:b≠w.s.heap.objs.size:=fun z=>by have q:=q.1;rw [z,bd] at q;cases q
   rw [List.mem_singleton.mp hb] at q nb ⊢
   exact ⟨_,z2,q.2.1,cP nb q.2.2.1,q.2.2.2⟩
  ·have up:=cJ (o:= { cls:=.type "tuple",data:=.seq #[key,v] }) (H.free (bd w.s.heap)).2.1
   exact .tup bD (by show 2≤sizeLine;decide) (.cons (AI hk) (.cons ((rv.mono l.1 (.inr l.2)).mono up (.inr fun _ _ e=>e)) .nil))
 done {A w h i Q E} hh l H st hx f q:=by
  obtain ⟨ok,ov,z⟩:=st
  have hm:w.s.heap.DictAt (pk G.prog G.w) a kvs ep:=⟨o,es,H.at (l.1 _ _ e),x,od,ks,ps,nd⟩
  have ln:kvs.length=kps.length:=by have:=congrArg List.length kk;simpa using this
  unfold ua at hx
  rw [List.length_map] at hx
  refine wpAny_pyNext_items_end hh z hm (List.getElem?_eq_none (by omega)) fun h' kp=>⟨rfl,?_⟩
  obtain ⟨a1,a2⟩:=pS (fp:= [it]) (s':= { w.s with heap:=h' }) H f fun b o nb q=>by
   simp only [List.mem_cons,List.not_mem_nil,or_false] at nb
   exact kp b o nb q
  exact q _ a1 a2
 self hh st q:=by
  obtain ⟨ok,ov,z⟩:=st
  exact PySem.W.kcp_self z q
theorem xG(ho:RE X oe f)(hbase:attributeBase oe "items" X.env (eval oe X.env)=eval oe X.env:=by rfl)(hline:(apos.endLine==cpos.line)=true:=by rfl):RI X (.Tuple elts k pos) (.Call (.Attribute oe "items" apos) [] [] cpos) (ut f):=⟨fun {w0 ρ h Q E} I p=>wpAny_Call_method_late hbase (by rfl) hline rfl (ho.r I (p.bind fun w1 h1 q u y r p=>by
 unfold vh at p
 split at p
 ·cases r with
  | dct e d sm z kk rr=>
   rename_i kps a o kvs
   have ha:=y.2.at e
   obtain ⟨x,es,ep,od,ks,ps,nd⟩:=id d
   have dd:w1.s.heap.DictOf (pk X.prog X.w) a kvs:=d.of ha
   refine ⟨"dict","dict.items",PySem.F.plainAttrs_dict,PySem.F.slot_dict_items,PySem.F.type_dict_items,dd.typeIs,fun b q=>(by cases q;exact ⟨o,ha,x.2.1⟩),Calls.callWith_builtin rfl (PySem.evalArgs_none ?_)⟩
   refine call_meetsIn PySem.F.slot_dict_items dd.typeIs PySem.F.entry_dict_items (PySem.F.args_dict_items_1 _) (meets_dict_items (pk X.prog X.w) a sm) ⟨⟨kvs,dd⟩,?_⟩
   have la:=Heap.lt_size ha
   refine wpAny_pyIter_items (knd:=pk X.prog X.w) (kvs:=kvs) (ep:=ep) ⟨_,Heap.get?_push_size _ rfl,rfl,rfl⟩ ⟨o,es,Heap.get?_push_of_some _ ha,x,od,ks,ps,nd⟩ ?_
   exact ItR.of (tk:=w1.s.toks) (I.on y) y.1 (fun b o e=>Heap.get?_push_of_some _ (Heap.get?_push_of_some _ e)) (yT (elts:=elts) (k:=k) (pos:=pos) e x od ks ps nd kk rr (Nat.ne_of_lt (by rw [Heap.size_push];exact Nat.lt_succ_of_lt la))) ⟨_,_,Heap.get?_push_size _ rfl⟩ (fun c hc=>by
    rw [List.mem_singleton.mp hc,Heap.size_push]
    exact ⟨Nat.le_succ _,_,by rw [← Heap.size_push];exact Heap.get?_push_size _ rfl⟩) p
 ·exact p.elim))⟩
end
end Z
namespace L3
open PySem
def yn(ps:List PV)(h:List PO):Res PV:=match ps with
 | [.int a,.int b]=>.ok (.int (if b<a then b else a)) h
 | _=>.bad
def iX:List PV→Option (List Int)
 | []=>some []
 | .int i::r=>(iX r).map (i:: ·)
 | _::_=>none
def wM(is:List Int):Int:=is.getD (argBest (fun i j=>decide (is.getD i 0>is.getD j 0)) (is.length - 1)) 0
def uR(ps:List PV)(h:List PO):Res PV:=match ps with
 | [p]=>match (lsR h p).bind iX with
  | some is=>if is.isEmpty=false then .ok (.int (wM is)) h else .bad
  | none=>.bad
 | _=>.bad
end L3
namespace Z
open PySem PySem.Spec PyProof.Rows L3 L2
section
variable {X:Cx} {G:SC}
theorem DH(hc:X.calm=true):OpC X (.builtin "min") yn:=fun ok {w h p u Q E} I rs k=>by
 unfold yn at k
 split at k
 ·obtain ⟨u,v,rfl,r,r2⟩:=rs.two
  cases r;cases r2
  refine min_two_ints (ok.hd hc) fun h' tk kp=>?_
  have n:=Nw.also (X:=X) (s':= { w.s with heap:=h',toks:=tk }) I.toHR kp
  refine k.2 _ _ n ?_
  split
  ·exact .int _ _
  ·exact .int _ _
 ·exact k.elim
theorem sF{F:Fz}{m:List Addr}:∀ {ps:List PV} {us:List Value} {is:List Int},iX ps=some is→aB G F m ps us→∃ xs:List (Int×Tok),us=xs.map (fun x=>Value.int x.1 x.2)∧is=xs.map (·.1)
 | [],_,_,e,.nil=>by cases e;exact ⟨[],rfl,rfl⟩
 | p::r,_,is,e,.cons rp t=>by
  cases p with
  | int i=>
   simp only [iX,Option.map_eq_some_iff] at e
   obtain ⟨js,e1,rfl⟩:=e
   cases rp with
   | int _ tk=>
    obtain ⟨xs,a,b⟩:=sF e1 t
    exact ⟨(i,tk)::xs,by rw [a];rfl,by rw [b];rfl⟩
  | _=>simp [iX] at e
theorem Ct(hc:X.calm=true):OpC X (.builtin "max") uR:=fun ok {w h p u Q E} I rs k=>by
 unfold uR at k
 split at k
 ·split at k
  ·rename_i is e
   split at k
   ·rename_i ne
    obtain ⟨u,rfl,r⟩:=rs.one
    obtain ⟨xs,e1,e2⟩:=Option.bind_eq_some_iff.mp e
    obtain ⟨a,its,rfl,⟨n,y⟩,z,rr⟩:=I.sq r (fe e1)
    obtain ⟨ys,q1,q2⟩:=sF (G:=X.toSC) e2 rr
    have ei:its=intItems ys.toArray:=by
     apply Array.toList_inj.mp
     rw [q1];simp [intItems]
    have nu:∀ i,numAt ys.toArray i=is.getD i 0:=fun i=>by
     rw [q2];unfold numAt
     rw [List.getD_eq_getElem?_getD,List.getElem?_map,List.getElem?_toArray]
    refine max_intList (xs:=ys.toArray) (ok.hd hc) ⟨_,y,rfl,n,by rw [ei]⟩ (by
     cases ys with
     | nil=>rw [q2] at ne;cases ne
     | cons a r=>simp) fun v h' tk hv kp=>?_
    have n2:=Nw.also (X:=X) (s':= { w.s with heap:=h',toks:=tk }) I.toHR kp
    refine k.2 _ _ n2 ?_
    obtain ⟨t,rfl⟩:=intItems_at hv
    have e3:wM is=numAt ys.toArray (argBest (fun i j=>decide (numAt ys.toArray i>numAt ys.toArray j)) (ys.toArray.size - 1)):=by
     unfold wM
     simp only [nu,q2,List.length_map,List.size_toArray]
    rw [e3]
    exact .int _ _
   ·exact k.elim
  ·exact k.elim
 ·exact k.elim
end
section
variable {X:Cx} {elt iter:Expr} {ifs:List Expr} {te:Ex} {it:Ax} {tt:Tx} {pos tp:Pos} {x y:Str} {scope:Scope} {M:List Str} {caps:List Nat}
theorem rN{k:Nat}{tp2 tp3:Pos}{iy:Nat}{nm:Str}{py spos:Pos}(S:bA X.N X.env.scope scope caps [x,y] M)(hi:RI X (.Tuple [.Name x tp,.Name y tp2] k tp3) iter it)(ht:∀ cl C,RFs (bp X M scope cl C) ifs tt)(he:∀ cl C,RE (bp X M scope cl C) elt te)(hy:X.N[iy]? =some nm)(hLy:X.env.scope.names.lookup nm=some .local)(hsw:swapsWith (.ListComp elt [⟨.Tuple [.Name x tp,.Name y tp2] k tp3,iter,ifs,0⟩] scope pos) (some (.Name nm py)) spos.line X.env=pure true)(hc:X.calm=true:=by rfl)(hg:∀ cl C,RG (bp X M scope cl C) (.Tuple [.Name x tp,.Name y tp2] k tp3) g2:=by exact fun _ _=>gL rfl (bG aW (bG aW fx)))
  (hs:∀ y,foldedSetIterable iter X.env y=pure y:=by intro _;rfl):RS X (.Assign [.Name nm py] (.ListComp elt [⟨.Tuple [.Name x tp,.Name y tp2] k tp3,iter,ifs,0⟩] scope pos) spos) (aK iy (cN nT (fw caps it tt te))):=by
 have q:=lL (pos:=pos) (py:=py) caps hc S hi hg ht he CL hy hLy hsw hs
 have z:dk 2 g2 caps it tt te=fw caps it tt te:=by funext ρ h;simp only [dk,fw,qZ]
 exact z▸q
end
end Z
namespace L2
open PySem PySem.Spec PyProof.Rows
section
variable {prog:Program} {w:World} {A:Around} {R:Result→Shared→Prop} {E:Value→Shared→Prop} {s:Shared} {D z ti to i1 i2 t1 t2:Addr} {xs ys:Array Value} {j:Nat} {S1 S2:Nat→Heap→Prop}
structure Zag(S1 S2:Nat→Heap→Prop)(h:Heap)(D z ti to i1 i2:Addr)(j:Nat):Prop where
 p:IsPair h ti (.ref i1) (.ref i2)
 l:S1 j h
 r:S2 j h
 o:(IsZip h z ti to .none∧∃ u v,IsPair h to u v)∨∃ a b oa,uu h z ti to (rawInt (a:Nat)) (.bool b)∧h.get? a=some oa∧a≠z∧a≠i1∧a≠i2∧a≠D
 t:∃ o,h.get? to=some o
theorem Zag.zip{h:Heap}(st:Zag S1 S2 h D z ti to i1 i2 j):∃ vs,h.get? z=some { cls:=.type "zip",data:=.fields vs }:=by
 rcases st.o with ⟨a,_⟩ | ⟨a,b,oa,q,_⟩
 ·exact ⟨_,a⟩
 ·exact ⟨_,q⟩
variable (Z:Zap z ti to i1 i2 [i1,t1] [i2,t2]) (D1:Draws prog w A.in1 i1 [i1,t1] xs.size (fun j v=>xs[j]? =some v) S1) (D2:Draws prog w A.in1 i2 [i2,t2] ys.size (fun j v=>ys[j]? =some v) S2)
include D1 D2 in
theorem Zag.keep{h h':Heap}(st:Zag S1 S2 h D z ti to i1 i2 j)(n:D∉ [z,ti,to,i1,i2,t1,t2])(k:∀ c o,c≠D→h.get? c=some o→h'.get? c=some o):Zag S1 S2 h' D z ti to i1 i2 j:=by
 simp only [List.mem_cons,List.not_mem_nil,or_false,not_or] at n
 obtain ⟨n1,n2,n3,n4,n5,n6,n7⟩:=n
 refine ⟨k _ _ (Ne.symm n2) st.p,D1.frame _ _ _ st.l fun b hb o q=>k _ _ (fun e=>?_) q,D2.frame _ _ _ st.r fun b hb o q=>k _ _ (fun e=>?_) q,?_,let ⟨o,q⟩:=st.t;⟨o,k _ _ (Ne.symm n3) q⟩⟩
 ·simp only [List.mem_cons,List.not_mem_nil,or_false] at hb
  rcases hb with rfl | rfl
  ·exact n4 e.symm
  ·exact n6 e.symm
 ·simp only [List.mem_cons,List.not_mem_nil,or_false] at hb
  rcases hb with rfl | rfl
  ·exact n5 e.symm
  ·exact n7 e.symm
 ·rcases st.o with ⟨a,u,v,b⟩ | ⟨a,b,oa,q,qa,m⟩
  ·exact .inl ⟨k _ _ (Ne.symm n1) a,u,v,k _ _ (Ne.symm n3) b⟩
  ·exact .inr ⟨a,b,oa,k _ _ (Ne.symm n1) q,k _ _ m.2.2.2 qa,m⟩
include Z D1 D2
theorem xi{x y:Value}{oD:Obj}{Q:Option Value→Shared→Prop}(hD:s.heap.get? D=some oD)(st:Zag S1 S2 s.heap D z ti to i1 i2 j)(hx:xs[j]? =some x)(hy:ys[j]? =some y)
  (hQ:∀ h' tk,Zag S1 S2 h' D z ti to i1 i2 (j+1)→IsPair h' s.heap.objs.size x y→(∀ c o,c≠z→c≠to→c≠i1→c≠i2→s.heap.get? c=some o→h'.get? c=some o)→Q (some (.ref s.heap.objs.size)) { s with heap:=h',toks:=tk }):
  wpAny (model prog w) A (pyNext (.ref z)) Q E s:=by
 have l1:=(Array.getElem?_eq_some_iff.mp hx).1
 have l2:=(Array.getElem?_eq_some_iff.mp hy).1
 have lt:∀ {c o},s.heap.get? c=some o→s.heap.objs.size≠c:=fun q=>Nat.ne_of_gt (Heap.lt_size q)
 obtain ⟨vs,hz⟩:=st.zip
 obtain ⟨o1,q1⟩:=D1.live _ _ st.l
 obtain ⟨o2,q2⟩:=D2.live _ _ st.r
 rcases st.o with ⟨a,u,v,b⟩ | ⟨a,b,oa,q,qa,m⟩
 ·refine yz Z D1 D2 a st.p b st.l st.r l1 l2 fun x' y' h' tk p1 p2 z' pt u1 u2 pr sz kk=>?_
  rw [hx] at p1;cases p1
  rw [hy] at p2;cases p2
  exact hQ h' tk ⟨kk _ _ Z.a1 Z.a5 Z.a6 Z.a7 st.p,u1,u2,.inr ⟨_,false,_,z',pr,lt hz,lt q1,lt q2,lt hD⟩,⟨_,pt⟩⟩ pr kk
 ·have ty:s.TypeIs (.ref z) "zip":=⟨_,hz,rfl⟩
  unfold pyNext
  refine wpAny_bind (wpAny_attempt (wpAny_callSpecial?_slot (name:="__next__") ty PySem.F.slot_zip_next (wpAny_call_entry PySem.F.slot_zip_next ty PySem.F.entry_zip_next (xg Z D1 D2 q qa st.p st.l st.r l1 l2 fun x' y' h' tk p1 p2 z' u1 u2 pr sz kk=>wpAny_pure ?_) (PySem.F.args_zip_next_1 _))))
  rw [hx] at p1;cases p1
  rw [hy] at p2;cases p2
  exact hQ h' tk ⟨kk _ _ Z.a1 Z.a6 Z.a7 st.p,u1,u2,.inr ⟨a,true,oa,z',kk _ _ m.1 m.2.1 m.2.2.1 qa,m⟩,let ⟨o,q⟩:=st.t;⟨o,kk _ _ Z.a2 Z.a8 Z.a9 q⟩⟩ pr fun c o c1 _ c3 c4 q=>kk c o c1 c3 c4 q
theorem zS{Q:Option Value→Shared→Prop}(st:Zag S1 S2 s.heap D z ti to i1 i2 j)(l:j=xs.size∨(j<xs.size∧j=ys.size))
  (hQ:∀ h' tk,(∀ c o,c≠z→c≠to→c≠i1→c≠i2→s.heap.get? c=some o→h'.get? c=some o)→Q none { s with heap:=h',toks:=tk }):wpAny (model prog w) A (pyNext (.ref z)) Q E s:=by
 obtain ⟨vs,hz⟩:=st.zip
 rcases st.o with ⟨a,u,v,b⟩ | ⟨a,b,oa,q,qa,m⟩
 ·exact yM Z D1 D2 a st.p b st.l st.r l hQ
 ·have ty:s.TypeIs (.ref z) "zip":=⟨_,hz,rfl⟩
  unfold pyNext
  refine wpAny_bind (wpAny_attempt (wpAny_callSpecial?_slot (name:="__next__") ty PySem.F.slot_zip_next (wpAny_call_entry PySem.F.slot_zip_next ty PySem.F.entry_zip_next (zN Z D1 D2 q qa st.p st.l st.r l fun h' e tk kk ⟨o,q1,q2⟩=>?_) (PySem.F.args_zip_next_1 _))))
  exact wpAny_bind (wpAny_isInstance (T:="StopIteration") (b:=true) ⟨o,q1,q2⟩ isSubtype_stop (wpAny_pure (hQ _ _ fun c o c1 _ c3 c4 q=>kk c o c1 c3 c4 q)))
end
inductive Prd(K:Addr→Obj→Prop)(h:Heap):List Value→List Value→List Value→Prop where
 | l {ys:List Value}:Prd K h [] [] ys
 | r {x:Value} {xs:List Value}:Prd K h [] (x::xs) []
 | cons {a:Addr} {x y:Value} {us xs ys:List Value} (n:∀ o,¬ K a o) (p:IsPair h a x y) (r:Prd K h us xs ys):Prd K h (.ref a::us) (x::xs) (y::ys)
theorem Prd.weak{K K':Addr→Obj→Prop}{h:Heap}{us xs ys:List Value}(p:Prd K' h us xs ys)(k:∀ a o,K a o→K' a o):Prd K h us xs ys:=by
 induction p with
 | l=>exact .l
 | r=>exact .r
 | cons n p _ ih=>exact .cons (fun o q=>n o (k _ _ q)) p ih
section
variable {prog:Program} {w:World} {A:Around} {R:Result→Shared→Prop} {E:Value→Shared→Prop} {D z ti to i1 i2 t1 t2:Addr} {xs ys:Array Value} {S1 S2:Nat→Heap→Prop} {res:Value}
theorem wO(Z:Zap z ti to i1 i2 [i1,t1] [i2,t2])(D1:Draws prog w A.in1.in1 i1 [i1,t1] xs.size (fun j v=>xs[j]? =some v) S1)(D2:Draws prog w A.in1.in1 i2 [i2,t2] ys.size (fun j v=>ys[j]? =some v) S2)(n:D∉ [z,ti,to,i1,i2,t1,t2]):
  ∀ (r1 r2:List Value) (j:Nat) (s:Shared) (acc:Array Value) (c:Nat) (K:Addr→Obj→Prop),xs.toList.drop j=r1→ys.toList.drop j=r2→(∀ b o,K b o→b∉ [D,z,to,i1,i2])→(∀ b o,K b o→s.heap.get? b=some o)→Zag S1 S2 s.heap D z ti to i1 i2 j→s.heap.get? D=some { cls:=.type "list",data:=.seq acc c }→j≤xs.size→j≤ys.size→acc.size+r1.length≤sizeLine→
   (∀ h' tk us c',(∀ b o,K b o→h'.get? b=some o)→h'.get? D=some { cls:=.type "list",data:=.seq (acc++us.toArray) c' }→Prd K h' us r1 r2→R (.ok (.ret res)) { s with heap:=h',toks:=tk })→
   codeAny (model prog w) A (.builtin "list.extend.loop" ⟨[.ref D,.ref z,res],[]⟩) R s:=by
 have nd:D≠z∧D≠to∧D≠i1∧D≠i2:=by
  simp only [List.mem_cons,List.not_mem_nil,or_false,not_or] at n
  exact ⟨n.1,n.2.2.1,n.2.2.2.1,n.2.2.2.2.1⟩
 have stop:∀ (j:Nat) (s:Shared) (acc:Array Value) (c:Nat) (K:Addr→Obj→Prop),(j=xs.size∨(j<xs.size∧j=ys.size))→(∀ b o,K b o→b∉ [D,z,to,i1,i2])→(∀ b o,K b o→s.heap.get? b=some o)→Zag S1 S2 s.heap D z ti to i1 i2 j→s.heap.get? D=some { cls:=.type "list",data:=.seq acc c }→
   (∀ h' tk c',(∀ b o,K b o→h'.get? b=some o)→h'.get? D=some { cls:=.type "list",data:=.seq acc c' }→R (.ok (.ret res)) { s with heap:=h',toks:=tk })→codeAny (model prog w) A (.builtin "list.extend.loop" ⟨[.ref D,.ref z,res],[]⟩) R s:=fun j s acc c K l f kp st d hR=>by
  refine codeAny_builtin PySem.F.entry_extend_loop ?_
  rw [Around.under_plainId PySem.F.plain_extend_loop _]
  unfold Builtin.«list.extend.loop»
  dsimp only
  refine wpAny_bind (zS Z D1 D2 st l fun h' tk kk=>wpAny_pure (hR h' tk c (fun b o q=>?_) (kk _ _ nd.1 nd.2.1 nd.2.2.1 nd.2.2.2 d)))
  have:=f b o q
  simp only [List.mem_cons,List.not_mem_nil,or_false,not_or] at this
  exact kk b o this.2.1 this.2.2.1 this.2.2.2.1 this.2.2.2.2 (kp b o q)
 intro r1
 induction r1 with
 | nil=>
  intro r2 j s acc c K e1 e2 f kp st d j1 j2 hz hR
  have:=congrArg List.length e1
  simp at this
  exact stop j s acc c K (.inl (by omega)) f kp st d fun h' tk c' k e=>hR h' tk [] c' k (by simpa using e) .l
 | cons x r1 ih=>
  intro r2 j s acc c K e1 e2 f kp st d j1 j2 hz hR
  cases r2 with
  | nil=>
   have a:=congrArg List.length e1
   have b:=congrArg List.length e2
   simp at a b
   exact stop j s acc c K (.inr ⟨by omega,by omega⟩) f kp st d fun h' tk c' k e=>hR h' tk [] c' k (by simpa using e) .r
  | cons y r2=>
   have hx:xs[j]? =some x:=by rw [← Array.getElem?_toList,← List.head?_drop,e1];rfl
   have hy:ys[j]? =some y:=by rw [← Array.getElem?_toList,← List.head?_drop,e2];rfl
   refine codeAny_builtin PySem.F.entry_extend_loop ?_
   rw [Around.under_plainId PySem.F.plain_extend_loop _]
   unfold Builtin.«list.extend.loop»
   dsimp only
   refine wpAny_bind (xi Z D1 D2 d st hx hy fun h' tk st1 pr ks=>?_)
   dsimp only
   rw [List.length_cons] at hz
   have d1:=ks _ _ nd.1 nd.2.1 nd.2.2.1 nd.2.2.2 d
   refine (show wpAny (model prog w) A.in1 (updateSeq D (·.push _) >>= _) _ _ _ from wpAny_bind (wpAny_updateSeq d1 rfl (wpAny_pure ⟨plainId_quiet PySem.F.plain_extend_loop _,?_⟩) (by omega) (by show (acc.push _).size≤_;rw [Array.size_push];omega)))
   have lD:s.heap.objs.size≠D:=Nat.ne_of_gt (Heap.lt_size d)
   have nK:∀ o,¬ K s.heap.objs.size o:=fun o q=>Nat.lt_irrefl _ (Heap.lt_size (kp _ _ q))
   have oth:∀ b o,b≠D→h'.get? b=some o→(h'.update D (Obj.mapSeq (·.push (.ref s.heap.objs.size)))).get? b=some o:=fun b o hb e=>(Heap.get?_update_other _ _ (Ne.symm hb)).trans e
   obtain ⟨vs,hz'⟩:=st.zip
   obtain ⟨o1,q1⟩:=D1.live _ _ st.l
   obtain ⟨o2,q2⟩:=D2.live _ _ st.r
   have lt:∀ {c o},s.heap.get? c=some o→s.heap.objs.size≠c:=fun q=>Nat.ne_of_gt (Heap.lt_size q)
   obtain ⟨o3,q3⟩:=st.t
   refine ih r2 (j+1) _ (acc.push (.ref s.heap.objs.size)) _ (fun b o=>K b o∨(b=s.heap.objs.size∧o= { cls:=.type "tuple",data:=.seq #[x,y] })) (by rw [← List.drop_drop,e1];rfl) (by rw [← List.drop_drop,e2];rfl) (fun b o q=>?_) (fun b o q=>?_) (st1.keep D1 D2 n fun c o c1 q=>oth c o c1 q) (Heap.get?_update_self _ d1 rfl) (Array.getElem?_eq_some_iff.mp hx).1 (Array.getElem?_eq_some_iff.mp hy).1 (by rw [Array.size_push];omega) fun h3 tk us c' k3 d3 p3=>?_
   ·rcases q with q | ⟨rfl,rfl⟩
    ·exact f b o q
    ·simp only [List.mem_cons,List.not_mem_nil,or_false,not_or]
     exact ⟨lD,lt hz',lt q3,lt q1,lt q2⟩
   ·rcases q with q | ⟨rfl,rfl⟩
    ·have:=f b o q
     simp only [List.mem_cons,List.not_mem_nil,or_false,not_or] at this
     exact oth _ _ this.1 (ks b o this.2.1 this.2.2.1 this.2.2.2.1 this.2.2.2.2 (kp b o q))
    ·exact oth _ _ lD pr
   ·exact hR h3 tk (.ref s.heap.objs.size::us) c' (fun b o q=>k3 b o (.inl q)) (by simpa using d3) (.cons nK (k3 _ _ (.inr ⟨rfl,rfl⟩)) (p3.weak fun a o q=>.inl q))
end
end L2
namespace L2
open PySem PySem.Spec PyProof.Rows
theorem vU:typeLookup (.type "zip") "__len__"=pure none:=by rw [typeLookup_type,builtinLookup_eq_fast];kernel_rfl
theorem sY:typeLookup (.type "zip") "__length_hint__"=pure none:=by rw [typeLookup_type,builtinLookup_eq_fast];kernel_rfl
section
variable {prog:Program} {w:World} {A:Around} {R:Result→Shared→Prop} {E:Value→Shared→Prop} {s:Shared} {z ti to i1 i2 t1 t2:Addr} {xs ys:Array Value} {S1 S2:Nat→Heap→Prop}
theorem xd{h0:Heap}{Q:Value→Shared→Prop}(Z:Zap z ti to i1 i2 [i1,t1] [i2,t2])(D1:Draws prog w A.in1.in1.in1 i1 [i1,t1] xs.size (fun j v=>xs[j]? =some v) S1)(D2:Draws prog w A.in1.in1.in1 i2 [i2,t2] ys.size (fun j v=>ys[j]? =some v) S2)(lt:∀ c∈ [z,ti,to,i1,i2,t1,t2],c<s.heap.objs.size)(f:∀ c∈ [z,to,i1,i2],h0.get? c=none)(hz:IsZip s.heap z ti to .none)(hto:∃ u v,IsPair s.heap to u v)(hti:IsPair s.heap ti (.ref i1) (.ref i2))(hl:S1 0 s.heap)(hr:S2 0 s.heap)
  (kp:∀ b o,h0.get? b=some o→s.heap.get? b=some o) (hsz:xs.size≤sizeLine)
  (hQ:∀ h' tk us c,(∀ b o,h0.get? b=some o→h'.get? b=some o)→h'.get? s.heap.objs.size=some { cls:=.type "list",data:=.seq us.toArray c }→Prd (fun a o=>h0.get? a=some o) h' us xs.toList ys.toList→Q (.ref s.heap.objs.size) { s with heap:=h',toks:=tk }):
  wpAny (model prog w) A (call (.type "list") [.ref z]) Q E s:=by
 refine callType_codes (Q₁:=fun v t=>v= .ref s.heap.objs.size∧t= { s with heap:=s.heap.push { cls:=.type "list",data:=.seq #[] } }) PySem.F.called_list (PySem.F.typeCall_list_1 _) PySem.F.entry_list_init (code_list_new _ ⟨rfl,rfl⟩) ?_
 rintro v t ⟨rfl,rfl⟩
 have e0:(s.heap.push { cls:=.type "list",data:=.seq #[] }).get? s.heap.objs.size=some { cls:=.type "list",data:=.seq #[] }:=Heap.get?_push_size _ rfl
 refine ⟨⟨_,e0,rfl⟩,PySem.F.args_list_init_2 _ _,?_⟩
 have nz:s.heap.objs.size≠z:=Nat.ne_of_gt (lt z (by simp))
 have nb:(s.heap.objs.size==z)=false:=beq_eq_false_iff_ne.mpr nz
 unfold Builtin.«list.__init__» Builtin.List.listItems Builtin.List.listUpdate
 dsimp only
 refine wpAny_ite_false (by simp) (wpAny_bind (wpAny_bind (wpAny_seqItems e0 rfl (wpAny_pure (wpAny_bind (wpAny_updateSeq e0 rfl (wpAny_bind (wpAny_letGo ?_))))))))
 have e1:=Heap.get?_update_self (Obj.mapSeq (fun _=>(#[]:Array Value))) e0 rfl
 have k1:∀ b o,s.heap.get? b=some o→((s.heap.push { cls:=.type "list",data:=.seq #[] }).update s.heap.objs.size (Obj.mapSeq fun _=> #[])).get? b=some o:=fun b o q=>(Heap.get?_update_other _ _ (Nat.ne_of_gt (Heap.lt_size q))).trans (Heap.get?_push_of_some _ q)
 generalize (s.heap.push { cls:=.type "list",data:=.seq #[] }).update s.heap.objs.size (Obj.mapSeq fun _=> #[])=g at *
 have ty:({ s with heap:=g }:Shared).TypeIs (.ref z) "zip":=⟨_,k1 _ _ hz,rfl⟩
 unfold Builtin.List.listExtendWith Builtin.List.listLengthHint Builtin.List.listTouch
 refine wpAny_bind (wpAny_typeOf ty ?_)
 refine wpAny_ite_false (by simp only [Builtin.List.listSameRef,nb];decide) (wpAny_bind (wpAny_pyIter_zip (k1 _ _ hz) (wpAny_bind (wpAny_holding (wpAny_bind (wpAny_specialOf ty vU ?_))))))
 refine (show wpAny (model prog w) A.in1.in1 (specialOf (.ref z) (Str.ofString "__length_hint__") >>= _) _ _ _ from wpAny_bind (wpAny_specialOf ty sY (wpAny_pure ?_)))
 refine (show wpAny (model prog w) A.in1.in1 (rule "list.extend.makes-room" >>= _) _ _ _ from wpAny_bind (wpAny_rule ?_))
 refine wpAny_bind ?_
 refine (show wpAny (model prog w) A.in1.in1 (updateSeq s.heap.objs.size (·.push .none) >>= fun _=>updateSeq s.heap.objs.size (·.pop)) _ _ _ from wpAny_bind (wpAny_updateSeq e1 rfl ?_))
 have e2:=Heap.get?_update_self (Obj.mapSeq (·.push Value.none)) e1 rfl
 refine wpAny_updateSeq (hz:=by seq_fits) e2 rfl (wpAny_pure ⟨plainId_quiet PySem.F.plain_extend_loop _,?_⟩)
 have e3:=Heap.get?_update_self (Obj.mapSeq (·.pop)) e2 rfl
 have k3:∀ b o,s.heap.get? b=some o→((g.update s.heap.objs.size (Obj.mapSeq (·.push Value.none))).update s.heap.objs.size (Obj.mapSeq (·.pop))).get? b=some o:=fun b o q=>(Heap.get?_update_other _ _ (Nat.ne_of_gt (Heap.lt_size q))).trans ((Heap.get?_update_other _ _ (Nat.ne_of_gt (Heap.lt_size q))).trans (k1 b o q))
 have nn:s.heap.objs.size∉ [z,ti,to,i1,i2,t1,t2]:=fun q=>Nat.lt_irrefl _ (lt _ q)
 obtain ⟨u,v,hto⟩:=hto
 have fD:∀ b o,h0.get? b=some o→b∉ [s.heap.objs.size,z,to,i1,i2]:=fun b o q hb=>by
  rcases List.mem_cons.mp hb with rfl | hb
  ·exact Nat.lt_irrefl _ (Heap.lt_size (kp _ _ q))
  ·rw [f b hb] at q;cases q
 refine wO (A:=A.in1) Z D1 D2 nn xs.toList ys.toList 0 _ #[] _ (fun a o=>h0.get? a=some o) rfl rfl fD (fun b o q=>k3 b o (kp b o q)) ⟨k3 _ _ hti,D1.frame _ _ _ hl fun b _ o q=>k3 b o q,D2.frame _ _ _ hr fun b _ o q=>k3 b o q,.inl ⟨k3 _ _ hz,u,v,k3 _ _ hto⟩,⟨_,k3 _ _ hto⟩⟩ e3 (Nat.zero_le _) (Nat.zero_le _) (by simpa using hsz) fun h' tk us c k4 d4 p4=>⟨rfl,hQ h' tk us c k4 (by simpa using d4) p4⟩
end
end L2
namespace L3
open PySem
def nJ(ps:List PV)(h:List PO):Res PV:=match ps with
 | [.tup xs,q]=>match lsR h q with
  | some ys=>.ok (.lst (zpL xs ys)) h
  | none=>.bad
 | _=>.bad
end L3
namespace L2
open PySem PySem.Spec PyProof.Rows
def CF(a:Addr):Obj:= { cls:=.type "list_iterator",data:=.fields #[.ref a,.int 0 0] }
abbrev zl2(h:Heap)(a b:Addr):Heap:=(h.push (jw a)).push (CF b)
abbrev zl3(h:Heap)(a b:Addr):Heap:=(zl2 h a b).push (uQ (.ref h.objs.size) (.ref (h.push (jw a)).objs.size))
abbrev zl4(h:Heap)(a b:Addr):Heap:=(zl3 h a b).push (uQ .none .none)
abbrev zl5(h:Heap)(a b:Addr):Heap:=(zl4 h a b).push (Dk (zl2 h a b).objs.size (zl3 h a b).objs.size)
theorem yA(a b:Addr)(xs ys:Array Value):Meets (Builtin.«zip.__new__» ⟨[.type "zip",.ref a,.ref b],[]⟩) (fun _ R s=>s.heap.IsTuple a xs∧s.heap.IsList b ys∧R (.ok (.ret (.ref (zl4 s.heap a b).objs.size))) { s with heap:=zl5 s.heap a b }):=
 .of_wp fun P1 w1 A1 R s ⟨ta,tb,h⟩=>by
  cases s with
  | mk hp gs dd tk os=>
  have sub:=sub_zip
  have t1:Heap.IsTuple hp a xs:=ta
  have t2:Heap.IsList (hp.push (jw a)) b ys:=by obtain ⟨o,q,r⟩:=tb;exact ⟨o,Heap.get?_push_of_some _ q,r⟩
  wp_walk using wpAny_pyIter_tuple t1,wpAny_pyIter_list t2
  exact ⟨_,rfl,h⟩
section
variable {prog:Program} {w:World} {A:Around} {E:Value→Shared→Prop} {s:Shared}
theorem xc{a b:Addr}{xs ys:Array Value}{Q:Value→Shared→Prop}(ta:s.heap.IsTuple a xs)(tb:s.heap.IsList b ys)
  (h:∀ h',(∀ c o,s.heap.get? c=some o→h'.get? c=some o)→h'.get? s.heap.objs.size=some (jw a)→h'.get? (s.heap.objs.size+1)=some (CF b)→IsPair h' (s.heap.objs.size+2) (.ref s.heap.objs.size) (.ref (s.heap.objs.size+1))→IsPair h' (s.heap.objs.size+3) .none .none→
   IsZip h' (s.heap.objs.size+4) (s.heap.objs.size+2) (s.heap.objs.size+3) .none→Q (.ref (s.heap.objs.size+4)) { s with heap:=h' }):wpAny (model prog w) A (call (.type "zip") [.ref a,.ref b]) Q E s:=by
 refine callType_new F.called_zip (by decide) (F.typeCall_zip_2 _ _) (F.newCall_zip_2 _ _) (fun obj=>F.args_object_init_3 obj _ _) F.entry_zip_new (yA a b xs ys) ⟨ta,tb,?_⟩
 have z1:(s.heap.push (jw a)).objs.size=s.heap.objs.size+1:=Heap.size_push ..
 have z2:(zl2 s.heap a b).objs.size=s.heap.objs.size+2:=by rw [Heap.size_push,z1]
 have z3:(zl3 s.heap a b).objs.size=s.heap.objs.size+3:=by rw [Heap.size_push,z2]
 have z4:(zl4 s.heap a b).objs.size=s.heap.objs.size+4:=by rw [Heap.size_push,z3]
 have up:∀ {h:Heap} {o p:Obj} {c:Addr},h.get? c=some o→(h.push p).get? c=some o:=fun e=>Heap.get?_push_of_some _ e
 have g0:(zl5 s.heap a b).get? s.heap.objs.size=some (jw a):=up (up (up (up (Heap.get?_push_size _ rfl))))
 have g1:(zl5 s.heap a b).get? (s.heap.push (jw a)).objs.size=some (CF b):=up (up (up (Heap.get?_push_size _ rfl)))
 have g2:(zl5 s.heap a b).get? (zl2 s.heap a b).objs.size=some (uQ (.ref s.heap.objs.size) (.ref (s.heap.push (jw a)).objs.size)):=up (up (Heap.get?_push_size _ rfl))
 have g3:(zl5 s.heap a b).get? (zl3 s.heap a b).objs.size=some (uQ .none .none):=up (Heap.get?_push_size _ rfl)
 have g4:(zl5 s.heap a b).get? (zl4 s.heap a b).objs.size=some (Dk (zl2 s.heap a b).objs.size (zl3 s.heap a b).objs.size):=Heap.get?_push_size _ rfl
 rw [z1] at g1
 rw [z2,z1] at g2
 rw [z3] at g3
 rw [z4,z2,z3] at g4
 have q:=h (zl5 s.heap a b) (fun c o e=>up (up (up (up (up e))))) g0 g1 g2 g3 g4
 refine ⟨⟨_,by rw [z4];exact g4,rfl⟩,?_⟩
 rw [z4]
 exact q
end
end L2
namespace Z
open PySem PySem.Spec PyProof.Rows L3 L2
section
variable {G:SC} {X:Cx} {w w1:Wo} {ρ:Ev} {h:List PO} {ae be:Expr} {f:Ax} {p0 p1 p2 pos:Pos}
theorem An{us xs ys:List Value}{O:Addr→Option Addr}{m:List Addr}{s':Shared}(p:Prd (fun a o=>w.s.heap.get? a=some o) s'.heap us xs ys):∀ {F:Fz} {ps qs:List PV},Nw X w ⟨F,O,m,s'⟩ h→(∀ a,w.s.heap.get? a=none→a∉m∧O a=none)→aB X.toSC F m ps xs→aB X.toSC F m qs ys→∃ F',Nw X w ⟨F',O,m,s'⟩ h∧(∀ a o,F a=some o→F' a=some o)∧aB X.toSC F' m (zpL ps qs) us:=by
 induction p with
 | l=>intro F ps qs n _ r1 r2;cases r1;exact ⟨F,n,fun _ _ e=>e,by unfold zpL;exact .nil⟩
 | r=>intro F ps qs n _ r1 r2;cases r1;cases r2;exact ⟨F,n,fun _ _ e=>e,by unfold zpL;exact .nil⟩
 | @cons a x y us xs ys na pr p ih=>
  intro F ps qs n fr r1 r2
  cases r1 with
  | cons r1 t1=>
   cases r2 with
   | cons r2 t2=>
    have na':w.s.heap.get? a=none:=by
     cases q:w.s.heap.get? a with
     | none=>rfl
     | some o=>exact absurd q (na o)
    obtain ⟨F1,n1,k1,e1⟩:∃ F1,Nw X w ⟨F1,O,m,s'⟩ h∧(∀ a o,F a=some o→F1 a=some o)∧F1 a=some { cls:=.type "tuple",data:=.seq #[x,y] }:=by
     cases q:F a with
     | none=>exact ⟨_,Nw.freeze (w1:=⟨F,O,m,s'⟩) n na' ⟨pr,(fr a na').1,q,(fr a na').2⟩,cJ q,bD⟩
     | some o=>
      have:=n.2.at (a:=a) q
      have pr':s'.heap.get? a=some { cls:=.type "tuple",data:=.seq #[x,y] }:=pr
      rw [show s'.heap.get? a=some o from this] at pr'
      cases pr'
      exact ⟨F,n,fun _ _ e=>e,q⟩
    obtain ⟨F2,n2,k2,r⟩:=ih n1 fr (t1.mono k1 (.inr fun _ _ e=>e)) (t2.mono k1 (.inr fun _ _ e=>e))
    have up:∀ b o,F b=some o→F2 b=some o:=fun b o e=>k2 _ _ (k1 _ _ e)
    refine ⟨F2,n2,up,?_⟩
    unfold zpL
    exact .cons (.tup (k2 _ _ e1) (by show 2≤sizeLine;decide) (.cons (r1.mono up (.inr fun _ _ e=>e)) (.cons (r2.mono up (.inr fun _ _ e=>e)) .nil))) r
theorem xK(g1:Gl X "list")(m1:X.mg "list"=none)(g2:Gl X "zip")(m2:X.mg "zip"=none)(ha:RA X [ae,be] f)(hc:X.calm=true:=by rfl)(hs:starEach [ae,be] X.env=(false,eval ae X.env)::starEach [be] X.env:=by rfl)(hpl:(backTo p2 (starEach [be] X.env)).any (·.1)=false:=by rfl)
  (he:starEach [.Call (.Name "zip" p1) [ae,be] [] p2] X.env= [(false,eval (.Call (.Name "zip" p1) [ae,be] [] p2) X.env)]:=by rfl) (hp:(backTo pos (starEach [] X.env)).any (·.1)=false:=by rfl):
  RE X (.Call (.Name "list" p0) [.Call (.Name "zip" p1) [ae,be] [] p2] [] pos) (cN nJ f):=⟨fun {w ρ h Q E} I p=>by
 refine wpAny_Call_Name_kw (I.blt g1 m1 (show bootBuiltins "list"=some (.type "list") by decide+kernel) (callWith_type1 ?_ he hp) (by decide) (by decide))
 rw [he]
 refine (show wpAny _ _ (spliced ((false,eval (.Call (.Name "zip" p1) [ae,be] [] p2) X.env):: [])) _ _ _ from Calls.spliced_cons ?_)
 refine wpAny_Call_Name_kw (I.blt g2 m2 (show bootBuiltins "zip"=some (.type "zip") by decide+kernel) (callWith_type1 (ha.r p2 I (p.bind fun w1 h1 ps us y r k=>?_)) hs hpl) (by decide) (by decide))
 unfold nJ at k
 split at k
 ·split at k
  ·rename_i ys e
   obtain ⟨u,v,rfl,r1,r2⟩:=r.two
   obtain ⟨b,jts,rfl,⟨n2,t2⟩,z2,rr2⟩:=y.2.sq r2 (fe e)
   cases r1 with
   | tup e1 z1 rr1=>
    rename_i a its n
    have t1:=y.2.at e1
    have la:=Heap.lt_size t1
    have lb:=Heap.lt_size t2
    refine xc (a:=a) (b:=b) (xs:=its) (ys:=jts) ⟨_,t1,rfl,_,rfl⟩ ⟨_,t2,rfl,_,rfl⟩ fun h' kk q0 q1 q2 q3 q4=>Calls.spliced_nil ?_
    have Z:=zQ w1.s.heap.objs.size a b la lb
    have sz:∀ {c o},h'.get? c=some o→c<h'.objs.size:=fun q=>Heap.lt_size q
    have nx:∀ c,w1.s.heap.objs.size≤c→w1.s.heap.get? c=none:=fun c ge=>by
     cases q:w1.s.heap.get? c with
     | none=>rfl
     | some o=>exact absurd (Heap.lt_size q) (Nat.not_lt.mpr ge)
    have hd:=I.ok.hd hc
    refine xd (h0:=w1.s.heap) (s:= { w1.s with heap:=h' }) Z (zn (A:=X.A.in1.in1) (items:=its) hd (Nat.ne_of_lt la)) (Draws.list (A:=X.A.in1.in1.in1) hd (w1.s.heap.objs.size+1) b (Nat.ne_of_lt (Nat.lt_succ_of_lt lb)) jts) (fun c hc=>?_) (fun c hc=>?_) q4 ⟨_,_,q3⟩ q2 ⟨⟨_,q0,rfl,rfl⟩,⟨_,kk _ _ t1,rfl,_,rfl⟩⟩ ⟨⟨_,q1,rfl,rfl⟩,⟨_,kk _ _ t2,rfl,_,rfl⟩⟩ kk z1 fun h3 t3 us c k3 d3 p3=>?_
    ·simp only [List.mem_cons,List.not_mem_nil,or_false] at hc
     rcases hc with rfl | rfl | rfl | rfl | rfl | rfl | rfl
     ·exact sz q4
     ·exact sz q2
     ·exact sz q3
     ·exact sz q0
     ·exact sz q1
     ·exact sz (kk _ _ t1)
     ·exact sz (kk _ _ t2)
    ·simp only [List.mem_cons,List.not_mem_nil,or_false] at hc
     rcases hc with rfl | rfl | rfl | rfl
     ·exact nx _ (Nat.le_add_right _ _)
     ·exact nx _ (Nat.le_add_right _ _)
     ·exact nx _ (Nat.le_refl _)
     ·exact nx _ (Nat.le_succ _)
    ·have na:w1.s.heap.get? h'.objs.size=none:=by
      cases q:w1.s.heap.get? h'.objs.size with
      | none=>rfl
      | some o=>exact absurd (Heap.lt_size (kk _ _ q)) (Nat.lt_irrefl _)
     have n0:=Nw.also (X:=X) (s':= { w1.s with heap:=h3,toks:=t3 }) y.2 k3
     obtain ⟨F',n1,up,rp⟩:=An (s':= { w1.s with heap:=h3,toks:=t3 }) p3 n0 (fun a q=>⟨(y.2.free q).1,(y.2.free q).2.2⟩) rr1 rr2
     have fr:=y.2.free na
     obtain ⟨F2,n2,up2,e2⟩:∃ F2,Nw X w1 ⟨F2,w1.O,w1.m,{ w1.s with heap:=h3,toks:=t3 }⟩ h1∧(∀ a o,F' a=some o→F2 a=some o)∧F2 h'.objs.size=some { cls:=.type "list",data:=.seq us.toArray c }:=by
      cases q:F' h'.objs.size with
      | none=>exact ⟨_,Nw.freeze (w1:=⟨F',w1.O,w1.m,{ w1.s with heap:=h3,toks:=t3 }⟩) n1 na ⟨d3,fr.1,q,fr.2.2⟩,cJ q,bD⟩
      | some o=>
       have d3':h3.get? h'.objs.size=some { cls:=.type "list",data:=.seq us.toArray c }:=d3
       rw [show h3.get? h'.objs.size=some o from n1.2.at (a:=h'.objs.size) q] at d3'
       cases d3'
       exact ⟨F',n1,fun _ _ e=>e,q⟩
     have ul:us.length≤its.size:=by rw [← rp.length,uw,rr1.len];exact Nat.min_le_left _ _
     exact k.2 _ _ n2 (.lst e2 (by simp;omega) (by simpa using rp.mono up2 (.inr fun _ _ e=>e)))
  ·exact k.elim
 ·exact k.elim⟩
end
end Z
namespace Z
open PySem PySem.Spec PyProof.Rows L3 L2
section
variable {X:Cx} {elt iter:Expr} {ifs:List Expr} {te:Ex} {it:Ax} {tt:Tx} {pos tp:Pos} {x y:Str} {scope:Scope} {M:List Str} {caps:List Nat}
theorem qi{k:Nat}{tp2 tp3:Pos}{iy:Nat}{nm:Str}{py spos:Pos}(S:bA X.N X.env.scope scope caps [x,y] M)(hi:RI X (.Tuple [.Name x tp,.Name y tp2] k tp3) iter it)(ht:∀ cl C,RFs (bp X M scope cl C) ifs tt)(he:∀ cl C,RE (bp X M scope cl C) elt te)(hy:X.N[iy]? =some nm)(hLy:X.env.scope.names.lookup nm=some .local)(hsw:swapsWith (.ListComp elt [⟨.Tuple [.Name x tp,.Name y tp2] k tp3,iter,ifs,0⟩] scope pos) (some (.Name nm py)) spos.line X.env=pure true)(hc:X.calm=true:=by rfl)(hg:∀ cl C,RG (bp X M scope cl C) (.Tuple [.Name x tp,.Name y tp2] k tp3) g2:=by exact fun _ _=>gL rfl (bG aW (bG aW fx)))
  (hs:∀ y,foldedSetIterable iter X.env y=pure y:=by intro _;rfl):RS X (.Assign [.Name nm py] (.ListComp elt [⟨.Tuple [.Name x tp,.Name y tp2] k tp3,iter,ifs,0⟩] scope pos) spos) (aK iy (cN okL (fw caps it tt te))):=by
 have q:=lK (pos:=pos) (py:=py) caps hc S hi hg ht he CL hy hLy hsw hs
 have z:dk 2 g2 caps it tt te=fw caps it tt te:=by funext ρ h;simp only [dk,fw,qZ]
 exact z▸q
end
end Z
namespace L3
open PySem L2
def Em:PyData→Bool
 | .list _=>true
 | .tuple _=>true
 | _=>false
def okR(d:PyData):Bool:=d.canLay0&&!d.hasDict&&decide (d.depth≤60)&&d.showable&&decide (d.shown.length≤sizeLine)&&Em d
def kf(ps:List PV)(h:List PO):Res PV:=match ps with
 | [p]=>if okR (dOf h p)=true then .ok (.str (dOf h p).shown.cps.toList) h else .bad
 | _=>.bad
end L3
namespace Z
open PySem PySem.Spec PyProof.Rows L3 L2
section
variable {X:Cx}
theorem qA(hg:X.A.guards=some [])(hu:X.A.units+64<cLine):OpC X (.builtin "repr") kf:=fun ok {w h p u Q E} I rs p=>by
 unfold kf at p
 split at p
 ·obtain ⟨u,rfl,r1⟩:=rs.one
  split at p
  ·rename_i cc
   simp only [okR,Bool.and_eq_true,decide_eq_true_eq,Bool.not_eq_true'] at cc
   obtain ⟨⟨⟨⟨⟨c,hd⟩,h3⟩,q⟩,z⟩,sq⟩:=cc
   show Wp X (call (.builtin "repr") [u]) Q E w.s
   obtain ⟨as,r⟩:=I.toHR.reads r1 c
   generalize dOf h _=d at *
   have k:∃ a,u= .ref a:=by cases r<;>first | exact ⟨_,rfl⟩ | cases sq
   obtain ⟨a,rfl⟩:=k
   refine repr_of_reads' r q (fun z=>by rw [hd] at z;cases z) hg (by omega) (fun _ _ e=>e) (fun h' u tk hk=>?_) z
   have n:=Nw.also (X:=X) (s':= { w.s with heap:=h',toks:=tk }) I.toHR hk
   refine p.2 _ _ n ?_
   have:= @aZ.str X.toSC w.F w.m d.shown.cps.toList u
   rw [Hr] at this
   exact this
  ·exact p.elim
 ·exact p.elim
end
end Z
namespace L3
open PySem L2
def oV(p q:PV)(h:List PO):Res PV:=match lsM h p,q with
 | some xs,.int k=>if bel 9223372036854775808 k=true∧xs.length * k.toNat≤sizeLine then .ok (.ref h.length) (h++ [.lst (dI xs k)]) else .bad
 | _,_=>.bad
end L3
namespace Z
open PySem PySem.Spec PyProof.Rows L3 L2
section
variable {X:Cx} {a b:Expr} {fa fb:Ex} {pos:Pos}
theorem uL(ha:RE X a fa)(hb:RE X b fb):RE X (.BinOp a .Mult b pos) (c2 oV fa fb):=nh (fun {w h p q u v Q E} I rp rq k=>by
 unfold oV at k
 split at k
 ·rename_i xs n e'
  cases rq
  split at k
  ·rename_i hz
   have hk:=bX.mp hz.1
   obtain ⟨l,its,rfl,⟨_,e⟩,z,r⟩:=I.sq rp (jH e')
   have ln:=r.len
   have hl:=hz.2
   rw [ln] at hl
   have:(sizeLine:Nat)≤(2 ^ 63 - 1) / 8:=by decide
   refine wpAny_binaryOp_repeat_ref (T:="list") (U:="int") (by decide) ⟨_,e,rfl⟩ (fun s'=>typeIs_int s' _ _) noFill_list_mul F.fills_int_mul F.slot_int_rmul repeat_list F.slot_int_index.lookup
    (call_meets F.slot_int_rmul (typeIs_int w.s _ _) F.entry_int_rmul (F.args_int_rmul_2 _ _) (int___rmul___int_list _ _ l its _) ⟨e,rfl,⟨_,e,rfl⟩,call_meets F.slot_list_mul ⟨_,e,rfl⟩ F.entry_list_mul (F.args_list_mul_2 _ _) (AutoListH.list___mul___list_int_3 l its _ n _ (by rw [fitsIndex_both (by omega) (by omega)];exact Bool.false_ne_true) (by omega) (by rw [sj hl];exact Bool.false_ne_true)) ⟨e,?_⟩⟩)
   rw [sJ,show (List.replicate (if its.isEmpty=true then 0 else n.toNat) its.toList).flatten=(List.replicate n.toNat its.toList).flatten by split<;>simp_all]
   exact k.lm I.toHR (r.rep _) (by rw [List.size_toArray,mH,← r.length,Nat.mul_comm];exact hz.2)
  ·exact k.elim
 ·exact k.elim) ha hb
end
end Z
namespace L3
open PySem
def zi:PV→Bool
 | .int _=>true
 | .str _=>true
 | .bl _=>true
 | .non=>true
 | _=>false
def vo:PO→Bool
 | .lst xs=>xs.all zi
 | _=>false
def cQ(j:Nat)(f:Ex):Ex:=fun ρ h=>match ρ[j]? with
 | some (some (.ref i))=>match h[i]? with
  | some (.lst xs)=>if am xs=true then match f ρ (h.set i (.froz (.lst xs))) with
    | .ok .non h2=>if ((List.range h.length).all fun k=>k==i||match h2[k]? with | some o=>vo o | none=>false)=true then .ok .non ((h2.take h.length).set i (.lst xs)) else .bad
    | _=>.bad
   else .bad
  | _=>.bad
 | _=>.bad
end L3
namespace Z
open PySem PySem.Spec PyProof.Rows L3 L2
section
variable {G:SC} {F F':Fz} {m m':List Addr}
theorem zh{p:PV}{u:Value}(r:aZ G F m p u)(h:zi p=true):aZ G F' m' p u:=by
 cases p<;>first | (cases h;done) | skip
 all_goals cases r
 ·exact .non
 ·exact .bl _
 ·exact .int _ _
 ·exact .str _ _
theorem pw:∀ {ps:List PV} {us:List Value},aB G F m ps us→ps.all zi=true→aB G F' m' ps us
 | _,_,.nil,_=>.nil
 | _,_,.cons r t,h=>by
  rw [List.all_cons,Bool.and_eq_true] at h
  exact .cons (zh r h.1) (pw t h.2)
end
section
variable {X:Cx} {w w2:Wo} {ρ:Ev} {h h2:List PO} {a:Addr} {i:Nat} {xs:List PV} {its:Array Value} {n:Nat}
theorem Nw.thaw(H:HR X.toSC w h)(em:w.m[i]? =some a)(hi:h[i]? =some (.lst xs))(hf:w.F a=none)(e:w.s.heap.get? a=some { cls:=.type "list",data:=.seq its n })(z:its.size≤sizeLine)(r:aB X.toSC w.F w.m xs its.toList)(y:Nw X ⟨gz w.F a { cls:=.type "list",data:=.seq its n },w.O,w.m,w.s⟩ w2 h2)
  (fl:∀ k,k<h.length→k≠i→∃ o,h2[k]? =some o∧vo o=true):Nw X w ⟨w.F,w.O,w.m,w2.s⟩ ((h2.take h.length).set i (.lst xs)):=by
 have up:=cJ (o:= { cls:=.type "list",data:=.seq its n }) hf
 have fz:∀ b x,w.F b=some x→w2.s.heap.get? b=some x:=fun b x q=>y.2.sub b x (y.1.fz b x (up b x q))
 obtain ⟨t,pr⟩:=y.1.pre
 have pr':w2.m=w.m++t:=pr
 have ln:h.length≤h2.length:=by rw [y.2.len,pr',H.len,List.length_append];omega
 refine ⟨⟨y.1.os,y.1.ba,fun _ _ e=>e,fun _ _ e=>e,⟨[],by simp⟩,y.1.dom,fun b x q _=>?_⟩,fz,fun d b q=>let ⟨⟨x,e⟩,z⟩:=H.own d b q;⟨y.1.dom _ _ e,z⟩,?_,H.nd,fun k po b e1 e2=>?_⟩
 ·have nb:b≠a:=fun z=>q.2.1 (z▸List.mem_of_getElem? em)
  obtain ⟨sl,q',z⟩:=y.1.keep b x ⟨q.1,q.2.1,cP nb q.2.2.1,q.2.2.2⟩ fun z=>z
  exact ⟨sl,⟨q'.1,q.2⟩,z⟩
 ·show ((h2.take h.length).set i (.lst xs)).length=w.m.length
  rw [List.length_set,List.length_take,← H.len];omega
 ·have e2':w.m[k]? =some b:=e2
  by_cases c:k=i
  ·subst c
   rw [em] at e2';cases e2'
   rw [List.getElem?_set_self (by rw [List.length_take];have:=(List.getElem?_eq_some_iff.mp hi).1;omega)] at e1
   cases e1
   exact ⟨hf,its,n,y.2.sub _ _ (y.1.fz _ _ bD),z,r⟩
  ·have kl:k<h.length:=by rw [H.len];exact (List.getElem?_eq_some_iff.mp e2').1
   rw [List.getElem?_set_ne (Ne.symm c),List.getElem?_take,if_pos kl] at e1
   obtain ⟨o,o1,o2⟩:=fl k kl c
   rw [o1] at e1;cases e1
   have em2:w2.m[k]? =some b:=by rw [pr',List.getElem?_append_left (by rw [← H.len];exact kl)];exact e2'
   have ob:=y.2.obj k _ b o1 em2
   cases po with
   | lst ps=>
    obtain ⟨f2,its2,n2,g,z2,r2⟩:=ob
    refine ⟨?_,its2,n2,g,z2,pw r2 o2⟩
    cases q:w.F b with
    | none=>rfl
    | some x=>rw [y.1.fz b x (up b x q)] at f2;cases f2
   | _=>cases o2
theorem FQ{e:Expr}{f:Ex}(j:Nat)(hr:RE X e f):RE X e (cQ j f):=⟨fun {w ρ h Q E} I p=>by
 unfold cQ at p
 split at p
 ·rename_i i hj
  split at p
  ·rename_i xs hi
   split at p
   ·rename_i pu
    obtain ⟨mm,ol,nl,hl,l⟩:=I.loc
    obtain ⟨x,u,e2,r2,l2⟩:=l j _ hj
    cases r2 with
    | @ref _ a em=>
     obtain ⟨hf,its,n,e1,z,r⟩:=I.obj _ _ _ hi em
     have rr:aZ X.toSC (gz w.F a ({ cls:=.type "list",data:=.seq its n })) w.m (.lst xs) (.ref a):=.lst bD z (r.mono (cJ hf) (.inr fun _ _ e=>e))
     have n0:=I.toHR.fix (X:=X) em hf e1 rr (by simpa [PV.pure] using pu)
     have I':=I.on n0
     refine hr.r (w:=⟨gz w.F a ({ cls:=.type "list",data:=.seq its n }),w.O,w.m,w.s⟩) I' ?_
     split at p
     ·rename_i h2 ef
      rw [ef]
      split at p
      ·rename_i ok
       refine ⟨p.1,fun w2 v y rv=>?_⟩
       cases rv
       have fl:∀ k,k<h.length→k≠i→∃ o,h2[k]? =some o∧vo o=true:=fun k kl c=>by
        have q:=List.all_eq_true.mp ok k (List.mem_range.mpr kl)
        rw [Bool.or_eq_true] at q
        rcases q with q | q
        ·exact (c (eq_of_beq q)).elim
        ·cases z:h2[k]? with
         | none=>rw [z] at q;cases q
         | some o=>rw [z] at q;exact ⟨o,rfl,q⟩
       exact p.2 ⟨w.F,w.O,w.m,w2.s⟩ _ (Nw.thaw I.toHR em hi hf e1 z r y fl) .non
      ·exact p.elim
     ·exact p.elim
   ·exact p.elim
  ·exact p.elim
 ·exact p.elim⟩
end
end Z
noncomputable section
namespace K22
open PySem PySem.Spec PyProof.Rows L2 L3 Z
def top(i:Nat):Stmt:=PySem.Challenge.pw_formsmith_k22_rows_told.main.body.getD i (.Pass ⟨0,0,0,0⟩)
noncomputable def dq:List Nat:= [97,98,99,100,101,102,103,104,105,106,107,108,109,110,111,112,113,114,115,116,117,118,119,120,121,122]
noncomputable def ka:List Nat:= [10,32,33,34,35,36,38,39,40,41,42,43,44,45,46,47,48,49,50,51,52,53,54,55,56,57,58,59,60,61,62,63,64,65,66,67,68,69,70,71,72,73,74,75,76,77,78,79,80,81,82,83,84,85,86,87,88,89,90,91,92,93,94,95,96]
noncomputable def jZ:List Nat:= [97,98,99,100,101,102,103,104,105,106,107,108,109,110,111,112,113,114,115,116,117,118,119,120,121,122,123,124,125,126]
set_option genSizeOf false in
inductive Fn where
 | law | l_names | l_cell | l_book | compiled | l_due | l_cell_at | l_kinds | l_come | l_nodes | l_one | l_body | Compiler___init__ | Compiler_compile_block | l_rows | l_text | l_place | l_choice | l_loop | l_use | l_handed | Compiler_rows_of | l_paths_of | l_path | l_signs | l_paths | l_in | Compiler_rows_of_node | Compiler_rows_of_loop | Compiler_rows_of_choice | Compiler_rows_of_use | rows_of_paths | rows_of_path | Compiler_number_of_body | inmost_slot
abbrev CC:=Fn→List PV→L3.Out
abbrev DD:=Fn→List PV→List PO→Res PV
def oE:Fn→Stmt
 | .law=>top 31
 | .l_names=>top 10
 | .l_cell=>top 8
 | .l_book=>top 24
 | .compiled=>top 1
 | .l_due=>top 30
 | .l_cell_at=>top 7
 | .l_kinds=>top 11
 | .l_come=>top 23
 | .l_nodes=>top 22
 | .l_one=>top 21
 | .l_body=>top 19
 | .Compiler___init__=>gE (top 2) 0
 | .Compiler_compile_block=>gE (top 2) 1
 | .l_rows=>top 29
 | .l_text=>top 14
 | .l_place=>top 15
 | .l_choice=>top 17
 | .l_loop=>top 16
 | .l_use=>top 18
 | .l_handed=>top 13
 | .Compiler_rows_of=>gE (top 2) 2
 | .l_paths_of=>top 28
 | .l_path=>top 27
 | .l_signs=>top 9
 | .l_paths=>top 12
 | .l_in=>top 20
 | .Compiler_rows_of_node=>gE (top 2) 3
 | .Compiler_rows_of_loop=>gE (top 2) 4
 | .Compiler_rows_of_choice=>gE (top 2) 5
 | .Compiler_rows_of_use=>gE (top 2) 6
 | .rows_of_paths=>top 3
 | .rows_of_path=>top 4
 | .Compiler_number_of_body=>gE (top 2) 7
 | .inmost_slot=>top 5
noncomputable def qD:Fn→List Str
 | .law=> ["_law_script","_law_spot","_law_names_here","_law_book_here","_law_other","_law_kept","_law_one_here","_law_found"]
 | .l_names=> ["_law_n","_law_some","_law_at","_law_found","_law_k","_law_word","_law_told"]
 | .l_cell=> ["_law_cells","_law_spot","_law_k","_law_base"]
 | .l_book=> ["_law_cells","_law_spot","_law_names_here","_law_tidy","_law_odd","_law_first","_law_kinds_here","_law_book_here","_law_pieces","_law_k","_law_n","_law_own","_law_handed_here","_law_scope","_law_at","_law_nodes_here","_law_count","_law_left"]
 | .compiled=> ["book","compiler","number","piece"]
 | .l_due=> ["_law_book_here","_law_blocks","_law_k","_law_piece"]
 | .l_cell_at=> ["_law_script","_law_k"]
 | .l_kinds=> ["_law_names_here","_law_n","_law_at","_law_parts","_law_small","_law_great"]
 | .l_come=> ["_law_nodes_here","_law_pieces","_law_bodies","_law_deep","_law_left","_law_node"]
 | .l_nodes=> ["_law_cells","_law_spot","_law_at","_law_deep","_law_found","_law_k","_law_kind"]
 | .l_one=> ["_law_nodes_here","_law_found","_law_node"]
 | .l_body=> ["_law_cells","_law_spot","_law_at","_law_paths_here"]
 | .Compiler___init__=> ["self","book","number","piece"]
 | .Compiler_compile_block=> ["self","number","nodes","names"]
 | .l_rows=> ["_law_book_here","_law_blocks","_law_names_here","_law_nodes_here","_law_rows_here","_law_node","_law_path_here","_law_within","_law_first","_law_sides","_law_skip","_law_number","_law_own"]
 | .l_text=> ["_law_cells","_law_spot","_law_n"]
 | .l_place=> ["_law_cells","_law_spot","_law_at","_law_fits","_law_n","_law_path_here","_law_kind","_law_ways","_law_way","_law_close"]
 | .l_choice=> ["_law_cells","_law_spot","_law_at","_law_deep","_law_fits","_law_n","_law_mark","_law_sides","_law_choice_here"]
 | .l_loop=> ["_law_cells","_law_spot","_law_at","_law_deep","_law_fits","_law_n","_law_path_here","_law_kind","_law_name","_law_nodes_here","_law_star","_law_shut","_law_loop_here"]
 | .l_use=> ["_law_cells","_law_spot","_law_at","_law_deep","_law_n","_law_paths_here","_law_name","_law_kinds_here","_law_handed_here","_law_names_here","_law_inner","_law_nodes_here"]
 | .l_handed=> ["_law_cells","_law_spot","_law_scope","_law_kinds_here","_law_found","_law_kind","_law_fits"]
 | .Compiler_rows_of=> ["self","nodes","names","rows","node"]
 | .l_paths_of=> ["_law_node"]
 | .l_path=> ["_law_names_here","_law_path_here","_law_slot"]
 | .l_signs=> ["_law_some"]
 | .l_paths=> ["_law_scope","_law_rows_here","_law_at","_law_path_here","_law_kind"]
 | .l_in=> ["_law_at","_law_more","_law_inner"]
 | .Compiler_rows_of_node=> ["self","node","names","kind"]
 | .Compiler_rows_of_loop=> ["self","node","names","inner","many","head"]
 | .Compiler_rows_of_choice=> ["self","node","names","yes","no"]
 | .Compiler_rows_of_use=> ["self","node","names","block","use"]
 | .rows_of_paths=> ["paths","names","rows","path"]
 | .rows_of_path=> ["path","names"]
 | .Compiler_number_of_body=> ["self","node","names","number"]
 | .inmost_slot=> ["name","names","slot"]
def nS:Fn→Str
 | .law=>"law"
 | .l_names=>"_law_names"
 | .l_cell=>"_law_cell"
 | .l_book=>"_law_book"
 | .compiled=>"compiled"
 | .l_due=>"_law_due"
 | .l_cell_at=>"_law_cell_at"
 | .l_kinds=>"_law_kinds"
 | .l_come=>"_law_come"
 | .l_nodes=>"_law_nodes"
 | .l_one=>"_law_one"
 | .l_body=>"_law_body"
 | .Compiler___init__=>"__init__"
 | .Compiler_compile_block=>"compile_block"
 | .l_rows=>"_law_rows"
 | .l_text=>"_law_text"
 | .l_place=>"_law_place"
 | .l_choice=>"_law_choice"
 | .l_loop=>"_law_loop"
 | .l_use=>"_law_use"
 | .l_handed=>"_law_handed"
 | .Compiler_rows_of=>"rows_of"
 | .l_paths_of=>"_law_paths_of"
 | .l_path=>"_law_path"
 | .l_signs=>"_law_signs"
 | .l_paths=>"_law_paths"
 | .l_in=>"_law_in"
 | .Compiler_rows_of_node=>"rows_of_node"
 | .Compiler_rows_of_loop=>"rows_of_loop"
 | .Compiler_rows_of_choice=>"rows_of_choice"
 | .Compiler_rows_of_use=>"rows_of_use"
 | .rows_of_paths=>"rows_of_paths"
 | .rows_of_path=>"rows_of_path"
 | .Compiler_number_of_body=>"number_of_body"
 | .inmost_slot=>"inmost_slot"
def tG:Fn→Str
 | .Compiler___init__=>"Compiler.__init__"
 | .Compiler_compile_block=>"Compiler.compile_block"
 | .Compiler_rows_of=>"Compiler.rows_of"
 | .Compiler_rows_of_node=>"Compiler.rows_of_node"
 | .Compiler_rows_of_loop=>"Compiler.rows_of_loop"
 | .Compiler_rows_of_choice=>"Compiler.rows_of_choice"
 | .Compiler_rows_of_use=>"Compiler.rows_of_use"
 | .Compiler_number_of_body=>"Compiler.number_of_body"
 | f=>nS f
def AN:Fn→Bool
 | .Compiler___init__ | .Compiler_compile_block | .Compiler_rows_of | .Compiler_rows_of_node | .Compiler_rows_of_loop | .Compiler_rows_of_choice | .Compiler_rows_of_use | .Compiler_number_of_body=>false
 | _=>true
set_option genSizeOf false in
inductive Nt where
 | dict | enumerate | int | isinstance | len | list | max | min | range | repr | set | tuple | zip
def Cy:Nt→Str
 | .dict=>"dict"
 | .enumerate=>"enumerate"
 | .int=>"int"
 | .isinstance=>"isinstance"
 | .len=>"len"
 | .list=>"list"
 | .max=>"max"
 | .min=>"min"
 | .range=>"range"
 | .repr=>"repr"
 | .set=>"set"
 | .tuple=>"tuple"
 | .zip=>"zip"
def jC:Fn→List Str
 | .law=> ["_law_script"]
 | .l_names=> ["_law_n"]
 | .l_cell=> ["_law_cells","_law_spot"]
 | .l_book=> ["_law_cells","_law_spot","_law_names_here","_law_tidy","_law_odd"]
 | .compiled=> ["book"]
 | .l_due=> ["_law_book_here"]
 | .l_cell_at=> ["_law_script","_law_k"]
 | .l_kinds=> ["_law_names_here","_law_n"]
 | .l_come=> ["_law_nodes_here","_law_pieces","_law_bodies","_law_deep","_law_left"]
 | .l_nodes=> ["_law_cells","_law_spot","_law_at","_law_deep"]
 | .l_one=> ["_law_nodes_here"]
 | .l_body=> ["_law_cells","_law_spot","_law_at"]
 | .Compiler___init__=> ["self","book"]
 | .Compiler_compile_block=> ["self","number","nodes","names"]
 | .l_rows=> ["_law_book_here","_law_blocks","_law_names_here","_law_nodes_here"]
 | .l_text=> ["_law_cells","_law_spot"]
 | .l_place=> ["_law_cells","_law_spot","_law_at"]
 | .l_choice=> ["_law_cells","_law_spot","_law_at","_law_deep"]
 | .l_loop=> ["_law_cells","_law_spot","_law_at","_law_deep"]
 | .l_use=> ["_law_cells","_law_spot","_law_at","_law_deep"]
 | .l_handed=> ["_law_cells","_law_spot","_law_scope","_law_kinds_here"]
 | .Compiler_rows_of=> ["self","nodes","names"]
 | .l_paths_of=> ["_law_node"]
 | .l_path=> ["_law_names_here","_law_path_here"]
 | .l_signs=> []
 | .l_paths=> ["_law_scope"]
 | .l_in=> ["_law_at","_law_more"]
 | .Compiler_rows_of_node=> ["self","node","names"]
 | .Compiler_rows_of_loop=> ["self","node","names"]
 | .Compiler_rows_of_choice=> ["self","node","names"]
 | .Compiler_rows_of_use=> ["self","node","names"]
 | .rows_of_paths=> ["paths","names"]
 | .rows_of_path=> ["path","names"]
 | .Compiler_number_of_body=> ["self","node","names"]
 | .inmost_slot=> ["name","names"]
def dl:Nat→Nat
 | 0=>0
 | k+1=>dl k+2
def bK(C:CC):Sx:=(uH (c1 (nL 603 0) (af 0)) (c2 pIx (af 3) (cK (.int 1))) (af 2))
def cw(C:CC):Sx:=
 (aG (uI 603 0 (af 0) vM)
  (aG (iN (sU (ab (af 1) aj)) (gTp 2 (bR (gNm 2) (bR (gNm 3) gg))) (bK C))
  (uI 603 1 (af 0) (c2 oV (cN br (ab (cN aS aj) aj)) (cN bv (ab (af 1) aj))))))
def bE(C:CC)(Z:DD):Sx:=
 (fR (c1 (nL 603 1) (af 0)) (af 1) (c2 ay (cN cF (ab (eF 603 (Z .Compiler_rows_of) (af 0) (ab (af 2) (ab (af 3) aj))) aj)) (cN aS (ab (cN aS (ab (cK (.str [98,97,99,107])) aj)) aj))))
def cC(C:CC)(Z:DD):Sx:=(cf (cM bM cG (af 3) (ab (eF 603 (Z .Compiler_rows_of_node) (af 0) (ab (af 4) (ab (af 2) aj))) aj)))
def cI(C:CC)(Z:DD):Sx:=
 (aG (aK 3 (cN eM aj))
  (aG (iN (gx (af 1)) (gNm 4) (cC C Z))
  (bS (af 3))))
def aI(C:CC)(Z:DD):Sx:=
 (aG (aK 3 (c2 pIx (af 1) (cK (.int 0))))
  (aG (sIf (aJ (c2 pEq (af 3) (cK (.str [116,101,120,116])))) (bS (cN br (ab (cN aS (ab (cK (.str [119,114,105,116,101])) (ab (c2 pIx (af 1) (cK (.int 1))) aj))) aj))) cT)
  (aG (sIf (aJ (c2 pEq (af 3) (cK (.str [112,108,97,99,101])))) (bS (c2 ay (bP (C .rows_of_path) (ab (c2 pIx (af 1) (cK (.int 1))) (ab (af 2) aj))) (cN br (ab (cN aS (ab (cK (.str [112,117,116])) (ab (c2 pIx (af 1) (cK (.int 2))) aj))) aj)))) cT)
  (aG (sIf (aJ (c2 pEq (af 3) (cK (.str [108,111,111,112])))) (bS (eF 603 (Z .Compiler_rows_of_loop) (af 0) (ab (af 1) (ab (af 2) aj)))) cT)
  (aG (sIf (aJ (c2 pEq (af 3) (cK (.str [99,104,111,105,99,101])))) (bS (eF 603 (Z .Compiler_rows_of_choice) (af 0) (ab (af 1) (ab (af 2) aj)))) cT)
  (aG (sIf (aJ (c2 pEq (af 3) (cK (.str [117,115,101])))) (bS (eF 603 (Z .Compiler_rows_of_use) (af 0) (ab (af 1) (ab (af 2) aj)))) cT)
  (bS (c2 ay (bP (C .rows_of_paths) (ab (c2 pIx (af 1) (cK (.int 1))) (ab (af 2) aj))) (cN br (ab (cN aS (ab (cK (.str [98,111,100,121])) (ab (cN bv (ab (c2 pIx (af 1) (cK (.int 1))) aj)) aj))) aj))))))))))
def bJ(C:CC)(Z:DD):Sx:=
 (aG (aK 3 (eF 603 (Z .Compiler_rows_of) (af 0) (ab (c2 pIx (af 1) (cK (.int 3))) (ab (c2 ay (af 2) (cN aS (ab (c2 pIx (af 1) (cK (.int 1))) aj))) aj))))
  (aG (aK 4 (c2 ay (cN bv (ab (af 3) aj)) (cK (.int 1))))
  (aG (aK 5 (cN br (ab (cN aS (ab (cK (.str [119,97,108,107])) aj)) (ab (cN aS (ab (cK (.str [114,111,117,110,100])) (ab (cN bv (ab (af 2) aj)) (ab (af 4) (ab (c2 pIx (af 1) (cK (.int 4))) aj))))) aj))))
  (bS (c2 ay (c2 ay (c2 ay (bP (C .rows_of_path) (ab (c2 pIx (af 1) (cK (.int 2))) (ab (af 2) aj))) (af 5)) (af 3)) (cN br (ab (cN aS (ab (cK (.str [97,103,97,105,110])) (ab (af 4) aj))) aj)))))))
def bj(C:CC)(Z:DD):Sx:=
 (aG (aK 3 (eF 603 (Z .Compiler_rows_of) (af 0) (ab (c2 pIx (af 1) (cK (.int 2))) (ab (af 2) aj))))
  (aG (aK 4 (eF 603 (Z .Compiler_rows_of) (af 0) (ab (c2 pIx (af 1) (cK (.int 3))) (ab (af 2) aj))))
  (aG (sIf (iK (c2 pIx (af 1) (cK (.int 3)))) (aK 3 (c2 ay (af 3) (cN br (ab (cN aS (ab (cK (.str [115,107,105,112])) (ab (cN bv (ab (af 4) aj)) aj))) aj)))) cT)
  (bS (c2 ay (c2 ay (c2 ay (bP (C .rows_of_path) (ab (c2 pIx (af 1) (cK (.int 1))) (ab (af 2) aj))) (cN br (ab (cN aS (ab (cK (.str [117,110,108,101,115,115])) (ab (cN bv (ab (af 3) aj)) aj))) aj))) (af 3)) (af 4))))))
def aV(C:CC)(Z:DD):Sx:=
 (aG (aK 3 (Bc (aJ (c2 pIs (c2 pIx (af 1) (cK (.int 4))) (cK .non))) (cK .non) (eF 603 (Z .Compiler_number_of_body) (af 0) (ab (af 1) (ab (af 2) aj)))))
  (aG (aK 4 (cN aS (ab (cK (.str [117,115,101])) (ab (c2 pIx (c1 (nL 603 0) (af 0)) (c2 pIx (af 1) (cK (.int 1)))) (ab (cN bv (ab (c2 pIx (af 1) (cK (.int 2))) aj)) (ab (af 3) (ab (cN bv (ab (af 2) aj)) aj)))))))
  (bS (c2 ay (bP (C .rows_of_paths) (ab (c2 pIx (af 1) (cK (.int 2))) (ab (af 2) aj))) (cN br (ab (af 4) aj))))))
def bz(C:CC)(Z:DD):Sx:=
 (aG (aK 3 (cN bv (ab (c1 (nL 603 1) (af 0)) aj)))
  (aG (cf (cM bM bH (c1 (nL 603 1) (af 0)) (ab (cN aS aj) aj)))
  (aG (cf (eF 603 (Z .Compiler_compile_block) (af 0) (ab (af 3) (ab (c2 pIx (af 1) (cK (.int 4))) (ab (c2 ay (af 2) (c2 pIx (af 1) (cK (.int 3)))) aj)))))
  (bS (af 3)))))
def mu(C:CC):Sx:=(aG (aK 7 (bP (C .compiled) (ab (af 6) aj)))
  (sIf (pV (xq (iK (cN eR (ab (af 7) (ab (cK (.ty "tuple")) aj))))) (pV (aJ (c2 pNe (af 7) (bP (C .l_due) (ab (af 6) aj)))) (aJ (c2 pNe (cN kf (ab (af 7) aj)) (cN kf (ab (bP (C .l_due) (ab (af 6) aj)) aj)))))) (bS (cK (.bl false))) cT))
def vP(C:CC)(D:DD):Sx:=
 (aG (aK 1 (cN eM (ab (cK (.int 0)) (ab (cK (.int 30)) aj))))
  (aG (aK 2 (bP (C .l_names) (ab (aM (D .l_cell) (ab (af 0) (ab (af 1) aj))) aj)))
  (aG (aK 3 (c2 pIx (aM (D .l_book) (ab (af 0) (ab (af 1) (ab (af 2) (ab (c2 pEq (c2 bV (bP (C .l_cell_at) (ab (af 0) (ab (cK (.int 0)) aj))) (cK (.int 4))) (cK (.int 3))) (ab (cK (.bl false)) aj)))))) (cK (.int 0))))
  (aG (aK 4 (c2 pIx (aM (D .l_book) (ab (af 0) (ab (af 1) (ab (af 2) (ab (cK (.bl false)) (ab (cK (.bl true)) aj)))))) (cK (.int 0))))
  (aG (aK 5 (cN kf (ab (cN br (ab (af 3) (ab (af 4) aj))) aj)))
  (aG (iN (gx (cN aS (ab (af 3) (ab (af 4) (ab (af 3) aj))))) (gNm 6) (mu C))
  (bS (c2 pEq (cN kf (ab (cN br (ab (af 3) (ab (af 4) aj))) aj)) (af 5)))))))))
def gF(C:CC):Ex:=(c2 pIx (af 1) (c2 bV (c2 ay (c2 ay (c2 db (af 2) (cK (.int 128))) (c2 iP (cK (.int 5)) (af 0))) (c2 iP (c2 iP (cK (.int 3)) (c2 db (af 3) (cK (.int 8)))) (c2 ke (cK (.int 1)) (c2 bV (af 2) (cK (.int 2)))))) (cK (.int 26))))
def eJ(C:CC):Sx:=(aG (aK 5 (cN nT (cS [1,0,4] (dT (ab (cK (.int 8)) aj)) bF (gF C))))
  (aG (sIf (aJ (c2 pEq (c2 bV (af 0) (cK (.int 2))) (cK (.int 1)))) (fR (af 5) (af 2) (c2 pIx (af 1) (c2 bV (c2 ay (c2 ay (c2 db (af 0) (cK (.int 128))) (c2 iP (cK (.int 7)) (af 4))) (cK (.int 1))) (cK (.int 26))))) cT)
  (cf (cM bM bH (af 3) (ab (cM sE lN (cK (.str [])) (ab (iI (af 5) fI (eS (c2 pIx (cN br (ab (c2 ay (cK (.int 1)) (c2 bV (af 4) (cK (.int 8)))) (ab (c2 ay (c2 ay (af 2) (cK (.int 1))) (c2 bV (c2 db (af 0) (cK (.int 16))) (c2 ke (cK (.int 8)) (af 2)))) aj))) (c2 bV (af 0) (cK (.int 2)))))) aj)) aj)))))
def hS(C:CC):Sx:=
 (aG (aK 1 (cK (.str dq)))
  (aG (aK 2 (c2 bV (c2 db (af 0) (cK (.int 2))) (cK (.int 8))))
  (aG (aK 3 (cN eM aj))
  (aG (iN (dT (ab (cK (.int 12)) aj)) (gNm 4) (eJ C))
  (aG (aK 6 (cN br (ab (cK (.str [97,115])) (ab (cK (.str [98,101,116,119,101,101,110])) (ab (cK (.str [98,111,100,121])) (ab (cK (.str [101,108,115,101])) (ab (cK (.str [101,110,100])) (ab (cK (.str [102,111,114])) (ab (cK (.str [105,102])) (ab (cK (.str [105,110])) (ab (cK (.str [112,105,101,99,101])) (ab (cK (.str [117,115,101])) (ab (cK (.str [119,105,116,104])) aj)))))))))))))
  (aG (sIf (aJ (c2 pLt (c1 iQ (c2 ay (af 3) (af 6))) (cK (.int 23)))) (bS (cN br (ab (cK (.str [97])) (ab (cK (.str [98])) (ab (cK (.str [97,98])) (ab (cK (.str [98,97])) (ab (cK (.str [105,116,101,109])) (ab (cK (.str [105,116,101,109,115])) (ab (cK (.str [99])) (ab (cK (.str [120])) (ab (cK (.str [120,121])) (ab (cK (.str [121])) (ab (cK (.str [114,111,119])) (ab (cK (.str [114,111,119,115])) aj)))))))))))))) cT)
  (bS (af 3))))))))
def hX(C:CC):Sx:=
 (aG (fR (af 1) (cK (.int 0)) (c2 ay (c2 pIx (af 1) (cK (.int 0))) (cK (.int 1))))
  (aG (aK 2 (c2 pIx (af 1) (cK (.int 0))))
  (aG (aK 3 (c2 ay (c2 iP (c2 iP (cK (.int 31)) (af 2)) (af 2)) (c2 iP (cK (.int 7919)) (af 2))))
  (aG (sIf (aJ (c2 pGt (cN bv (ab (af 0) aj)) (cK (.int 0)))) (aK 3 (c2 ay (af 3) (c2 iP (c2 pIx (af 0) (c2 bV (af 2) (cN bv (ab (af 0) aj)))) (c2 ay (cK (.int 1)) (c2 db (af 2) (cN bv (ab (af 0) aj))))))) cT)
  (bS (c2 db (c2 bV (c2 iP (af 3) (cK (.int 48271))) (cK (.int 2147483647))) (cK (.int 7))))))))
def iB(C:CC):Ex:=(c2 pIx (af 1) (c2 bV (c2 db (c2 db (af 2) (cK (.int 4))) (c2 pIx (cN br (ab (cK (.int 1)) (ab (cK (.int 9)) (ab (cK (.int 81)) (ab (cK (.int 729)) aj))))) (af 0))) (cK (.int 9))))
def iA(C:CC):Ex:=(c2 pIx (af 1) (c2 bV (c2 db (c2 db (af 2) (cK (.int 11))) (c2 pIx (cN br (ab (cK (.int 1)) (ab (cK (.int 9)) (ab (cK (.int 81)) aj)))) (af 0))) (cK (.int 9))))
def gq(C:CC):Ex:=(cN aS (ab (c2 pIx (af 1) (c2 bV (c2 ay (c2 db (af 3) (cK (.int 13))) (af 0)) (cK (.int 8)))) (ab (c2 pIx (af 2) (af 0)) aj)))
def jS(C:CC):Ex:=(c2 pIx (af 0) (cK (.int 0)))
def ga(C:CC)(D:DD):Sx:=(aG (aK 10 (aM (D .l_cell) (ab (af 0) (ab (af 1) aj))))
  (aG (aK 11 (cN okL (cS [6,10] (dT (ab (c2 bV (af 10) (cK (.int 5))) aj)) bF (iB C))))
  (aG (aK 12 (cN okL (cS [6,10] (dT (ab (c2 bV (c2 db (af 10) (cK (.int 7))) (cK (.int 4))) aj)) bF (iA C))))
  (aG (sIf (aJ (c2 pEq (af 9) (c2 bV (af 5) (cK (.int 4))))) (aK 11 (c2 ay (cN br (ab (c2 pIx (af 6) (cK (.int 7))) aj)) (iI (af 11) fI (eS (cK (.int 3)))))) cT)
  (aG (sIf (pV (aJ (c2 pEq (af 9) (c2 bV (af 5) (cK (.int 4))))) (aJ (c2 pEq (c2 bV (c2 db (af 10) (cK (.int 5))) (cK (.int 2))) (cK (.int 0))))) (aK 12 (cK .non)) cT)
  (aG (aK 13 (cN okL (cS [2,11,10] (dT (ab (cN bv (ab (af 11) aj)) aj)) bF (gq C))))
  (aG (aK 14 (lT [((cK (.str [115,99,111,112,101])),(af 13)),((cK (.str [112,105,101,99,101,115])),(af 8)),((cK (.str [104,97,110,100,101,100])),(af 12)),((cK (.str [110,97,109,101,115])),(af 2)),((cK (.str [116,105,100,121])),(af 3)),((cK (.str [111,100,100])),(af 4))]))
  (aG (aK 15 (aM (D .l_nodes) (ab (af 0) (ab (af 1) (ab (af 14) (ab (cK (.int 3)) aj))))))
  (aG (sIf (aJ (c2 kZ (af 12) (cK .non))) (aK 15 (c2 ay (c2 ay (af 15) (aM (D .l_body) (ab (af 0) (ab (af 1) (ab (af 14) aj))))) (cN br (ab (cN aS (ab (cK (.str [116,101,120,116])) (ab (cK (.str [60])) aj))) aj)))) cT)
  (aG (fR (af 1) (cK (.int 1)) (c2 ay (c2 pIx (af 1) (cK (.int 0))) (cK (.int 30))))
  (aG (aK 16 (Bc (aJ (c2 pIs (af 12) (cK .non))) (cK .non) (cN bv (ab (af 12) aj))))
  (aG (cf (cM bM bH (af 7) (ab (cN aS (ab (cK (.str [112,105,101,99,101])) (ab (c2 pIx (af 2) (c2 ay (cK (.int 8)) (af 9))) (ab (cN cF (ab (cN okL (cS [] (gx (af 13)) bF (jS C))) aj)) (ab (af 16) (ab (bP (C .l_one) (ab (af 15) aj)) aj)))))) aj)))
  (aK 8 (c2 ay (af 8) (cN br (ab (cN aS (ab (c2 pIx (af 2) (c2 ay (cK (.int 8)) (af 9))) (ab (af 11) (ab (af 12) aj)))) aj))))))))))))))))
def gn(C:CC):Ex:=(cN aS (ab (c2 pIx (af 0) (cK (.int 1))) (ab (c2 pIx (af 0) (cK (.int 4))) aj)))
def jy(C:CC):Tx:=(aJ (c2 pIn (c2 pIx (af 0) (cK (.int 0))) (cN aS (ab (cK (.str [116,101,120,116])) (ab (cK (.str [112,108,97,99,101])) aj)))))
def jR(C:CC):Ex:=(af 0)
def gw(C:CC)(D:DD):Sx:=
 (aG (aK 5 (aM (D .l_cell) (ab (af 0) (ab (af 1) aj))))
  (aG (aK 6 (bP (C .l_kinds) (ab (af 2) (ab (c2 db (af 5) (cK (.int 3))) aj))))
  (aG (aK 7 (cN eM aj))
  (aG (aK 8 (cN br aj))
  (aG (iN (dT (ab (c2 ay (cK (.int 1)) (c2 bV (af 5) (cK (.int 4)))) aj)) (gNm 9) (ga C D))
  (aG (aK 17 (cN eM (ab (cK (.int 400)) aj)))
  (aG (cf (cQ 7 (aM (D .l_come) (ab (c2 pIx (c2 pIx (af 7) (c1 jE (cK (.int 1)))) (cK (.int 4))) (ab (cFz (cN iR (ab (cN okL (cS [] (gx (af 7)) bF (gn C))) aj))) (ab (cN br aj) (ab (cK (.int 1)) (ab (af 17) aj))))))))
  (aG (sIf (aJ (c2 pLt (c2 pIx (af 17) (cK (.int 0))) (cK (.int 0)))) (fR (af 7) (c1 jE (cK (.int 1))) (c2 ay (iI (c2 pIx (af 7) (c1 jE (cK (.int 1)))) fI (eS (cK (.int 4)))) (cN aS (ab (bP (C .l_one) (ab (cN okL (cS [] (gx (c2 pIx (c2 pIx (af 7) (c1 jE (cK (.int 1)))) (cK (.int 4)))) (jy C) (jR C))) aj)) aj)))) cT)
  (bS (cN aS (ab (cN cF (ab (af 7) aj)) (ab (af 13) aj))))))))))))
def fU(C:CC)(Z:DD):Sx:=(cf (eF 603 (Z .Compiler_compile_block) (af 1) (ab (af 2) (ab (c2 pIx (af 3) (cK (.int 4))) (ab (c2 pIx (af 3) (cK (.int 2))) aj)))))
def iG(C:CC)(Z:DD):Sx:=
 (aG (aK 1 (Bb 603 (Z .Compiler___init__) (ab (af 0) aj)))
  (aG (iN (sU (ab (af 0) aj)) (gTp 2 (bR (gNm 2) (bR (gNm 3) gg))) (fU C Z))
  (bS (cN cF (ab (c1 (nL 603 1) (af 1)) aj)))))
def jg(C:CC)(D:DD):Sx:=(fR (af 1) (af 2) (cN cF (ab (c2 ay (aM (D .l_rows) (ab (af 0) (ab (af 1) (ab (cN lM (ab (c2 pIx (af 3) (cK (.int 2))) aj)) (ab (c2 pIx (af 3) (cK (.int 4))) aj))))) (cN br (ab (cN aS (ab (cK (.str [98,97,99,107])) aj)) aj))) aj)))
def mQ(C:CC)(D:DD):Sx:=
 (aG (aK 1 (c2 oV (cN br (ab (cN aS aj) aj)) (cN bv (ab (af 0) aj))))
  (aG (iN (sU (ab (af 0) aj)) (gTp 2 (bR (gNm 2) (bR (gNm 3) gg))) (jg C D))
  (bS (cN cF (ab (af 1) aj)))))
def fN(C:CC):Sx:=
 (aG (sIf (aJ (c2 pLt (af 1) (cN bv (ab (af 0) aj)))) (bS (c2 pIx (af 0) (af 1))) cT)
  (bS (cK (.int 0))))
def jq(C:CC):Sx:=
 (aG (aK 2 (c2 bV (af 1) (cK (.int 5))))
  (aG (aK 3 (cN aS (ab (cN aS (ab (c2 pIx (af 0) (af 2)) (ab (cN aS (ab (cK (.str [116])) aj)) aj))) (ab (cN aS (ab (c2 pIx (af 0) (c2 ay (af 2) (cK (.int 1)))) (ab (cN aS (ab (cK (.str [119])) aj)) aj))) (ab (cN aS (ab (c2 pIx (af 0) (c2 ay (af 2) (cK (.int 3)))) (ab (cN aS (ab (cK (.str [110])) aj)) aj))) (ab (cN aS (ab (c2 pIx (af 0) (c2 ay (af 2) (cK (.int 6)))) (ab (cN aS (ab (cK (.str [98])) aj)) aj))) aj))))))
  (aG (aK 4 (cN aS (ab (cK (.str [114])) (ab (af 3) aj))))
  (aG (aK 5 (cN aS (ab (cK (.str [114])) (ab (cN aS (ab (cN aS (ab (c2 pIx (af 0) (c2 ay (af 2) (cK (.int 2)))) (ab (cN aS (ab (cK (.str [108])) (ab (af 4) aj))) aj))) (ab (cN aS (ab (c2 pIx (af 0) (af 2)) (ab (cN aS (ab (cK (.str [108])) (ab (cN aS (ab (cK (.str [119])) aj)) aj))) aj))) (ab (cN aS (ab (c2 pIx (af 0) (c2 ay (af 2) (cK (.int 4)))) (ab (af 4) aj))) aj)))) aj))))
  (bS (cN br (ab (cN aS (ab (cK (.str [119])) aj)) (ab (cN aS (ab (cK (.str [116])) aj)) (ab (cN aS (ab (cK (.str [110])) aj)) (ab (cN aS (ab (cK (.str [98])) aj)) (ab (af 4) (ab (cN aS (ab (cK (.str [108])) (ab (cN aS (ab (cK (.str [119])) aj)) aj))) (ab (cN aS (ab (cK (.str [108])) (ab (af 4) aj))) (ab (af 5) (ab (cN aS (ab (cK (.str [108])) (ab (cN aS (ab (cK (.str [108])) (ab (cN aS (ab (cK (.str [110])) aj)) aj))) aj))) aj)))))))))))))))
def bU(C:CC)(D:DD):Sx:=(aG (fR (af 4) (cK (.int 0)) (c2 ke (c2 pIx (af 4) (cK (.int 0))) (cK (.int 1))))
  (sIf (pV (aJ (c2 pLt (c2 pIx (af 4) (cK (.int 0))) (cK (.int 0)))) (aJ (c2 pGt (af 3) (cK (.int 24))))) (fR (af 4) (cK (.int 0)) (c1 jE (cK (.int 1)))) (sIf (aJ (c2 pEq (c2 pIx (af 5) (cK (.int 0))) (cK (.str [108,111,111,112])))) (cf (aM (D .l_come) (ab (c2 pIx (af 5) (cK (.int 3))) (ab (af 1) (ab (af 2) (ab (c2 ay (af 3) (cK (.int 1))) (ab (af 4) aj))))))) (sIf (aJ (c2 pEq (c2 pIx (af 5) (cK (.int 0))) (cK (.str [99,104,111,105,99,101])))) (cf (aM (D .l_come) (ab (c2 ay (c2 pIx (af 5) (cK (.int 2))) (c2 pIx (af 5) (cK (.int 3)))) (ab (af 1) (ab (af 2) (ab (c2 ay (af 3) (cK (.int 1))) (ab (af 4) aj))))))) (sIf (aJ (c2 pEq (c2 pIx (af 5) (cK (.int 0))) (cK (.str [117,115,101])))) (cf (aM (D .l_come) (ab (c2 pIx (af 1) (c2 pIx (af 5) (cK (.int 1)))) (ab (af 1) (ab (c2 ay (af 2) (cN br (ab (c2 pIx (af 5) (cK (.int 4))) aj))) (ab (c2 ay (af 3) (cK (.int 1))) (ab (af 4) aj))))))) (sIf (aJ (c2 pEq (c2 pIx (af 5) (cK (.int 0))) (cK (.str [98,111,100,121])))) (cf (aM (D .l_come) (ab (c2 pIx (af 2) (c1 jE (cK (.int 1)))) (ab (af 1) (ab (iI (af 2) fI (eS (c1 jE (cK (.int 1))))) (ab (c2 ay (af 3) (cK (.int 1))) (ab (af 4) aj))))))) cT))))))
def sS(C:CC)(D:DD):Sx:=
 (iN (gx (af 0)) (gNm 5) (bU C D))
def eI(C:CC)(D:DD):Sx:=(aG (aK 6 (c2 bV (c2 db (aM (D .l_cell) (ab (af 0) (ab (af 1) aj))) (cK (.int 3))) (cK (.int 9))))
  (aG (sIf (pV (aJ (c2 pGt (c2 pIx (af 1) (cK (.int 0))) (c2 pIx (af 1) (cK (.int 1))))) (aJ (c2 pLt (af 3) (cK (.int 1))))) (aK 6 (c2 bV (af 6) (cK (.int 3)))) cT)
  (sIf (aJ (c2 pEq (af 6) (cK (.int 0)))) (cf (cM bM bH (af 4) (ab (cN aS (ab (cK (.str [116,101,120,116])) (ab (aM (D .l_text) (ab (af 0) (ab (af 1) aj))) aj))) aj))) (sIf (aJ (c2 pLt (af 6) (cK (.int 3)))) (cf (cM bM cG (af 4) (ab (aM (D .l_place) (ab (af 0) (ab (af 1) (ab (af 2) aj)))) aj))) (sIf (aJ (c2 pEq (af 6) (cK (.int 8)))) (cf (cM bM cG (af 4) (ab (aM (D .l_body) (ab (af 0) (ab (af 1) (ab (af 2) aj)))) aj))) (sIf (aJ (c2 pEq (af 6) (cK (.int 5)))) (cf (cM bM cG (af 4) (ab (aM (D .l_choice) (ab (af 0) (ab (af 1) (ab (af 2) (ab (af 3) aj))))) aj))) (sIf (aJ (c2 pLt (af 6) (cK (.int 5)))) (cf (cM bM cG (af 4) (ab (aM (D .l_loop) (ab (af 0) (ab (af 1) (ab (af 2) (ab (af 3) aj))))) aj))) (cf (cM bM cG (af 4) (ab (aM (D .l_use) (ab (af 0) (ab (af 1) (ab (af 2) (ab (af 3) aj))))) aj))))))))))
def jp(C:CC)(D:DD):Sx:=
 (aG (aK 4 (cN eM aj))
  (aG (iN (dT (ab (c2 ay (cK (.int 1)) (c2 bV (c2 db (aM (D .l_cell) (ab (af 0) (ab (af 1) aj))) (cK (.int 5))) (cK (.int 3)))) aj)) (gNm 5) (eI C D))
  (bS (af 4))))
def eH(C:CC):Sx:=(sIf (oK (aJ (c2 pEq (c2 pIx (af 2) (cK (.int 0))) (cK (.str [116,101,120,116])))) (oK (aJ (c2 pNe (af 1) (cN br aj))) (aJ (c2 pEq (c2 pIx (c2 pIx (af 1) (c1 jE (cK (.int 1)))) (cK (.int 0))) (cK (.str [116,101,120,116])))))) (fR (af 1) (c1 jE (cK (.int 1))) (cN aS (ab (cK (.str [116,101,120,116])) (ab (c2 ay (c2 pIx (c2 pIx (af 1) (c1 jE (cK (.int 1)))) (cK (.int 1))) (c2 pIx (af 2) (cK (.int 1)))) aj)))) (cf (cM bM bH (af 1) (ab (af 2) aj))))
def mP(C:CC):Sx:=
 (aG (aK 1 (cN eM aj))
  (aG (iN (gx (af 0)) (gNm 2) (eH C))
  (bS (cN cF (ab (af 1) aj)))))
def kF(C:CC)(D:DD):Sx:=
 (aG (aK 3 (cK .non))
  (aG (sIf (aJ (c2 kZ (c2 pIx (af 2) (cK (.str [104,97,110,100,101,100]))) (cK .non))) (aK 3 (aM (D .l_handed) (ab (af 0) (ab (af 1) (ab (c2 pIx (af 2) (cK (.str [115,99,111,112,101]))) (ab (c2 pIx (af 2) (cK (.str [104,97,110,100,101,100]))) aj)))))) cT)
  (aG (sIf (aJ (c2 pIs (af 3) (cK .non))) (bS (aM (D .l_place) (ab (af 0) (ab (af 1) (ab (af 2) aj))))) cT)
  (bS (cN br (ab (cN aS (ab (cK (.str [98,111,100,121])) (ab (af 3) aj))) aj))))))
def fZ(C:CC):Sx:=(aK 4 (c2 lO (af 4) (bP (C .l_path) (ab (af 2) (ab (af 6) aj)))))
def fm(C:CC)(D:DD):Ex:=(aM (D .l_rows) (ab (af 1) (ab (af 2) (ab (af 3) (ab (af 0) aj)))))
def gj(C:CC):Ex:=(c2 pIx (af 0) (cK (.int 1)))
def fY(C:CC)(D:DD):Sx:=(aG (iN (gx (bP (C .l_paths_of) (ab (af 5) aj))) (gNm 6) (fZ C))
  (sIf (aJ (c2 pEq (c2 pIx (af 5) (cK (.int 0))) (cK (.str [116,101,120,116])))) (cf (cM bM bH (af 4) (ab (cN aS (ab (cK (.str [119,114,105,116,101])) (ab (c2 pIx (af 5) (cK (.int 1))) aj))) aj))) (sIf (aJ (c2 pEq (c2 pIx (af 5) (cK (.int 0))) (cK (.str [112,108,97,99,101])))) (cf (cM bM bH (af 4) (ab (cN aS (ab (cK (.str [112,117,116])) (ab (c2 pIx (af 5) (cK (.int 2))) aj))) aj))) (sIf (aJ (c2 pEq (c2 pIx (af 5) (cK (.int 0))) (cK (.str [98,111,100,121])))) (cf (cM bM bH (af 4) (ab (cN aS (ab (cK (.str [98,111,100,121])) (ab (cN bv (ab (c2 pIx (af 5) (cK (.int 1))) aj)) aj))) aj))) (sIf (aJ (c2 pEq (c2 pIx (af 5) (cK (.int 0))) (cK (.str [108,111,111,112])))) (aG (aK 7 (aM (D .l_rows) (ab (af 0) (ab (af 1) (ab (c2 ay (af 2) (cN br (ab (c2 pIx (af 5) (cK (.int 1))) aj))) (ab (c2 pIx (af 5) (cK (.int 3))) aj))))))
  (aG (aK 8 (cN br (ab (cN aS (ab (cK (.str [119,97,108,107])) aj)) (ab (cN aS (ab (cK (.str [114,111,117,110,100])) (ab (cN bv (ab (af 2) aj)) (ab (c2 ay (cN bv (ab (af 7) aj)) (cK (.int 1))) (ab (c2 pIx (af 5) (cK (.int 4))) aj))))) aj))))
  (aK 4 (c2 lO (c2 ay (c2 ay (af 4) (af 8)) (af 7)) (cN br (ab (cN aS (ab (cK (.str [97,103,97,105,110])) (ab (c2 ay (cN bv (ab (af 7) aj)) (cK (.int 1))) aj))) aj)))))) (sIf (aJ (c2 pEq (c2 pIx (af 5) (cK (.int 0))) (cK (.str [99,104,111,105,99,101])))) (aG (aK 9 (cN okL (cS [0,1,2] (gx (iI (af 5) (eS (cK (.int 2))) fI)) bF (fm C D))))
  (aG (aK 10 (c2 iP (cN br (ab (cN aS (ab (cK (.str [115,107,105,112])) (ab (cN bv (ab (c2 pIx (af 9) (cK (.int 1))) aj)) aj))) aj)) (cN qw (ab (c2 pNe (c2 pIx (af 5) (cK (.int 3))) (cN aS aj)) aj))))
  (aK 4 (c2 lO (c2 ay (c2 ay (c2 ay (af 4) (cN br (ab (cN aS (ab (cK (.str [117,110,108,101,115,115])) (ab (cN bv (ab (c2 ay (c2 pIx (af 9) (cK (.int 0))) (af 10)) aj)) aj))) aj))) (c2 pIx (af 9) (cK (.int 0)))) (af 10)) (c2 pIx (af 9) (cK (.int 1))))))) (aG (aK 11 (cM bM mC (cN okL (cS [] (gx (af 0)) bF (gj C))) (ab (c2 pIx (af 5) (cK (.int 1))) aj)))
  (aG (aK 12 (cK .non))
  (aG (sIf (aJ (c2 kZ (c2 pIx (af 5) (cK (.int 4))) (cK .non))) (aG (aK 12 (cN bv (ab (af 1) aj)))
  (aG (cf (cM bM bH (af 1) (ab (cN aS aj) aj)))
  (fR (af 1) (af 12) (cN cF (ab (c2 ay (aM (D .l_rows) (ab (af 0) (ab (af 1) (ab (c2 ay (af 2) (cN lM (ab (c2 pIx (af 5) (cK (.int 3))) aj))) (ab (c2 pIx (af 5) (cK (.int 4))) aj))))) (cN br (ab (cN aS (ab (cK (.str [98,97,99,107])) aj)) aj))) aj))))) cT)
  (cf (cM bM bH (af 4) (ab (cN aS (ab (cK (.str [117,115,101])) (ab (af 11) (ab (cN bv (ab (c2 pIx (af 5) (cK (.int 2))) aj)) (ab (af 12) (ab (cN bv (ab (af 2) aj)) aj)))))) aj))))))))))))
def kA(C:CC)(D:DD):Sx:=
 (aG (aK 4 (cN eM aj))
  (aG (iN (gx (af 3)) (gNm 5) (fY C D))
  (bS (af 4))))
def jN(C:CC):Ex:=(c2 pIx (bP (C .l_signs) aj) (c2 bV (c2 ay (c2 db (af 1) (cK (.int 3))) (c2 iP (af 0) (c2 ay (cK (.int 1)) (c2 bV (c2 db (af 1) (cK (.int 300))) (cK (.int 94)))))) (cK (.int 95))))
def ky(C:CC)(D:DD):Sx:=
 (aG (aK 2 (aM (D .l_cell) (ab (af 0) (ab (af 1) aj))))
  (bS (cM sE lN (cK (.str [])) (ab (cN okL (cS [2] (dT (ab (c2 ay (cK (.int 1)) (c2 bV (af 2) (cK (.int 3)))) aj)) bF (jN C))) aj))))
def gB(C:CC):Tx:=(aJ (c2 pIn (c2 pIx (c2 pIx (af 0) (cK (.int 1))) (cK (.int 0))) (cN aS (ab (cK (.str [119])) (ab (cK (.str [116])) (ab (cK (.str [110])) aj))))))
def ja(C:CC):Ex:=(af 0)
def fX(C:CC)(D:DD):Sx:=
 (aG (aK 3 (cN okL (cS [] (gx (bP (C .l_paths) (ab (c2 pIx (af 2) (cK (.str [115,99,111,112,101]))) aj))) (gB C) (ja C))))
  (aG (aK 4 (aM (D .l_cell) (ab (af 0) (ab (af 1) aj))))
  (aG (sIf (aJ (c2 pEq (af 3) (cN br aj))) (bS (cN br (ab (cN aS (ab (cK (.str [116,101,120,116])) (ab (aM (D .l_text) (ab (af 0) (ab (af 1) aj))) aj))) aj))) cT)
  (aG (wf (gTp 2 (bR (gNm 5) (bR (gNm 6) gg))) (c2 pIx (af 3) (c2 bV (af 4) (cN bv (ab (af 3) aj)))))
  (aG (aK 7 (c2 pIx (lT [((cK (.str [110])),(cN br (ab (cK (.str [110,117,109,98,101,114])) aj))),((cK (.str [119])),(cN br (ab (cK (.str [119,111,114,100])) (ab (cK (.str [112,108,97,105,110])) (ab (cK (.str [113,117,111,116,101,100])) (ab (cK (.str [108,105,110,101])) aj)))))),((cK (.str [116])),(cN br (ab (cK (.str [112,108,97,105,110])) (ab (cK (.str [113,117,111,116,101,100])) (ab (cK (.str [108,105,110,101])) aj)))))]) (c2 pIx (af 6) (cK (.int 0)))))
  (aG (sIf (oK (iK (c2 pIx (af 2) (cK (.str [111,100,100])))) (aJ (c2 pEq (c2 bV (c2 db (af 4) (cK (.int 512))) (cK (.int 9))) (cK (.int 1))))) (aK 7 (cN br (ab (cK (.str [119,111,114,100])) (ab (cK (.str [110,117,109,98,101,114])) (ab (cK (.str [113,117,111,116,101,100])) (ab (cK (.str [112,108,97,105,110])) (ab (cK (.str [108,105,110,101])) aj))))))) cT)
  (aG (aK 8 (c2 pIx (af 7) (c2 bV (c2 db (af 4) (cK (.int 64))) (cN bv (ab (af 7) aj)))))
  (aG (sIf (pV (iK (c2 pIx (af 2) (cK (.str [116,105,100,121])))) (aJ (c2 pEq (c2 bV (c2 db (af 4) (cK (.int 512))) (cK (.int 3))) (cK (.int 1))))) (aG (aK 9 (cM yV Aq (lT [((cK (.str [112,108,97,105,110])),(cK (.str [10,38,60,62,124]))),((cK (.str [108,105,110,101])),(cK (.str [10])))]) (ab (af 8) (ab (cK (.str [32,46,59,60,10])) aj))))
  (bS (cN br (ab (cN aS (ab (cK (.str [112,108,97,99,101])) (ab (af 5) (ab (af 8) aj)))) (ab (cN aS (ab (cK (.str [116,101,120,116])) (ab (c2 ay (c2 pIx (af 9) (c2 bV (c2 db (af 4) (cK (.int 4096))) (cN bv (ab (af 9) aj)))) (aM (D .l_text) (ab (af 0) (ab (af 1) aj)))) aj))) aj))))) cT)
  (bS (cN br (ab (cN aS (ab (cK (.str [112,108,97,99,101])) (ab (af 5) (ab (af 8) aj)))) aj)))))))))))
def iz(C:CC):Ex:=(cN aS (ab (cK (.str [116,101,120,116])) (ab (c2 pIx (bP (C .l_signs) aj) (c2 bV (c2 ay (c2 db (af 1) (cK (.int 64))) (af 0)) (cK (.int 95)))) aj)))
def fW(C:CC)(D:DD):Ex:=(aM (D .l_nodes) (ab (af 1) (ab (af 2) (ab (af 3) (ab (c2 ke (af 4) (cK (.int 1))) aj)))))
def iF(C:CC)(D:DD):Sx:=
 (aG (aK 4 (aM (D .l_handed) (ab (af 0) (ab (af 1) (ab (c2 pIx (af 2) (cK (.str [115,99,111,112,101]))) (ab (cN br (ab (cN aS (ab (cK (.str [98])) aj)) aj)) aj))))))
  (aG (aK 5 (aM (D .l_cell) (ab (af 0) (ab (af 1) aj))))
  (aG (sIf (aJ (c2 pIs (af 4) (cK .non))) (bS (aM (D .l_loop) (ab (af 0) (ab (af 1) (ab (af 2) (ab (af 3) aj)))))) cT)
  (aG (aK 6 (cN okL (cS [5] (dT (ab (cK (.int 3)) aj)) bF (iz C))))
  (aG (aK 7 (c2 ay (cN okL (cS [0,1,2,3] (dT (ab (c2 ke (cK (.int 2)) (cN qw (ab (c2 pEq (c2 bV (af 5) (cK (.int 3))) (cK (.int 1))) aj))) aj)) bF (fW C D))) (cN br (ab (cN br aj) aj))))
  (aG (sIf (iK (c2 pIx (af 2) (cK (.str [116,105,100,121])))) (aK 7 (cN br (ab (c2 ay (iI (af 6) fI (eS (cK (.int 1)))) (c2 pIx (af 7) (cK (.int 0)))) (ab (c2 ay (iI (af 6) (eS (cK (.int 1))) (eS (c2 iP (cK (.int 2)) (cN bv (ab (iI (c2 pIx (af 7) (cK (.int 1))) fI (eS (cK (.int 1)))) aj))))) (c2 pIx (af 7) (cK (.int 1)))) aj)))) cT)
  (aG (aK 8 (cN aS (ab (cK (.str [99,104,111,105,99,101])) (ab (c2 pIx (af 4) (cK (.int 0))) (ab (bP (C .l_one) (ab (c2 pIx (af 7) (cK (.int 0))) aj)) (ab (bP (C .l_one) (ab (c2 pIx (af 7) (cK (.int 1))) aj)) aj))))))
  (bS (iI (cN br (ab (af 8) (ab (c2 pIx (af 6) (cK (.int 2))) aj))) fI (eS (c2 ay (cK (.int 1)) (cN qw (ab (cOr (c2 pIx (af 2) (cK (.str [116,105,100,121]))) (c2 pEq (c2 bV (c2 db (af 5) (cK (.int 5))) (cK (.int 2))) (cK (.int 1)))) aj)))))))))))))
def ia(C:CC):Tx:=(aJ (c2 pEq (c2 pIx (c2 pIx (af 0) (cK (.int 1))) (cK (.int 0))) (cK (.str [108]))))
def jQ(C:CC):Ex:=(af 0)
def kD(C:CC)(D:DD):Sx:=
 (aG (aK 4 (cN okL (cS [] (gx (bP (C .l_paths) (ab (c2 pIx (af 2) (cK (.str [115,99,111,112,101]))) aj))) (ia C) (jQ C))))
  (aG (aK 5 (aM (D .l_cell) (ab (af 0) (ab (af 1) aj))))
  (aG (sIf (aJ (c2 pEq (af 4) (cN br aj))) (bS (aM (D .l_place) (ab (af 0) (ab (af 1) (ab (af 2) aj))))) cT)
  (aG (wf (gTp 2 (bR (gNm 6) (bR (gNm 7) gg))) (c2 pIx (af 4) (c2 bV (af 5) (cN bv (ab (af 4) aj)))))
  (aG (aK 8 (c2 pIx (c2 pIx (af 2) (cK (.str [110,97,109,101,115]))) (c2 bV (c2 db (af 5) (cK (.int 64))) (cK (.int 12)))))
  (aG (aK 9 (aM (D .l_nodes) (ab (af 0) (ab (af 1) (ab (bP (C .l_in) (ab (af 2) (ab (cN br (ab (cN aS (ab (af 8) (ab (c2 pIx (af 7) (cK (.int 1))) aj))) aj)) aj))) (ab (c2 ke (af 3) (cK (.int 1))) aj))))))
  (aG (aK 10 (c2 pIx (bP (C .l_signs) aj) (c2 bV (c2 db (af 5) (cK (.int 768))) (cK (.int 95)))))
  (aG (aK 11 (c2 pIx (bP (C .l_signs) aj) (c2 bV (c2 ay (c2 ay (c2 db (af 5) (cK (.int 768))) (cK (.int 1))) (c2 bV (c2 db (af 5) (cK (.int 72960))) (cK (.int 94)))) (cK (.int 95)))))
  (aG (sIf (iK (c2 pIx (af 2) (cK (.str [116,105,100,121])))) (aK 9 (c2 ay (cN br (ab (cN aS (ab (cK (.str [116,101,120,116])) (ab (af 10) aj))) aj)) (af 9))) cT)
  (aG (aK 12 (cN aS (ab (cK (.str [108,111,111,112])) (ab (af 8) (ab (af 6) (ab (bP (C .l_one) (ab (af 9) aj)) (ab (c2 pIx (cN br (ab (cK (.str [])) (ab (cK (.str [])) (ab (c2 ay (af 10) (cK (.str [44,32]))) (ab (af 10) aj))))) (c2 bV (c2 db (af 5) (cK (.int 7))) (cK (.int 4)))) aj)))))))
  (bS (iI (cN br (ab (af 12) (ab (cN aS (ab (cK (.str [116,101,120,116])) (ab (af 11) aj))) aj))) fI (eS (c2 ay (cK (.int 1)) (cN qw (ab (cOr (c2 pIx (af 2) (cK (.str [116,105,100,121]))) (c2 pEq (c2 bV (c2 db (af 5) (cK (.int 5))) (cK (.int 2))) (cK (.int 1)))) aj))))))))))))))))
def mO(C:CC)(D:DD):Sx:=
 (aG (aK 4 (aM (D .l_cell) (ab (af 0) (ab (af 1) aj))))
  (aG (aK 5 (cK .non))
  (aG (sIf (aJ (c2 pNe (c2 pIx (af 2) (cK (.str [112,105,101,99,101,115]))) (cN br aj))) (aG (wf (gTp 3 (bR (gNm 6) (bR (gNm 7) (bR (gNm 8) gg)))) (c2 pIx (c2 pIx (af 2) (cK (.str [112,105,101,99,101,115]))) (c2 bV (af 4) (cN bv (ab (c2 pIx (af 2) (cK (.str [112,105,101,99,101,115]))) aj)))))
  (aK 5 (aM (D .l_handed) (ab (af 0) (ab (af 1) (ab (c2 pIx (af 2) (cK (.str [115,99,111,112,101]))) (ab (af 7) aj))))))) cT)
  (aG (sIf (aJ (c2 pIs (af 5) (cK .non))) (bS (aM (D .l_loop) (ab (af 0) (ab (af 1) (ab (af 2) (ab (af 3) aj)))))) cT)
  (aG (sIf (aJ (c2 pIs (af 8) (cK .non))) (bS (cN br (ab (cN aS (ab (cK (.str [117,115,101])) (ab (af 6) (ab (af 5) (ab (cK .non) (ab (cK .non) aj)))))) aj))) cT)
  (aG (aK 9 (cN cF (ab (iI (iI (c2 pIx (af 2) (cK (.str [110,97,109,101,115]))) (eS (c2 bV (c2 db (af 4) (cK (.int 64))) (cK (.int 9)))) fI) fI (eS (cN bv (ab (af 8) aj)))) aj)))
  (aG (aK 10 (bP (C .l_in) (ab (af 2) (ab (cN nJ (ab (af 9) (ab (af 8) aj))) aj))))
  (aG (aK 11 (aM (D .l_nodes) (ab (af 0) (ab (af 1) (ab (af 10) (ab (cN yn (ab (c2 ke (af 3) (cK (.int 1))) (ab (c2 ay (cK (.int 1)) (c2 bV (c2 db (af 4) (cK (.int 576))) (cK (.int 2)))) aj))) aj))))))
  (aG (sIf (aJ (c2 pEq (c2 bV (c2 db (af 4) (cK (.int 1152))) (cK (.int 2))) (cK (.int 1)))) (aK 11 (c2 ay (af 11) (aM (D .l_body) (ab (af 0) (ab (af 1) (ab (af 10) aj)))))) cT)
  (aG (sIf (aJ (c2 pEq (c2 bV (c2 db (af 4) (cK (.int 2304))) (cK (.int 8))) (cK (.int 1)))) (aK 11 (cN br aj)) cT)
  (bS (cN br (ab (cN aS (ab (cK (.str [117,115,101])) (ab (af 6) (ab (af 5) (ab (af 9) (ab (bP (C .l_one) (ab (af 11) aj)) aj)))))) aj)))))))))))))
def ib(C:CC):Tx:=(aJ (c2 pEq (af 1) (af 2)))
def iw(C:CC):Ex:=(af 0)
def cy(C:CC)(D:DD):Sx:=(aG (aK 6 (cN okL (fw [5] (gx (bP (C .l_paths) (ab (af 2) aj))) (ib C) (iw C))))
  (aG (sIf (aJ (c2 pEq (af 6) (cN br aj))) (bS (cK .non)) cT)
  (cf (cM bM bH (af 4) (ab (c2 pIx (af 6) (c2 bV (aM (D .l_cell) (ab (af 0) (ab (af 1) aj))) (cN bv (ab (af 6) aj)))) aj)))))
def gv(C:CC)(D:DD):Sx:=
 (aG (aK 4 (cN eM aj))
  (aG (iN (gx (af 3)) (gNm 5) (cy C D))
  (bS (cN cF (ab (af 4) aj)))))
def bY(C:CC):Sx:=
 (aG (sIf (aJ (c2 pEq (c2 pIx (af 0) (cK (.int 0))) (cK (.str [116,101,120,116])))) (bS (cN br aj)) cT)
  (aG (sIf (aJ (c2 pIn (c2 pIx (af 0) (cK (.int 0))) (cN aS (ab (cK (.str [117,115,101])) (ab (cK (.str [98,111,100,121])) aj))))) (bS (cN lM (ab (c2 pIx (af 0) (c2 ke (cK (.int 2)) (cN qw (ab (c2 pEq (c2 pIx (af 0) (cK (.int 0))) (cK (.str [98,111,100,121]))) aj)))) aj))) cT)
  (bS (cN br (ab (c2 pIx (af 0) (c2 ay (cK (.int 1)) (cN qw (ab (c2 pEq (c2 pIx (af 0) (cK (.int 0))) (cK (.str [108,111,111,112]))) aj)))) aj)))))
def jx(C:CC):Tx:=(aJ (c2 pEq (c2 pIx (af 1) (af 0)) (c2 pIx (af 2) (cK (.int 0)))))
def jP(C:CC):Ex:=(af 0)
def jO(C:CC):Ex:=(cN aS (ab (cK (.str [102,105,101,108,100])) (ab (af 0) aj)))
def kB(C:CC):Sx:=
 (aG (aK 2 (cN uR (ab (cN okL (cS [0,1] (dT (ab (cN bv (ab (af 0) aj)) aj)) (jx C) (jP C))) aj)))
  (bS (c2 ay (cN br (ab (cN aS (ab (cK (.str [108,111,97,100])) (ab (af 2) aj))) aj)) (cN okL (cS [] (gx (iI (af 1) (eS (cK (.int 1))) fI)) bF (jO C))))))
def jm(C:CC):Sx:=
 (aG (aK 0 (cK (.str ka)))
  (bS (c2 ay (af 0) (cK (.str jZ)))))
def jc(C:CC):Ex:=(cN aS (ab (cN aS (ab (af 0) aj)) (ab (af 1) aj)))
def jb(C:CC):Ex:=(cN aS (ab (c2 ay (af 2) (cN aS (ab (af 0) aj))) (ab (af 1) aj)))
def dD(C:CC):Sx:=(aG (wf (gTp 2 (bR (gNm 3) (bR (gNm 4) gg))) (c2 pIx (af 1) (af 2)))
  (aG (aK 2 (c2 ay (af 2) (cK (.int 1))))
  (sIf (oK (aJ (c2 pEq (c2 pIx (af 4) (cK (.int 0))) (cK (.str [114])))) (aJ (c2 pLt (cN bv (ab (af 3) aj)) (cK (.int 4))))) (cf (cM bM cG (af 1) (ab (cN okL (fw [3] (gx (c2 pIx (af 4) (cK (.int 1)))) bF (jb C))) aj))) cT)))
def jo(C:CC):Sx:=
 (aG (aK 1 (cN nT (fw [] (ut (cFz (cN iR (ab (af 0) aj)))) bF (jc C))))
  (aG (aK 2 (cK (.int 0)))
  (aG (ew (aJ (c2 pLt (af 2) (cN bv (ab (af 1) aj)))) (dD C))
  (bS (af 1)))))
def rh(C:CC):Sx:=
 (aG (aK 2 (cN nM (ab (af 0) aj)))
  (aG (uH (af 2) (cK (.str [115,99,111,112,101])) (c2 ay (c2 pIx (af 0) (cK (.str [115,99,111,112,101]))) (af 1)))
  (bS (cFz (af 2)))))
def dA(C:CC):Sx:=(cf (cM bM cG (af 2) (ab (bP (C .rows_of_path) (ab (af 3) (ab (af 1) aj))) aj)))
def eh(C:CC):Sx:=
 (aG (aK 2 (cN eM aj))
  (aG (iN (gx (af 0)) (gNm 3) (dA C))
  (bS (af 2))))
def fj(C:CC):Ex:=(cN aS (ab (cK (.str [102,105,101,108,100])) (ab (af 0) aj)))
def eU(C:CC):Sx:=
 (bS (c2 ay (cN br (ab (cN aS (ab (cK (.str [108,111,97,100])) (ab (bP (C .inmost_slot) (ab (c2 pIx (af 0) (cK (.int 0))) (ab (af 1) aj))) aj))) aj)) (cN okL (cS [] (gx (iI (af 0) (eS (cK (.int 1))) fI)) bF (fj C)))))
def fP(C:CC):Sx:=(aK 2 (c2 ke (af 2) (cK (.int 1))))
def fC(C:CC):Sx:=
 (aG (aK 2 (c2 ke (cN bv (ab (af 1) aj)) (cK (.int 1))))
  (aG (ew (aJ (c2 pNe (c2 pIx (af 1) (af 2)) (af 0))) (fP C))
  (bS (af 2))))
def FL:Nat→CC×DD×DD
 | 0=>(fun _ _=>.bad,fun _ _ _=>.bad,fun _ _ _=>.bad)
 | k+1=>(fun f ps=>match f with
  | .law=>gK (vP (FL k).1 (FL k).2.1) 1 8 ps
  | .l_names=>gK (hS (FL k).1) 1 7 ps
  | .compiled=>gK (iG (FL k).1 (FL k).2.2) 1 4 ps
  | .l_due=>gK (mQ (FL k).1 (FL k).2.1) 1 4 ps
  | .l_cell_at=>gK (fN (FL k).1) 2 2 ps
  | .l_kinds=>gK (jq (FL k).1) 2 6 ps
  | .l_one=>gK (mP (FL k).1) 1 3 ps
  | .l_paths_of=>gK (bY (FL k).1) 1 1 ps
  | .l_path=>gK (kB (FL k).1) 2 3 ps
  | .l_signs=>gK (jm (FL k).1) 0 1 ps
  | .l_paths=>gK (jo (FL k).1) 1 5 ps
  | .l_in=>gK (rh (FL k).1) 2 3 ps
  | .rows_of_paths=>gK (eh (FL k).1) 2 4 ps
  | .rows_of_path=>gK (eU (FL k).1) 2 2 ps
  | .inmost_slot=>gK (fC (FL k).1) 2 3 ps
  | _=>.bad,fun f ps h=>match f with
  | .l_cell=>gJ (hX (FL k).1) 2 4 ps h
  | .l_book=>gJ (gw (FL k).1 (FL k).2.1) 5 18 ps h
  | .l_come=>gJ (sS (FL k).1 (FL k).2.1) 5 6 ps h
  | .l_nodes=>gJ (jp (FL k).1 (FL k).2.1) 4 7 ps h
  | .l_body=>gJ (kF (FL k).1 (FL k).2.1) 3 4 ps h
  | .l_rows=>gJ (kA (FL k).1 (FL k).2.1) 4 13 ps h
  | .l_text=>gJ (ky (FL k).1 (FL k).2.1) 2 3 ps h
  | .l_place=>gJ (fX (FL k).1 (FL k).2.1) 3 10 ps h
  | .l_choice=>gJ (iF (FL k).1 (FL k).2.1) 4 9 ps h
  | .l_loop=>gJ (kD (FL k).1 (FL k).2.1) 4 13 ps h
  | .l_use=>gJ (mO (FL k).1 (FL k).2.1) 4 12 ps h
  | .l_handed=>gJ (gv (FL k).1 (FL k).2.1) 4 7 ps h
  | _=>.bad,fun f ps h=>match f with
  | .Compiler___init__=>xB (cw (FL k).1) 2 4 ps h
  | .Compiler_compile_block=>mZ (bE (FL k).1 (FL k).2.2) 4 4 ps h
  | .Compiler_rows_of=>mZ (cI (FL k).1 (FL k).2.2) 3 5 ps h
  | .Compiler_rows_of_node=>mZ (aI (FL k).1 (FL k).2.2) 3 4 ps h
  | .Compiler_rows_of_loop=>mZ (bJ (FL k).1 (FL k).2.2) 3 6 ps h
  | .Compiler_rows_of_choice=>mZ (bj (FL k).1 (FL k).2.2) 3 5 ps h
  | .Compiler_rows_of_use=>mZ (aV (FL k).1 (FL k).2.2) 3 5 ps h
  | .Compiler_number_of_body=>mZ (bz (FL k).1 (FL k).2.2) 3 4 ps h
  | _=>.bad)
abbrev X_(k:Nat):DD:=(FL k).2.2
abbrev F(k:Nat):CC:=(FL k).1
abbrev L(k:Nat):DD:=(FL k).2.1
set_option genInjectivity false in
set_option genSizeOf false in
structure Sys(G:SC) where
 adr:Fn→Addr
 fd:Fn→FuncData
 kls:Nat→Addr
 ok:∀ f,Fun G.K (nS f) (tG f) (oE f) (adr f) (fd f)
 bi:∀ f,jf G.K (fd f) (jC f) []
 m:∀ f,AN f=true→G.mg (nS f)=some (.ref (adr f))
 n:∀ i,G.mg (Cy i)=none
 tb_Compiler:G.T 603=some (kls 603)
 mc_Compiler:G.mg "Compiler"=some (.ref (kls 603))
 cl_Compiler:Cls G.K (kls 603)
 na_Compiler:∀ f∈fnm 603,rn G.K (kls 603) f
 mo_Compiler:Mk G.K (kls 603) (adr .Compiler___init__)
 me_Compiler_compile_block:iJ G.K (kls 603) "compile_block" (adr .Compiler_compile_block)
 me_Compiler_rows_of:iJ G.K (kls 603) "rows_of" (adr .Compiler_rows_of)
 me_Compiler_rows_of_node:iJ G.K (kls 603) "rows_of_node" (adr .Compiler_rows_of_node)
 me_Compiler_rows_of_loop:iJ G.K (kls 603) "rows_of_loop" (adr .Compiler_rows_of_loop)
 me_Compiler_rows_of_choice:iJ G.K (kls 603) "rows_of_choice" (adr .Compiler_rows_of_choice)
 me_Compiler_rows_of_use:iJ G.K (kls 603) "rows_of_use" (adr .Compiler_rows_of_use)
 me_Compiler_number_of_body:iJ G.K (kls 603) "number_of_body" (adr .Compiler_number_of_body)
section
variable {S:SC} {k:Nat} {X:Cx}
theorem df(Y:Sys S)(h1:X.toSC=S:=by rfl):OC X 603:=by subst h1;exact ⟨_,Y.tb_Compiler,Y.cl_Compiler,Y.na_Compiler⟩
theorem sc:∀ f,kJ (qD f) (jC f) (aQ (oE f)):=fun f=>by cases f<;>exact ⟨rfl,rfl,rfl,by decide+kernel,rfl,by decide+kernel,by decide+kernel⟩
def clO:Fn→Nat
 | .Compiler_compile_block=>603
 | .Compiler_rows_of=>603
 | .Compiler_rows_of_node=>603
 | .Compiler_rows_of_loop=>603
 | .Compiler_rows_of_choice=>603
 | .Compiler_rows_of_use=>603
 | .Compiler_number_of_body=>603
 | .Compiler___init__=>603
 | _=>0
def En:Fn→Bool
 | .Compiler_compile_block=>true
 | .Compiler_rows_of=>true
 | .Compiler_rows_of_node=>true
 | .Compiler_rows_of_loop=>true
 | .Compiler_rows_of_choice=>true
 | .Compiler_rows_of_use=>true
 | .Compiler_number_of_body=>true
 | _=>false
def Eo:Fn→Bool
 | .Compiler___init__=>true
 | _=>false
def GO:Fn→Bool
 | _=>false
def clN:Fn→Str
 | .Compiler___init__=>"Compiler"
 | _=>""
structure Tb(Y:Sys S)(k:Nat):Prop where
 p:∀ f,FnP S (dl k) (Y.adr f) (Y.fd f) (jC f) (F k f)
 l:∀ f,FnL S true (dl k) (Y.adr f) (Y.fd f) (jC f) (L k f)
 x:∀ f,FnL S true (dl k) (Y.adr f) (Y.fd f) (jC f) (X_ k f)
 h:∀ f,GO f=true→FnL S false (dl k) (Y.adr f) (Y.fd f) (jC f) (X_ k f)
structure Bu(Y:Sys S)(k:Nat)(A:Around):Prop extends Tb Y k where
 hr:dZ (dl k+1) A
variable {Y:Sys S} {A:Around} {e o:Expr} {es:List Expr} {fo:Ex} {fs:Ax} {pos p0 apos:Pos} {x m:Str} {pl:Sem Bool}
theorem Bu.r(B:Bu Y k A):dZ (dl k) A:=B.hr.mono (Nat.le_succ _)
theorem om(Y:Sys S)(f:Fn)(h:En f=true):∃ Ca,S.T (clO f)=some Ca∧Cls S.K Ca∧iJ S.K Ca (nS f) (Y.adr f)∧nS f∉fnm (clO f):=by
 cases f with
 | Compiler_compile_block=>exact ⟨_,Y.tb_Compiler,Y.cl_Compiler,Y.me_Compiler_compile_block,by decide⟩
 | Compiler_rows_of=>exact ⟨_,Y.tb_Compiler,Y.cl_Compiler,Y.me_Compiler_rows_of,by decide⟩
 | Compiler_rows_of_node=>exact ⟨_,Y.tb_Compiler,Y.cl_Compiler,Y.me_Compiler_rows_of_node,by decide⟩
 | Compiler_rows_of_loop=>exact ⟨_,Y.tb_Compiler,Y.cl_Compiler,Y.me_Compiler_rows_of_loop,by decide⟩
 | Compiler_rows_of_choice=>exact ⟨_,Y.tb_Compiler,Y.cl_Compiler,Y.me_Compiler_rows_of_choice,by decide⟩
 | Compiler_rows_of_use=>exact ⟨_,Y.tb_Compiler,Y.cl_Compiler,Y.me_Compiler_rows_of_use,by decide⟩
 | Compiler_number_of_body=>exact ⟨_,Y.tb_Compiler,Y.cl_Compiler,Y.me_Compiler_number_of_body,by decide⟩
 | _=>cases h
theorem oi(Y:Sys S)(f:Fn)(h:Eo f=true):∃ Ca,S.T (clO f)=some Ca∧Mk S.K Ca (Y.adr f)∧S.mg (clN f)=some (.ref Ca):=by
 cases f with
 | Compiler___init__=>exact ⟨_,Y.tb_Compiler,Y.mo_Compiler,Y.mc_Compiler⟩
 | _=>cases h
theorem zc(B:Bu Y k A)(f:Fn)(ha:RA X (e::es) fs)(h1:X.toSC=S:=by rfl)(h2:X.A=A:=by rfl)(hx:nS f=x:=by rfl)(hp:AN f=true:=by rfl)(hg:Gl X x:=by rfl)(hc:X.calm=true:=by rfl)(hdb:(x==("__debug__":Str))=false:=by decide)(he:starEach (e::es) X.env=(false,eval e X.env)::starEach es X.env:=by rfl)(hpl:(backTo pos (starEach es X.env)).any (·.1)=false:=by rfl):RE X (.Call (.Name x p0) (e::es) [] pos) (bP (F k f) fs):=by
 subst h1 h2 hx;exact Aa ⟨_,_,_,_,B.p f,B.r,Y.m f hp,(Y.ok f).kp,Y.bi f⟩ hg ha hc hdb he hpl
theorem zc0(B:Bu Y k A)(f:Fn)(h1:X.toSC=S:=by rfl)(h2:X.A=A:=by rfl)(hx:nS f=x:=by rfl)(hp:AN f=true:=by rfl)(hg:Gl X x:=by rfl)(hc:X.calm=true:=by rfl)(hdb:(x==("__debug__":Str))=false:=by decide):RE X (.Call (.Name x p0) [] [] pos) (bP (F k f) aj):=by
 subst h1 h2 hx;exact xQ ⟨_,_,_,_,B.p f,B.r,Y.m f hp,(Y.ok f).kp,Y.bi f⟩ hg hc hdb
theorem zd(B:Bu Y k A)(f:Fn)(ha:RA X (e::es) fs)(h1:X.toSC=S:=by rfl)(h2:X.A=A:=by rfl)(hx:nS f=x:=by rfl)(hp:AN f=true:=by rfl)(hg:Gl X x:=by rfl)(hc:X.calm=true:=by rfl)(hdb:(x==("__debug__":Str))=false:=by decide)(he:starEach (e::es) X.env=(false,eval e X.env)::starEach es X.env:=by rfl)(hpl:(backTo pos (starEach es X.env)).any (·.1)=false:=by rfl):RE X (.Call (.Name x p0) (e::es) [] pos) (aM (L k f) fs):=by
 subst h1 h2 hx;exact xO ⟨_,_,_,_,_,B.l f,B.r,fun _=>hc,Y.m f hp,(Y.ok f).kp,Y.bi f⟩ hg ha hdb he hpl
theorem zo(B:Bu Y k A)(f:Fn)(ho:RE X o fo)(ha:RA X (e::es) fs)(h1:X.toSC=S:=by rfl)(h2:X.A=A:=by rfl)(hx:nS f=m:=by rfl)(hp:En f=true:=by rfl)(hc:X.calm=true:=by rfl)(he:starEach (e::es) X.env=(false,eval e X.env)::starEach es X.env:=by rfl)(hpl:(backTo pos (starEach es X.env)).any (·.1)=false:=by rfl)(ht:eval (.Call (.Attribute o m apos) (e::es) [] pos) X.env=(do
   let ov ← eval o X.env
   standAt apos.atName
   let (f,first) ← holding [ov] (getMethod ov m pl)
   callWith pos f first (backTo pos (starEach (e::es) X.env)) (backToKw pos (keywordEach [] X.env))):=by rfl):RE X (.Call (.Attribute o m apos) (e::es) [] pos) (eF (clO f) (X_ k f) fo fs):=by
 subst h1 h2 hx;obtain ⟨_,a,b,c,d⟩:=om Y f hp;exact xJ (pl:=pl) ⟨_,_,_,_,_,_,a,b,c,d,B.x f,B.r,fun _=>hc,Y.bi f⟩ ho ha he hpl ht
theorem zk(B:Bu Y k A)(f:Fn)(ha:RA X (e::es) fs)(h1:X.toSC=S:=by rfl)(h2:X.A=A:=by rfl)(hx:clN f=x:=by rfl)(hp:Eo f=true:=by rfl)(hg:Gl X x:=by rfl)(hc:X.calm=true:=by rfl)(hdb:(x==("__debug__":Str))=false:=by decide)(he:starEach (e::es) X.env=(false,eval e X.env)::starEach es X.env:=by rfl)(hpl:(backTo pos (starEach es X.env)).any (·.1)=false:=by rfl):RE X (.Call (.Name x p0) (e::es) [] pos) (Bb (clO f) (X_ k f) fs):=by
 subst h1 h2 hx;obtain ⟨_,a,b,c⟩:=oi Y f hp;exact Cj ⟨_,_,_,_,_,_,a,b,B.x f,B.hr,fun _=>hc,c,Y.bi f⟩ hg ha hdb he hpl
end
def RR{S:SC}(Y:Sys S)(c:Bool)(k:Nat)(f:Fn)(b:Sx):Prop:=∀ (X:Cx) (cd:Value) (A:Around) (s:Shared),X.toSC=S→dZ (dl k+1) (A.deeper (envOfC (tG f) (aQ (oE f)) s.heap.objs.size (Y.adr f) cd))→RSs (iC c X (qD f) (tG f) (aQ (oE f)) (Y.adr f) cd A s) (gG (oE f)) b
section
variable {S:SC} {Y:Sys S} {c:Bool} {k:Nat} {f:Fn} {b:Sx}
theorem rz(T:Tb Y k)(h:∀ (X:Cx) (Y:Sys X.toSC) (cd:Value) (A:Around) (s:Shared),Bu Y k (iC c X (qD f) (tG f) (aQ (oE f)) (Y.adr f) cd A s).A→(iC c X (qD f) (tG f) (aQ (oE f)) (Y.adr f) cd A s).A.units+64<cLine→(∀ i,X.mg (Cy i)=none)→RSs (iC c X (qD f) (tG f) (aQ (oE f)) (Y.adr f) cd A s) (gG (oE f)) b):RR Y c k f b:=fun X cd A s e hr=>by subst e;exact h X Y cd A s ⟨T,hr⟩ (hr.mono (Nat.le_succ _)).units Y.n
theorem fp(h:RR Y true k f b):FnP S (dl (k+1)) (Y.adr f) (Y.fd f) (jC f) (gK b (jC f).length (qD f).length):=AT (Y.ok f) (sc f) h
theorem fl(h:RR Y c k f b):FnL S c (dl (k+1)) (Y.adr f) (Y.fd f) (jC f) (gJ b (jC f).length (qD f).length):=qQ (Y.ok f) (sc f) h EC
theorem fh(h:RR Y c k f b):FnL S c (dl (k+1)) (Y.adr f) (Y.fd f) (jC f) (mZ b (jC f).length (qD f).length):=qQ (Y.ok f) (sc f) h EE
theorem fi(h:RR Y c k f b):FnL S c (dl (k+1)) (Y.adr f) (Y.fd f) (jC f) (xB b (jC f).length (qD f).length):=qQ (Y.ok f) (sc f) h ED
end
section
variable {S:SC} {Y:Sys S} {k:Nat} (T:Tb Y k)
include T
theorem iO:RR Y true k .Compiler___init__ (cw (F k)):=rz T fun X Y _ _ _ B hu n=>(ai (xD (df Y) rfl (rv 0) zZ)
  (ai (zf (qo rfl (n .enumerate) (ra1 (rv 1))) (gL rfl (bG aW (bG aW fx))) (aE (uJ (kX (df Y) rfl (rv 0)) (ar (rv 3) ah) (rv 2))))
  (aE (xD (df Y) rfl (rv 0) (uL (aL (ra1 (aA cu))) (zl (n .len) (rv 1)))))))
theorem gy:RR Y true k .Compiler_compile_block (bE (F k) (X_ k)):=rz T fun X Y _ _ _ B hu n=>(aE (dY (kX (df Y) rfl (rv 0)) (rv 1) (au (zt fB (n .tuple) (ra1 (zo B .Compiler_rows_of (rv 0) (ag (rv 2) (ra1 (rv 3)))))) (aA (ra1 (aA (ra1 rst)))))))
theorem jr:RR Y true k .Compiler_rows_of (cI (F k) (X_ k)):=rz T fun X Y _ _ _ B hu n=>(ai (aT (fy cu))
  (ai (zf (di (rv 1)) aW (aE (bB (dJ cU PySem.F.plainAttrs_list PySem.F.slot_list_extend PySem.F.type_list_extend eN (rv 3) (ra1 (zo B .Compiler_rows_of_node (rv 0) (ag (rv 4) (ra1 (rv 2)))))))))
  (zr (rv 3))))
theorem gH:RR Y true k .Compiler_rows_of_node (aI (F k) (X_ k)):=rz T fun X Y _ _ _ B hu n=>(ai (aT (ar (rv 1) ah))
  (ai (bm (rte hu (rv 3) rst) (zr (aL (ra1 (aA (ag rst (ra1 (ar (rv 1) ah))))))) aU)
  (ai (bm (rte hu (rv 3) rst) (zr (au (zc B .rows_of_path (ag (ar (rv 1) ah) (ra1 (rv 2)))) (aL (ra1 (aA (ag rst (ra1 (ar (rv 1) ah)))))))) aU)
  (ai (bm (rte hu (rv 3) rst) (zr (zo B .Compiler_rows_of_loop (rv 0) (ag (rv 1) (ra1 (rv 2))))) aU)
  (ai (bm (rte hu (rv 3) rst) (zr (zo B .Compiler_rows_of_choice (rv 0) (ag (rv 1) (ra1 (rv 2))))) aU)
  (ai (bm (rte hu (rv 3) rst) (zr (zo B .Compiler_rows_of_use (rv 0) (ag (rv 1) (ra1 (rv 2))))) aU)
  (zr (au (zc B .rows_of_paths (ag (ar (rv 1) ah) (ra1 (rv 2)))) (aL (ra1 (aA (ag rst (ra1 (zl (n .len) (ar (rv 1) ah)))))))))))))))
theorem gI:RR Y true k .Compiler_rows_of_loop (bJ (F k) (X_ k)):=rz T fun X Y _ _ _ B hu n=>(ai (aT (zo B .Compiler_rows_of (rv 0) (ag (ar (rv 1) ah) (ra1 (au (rv 2) (aA (ra1 (ar (rv 1) ah))))))))
  (ai (aT (au (zl (n .len) (rv 3)) ah))
  (ai (aT (aL (ag (aA (ra1 rst)) (ra1 (aA (ag rst (ag (zl (n .len) (rv 2)) (ag (rv 4) (ra1 (ar (rv 1) ah))))))))))
  (zr (au (au (au (zc B .rows_of_path (ag (ar (rv 1) ah) (ra1 (rv 2)))) (rv 5)) (rv 3)) (aL (ra1 (aA (ag rst (ra1 (rv 4)))))))))))
theorem gb:RR Y true k .Compiler_rows_of_choice (bj (F k) (X_ k)):=rz T fun X Y _ _ _ B hu n=>(ai (aT (zo B .Compiler_rows_of (rv 0) (ag (ar (rv 1) ah) (ra1 (rv 2)))))
  (ai (aT (zo B .Compiler_rows_of (rv 0) (ag (ar (rv 1) ah) (ra1 (rv 2)))))
  (ai (bm (kW (ar (rv 1) ah)) (aE (aT (au (rv 3) (aL (ra1 (aA (ag rst (ra1 (zl (n .len) (rv 4)))))))))) aU)
  (zr (au (au (au (zc B .rows_of_path (ag (ar (rv 1) ah) (ra1 (rv 2)))) (aL (ra1 (aA (ag rst (ra1 (zl (n .len) (rv 3)))))))) (rv 3)) (rv 4))))))
theorem gT:RR Y true k .Compiler_rows_of_use (aV (F k) (X_ k)):=rz T fun X Y _ _ _ B hu n=>(ai (aT (rP (bL oW (bN _) (ar (rv 1) ah) dw) dw (zo B .Compiler_number_of_body (rv 0) (ag (rv 1) (ra1 (rv 2))))))
  (ai (aT (aA (ag rst (ag (ar (kX (df Y) rfl (rv 0)) (ar (rv 1) ah)) (ag (zl (n .len) (ar (rv 1) ah)) (ag (rv 3) (ra1 (zl (n .len) (rv 2)))))))))
  (zr (au (zc B .rows_of_paths (ag (ar (rv 1) ah) (ra1 (rv 2)))) (aL (ra1 (rv 4)))))))
theorem gc:RR Y true k .Compiler_number_of_body (bz (F k) (X_ k)):=rz T fun X Y _ _ _ B hu n=>(ai (aT (zl (n .len) (kX (df Y) rfl (rv 0))))
  (ai (bB (dJ cU PySem.F.plainAttrs_list PySem.F.slot_list_append PySem.F.type_list_append cY (kX (df Y) rfl (rv 0)) (ra1 (aA cu))))
  (ai (bB (zo B .Compiler_compile_block (rv 0) (ag (rv 3) (ag (ar (rv 1) ah) (ra1 (au (rv 2) (ar (rv 1) ah)))))))
  (zr (rv 3)))))
theorem DB:RR Y true k .law (vP (F k) (L k)):=rz T fun X Y _ _ _ B hu n=>(ai (aT (fy (ag ah (ra1 ah))))
  (ai (aT (zc B .l_names (ra1 (zd B .l_cell (ag (rv 0) (ra1 (rv 1)))))))
  (ai (aT (ar (zd B .l_book (ag (rv 0) (ag (rv 1) (ag (rv 2) (ag (req hu (aR (zc B .l_cell_at (ag (rv 0) (ra1 ah))) ah) ah) (ra1 uM)))))) ah))
  (ai (aT (ar (zd B .l_book (ag (rv 0) (ag (rv 1) (ag (rv 2) (ag uM (ra1 uM)))))) ah))
  (ai (aT (zb (qA B.hr.gd hu) (n .repr) (ra1 (aL (ag (rv 3) (ra1 (rv 4)))))))
  (ai (zf (di (aA (ag (rv 3) (ag (rv 4) (ra1 (rv 3)))))) aW (ai (aT (zc B .compiled (ra1 (rv 6))))
  (aE (bm (RW.rt (oQ (BY (kW (zis (n .isinstance) (n .tuple) (rv 7)))) (oQ (bL (wG hu) (bN _) (rv 7) (zc B .l_due (ra1 (rv 6)))) (mY (bL (wG hu) (bN _) (zb (qA B.hr.gd hu) (n .repr) (ra1 (rv 7))) (zb (qA B.hr.gd hu) (n .repr) (ra1 (zc B .l_due (ra1 (rv 6)))))))))) (zr uM) aU))))
  (zr (req hu (zb (qA B.hr.gd hu) (n .repr) (ra1 (aL (ag (rv 3) (ra1 (rv 4)))))) (rv 5)))))))))
theorem wv:RR Y true k .l_names (hS (F k)):=rz T fun X Y _ _ _ B hu n=>(ai (aT rst)
  (ai (aT (aR (aX (rv 0) ah) ah))
  (ai (aT (fy cu))
  (ai (zf (cV rfl (n .range) (ra1 ah)) aW (ai (rO (M:= ["_law_j","_law_some","_law_n","_law_k"]) (bA.of (by kernel_rfl)) (cV rfl (n .range) (ra1 ah)) (fun _ _=>ey) (fun _ _=>(ar (rv 1) (aR (au (au (aX (rv 2) ah) (fS ah (rv 0))) (fS (fS ah (aX (rv 3) ah)) (gM ah (aR (rv 2) ah)))) ah))) rfl rfl (by with_unfolding_all rfl))
  (ai (bm (rte hu (aR (rv 0) ah) ah) (aE (dY (rv 5) (rv 2) (ar (rv 1) (aR (au (au (aX (rv 0) ah) (fS ah (rv 4))) ah) ah)))) aU)
  (aE (bB (dJ cU PySem.F.plainAttrs_list PySem.F.slot_list_append PySem.F.type_list_append cY (rv 3) (ra1 (dJ xn PySem.F.plainAttrs_str PySem.F.slot_str_join PySem.F.type_str_join vc rst (ra1 (cj (rv 5) dR (dh (ar (aL (ag (au ah (aR (rv 4) ah)) (ra1 (au (au (rv 2) ah) (aR (aX (rv 0) ah) (gM ah (rv 2))))))) (aR (rv 0) ah)))))))))))))
  (ai (aT (aL (ag rst (ag rst (ag rst (ag rst (ag rst (ag rst (ag rst (ag rst (ag rst (ag rst (ra1 rst)))))))))))))
  (ai (bm (bL qC (bN _) (tA rfl (n .len) rfl (n .set) (au (rv 3) (rv 6))) ah) (zr (aL (ag rst (ag rst (ag rst (ag rst (ag rst (ag rst (ag rst (ag rst (ag rst (ag rst (ag rst (ra1 rst)))))))))))))) aU)
  (zr (rv 3))))))))
theorem xW:RR Y true k .l_cell (hX (F k)):=rz T fun X Y _ _ _ B hu n=>(ai (dY (rv 1) ah (au (ar (rv 1) ah) ah))
  (ai (aT (ar (rv 1) ah))
  (ai (aT (au (fS (fS ah (rv 2)) (rv 2)) (fS ah (rv 2))))
  (ai (bm (bL Cv (bN _) (zl (n .len) (rv 0)) ah) (aE (aT (au (rv 3) (fS (ar (rv 0) (aR (rv 2) (zl (n .len) (rv 0)))) (au ah (aX (rv 2) (zl (n .len) (rv 0)))))))) aU)
  (zr (aX (aR (fS (rv 3) ah) ah) ah))))))
theorem xX:RR Y true k .l_book (gw (F k) (L k)):=rz T fun X Y _ _ _ B hu n=>(ai (aT (zd B .l_cell (ag (rv 0) (ra1 (rv 1)))))
  (ai (aT (zc B .l_kinds (ag (rv 2) (ra1 (aX (rv 5) ah)))))
  (ai (aT (fy cu))
  (ai (aT (aL cu))
  (ai (zf (cV rfl (n .range) (ra1 (au ah (aR (rv 5) ah)))) aW (ai (aT (zd B .l_cell (ag (rv 0) (ra1 (rv 1)))))
  (ai (aT (fA (M:= ["_law_j","_law_kinds_here","_law_n"]) (bA.of (by kernel_rfl)) (cV rfl (n .range) (ra1 (aR (rv 10) ah))) (fun _ _=>ey) (fun _ _=>(ar (rv 1) (aR (aX (aX (rv 2) ah) (ar (aL (ag ah (ag ah (ag ah (ra1 ah))))) (rv 0))) ah)))))
  (ai (eK (M:= ["_law_j","_law_kinds_here","_law_n"]) (bA.of (by kernel_rfl)) (cV rfl (n .range) (ra1 (aR (aX (rv 10) ah) ah))) (fun _ _=>ey) (fun _ _=>(ar (rv 1) (aR (aX (aX (rv 2) ah) (ar (aL (ag ah (ag ah (ra1 ah)))) (rv 0))) ah))) rfl rfl (by with_unfolding_all rfl))
  (ai (bm (rte hu (rv 9) (aR (rv 5) ah)) (aE (aT (au (aL (ra1 (ar (rv 6) ah))) (cj (rv 11) dR (dh ah))))) aU)
  (ai (bm (RW.rt (oQ (rte hu (rv 9) (aR (rv 5) ah)) (mY (rte hu (aR (aX (rv 10) ah) ah) ah)))) (aE (aT dw)) aU)
  (ai (eK (M:= ["_law_j","_law_names_here","_law_own","_law_n"]) (bA.of (by kernel_rfl)) (cV rfl (n .range) (ra1 (zl (n .len) (rv 11)))) (fun _ _=>ey) (fun _ _=>(aA (ag (ar (rv 1) (aR (au (aX (rv 3) ah) (rv 0)) ah)) (ra1 (ar (rv 2) (rv 0)))))) rfl rfl (by with_unfolding_all rfl))
  (ai (aT (qp (dH rst (rv 13) (dH rst (rv 8) (dH rst (rv 12) (dH rst (rv 2) (dH rst (rv 3) (dH rst (rv 4) qk))))))))
  (ai (aT (zd B .l_nodes (ag (rv 0) (ag (rv 1) (ag (rv 14) (ra1 ah))))))
  (ai (bm (bL tN (bN _) (rv 12) dw) (aE (aT (au (au (rv 15) (zd B .l_body (ag (rv 0) (ag (rv 1) (ra1 (rv 14)))))) (aL (ra1 (aA (ag rst (ra1 rst)))))))) aU)
  (ai (dY (rv 1) ah (au (ar (rv 1) ah) ah))
  (ai (aT (rP (bL oW (bN _) (rv 12) dw) dw (zl (n .len) (rv 12))))
  (ai (bB (dJ cU PySem.F.plainAttrs_list PySem.F.slot_list_append PySem.F.type_list_append cY (rv 7) (ra1 (aA (ag rst (ag (ar (rv 2) (au ah (rv 9))) (ag (zt fB (n .tuple) (ra1 (fA (M:= ["_law_one_here"]) (bA.of (by kernel_rfl)) (di (rv 13)) (fun _ _=>ey) (fun _ _=>(ar (rv 0) ah))))) (ag (rv 16) (ra1 (zc B .l_one (ra1 (rv 15))))))))))))
  (aE (aT (au (rv 8) (aL (ra1 (aA (ag (ar (rv 2) (au ah (rv 9))) (ag (rv 11) (ra1 (rv 12)))))))))))))))))))))))
  (ai (aT (fy (ra1 ah)))
  (ai (bB (FQ 7 (zd B .l_come (ag (ar (ar (rv 7) (gN ah)) ah) (ag (xL (zt (uV rfl) (n .dict) (ra1 (fA (M:= ["_law_piece"]) (bA.of (by kernel_rfl)) (di (rv 7)) (fun _ _=>ey) (fun _ _=>(aA (ag (ar (rv 0) ah) (ra1 (ar (rv 0) ah))))))))) (ag (aL cu) (ag ah (ra1 (rv 17)))))))))
  (ai (bm (bL qC (bN _) (ar (rv 17) ah) ah) (aE (dY (rv 7) (gN ah) (au (cj (ar (rv 7) (gN ah)) dR (dh ah)) (aA (ra1 (zc B .l_one (ra1 (fA (M:= ["_law_node"]) (bA.of (by kernel_rfl)) (di (ar (ar (rv 7) (gN ah)) ah)) (fun _ _=>(ng (bL (Cu (by exact hu)) (by with_unfolding_all rfl) (ar (rv 0) ah) (aA (ag rst (ra1 rst)))))) (fun _ _=>(rv 0)))))))))) aU)
  (zr (aA (ag (zt fB (n .tuple) (ra1 (rv 7))) (ra1 (rv 13)))))))))))))
theorem tF:RR Y true k .compiled (iG (F k) (X_ k)):=rz T fun X Y _ _ _ B hu n=>(ai (aT (zk B .Compiler___init__ (ra1 (rv 0))))
  (ai (zf (qo rfl (n .enumerate) (ra1 (rv 0))) (gL rfl (bG aW (bG aW fx))) (aE (bB (zo B .Compiler_compile_block (rv 1) (ag (rv 2) (ag (ar (rv 3) ah) (ra1 (ar (rv 3) ah))))))))
  (zr (zt fB (n .tuple) (ra1 (kX (df Y) rfl (rv 1)))))))
theorem Ae:RR Y true k .l_due (mQ (F k) (L k)):=rz T fun X Y _ _ _ B hu n=>(ai (aT (uL (aL (ra1 (aA cu))) (zl (n .len) (rv 0))))
  (ai (zf (qo rfl (n .enumerate) (ra1 (rv 0))) (gL rfl (bG aW (bG aW fx))) (aE (dY (rv 1) (rv 2) (zt fB (n .tuple) (ra1 (au (zd B .l_rows (ag (rv 0) (ag (rv 1) (ag (zt tO (n .list) (ra1 (ar (rv 3) ah))) (ra1 (ar (rv 3) ah)))))) (aL (ra1 (aA (ra1 rst))))))))))
  (zr (zt fB (n .tuple) (ra1 (rv 1))))))
theorem rR:RR Y true k .l_cell_at (fN (F k)):=rz T fun X Y _ _ _ B hu n=>(ai (bm (bL qC (bN _) (rv 1) (zl (n .len) (rv 0))) (zr (ar (rv 0) (rv 1))) aU)
  (zr ah))
theorem ww:RR Y true k .l_kinds (jq (F k)):=rz T fun X Y _ _ _ B hu n=>(ai (aT (aR (rv 1) ah))
  (ai (aT (aA (ag (aA (ag (ar (rv 0) (rv 2)) (ra1 (aA (ra1 rst))))) (ag (aA (ag (ar (rv 0) (au (rv 2) ah)) (ra1 (aA (ra1 rst))))) (ag (aA (ag (ar (rv 0) (au (rv 2) ah)) (ra1 (aA (ra1 rst))))) (ra1 (aA (ag (ar (rv 0) (au (rv 2) ah)) (ra1 (aA (ra1 rst)))))))))))
  (ai (aT (aA (ag rst (ra1 (rv 3)))))
  (ai (aT (aA (ag rst (ra1 (aA (ag (aA (ag (ar (rv 0) (au (rv 2) ah)) (ra1 (aA (ag rst (ra1 (rv 4))))))) (ag (aA (ag (ar (rv 0) (rv 2)) (ra1 (aA (ag rst (ra1 (aA (ra1 rst)))))))) (ra1 (aA (ag (ar (rv 0) (au (rv 2) ah)) (ra1 (rv 4))))))))))))
  (zr (aL (ag (aA (ra1 rst)) (ag (aA (ra1 rst)) (ag (aA (ra1 rst)) (ag (aA (ra1 rst)) (ag (rv 4) (ag (aA (ag rst (ra1 (aA (ra1 rst))))) (ag (aA (ag rst (ra1 (rv 4)))) (ag (rv 5) (ra1 (aA (ag rst (ra1 (aA (ag rst (ra1 (aA (ra1 rst)))))))))))))))))))))))
theorem xV:RR Y true k .l_come (sS (F k) (L k)):=rz T fun X Y _ _ _ B hu n=>(aE (zf (di (rv 0)) aW (ai (dY (rv 4) ah (gM (ar (rv 4) ah) ah))
  (aE (bm (RW.rt (oQ (bL qC (bN _) (ar (rv 4) ah) ah) (mY (bL Cv (bN _) (rv 3) ah)))) (aE (dY (rv 4) ah (gN ah))) (aE (bm (rte hu (ar (rv 5) ah) rst) (aE (bB (zd B .l_come (ag (ar (rv 5) ah) (ag (rv 1) (ag (rv 2) (ag (au (rv 3) ah) (ra1 (rv 4))))))))) (aE (bm (rte hu (ar (rv 5) ah) rst) (aE (bB (zd B .l_come (ag (au (ar (rv 5) ah) (ar (rv 5) ah)) (ag (rv 1) (ag (rv 2) (ag (au (rv 3) ah) (ra1 (rv 4))))))))) (aE (bm (rte hu (ar (rv 5) ah) rst) (aE (bB (zd B .l_come (ag (ar (rv 1) (ar (rv 5) ah)) (ag (rv 1) (ag (au (rv 2) (aL (ra1 (ar (rv 5) ah)))) (ag (au (rv 3) ah) (ra1 (rv 4))))))))) (aE (bm (rte hu (ar (rv 5) ah) rst) (aE (bB (zd B .l_come (ag (ar (rv 2) (gN ah)) (ag (rv 1) (ag (cj (rv 2) dR (dh (gN ah))) (ag (au (rv 3) ah) (ra1 (rv 4))))))))) aU)))))))))))))
theorem wt:RR Y true k .l_nodes (jp (F k) (L k)):=rz T fun X Y _ _ _ B hu n=>(ai (aT (fy cu))
  (ai (zf (cV rfl (n .range) (ra1 (au ah (aR (aX (zd B .l_cell (ag (rv 0) (ra1 (rv 1)))) ah) ah)))) aW (ai (aT (aR (aX (zd B .l_cell (ag (rv 0) (ra1 (rv 1)))) ah) ah))
  (ai (bm (RW.rt (oQ (bL Cv (bN _) (ar (rv 1) ah) (ar (rv 1) ah)) (mY (bL qC (bN _) (rv 3) ah)))) (aE (aT (aR (rv 6) ah))) aU)
  (aE (bm (rte hu (rv 6) ah) (aE (bB (dJ cU PySem.F.plainAttrs_list PySem.F.slot_list_append PySem.F.type_list_append cY (rv 4) (ra1 (aA (ag rst (ra1 (zd B .l_text (ag (rv 0) (ra1 (rv 1))))))))))) (aE (bm (bL qC (bN _) (rv 6) ah) (aE (bB (dJ cU PySem.F.plainAttrs_list PySem.F.slot_list_extend PySem.F.type_list_extend eN (rv 4) (ra1 (zd B .l_place (ag (rv 0) (ag (rv 1) (ra1 (rv 2))))))))) (aE (bm (rte hu (rv 6) ah) (aE (bB (dJ cU PySem.F.plainAttrs_list PySem.F.slot_list_extend PySem.F.type_list_extend eN (rv 4) (ra1 (zd B .l_body (ag (rv 0) (ag (rv 1) (ra1 (rv 2))))))))) (aE (bm (rte hu (rv 6) ah) (aE (bB (dJ cU PySem.F.plainAttrs_list PySem.F.slot_list_extend PySem.F.type_list_extend eN (rv 4) (ra1 (zd B .l_choice (ag (rv 0) (ag (rv 1) (ag (rv 2) (ra1 (rv 3)))))))))) (aE (bm (bL qC (bN _) (rv 6) ah) (aE (bB (dJ cU PySem.F.plainAttrs_list PySem.F.slot_list_extend PySem.F.type_list_extend eN (rv 4) (ra1 (zd B .l_loop (ag (rv 0) (ag (rv 1) (ag (rv 2) (ra1 (rv 3)))))))))) (aE (bB (dJ cU PySem.F.plainAttrs_list PySem.F.slot_list_extend PySem.F.type_list_extend eN (rv 4) (ra1 (zd B .l_use (ag (rv 0) (ag (rv 1) (ag (rv 2) (ra1 (rv 3)))))))))))))))))))))))
  (zr (rv 4))))
theorem Ac:RR Y true k .l_one (mP (F k)):=rz T fun X Y _ _ _ B hu n=>(ai (aT (fy cu))
  (ai (zf (di (rv 0)) aW (aE (bm (RW.rt (qh (rte hu (ar (rv 2) ah) rst) (qh (bL (wG hu) (bN _) (rv 1) (aL cu)) (qg (rte hu (ar (ar (rv 1) (gN ah)) ah) rst))))) (aE (dY (rv 1) (gN ah) (aA (ag rst (ra1 (au (ar (ar (rv 1) (gN ah)) ah) (ar (rv 2) ah))))))) (aE (bB (dJ cU PySem.F.plainAttrs_list PySem.F.slot_list_append PySem.F.type_list_append cY (rv 1) (ra1 (rv 2))))))))
  (zr (zt fB (n .tuple) (ra1 (rv 1))))))
theorem xY:RR Y true k .l_body (kF (F k) (L k)):=rz T fun X Y _ _ _ B hu n=>(ai (aT dw)
  (ai (bm (bL tN (bN _) (ar (rv 2) rst) dw) (aE (aT (zd B .l_handed (ag (rv 0) (ag (rv 1) (ag (ar (rv 2) rst) (ra1 (ar (rv 2) rst)))))))) aU)
  (ai (bm (bL oW (bN _) (rv 3) dw) (zr (zd B .l_place (ag (rv 0) (ag (rv 1) (ra1 (rv 2)))))) aU)
  (zr (aL (ra1 (aA (ag rst (ra1 (rv 3))))))))))
theorem xS:RR Y true k .l_rows (kA (F k) (L k)):=rz T fun X Y _ _ _ B hu n=>(ai (aT (fy cu))
  (ai (zf (di (rv 3)) aW (ai (zf (di (zc B .l_paths_of (ra1 (rv 5)))) aW (aE (aT (qq (rv 4) (zc B .l_path (ag (rv 2) (ra1 (rv 6))))))))
  (aE (bm (rte hu (ar (rv 5) ah) rst) (aE (bB (dJ cU PySem.F.plainAttrs_list PySem.F.slot_list_append PySem.F.type_list_append cY (rv 4) (ra1 (aA (ag rst (ra1 (ar (rv 5) ah)))))))) (aE (bm (rte hu (ar (rv 5) ah) rst) (aE (bB (dJ cU PySem.F.plainAttrs_list PySem.F.slot_list_append PySem.F.type_list_append cY (rv 4) (ra1 (aA (ag rst (ra1 (ar (rv 5) ah)))))))) (aE (bm (rte hu (ar (rv 5) ah) rst) (aE (bB (dJ cU PySem.F.plainAttrs_list PySem.F.slot_list_append PySem.F.type_list_append cY (rv 4) (ra1 (aA (ag rst (ra1 (zl (n .len) (ar (rv 5) ah))))))))) (aE (bm (rte hu (ar (rv 5) ah) rst) (ai (aT (zd B .l_rows (ag (rv 0) (ag (rv 1) (ag (au (rv 2) (aL (ra1 (ar (rv 5) ah)))) (ra1 (ar (rv 5) ah)))))))
  (ai (aT (aL (ag (aA (ra1 rst)) (ra1 (aA (ag rst (ag (zl (n .len) (rv 2)) (ag (au (zl (n .len) (rv 7)) ah) (ra1 (ar (rv 5) ah))))))))))
  (aE (aT (qq (au (au (rv 4) (rv 8)) (rv 7)) (aL (ra1 (aA (ag rst (ra1 (au (zl (n .len) (rv 7)) ah))))))))))) (aE (bm (rte hu (ar (rv 5) ah) rst) (ai (eK (M:= ["_law_side","_law_book_here","_law_blocks","_law_names_here"]) (bA.of (by kernel_rfl)) (di (cj (rv 5) (dh ah) dR)) (fun _ _=>ey) (fun _ _=>(zd B .l_rows (ag (rv 1) (ag (rv 2) (ag (rv 3) (ra1 (rv 0))))))) rfl rfl (by with_unfolding_all rfl))
  (ai (aT (fS (aL (ra1 (aA (ag rst (ra1 (zl (n .len) (ar (rv 9) ah))))))) (zt oX (n .int) (ra1 (xN (wG hu) (bN _) (ar (rv 5) ah) (aA cu))))))
  (aE (aT (qq (au (au (au (rv 4) (aL (ra1 (aA (ag rst (ra1 (zl (n .len) (au (ar (rv 9) ah) (rv 10))))))))) (ar (rv 9) ah)) (rv 10)) (ar (rv 9) ah)))))) (ai (aT (dJ cU PySem.F.plainAttrs_list PySem.F.slot_list_index PySem.F.type_list_index wI (fA (M:= ["_law_piece"]) (bA.of (by kernel_rfl)) (di (rv 0)) (fun _ _=>ey) (fun _ _=>(ar (rv 0) ah))) (ra1 (ar (rv 5) ah))))
  (ai (aT dw)
  (ai (bm (bL tN (bN _) (ar (rv 5) ah) dw) (ai (aT (zl (n .len) (rv 1)))
  (ai (bB (dJ cU PySem.F.plainAttrs_list PySem.F.slot_list_append PySem.F.type_list_append cY (rv 1) (ra1 (aA cu))))
  (aE (dY (rv 1) (rv 12) (zt fB (n .tuple) (ra1 (au (zd B .l_rows (ag (rv 0) (ag (rv 1) (ag (au (rv 2) (zt tO (n .list) (ra1 (ar (rv 5) ah)))) (ra1 (ar (rv 5) ah)))))) (aL (ra1 (aA (ra1 rst))))))))))) aU)
  (aE (bB (dJ cU PySem.F.plainAttrs_list PySem.F.slot_list_append PySem.F.type_list_append cY (rv 4) (ra1 (aA (ag rst (ag (rv 11) (ag (zl (n .len) (ar (rv 5) ah)) (ag (rv 12) (ra1 (zl (n .len) (rv 2)))))))))))))))))))))))))))
  (zr (rv 4))))
theorem xR:RR Y true k .l_text (ky (F k) (L k)):=rz T fun X Y _ _ _ B hu n=>(ai (aT (zd B .l_cell (ag (rv 0) (ra1 (rv 1)))))
  (zr (dJ xn PySem.F.plainAttrs_str PySem.F.slot_str_join PySem.F.type_str_join vc rst (ra1 (fA (M:= ["_law_k","_law_n"]) (bA.of (by kernel_rfl)) (cV rfl (n .range) (ra1 (au ah (aR (rv 2) ah)))) (fun _ _=>ey) (fun _ _=>(ar (zc0 B .l_signs) (aR (au (aX (rv 1) ah) (fS (rv 0) (au ah (aR (aX (rv 1) ah) ah)))) ah))))))))
theorem wm:RR Y true k .l_place (fX (F k) (L k)):=rz T fun X Y _ _ _ B hu n=>(ai (eK (M:= ["_law_one_here"]) (bA.of (by kernel_rfl)) (di (zc B .l_paths (ra1 (ar (rv 2) rst)))) (fun _ _=>(ng (bL (Cu (by exact hu)) (by with_unfolding_all rfl) (ar (ar (rv 0) ah) ah) (aA (ag rst (ag rst (ra1 rst))))))) (fun _ _=>(rv 0)) rfl rfl (by with_unfolding_all rfl))
  (ai (aT (zd B .l_cell (ag (rv 0) (ra1 (rv 1)))))
  (ai (bm (rte hu (rv 3) (aL cu)) (zr (aL (ra1 (aA (ag rst (ra1 (zd B .l_text (ag (rv 0) (ra1 (rv 1)))))))))) aU)
  (ai (qj (gL rfl (bG aW (bG aW fx))) (ar (rv 3) (aR (rv 4) (zl (n .len) (rv 3)))))
  (ai (aT (ar (qp (dH rst (aL (ra1 rst)) (dH rst (aL (ag rst (ag rst (ag rst (ra1 rst))))) (dH rst (aL (ag rst (ag rst (ra1 rst)))) qk)))) (ar (rv 6) ah)))
  (ai (bm (RW.rt (qh (kW (ar (rv 2) rst)) (qg (rte hu (aR (aX (rv 4) ah) ah) ah)))) (aE (aT (aL (ag rst (ag rst (ag rst (ag rst (ra1 rst)))))))) aU)
  (ai (aT (ar (rv 7) (aR (aX (rv 4) ah) (zl (n .len) (rv 7)))))
  (ai (bm (RW.rt (oQ (kW (ar (rv 2) rst)) (mY (rte hu (aR (aX (rv 4) ah) ah) ah)))) (ai (aT (dJ BJ PySem.F.plainAttrs_dict PySem.F.slot_dict_get PySem.F.type_dict_get CD (qp (dH rst rst (dH rst rst qk))) (ag (rv 8) (ra1 rst))))
  (zr (aL (ag (aA (ag rst (ag (rv 5) (ra1 (rv 8))))) (ra1 (aA (ag rst (ra1 (au (ar (rv 9) (aR (aX (rv 4) ah) (zl (n .len) (rv 9)))) (zd B .l_text (ag (rv 0) (ra1 (rv 1))))))))))))) aU)
  (zr (aL (ra1 (aA (ag rst (ag (rv 5) (ra1 (rv 8))))))))))))))))
theorem tE:RR Y true k .l_choice (iF (F k) (L k)):=rz T fun X Y _ _ _ B hu n=>(ai (aT (zd B .l_handed (ag (rv 0) (ag (rv 1) (ag (ar (rv 2) rst) (ra1 (aL (ra1 (aA (ra1 rst))))))))))
  (ai (aT (zd B .l_cell (ag (rv 0) (ra1 (rv 1)))))
  (ai (bm (bL oW (bN _) (rv 4) dw) (zr (zd B .l_loop (ag (rv 0) (ag (rv 1) (ag (rv 2) (ra1 (rv 3))))))) aU)
  (ai (eK (M:= ["_law_k","_law_n"]) (bA.of (by kernel_rfl)) (cV rfl (n .range) (ra1 ah)) (fun _ _=>ey) (fun _ _=>(aA (ag rst (ra1 (ar (zc0 B .l_signs) (aR (au (aX (rv 1) ah) (rv 0)) ah)))))) rfl rfl (by with_unfolding_all rfl))
  (ai (aT (au (fA (M:= ["_law_k","_law_cells","_law_spot","_law_at","_law_deep"]) (bA.of (by kernel_rfl)) (cV rfl (n .range) (ra1 (gM ah (zt oX (n .int) (ra1 (req hu (aR (rv 5) ah) ah)))))) (fun _ _=>ey) (fun _ _=>(zd B .l_nodes (ag (rv 1) (ag (rv 2) (ag (rv 3) (ra1 (gM (rv 4) ah)))))))) (aL (ra1 (aL cu)))))
  (ai (bm (kW (ar (rv 2) rst)) (aE (aT (aL (ag (au (cj (rv 6) dR (dh ah)) (ar (rv 7) ah)) (ra1 (au (cj (rv 6) (dh ah) (dh (fS ah (zl (n .len) (cj (ar (rv 7) ah) dR (dh ah)))))) (ar (rv 7) ah))))))) aU)
  (ai (aT (aA (ag rst (ag (ar (rv 4) ah) (ag (zc B .l_one (ra1 (ar (rv 7) ah))) (ra1 (zc B .l_one (ra1 (ar (rv 7) ah)))))))))
  (zr (cj (aL (ag (rv 8) (ra1 (ar (rv 6) ah)))) dR (dh (au ah (zt oX (n .int) (ra1 (Bj (ar (rv 2) rst) (xI (req hu (aR (aX (rv 5) ah) ah) ah))))))))))))))))
theorem xU:RR Y true k .l_loop (kD (F k) (L k)):=rz T fun X Y _ _ _ B hu n=>(ai (eK (M:= ["_law_one_here"]) (bA.of (by kernel_rfl)) (di (zc B .l_paths (ra1 (ar (rv 2) rst)))) (fun _ _=>(ng (rte hu (ar (ar (rv 0) ah) ah) rst))) (fun _ _=>(rv 0)) rfl rfl (by with_unfolding_all rfl))
  (ai (aT (zd B .l_cell (ag (rv 0) (ra1 (rv 1)))))
  (ai (bm (rte hu (rv 4) (aL cu)) (zr (zd B .l_place (ag (rv 0) (ag (rv 1) (ra1 (rv 2)))))) aU)
  (ai (qj (gL rfl (bG aW (bG aW fx))) (ar (rv 4) (aR (rv 5) (zl (n .len) (rv 4)))))
  (ai (aT (ar (ar (rv 2) rst) (aR (aX (rv 5) ah) ah)))
  (ai (aT (zd B .l_nodes (ag (rv 0) (ag (rv 1) (ag (zc B .l_in (ag (rv 2) (ra1 (aL (ra1 (aA (ag (rv 8) (ra1 (ar (rv 7) ah))))))))) (ra1 (gM (rv 3) ah)))))))
  (ai (aT (ar (zc0 B .l_signs) (aR (aX (rv 5) ah) ah)))
  (ai (aT (ar (zc0 B .l_signs) (aR (au (au (aX (rv 5) ah) ah) (aR (aX (rv 5) ah) ah)) ah)))
  (ai (bm (kW (ar (rv 2) rst)) (aE (aT (au (aL (ra1 (aA (ag rst (ra1 (rv 10)))))) (rv 9)))) aU)
  (ai (aT (aA (ag rst (ag (rv 8) (ag (rv 6) (ag (zc B .l_one (ra1 (rv 9))) (ra1 (ar (aL (ag rst (ag rst (ag (au (rv 10) rst) (ra1 (rv 10)))))) (aR (aX (rv 5) ah) ah)))))))))
  (zr (cj (aL (ag (rv 12) (ra1 (aA (ag rst (ra1 (rv 11))))))) dR (dh (au ah (zt oX (n .int) (ra1 (Bj (ar (rv 2) rst) (xI (req hu (aR (aX (rv 5) ah) ah) ah)))))))))))))))))))
theorem Ab:RR Y true k .l_use (mO (F k) (L k)):=rz T fun X Y _ _ _ B hu n=>(ai (aT (zd B .l_cell (ag (rv 0) (ra1 (rv 1)))))
  (ai (aT dw)
  (ai (bm (bL (wG hu) (bN _) (ar (rv 2) rst) (aL cu)) (ai (qj (gL rfl (bG aW (bG aW (bG aW fx)))) (ar (ar (rv 2) rst) (aR (rv 4) (zl (n .len) (ar (rv 2) rst)))))
  (aE (aT (zd B .l_handed (ag (rv 0) (ag (rv 1) (ag (ar (rv 2) rst) (ra1 (rv 7))))))))) aU)
  (ai (bm (bL oW (bN _) (rv 5) dw) (zr (zd B .l_loop (ag (rv 0) (ag (rv 1) (ag (rv 2) (ra1 (rv 3))))))) aU)
  (ai (bm (bL oW (bN _) (rv 8) dw) (zr (aL (ra1 (aA (ag rst (ag (rv 6) (ag (rv 5) (ag dw (ra1 dw))))))))) aU)
  (ai (aT (zt fB (n .tuple) (ra1 (cj (cj (ar (rv 2) rst) (dh (aR (aX (rv 4) ah) ah)) dR) dR (dh (zl (n .len) (rv 8)))))))
  (ai (aT (zc B .l_in (ag (rv 2) (ra1 (xK rfl (n .list) rfl (n .zip) (ag (rv 9) (ra1 (rv 8))))))))
  (ai (aT (zd B .l_nodes (ag (rv 0) (ag (rv 1) (ag (rv 10) (ra1 (zb (DH rfl) (n .min) (ag (gM (rv 3) ah) (ra1 (au ah (aR (aX (rv 4) ah) ah)))))))))))
  (ai (bm (rte hu (aR (aX (rv 4) ah) ah) ah) (aE (aT (au (rv 11) (zd B .l_body (ag (rv 0) (ag (rv 1) (ra1 (rv 10)))))))) aU)
  (ai (bm (rte hu (aR (aX (rv 4) ah) ah) ah) (aE (aT (aL cu))) aU)
  (zr (aL (ra1 (aA (ag rst (ag (rv 6) (ag (rv 5) (ag (rv 9) (ra1 (zc B .l_one (ra1 (rv 11))))))))))))))))))))))
theorem tD:RR Y true k .l_handed (gv (F k) (L k)):=rz T fun X Y _ _ _ B hu n=>(ai (aT (fy cu))
  (ai (zf (di (rv 3)) aW (ai (qi (M:= ["_law_path_here","_law_own","_law_kind"]) (bA.of (by kernel_rfl)) (di (zc B .l_paths (ra1 (rv 2)))) (fun _ _=>(ng (rte hu (rv 1) (rv 2)))) (fun _ _=>(rv 0)) rfl rfl (by with_unfolding_all rfl))
  (ai (bm (rte hu (rv 6) (aL cu)) (zr dw) aU)
  (aE (bB (dJ cU PySem.F.plainAttrs_list PySem.F.slot_list_append PySem.F.type_list_append cY (rv 4) (ra1 (ar (rv 6) (aR (zd B .l_cell (ag (rv 0) (ra1 (rv 1)))) (zl (n .len) (rv 6)))))))))))
  (zr (zt fB (n .tuple) (ra1 (rv 4))))))
theorem qr:RR Y true k .l_paths_of (bY (F k)):=rz T fun X Y _ _ _ B hu n=>(ai (bm (rte hu (ar (rv 0) ah) rst) (zr (aL cu)) aU)
  (ai (bm (bL (Cu hu) (by with_unfolding_all rfl) (ar (rv 0) ah) (aA (ag rst (ra1 rst)))) (zr (zt tO (n .list) (ra1 (ar (rv 0) (gM ah (zt oX (n .int) (ra1 (req hu (ar (rv 0) ah) rst)))))))) aU)
  (zr (aL (ra1 (ar (rv 0) (au ah (zt oX (n .int) (ra1 (req hu (ar (rv 0) ah) rst))))))))))
theorem xT:RR Y true k .l_path (kB (F k)):=rz T fun X Y _ _ _ B hu n=>(ai (aT (zb (Ct rfl) (n .max) (ra1 (fA (M:= ["_law_k","_law_names_here","_law_path_here"]) (bA.of (by kernel_rfl)) (cV rfl (n .range) (ra1 (zl (n .len) (rv 0)))) (fun _ _=>(ng (rte hu (ar (rv 1) (rv 0)) (ar (rv 2) ah)))) (fun _ _=>(rv 0))))))
  (zr (au (aL (ra1 (aA (ag rst (ra1 (rv 2)))))) (fA (M:= ["_law_name"]) (bA.of (by kernel_rfl)) (di (cj (rv 1) (dh ah) dR)) (fun _ _=>ey) (fun _ _=>(aA (ag rst (ra1 (rv 0)))))))))
theorem wl:RR Y true k .l_signs (jm (F k)):=rz T fun X Y _ _ _ B hu n=>(ai (aT rst)
  (zr (au (rv 0) rst)))
theorem wn:RR Y true k .l_paths (jo (F k)):=rz T fun X Y _ _ _ B hu n=>(ai (rN (M:= ["_law_name","_law_kind"]) (bA.of (by kernel_rfl)) (xG (xL (zt (uV rfl) (n .dict) (ra1 (rv 0))))) (fun _ _=>ey) (fun _ _=>(aA (ag (aA (ra1 (rv 0))) (ra1 (rv 1))))) rfl rfl (by with_unfolding_all rfl))
  (ai (aT ah)
  (ai (rM (bL qC (bN _) (rv 2) (zl (n .len) (rv 1))) (ai (qj (gL rfl (bG aW (bG aW fx))) (ar (rv 1) (rv 2)))
  (ai (aT (au (rv 2) ah))
  (aE (bm (RW.rt (qh (rte hu (ar (rv 4) ah) rst) (qg (bL qC (bN _) (zl (n .len) (rv 3)) ah)))) (aE (bB (dJ cU PySem.F.plainAttrs_list PySem.F.slot_list_extend PySem.F.type_list_extend eN (rv 1) (ra1 (xM (M:= ["_law_field","_law_own","_law_path_here"]) (bA.of (by kernel_rfl)) (di (ar (rv 4) ah)) (fun _ _=>ey) (fun _ _=>(aA (ag (au (rv 2) (aA (ra1 (rv 0)))) (ra1 (rv 1)))))))))) aU)))))
  (zr (rv 1)))))
theorem Cm:RR Y true k .l_in (rh (F k)):=rz T fun X Y _ _ _ B hu n=>(ai (aT (zt As (n .dict) (ra1 (rv 0))))
  (ai (uJ (rv 2) rst (au (ar (rv 0) rst) (rv 1)))
  (zr (xL (rv 2)))))
theorem lX:RR Y true k .rows_of_paths (eh (F k)):=rz T fun X Y _ _ _ B hu n=>(ai (aT (fy cu))
  (ai (zf (di (rv 0)) aW (aE (bB (dJ cU PySem.F.plainAttrs_list PySem.F.slot_list_extend PySem.F.type_list_extend eN (rv 2) (ra1 (zc B .rows_of_path (ag (rv 3) (ra1 (rv 1)))))))))
  (zr (rv 2))))
theorem ni:RR Y true k .rows_of_path (eU (F k)):=rz T fun X Y _ _ _ B hu n=>(zr (au (aL (ra1 (aA (ag rst (ra1 (zc B .inmost_slot (ag (ar (rv 0) ah) (ra1 (rv 1))))))))) (fA (M:= ["field"]) (bA.of (by kernel_rfl)) (di (cj (rv 0) (dh ah) dR)) (fun _ _=>ey) (fun _ _=>(aA (ag rst (ra1 (rv 0))))))))
theorem oG:RR Y true k .inmost_slot (fC (F k)):=rz T fun X Y _ _ _ B hu n=>(ai (aT (gM (zl (n .len) (rv 1)) ah))
  (ai (rM (bL (wG hu) (bN _) (ar (rv 1) (rv 2)) (rv 0)) (aE (aT (gM (rv 2) ah))))
  (zr (rv 2))))
theorem zF:Tb Y (k+1):=by
 refine ⟨fun f=>?_,fun f=>?_,fun f=>?_,fun f h=>?_⟩
 ·cases f with
  | law=>exact fp (DB T)
  | l_names=>exact fp (wv T)
  | compiled=>exact fp (tF T)
  | l_due=>exact fp (Ae T)
  | l_cell_at=>exact fp (rR T)
  | l_kinds=>exact fp (ww T)
  | l_one=>exact fp (Ac T)
  | l_paths_of=>exact fp (qr T)
  | l_path=>exact fp (xT T)
  | l_signs=>exact fp (wl T)
  | l_paths=>exact fp (wn T)
  | l_in=>exact fp (Cm T)
  | rows_of_paths=>exact fp (lX T)
  | rows_of_path=>exact fp (ni T)
  | inmost_slot=>exact fp (oG T)
  | _=>exact .bad
 ·cases f with
  | l_cell=>exact fl (xW T)
  | l_book=>exact fl (xX T)
  | l_come=>exact fl (xV T)
  | l_nodes=>exact fl (wt T)
  | l_body=>exact fl (xY T)
  | l_rows=>exact fl (xS T)
  | l_text=>exact fl (xR T)
  | l_place=>exact fl (wm T)
  | l_choice=>exact fl (tE T)
  | l_loop=>exact fl (xU T)
  | l_use=>exact fl (Ab T)
  | l_handed=>exact fl (tD T)
  | _=>exact .bad
 ·cases f with
  | Compiler___init__=>exact fi (iO T)
  | Compiler_compile_block=>exact fh (gy T)
  | Compiler_rows_of=>exact fh (jr T)
  | Compiler_rows_of_node=>exact fh (gH T)
  | Compiler_rows_of_loop=>exact fh (gI T)
  | Compiler_rows_of_choice=>exact fh (gb T)
  | Compiler_rows_of_use=>exact fh (gT T)
  | Compiler_number_of_body=>exact fh (gc T)
  | _=>exact .bad
 ·cases f with
  | _=>cases h
end
theorem oz{S:SC}(Y:Sys S):∀ k,Tb Y k
 | 0=>⟨fun _=>.bad,fun _=>.bad,fun _=>.bad,fun _ _=>.bad⟩
 | k+1=>zF (oz Y k)
def adP(K:W.Frag)(C:Nat→Addr):Fn→Addr→Prop
 | .Compiler___init__,a=>iJ K (C 603) "__init__" a
 | .Compiler_compile_block,a=>iJ K (C 603) "compile_block" a
 | .Compiler_rows_of,a=>iJ K (C 603) "rows_of" a
 | .Compiler_rows_of_node,a=>iJ K (C 603) "rows_of_node" a
 | .Compiler_rows_of_loop,a=>iJ K (C 603) "rows_of_loop" a
 | .Compiler_rows_of_choice,a=>iJ K (C 603) "rows_of_choice" a
 | .Compiler_rows_of_use,a=>iJ K (C 603) "rows_of_use" a
 | .Compiler_number_of_body,a=>iJ K (C 603) "number_of_body" a
 | f,a=>W.nsIn K mainGlobals (nS f)=some (some (.ref a))
theorem us0{us:List Value}(h:us.length=0):us= []:=List.eq_nil_of_length_eq_zero h
theorem usS{n:Nat}{us:List Value}(h:us.length=n+1):∃ a r,us=a::r∧r.length=n:=by
 cases us with
 | nil=>cases h
 | cons a r=>exact ⟨a,r,rfl,by simpa using h⟩
theorem us1{us:List Value}(h:us.length=1):∃ a,us= [a]:=by
 obtain ⟨a,r,rfl,z⟩:=usS h
 obtain rfl:=us0 z
 exact ⟨a,rfl⟩
theorem us2{us:List Value}(h:us.length=2):∃ a b,us= [a,b]:=by
 obtain ⟨a,r,rfl,z⟩:=usS h
 obtain ⟨b,rfl⟩:=us1 z
 exact ⟨a,b,rfl⟩
theorem us3{us:List Value}(h:us.length=3):∃ a b c,us= [a,b,c]:=by
 obtain ⟨a,r,rfl,z⟩:=usS h
 obtain ⟨b,c,rfl⟩:=us2 z
 exact ⟨a,b,c,rfl⟩
theorem us4{us:List Value}(h:us.length=4):∃ a b c d,us= [a,b,c,d]:=by
 obtain ⟨a,r,rfl,z⟩:=usS h
 obtain ⟨b,c,d,rfl⟩:=us3 z
 exact ⟨a,b,c,d,rfl⟩
theorem us5{us:List Value}(h:us.length=5):∃ a b c d e,us= [a,b,c,d,e]:=by
 obtain ⟨a,r,rfl,z⟩:=usS h
 obtain ⟨b,c,d,e,rfl⟩:=us4 z
 exact ⟨a,b,c,d,e,rfl⟩
theorem us6{us:List Value}(h:us.length=6):∃ a b c d e f,us= [a,b,c,d,e,f]:=by
 obtain ⟨a,r,rfl,z⟩:=usS h
 obtain ⟨b,c,d,e,f,rfl⟩:=us5 z
 exact ⟨a,b,c,d,e,f,rfl⟩
theorem us7{us:List Value}(h:us.length=7):∃ a b c d e f g,us= [a,b,c,d,e,f,g]:=by
 obtain ⟨a,r,rfl,z⟩:=usS h
 obtain ⟨b,c,d,e,f,g,rfl⟩:=us6 z
 exact ⟨a,b,c,d,e,f,g,rfl⟩
theorem fq{K:W.Frag}{Ad:Addr→Prop}{nm ql:Str}{st:Stmt}{ps:List Str}{f:Addr}{od an:Option Addr}{sl:Array (Option Value)}{oc kV dc pm cd ct:Value}(a:Ad f)(l:K.lookup f=some ⟨oc,od,.func (W.fnOf nm ql (qX st) (gG st) (aQ st) .none kV dc pm an cd ct),sl⟩)(c:W.codeIn K cd ql=true)(k:W.keepIn K (.ref f)=true)(b:∀ (kV doc pm:Value) (an:Option Addr) (cdv ct:Value) (us:List Value),us.length=ps.length→bindArgs (W.fnOf nm ql (qX st) (gG st) (aQ st) .none kV doc pm an cdv ct) ⟨us,[]⟩=pure (ps.zip us)):∃ a fd,Ad a∧Fun K nm ql st a fd∧jf K fd ps []:=⟨f,_,a,⟨⟨_,_,_,_,_,_,_,_,_,rfl,l,c⟩,k⟩,fun s us _ h=>by rw [List.append_nil] at h ⊢;exact .of_eq (b _ _ _ _ _ _ us h)⟩
theorem CZ{l:W.OpenLaw}{w:World}{K:W.Frag}{h:Heap}{mg:Str→Option Value}{fa:Addr}(X:K.In h)(G:h.Ns mainGlobals mg)(hfa:mg "law"=some (.ref fa))
  {C_Compiler:Addr}
  (aC_Compiler:W.nsIn K mainGlobals "Compiler"=some (some (.ref C_Compiler)))
  (cl_Compiler:Cls K C_Compiler)
  (mk_Compiler:W.makesIn K C_Compiler=true)
  (kp_Compiler:W.keepIn K (.ref C_Compiler)=true)
  (na_Compiler_numbers:W.findIn K (.ref C_Compiler) "numbers"=some none)
  (na_Compiler_blocks:W.findIn K (.ref C_Compiler) "blocks"=some none)
  (hf:∀ f:Fn,∃ a fd,adP K (fun i=>match i with | 603=>C_Compiler | _=>0) f a∧Fun K (nS f) (tG f) (oE f) a fd∧jf K fd (jC f) [])
  (hn:∀ i:Nt,W.nsIn K mainGlobals (Cy i)=some none):
  ∃ (fd:FuncData) (T:Nat→Option Addr),(∀ (s:Shared) (u:Value),BindsTo s fd ⟨[u],[]⟩ [("_law_script",u)])∧FnP ⟨l.prog,w,K,mg,h,T⟩ (dl 100) fa fd ["_law_script"] (F 100 .law):=by
 let Y:Sys ⟨l.prog,w,K,mg,h,fun i=>match i with | 603=>some C_Compiler | _=>none⟩:= {
  adr:=fun f=>(hf f).choose
  fd:=fun f=>(hf f).choose_spec.choose
  ok:=fun f=>(hf f).choose_spec.choose_spec.2.1
  bi:=fun f=>(hf f).choose_spec.choose_spec.2.2
  m:=fun f hp=>W.mg_of X G (by have q:=(hf f).choose_spec.choose_spec.1;cases f<;>first | exact q | cases hp)
  n:=fun i=>W.mg_none_of X G (hn i)
  kls:=fun i=>match i with | 603=>C_Compiler | _=>0
  tb_Compiler:=rfl
  mc_Compiler:=W.mg_of X G aC_Compiler
  cl_Compiler:=cl_Compiler
  na_Compiler:=fun f hf=>by
   simp only [fnm,List.mem_cons,List.not_mem_nil,or_false] at hf
   rcases hf with rfl | rfl
   ·exact na_Compiler_numbers
   ·exact na_Compiler_blocks
  mo_Compiler:=⟨mk_Compiler,(hf .Compiler___init__).choose_spec.choose_spec.1.1,(hf .Compiler___init__).choose_spec.choose_spec.1.2,kp_Compiler⟩
  me_Compiler_compile_block:=(hf .Compiler_compile_block).choose_spec.choose_spec.1
  me_Compiler_rows_of:=(hf .Compiler_rows_of).choose_spec.choose_spec.1
  me_Compiler_rows_of_node:=(hf .Compiler_rows_of_node).choose_spec.choose_spec.1
  me_Compiler_rows_of_loop:=(hf .Compiler_rows_of_loop).choose_spec.choose_spec.1
  me_Compiler_rows_of_choice:=(hf .Compiler_rows_of_choice).choose_spec.choose_spec.1
  me_Compiler_rows_of_use:=(hf .Compiler_rows_of_use).choose_spec.choose_spec.1
  me_Compiler_number_of_body:=(hf .Compiler_number_of_body).choose_spec.choose_spec.1 }
 have e:=(Y.m .law rfl).symm.trans hfa
 obtain rfl:Y.adr .law=fa:=by injection e with e1;injection e1
 exact ⟨Y.fd .law,_,fun s v=>by obtain ⟨_,_,_,_,_,_,_,_,_,e,_⟩:=(Y.ok .law).ex;rw [e];exact .of_eq rfl,(oz Y 100).p .law⟩
end K22
namespace L3
open PySem L2
theorem Res.bind_ok{α β:Type}(a:α)(h:List PO)(k:α→List PO→Res β):(Res.ok a h).bind k=k a h:=rfl
theorem FH{α:Type}(a:α)(h:List PO):(Res.ok a h).calm= .ok a h:=rfl
theorem Fa(l:List Nat):(S l).cps.toList=l:=by simp [S]
theorem yH{n:Nat}{p:PV}(h:p.pure=true):ltv n p=true:=by
 cases p<;>first | exact h | (simp [PV.pure] at h)
theorem vY(ls:List (List Nat)):dU (ls.map PV.str)=some ls:=by
 induction ls with
 | nil=>rfl
 | cons l r ih=>simp [dU,ih]
theorem eG{α:Type}{xs:List α}{j:Int}{v:α}(h0:0≤j)(h:xs[j.toNat]? =some v):atI xs j=some v:=by
 have:=(List.getElem?_eq_some_iff.mp h).1
 simp only [atI,ixN,if_pos h0,if_pos (show j<xs.length by omega)]
 exact h
theorem mR{α:Type}(xs:List α)(v:α):atI (xs++ [v]) (-1)=some v:=by
 have e:(-1+((xs.length+1:Nat):Int)).toNat=xs.length:=by omega
 unfold atI ixN
 rw [if_neg (by decide),if_pos (by simp only [List.length_append,List.length_singleton];omega),List.length_append,List.length_singleton,e]
 simp
end L3
namespace L3
open PySem L2
section
variable (ρ:Ev) (h:List PO)
theorem IJ(v:PV):cK v ρ h= .ok v h:=rfl
theorem GV:aj ρ h= .ok [] h:=rfl
theorem EJ:fI ρ h= .ok none h:=rfl
theorem CN:bF ρ h= .ok true h:=rfl
theorem FD:cT ρ h= .nx ρ h:=rfl
@[simp] theorem AW(f g:Sx):aG f g ρ h=match f ρ h with | .nx ρ1 h1=>g ρ1 h1 | .rt v h1=>.rt v h1 | .bk ρ1 h1=>.bk ρ1 h1 | .ct ρ1 h1=>.ct ρ1 h1 | .exc v h1=>.exc v h1 | .bad=>.bad:=rfl
theorem EI:Dx ρ h= .rt .non h:=rfl
theorem Dj:BV ρ h= .bad:=rfl
theorem EK(g:Gx)(body:Sx):bg g body [] ρ h= .nx ρ h:=rfl
theorem GW(i:Nat)(p:PV):gNm i p ρ=some (ρ.set i (some p)):=rfl
end
section
variable (h:List PO)
theorem Hc(i:Int):aq h (.int i)= .int i:=rfl
theorem Ii(i:Bool):aq h (.bl i)= .bl i:=rfl
theorem GZ(i:List Nat):aq h (.str i)= .str i:=rfl
theorem Ha:aq h .non= .non:=rfl
theorem GY(i:List PV):aq h (.tup i)= .tup i:=rfl
theorem Hb(i:List PV):aq h (.lst i)= .lst i:=rfl
theorem Hf(i:List PV):aq h (.giv i)= .giv i:=rfl
theorem Hh(i:List (PK×PV)):aq h (.dct i)= .dct i:=rfl
theorem He(c:Nat)(i:List (Str×PV)):aq h (.ins c i)= .ins c i:=rfl
theorem FF(xs:List PV)(r:List PO):aq (.lst xs::r) (.ref 0)= .ref 0:=rfl
@[simp] theorem Da(a b:List PV):wF (.lst a) (.lst b) h=if a.length+b.length≤sizeLine then .ok (.lst (a++b)) h else .bad:=rfl
theorem FN(i j:Int):ke (.int i) (.int j) h= .ok (.int (i - j)) h:=rfl
theorem Gb(i j:Int):iP (.int i) (.int j) h=if hH i j=true then .ok (.int (i * j)) h else .bad:=rfl
theorem HA(C:Int→Int→Bool)(g:Int→Int→Int)(i j:Int):pI C g (.int i) (.int j) h=if C i j=true then .ok (.int (g i j)) h else .bad:=rfl
theorem HC(i:Int):jE (.int i) h= .ok (.int (-i)) h:=rfl
theorem Hl(g:Int→Int→Bool)(i j:Int):yr g (.int i) (.int j) h= .ok (.bl (g i j)) h:=rfl
theorem IH(p:PV):pIs p .non h= .ok (.bl (fL p)) h:=rfl
theorem FB(p:PV):kZ p .non h= .ok (.bl (!fL p)) h:=rfl
theorem HX(l:List Nat)(i:Int):pIx (.str l) (.int i) h=match atI l i with | some c=>if l.length≤sizeLine then .ok (.str [c]) h else .bad | none=>.bad:=rfl
@[simp] theorem nX(l:List PV)(i:Int):pIx (.lst l) (.int i) h=match atI l i with | some v=>.ok (aq h v) h | none=>.bad:=rfl
theorem DT(l:List Nat):bv [.str l] h=match (if l.length≤sizeLine then some l.length else none) with | some n=>.ok (.int n) h | none=>.bad:=rfl
theorem yI(l:List PV):bv [.tup l] h= .ok (.int l.length) h:=rfl
theorem lR(l:List PV):bv [.lst l] h= .ok (.int l.length) h:=rfl
@[simp] theorem Bo(l:List PV):bv [.giv l] h= .ok (.int l.length) h:=rfl
theorem Gg(ps:List PV):br ps h=if ps.length≤sizeLine then .ok (.lst ps) h else .bad:=rfl
theorem Fl(ps:List PV):eM ps h=if ps.length≤sizeLine then .ok (.ref h.length) (h++ [.lst ps]) else .bad:=rfl
theorem FM(ps:List PV):aS ps h=if ps.length≤sizeLine then .ok (.tup ps) h else .bad:=rfl
theorem FU(ps:List PV):okL ps h= .ok (.lst ps) h:=rfl
theorem Fi(ps:List PV):nT ps h= .ok (.ref h.length) (h++ [.lst ps]):=rfl
theorem Ib(b:Bool):qw [.bl b] h= .ok (.int (if b then 1 else 0)) h:=rfl
theorem Hv(i:Int):FS [.int i] h=if i.natAbs.log2<1920 then .ok (.str (Dw i)) h else .bad:=rfl
theorem Fe(l:List Nat):gC (.str l) h= .ok (l.map fun c=>PV.str [c]) h:=rfl
theorem Fd(l:List PV):gC (.tup l) h= .ok l h:=rfl
theorem Ff(l:List PV):gC (.lst l) h= .ok l h:=rfl
theorem FC(x:List Nat):sE h (.str x)=true:=rfl
theorem EB:frzs [] h=some ([],h):=rfl
theorem Dh(p:PV)(r:List PV):frzs (p::r) h=match ir h p with | some (q,h1)=>(match frzs r h1 with | some (qs,h2)=>some (q::qs,h2) | none=>none) | none=>none:=rfl
theorem DQ(a b:List Nat):yk (.str a) (.str b) h= .ok (.bl (!vj a b)) h:=rfl
theorem Hu(b:Bool):pT h (.bl b)=some b:=rfl
theorem Ht(b:Int):pT h (.int b)=some (b !=0):=rfl
theorem AM(l:List PV):eR [.tup l,.ty "tuple"] h= .ok (.bl true) h:=rfl
end
theorem szl:(sizeLine:Nat)=16777216:=by decide
theorem xe(fn:List PV→Out)(ps:List PV)(h:List PO):dv fn ps h=match frzs ps h with | some (qs,h2)=>(match fn qs with | .ok v=>.ok v h2 | .bad=>.bad) | none=>.bad:=rfl
theorem qF{i j:Int}(h:bel 18446744073709551616 j=true):hH i j=true:=by unfold hH;rw [h,Bool.true_or,Bool.or_true]
theorem yD{i j:Int}(h:bel 18446744073709551616 i=true):hH i j=true:=by unfold hH;rw [h,Bool.true_or]
theorem qx(a b:List Nat)(h:List PO)(ha:∀ c∈a,c<1114112)(hb:∀ c∈b,c<1114112):pEq (.str a) (.str b) h= .ok (.bl (decide (a=b))) h:=by
 have ok:∀ l:List Nat,(∀ c∈l,c<1114112)→okD h (.str l)=true:=by
  intro l hl
  unfold okD dOf
  simp only [toD,PyData.canLay0,PyData.depth]
  simp [PyData.strOk,S]
  exact hl
 unfold pEq
 rw [if_pos ⟨ok a ha,ok b hb⟩]
 have e:PyData.eqv (dOf h (.str a)) (dOf h (.str b))=decide (a=b):=by
  show PyData.eqv (toD (.str a)) (toD (.str b))=_
  simp only [toD,PyData.eqv]
  by_cases q:a=b
  ·subst q;simp
  ·have:¬ S a=S b:=fun z=>q (sV z)
   simp [q,this]
 rw [e]
end L3
namespace L3
open PySem L2
theorem oy{α:Type}{xs:List α}{i:Int}(d:α)(h0:0≤i)(h1:i<(xs.length:Int)):atI xs i=some (xs.getD i.toNat d):=by
 refine eG h0 ?_
 rw [List.getD_eq_getElem?_getD,List.getElem?_eq_getElem (by omega)];rfl
theorem eT{α:Type}{xs:List α}{n:Nat}{d:α}(h:n<xs.length):xs.getD n d∈xs:=by
 rw [List.getD_eq_getElem?_getD,List.getElem?_eq_getElem h];exact List.getElem_mem h
theorem pf:∀ ls:List (List Nat),jv [] ls=ls.flatten
 | []=>rfl
 | [x]=>by simp [jv]
 | x::y::r=>by
  show x++ []++jv [] (y::r)=_
  rw [pf (y::r),List.append_nil];rfl
theorem yp{sep:List Nat}{q:PV}{ls:List (List Nat)}{h:List L3.PO}(e:lsR h q=some (ls.map PV.str))(hz:(ls.map (fun l=>l.length)).sum+ls.length * sep.length≤16777216):lN (.str sep) [q] h= .ok (.str (jv sep ls)) h:=by
 unfold lN
 simp only [e,vY,hz,if_true]
theorem uS{ls:List (List Nat)}{h:List L3.PO}(hz:(ls.map (fun l=>l.length)).sum≤16777216):lN (.str []) [.lst (ls.map PV.str)] h= .ok (.str ls.flatten) h:=by
 rw [yp (ls:=ls) rfl (by simpa using hz),pf]
theorem EW(xs:List PV)(r:List L3.PO)(p:PV):bH (.ref 0) [p] (.lst xs::r)=if xs.length<sizeLine then .ok .non (.lst (xs++ [p])::r) else .bad:=rfl
theorem yU(xs:List PV)(r:List L3.PO):bM (.lst xs::r) (.ref 0)=true:=rfl
theorem Cq(a b:Int)(h:List L3.PO):pEq (.int a) (.int b) h= .ok (.bl (decide (a=b))) h:=by
 have ok:∀ l:Int,okD h (.int l)=true:=fun l=>by unfold okD dOf;simp [toD,PyData.canLay0,PyData.depth]
 unfold pEq
 rw [if_pos ⟨ok a,ok b⟩]
 have e:PyData.eqv (dOf h (.int a)) (dOf h (.int b))=decide (a=b):=by
  show PyData.eqv (toD (.int a)) (toD (.int b))=_
  simp only [toD,PyData.eqv]
  by_cases q:a=b<;>simp [q]
 rw [e]
theorem Cp(a b:Int)(h:List L3.PO):pNe (.int a) (.int b) h= .ok (.bl (!decide (a=b))) h:=by
 have ok:∀ l:Int,okD h (.int l)=true:=fun l=>by unfold okD dOf;simp [toD,PyData.canLay0,PyData.depth]
 unfold pNe
 rw [if_pos ⟨ok a,ok b⟩]
 have e:PyData.eqv (dOf h (.int a)) (dOf h (.int b))=decide (a=b):=by
  show PyData.eqv (toD (.int a)) (toD (.int b))=_
  simp only [toD,PyData.eqv]
  by_cases q:a=b<;>simp [q]
 rw [e]
theorem yl(a b:List Nat)(h:List L3.PO)(ha:∀ c∈a,c<1114112)(hb:∀ c∈b,c<1114112):pNe (.str a) (.str b) h= .ok (.bl (!decide (a=b))) h:=by
 have e:=qx a b h ha hb
 unfold pEq at e
 unfold pNe
 split at e
 ·rename_i hc
  rw [if_pos hc]
  injection e with e1 e2
  injection e1 with e1
  rw [e1]
 ·cases e
end L3
namespace L3
open PySem L2
end L3
namespace L3
open PySem L2
variable {m:Nat} {raw letters:List Nat}
end L3
namespace L3
open PySem L2
open PySem.NumText (digitsVal AllDigits)
end L3
namespace L3
open PySem L2
end L3
namespace L3
open PySem L2
section
variable (h:List L3.PO) (ρ:Ev)
theorem Fc(xs:List PV):cF [.lst xs] h= .ok (.tup xs) h:=rfl
end
theorem qy{l:List Nat}(h:List L3.PO)(hl:∀ c∈l,c<1114112):okD h (.str l)=true:=by
 unfold okD dOf
 simp only [toD,PyData.canLay0,PyData.depth]
 simp [PyData.strOk,S]
 exact hl
theorem CO(a b:List Nat)(ha:∀ c∈a,c<1114112)(hb:∀ c∈b,c<1114112):PyData.eqv (toD (.str a)) (toD (.str b))=decide (a=b):=by
 have:=qx a b [] ha hb
 unfold pEq at this
 rw [if_pos ⟨qy [] ha,qy [] hb⟩] at this
 injection this with this
 injection this
theorem vR{x:List Nat}(hx:∀ c∈x,c<1114112):∀ {ls:List (List Nat)},(∀ l∈ls,∀ c∈l,c<1114112)→((ls.map PV.str).any fun y=>PyData.eqv (toD y) (toD (.str x)))=decide (x∈ls)
 | [],_=>rfl
 | l::r,h=>by
  rw [List.map_cons,List.any_cons,CO l x (h l (by simp)) hx,vR hx fun z hz=>h z (List.mem_cons_of_mem _ hz),Bool.eq_iff_iff,Bool.or_eq_true,decide_eq_true_eq,decide_eq_true_eq,decide_eq_true_eq,List.mem_cons]
  exact or_congr eq_comm Iff.rfl
theorem oz:∀ {ls:List (List Nat)},(∀ l∈ls,∀ c∈l,c<1114112)→(ls.map PV.str).all (okD [])=true
 | [],_=>rfl
 | l::r,h=>by rw [List.map_cons,List.all_cons,qy [] (h l (by simp)),oz fun z hz=>h z (List.mem_cons_of_mem _ hz)];rfl
theorem Es{x:List Nat}{ls:List (List Nat)}(hx:∀ c∈x,c<1114112)(hl:∀ l∈ls,∀ c∈l,c<1114112)(h:List L3.PO):yq (.str x) (.tup (ls.map PV.str)) h=some (decide (x∈ls)):=by
 show (if okD [] (.str x)=true∧(ls.map PV.str).all (okD [])=true then some ((ls.map PV.str).any fun y=>PyData.eqv (toD y) (toD (.str x))) else none)=_
 rw [if_pos ⟨qy [] hx,oz hl⟩,vR hx hl]
theorem CH{x:List Nat}{ls:List (List Nat)}(hx:∀ c∈x,c<1114112)(hl:∀ l∈ls,∀ c∈l,c<1114112)(h:List L3.PO):pIn (.str x) (.tup (ls.map PV.str)) h= .ok (.bl (decide (x∈ls))) h:=by unfold pIn;rw [Es hx hl]
end L3
namespace L3
open PySem L2
section
variable (ρ:Ev) (h:List PO)
theorem De(C:Nat)(v:PV):Cl C (.ok [v] h)= .exc (.exa C v) h:=rfl
theorem Hg(C:Nat)(v:PV):aq h (.exa C v)= .exa C v:=rfl
theorem Di(C:Nat)(as:Ax):BU C as ρ h=match as ρ h with
 | .ok qs h1=>if qs.length≤sizeLine then .exc (.cls C) h1 else .bad
 | .exc e h1=>.exc e h1
 | .bad=>.bad:=rfl
end
end L3
namespace L3
open PySem L2
section
variable (ρ:Ev) (h:List PO)
theorem FE:vM ρ h= .ok (.ref h.length) (h++ [.dct []]):=rfl
theorem HF(l:List (PK×PV)):bv [.dct l] h= .ok (.int l.length) h:=rfl
theorem FG(l:List (PK×PV)):nM [.dct l] h= .ok (.ref h.length) (h++ [.dct l]):=rfl
theorem HY(l:List (PK×PV))(x:List Nat):pIx (.dct l) (.str x) h=match hZ l (.inr x) with | some v=>.ok (aq h v) h | none=>.bad:=rfl
theorem Ic(l:List (PK×PV))(x:List Nat):yk (.str x) (.dct l) h= .ok (.bl (!(hZ l (.inr x)).isSome)) h:=rfl
theorem FJ(i j:Int):ay (.int i) (.int j) h= .ok (.int (i+j)) h:=rfl
theorem FI(a b:List Nat):ay (.str a) (.str b) h=if a.length+b.length≤sizeLine then .ok (.str (a++b)) h else .bad:=rfl
theorem Ih(l:List (PK×PV))(r:List PO):aq (.dct l::r) (.ref 0)= .ref 0:=rfl
theorem Ig(a:PO)(l:List (PK×PV))(r:List PO):aq (a::.dct l::r) (.ref 1)= .ref 1:=rfl
theorem iZ{p:PV}(hp:p.pure=true):ir h p=some (p,h):=by
 cases p<;>first | (simp [PV.pure] at hp;done) | simp [ir,hp]
theorem mJ{p:PV}(hp:p.pure=true):aq h p=p:=by
 cases p<;>first | (simp [PV.pure] at hp;done) | rfl
theorem FP(v:PV)(l:List (PK×PV))(r:List PO)(x:List Nat):oO v (.ref 0) (.str x) ρ (.dct l::r)=if l.length<sizeLine then .nx ρ (.dct (jB l (.inr x) v)::r) else .bad:=rfl
theorem HZ(l:List (PK×PV))(r:List PO)(x:List Nat):pIx (.ref 0) (.str x) (.dct l::r)=match hZ l (.inr x) with | some v=>.ok (aq (.dct l::r) v) (.dct l::r) | none=>.bad:=rfl
theorem HE(a:PO)(l:List (PK×PV))(r:List PO):(sy (a::.dct l::r) (.ref 1)).isSome=true:=rfl
end
end L3
namespace L3
open PySem L2
section
variable {ρ:Ev} {h:List L3.PO}
theorem Ie(n:Nat)(gs:Gxs)(ps:List PV):gTp n gs (.tup ps) ρ=if ps.length=n then gs ps ρ else none:=rfl
theorem II:gg [] ρ=some ρ:=rfl
theorem GX(xs:List PV):uh [.lst xs] h= .ok (enL 0 xs) h:=rfl
theorem Hz(l:List Nat)(lo hi:Option Int):iH (.str l) lo hi h=if l.length≤sizeLine then .ok (.str (cut l lo hi)) h else .bad:=rfl
theorem uD(l:List PV)(lo hi:Option Int):iH (.lst l) lo hi h= .ok (.lst (cut l lo hi)) h:=rfl
theorem Gf(i j:Int):FT [.int i,.int j] h= .ok (.int (if j>i then j else i)) h:=rfl
end
end L3
namespace L3
open PySem L2
end L3
namespace L3
open PySem L2
section
variable (ρ:Ev) (h:List PO)
theorem HD(xs:List PV):iQ (.tup xs) h=match dU xs with | some ls=>if ls.length+1<scanBound then .ok (.int (kQ ls:Nat)) h else .bad | none=>.bad:=rfl
end
end L3
namespace L3
open PySem L2
section
variable (ρ:Ev) (h:List PO) (a K xa:PV) (b:Ev) (c d e f g i j k l m n o p q r s t u v y:Option PV) (w:Nat) (x I O:Ex) (z A:Sx) (B:PV→List PO→Res PV) (C:List PV→List PO→Res PV) (D:Ax) (E:List PV→Out) (G:List PV→Res PV) (H N:PV→PV→List PO→Res PV) (J:List PV) (L:Bool) (M W:Tx) (P Q:Ox) (R:PV→Option Int→Option Int→List PO→Res PV) (S:Option Int) (T:Int) (U:List PO→PV→Bool) (V:PV→List PV→List PO→Res PV) (X:List Nat) (Y:Gx) (Z:PV→PV→PV→Ev→List PO→SR) (xb:Gxs)
theorem kv0:af 0 (some a::b) h= .ok (aq h a) h:=rfl
theorem kv1:af 1 (c::some a::b) h= .ok (aq h a) h:=rfl
theorem kv2:af 2 (c::d::some a::b) h= .ok (aq h a) h:=rfl
theorem kv3:af 3 (c::d::e::some a::b) h= .ok (aq h a) h:=rfl
theorem kv4:af 4 (c::d::e::f::some a::b) h= .ok (aq h a) h:=rfl
theorem kv5:af 5 (c::d::e::f::g::some a::b) h= .ok (aq h a) h:=rfl
theorem kv6:af 6 (c::d::e::f::g::i::some a::b) h= .ok (aq h a) h:=rfl
theorem kv7:af 7 (c::d::e::f::g::i::j::some a::b) h= .ok (aq h a) h:=rfl
theorem kv8:af 8 (c::d::e::f::g::i::j::k::some a::b) h= .ok (aq h a) h:=rfl
theorem kv9:af 9 (c::d::e::f::g::i::j::k::l::some a::b) h= .ok (aq h a) h:=rfl
theorem Iu:af 10 (c::d::e::f::g::i::j::k::l::m::some a::b) h= .ok (aq h a) h:=rfl
theorem It:af 11 (c::d::e::f::g::i::j::k::l::m::n::some a::b) h= .ok (aq h a) h:=rfl
theorem Ir:af 12 (c::d::e::f::g::i::j::k::l::m::n::o::some a::b) h= .ok (aq h a) h:=rfl
theorem Iq:af 13 (c::d::e::f::g::i::j::k::l::m::n::o::p::some a::b) h= .ok (aq h a) h:=rfl
def kSt(i:Nat)(ρ:Ev)(r:Res PV):SR:=dB r fun v h1=>.nx (ρ.set i (some v)) h1
theorem Fr:aK w x ρ h=kSt w ρ (x ρ h):=rfl
theorem ks0:kSt 0 (c::b) (.ok a h)= .nx (some a::b) h:=rfl
theorem ks1:kSt 1 (c::d::b) (.ok a h)= .nx (c::some a::b) h:=rfl
theorem ks2:kSt 2 (c::d::e::b) (.ok a h)= .nx (c::d::some a::b) h:=rfl
theorem ks3:kSt 3 (c::d::e::f::b) (.ok a h)= .nx (c::d::e::some a::b) h:=rfl
theorem ks4:kSt 4 (c::d::e::f::g::b) (.ok a h)= .nx (c::d::e::f::some a::b) h:=rfl
theorem ks5:kSt 5 (c::d::e::f::g::i::b) (.ok a h)= .nx (c::d::e::f::g::some a::b) h:=rfl
theorem ks6:kSt 6 (c::d::e::f::g::i::j::b) (.ok a h)= .nx (c::d::e::f::g::i::some a::b) h:=rfl
theorem ks7:kSt 7 (c::d::e::f::g::i::j::k::b) (.ok a h)= .nx (c::d::e::f::g::i::j::some a::b) h:=rfl
theorem ks8:kSt 8 (c::d::e::f::g::i::j::k::l::b) (.ok a h)= .nx (c::d::e::f::g::i::j::k::some a::b) h:=rfl
theorem ks9:kSt 9 (c::d::e::f::g::i::j::k::l::m::b) (.ok a h)= .nx (c::d::e::f::g::i::j::k::l::some a::b) h:=rfl
theorem ID:kSt 10 (c::d::e::f::g::i::j::k::l::m::n::b) (.ok a h)= .nx (c::d::e::f::g::i::j::k::l::m::some a::b) h:=rfl
theorem IC:kSt 11 (c::d::e::f::g::i::j::k::l::m::n::o::b) (.ok a h)= .nx (c::d::e::f::g::i::j::k::l::m::n::some a::b) h:=rfl
theorem IB:kSt 12 (c::d::e::f::g::i::j::k::l::m::n::o::p::b) (.ok a h)= .nx (c::d::e::f::g::i::j::k::l::m::n::o::some a::b) h:=rfl
theorem IA:kSt 13 (c::d::e::f::g::i::j::k::l::m::n::o::p::q::b) (.ok a h)= .nx (c::d::e::f::g::i::j::k::l::m::n::o::p::some a::b) h:=rfl
theorem Go:kSt w ρ (.exc a h)= .exc a h:=rfl
def uG(g:Sx)(r:SR):SR:=match r with
 | .nx ρ1 h1=>g ρ1 h1
 | .rt v h1=>.rt v h1
 | .bk ρ1 h1=>.bk ρ1 h1
 | .ct ρ1 h1=>.ct ρ1 h1
 | .exc v h1=>.exc v h1
 | .bad=>.bad
theorem Fs:aG z A ρ h=uG A (z ρ h):=rfl
theorem Hy:uG z (.nx ρ h)=z ρ h:=rfl
theorem Hx:uG z (.rt a h)= .rt a h:=rfl
theorem FO:uG z (.exc a h)= .exc a h:=rfl
def kg{α β:Type}(f:α→List PO→Res β)(r:Res α):Res β:=r.bind f
theorem HM{α β:Type}(f:α→List PO→Res β)(a:α):kg f (.ok a h)=f a h:=rfl
theorem HL:c1 B x ρ h=kg B (x ρ h):=rfl
theorem HI:cN C D ρ h=kg C (D ρ h):=rfl
theorem Fw:bP E D ρ h=kg (dv E) (D ρ h):=rfl
theorem Ed:aM C D ρ h=kg (callL C) (D ρ h):=rfl
theorem Fx:gx x ρ h=kg gC (x ρ h):=rfl
theorem Ee:sU D ρ h=kg uh (D ρ h):=rfl
theorem HH:cFz x ρ h=kg fzR (x ρ h):=rfl
def k2(g:PV→PV→List PO→Res PV)(b:Ex)(ρ:Ev)(r:Res PV):Res PV:=r.bind fun x h1=>kg (g x) (b ρ h1)
theorem HK:c2 H x I ρ h=k2 H I ρ (x ρ h):=rfl
theorem HW:k2 H x ρ (.ok a h)=kg (H a) (x ρ h):=rfl
def kC2(x:PV)(r:Res (List PV)):Res (List PV):=r.bind fun xs h2=>.ok (x::xs) h2
def kC(r:Ax)(ρ:Ev)(x:Res PV):Res (List PV):=x.bind fun x h1=>kC2 x (r ρ h1)
theorem Fv:ab x D ρ h=kC D ρ (x ρ h):=rfl
theorem HU:kC D ρ (.ok a h)=kC2 a (D ρ h):=rfl
theorem GJ:kC2 a (.ok J h)= .ok (a::J) h:=rfl
def kOr(g:Ex)(ρ:Ev)(r:Res PV):Res PV:=r.bind fun p h1=>match p with | .bl b=>if b=true then .ok (.bl true) h1 else g ρ h1 | _=>.bad
theorem HG:cOr x I ρ h=kOr I ρ (x ρ h):=rfl
theorem HP:kOr x ρ (.ok (.bl L) h)=if L=true then .ok (.bl true) h else x ρ h:=rfl
def kIe(f g:Ex)(ρ:Ev)(r:Res Bool):Res PV:=r.bind fun b h1=>if b=true then f ρ h1 else g ρ h1
theorem Gm:Bc M x I ρ h=kIe x I ρ (M ρ h):=rfl
theorem GD:kIe x I ρ (.ok L h)=if L=true then x ρ h else I ρ h:=rfl
def kL2(f:PV→Option Int→Option Int→List PO→Res PV)(hi:Ox)(ρ:Ev)(p:PV)(r:Res (Option Int)):Res PV:=r.bind fun l h2=>kg (f p l) (hi ρ h2)
def kL1(f:PV→Option Int→Option Int→List PO→Res PV)(lo hi:Ox)(ρ:Ev)(r:Res PV):Res PV:=r.bind fun p h1=>kL2 f hi ρ p (lo ρ h1)
theorem Gj:iI x P Q ρ h=kL1 iH P Q ρ (x ρ h):=rfl
theorem Gz:kL1 R P Q ρ (.ok a h)=kL2 R Q ρ a (P ρ h):=rfl
theorem Gy:kL2 R P ρ a (.ok S h)=kg (R a S) (P ρ h):=rfl
def kO(r:Res PV):Res (Option Int):=r.bind fun p h1=>match p with | .int i=>.ok (some i) h1 | _=>.bad
theorem Eb:eS x ρ h=kO (x ρ h):=rfl
theorem IF:kO (.ok (.int T) h)= .ok (some T) h:=rfl
def kM(recv:List PO→PV→Bool)(g:PV→List PV→List PO→Res PV)(as:Ax)(ρ:Ev)(r:Res PV):Res PV:=r.bind fun p h1=>if recv h1 p=true then kg (g p) (as ρ h1) else .bad
theorem HJ:cM U V x D ρ h=kM U V D ρ (x ρ h):=rfl
theorem HQ:kM U V D ρ (.ok a h)=if U h a=true then kg (V a) (D ρ h) else .bad:=rfl
def kTo(h:List PO)(o:Option Bool):Res Bool:=match o with | some b=>.ok b h | none=>.bad
def kTr(r:Res PV):Res Bool:=r.bind fun p h1=>kTo h1 (pT h1 p)
theorem Fm:iK x ρ h=kTr (x ρ h):=rfl
theorem Gu:kTr (.ok a h)=kTo h (pT h a):=rfl
theorem HN:kTo h (some L)= .ok L h:=rfl
def kCm(r:Res PV):Res Bool:=r.bind fun p h1=>match p with | .bl b=>.ok b h1 | _=>.bad
theorem Fo:aJ x ρ h=kCm (x ρ h):=rfl
theorem HS:kCm (.ok (.bl L) h)= .ok L h:=rfl
def kTa(g:Tx)(ρ:Ev)(r:Res Bool):Res Bool:=r.bind fun b h1=>if b=true then g ρ h1 else .ok false h1
theorem Fp:oK M W ρ h=kTa W ρ (M ρ h):=rfl
theorem Gv:kTa M ρ (.ok L h)=if L=true then M ρ h else .ok false h:=rfl
def kTu(g:Tx)(ρ:Ev)(r:Res Bool):Res Bool:=r.bind fun b h1=>if b=true then .ok true h1 else g ρ h1
theorem Gi:pV M W ρ h=kTu W ρ (M ρ h):=rfl
theorem Gs:kTu M ρ (.ok L h)=if L=true then .ok true h else M ρ h:=rfl
def kR1(ps:List PV)(h1:List PO):Res (List PV):=match ps with | [.int j]=>if bel 4611686018427387904 j=true then .ok ((List.range j.toNat).map fun i=>PV.int (0+(i:Nat))) h1 else .bad | _=>.bad
theorem Df:dT D ρ h=kg kR1 (D ρ h):=rfl
theorem HO(j:Int):kR1 [.int j] h=if bel 4611686018427387904 j=true then .ok ((List.range j.toNat).map fun i=>PV.int (0+(i:Nat))) h else .bad:=rfl
def kCo(caps:List Nat)(tt:Tx)(te:Ex)(ρ:Ev)(r:Res (List PV)):Res (List PV):=r.bind fun xs h1=>if xs.length<sizeLine then (bZ tt te (bW caps ρ) xs h1).calm else .bad
theorem Ef:cS X D M x ρ h=kCo X M x ρ (D ρ h):=rfl
theorem GH:kCo X M x ρ (.ok J h)=if J.length<sizeLine then (bZ M x (bW X ρ) J h).calm else .bad:=rfl
def kCp(caps:List Nat)(tt:Tx)(te:Ex)(ρ:Ev)(r:Res (List PV)):Res (List PV):=r.bind fun xs h1=>if xs.length<sizeLine then (eE tt te (bW caps ρ) xs h1).calm else .bad
theorem Dg:fw X D M x ρ h=kCp X M x ρ (D ρ h):=rfl
theorem GG:kCp X M x ρ (.ok J h)=if J.length<sizeLine then (eE M x (bW X ρ) J h).calm else .bad:=rfl
def kRt(r:Res PV):SR:=dB r fun v h1=>.rt v h1
theorem Ft:bS x ρ h=kRt (x ρ h):=rfl
theorem Gw(v:PV):kRt (.ok v h)= .rt v h:=rfl
theorem Fy(v:PV):kRt (.exc v h)= .exc v h:=rfl
def kDr(ρ:Ev)(r:Res PV):SR:=dB r fun _ h1=>.nx ρ h1
theorem Ea:cf x ρ h=kDr ρ (x ρ h):=rfl
theorem GF:kDr ρ (.ok a h)= .nx ρ h:=rfl
theorem FA:kDr ρ (.exc a h)= .exc a h:=rfl
def kIf(f g:Sx)(ρ:Ev)(r:Res Bool):SR:=zB r fun b h1=>if b=true then f ρ h1 else g ρ h1
theorem Gk:sIf M z A ρ h=kIf z A ρ (M ρ h):=rfl
theorem GC:kIf z A ρ (.ok L h)=if L=true then z ρ h else A ρ h:=rfl
def kFo(g:Gx)(body:Sx)(ρ:Ev)(r:Res (List PV)):SR:=Bq r fun xs h1=>bg g body xs ρ h1
theorem Fu:iN D Y z ρ h=kFo Y z ρ (D ρ h):=rfl
theorem GE:kFo Y z ρ (.ok J h)=bg Y z J ρ h:=rfl
def kX3(s:PV→PV→PV→Ev→List PO→SR)(ρ:Ev)(v o:PV)(r:Res PV):SR:=dB r fun i h3=>s v o i ρ h3
def kX2(s:PV→PV→PV→Ev→List PO→SR)(fi:Ex)(ρ:Ev)(v:PV)(r:Res PV):SR:=dB r fun o h2=>kX3 s ρ v o (fi ρ h2)
def kX1(s:PV→PV→PV→Ev→List PO→SR)(fo fi:Ex)(ρ:Ev)(r:Res PV):SR:=dB r fun v h1=>kX2 s fi ρ v (fo ρ h1)
theorem DZ:fR x I O ρ h=kX1 dG x I ρ (O ρ h):=rfl
theorem Fq:uH x I O ρ h=kX1 oO x I ρ (O ρ h):=rfl
theorem Gr:kX1 Z x I ρ (.ok a h)=kX2 Z I ρ a (x ρ h):=rfl
theorem Gq:kX2 Z x ρ a (.ok K h)=kX3 Z ρ a K (x ρ h):=rfl
theorem Gp:kX3 Z ρ a K (.ok xa h)=Z a K xa ρ h:=rfl
def kAo(h:List PO)(o:Option Ev):SR:=match o with | some ρ1=>.nx ρ1 h | none=>.bad
def kAs(g:Gx)(ρ:Ev)(r:Res PV):SR:=dB r fun v h1=>kAo h1 (g v ρ)
theorem Gn:wf Y x ρ h=kAs Y ρ (x ρ h):=rfl
theorem GK:kAs Y ρ (.ok a h)=kAo h (Y a ρ):=rfl
theorem HV:kAo h (some ρ)= .nx ρ h:=rfl
def kG(gs:Gxs)(r:List PV)(o:Option Ev):Option Ev:=match o with | some ρ1=>gs r ρ1 | none=>none
theorem IE:bR Y xb (a::J) ρ=kG xb J (Y a ρ):=rfl
theorem IG:kG xb J (some ρ)=xb J ρ:=rfl
def kIx(h:List PO)(o:Option PV):Res PV:=match o with | some v=>.ok (aq h v) h | none=>.bad
theorem yQ:kIx h (some a)= .ok (aq h a) h:=rfl
theorem DW:pIx (.tup J) (.int T) h=kIx h (atI J T):=rfl
theorem DX:pIx (.lst J) (.int T) h=kIx h (atI J T):=rfl
theorem DY:pIx (.giv J) (.int T) h=kIx h (atI J T):=rfl
end
end L3
namespace L3
open PySem L2
section
variable (ρ:Ev) (h:List PO) (a b:PV) (w j:Nat) (x y:Ex) (z g:Sx) (C:List PV→List PO→Res PV) (D:Ax) (J:List PV) (o:Option (Nat×List PV)) (f:Nat→Bool) (i:Nat)
theorem DP:CV C D ρ h=kg C (D ρ h):=rfl
def nMa(C:List PV→List PO→Res PV)(p:PV)(r:Res (List PV)):Res PV:=r.bind fun ps h2=>C (p::ps) h2
def nMo(w:Nat)(C:List PV→List PO→Res PV)(D:Ax)(ρ:Ev)(r:Res PV):Res PV:=r.bind fun p h1=>if (oH w h1 p).isSome=true then nMa C p (D ρ h1) else .bad
theorem Fh:eF w C x D ρ h=nMo w C D ρ (x ρ h):=by
 unfold eF nMo
 cases x ρ h with
 | ok p h1=>
  show (match oH w h1 p with | some _=>_ | none=>_)=_
  cases q:oH w h1 p with
  | none=>simp [Res.bind,q]
  | some _=>simp [Res.bind,q,nMa]
 | exc _ _=>rfl
 | bad=>rfl
theorem FZ:nMo w C D ρ (.ok a h)=if (oH w h a).isSome=true then nMa C a (D ρ h) else .bad:=rfl
theorem Ga:nMa C a (.ok J h)=C (a::J) h:=rfl
theorem FX:Bb w C D ρ h=kg (mkO w C) (D ρ h):=rfl
def CB(w j:Nat)(ρ:Ev)(v:PV)(r:Res PV):SR:=dB r fun o h2=>wc w j v o ρ h2
def DR(w j:Nat)(fo:Ex)(ρ:Ev)(r:Res PV):SR:=dB r fun v h1=>CB w j ρ v (fo ρ h1)
theorem Fg:uI w j x y ρ h=DR w j x ρ (y ρ h):=rfl
theorem Fk:DR w j x ρ (.ok a h)=CB w j ρ a (x ρ h):=rfl
theorem Fj:CB w j ρ a (.ok b h)=wc w j a b ρ h:=rfl
theorem FW:Hq D ρ h=kg BG (D ρ h):=rfl
theorem FK(J K:List PV):BG [.tup J,.tup K] h= .ok (zpL J K) h:=rfl
end
end L3
namespace L3
open PySem L2
section
variable (h:List PO) (a:PV) (b:Ev) (c0 c1 c2 c3 c4 c5 c6 c7 c8 c9 c10 c11 c12 c13 c14 c15 c16 c17 c18:Option PV)
theorem Ip:af 14 (c0::c1::c2::c3::c4::c5::c6::c7::c8::c9::c10::c11::c12::c13::some a::b) h= .ok (aq h a) h:=rfl
theorem Iz:kSt 14 (c0::c1::c2::c3::c4::c5::c6::c7::c8::c9::c10::c11::c12::c13::c14::b) (.ok a h)= .nx (c0::c1::c2::c3::c4::c5::c6::c7::c8::c9::c10::c11::c12::c13::some a::b) h:=rfl
theorem Io:af 15 (c0::c1::c2::c3::c4::c5::c6::c7::c8::c9::c10::c11::c12::c13::c14::some a::b) h= .ok (aq h a) h:=rfl
theorem Iy:kSt 15 (c0::c1::c2::c3::c4::c5::c6::c7::c8::c9::c10::c11::c12::c13::c14::c15::b) (.ok a h)= .nx (c0::c1::c2::c3::c4::c5::c6::c7::c8::c9::c10::c11::c12::c13::c14::some a::b) h:=rfl
theorem Im:af 16 (c0::c1::c2::c3::c4::c5::c6::c7::c8::c9::c10::c11::c12::c13::c14::c15::some a::b) h= .ok (aq h a) h:=rfl
theorem Ix:kSt 16 (c0::c1::c2::c3::c4::c5::c6::c7::c8::c9::c10::c11::c12::c13::c14::c15::c16::b) (.ok a h)= .nx (c0::c1::c2::c3::c4::c5::c6::c7::c8::c9::c10::c11::c12::c13::c14::c15::some a::b) h:=rfl
theorem Il:af 17 (c0::c1::c2::c3::c4::c5::c6::c7::c8::c9::c10::c11::c12::c13::c14::c15::c16::some a::b) h= .ok (aq h a) h:=rfl
theorem Iw:kSt 17 (c0::c1::c2::c3::c4::c5::c6::c7::c8::c9::c10::c11::c12::c13::c14::c15::c16::c17::b) (.ok a h)= .nx (c0::c1::c2::c3::c4::c5::c6::c7::c8::c9::c10::c11::c12::c13::c14::c15::c16::some a::b) h:=rfl
theorem Ik:af 18 (c0::c1::c2::c3::c4::c5::c6::c7::c8::c9::c10::c11::c12::c13::c14::c15::c16::c17::some a::b) h= .ok (aq h a) h:=rfl
theorem Iv:kSt 18 (c0::c1::c2::c3::c4::c5::c6::c7::c8::c9::c10::c11::c12::c13::c14::c15::c16::c17::c18::b) (.ok a h)= .nx (c0::c1::c2::c3::c4::c5::c6::c7::c8::c9::c10::c11::c12::c13::c14::c15::c16::c17::some a::b) h:=rfl
end
section
variable (ρ:Ev) (h:List PO) (x y:Ex) (D:Ax)
theorem Ec:ut x ρ h=kg vh (x ρ h):=rfl
theorem Ia(J:List (PK×PV)):vh (.dct J) h= .ok (ua J) h:=rfl
theorem Gh(J:List PV):lM [.tup J] h= .ok (.lst J) h:=rfl
theorem Ge(i j:Int):yn [.int i,.int j] h= .ok (.int (if j<i then j else i)) h:=rfl
end
end L3
namespace K22
open PySem L2 L3
local macro_rules | `(tactic| simp $c:optConfig only [EV,$xs,*])=>do let a←(("EN Res.bind_ok FH IJ GV EJ CN FD EI Dj EK GW Hc Ii GZ Ha GY Hb Hf Hh He FF FN Gb HA HC Hl IH FB HX DT yI lR Gg Fl FM FU Fi Ib Hv Fe Fd Ff FC EB Dh DQ Hu Ht AM szl Fc De Hg Di FE HF FG HY Ic FJ FI Ih Ig FP HZ HE Ie II GX Hz uD Gf HD kv0 kv1 kv2 kv3 kv4 kv5 kv6 kv7 kv8 kv9 Iu It Ir Iq Fr ks0 ks1 ks2 ks3 ks4 ks5 ks6 ks7 ks8 ks9 ID IC IB IA Go Fs Hy Hx FO HM HL HI Fw Ed Fx Ee HH HK HW Fv HU GJ HG HP Gm GD Gj Gz Gy Eb IF HJ HQ Fm Gu HN Fo HS Fp Gv Gi Gs Df HO Ef GH Dg GG Ft Gw Fy Ea GF FA Gk GC Fu GE DZ Fq Gr Gq Gp Gn GK HV IE IG yQ DW DX DY DP Fh FZ Ga FX Fg Fk Fj FW FK Ip Iz Io Iy Im Ix Il Iw Ik Iv Ec Ia Gh Ge".splitOn.map fun n=>`L3++n.toName)++("List.getElem?_cons_zero List.getElem?_cons_succ List.set_cons_zero List.set_cons_succ List.map_cons List.map_nil List.append_nil List.nil_append List.cons_append if_true if_false reduceIte Bool.not_true Bool.not_false Bool.true_and Bool.false_and Bool.and_true Bool.and_false Bool.true_or Bool.false_or Bool.or_true Bool.or_false Bool.not_not eq_self_iff_true true_and and_true Bool.false_eq_true reduceCtorEq List.length_cons List.length_nil List.replicate Nat.sub_self Nat.zero_add Option.isSome_some Option.isSome_none Nat.reduceAdd Nat.reduceLeDiff Int.reduceLT Int.reduceLE decide_true decide_false Int.reduceNeg Int.reducePow Nat.reducePow Int.reduceAdd Int.reduceMul Int.reduceSub Nat.reduceSub and_self Nat.reduceMul Nat.reduceEqDiff".splitOn.map fun n=>n.toName)).toArray.mapM fun n=>`(Lean.Parser.Tactic.simpLemma| $(Lean.mkIdent n):term);`(tactic| simp $c:optConfig only [$a,*,$xs,*])
local macro_rules | `(tactic| simp $c:optConfig only [EX,$xs,*])=>do let a←(("uZ ot jd DF Dm zp qG FR at0 at1 at2 at3 at4 GN GM GL Cq Cp FY kt1 kt2 kt3 kt4 kt5 kt6 kt7 tgs Ej Ek El Ei Eh CY mE CE mls".splitOn.map fun n=>n.toName)).toArray.mapM fun n=>`(Lean.Parser.Tactic.simpLemma| $(Lean.mkIdent n):term);`(tactic| simp $c:optConfig only [EV,$a,*,$xs,*])
local macro_rules | `(tactic| simp $c:optConfig only [EY,$xs,*])=>do let a←(("dM bO EU Hn Hm Hp Ho".splitOn.map fun n=>n.toName)).toArray.mapM fun n=>`(Lean.Parser.Tactic.simpLemma| $(Lean.mkIdent n):term);`(tactic| simp $c:optConfig only [EX,$a,*,$xs,*])
structure Pth where
 a:List Nat
 f:List (List Nat)
def pth(p:Pth):PV:=.tup (.str p.a::p.f.map PV.str)
def pths(l:List Pth):List PV:=l.map pth
def nms(l:List (List Nat)):PV:=.tup (l.map PV.str)
mutual
inductive Nd where
 | text (s:List Nat)
 | place (p:Pth) (w:List Nat)
 | loop (n:List Nat) (p:Pth) (ns:Nds) (b:List Nat)
 | choice (p:Pth) (y n:Nds)
 | use (n:List Nat) (ps:List Pth)
 | usew (n:List Nat) (ps:List Pth) (h:List (List Nat)) (b:Nds)
 | body (ps:List Pth)
inductive Nds where
 | nil
 | cons (n:Nd) (r:Nds)
end
abbrev tT:List Nat:= [116,101,120,116]
abbrev tP:List Nat:= [112,108,97,99,101]
abbrev tL:List Nat:= [108,111,111,112]
abbrev tC:List Nat:= [99,104,111,105,99,101]
abbrev tU:List Nat:= [117,115,101]
abbrev tB:List Nat:= [98,111,100,121]
abbrev tI:List Nat:= [112,105,101,99,101]
mutual
def nd:Nd→PV
 | .text s=>.tup [.str tT,.str s]
 | .place p w=>.tup [.str tP,pth p,.str w]
 | .loop n p ns b=>.tup [.str tL,.str n,pth p,.tup (nds ns),.str b]
 | .choice p y n=>.tup [.str tC,pth p,.tup (nds y),.tup (nds n)]
 | .use n ps=>.tup [.str tU,.str n,.tup (pths ps),.non,.non]
 | .usew n ps h b=>.tup [.str tU,.str n,.tup (pths ps),nms h,.tup (nds b)]
 | .body ps=>.tup [.str tB,.tup (pths ps)]
def nds:Nds→List PV
 | .nil=> []
 | .cons n r=>nd n::nds r
end
structure Pc where
 n:List Nat
 ns:List (List Nat)
 m:Option Int
 b:Nds
def mny:Option Int→PV
 | none=>.non
 | some i=>.int i
def pc(q:Pc):PV:=.tup [.str tI,.str q.n,nms q.ns,mny q.m,.tup (nds q.b)]
def bk(l:List Pc):PV:=.tup (l.map pc)
def out(ns:List (List Nat))(p:Pth):Bool:=!ns.contains p.a
def look(E:List Pc)(n:List Nat):Option Pc:=E.find? fun q=>q.n==n
def dup(l:List (List Nat)):Bool:=decide (kQ l<l.length)
theorem cO{g:Gx}{b:Sx}{p:PV}{r:List PV}{ρ ρ1 ρ2:Ev}{h h2:List PO}(hg:g p ρ=some ρ1)(hb:b ρ1 h= .nx ρ2 h2):bg g b (p::r) ρ h=bg g b r ρ2 h2:=by simp only [bg,hg,hb]
theorem at0{α:Type}(a:α)(l:List α):atI (a::l) 0=some a:=eG (by decide) rfl
theorem at1{α:Type}(a b:α)(l:List α):atI (a::b::l) 1=some b:=eG (by decide) rfl
theorem at2{α:Type}(a b c:α)(l:List α):atI (a::b::c::l) 2=some c:=eG (by decide) rfl
theorem at3{α:Type}(a b c d:α)(l:List α):atI (a::b::c::d::l) 3=some d:=eG (by decide) rfl
theorem at4{α:Type}(a b c d e:α)(l:List α):atI (a::b::c::d::e::l) 4=some e:=eG (by decide) rfl
theorem eqk{a b:List Nat}(c:Bool)(e:(match pEq (.str a) (.str b) [] with | .ok (.bl d) _=>d==c | _=>false)=true:=by kernel_rfl)(h:List PO):pEq (.str a) (.str b) h= .ok (.bl c) h:=by
 unfold pEq at e ⊢
 split at e
 ·rename_i d h' z
  split at z
  ·rename_i ok
   cases z
   have:okD h (.str a)=true∧okD h (.str b)=true:=ok
   rw [if_pos this]
   have q:=eq_of_beq e
   rw [show dOf h (.str a)=dOf [] (.str a) from rfl,show dOf h (.str b)=dOf [] (.str b) from rfl,q]
  ·cases z
 ·cases e
theorem gR:∀ l:List (List Nat),am (l.map PV.str)=true
 | []=>rfl
 | a::r=>by rw [List.map_cons,am,gR r];rfl
theorem dK(p:Pth):(pth p).pure=true:=by unfold pth;rw [PV.pure,am,gR];rfl
theorem eZ:∀ l:List Pth,am (pths l)=true
 | []=>rfl
 | a::r=>by show am (pth a::pths r)=true;rw [am,dK,eZ r];rfl
theorem fJ(l:List (List Nat)):(nms l).pure=true:=by unfold nms;rw [PV.pure];exact gR l
mutual
theorem mG:∀ n:Nd,(nd n).pure=true
 | .text s=>by simp [nd,PV.pure,am]
 | .place p w=>by simp [nd,PV.pure,am,dK]
 | .loop n p ns b=>by simp [nd,PV.pure,am,dK,du ns]
 | .choice p y n=>by simp [nd,PV.pure,am,dK,du y,du n]
 | .use n ps=>by simp [nd,PV.pure,am,eZ]
 | .usew n ps h b=>by simp [nd,PV.pure,am,eZ,fJ,du b]
 | .body ps=>by simp [nd,PV.pure,am,eZ]
theorem du:∀ n:Nds,am (nds n)=true
 | .nil=>by simp [nds,am]
 | .cons n r=>by simp [nds,am,mG n,du r]
end
theorem fM{p:PV}{h:List L3.PO}(hp:p.pure=true):gh p h= .ok p:=by
 unfold gh;rw [iZ h hp]
theorem zp(h:List PO)(p:Pth):aq h (pth p)=pth p:=rfl
theorem ot(h:List PO)(p:List (List Nat)):aq h (nms p)=nms p:=rfl
def pa:Nd→List Pth
 | .text _=> []
 | .place p _=> [p]
 | .loop _ p _ _=> [p]
 | .choice p _ _=> [p]
 | .use _ ps=>ps
 | .usew _ ps _ _=>ps
 | .body ps=>ps
def sgc(l:List Nat):Bool:=l.all fun c=>decide (c=10∨(32≤c∧c<127))
def sg(l:List Nat):Bool:=decide (l.length≤17)&&sgc l
theorem wb{l:List Nat}(h:sg l=true):sgc l=true:=((Bool.and_eq_true _ _).mp h).2
theorem tq{l:List Nat}(h:sg l=true):l.length≤17:=of_decide_eq_true ((Bool.and_eq_true _ _).mp h).1
theorem lJ{l:List Nat}(h:sg l=true):∀ c∈l,c<1114112:=fun c hc=>by have:=of_decide_eq_true (List.all_eq_true.mp (wb h) c hc);omega
def sgs(l:List (List Nat)):Bool:=l.all sg
theorem iL:∀ l:List (List Nat),dU (l.map PV.str)=some l
 | []=>rfl
 | a::r=>by rw [List.map_cons,dU,iL r];rfl
theorem GN:fL .non=true:=rfl
theorem GM(i:Int):fL (.int i)=false:=rfl
theorem GL(l:List PV):fL (.tup l)=false:=rfl
theorem vk:∀ {l:List PV} (h:List PO),am l=true→frzs l h=some (l,h)
 | [],_,_=>rfl
 | p::r,h,e=>by
  rw [am,Bool.and_eq_true] at e
  rw [frzs,iZ h e.1]
  dsimp only
  rw [vk h e.2]
theorem cH{fn:List PV→Out}{ps:List PV}{v:PV}(h:List PO)(hp:am ps=true)(e:fn ps= .ok v):dv fn ps h= .ok v h:=by
 rw [xe,vk h hp]
 dsimp only
 rw [e]
def eld(E:List Pc):List (PK×PV):=E.map fun q=>(.inr q.n,pc q)
theorem Ao(q:Pc):(pc q).pure=true:=by
 unfold pc
 cases h:q.m<;>simp [PV.pure,am,fJ,du,mny]
theorem qG(h:List PO)(m:Option Int):aq h (mny m)=mny m:=by cases m<;>rfl
theorem uZ(h:List PO)(n:Nd):aq h (nd n)=nd n:=mJ (h:=h) (mG n)
theorem yc(p:Pth)(h:List PO):pIx (pth p) (.int 0) h= .ok (.str p.a) h:=by
 show (match atI (PV.str p.a::p.f.map PV.str) 0 with | some v=>Res.ok (aq h v) h | none=>Res.bad)=_
 rw [at0];rfl
def wp(p:Pth):Bool:=sg p.a&&(sgs p.f&&decide (p.f.length≤3))
def wps(l:List Pth):Bool:=l.all wp&&decide (l.length<5)
mutual
def wN:Nd→Bool
 | .text s=>sg s&&decide (s.length≤1000)
 | .place p w=>wp p&&sg w
 | .loop n p b t=>sg n&&(wp p&&(wS b&&sg t))
 | .choice p y n=>wp p&&(wS y&&wS n)
 | .use n ps=>sg n&&wps ps
 | .usew n ps h b=>sg n&&(wps ps&&(sgs h&&(decide (h.length<5)&&wS b)))
 | .body ps=>wps ps
def wS:Nds→Bool
 | .nil=>true
 | .cons n r=>wN n&&wS r
end
mutual
def dN:Nd→Nat
 | .loop _ _ b _=>dS b+1
 | .choice _ y n=>max (dS y) (dS n)+1
 | .usew _ _ _ b=>dS b+1
 | _=>0
def dS:Nds→Nat
 | .nil=>0
 | .cons n r=>max (dN n) (dS r)
end
def wy(w:List Int):PV:=.tup (w.map PV.int)
def Ij(E:List Pc):Option (List Int)→Res PV
 | none=>.ok .non [.dct (eld E)]
 | some w=>.exc (.exa 2 (wy w)) [.dct (eld E)]
theorem oA(a b:List PV)(h:List PO)(q:a.length+b.length≤sizeLine):ay (.tup a) (.tup b) h= .ok (.tup (a++b)) h:=by
 cases a with
 | nil=>rfl
 | cons x r=>
  show (if (x::r).isEmpty=false∧(x::r).length+b.length≤sizeLine then Res.ok (PV.tup (x::r++b)) h else .bad)=_
  rw [if_pos ⟨rfl,q⟩]
theorem BC(w:List (List Nat))(x:List (List Nat))(h:List PO)(hl:w.length+x.length≤100000):ay (nms w) (nms x) h= .ok (nms (w++x)) h:=by
 unfold nms
 rw [List.map_append]
 exact oA _ _ h (by rw [List.length_map,List.length_map];exact Nat.le_trans hl (by decide))
theorem jh{a b:List (List Nat)}(ha:sgs a=true)(hb:sgs b=true):sgs (a++b)=true:=by unfold sgs at *;rw [List.all_append,ha,hb];rfl
def kT:Nd→List Nat
 | .text _=>tT
 | .place _ _=>tP
 | .loop _ _ _ _=>tL
 | .choice _ _ _=>tC
 | .use _ _=>tU
 | .usew _ _ _ _=>tU
 | .body _=>tB
theorem kt1(s:List Nat):kT (.text s)=tT:=rfl
theorem kt2(p:Pth)(s:List Nat):kT (.place p s)=tP:=rfl
theorem kt3(x:List Nat)(p:Pth)(b:Nds)(t:List Nat):kT (.loop x p b t)=tL:=rfl
theorem kt4(p:Pth)(y z:Nds):kT (.choice p y z)=tC:=rfl
theorem kt5(x:List Nat)(ps:List Pth):kT (.use x ps)=tU:=rfl
theorem kt6(x:List Nat)(ps:List Pth)(h:List (List Nat))(b:Nds):kT (.usew x ps h b)=tU:=rfl
theorem kt7(ps:List Pth):kT (.body ps)=tB:=rfl
abbrev qE(a b:List Nat)(c:Bool)(h:List PO):Prop:=pEq (.str a) (.str b) h= .ok (.bl c) h
section
variable (h:List PO)
theorem tgs:qE tT tT true h∧qE tT tP false h∧qE tT tL false h∧qE tT tC false h∧qE tT tU false h∧qE tT tB false h∧qE tP tT false h∧qE tP tP true h∧qE tP tL false h∧qE tP tC false h∧qE tP tU false h∧qE tP tB false h∧qE tL tT false h∧qE tL tP false h∧qE tL tL true h∧qE tL tC false h∧qE tL tU false h∧qE tL tB false h∧qE tC tT false h∧qE tC tP false h∧qE tC tL false h∧qE tC tC true h∧qE tC tU false h∧qE tC tB false h∧qE tU tT false h∧qE tU tP false h∧qE tU tL false h∧qE tU tC false h∧qE tU tU true h∧qE tU tB false h∧qE tB tT false h∧qE tB tP false h∧qE tB tL false h∧qE tB tC false h∧qE tB tU false h∧qE tB tB true h:=by
 repeat' apply And.intro
 all_goals exact eqk _ (h:=h)
theorem FY(n:Nd):pIx (nd n) (.int 0) h= .ok (.str (kT n)) h:=by cases n<;>(rw [nd];rfl)
theorem Ej(p:Pth)(w:List Nat):pIx (nd (.place p w)) (.int 1) h= .ok (pth p) h∧pIx (nd (.place p w)) (.int 2) h= .ok (.str w) h:=by rw [nd];exact ⟨rfl,rfl⟩
theorem Ek(x:List Nat)(p:Pth)(b:Nds)(t:List Nat):pIx (nd (.loop x p b t)) (.int 1) h= .ok (.str x) h∧pIx (nd (.loop x p b t)) (.int 2) h= .ok (pth p) h∧pIx (nd (.loop x p b t)) (.int 3) h= .ok (.tup (nds b)) h∧pIx (nd (.loop x p b t)) (.int 4) h= .ok (.str t) h:=by rw [nd];exact ⟨rfl,rfl,rfl,rfl⟩
theorem El(p:Pth)(y z:Nds):pIx (nd (.choice p y z)) (.int 1) h= .ok (pth p) h∧pIx (nd (.choice p y z)) (.int 2) h= .ok (.tup (nds y)) h∧pIx (nd (.choice p y z)) (.int 3) h= .ok (.tup (nds z)) h:=by rw [nd];exact ⟨rfl,rfl,rfl⟩
theorem Ei(x:List Nat)(ps:List Pth):pIx (nd (.use x ps)) (.int 1) h= .ok (.str x) h∧pIx (nd (.use x ps)) (.int 2) h= .ok (.tup (pths ps)) h∧pIx (nd (.use x ps)) (.int 3) h= .ok .non h∧pIx (nd (.use x ps)) (.int 4) h= .ok .non h:=by rw [nd];exact ⟨rfl,rfl,rfl,rfl⟩
theorem Eh(x:List Nat)(ps:List Pth)(hs:List (List Nat))(b:Nds):pIx (nd (.usew x ps hs b)) (.int 1) h= .ok (.str x) h∧pIx (nd (.usew x ps hs b)) (.int 2) h= .ok (.tup (pths ps)) h∧pIx (nd (.usew x ps hs b)) (.int 3) h= .ok (nms hs) h∧pIx (nd (.usew x ps hs b)) (.int 4) h= .ok (.tup (nds b)) h:=by rw [nd];exact ⟨rfl,rfl,rfl,rfl⟩
theorem yS(ps:List Pth):pIx (nd (.body ps)) (.int 1) h= .ok (.tup (pths ps)) h:=by rw [nd];rfl
variable (q:Pc)
theorem FR:pIx (pc q) (.int 1) h= .ok (.str q.n) h∧pIx (pc q) (.int 2) h= .ok (nms q.ns) h∧pIx (pc q) (.int 3) h= .ok (mny q.m) h∧pIx (pc q) (.int 4) h= .ok (.tup (nds q.b)) h:=by refine ⟨rfl,rfl,?_,rfl⟩;show Res.ok (aq h (mny q.m)) h=_;rw [qG]
theorem DF:aq h (pc q)=pc q:=rfl
theorem jd(B:List Pc):aq h (bk B)=bk B:=rfl
theorem Dm(w:List Int):aq h (wy w)=wy w:=rfl
theorem CY(B:List Pc):bv [bk B] h= .ok (.int B.length) h:=by unfold bk;rw [yI,List.length_map]
theorem mE(l:List (List Nat)):bv [nms l] h= .ok (.int l.length) h:=by unfold nms;rw [yI,List.length_map]
end
theorem jj(l:List Pth):(pths l).length=l.length:=by unfold pths;rw [List.length_map]
theorem CE(m:Option Int):fL (mny m)=!m.isSome:=by cases m<;>rfl
theorem mls(x:Int):hH 3 x=true∧hH 5 x=true∧hH 7 x=true∧hH 12 x=true∧hH 31 x=true∧hH 7919 x=true∧hH x 48271=true:=by
 refine ⟨?_,?_,?_,?_,?_,?_,qF (by decide)⟩<;>exact yD (by decide)
def wC(q:Pc):Bool:=sg q.n&&(sgs q.ns&&(decide (q.ns.length<60)&&(wS q.b&&decide (dS q.b≤20))))
mutual
def ctN:Nd→Nat
 | .loop _ _ b _=>ctS b
 | .choice _ y n=>ctS y+ctS n
 | .usew _ _ _ b=>ctS b
 | _=>0
def ctS:Nds→Nat
 | .nil=>0
 | .cons n r=>ctN n+1+ctS r
end
section
variable {h:List PO} {i:Nat} {acc:List PV}
theorem CQ(e:h[i]? =some (.lst acc)):aq h (.ref i)= .ref i:=by
 show (match h[i]? with | some (.froz q)=>q | _=>PV.ref i)=_
 rw [e]
theorem Bv(e:h[i]? =some (.lst acc)):bM h (.ref i)=true:=by
 unfold bM
 simp [lsR,lsM,e]
theorem pP(e:h[i]? =some (.lst acc))(x:PV)(hl:acc.length<16000000):bH (.ref i) [x] h= .ok .non (h.set i (.lst (acc++ [x]))):=by
 have e2:fK h (.ref i)=some (i,acc):=by unfold fK;simp only [e]
 unfold bH
 rw [e2]
 dsimp only
 rw [if_pos (Nat.lt_trans hl (by decide))]
theorem zJ(e:h[i]? =some (.lst acc))(ys:List PV)(hl:acc.length+ys.length≤16000000):ay (.ref i) (.lst ys) h= .ok (.lst (acc++ys)) h:=by
 show wF (.ref i) (.lst ys) h=_
 unfold wF
 simp only [lsM,e]
 rw [if_pos (Nat.le_trans hl (by decide))]
end
def fd(d:Nat)(p:PV):Prop:=(toD p).canLay0=true∧(toD p).depth≤d∧p.pure=true
def fds(d:Nat)(l:List PV):Prop:=PyData.canLayAll0 (dC l)=true∧PyData.depthAll (dC l)≤d∧am l=true
theorem aH(d:Nat):fds d []:=⟨by simp [dC,PyData.canLayAll0],by simp [dC,PyData.depthAll],by simp [am]⟩
theorem ak{d:Nat}{p:PV}{l:List PV}(h:fd d p)(t:fds d l):fds d (p::l):=by
 refine ⟨?_,?_,?_⟩
 ·simp only [dC,PyData.canLayAll0,h.1,t.1,Bool.and_self]
 ·simp only [dC,PyData.depthAll];exact Nat.max_le.mpr ⟨h.2.1,t.2.1⟩
 ·simp only [am,h.2.2,t.2.2,Bool.and_self]
theorem vr{d:Nat}{p:PV}{l:List PV}(h:fds d (p::l)):fd d p∧fds d l:=by
 obtain ⟨a,b,c⟩:=h
 simp only [dC,PyData.canLayAll0,PyData.depthAll,am,Bool.and_eq_true] at a b c
 exact ⟨⟨a.1,Nat.le_trans (Nat.le_max_left ..) b,c.1⟩,⟨a.2,Nat.le_trans (Nat.le_max_right ..) b,c.2⟩⟩
theorem ug{d:Nat}{l:List PV}(h:fds d l):fd (d+1) (.lst l):=by
 refine ⟨?_,?_,?_⟩
 ·simp only [toD,PyData.canLay0,h.1]
 ·simp only [toD,PyData.depth];have:=h.2.1;omega
 ·simpa [PV.pure] using h.2.2
theorem aP{d:Nat}{l:List PV}(h:fds d l):fd (d+1) (.tup l):=by
 refine ⟨?_,?_,?_⟩
 ·simp only [toD,PyData.canLay0,h.1]
 ·simp only [toD,PyData.depth];have:=h.2.1;omega
 ·simpa [PV.pure] using h.2.2
theorem aN{d e:Nat}{p:PV}(h:fd d p)(le:d≤e):fd e p:=⟨h.1,Nat.le_trans h.2.1 le,h.2.2⟩
theorem og{d e:Nat}{l:List PV}(h:fds d l)(le:d≤e):fds e l:=⟨h.1,Nat.le_trans h.2.1 le,h.2.2⟩
theorem qW{l:List PV}(hl:fds 59 l)(h:List L3.PO):pEq (.lst l) (.lst []) h= .ok (.bl l.isEmpty) h:=by
 have ok:okD h (.lst l)=true:=by
  unfold okD dOf
  have:=hl.2.1
  simp only [toD,PyData.canLay0,PyData.depth,hl.1,Bool.true_and,decide_eq_true_eq]
  omega
 unfold pEq
 rw [if_pos ⟨ok,rfl⟩]
 cases l<;>rfl
theorem Az{l:List PV}(hl:fds 59 l)(h:List L3.PO):pNe (.lst l) (.lst []) h= .ok (.bl (!l.isEmpty)) h:=by
 have ok:okD h (.lst l)=true:=by
  unfold okD dOf
  have:=hl.2.1
  simp only [toD,PyData.canLay0,PyData.depth,hl.1,Bool.true_and,decide_eq_true_eq]
  omega
 unfold pNe
 rw [if_pos ⟨ok,rfl⟩]
 cases l<;>rfl
theorem zq{α:Type}(l:List α)(b:Nat):cut l none (some (b:Int))=l.take b:=by
 unfold cut
 rw [HT.sIx_nat,HT.sIx_none,List.drop_zero,Nat.sub_zero]
 rcases Nat.le_total b l.length with q | q
 ·rw [Nat.min_eq_left q]
 ·rw [Nat.min_eq_right q,List.take_of_length_le (Nat.le_refl _),List.take_of_length_le q]
theorem pY(xs:List PV)(lo hi:Option Int)(h:List PO):iH (.tup xs) lo hi h= .ok (.tup (cut xs lo hi)) h:=by
 unfold iH
 dsimp only
 split
 ·rename_i hz
  unfold cut
  rw [hz.1,hz.2]
  simp
 ·rfl
theorem BP(xs:List PV)(j:Nat)(h:List PO):iH (.tup xs) none (some (j:Int)) h= .ok (.tup (xs.take j)) h:=by rw [pY,zq]
theorem aY{d:Nat}{l:List Nat}(h:sg l=true):fd d (.str l):=⟨by
 simp only [toD,PyData.canLay0]
 simp [PyData.strOk,S]
 exact fun c hc=>lJ h c hc,by simp [toD,PyData.depth],by simp [PV.pure]⟩
theorem eA(d:Nat)(i:Int):fd d (.int i):=⟨by simp [toD,PyData.canLay0],by simp [toD,PyData.depth],by simp [PV.pure]⟩
theorem oh(d:Nat):fd d .non:=⟨by simp [toD,PyData.canLay0],by simp [toD,PyData.depth],by simp [PV.pure]⟩
theorem nZ{d:Nat}:∀ {l:List (List Nat)},sgs l=true→fds d (l.map PV.str)
 | [],_=>aH d
 | a::r,h=>by
  rw [sgs,List.all_cons,Bool.and_eq_true] at h
  exact ak (aY h.1) (nZ h.2)
theorem zj{d:Nat}{l:List (List Nat)}(h:sgs l=true):fd (d+1) (nms l):=aP (nZ h)
theorem jM{d:Nat}{p:Pth}(h:wp p=true):fd (d+1) (pth p):=by
 rw [wp,Bool.and_eq_true,Bool.and_eq_true] at h
 exact aP (ak (aY h.1) (nZ h.2.1))
theorem kt{d:Nat}:∀ {l:List Pth},l.all wp=true→fds (d+1) (pths l)
 | [],_=>aH _
 | a::r,h=>by
  rw [List.all_cons,Bool.and_eq_true] at h
  exact ak (jM h.1) (kt h.2)
theorem pR{l:List Pth}(h:wps l=true):l.all wp=true:=by rw [wps,Bool.and_eq_true] at h;exact h.1
theorem dO:sg tT=true∧sg tP=true∧sg tL=true∧sg tC=true∧sg tU=true∧sg tB=true∧sg tI=true:=by decide
mutual
theorem BA:∀ {n:Nd},wN n=true→fd (2 * dN n+4) (nd n)
 | .text s,h=>by rw [wN] at h;rw [nd];exact aN (aP (ak (aY dO.1) (ak (aY ((Bool.and_eq_true _ _).mp h).1) (aH 0)))) (by omega)
 | .place p w,h=>by
  rw [wN,Bool.and_eq_true] at h;rw [nd]
  exact aN (aP (d:=1) (ak (aY dO.2.1) (ak (jM h.1) (ak (aY h.2) (aH 1))))) (by omega)
 | .loop x p b t,h=>by
  rw [wN,Bool.and_eq_true,Bool.and_eq_true,Bool.and_eq_true] at h;rw [nd,dN]
  have q:=aP (jL h.2.2.1)
  exact aN (aP (ak (aY dO.2.2.1) (ak (aY h.1) (ak (aN (jM (d:=0) h.2.1) (by omega)) (ak q (ak (aY h.2.2.2) (aH _))))))) (by omega)
 | .choice p y z,h=>by
  rw [wN,Bool.and_eq_true,Bool.and_eq_true] at h;rw [nd,dN]
  have m1:=Nat.le_max_left (dS y) (dS z)
  have m2:=Nat.le_max_right (dS y) (dS z)
  have q1:=aN (e:=2 * max (dS y) (dS z)+5) (aP (jL h.2.1)) (by omega)
  have q2:=aN (e:=2 * max (dS y) (dS z)+5) (aP (jL h.2.2)) (by omega)
  exact aN (aP (ak (aY dO.2.2.2.1) (ak (aN (jM (d:=0) h.1) (by omega)) (ak q1 (ak q2 (aH _)))))) (by omega)
 | .use x ps,h=>by
  rw [wN,Bool.and_eq_true] at h;rw [nd]
  exact aN (aP (d:=2) (ak (aY dO.2.2.2.2.1) (ak (aY h.1) (ak (aP (kt (pR h.2))) (ak (oh _) (ak (oh _) (aH 2))))))) (by omega)
 | .usew x ps hs b,h=>by
  rw [wN,Bool.and_eq_true,Bool.and_eq_true,Bool.and_eq_true,Bool.and_eq_true] at h;rw [nd,dN]
  have q:=aP (jL h.2.2.2.2)
  exact aN (aP (ak (aY dO.2.2.2.2.1) (ak (aY h.1) (ak (aN (aP (kt (d:=0) (pR h.2.1))) (by omega)) (ak (aN (zj (d:=0) h.2.2.1) (by omega)) (ak q (aH _))))))) (by omega)
 | .body ps,h=>by
  rw [wN] at h;rw [nd]
  exact aN (aP (d:=2) (ak (aY dO.2.2.2.2.2.1) (ak (aP (kt (pR h))) (aH 2)))) (by omega)
theorem jL:∀ {b:Nds},wS b=true→fds (2 * dS b+4) (nds b)
 | .nil,_=>by rw [nds];exact aH _
 | .cons n r,h=>by
  rw [wS,Bool.and_eq_true] at h;rw [nds,dS]
  have m1:=Nat.le_max_left (dN n) (dS r)
  have m2:=Nat.le_max_right (dN n) (dS r)
  exact ak (aN (BA h.1) (by omega)) (og (jL h.2) (by omega))
end
theorem EH{q:Pc}(h:wC q=true):fd 50 (pc q):=by
 simp only [wC,Bool.and_eq_true,decide_eq_true_eq] at h
 obtain ⟨w1,w2,_,w4,w5⟩:=h
 have qm:fd 46 (mny q.m):=by cases q.m with
  | none=>exact oh _
  | some i=>exact eA _ i
 exact aN (aP (d:=46) (ak (aY dO.2.2.2.2.2.2) (ak (aY w1) (ak (aN (zj (d:=0) w2) (by omega)) (ak qm (ak (aN (aP (jL w4)) (by omega)) (aH _))))))) (by omega)
theorem vq:∀ {l:List Pc},(∀ q∈l,wC q=true)→fds 50 (l.map pc)
 | [],_=>aH _
 | q::r,h=>ak (EH (h q List.mem_cons_self)) (vq fun z hz=>h z (List.mem_cons_of_mem _ hz))
theorem qR{α:Type}{tt:Tx}{te:Ex}{cp:Ev}{h:List PO}(f:α→PV)(T:α→Bool)(g:α→PV):∀ l:List α,(∀ x∈l,tt (some (f x)::cp) h= .ok (T x) h)→(∀ x∈l,te (some (f x)::cp) h= .ok (g x) h)→bZ tt te cp (l.map f) h= .ok ((l.filter T).map g) h
 | [],_,_=>rfl
 | x::r,h1,h2=>by
  have ih:=qR f T g r (fun z hz=>h1 z (List.mem_cons_of_mem _ hz)) fun z hz=>h2 z (List.mem_cons_of_mem _ hz)
  rw [List.map_cons,bZ,h1 x List.mem_cons_self]
  simp only [Res.bind_ok]
  cases e:T x with
  | true=>rw [if_pos rfl,h2 x List.mem_cons_self,List.filter_cons_of_pos e];simp only [Res.bind_ok,ih,List.map_cons]
  | false=>rw [if_neg (by decide),ih,List.filter_cons_of_neg (by rw [e];decide)]
theorem vw{a b:List Nat}(ha:sg a=true)(hb:sg b=true)(h:List PO):pEq (.str a) (.str b) h= .ok (.bl (decide (a=b))) h:=qx a b h (lJ ha) (lJ hb)
theorem lu{α:Type}{te:Ex}{cp:Ev}{h:List PO}(f g:α→PV)(l:List α)(h2:∀ x∈l,te (some (f x)::cp) h= .ok (g x) h):bZ bF te cp (l.map f) h= .ok (l.map g) h:=by
 rw [qR f (fun _=>true) g l (fun _ _=>rfl) h2,List.filter_eq_self.mpr fun _ _=>rfl]
theorem kc:∀ B:List Pc,am (B.map pc)=true
 | []=>rfl
 | q::r=>by rw [List.map_cons,am,Ao,kc r];rfl
theorem kx(B:List Pc):(bk B).pure=true:=by unfold bk;rw [PV.pure];exact kc B
abbrev Sz:=Int×Int×Int×Int
def apS:Nds→Nds→Nds
 | .nil,z=>z
 | .cons n r,z=>.cons n (apS r z)
theorem yB:∀ (y z:Nds),nds (apS y z)=nds y++nds z
 | .nil,z=>by rw [apS,nds];rfl
 | .cons n r,z=>by rw [apS,nds,nds,yB r z];rfl
theorem zx:∀ (y z:Nds),ctS (apS y z)=ctS y+ctS z
 | .nil,z=>by rw [apS,ctS];omega
 | .cons n r,z=>by rw [apS,ctS,ctS,zx r z];omega
theorem mF:∀ b:Nds,(nds b).length≤ctS b
 | .nil=>by rw [nds,ctS];simp
 | .cons n r=>by rw [nds,ctS,List.length_cons];have:=mF r;omega
theorem EG{v:PV}{o:PO}(hv:v.pure=true)(ho:o.pure=true):iu 1 v [o]= .ok v [o]:=by
 unfold iu;rw [iZ _ hv];dsimp only;unfold lG;simp [bq,ho]
def cB:Nat→Nat
 | 0=>0
 | j+1=>7 * cB j+21
theorem yG(i n:Nat)(l2:List PV)(h2:am l2=true):∀ (l1:List PV),am l1=true→lvs (l1++.ref i::l2)= [i]∧rnm n (l1++.ref i::l2)=l1++.ref n::l2∧nU (l1++.ref i::l2)=true
 | [],_=>by
  have e:∀ (l:List PV),am l=true→lvs l= []∧(∀ n,rnm n l=l)∧nU l=true:=fun l hl=>by
   induction l with
   | nil=>exact ⟨rfl,fun _=>rfl,rfl⟩
   | cons p r ih=>
    rw [am,Bool.and_eq_true] at hl
    obtain ⟨a,b,c⟩:=ih hl.2
    have np:∀ i,p≠.ref i:=fun i e=>by have:=hl.1;subst e;simp [PV.pure] at this
    have e:nU (p::r)=(p.pure&&nU r):=by cases p<;>first | rfl | exact (np _ rfl).elim
    refine ⟨?_,fun n=>?_,by rw [e,hl.1,c];rfl⟩
    ·cases p<;>first | exact a | exact (np _ rfl).elim
    ·cases p<;>first | exact congrArg _ (b n) | exact (np _ rfl).elim
  obtain ⟨a,b,c⟩:=e l2 h2
  refine ⟨?_,?_,c⟩
  ·show i::lvs l2=_;rw [a]
  ·show PV.ref n::rnm (n+1) l2=_;rw [b];rfl
 | p::r,h=>by
  rw [am,Bool.and_eq_true] at h
  obtain ⟨a,b,c⟩:=yG i n l2 h2 r h.2
  have np:∀ i,p≠.ref i:=fun i e=>by have:=h.1;subst e;simp [PV.pure] at this
  have e:nU (p::(r++.ref i::l2))=(p.pure&&nU (r++.ref i::l2)):=by cases p<;>first | rfl | exact (np _ rfl).elim
  rw [List.cons_append]
  refine ⟨?_,?_,by rw [e,h.1,c];rfl⟩
  ·cases p<;>first | exact a | exact (np _ rfl).elim
  ·cases p<;>first | exact congrArg _ b | exact (np _ rfl).elim
theorem eP{fn:List PV→List PO→Res PV}(l1 l2:List PV){h:List PO}{i:Nat}{o o':PO}{v:PV}(h1:am l1=true)(h2:am l2=true)(ho:h[i]? =some o)(oo:o.pure=true)(e:fn (l1++.ref 0::l2) [o]= .ok v [o'])(hv:v.pure=true)(ho':o'.pure=true):
  callL fn (l1++.ref i::l2) h= .ok v (h.set i o'):=by
 obtain ⟨q1,q2,q3⟩:=yG i 0 l2 h2 l1 h1
 have e4:jK h [i]=some [o]:=by simp [jK,ho]
 unfold callL
 rw [q1,e4]
 dsimp only
 rw [q3,q2,e]
 have e5:(true&&bq [o]&&lh [i])=true:=by simp [bq,oo,lh]
 rw [if_pos e5]
 dsimp only
 rw [if_pos ⟨hv,by simp [bq,ho'],rfl⟩]
 rfl
inductive Hd where
 | nil
 | cons (b:Nds) (i:Int) (h:Hd)
def hv:Hd→PV
 | .nil=>.non
 | .cons b i h=>.tup [.tup (nds b),.int i,hv h]
abbrev lft(i:Int):PO:=.lst [.int i]
theorem ki(i:Int):(lft i).pure=true:=rfl
def upO:Option (Nat×Nat)→Option (Nat×Nat)
 | none=>none
 | some a=>some (a.1+1,a.2+1)
def cR(g:Nd→Option (Nat×Nat)):Nds→Option (Nat×Nat)
 | .nil=>some (0,0)
 | .cons n r=>match g n,cR g r with
  | some a,some b=>some (a.1+b.1,max a.2 b.2)
  | _,_=>none
def cN1(B:List Pc)(rec:Nds→Hd→Option (Nat×Nat))(hd:Hd):Nd→Option (Nat×Nat)
 | .loop _ _ b _=>upO (rec b hd)
 | .choice _ y z=>upO (rec (apS y z) hd)
 | .use x _=>match look B x with
  | none=>none
  | some q=>upO (rec q.b .nil)
 | .usew x _ _ b=>match look B x with
  | none=>none
  | some q=>upO (rec q.b (.cons b 0 hd))
 | .body _=>match hd with
  | .nil=>some (1,1)
  | .cons b _ h=>upO (rec b h)
 | _=>some (1,1)
def cX(B:List Pc):Nat→Nds→Hd→Option (Nat×Nat)
 | 0=>fun _ _=>none
 | f+1=>fun b hd=>cR (cN1 B (cX B f) hd) b
theorem Bt(h:List PO)(xs:List PV):bM h (.lst xs)=true:=rfl
theorem mX(f:Nat→List Nat):∀ (n:Nat) (x:List Nat),x∈de f n↔∃ i,i<n∧f i=x
 | 0,x=>by simp [de]
 | n+1,x=>by
  rw [de,sw,mX f n x]
  constructor
  ·rintro (⟨i,h,e⟩ | e)
   ·exact ⟨i,by omega,e⟩
   ·exact ⟨n,by omega,e.symm⟩
  ·rintro ⟨i,h,e⟩
   rcases Nat.lt_or_ge i n with q | q
   ·exact .inl ⟨i,q,e⟩
   ·have:i=n:=by omega
    subst this;exact .inr e.symm
theorem qe(f:Nat→List Nat):∀ n,(de f n).length≤n
 | 0=>Nat.le_refl _
 | n+1=>by
  have:=qe f n
  rw [de,mr]
  split
  ·omega
  ·rw [List.length_append,List.length_singleton];omega
theorem uF(f:Nat→List Nat):∀ n,(de f n).length=n↔∀ i j,i<j→j<n→f i≠f j
 | 0=>⟨fun _ i j _ h=>(by omega),fun _=>rfl⟩
 | n+1=>by
  have le:=qe f n
  have ih:=uF f n
  rw [de,mr]
  split
  ·rename_i hm
   obtain ⟨i,hi,e⟩:=(mX f n _).mp hm
   exact ⟨fun z=>by omega,fun z=>(z i n hi (by omega) e).elim⟩
  ·rename_i hm
   rw [List.length_append,List.length_singleton]
   constructor
   ·intro z i j hij hj e
    rcases Nat.lt_or_ge j n with q | q
    ·exact ih.mp (by omega) i j hij q e
    ·have:j=n:=by omega
     subst this
     exact hm ((mX f j _).mpr ⟨i,hij,e⟩)
   ·intro z
    have:=ih.mpr fun i j h g=>z i j h (by omega)
    omega
theorem zm(l:List (List Nat)):dup l=false↔l.Nodup:=by
 have h:=uF (fun i=>l.getD i []) l.length
 have le:=qe (fun i=>l.getD i []) l.length
 unfold dup kQ
 rw [decide_eq_false_iff_not]
 constructor
 ·intro z
  have:=h.mp (by omega)
  rw [List.Nodup,List.pairwise_iff_getElem]
  intro i j hi hj hij
  have:=this i j hij hj
  simpa [List.getD_eq_getElem?_getD,hi,hj] using this
 ·intro z
  have:∀ i j,i<j→j<l.length→l.getD i []≠l.getD j []:=fun i j hij hj=>by
   rw [List.Nodup,List.pairwise_iff_getElem] at z
   have hi:i<l.length:=by omega
   have:=z i j hi hj hij
   simpa [List.getD_eq_getElem?_getD,hi,hj] using this
  have:=h.mpr this
  omega
structure Pe where
 n:List Nat
 m:Nat
 h:Option Int
def pOf(q:Pc):Pe:=⟨q.n,q.ns.length,q.m⟩
def lkP(P:List Pe)(x:List Nat):Option Pe:=P.find? fun p=>p.n==x
def okU(P:List Pe)(x:List Nat)(l:Nat)(h:Option Int):Bool:=match lkP P x with
 | none=>false
 | some p=>decide (p.m=l)&&decide (p.h=h)
abbrev Cx:=List Pe×Option Int×List (List Nat)
def okP(X:Cx)(ps:List Pth):Bool:=ps.all fun p=>X.2.2.contains p.a
abbrev moX(X:Cx)(h:List (List Nat)):Cx:=(X.1,X.2.1,X.2.2++h)
mutual
def okN(X:Cx):Nd→Bool
 | .text _=>true
 | .place p _=>okP X [p]
 | .loop x p b _=>okP X [p]&&okS (moX X [x]) b
 | .choice p y z=>okP X [p]&&(okS X y&&okS X z)
 | .use x ps=>okP X ps&&okU X.1 x ps.length none
 | .usew x ps h b=>okP X ps&&(okU X.1 x ps.length (some (h.length:Int))&&(!dup h&&okS (moX X h) b))
 | .body ps=>okP X ps&&decide (X.2.1=some (ps.length:Int))
def okS(X:Cx):Nds→Bool
 | .nil=>true
 | .cons n r=>okN X n&&okS X r
end
theorem vf(x:List Nat):∀ E:List Pc,lkP (E.map pOf) x=(look E x).map pOf
 | []=>rfl
 | q::r=>by
  have ih:=vf x r
  unfold lkP look at *
  rw [List.map_cons,List.find?_cons,List.find?_cons,ih]
  show (match q.n==x with | true=>_ | false=>_)=_
  cases q.n==x<;>rfl
theorem rZ{E:List Pc}{x:List Nat}{l:Nat}{h:Option Int}(e:okU (E.map pOf) x l h=true):∃ q,look E x=some q∧q.ns.length=l∧q.m=h:=by
 unfold okU at e
 rw [vf] at e
 cases z:look E x with
 | none=>rw [z] at e;cases e
 | some q=>
  rw [z] at e
  simp only [Option.map_some,Bool.and_eq_true,decide_eq_true_eq] at e
  exact ⟨q,rfl,e.1,e.2⟩
theorem mD{P:List Pe}{x:List Nat}{l:Nat}{h:Option Int}(e:okU P x l h=true):(P.map (·.n)).contains x=true:=by
 unfold okU at e
 cases z:lkP P x with
 | none=>rw [z] at e;cases e
 | some p=>
  rw [List.contains_iff_mem]
  have:=List.find?_some z
  rw [← eq_of_beq this]
  exact List.mem_map.mpr ⟨p,List.mem_of_find?_eq_some z,rfl⟩
theorem tj{l m:List Nat}(h:sgc l=true)(hm:∀ c∈m,c∈l)(hl:m.length≤17):sg m=true:=(Bool.and_eq_true _ _).mpr ⟨decide_eq_true hl,List.all_eq_true.mpr fun c hc=>List.all_eq_true.mp h c (hm c hc)⟩
theorem mK{α:Type}{l:List α}{a b:Option Int}{x:α}(h:x∈cut l a b):x∈l:=by
 unfold cut at h
 exact List.mem_of_mem_drop (List.mem_of_mem_take h)
theorem tw{a b:List Nat}(ha:sg a=true)(hb:sg b=true)(hl:a.length+b.length≤17):sg (a++b)=true:=by
 refine (Bool.and_eq_true _ _).mpr ⟨decide_eq_true (by rw [List.length_append];exact hl),?_⟩
 have h1:=wb ha;have h2:=wb hb
 unfold sgc at *;rw [List.all_append,h1,h2];rfl
theorem mM{α:Type}(l:List α)(a b:Option Int):(cut l a b).length≤l.length:=by
 unfold cut
 rw [List.length_take,List.length_drop]
 omega
theorem mL{α β:Type}(f:α→β)(l:List α)(a b:Option Int):cut (l.map f) a b=(cut l a b).map f:=by
 unfold cut
 rw [List.length_map,List.map_take,List.map_drop]
theorem rI{l:List (List Nat)}(h:sgs l=true)(hl:l.flatten.length≤17):sg l.flatten=true:=(Bool.and_eq_true _ _).mpr ⟨decide_eq_true hl,List.all_eq_true.mpr fun c hc=>by
 obtain ⟨x,hx,hc⟩:=List.mem_flatten.mp hc
 exact List.all_eq_true.mp (wb (List.all_eq_true.mp h x hx)) c hc⟩
theorem uE{l m:List (List Nat)}(h:sgs l=true)(hm:∀ c∈m,c∈l):sgs m=true:=List.all_eq_true.mpr fun c hc=>List.all_eq_true.mp h c (hm c hc)
theorem xr{l:List (List Nat)}(h:∀ x∈l,x.length≤1):(l.map (fun l=>l.length)).sum≤l.length:=by
 induction l with
 | nil=>exact Nat.le_refl _
 | cons a r ih=>
  have:=ih fun x hx=>h x (List.mem_cons_of_mem _ hx)
  have:=h a List.mem_cons_self
  simp only [List.map_cons,List.sum_cons,List.length_cons]
  omega
def azA(i:Int):Nat:=dq.getD (i % 26).toNat 0
theorem zC:dq.length=26:=by decide
theorem zE(i:Int):atI dq (i % 26)=some (azA i):=oy 0 (Int.emod_nonneg _ (by decide)) (by rw [zC];exact Int.emod_lt_of_pos _ (by decide))
theorem zD(i:Int):sg [azA i]=true:=by
 have h0:=Int.emod_nonneg i (by decide:(26:Int)≠0)
 have h1:=Int.emod_lt_of_pos i (by decide:(0:Int)<26)
 exact tj (l:=dq) (by decide) (fun c hc=>by rw [List.mem_singleton.mp hc];exact eT (by rw [zC];omega)) (by simp)
def w8(W:List (List Nat)):Prop:=W.length=8∧sgs W=true∧∀ x∈W,x.length≤1
theorem uz{W V:List (List Nat)}(h:w8 W)(hm:∀ x∈V,x∈W)(hl:V.length≤17)(hp:List PO):sg V.flatten=true∧lN (.str []) [.lst (V.map PV.str)] hp= .ok (.str V.flatten) hp:=by
 have s:=xr fun x hx=>h.2.2 x (hm x hx)
 exact ⟨rI (uE h.2.1 hm) (by rw [List.length_flatten];exact Nat.le_trans s hl),uS (by omega)⟩
theorem bh(a b:List PV)(h:List PO)(q:a.length+b.length≤16777216):ay (.lst a) (.lst b) h= .ok (.lst (a++b)) h:=by
 show wF (.lst a) (.lst b) h=_
 rw [Da,if_pos (Nat.le_trans q (by decide))]
def mnu(ms:List (List Nat)):PV:=.lst (ms.map PV.str)
theorem dM(h:List PO)(ms:List (List Nat)):aq h (mnu ms)=mnu ms:=rfl
def Hj:List (List Nat):= [[97],[98],[97,98],[98,97],[105,116,101,109],[105,116,101,109,115],[99],[120],[120,121],[121],[114,111,119],[114,111,119,115]]
def fQ:List (List Nat):= [[97,115],[98,101,116,119,101,101,110],[98,111,100,121],[101,108,115,101],[101,110,100],[102,111,114],[105,102],[105,110],[112,105,101,99,101],[117,115,101],[119,105,116,104]]
theorem yP(n:Nd):sg (kT n)=true:=by cases n<;>rfl
def isT:Nd→Bool
 | .text _=>true
 | _=>false
theorem AJ(n:Nd)(h:List PO):pEq (.str (kT n)) (.str tT) h= .ok (.bl (isT n)) h:=by
 rw [vw (yP n) dO.1]
 cases n<;>rfl
def tlN:Nd→Nat
 | .text s=>s.length
 | _=>0
def tlL(l:List Nd):Nat:=(l.map tlN).sum
def ctL(l:List Nd):Nat:=(l.map fun n=>ctN n+1).sum
structure Rw(kn:Cx)(d c t:Nat)(l:List Nd):Prop where
 w:∀ n∈l,wN n=true∧okN kn n=true∧dN n≤d
 c:ctL l≤c
 t:tlL l≤t
theorem dj(l:List Nd):l.length≤ctL l:=by
 induction l with
 | nil=>exact Nat.le_refl _
 | cons a r ih=>unfold ctL at *;rw [List.map_cons,List.sum_cons,List.length_cons];omega
theorem vG(a b:List Nd):ctL (a++b)=ctL a+ctL b:=by unfold ctL;rw [List.map_append,List.sum_append]
theorem jW(a b:List Nd):tlL (a++b)=tlL a+tlL b:=by unfold tlL;rw [List.map_append,List.sum_append]
theorem Rw.mono{kn:Cx}{d c t d' c' t':Nat}{l:List Nd}(h:Rw kn d c t l)(hd:d≤d')(hc:c≤c')(ht:t≤t'):Rw kn d' c' t' l:=
 ⟨fun n hn=>⟨(h.w n hn).1,(h.w n hn).2.1,Nat.le_trans (h.w n hn).2.2 hd⟩,Nat.le_trans h.c hc,Nat.le_trans h.t ht⟩
theorem Rw.app{kn:Cx}{d c t c' t':Nat}{l m:List Nd}(h:Rw kn d c t l)(g:Rw kn d c' t' m):Rw kn d (c+c') (t+t') (l++m):=
 ⟨fun n hn=>by rcases List.mem_append.mp hn with z | z<;>first | exact h.w n z | exact g.w n z,by rw [vG];exact Nat.add_le_add h.c g.c,by rw [jW];exact Nat.add_le_add h.t g.t⟩
theorem AV{l:List Nd}(h:∀ n∈l,wN n=true∧dN n≤20):fds 59 (l.map nd):=by
 induction l with
 | nil=>exact aH _
 | cons a r ih=>
  have:=h a List.mem_cons_self
  exact ak (aN (BA this.1) (by omega)) (ih fun n hn=>h n (List.mem_cons_of_mem _ hn))
theorem CA{l:List PV}(hl:fds 59 l):pNe (.ref 0) (.lst []) [.lst l]= .ok (.bl (!l.isEmpty)) [.lst l]:=by
 have ok:okD [.lst l] (.ref 0)=true:=by
  unfold okD dOf
  have:=hl.2.1
  simp only [List.getElem?_cons_zero,PyData.canLay0,PyData.depth,hl.1,Bool.true_and,decide_eq_true_eq]
  omega
 unfold pNe
 rw [if_pos ⟨ok,rfl⟩]
 cases l<;>rfl
theorem iS:∀ l:List Nd,am (l.map nd)=true
 | []=>rfl
 | a::r=>by rw [List.map_cons,am,mG,iS r];rfl
def oI(l:List Nd):Nd→List Nd
 | .text s=>match l.getLast? with
  | some (.text t)=>l.dropLast++ [.text (t++s)]
  | _=>l++ [.text s]
 | n=>l++ [n]
theorem vS{l:List Nd}{n:Nd}(h:isT n=false):oI l n=l++ [n]:=by cases n<;>first | rfl | cases h
theorem zI(n:Nd):oI [] n= [n]:=by cases n<;>rfl
theorem zG{l:List Nd}{m n:Nd}(h:isT m=false):oI (l++ [m]) n=l++ [m]++ [n]:=by
 cases n with
 | text s=>rw [oI,List.getLast?_concat];cases m<;>first | rfl | cases h
 | _=>rfl
theorem zH(l:List Nd)(u s:List Nat):oI (l++ [.text u]) (.text s)=l++ [.text (u++s)]:=by
 rw [oI,List.getLast?_concat,List.dropLast_concat]
theorem Be(acc:List Nd)(n:Nd):oI acc n=acc++ [n]∨∃ B u s,acc=B++ [.text u]∧n= .text s∧oI acc n=B++ [.text (u++s)]:=by
 cases t:isT n with
 | false=>exact .inl (vS t)
 | true=>
  obtain ⟨s,rfl⟩:∃ s,n= .text s:=by cases n<;>first | exact ⟨_,rfl⟩ | cases t
  rcases List.eq_nil_or_concat acc with rfl | ⟨B,m,rfl⟩
  ·exact .inl (zI _)
  ·rw [List.concat_eq_append]
   cases tm:isT m with
   | false=>exact .inl (zG tm)
   | true=>
    obtain ⟨u,rfl⟩:∃ u,m= .text u:=by cases m<;>first | exact ⟨_,rfl⟩ | cases tm
    exact .inr ⟨B,u,s,rfl,rfl,zH ..⟩
theorem yt(k:Nat)(v:PV)(acc:List Nd)(n:Nd)(hf:fds 59 (acc.map nd))(hl:acc.length<16777216)(ht:tlL acc+tlN n≤1000000):eH (F k) [some v,some (.ref 0),some (nd n)] [.lst (acc.map nd)]= .nx [some v,some (.ref 0),some (nd n)] [.lst ((oI acc n).map nd)]:=by
 have d0:∀ xs:List PV,aq [.lst xs] (.ref 0)= .ref 0:=fun xs=>rfl
 have li:∀ xs,bM [.lst xs] (.ref 0)=true:=fun _=>rfl
 have ne:=CA hf
 have ap:bH (.ref 0) [nd n] [.lst (acc.map nd)]= .ok .non [.lst ((acc++ [n]).map nd)]:=by
  rw [EW,if_pos (by rw [List.length_map];exact Nat.lt_of_lt_of_le hl (by decide)),List.map_append];rfl
 cases t:isT n with
 | false=>
  rw [vS t]
  simp only [EX,eH,AJ,t,d0,li,ap]
 | true=>
  obtain ⟨s,rfl⟩:∃ s,n= .text s:=by cases n<;>first | exact ⟨_,rfl⟩ | cases t
  rcases List.eq_nil_or_concat acc with rfl | ⟨B,m,rfl⟩
  ·rw [zI]
   have e0:(!(([]:List Nd).map nd).isEmpty)=false:=rfl
   rw [e0] at ne
   simp only [List.map_nil] at ne ap ⊢
   simp only [EX,eH,AJ,t,d0,li,ne,ap]
  ·rw [List.concat_eq_append] at ne ap hl ht ⊢
   have e0:(!((B++ [m]).map nd).isEmpty)=true:=by simp
   rw [e0] at ne
   have ixl:pIx (.ref 0) (.int (-1)) [.lst ((B++ [m]).map nd)]= .ok (nd m) [.lst ((B++ [m]).map nd)]:=by
    show (match atI ((B++ [m]).map nd) (-1) with | some v=>Res.ok (aq [.lst ((B++ [m]).map nd)] v) [.lst ((B++ [m]).map nd)] | none=>.bad)=_
    have q:atI ((B++ [m]).map nd) (-1)=some (nd m):=by rw [List.map_append];exact mR _ _
    rw [q]
    show Res.ok (aq _ (nd m)) _=_
    rw [uZ]
   cases tm:isT m with
   | false=>
    rw [zG tm]
    simp only [EX,eH,AJ,t,tm,d0,li,ne,ixl,ap]
   | true=>
    obtain ⟨u,rfl⟩:∃ u,m= .text u:=by cases m<;>first | exact ⟨_,rfl⟩ | cases tm
    rw [zH]
    have al:u.length+s.length≤16777216:=by rw [jW] at ht;simp only [tlL,List.map_cons,List.map_nil,List.sum_cons,List.sum_nil,tlN] at ht;omega
    have st:∀ ρ v,dG v (.ref 0) (.int (-1)) ρ [.lst ((B++ [Nd.text u]).map nd)]= .nx ρ [.lst (B.map nd++ [v])]:=fun ρ v=>by
     show (match ixN ((B++ [Nd.text u]).map nd).length (-1) with | some j=>SR.nx ρ [.lst (((B++ [Nd.text u]).map nd).set j v)] | none=>.bad)=_
     have:ixN ((B++ [Nd.text u]).map nd).length (-1)=some B.length:=by unfold ixN;simp;omega
     rw [this]
     dsimp only
     rw [List.map_append]
     congr 3
     rw [List.set_append_right _ _ (by simp)];simp
    have i1:∀ z h,pIx (nd (.text z)) (.int 1) h= .ok (.str z) h:=fun z h=>by rw [nd];rfl
    have ma:(B++ [Nd.text (u++s)]).map nd=B.map nd++ [.tup [.str tT,.str (u++s)]]:=by simp [nd]
    simp only [EX,eH,AJ,t,tm,d0,li,ne,ixl,st,i1,al,ma]
theorem rY(kn:Cx)(d c t k:Nat)(hd:d≤20)(hc:c≤1000000)(ht:t≤17)(v:PV):∀ (r acc:List Nd) (x2:Option PV),Rw kn d c t (acc++r)→∃ acc' y2,Rw kn d c t acc'∧
  bg (gNm 2) (eH (F k)) (r.map nd) [some v,some (.ref 0),x2] [.lst (acc.map nd)]= .nx [some v,some (.ref 0),y2] [.lst (acc'.map nd)]
 | [],acc,x2,h=>⟨acc,x2,by rw [List.append_nil] at h;exact h,by rw [List.map_nil,bg]⟩
 | n::r,acc,x2,h=>by
  have hl:=dj (acc++n::r)
  have hcc:=h.c
  have htt:=h.t
  rw [List.length_append,List.length_cons] at hl
  have e1:tlL (acc++n::r)=tlL acc+(tlN n+tlL r):=by rw [jW];rfl
  have s1:=yt k v acc n (AV fun z hz=>⟨(h.w z (List.mem_append_left _ hz)).1,Nat.le_trans (h.w z (List.mem_append_left _ hz)).2.2 hd⟩) (by omega) (by omega)
  have h1:Rw kn d c t (oI acc n++r):=by
   rcases Be acc n with e | ⟨B,u,s,rfl,rfl,e⟩<;>rw [e]
   ·rw [List.append_assoc];exact h
   ·have wu:=h.w (.text u) (by simp)
    have ws:=h.w (.text s) (by simp)
    refine ⟨fun z hz=>?_,?_,?_⟩
    ·rw [List.append_assoc] at hz
     rcases List.mem_append.mp hz with z1 | z1
     ·exact h.w z (by simp [z1])
     ·rcases List.mem_cons.mp z1 with z2 | z2
      ·subst z2
       refine ⟨?_,rfl,Nat.zero_le _⟩
       have a1:=wu.1
       have a2:=ws.1
       rw [wN,Bool.and_eq_true] at a1 a2 ⊢
       have:=h.t
       simp only [jW] at this
       simp only [tlL,List.map_cons,List.map_nil,List.sum_cons,List.sum_nil,tlN] at this
       exact ⟨tw a1.1 a2.1 (by omega),decide_eq_true (by rw [List.length_append];omega)⟩
      ·exact h.w z (by simp [show z∈r from z2])
    ·have:=h.c
     simp only [vG] at this ⊢
     simp only [ctL,List.map_cons,List.map_nil,List.sum_cons,List.sum_nil,ctN] at this ⊢
     omega
    ·have:=h.t
     simp only [jW] at this ⊢
     simp only [tlL,List.map_cons,List.map_nil,List.sum_cons,List.sum_nil,tlN,List.length_append] at this ⊢
     omega
  obtain ⟨acc2,y2,r1,r2⟩:=rY kn d c t k hd hc ht v r _ (some (nd n)) h1
  refine ⟨acc2,y2,r1,?_⟩
  rw [List.map_cons]
  exact Eq.trans (cO rfl s1) r2
def tv(b:Bool)(xs:List PV):PV:=if b then .tup xs else .lst xs
theorem Dp(b:Bool)(xs:List PV)(h:List PO):aq h (tv b xs)=tv b xs:=by cases b<;>rfl
theorem Do(b:Bool)(xs:List PV)(h:List PO):gC (tv b xs) h= .ok xs h:=by cases b<;>rfl
theorem Cs(kn:Cx)(d c t k:Nat)(hd:d≤20)(hc:c≤1000000)(ht:t≤17)(b:Bool)(l:List Nd)(h:Rw kn d c t l):∃ l',Rw kn d c t l'∧F (k+1) .l_one [tv b (l.map nd)]= .ok (.tup (l'.map nd)):=by
 obtain ⟨l',y2,r1,r2⟩:=rY kn d c t k hd hc ht (tv b (l.map nd)) l [] none h
 refine ⟨l',r1,?_⟩
 have e2:F (k+1) .l_one [tv b (l.map nd)]=match mP (F k) [some (tv b (l.map nd)),none,none] [] with
   | .nx _ _=>.ok .non
   | .rt v h=>gh v h
   | _=>.bad:=rfl
 have r2':bg (gNm 2) (eH (F k)) (l.map nd) [some (tv b (l.map nd)),some (.ref 0),none] [.lst []]= .nx [some (tv b (l.map nd)),some (.ref 0),y2] [.lst (l'.map nd)]:=r2
 have d0:∀ xs:List PV,aq [.lst xs] (.ref 0)= .ref 0:=fun xs=>rfl
 have tp:cF [.ref 0] [.lst (l'.map nd)]= .ok (.tup (l'.map nd)) [.lst (l'.map nd)]:=rfl
 rw [e2]
 simp only [EX,mP,Dp,Do,r2',d0,tp]
 exact fM (by rw [PV.pure];exact iS l')
def cv(cs:List Int):PV:=.giv (cs.map PV.int)
theorem ku(cs:List Int):(cv cs).pure=true:=by
 unfold cv;rw [PV.pure]
 induction cs with
 | nil=>rfl
 | cons a r ih=>rw [List.map_cons,am,ih];rfl
theorem bO(cs:List Int)(h:List PO):aq h (cv cs)=cv cs:=rfl
abbrev spt(n m:Int):PO:=.lst [.int n,.int m]
theorem dX(n m:Int):(spt n m).pure=true:=rfl
theorem Ba(k:Nat)(cs:List Int)(hc:cs.length≤63)(n m:Int)(h0:0≤n)(h1:n≤2000000):∃ v,0≤v∧v<400000000∧L (k+1) .l_cell [cv cs,.ref 0] [spt n m]= .ok (.int v) [spt (n+1) m]:=by
 have ix0:∀ i:Int,pIx (.ref 0) (.int 0) [spt i m]= .ok (.int i) [spt i m]:=fun m=>rfl
 have d0:∀ i:Int,aq [spt i m] (.ref 0)= .ref 0:=fun m=>rfl
 have st:∀ ρ,dG (.int (n+1)) (.ref 0) (.int 0) ρ [spt n m]= .nx ρ [spt (n+1) m]:=fun ρ=>rfl
 have ln:∀ h,bv [.giv (cs.map PV.int)] h= .ok (.int cs.length) h:=fun h=>by rw [Bo,List.length_map]
 have m3:∀ x:Int,hH x (n+1)=true:=fun x=>qF (bX.mpr ⟨by omega,by omega⟩)
 have fin:∀ b:Int,0≤b * 48271 % 2147483647 / 7∧b * 48271 % 2147483647 / 7<400000000:=fun b=>by omega
 have ct:∀ v:Int,iu 1 (.int v) [spt (n+1) m]= .ok (.int v) [spt (n+1) m]:=fun v=>rfl
 cases cs with
 | nil=>
  refine ⟨_,(fin (31 * (n+1) * (n+1)+7919 * (n+1))).1,(fin _).2,?_⟩
  show gJ (hX (F k)) 2 4 [.giv [],.ref 0] [spt n m]=_
  have ln0:∀ h,bv [.giv []] h= .ok (.int 0) h:=fun h=>rfl
  have g0:decide ((0:Int)<0)=false:=by decide
  simp -implicitDefEqProofs only [EX,bO,gJ,hX,ix0,d0,st,ln0,m3,ct,Int.reduceLT]
 | cons a r=>
  have hl0:(0:Int)<(((a::r).length:Nat):Int):=by rw [List.length_cons];omega
  have hl1:(((a::r).length:Nat):Int)<1073741824:=by omega
  have q0:0≤(n+1) % (((a::r).length:Nat):Int):=Int.emod_nonneg _ (by omega)
  have q1:(n+1) % (((a::r).length:Nat):Int)<(((a::r).length:Nat):Int):=Int.emod_lt_of_pos _ hl0
  have ax:atI ((a::r).map PV.int) ((n+1) % (((a::r).length:Nat):Int))=some (.int ((a::r).getD ((n+1) % (((a::r).length:Nat):Int)).toNat 0)):=by
   refine eG q0 ?_
   rw [List.getElem?_map,List.getD_eq_getElem?_getD,List.getElem?_eq_getElem (by omega)]
   rfl
  have dv0:0≤(n+1) / (((a::r).length:Nat):Int):=Int.ediv_nonneg (by omega) (by omega)
  have dv1:(n+1) / (((a::r).length:Nat):Int)≤n+1:=Int.ediv_le_self _ (by omega)
  have m5:∀ x:Int,hH x (1+(n+1) / (((a::r).length:Nat):Int))=true:=fun x=>qF (bX.mpr ⟨by omega,by omega⟩)
  have p3:decide ((0:Int)<(((a::r).length:Nat):Int))=true:=decide_eq_true hl0
  have p4:decide ((0:Int)<(((a::r).length:Nat):Int)∧(((a::r).length:Nat):Int)<1073741824)=true:=decide_eq_true ⟨hl0,hl1⟩
  unfold cv
  generalize hL:(((a::r).length:Nat):Int)=Ln at *
  generalize hC:(a::r).map PV.int=cl at *
  refine ⟨_,(fin (31 * (n+1) * (n+1)+7919 * (n+1)+(a::r).getD ((n+1) % Ln).toNat 0 * (1+(n+1) / Ln))).1,(fin _).2,?_⟩
  show gJ (hX (F k)) 2 4 [.giv cl,.ref 0] [spt n m]=_
  simp -implicitDefEqProofs only [EX,bO,gJ,hX,ix0,d0,st,ln,p3,ax,m3,m5,p4,ct]
def pev(p:Pe):PV:=.tup [.str p.n,.int p.m,mny p.h]
structure At where
 ns:List (List Nat)
 ps:List Pe
 h:Option Int
 ms:List (List Nat)
abbrev kN:List Nat:= [110,97,109,101,115]
abbrev kP:List Nat:= [112,105,101,99,101,115]
abbrev kH:List Nat:= [104,97,110,100,101,100]
abbrev kM:List Nat:= [109,101,110,117]
def av(A:At):PV:=.dct [(.inr kN,nms A.ns),(.inr kP,.lst (A.ps.map pev)),(.inr kH,mny A.h),(.inr kM,mnu A.ms)]
def hO:Option Int→Prop
 | none=>True
 | some i=>0≤i∧i≤3
theorem gf(m:List (List Nat)):(mnu m).pure=true:=by unfold mnu;rw [PV.pure];exact gR m
section
variable (A:At) (h:List PO)
theorem EU:aq h (av A)=av A:=rfl
theorem Hn:pIx (av A) (.str kN) h= .ok (nms A.ns) h:=rfl
theorem Hm:pIx (av A) (.str kP) h= .ok (.lst (A.ps.map pev)) h:=rfl
theorem Hp:pIx (av A) (.str kH) h= .ok (mny A.h) h:=by show Res.ok (aq h (mny A.h)) h=_;rw [qG]
theorem Ho:pIx (av A) (.str kM) h= .ok (mnu A.ms) h:=rfl
end
theorem iT{ms:List (List Nat)}(hl:ms.length=12)(hs:sgs ms=true)(i:Int)(h0:0≤i)(h1:i<12):∃ l,sg l=true∧(∀ h,pIx (mnu ms) (.int i) h= .ok (.str l) h)∧l∈ms:=by
 have hi:i.toNat<ms.length:=by omega
 refine ⟨ms.getD i.toNat [],List.all_eq_true.mp hs _ (eT hi),fun h=>?_,eT hi⟩
 unfold mnu
 rw [nX,eG (v:=PV.str (ms.getD i.toNat [])) h0 (by rw [List.getElem?_map,List.getD_eq_getElem?_getD,List.getElem?_eq_getElem hi];rfl)]
 rfl
theorem bx(x:Int){m:Int}(h:0<m):0≤x % m∧x % m<m:=⟨Int.emod_nonneg _ (by omega),Int.emod_lt_of_pos _ h⟩
theorem tS{α:Type}{te:Ex}{cp:Ev}{h:List PO}(f:α→PV)(R:List Nat→Prop):∀ l:List α,(∀ x∈l,∃ s,R s∧te (some (f x)::cp) h= .ok (.str s) h)→∃ ss:List (List Nat),ss.length=l.length∧(∀ s∈ss,R s)∧bZ bF te cp (l.map f) h= .ok (ss.map PV.str) h
 | [],_=>⟨[],rfl,by simp,rfl⟩
 | x::r,hx=>by
  obtain ⟨s,h1,h2⟩:=hx x List.mem_cons_self
  obtain ⟨ss,g0,g1,g2⟩:=tS f R r fun z hz=>hx z (List.mem_cons_of_mem _ hz)
  refine ⟨s::ss,by simp [g0],fun z hz=>?_,?_⟩
  ·rcases List.mem_cons.mp hz with q | q
   ·subst q;exact h1
   ·exact g1 z q
  ·rw [List.map_cons,bZ]
   simp only [bF,Res.bind_ok,if_true,h2,g2,List.map_cons]
theorem vB{α β:Type}{te:Ex}{cp:Ev}{m:Int}(f:α→PV)(g:β→PV)(R:β→Prop)(c:Int)(hc:0≤c)(hi:Int):∀ (l:List α) (n:Int),0≤n→n+c * l.length≤hi→(∀ x∈l,∀ n,0≤n→n+c≤hi→∃ y n',R y∧n≤n'∧n'≤n+c∧te (some (f x)::cp) [spt n m]= .ok (g y) [spt n' m])→
  ∃ (ys:List β) (n':Int),ys.length=l.length∧(∀ y∈ys,R y)∧n≤n'∧n'≤n+c * l.length∧bZ bF te cp (l.map f) [spt n m]= .ok (ys.map g) [spt n' m]
 | [],n,_,_,_=>⟨[],n,rfl,by simp,Int.le_refl _,by simp,rfl⟩
 | x::r,n,h0,hn,hx=>by
  have e:c * ((x::r).length:Int)=c * (r.length:Int)+c:=by rw [List.length_cons,Int.natCast_add,Int.mul_add];simp
  have hr:0≤c * (r.length:Int):=Int.mul_nonneg hc (by omega)
  rw [e] at hn
  obtain ⟨y,n1,y1,y2,y3,y4⟩:=hx x List.mem_cons_self n h0 (by omega)
  obtain ⟨ys,n2,z0,z1,z2,z3,z4⟩:=vB f g R c hc hi r n1 (by omega) (by omega) fun z hz=>hx z (List.mem_cons_of_mem _ hz)
  refine ⟨y::ys,n2,by simp [z0],fun z hz=>?_,by omega,by rw [e];omega,?_⟩
  ·rcases List.mem_cons.mp hz with q | q
   ·subst q;exact y1
   ·exact z1 z q
  ·rw [List.map_cons,bZ]
   simp only [bF,Res.bind_ok,if_true,y4,z4,List.map_cons]
theorem cZ(k:Nat)(cs:List Int)(hc:cs.length≤63)(n m:Int)(h0:0≤n)(h1:n≤2000000)(r:List PO):∃ v,0≤v∧v<400000000∧callL (L (k+1) .l_cell) [cv cs,.ref 0] (spt n m::r)= .ok (.int v) (spt (n+1) m::r):=by
 obtain ⟨v,v0,v1,e⟩:=Ba k cs hc n m h0 h1
 exact ⟨v,v0,v1,eP (fn:=L (k+1) .l_cell) [cv cs] [] (by rw [am,ku];rfl) rfl rfl (dX _ _) e rfl (dX _ _)⟩
theorem AF{P:List Pe}{p:Pe}(h:(P.map (·.n)).Nodup)(hp:p∈P):lkP P p.n=some p:=by
 unfold lkP
 induction P with
 | nil=>cases hp
 | cons q r ih=>
  rw [List.map_cons,List.nodup_cons] at h
  rcases List.mem_cons.mp hp with z | z
  ·subst z;rw [List.find?_cons_of_pos (by simp)]
  ·rw [List.find?_cons_of_neg,ih h.2 z]
   intro e
   rw [eq_of_beq e] at h
   exact h.1 (List.mem_map.mpr ⟨p,z,rfl⟩)
theorem zu{l:List (List Nat)}(h:l.Nodup){a b:Option Int}:(cut l a b).Nodup:=by
 unfold cut
 exact List.Sublist.nodup ((List.take_sublist _ _).trans (List.drop_sublist _ _)) h
def ndl:List Nd→Nds
 | []=>.nil
 | n::r=>.cons n (ndl r)
theorem uX:∀ l:List Nd,nds (ndl l)=l.map nd
 | []=>by rw [ndl,nds];rfl
 | n::r=>by rw [ndl,nds,uX r];rfl
theorem iD:∀ l:List Nd,ctS (ndl l)=ctL l
 | []=>by rw [ndl,ctS];rfl
 | n::r=>by rw [ndl,ctS,iD r];unfold ctL;rw [List.map_cons,List.sum_cons]
theorem Rw.nds{kn:Cx}{d c t:Nat}:∀ {l:List Nd},Rw kn d c t l→wS (ndl l)=true∧okS kn (ndl l)=true∧dS (ndl l)≤d
 | [],_=>⟨rfl,rfl,Nat.zero_le _⟩
 | n::r,h=>by
  have e1:ctL (n::r)=ctN n+1+ctL r:=by unfold ctL;rw [List.map_cons,List.sum_cons]
  have e2:tlL (n::r)=tlN n+tlL r:=by unfold tlL;rw [List.map_cons,List.sum_cons]
  have hc:=h.c
  have ht:=h.t
  obtain ⟨a,b,e⟩:=Rw.nds (kn:=kn) (d:=d) (c:=c) (t:=t) (l:=r) ⟨fun z hz=>h.w z (List.mem_cons_of_mem _ hz),by omega,by omega⟩
  obtain ⟨w1,w2,w3⟩:=h.w n List.mem_cons_self
  rw [ndl,wS,okS,dS,w1,w2,a,b]
  exact ⟨rfl,rfl,Nat.max_le.mpr ⟨w3,e⟩⟩
def cg:Nat→Nat
 | 0=>19
 | d+1=>1+3 * (6+2 * cg d)
def cn:Nat→Nat
 | 0=>6
 | d+1=>6+2 * cg d
theorem Ay{l:List PV}(hl:fds 59 l)(h:List PO):pNe (.tup l) (.tup []) h= .ok (.bl (!l.isEmpty)) h:=by
 have ok:okD h (.tup l)=true:=by
  unfold okD dOf
  have:=hl.2.1
  simp only [toD,PyData.canLay0,PyData.depth,hl.1,Bool.true_and,decide_eq_true_eq]
  omega
 unfold pNe
 rw [if_pos ⟨ok,rfl⟩]
 cases l<;>rfl
theorem pW(g:Nd→Nat)(f:Nd→Bool):∀ l:List Nd,((l.filter f).map g).sum≤(l.map g).sum
 | []=>Nat.le_refl _
 | a::r=>by
  have:=pW g f r
  rw [List.filter_cons,List.map_cons,List.sum_cons]
  split
  ·rw [List.map_cons,List.sum_cons]
   omega
  ·omega
theorem Rw.filter{kn:Cx}{d c t:Nat}{l:List Nd}(h:Rw kn d c t l)(f:Nd→Bool):Rw kn d c t (l.filter f):=
 ⟨fun n hn=>h.w n (List.mem_filter.mp hn).1,Nat.le_trans (pW _ f l) h.c,Nat.le_trans (pW _ f l) h.t⟩
theorem bw{a b:Sx}{ρ:Ev}{h:List PO}{Q:SR→Prop}(ρ1:Ev)(h1:List PO)(e:a ρ h= .nx ρ1 h1)(k:Q (b ρ1 h1)):Q (aG a b ρ h):=by rw [AW,e];exact k
theorem jX{α:Type}{a b:Sx}{ρ:Ev}{h:List PO}{Q:SR→Prop}(f:α→Ev)(g:α→List PO)(R:α→Prop)(e:∃ x,R x∧a ρ h= .nx (f x) (g x))(k:∀ x,R x→Q (b (f x) (g x))):Q (aG a b ρ h):=by
 obtain ⟨x,hx,e⟩:=e
 exact bw _ _ e (k x hx)
abbrev hB(n m:Int)(B:List Pc)(P:List Pe):List PO:= [spt n m,.lst (B.map pc),.lst (P.map pev)]
def nn(s:Sz):Prop:=0≤s.2.2.1∧0≤s.2.2.2
mutual
def nbN:Nd→Bool
 | .loop _ _ b _=>nbS b
 | .choice _ y z=>nbS y&&nbS z
 | .usew _ _ _ b=>nbS b
 | .body _=>false
 | _=>true
def nbS:Nds→Bool
 | .nil=>true
 | .cons n r=>nbN n&&nbS r
end
def hb(b:Nds):Hd→Bool
 | .nil=>nbS b
 | .cons c _ h=>hb c h
mutual
inductive Kd where
 | w
 | t
 | n
 | b
 | l (k:Kd)
 | r (fs:Kds)
inductive Kds where
 | nil
 | cons (x:List Nat) (k:Kd) (r:Kds)
end
mutual
def kd:Kd→PV
 | .w=>.tup [.str [119]]
 | .t=>.tup [.str [116]]
 | .n=>.tup [.str [110]]
 | .b=>.tup [.str [98]]
 | .l k=>.tup [.str [108],kd k]
 | .r fs=>.tup [.str [114],.tup (kds fs)]
def kds:Kds→List PV
 | .nil=> []
 | .cons x k r=>.tup [.str x,kd k]::kds r
end
mutual
def wK:Kd→Bool
 | .w=>true
 | .t=>true
 | .n=>true
 | .b=>true
 | .l k=>wK k
 | .r fs=>wKs fs
def wKs:Kds→Bool
 | .nil=>true
 | .cons x k r=>sg x&&(wK k&&wKs r)
end
mutual
def zK:Kd→Nat
 | .w=>1
 | .t=>1
 | .n=>1
 | .b=>1
 | .l k=>zK k+1
 | .r fs=>zKs fs+1
def zKs:Kds→Nat
 | .nil=>0
 | .cons _ k r=>zK k+zKs r
end
def tgK:Kd→List Nat
 | .w=> [119]
 | .t=> [116]
 | .n=> [110]
 | .b=> [98]
 | .l _=> [108]
 | .r _=> [114]
theorem sZ(k:Kd):sg (tgK k)=true:=by cases k<;>rfl
theorem wU(k:Kd)(h:List PO):pIx (kd k) (.int 0) h= .ok (.str (tgK k)) h:=by cases k<;>(rw [kd];rfl)
def kGd(k:Kd):Prop:=wK k=true∧zK k≤14
theorem xj(k:Kd):1≤zK k:=by cases k<;>rw [zK]<;>omega
mutual
theorem iq:∀ k:Kd,(kd k).pure=true
 | .w=>by simp [kd,PV.pure,am]
 | .t=>by simp [kd,PV.pure,am]
 | .n=>by simp [kd,PV.pure,am]
 | .b=>by simp [kd,PV.pure,am]
 | .l k=>by simp [kd,PV.pure,am,iq k]
 | .r fs=>by simp [kd,PV.pure,am,sC fs]
theorem sC:∀ k:Kds,am (kds k)=true
 | .nil=>by simp [kds,am]
 | .cons x k r=>by simp [kds,PV.pure,am,iq k,sC r]
end
mutual
theorem oj:∀ {k:Kd},wK k=true→fd (3 * zK k) (kd k)
 | .w,_=>by rw [kd,zK];exact aN (aP (ak (aY rfl) (aH 0))) (by omega)
 | .t,_=>by rw [kd,zK];exact aN (aP (ak (aY rfl) (aH 0))) (by omega)
 | .n,_=>by rw [kd,zK];exact aN (aP (ak (aY rfl) (aH 0))) (by omega)
 | .b,_=>by rw [kd,zK];exact aN (aP (ak (aY rfl) (aH 0))) (by omega)
 | .l k,h=>by rw [wK] at h;rw [kd,zK];exact aN (aP (ak (aY rfl) (ak (oj h) (aH _)))) (by omega)
 | .r fs,h=>by rw [wK] at h;rw [kd,zK];exact aN (aP (ak (aY rfl) (ak (aP (vt h)) (aH _)))) (by omega)
theorem vt:∀ {k:Kds},wKs k=true→fds (3 * zKs k+1) (kds k)
 | .nil,_=>by rw [kds];exact aH _
 | .cons x k r,h=>by
  rw [wKs,Bool.and_eq_true,Bool.and_eq_true] at h;rw [kds,zKs]
  exact ak (aN (aP (ak (aY h.1) (ak (oj h.2.1) (aH _)))) (by omega)) (og (vt h.2.2) (by omega))
end
theorem hM(h:List PO)(k:Kd):aq h (kd k)=kd k:=mJ (h:=h) (iq k)
theorem vv{p:PV}(hp:fd 60 p)(h:List PO):okD h p=true:=by
 have:dOf h p=toD p:=by cases p<;>first | rfl | (have:=hp.2.2;simp [PV.pure] at this)
 unfold okD;rw [this,hp.1];simpa using hp.2.1
theorem EM{p q:PV}(hp:fd 60 p)(hq:fd 60 q):∃ b:Bool,∀ h,pEq p q h= .ok (.bl b) h:=by
 have e:∀ (z:PV),fd 60 z→∀ h,dOf h z=toD z:=fun z hz h=>by cases z<;>first | rfl | (have:=hz.2.2;simp [PV.pure] at this)
 refine ⟨PyData.eqv (toD p) (toD q),fun h=>?_⟩
 unfold pEq;rw [if_pos ⟨vv hp h,vv hq h⟩,e p hp,e q hq]
theorem EL{a b:Kd}(ha:kGd a)(hb:kGd b):∃ c:Bool,∀ h,pEq (kd a) (kd b) h= .ok (.bl c) h:=EM (aN (oj ha.1) (by have:=ha.2;omega)) (aN (oj hb.1) (by have:=hb.2;omega))
abbrev Scp:=List (List Nat×Kd)
def sv(x:List Nat×Kd):PV:=.tup [.str x.1,kd x.2]
def scv(s:Scp):PV:=.lst (s.map sv)
theorem zV(x:List Nat×Kd):(sv x).pure=true:=by simp [sv,PV.pure,am,iq]
theorem rG:∀ s:Scp,am (s.map sv)=true
 | []=>rfl
 | a::r=>by rw [List.map_cons,am,zV,rG r];rfl
theorem fF(s:Scp):(scv s).pure=true:=by unfold scv;rw [PV.pure];exact rG s
theorem jA(h:List PO)(s:Scp):aq h (scv s)=scv s:=rfl
abbrev Row:=Pth×Kd
def rw'(x:Row):PV:=.tup [pth x.1,kd x.2]
theorem mA(x:Row):(rw' x).pure=true:=by simp [rw',PV.pure,am,iq,dK]
theorem rL:∀ s:List Row,am (s.map rw')=true
 | []=>rfl
 | a::r=>by rw [List.map_cons,am,mA,rL r];rfl
def kdl(l:List Kd):PV:=.lst (l.map kd)
theorem oZ:∀ s:List Kd,am (s.map kd)=true
 | []=>rfl
 | a::r=>by rw [List.map_cons,am,iq,oZ r];rfl
theorem km(l:List Kd):(kdl l).pure=true:=by unfold kdl;rw [PV.pure];exact oZ l
theorem fT(h:List PO)(l:List Kd):aq h (kdl l)=kdl l:=rfl
def hkv:Option (List Kd)→PV
 | none=>.non
 | some l=>kdl l
theorem sG(o:Option (List Kd)):(hkv o).pure=true:=by cases o<;>first | rfl | exact km _
theorem qM(h:List PO)(o:Option (List Kd)):aq h (hkv o)=hkv o:=by cases o<;>rfl
def pkv(x:List Nat×Kd):PK×PV:=(.inr x.1,kd x.2)
theorem yd:∀ s:Scp,jt (s.map sv)=some (s.map pkv)
 | []=>rfl
 | a::r=>by
  have ih:=yd r
  show (match kj (.str a.1),jt (r.map sv) with | some kk,some l=>some ((kk,kd a.2)::l) | _,_=>none)=_
  rw [ih];rfl
def sOk(s:Scp):Prop:=∀ x∈s,sg x.1=true∧kGd x.2
theorem Ag(a:Scp)(x:List Nat×Kd):∃ a':Scp,jB (a.map pkv) (pkv x).1 (pkv x).2=a'.map pkv∧a'.length≤a.length+1∧∀ y∈a',y∈a∨(y.1=x.1∧y.2=x.2):=by
 unfold jB
 split
 ·refine ⟨a.map fun y=>if y.1=x.1 then x else y,?_,by rw [List.length_map];omega,fun y hy=>?_⟩
  ·rw [List.map_map,List.map_map]
   refine List.map_congr_left fun y _=>?_
   show (if (pkv y).1=(pkv x).1 then _ else _)=pkv (if y.1=x.1 then x else y)
   by_cases e:y.1=x.1
   ·rw [if_pos (show (pkv y).1=(pkv x).1 by show Sum.inr _=Sum.inr _;rw [e]),if_pos e];show (Sum.inr y.1,_)=(Sum.inr x.1,_);rw [e];rfl
   ·rw [if_neg (fun z=>e (by injection z)),if_neg e]
  ·obtain ⟨z,hz,rfl⟩:=List.mem_map.mp hy
   by_cases e:z.1=x.1
   ·rw [if_pos e];exact .inr ⟨rfl,rfl⟩
   ·rw [if_neg e];exact .inl hz
 ·refine ⟨a++ [x],by rw [List.map_append];rfl,by simp,fun y hy=>?_⟩
  rcases List.mem_append.mp hy with h | h
  ·exact .inl h
  ·cases List.mem_singleton.mp h;exact .inr ⟨rfl,rfl⟩
theorem yE(P:List Nat×Kd→Prop):∀ (s a:Scp),(∀ x∈s,P x)→(∀ x∈a,P x)→∃ s':Scp,(s.map pkv).foldl (fun acc kv=>jB acc kv.1 kv.2) (a.map pkv)=s'.map pkv∧s'.length≤a.length+s.length∧∀ y∈s',P y
 | [],a,_,ha=>⟨a,rfl,by simp,ha⟩
 | x::r,a,hs,ha=>by
  obtain ⟨a',e,l,m⟩:=Ag a x
  obtain ⟨s',e2,l2,m2⟩:=yE P r a' (fun y hy=>hs y (List.mem_cons_of_mem _ hy)) (fun y hy=>by
   rcases m y hy with z | ⟨z1,z2⟩
   ·exact ha y z
   ·have:=hs x List.mem_cons_self;rwa [show y=x from Prod.ext z1 z2])
  refine ⟨s',?_,by rw [List.length_cons];omega,m2⟩
  rw [List.map_cons,List.foldl_cons,e];exact e2
theorem qH{α:Type}{te:Ex}{cp:Ev}{h:List PO}(f1 f2 g:α→PV):∀ l:List α,(∀ x∈l,te (some (f1 x)::some (f2 x)::cp) h= .ok (g x) h)→eE bF te cp (l.map fun x=>.tup [f1 x,f2 x]) h= .ok (l.map g) h
 | [],_=>rfl
 | x::r,h2=>by
  have ih:=qH f1 f2 g r fun z hz=>h2 z (List.mem_cons_of_mem _ hz)
  rw [List.map_cons,eE,show bF (some (f1 x)::some (f2 x)::cp) h= .ok true h from rfl]
  simp only [Res.bind_ok,if_true]
  rw [h2 x List.mem_cons_self];simp only [Res.bind_ok,ih,List.map_cons]
structure rOk(ns:List (List Nat))(r:Row):Prop where
 m:r.1.a∈ns
 w:wp r.1=true
 l:r.1.f.length≤3
 k:kGd r.2
def kl:Kds→Scp
 | .nil=> []
 | .cons x k r=>(x,k)::kl r
theorem yO:∀ fs:Kds,kds fs=(kl fs).map sv
 | .nil=>by rw [kds];rfl
 | .cons x k r=>by rw [kds,yO r];rfl
theorem Br:∀ {fs:Kds},wKs fs=true→zKs fs≤14→sOk (kl fs)∧((kl fs).map fun x=>zK x.2).sum=zKs fs
 | .nil,_,_=>⟨fun x hx=>(by cases hx),rfl⟩
 | .cons x k r,h,z=>by
  rw [wKs,Bool.and_eq_true,Bool.and_eq_true] at h;rw [zKs] at z
  obtain ⟨a,b⟩:=Br (fs:=r) h.2.2 (by omega)
  refine ⟨fun y hy=>?_,?_⟩
  ·rcases List.mem_cons.mp hy with q | q
   ·subst q;exact ⟨h.1,h.2.1,by show zK k≤14;omega⟩
   ·exact a y q
  ·rw [kl,List.map_cons,List.sum_cons,zKs,b]
def zR(l:List Row):Nat:=(l.map fun x=>zK x.2).sum
theorem pQ(l:List Row):l.length≤zR l:=by
 induction l with
 | nil=>exact Nat.le_refl _
 | cons a r ih=>unfold zR at *;rw [List.map_cons,List.sum_cons,List.length_cons];have:=xj a.2;omega
def lx(p:Pth)(fs:Kds):List Row:=(kl fs).map fun x=>(⟨p.a,p.f++ [x.1]⟩,x.2)
abbrev pE(s:Scp)(i:Nat)(x3 x4:Option PV):Ev:= [some (scv s),some (.ref 1),some (.int i),x3,x4]
theorem AK{α:Type}(f:α→PV)(hp:∀ x,(f x).pure=true)(z:PO){l:List α}{i:Nat}{r:α}(e:l[i]? =some r):pIx (.ref 1) (.int i) [z,.lst (l.map f)]= .ok (f r) [z,.lst (l.map f)]:=by
 show (match atI (l.map f) i with | some v=>Res.ok (aq [z,.lst (l.map f)] v) [z,.lst (l.map f)] | none=>.bad)=_
 rw [eG (v:=f r) (by omega) (by rw [Int.toNat_natCast,List.getElem?_map,e];rfl)]
 show Res.ok (aq _ (f r)) _=_
 rw [mJ (h:=_) (hp r)]
theorem uO(p:Pth)(h:List PO):bv [pth p] h= .ok (.int ((p.f.length+1:Nat):Int)) h:=by unfold pth;rw [yI,List.length_cons,List.length_map]
theorem Ai(p:Pth)(x:List Nat)(h:List PO)(hl:p.f.length≤100):ay (pth p) (.tup [.str x]) h= .ok (pth ⟨p.a,p.f++ [x]⟩) h:=by
 unfold pth
 rw [oA _ _ h (by rw [List.length_cons,List.length_map];exact Nat.le_trans (by simp;omega:_≤1000) (by decide))]
 rw [List.map_append];rfl
theorem wD(k:Nat)(s:Scp)(fz:PO)(D:List Row)(r:Row)(t:List Row)(x3 x4:Option PV)(hr:rOk (s.map (·.1)) r)(hl:D.length+zR (r::t)≤1000000):
  ∃ c:List Row,zR c+1≤zK r.2∧(∀ x∈c,rOk (s.map (·.1)) x)∧∃ y3 y4,dD (F k) (pE s D.length x3 x4) [fz,.lst ((D++r::t).map rw')]= .nx (pE s (D++ [r]).length y3 y4) [fz,.lst ((D++ [r]++(t++c)).map rw')]:=by
 obtain ⟨p,kk⟩:=r
 have i1:=AK rw' mA fz (l:=D++(p,kk)::t) (i:=D.length) (r:=(p,kk)) (by simp)
 have d1:∀ xs:List PV,aq [fz,.lst xs] (.ref 1)= .ref 1:=fun _=>rfl
 have rt:∀ h,aq h (rw' (p,kk))= .tup [pth p,kd kk]:=fun h=>rfl
 have rq:rw' (p,kk)= .tup [pth p,kd kk]:=rfl
 have ez:((D.length:Nat):Int)+1=(((D++ [(p,kk)]).length:Nat):Int):=by simp
 have dp:∀ h,aq h (pth p)=pth p:=fun _=>rfl
 have e4:∀ h,pEq (.str (tgK kk)) (.str [114]) h= .ok (.bl (decide (tgK kk= [114]))) h:=fun h=>vw (sZ kk) rfl h
 have same:(D++ [(p,kk)]++(t++ [])).map rw'=(D++(p,kk)::t).map rw':=by simp
 have il:∀ xs:List PV,bM [fz,.lst xs] (.ref 1)=true:=fun _=>rfl
 by_cases q:tgK kk= [114]∧p.f.length+1<4
 ·obtain ⟨q1,q2⟩:=q
  obtain ⟨fs,rfl⟩:∃ fs,kk= .r fs:=by cases kk<;>first | exact ⟨_,rfl⟩ | (exfalso;simp [tgK] at q1)
  have hk:=hr.k
  unfold kGd at hk;rw [wK,zK] at hk
  obtain ⟨o1,o2⟩:=Br hk.1 (by omega)
  have zc:zR (lx p fs)=zKs fs:=by unfold zR lx;rw [List.map_map,← o2];rfl
  refine ⟨lx p fs,by rw [zc];show _≤zK (.r fs);rw [zK];omega,fun x hx=>?_,some (pth p),some (kd (.r fs)),?_⟩
  ·obtain ⟨y,hy,rfl⟩:=List.mem_map.mp hx
   obtain ⟨y1,y2⟩:=o1 y hy
   have w:=hr.w
   refine ⟨hr.m,?_,?_,y2⟩
   ·simp only [wp,Bool.and_eq_true,decide_eq_true_eq] at w ⊢
    exact ⟨w.1,jh w.2.1 (by simp [sgs,y1]),by show (p.f++ [y.1]).length≤3;simp;omega⟩
   ·show (p.f++ [y.1]).length≤3;simp;omega
  ·have t1:decide (tgK (.r fs)= [114])=true:=rfl
   have t2:decide (((p.f.length+1:Nat):Int)<4)=true:=decide_eq_true (by omega)
   have ik:∀ h,pIx (kd (.r fs)) (.int 1) h= .ok (.tup (kds fs)) h:=fun h=>by rw [kd];rfl
   have cl:((kl fs).map fun x:List Nat×Kd=>PV.tup [.str x.1,kd x.2]).length<16777216:=by
    have:=pQ (lx p fs)
    rw [List.length_map];unfold lx at this;rw [List.length_map] at this;unfold lx at zc;omega
   have kk2:kds fs=(kl fs).map fun x:List Nat×Kd=>PV.tup [.str x.1,kd x.2]:=yO fs
   have cm:∀ h,eE bF (jb (F k)) [some (pth p)] ((kl fs).map fun x:List Nat×Kd=>PV.tup [.str x.1,kd x.2]) h= .ok ((lx p fs).map rw') h:=fun h=>by
    have:(lx p fs).map rw'=(kl fs).map fun x=>rw' (⟨p.a,p.f++ [x.1]⟩,x.2):=by unfold lx;rw [List.map_map];rfl
    rw [this]
    refine qH (fun x:List Nat×Kd=>PV.str x.1) (fun x=>kd x.2) _ (kl fs) fun x _=>?_
    simp only [EX,jb,dp,hM,Ai p x.1 _ (by omega:p.f.length≤100)];rfl
   have ex:cG (.ref 1) [.lst ((lx p fs).map rw')] [fz,.lst ((D++(p,Kd.r fs)::t).map rw')]= .ok .non [fz,.lst ((D++ [(p,Kd.r fs)]++(t++lx p fs)).map rw')]:=by
    have e:fK [fz,.lst ((D++(p,Kd.r fs)::t).map rw')] (.ref 1)=some (1,(D++(p,Kd.r fs)::t).map rw'):=rfl
    have:=pQ (lx p fs)
    have l2:=pQ t
    have l3:zR ((p,Kd.r fs)::t)=zK (.r fs)+zR t:=by unfold zR;rw [List.map_cons,List.sum_cons]
    rw [zK] at l3
    show (match fK [fz,.lst ((D++(p,Kd.r fs)::t).map rw')] (.ref 1),some ((lx p fs).map rw') with | some (i,xs),some ys=>if xs.length+ys.length≤sizeLine then Res.ok PV.non (List.set _ i (.lst (xs++ys))) else .bad | _,_=>.bad)=_
    rw [e]
    dsimp only
    rw [if_pos (by rw [List.length_map,List.length_map,List.length_append,List.length_cons];exact Nat.le_trans (by omega:_≤1000001) (by decide)),← List.map_append]
    simp
   simp only [EX,dD,d1,i1,rq,e4,t1,wU,dp,hM,uO,t2,ik,kk2,cl,cm,il,ex,bW,Option.getD,ez]
 ·refine ⟨[],by show 0+1≤_;have:=xj kk;omega,fun x hx=>(by cases hx),some (pth p),some (kd kk),?_⟩
  rw [same]
  by_cases q1:tgK kk= [114]
  ·have t1:decide (tgK kk= [114])=true:=decide_eq_true q1
   have t2:decide (((p.f.length+1:Nat):Int)<4)=false:=decide_eq_false (by have:¬ p.f.length+1<4:=fun z=>q ⟨q1,z⟩;omega)
   simp only [EX,dD,d1,i1,rq,e4,t1,wU,dp,hM,uO,t2,ez]
  ·have t1:decide (tgK kk= [114])=false:=decide_eq_false q1
   simp only [EX,dD,d1,i1,rq,e4,t1,wU,dp,hM,ez]
theorem qT{h:List PO}{i:Nat}{xs:List PV}(e:h[i]? =some (.lst xs))(hp:am xs=true):gh (.ref i) h= .ok (.lst xs):=by
 unfold gh ir;dsimp only;rw [e];dsimp only;rw [if_pos hp]
theorem wE(k:Nat)(s:Scp)(fz:PO)(N:Nat)(hN:N≤1000000):∀ (m:Nat) (t D:List Row) (x3 x4:Option PV),zR t≤m→(∀ r∈D,rOk (s.map (·.1)) r)→(∀ r∈t,rOk (s.map (·.1)) r)→D.length+zR t≤N→
  ∃ rows:List Row,(∀ r∈rows,rOk (s.map (·.1)) r)∧rows.length≤N∧∃ ρ,ew (aJ (c2 pLt (af 2) (cN bv (ab (af 1) aj)))) (dD (F k)) (pE s D.length x3 x4) [fz,.lst ((D++t).map rw')]= .nx ρ [fz,.lst (rows.map rw')]∧ρ[1]? =some (some (.ref 1)):=by
 intro m
 induction m with
 | zero=>
  intro t D x3 x4 hm hD ht hl
  have:=pQ t
  obtain rfl:t= []:=List.eq_nil_of_length_eq_zero (by omega)
  have ln:∀ xs:List PV,bv [.ref 1] [fz,.lst xs]= .ok (.int xs.length) [fz,.lst xs]:=fun _=>rfl
  have d1:∀ xs:List PV,aq [fz,.lst xs] (.ref 1)= .ref 1:=fun _=>rfl
  refine ⟨D,hD,by omega,_,xA (h1:= [fz,.lst ((D++ []).map rw')]) ?_ |>.trans (by rw [List.append_nil]),rfl⟩
  have z:decide (((D.length:Nat):Int)<((D.map rw').length:Nat))=false:=decide_eq_false (by simp)
  simp only [EX,d1,ln,z]
 | succ m ih=>
  intro t D x3 x4 hm hD ht hl
  have ln:∀ xs:List PV,bv [.ref 1] [fz,.lst xs]= .ok (.int xs.length) [fz,.lst xs]:=fun _=>rfl
  have d1:∀ xs:List PV,aq [fz,.lst xs] (.ref 1)= .ref 1:=fun _=>rfl
  cases t with
  | nil=>
   refine ⟨D,hD,by omega,_,xA (h1:= [fz,.lst ((D++ []).map rw')]) ?_ |>.trans (by rw [List.append_nil]),rfl⟩
   have z:decide (((D.length:Nat):Int)<((D.map rw').length:Nat))=false:=decide_eq_false (by simp)
   simp only [EX,d1,ln,z]
  | cons r t=>
   have zt:zR (r::t)=zK r.2+zR t:=by unfold zR;rw [List.map_cons,List.sum_cons]
   obtain ⟨c,c1,c2,y3,y4,e⟩:=wD k s fz D r t x3 x4 (ht r List.mem_cons_self) (by omega)
   have za:zR (t++c)=zR t+zR c:=by unfold zR;rw [List.map_append,List.sum_append]
   have l1:(D++ [r]).length=D.length+1:=by simp
   obtain ⟨rows,a1,a2,ρ,a3,a4⟩:=ih (t++c) (D++ [r]) y3 y4 (by omega) (fun x hx=>by
    rcases List.mem_append.mp hx with q | q
    ·exact hD x q
    ·cases List.mem_singleton.mp q;exact ht r List.mem_cons_self) (fun x hx=>by
    rcases List.mem_append.mp hx with q | q
    ·exact ht x (List.mem_cons_of_mem _ q)
    ·exact c2 x q) (by omega)
   refine ⟨rows,a1,a2,ρ,Bi (h1:= [fz,.lst ((D++r::t).map rw')]) ?_ e a3 (by intro z;cases z),a4⟩
   have z:decide (((D.length:Nat):Int)<(((D++r::t).map rw').length:Nat))=true:=decide_eq_true (by simp;omega)
   simp only [EX,d1,ln,z]
theorem Dl(l:List Row)(h:∀ r∈l,kGd r.2):zR l≤14 * l.length:=by
 induction l with
 | nil=>exact Nat.le_refl _
 | cons a r ih=>
  have:=ih fun x hx=>h x (List.mem_cons_of_mem _ hx)
  have:=(h a List.mem_cons_self).2
  unfold zR at *;rw [List.map_cons,List.sum_cons,List.length_cons];omega
theorem nH(k:Nat)(s:Scp)(hs:sOk s)(hl:s.length≤1000):∃ rows:List Row,(∀ r∈rows,rOk (s.map (·.1)) r)∧rows.length≤14 * s.length∧F (k+1) .l_paths [scv s]= .ok (.lst (rows.map rw')):=by
 obtain ⟨s',m1,m2,m3⟩:=yE (fun x=>x.1∈s.map (·.1)∧sg x.1=true∧kGd x.2) s [] (fun x hx=>⟨List.mem_map_of_mem hx,hs x hx⟩) (fun x hx=>(by cases hx))
 have mk:mkD (s.map pkv)=s'.map pkv:=m1
 rw [List.length_nil,Nat.zero_add] at m2
 let T:List Row:=s'.map fun x=>(⟨x.1,[]⟩,x.2)
 have tk:∀ r∈T,rOk (s.map (·.1)) r:=fun r hr=>by
  obtain ⟨x,hx,rfl⟩:=List.mem_map.mp hr
  obtain ⟨a,b,c⟩:=m3 x hx
  exact ⟨a,by simp only [wp,Bool.and_eq_true,decide_eq_true_eq];exact ⟨b,rfl,Nat.zero_le _⟩,Nat.zero_le _,c⟩
 have zt:zR T≤14 * s'.length:=by have:=Dl T fun r hr=>(tk r hr).k;rwa [List.length_map] at this
 have fzp:cW (s'.map pkv)=true:=by
  rw [eY,List.map_map]
  clear mk m2 zt tk m1 m3
  induction s' with
  | nil=>rfl
  | cons a r ih=>rw [List.map_cons,am,ih];simp [pkv,iq]
 obtain ⟨rows,a1,a2,ρ,a3,a4⟩:=wE k s (.froz (.dct (s'.map pkv))) (14 * s.length) (by omega) (14 * s.length) T [] none none (by omega) (fun x hx=>(by cases hx)) tk (by rw [List.length_nil];omega)
 refine ⟨rows,a1,a2,?_⟩
 have r2:F (k+1) .l_paths [scv s]=match jo (F k) [some (scv s),none,none,none,none] [] with
   | .nx _ _=>.ok .non
   | .rt v h=>gh v h
   | _=>.bad:=rfl
 have dp:iR [scv s] []= .ok (.ref 0) [.dct (s'.map pkv)]:=by
  show (match jt (s.map sv) with | some l=>Res.ok (PV.ref 0) [PO.dct (mkD l)] | none=>.bad)=_
  rw [yd];dsimp only;rw [mk]
 have fz:fzR (.ref 0) [.dct (s'.map pkv)]= .ok (.dct (s'.map pkv)) [.froz (.dct (s'.map pkv))]:=by
  show (match (if cW (s'.map pkv)=true then some (PV.dct (s'.map pkv),[PO.froz (.dct (s'.map pkv))]) else none) with | some (q,h2)=>Res.ok q h2 | none=>.bad)=_
  rw [if_pos fzp]
 have im:ua (s'.map pkv)=s'.map fun x:List Nat×Kd=>PV.tup [.str x.1,kd x.2]:=by unfold ua;rw [List.map_map];rfl
 have cl:(s'.map fun x:List Nat×Kd=>PV.tup [.str x.1,kd x.2]).length<16777216:=by rw [List.length_map];omega
 have cm:∀ h,eE bF (jc (F k)) [] (s'.map fun x:List Nat×Kd=>PV.tup [.str x.1,kd x.2]) h= .ok (T.map rw') h:=fun h=>by
  have:T.map rw'=s'.map fun x=>rw' (⟨x.1,[]⟩,x.2):=by rw [List.map_map];rfl
  rw [this]
  refine qH (fun x:List Nat×Kd=>PV.str x.1) (fun x=>kd x.2) _ s' fun x _=>?_
  simp only [EX,jc,hM];rfl
 have nl:nT (T.map rw') [.froz (.dct (s'.map pkv))]= .ok (.ref 1) [.froz (.dct (s'.map pkv)),.lst (T.map rw')]:=rfl
 have a3':ew (aJ (c2 pLt (af 2) (cN bv (ab (af 1) aj)))) (dD (F k)) [some (scv s),some (.ref 1),some (.int 0),none,none] [.froz (.dct (s'.map pkv)),.lst (T.map rw')]= .nx ρ [.froz (.dct (s'.map pkv)),.lst (rows.map rw')]:=a3
 have v1:af 1 ρ [.froz (.dct (s'.map pkv)),.lst (rows.map rw')]= .ok (.ref 1) [.froz (.dct (s'.map pkv)),.lst (rows.map rw')]:=by
  show (match ρ[1]? with | some (some p)=>Res.ok (aq _ p) _ | _=>.bad)=_
  rw [a4];rfl
 rw [r2]
 simp only [EX,jo,jA,dp,fz,im,cl,cm,nl,bW,a3',v1]
 exact qT rfl (rL rows)
structure Pk where
 n:List Nat
 o:List Kd
 h:Option (List Kd)
def pkP(p:Pk):PV:=.tup [.str p.n,kdl p.o,hkv p.h]
theorem rU(p:Pk):(pkP p).pure=true:=by simp [pkP,PV.pure,am,km,sG]
theorem oU:∀ s:List Pk,am (s.map pkP)=true
 | []=>rfl
 | a::r=>by rw [List.map_cons,am,rU,oU r];rfl
structure Ta where
 s:Scp
 p:List Pk
 h:Option (List Kd)
 ms:List (List Nat)
 td:Bool
 od:Bool
abbrev kS:List Nat:= [115,99,111,112,101]
abbrev kTi:List Nat:= [116,105,100,121]
abbrev kOd:List Nat:= [111,100,100]
def ta(A:Ta):PV:=.dct [(.inr kS,scv A.s),(.inr kP,.lst (A.p.map pkP)),(.inr kH,hkv A.h),(.inr kN,mnu A.ms),(.inr kTi,.bl A.td),(.inr kOd,.bl A.od)]
theorem gA(A:Ta):(ta A).pure=true:=by simp [ta,PV.pure,cW,fF,oU,sG,gf]
section
variable (A:Ta) (h:List PO)
theorem bI:aq h (ta A)=ta A:=rfl
theorem tc:pIx (ta A) (.str kS) h= .ok (scv A.s) h:=rfl
theorem Ds:pIx (ta A) (.str kP) h= .ok (.lst (A.p.map pkP)) h:=rfl
theorem Du:pIx (ta A) (.str kH) h= .ok (hkv A.h) h:=by show Res.ok (aq h (hkv A.h)) h=_;rw [qM]
theorem Dt:pIx (ta A) (.str kN) h= .ok (mnu A.ms) h:=rfl
theorem lW:pIx (ta A) (.str kTi) h= .ok (.bl A.td) h:=rfl
theorem BM:pIx (ta A) (.str kOd) h= .ok (.bl A.od) h:=rfl
end
def kOl(l:List Kd):Prop:=∀ k∈l,kGd k
def hOl:Option (List Kd)→Prop
 | none=>True
 | some l=>l.length≤3∧kOl l
def peK(p:Pk):Pe:=⟨p.n,p.o.length,p.h.map fun l=>(l.length:Int)⟩
abbrev cxT(A:Ta):Cx:=(A.p.map peK,A.h.map fun l=>(l.length:Int),A.s.map (·.1))
structure tOk(j:Nat)(A:Ta):Prop where
 s:sOk A.s
 l:A.s.length≤j
 pl:A.p.length≤1000
 p:∀ p∈A.p,sg p.n=true∧p.o.length≤4∧kOl p.o∧hOl p.h
 h:hOl A.h
 ml:A.ms.length=12
 m:sgs A.ms=true
 mn:A.ms.Nodup
 pn:(A.p.map (·.n)).Nodup
theorem vn{α:Type}{tt:Tx}{te:Ex}{cp:Ev}(f1 f2 g:α→PV):∀ l:List α,(∀ x∈l,∃ b:Bool,∀ h,tt (some (f1 x)::some (f2 x)::cp) h= .ok b h)→(∀ x∈l,∀ h,te (some (f1 x)::some (f2 x)::cp) h= .ok (g x) h)→∃ l':List α,(∀ y∈l',y∈l)∧l'.length≤l.length∧∀ h,eE tt te cp (l.map fun x=>.tup [f1 x,f2 x]) h= .ok (l'.map g) h
 | [],_,_=>⟨[],fun y hy=>hy,Nat.le_refl _,fun h=>rfl⟩
 | x::r,h1,h2=>by
  obtain ⟨l',a,b,c⟩:=vn f1 f2 g r (fun z hz=>h1 z (List.mem_cons_of_mem _ hz)) fun z hz=>h2 z (List.mem_cons_of_mem _ hz)
  obtain ⟨q,hq⟩:=h1 x List.mem_cons_self
  have hx:=h2 x List.mem_cons_self
  cases q with
  | true=>
   refine ⟨x::l',fun y hy=>?_,by simp;omega,fun h=>?_⟩
   ·rcases List.mem_cons.mp hy with z | z
    ·subst z;exact List.mem_cons_self
    ·exact List.mem_cons_of_mem _ (a y z)
   ·rw [List.map_cons,eE,hq];simp only [Res.bind_ok,if_true];rw [hx];simp only [Res.bind_ok,c,List.map_cons]
  | false=>
   refine ⟨l',fun y hy=>List.mem_cons_of_mem _ (a y hy),by simp;omega,fun h=>?_⟩
   rw [List.map_cons,eE,hq];simp only [Res.bind_ok,Bool.false_eq_true,if_false];exact c h
theorem qS{α:Type}{tt:Tx}{te:Ex}{cp:Ev}(f g:α→PV):∀ l:List α,(∀ x∈l,∃ b:Bool,∀ h,tt (some (f x)::cp) h= .ok b h)→(∀ x∈l,∀ h,te (some (f x)::cp) h= .ok (g x) h)→∃ l':List α,(∀ y∈l',y∈l∧∀ h,tt (some (f y)::cp) h= .ok true h)∧l'.length≤l.length∧∀ h,bZ tt te cp (l.map f) h= .ok (l'.map g) h
 | [],_,_=>⟨[],fun y hy=>(by cases hy),Nat.le_refl _,fun h=>rfl⟩
 | x::r,h1,h2=>by
  obtain ⟨l',a,b,c⟩:=qS f g r (fun z hz=>h1 z (List.mem_cons_of_mem _ hz)) fun z hz=>h2 z (List.mem_cons_of_mem _ hz)
  obtain ⟨q,hq⟩:=h1 x List.mem_cons_self
  have hx:=h2 x List.mem_cons_self
  cases q with
  | true=>
   refine ⟨x::l',fun y hy=>?_,by simp;omega,fun h=>?_⟩
   ·rcases List.mem_cons.mp hy with z | z
    ·subst z;exact ⟨List.mem_cons_self,hq⟩
    ·exact ⟨List.mem_cons_of_mem _ (a y z).1,(a y z).2⟩
   ·rw [List.map_cons,bZ,hq];simp only [Res.bind_ok,if_true];rw [hx];simp only [Res.bind_ok,c,List.map_cons]
  | false=>
   refine ⟨l',fun y hy=>⟨List.mem_cons_of_mem _ (a y hy).1,(a y hy).2⟩,by simp;omega,fun h=>?_⟩
   rw [List.map_cons,bZ,hq];simp only [Res.bind_ok,Bool.false_eq_true,if_false];exact c h
theorem nY{α:Type}(f:α→PV)(hp:∀ x,(f x).pure=true){l:List α}(hl:l≠ [])(v:Int):∃ x∈l,decide (0<((l.map f).length:Int))=true∧∀ h,pIx (.lst (l.map f)) (.int (v % ((l.map f).length:Nat))) h= .ok (f x) h:=by
 have l0:0<l.length:=List.length_pos_iff.mpr hl
 have e:((l.map f).length:Int)=(l.length:Int):=by rw [List.length_map]
 obtain ⟨a,b⟩:=bx v (show (0:Int)<(l.length:Int) by omega)
 have hi:(v % (l.length:Int)).toNat<l.length:=by omega
 refine ⟨l[(v % (l.length:Int)).toNat],List.getElem_mem hi,by rw [e];exact decide_eq_true (by omega),fun h=>?_⟩
 rw [e,nX,eG (v:=f l[(v % (l.length:Int)).toNat]) a (by rw [List.getElem?_map,List.getElem?_eq_getElem hi];rfl)]
 show Res.ok (aq h (f _)) h=_
 rw [mJ (h:=h) (hp _)]
def pOk(ns:List (List Nat))(p:Pth):Prop:=p.a∈ns∧wp p=true∧p.f.length≤3
abbrev hE(cs:List Int)(s:Scp)(ks:List Kd)(x5 x6:Option PV):Ev:= [some (cv cs),some (.ref 0),some (scv s),some (kdl ks),some (.ref 1),x5,x6]
theorem sH(K:Nat)(cs:List Int)(hc:cs.length≤63)(s:Scp)(hs:sOk s)(hl:s.length≤1000)(ks:List Kd)(k:Kd)(hk:kGd k)(n m:Int)(h0:0≤n)(h1:n≤1900000)(acc:List Pth)(la:acc.length≤1000)(x6:Option PV):
  cy (F (K+1)) (L (K+1)) (hE cs s ks (some (kd k)) x6) [spt n m,.lst (acc.map pth)]= .rt .non [spt n m,.lst (acc.map pth)]∨
  ∃ p y6,pOk (s.map (·.1)) p∧cy (F (K+1)) (L (K+1)) (hE cs s ks (some (kd k)) x6) [spt n m,.lst (acc.map pth)]= .nx (hE cs s ks (some (kd k)) y6) [spt (n+1) m,.lst ((acc++ [p]).map pth)]:=by
 obtain ⟨rows,r1,r2,r3⟩:=nH K s hs hl
 have cp:∀ h,dv (F (K+1) .l_paths) [scv s] h= .ok (.lst (rows.map rw')) h:=fun h=>cH h (by rw [am,fF];rfl) r3
 obtain ⟨fl,f1,f2,f3⟩:=vn (tt:=ib (F (K+1))) (te:=iw (F (K+1))) (cp:= [some (kd k)]) (fun x:Row=>pth x.1) (fun x=>kd x.2) (fun x=>pth x.1) rows (fun x hx=>by
   obtain ⟨c,e⟩:=EL (r1 x hx).k hk
   exact ⟨c,fun h=>by simp only [EX,ib,hM,e]⟩) (fun x hx h=>by simp only [EX,iw])
 have er:(rows.map rw')=rows.map fun x=>PV.tup [pth x.1,kd x.2]:=rfl
 have lr:(rows.map fun x:Row=>PV.tup [pth x.1,kd x.2]).length<16777216:=by rw [List.length_map];omega
 have en:∀ h,pEq (.lst (fl.map fun x=>pth x.1)) (.lst []) h= .ok (.bl (fl.map fun x=>pth x.1).isEmpty) h:=fun h=>qW (by
  have:(fl.map fun x=>pth x.1)=pths (fl.map (·.1)):=by unfold pths;rw [List.map_map];rfl
  rw [this]
  clear f3 f2 this
  induction fl with
  | nil=>exact aH _
  | cons a r ih=>exact ak (aN (jM (d:=0) (r1 a (f1 a List.mem_cons_self)).w) (by omega)) (ih fun y hy=>f1 y (List.mem_cons_of_mem _ hy))) h
 have d1:∀ (o:PO) (xs:List PV),aq [o,.lst xs] (.ref 1)= .ref 1:=fun _ _=>rfl
 have d0:∀ (n:Int) (o:PO),aq [spt n m,o] (.ref 0)= .ref 0:=fun _ _=>rfl
 by_cases ne:fl= []
 ·subst ne
  left
  have en0:∀ h,pEq (.lst []) (.lst []) h= .ok (.bl true) h:=fun h=>en h
  simp only [EX,cy,jA,cp,er,lr,f3,bW,Option.getD,List.map_nil,en0]
 ·right
  have e0:(fl.map fun x=>pth x.1).isEmpty=false:=by cases fl<;>first | exact (ne rfl).elim | rfl
  obtain ⟨v,v0,v1,ce⟩:=cZ K cs hc n m h0 (by omega) [.lst (acc.map pth)]
  obtain ⟨x,hx,q,ix⟩:=nY (fun x:Row=>pth x.1) (fun x=>dK x.1) ne v
  have il:∀ (o:PO) (xs:List PV),bM [o,.lst xs] (.ref 1)=true:=fun _ _=>rfl
  have ap:bH (.ref 1) [pth x.1] [spt (n+1) m,.lst (acc.map pth)]= .ok .non [spt (n+1) m,.lst ((acc++ [x.1]).map pth)]:=by
   rw [pP (acc:=acc.map pth) rfl _ (by rw [List.length_map];omega),List.map_append];rfl
  refine ⟨x.1,some (.lst (fl.map fun x=>pth x.1)),⟨(r1 x (f1 x hx)).m,(r1 x (f1 x hx)).w,(r1 x (f1 x hx)).l⟩,?_⟩
  simp only [EX,cy,jA,bO,cp,er,lr,f3,bW,Option.getD,en,e0,d0,d1,ce,il,lR,q,ix,ap]
theorem lS(K:Nat)(cs:List Int)(hc:cs.length≤63)(s:Scp)(hs:sOk s)(hl:s.length≤1000)(ks:List Kd)(m:Int):∀ (r:List Kd) (n:Int) (acc:List Pth) (x5 x6:Option PV),(∀ k∈r,kGd k)→0≤n→n+r.length≤1900000→acc.length+r.length≤1000→(∀ p∈acc,pOk (s.map (·.1)) p)→
  ∃ n':Int,n≤n'∧n'≤n+r.length∧((∃ acc':List Pth,bg (gNm 5) (cy (F (K+1)) (L (K+1))) (r.map kd) (hE cs s ks x5 x6) [spt n m,.lst (acc.map pth)]= .rt .non [spt n' m,.lst (acc'.map pth)])∨
   ∃ (ps:List Pth) (y5 y6:Option PV),(∀ p∈ps,pOk (s.map (·.1)) p)∧ps.length=acc.length+r.length∧bg (gNm 5) (cy (F (K+1)) (L (K+1))) (r.map kd) (hE cs s ks x5 x6) [spt n m,.lst (acc.map pth)]= .nx (hE cs s ks y5 y6) [spt n' m,.lst (ps.map pth)])
 | [],n,acc,x5,x6,_,_,_,_,ha=>⟨n,Int.le_refl _,by simp,.inr ⟨acc,x5,x6,ha,rfl,by rw [List.map_nil,bg]⟩⟩
 | k::r,n,acc,x5,x6,hk,h0,h1,la,ha=>by
  rw [List.length_cons] at h1 la
  have ev:∀ z,gNm 5 z (hE cs s ks x5 x6)=some (hE cs s ks (some z) x6):=fun _=>rfl
  rcases sH K cs hc s hs hl ks k (hk k List.mem_cons_self) n m h0 (by omega) acc (by omega) x6 with e | ⟨p,y6,hp,e⟩
  ·refine ⟨n,Int.le_refl _,by rw [List.length_cons];omega,.inl ⟨acc,?_⟩⟩
   rw [List.map_cons,bg,ev];dsimp only;rw [e]
  ·obtain ⟨n',a,b,c⟩:=lS K cs hc s hs hl ks m r (n+1) (acc++ [p]) (some (kd k)) y6 (fun z hz=>hk z (List.mem_cons_of_mem _ hz)) (by omega) (by omega) (by rw [List.length_append,List.length_singleton];omega) (fun z hz=>by
    rcases List.mem_append.mp hz with q | q
    ·exact ha z q
    ·cases List.mem_singleton.mp q;exact hp)
   have st:=cO (r:=r.map kd) (ev (kd k)) e
   refine ⟨n',by omega,by rw [List.length_cons];omega,?_⟩
   rw [List.map_cons,st]
   rcases c with c | ⟨ps,y5,y6,c1,c2,c3⟩
   ·exact .inl c
   ·exact .inr ⟨ps,y5,y6,c1,by rw [c2,List.length_append,List.length_singleton,List.length_cons];omega,c3⟩
def opt:Option (List Pth)→PV
 | none=>.non
 | some l=>.tup (pths l)
theorem rX(o:Option (List Pth)):(opt o).pure=true:=by cases o with
 | none=>rfl
 | some l=>show (PV.tup (pths l)).pure=true;rw [PV.pure];exact eZ l
theorem wX(K:Nat)(cs:List Int)(hc:cs.length≤63)(s:Scp)(hs:sOk s)(hl:s.length≤1000)(ks:List Kd)(hk:kOl ks)(lk:ks.length≤100)(n m:Int)(h0:0≤n)(h1:n≤1800000):
  ∃ (o:Option (List Pth)) (n':Int),n≤n'∧n'≤n+ks.length∧(∀ ps,o=some ps→ps.length=ks.length∧∀ p∈ps,pOk (s.map (·.1)) p)∧L (K+2) .l_handed [cv cs,.ref 0,scv s,kdl ks] [spt n m]= .ok (opt o) [spt n' m]:=by
 obtain ⟨n',a,b,c⟩:=lS K cs hc s hs hl ks m ks n [] none none hk h0 (by omega) (by rw [List.length_nil];omega) (fun p hp=>(by cases hp))
 have r2:∀ x,gv (F (K+1)) (L (K+1)) [some (cv cs),some (.ref 0),some (scv s),some (kdl ks),none,none,none] [spt n m]=x→L (K+2) .l_handed [cv cs,.ref 0,scv s,kdl ks] [spt n m]=match x with | .nx _ h1=>lG 1 .non h1 | .rt v h1=>iu 1 v h1 | _=>.bad:=fun x e=>by subst e;rfl
 have lm:eM [] [spt n m]= .ok (.ref 1) [spt n m,.lst []]:=rfl
 have si:∀ h,gC (kdl ks) h= .ok (ks.map kd) h:=fun _=>rfl
 have d1:∀ (o:PO) (xs:List PV),aq [o,.lst xs] (.ref 1)= .ref 1:=fun _ _=>rfl
 rcases c with ⟨acc',c⟩ | ⟨ps,y5,y6,c1,c2,c3⟩
 ·refine ⟨none,n',a,b,fun ps e=>(by cases e),?_⟩
  have c':bg (gNm 5) (cy (F (K+1)) (L (K+1))) (ks.map kd) [some (cv cs),some (.ref 0),some (scv s),some (kdl ks),some (.ref 1),none,none] [spt n m,.lst []]= .rt .non [spt n' m,.lst (acc'.map pth)]:=c
  rw [r2 _ rfl]
  simp only [EX,gv,lm,fT,si,c']
  rfl
 ·refine ⟨some ps,n',a,b,fun z e=>by cases e;exact ⟨by rw [c2,List.length_nil];omega,c1⟩,?_⟩
  have c':bg (gNm 5) (cy (F (K+1)) (L (K+1))) (ks.map kd) [some (cv cs),some (.ref 0),some (scv s),some (kdl ks),some (.ref 1),none,none] [spt n m,.lst []]= .nx [some (cv cs),some (.ref 0),some (scv s),some (kdl ks),some (.ref 1),y5,y6] [spt n' m,.lst (ps.map pth)]:=c3
  have tp:cF [.ref 1] [spt n' m,.lst (ps.map pth)]= .ok (.tup (ps.map pth)) [spt n' m,.lst (ps.map pth)]:=rfl
  rw [r2 _ rfl]
  simp only [EX,gv,lm,fT,si,c',d1,tp]
  have pp:(PV.tup (ps.map pth)).pure=true:=rX (some ps)
  show iu 1 (.tup (ps.map pth)) _=_
  unfold iu;rw [iZ _ pp];rfl
theorem xv(k:Nat):F (k+1) .l_signs []= .ok (.str (ka++jZ)):=by
 show gK (jm (F k)) 0 1 []=_
 have:ka.length+jZ.length≤16777216:=by decide
 simp only [EX,gK,jm,this];rfl
def SGN:List Nat:=ka++jZ
theorem vT:SGN.length=95:=by decide
theorem Dc:sgc SGN=true:=by decide
theorem pZ(i:Int):∃ c,sg [c]=true∧c∈SGN∧∀ h,pIx (.str SGN) (.int (i % 95)) h= .ok (.str [c]) h:=by
 obtain ⟨a,b⟩:=bx i (by decide:(0:Int)<95)
 have hi:(i % 95).toNat<SGN.length:=by rw [vT];omega
 refine ⟨SGN.getD (i % 95).toNat 0,tj (l:=SGN) Dc (fun c hc=>by rw [List.mem_singleton.mp hc];exact eT hi) (by simp),eT hi,fun h=>?_⟩
 have z:=oy (xs:=SGN) 0 a (by rw [vT];omega)
 have zl:SGN.length≤16777216:=by decide
 simp only [EX,z,zl]
theorem jz(k:Nat)(h:List PO):dv (F (k+1) .l_signs) [] h= .ok (.str SGN) h:=cH h rfl (xv k)
theorem zU(K:Nat)(cs:List Int)(hc:cs.length≤63)(n m:Int)(h0:0≤n)(h1:n≤1900000):∃ s:List Nat,sg s=true∧s.length≤3∧L (K+2) .l_text [cv cs,.ref 0] [spt n m]= .ok (.str s) [spt (n+1) m]:=by
 obtain ⟨v,v0,v1,ce⟩:=cZ K cs hc n m h0 (by omega) []
 have t3:=bx v (by decide:(0:Int)<3)
 obtain ⟨ss,g0,g1,g2⟩:=tS (te:=jN (F (K+1))) (cp:= [some (.int v)]) (h:= [spt (n+1) m]) (fun i:Nat=>PV.int (0+(i:Nat))) (fun s=>sg s=true∧s.length≤1) (List.range (1+v % 3).toNat) fun i hi=>by
  have hi':=List.mem_range.mp hi
  obtain ⟨c,c1,_,c2⟩:=pZ (v / 3+(0+(i:Nat)) * (1+v / 300 % 94))
  have mi:hH (0+(i:Nat)) (1+v / 300 % 94)=true:=yD (bX.mpr ⟨by omega,by omega⟩)
  exact ⟨[c],⟨c1,Nat.le_refl _⟩,by simp only [EX,jN,jz,mi,c2]⟩
 have su:(ss.map fun l=>l.length).sum≤ss.length:=xr fun x hx=>(g1 x hx).2
 rw [g0,List.length_range] at su
 refine ⟨ss.flatten,rI (List.all_eq_true.mpr fun x hx=>(g1 x hx).1) (by rw [List.length_flatten];exact Nat.le_trans su (by omega)),by rw [List.length_flatten];exact Nat.le_trans su (by omega),?_⟩
 have r2:∀ x,ky (F (K+1)) (L (K+1)) [some (cv cs),some (.ref 0),none] [spt n m]=x→L (K+2) .l_text [cv cs,.ref 0] [spt n m]=match x with | .nx _ h1=>lG 1 .non h1 | .rt v h1=>iu 1 v h1 | _=>.bad:=fun x e=>by subst e;rfl
 have d0:∀ (n:Int),aq [spt n m] (.ref 0)= .ref 0:=fun _=>rfl
 have bc:bel 4611686018427387904 (1+v % 3)=true:=bX.mpr ⟨by omega,by omega⟩
 have ll:((List.range (1+v % 3).toNat).map fun i=>PV.int (0+(i:Nat))).length<16777216:=by rw [List.length_map,List.length_range];omega
 have jn:=uS (ls:=ss) (h:= [spt (n+1) m]) (by omega)
 rw [r2 _ rfl]
 simp only [EX,ky,bO,d0,ce,bc,ll,bW,Option.getD,g2,jn]
 rfl
theorem oJ(K:Nat)(cs:List Int)(hc:cs.length≤63)(n m:Int)(h0:0≤n)(h1:n≤1900000)(r:List PO):∃ s:List Nat,sg s=true∧s.length≤3∧callL (L (K+2) .l_text) [cv cs,.ref 0] (spt n m::r)= .ok (.str s) (spt (n+1) m::r):=by
 obtain ⟨s,v0,v1,e⟩:=zU K cs hc n m h0 h1
 exact ⟨s,v0,v1,eP (fn:=L (K+2) .l_text) [cv cs] [] (by rw [am,ku];rfl) rfl rfl (dX _ _) e rfl (dX _ _)⟩
abbrev wW:List Nat:= [119,111,114,100]
abbrev wN':List Nat:= [110,117,109,98,101,114]
abbrev wQ:List Nat:= [113,117,111,116,101,100]
abbrev wP:List Nat:= [112,108,97,105,110]
abbrev wL:List Nat:= [108,105,110,101]
abbrev w5:List (List Nat):= [wW,wN',wQ,wP,wL]
theorem Dn{w:List Nat}(h:w∈w5):sg w=true:=(by decide:∀ w∈w5,sg w=true) w h
abbrev EP:PV:=.dct [(.inr [110],.lst [.str wN']),(.inr [119],.lst [.str wW,.str wP,.str wQ,.str wL]),(.inr [116],.lst [.str wP,.str wQ,.str wL])]
abbrev dCl:PV:=.dct [(.inr wP,.str [10,38,60,62,124]),(.inr wL,.str [10])]
theorem AX(k:Kd)(hk:tgK k∈([[119],[116],[110]]:List (List Nat))):∃ W:List (List Nat),W≠ []∧(∀ w∈W,w∈w5)∧∀ h,pIx EP (.str (tgK k)) h= .ok (.lst (W.map PV.str)) h:=by
 cases k with
 | w=>exact ⟨[wW,wP,wQ,wL],by decide,by decide,fun h=>rfl⟩
 | t=>exact ⟨[wP,wQ,wL],by decide,by decide,fun h=>rfl⟩
 | n=>exact ⟨[wN'],by decide,by decide,fun h=>rfl⟩
 | b=>simp [tgK] at hk
 | l _=>simp [tgK] at hk
 | r _=>simp [tgK] at hk
theorem AY(w:List Nat)(hw:w∈w5):∃ c:List Nat,c≠ []∧c.length≤5∧sg c=true∧∀ h,Aq dCl [.str w,.str [32,46,59,60,10]] h= .ok (.str c) h:=by
 simp only [List.mem_cons,List.not_mem_nil,or_false] at hw
 rcases hw with rfl | rfl | rfl | rfl | rfl
 ·exact ⟨[32,46,59,60,10],by decide,by decide,by decide,fun h=>rfl⟩
 ·exact ⟨[32,46,59,60,10],by decide,by decide,by decide,fun h=>rfl⟩
 ·exact ⟨[32,46,59,60,10],by decide,by decide,by decide,fun h=>rfl⟩
 ·exact ⟨[10,38,60,62,124],by decide,by decide,by decide,fun h=>rfl⟩
 ·exact ⟨[10],by decide,by decide,by decide,fun h=>rfl⟩
theorem yR{c:List Nat}(hc:c≠ [])(hl:c.length≤5)(sc:sg c=true)(v:Int):∃ x,sg [x]=true∧decide (0<(c.length:Int))=true∧∀ h,pIx (.str c) (.int (v % (c.length:Nat))) h= .ok (.str [x]) h:=by
 have l0:0<c.length:=List.length_pos_iff.mpr hc
 obtain ⟨a,b⟩:=bx v (show (0:Int)<(c.length:Int) by omega)
 have hi:(v % (c.length:Int)).toNat<c.length:=by omega
 refine ⟨c.getD (v % (c.length:Int)).toNat 0,tj (wb sc) (fun z hz=>by rw [List.mem_singleton.mp hz];exact eT hi) (by simp),decide_eq_true (by omega),fun h=>?_⟩
 have z:=oy (xs:=c) 0 a b
 have zl:c.length≤16777216:=by omega
 simp only [EX,z,zl]
theorem sA{c:List Nat}(hl:c.length≤5)(h:List PO):bv [.str c] h= .ok (.int c.length) h:=by
 rw [DT,if_pos (Nat.le_trans hl (by decide))]
theorem ES(n:Nd):ctL [n]=ctN n+1:=by simp [ctL]
theorem Dr(n:Nd):tlL [n]=tlN n:=by simp [tlL]
theorem Rw.one{kn:Cx}{d c t:Nat}{n:Nd}(w:wN n=true)(o:okN kn n=true)(hd:dN n≤d)(hc:ctN n+1≤c)(ht:tlN n≤t):Rw kn d c t [n]:=⟨fun x hx=>by cases List.mem_singleton.mp hx;exact ⟨w,o,hd⟩,by rw [ES];exact hc,by rw [Dr];exact ht⟩
theorem Rw.text{kn:Cx}{s:List Nat}{t:Nat}(h:sg s=true)(l:s.length≤t)(ht:t≤1000):Rw kn 0 1 t [.text s]:=Rw.one (by rw [wN,h];exact decide_eq_true (by omega)) rfl (Nat.le_refl _) (Nat.le_refl _) l
theorem Rw.place{ns:List (List Nat)}{P:List Pe}{m:Option Int}{p:Pth}{w:List Nat}(h:pOk ns p)(hw:sg w=true):Rw (P,m,ns) 0 1 0 [.place p w]:=Rw.one (by rw [wN,h.2.1,hw];rfl) (by rw [okN];simp only [okP,List.all_cons,List.all_nil,Bool.and_true];exact List.contains_iff_mem.mpr h.1) (Nat.le_refl _) (Nat.le_refl _) (Nat.le_refl _)
def gQ(X:Cx)(D c t:Nat)(n k m:Int)(r:SR):Prop:=∃ (l:List Nd) (n':Int),(Rw X D c t l∧n≤n'∧n'≤n+k)∧r= .rt (.lst (l.map nd)) [spt n' m]
theorem yg(K:Nat)(cs:List Int)(hc:cs.length≤63)(A:Ta)(j:Nat)(hA:tOk j A)(hj:j≤1000)(n m:Int)(h0:0≤n)(h1:n≤1800000):
  ∃ (l:List Nd) (n':Int),Rw (cxT A) 0 2 4 l∧n≤n'∧n'≤n+2∧L (K+3) .l_place [cv cs,.ref 0,ta A] [spt n m]= .ok (.lst (l.map nd)) [spt n' m]:=by
 have r2:∀ x,fX (F (K+2)) (L (K+2)) [some (cv cs),some (.ref 0),some (ta A),none,none,none,none,none,none,none] [spt n m]=x→L (K+3) .l_place [cv cs,.ref 0,ta A] [spt n m]=match x with | .nx _ h1=>lG 1 .non h1 | .rt v h1=>iu 1 v h1 | _=>.bad:=fun x e=>by subst e;rfl
 have fin:∀ (l:List Nd) (n':Int),iu 1 (.lst (l.map nd)) [spt n' m]= .ok (.lst (l.map nd)) [spt n' m]:=fun l n'=>EG (by rw [PV.pure];exact iS l) (dX _ _)
 suffices S:∃ (l:List Nd) (n':Int),(Rw (cxT A) 0 2 4 l∧n≤n'∧n'≤n+2)∧fX (F (K+2)) (L (K+2)) [some (cv cs),some (.ref 0),some (ta A),none,none,none,none,none,none,none] [spt n m]= .rt (.lst (l.map nd)) [spt n' m] by
  obtain ⟨l,n',⟨a,b,c⟩,e⟩:=S
  exact ⟨l,n',a,b,c,by rw [r2 _ e];exact fin l n'⟩
 obtain ⟨rows,q1,q2,q3⟩:=nH (K+1) A.s hA.s (Nat.le_trans hA.l hj)
 have cp:∀ h,dv (F (K+2) .l_paths) [scv A.s] h= .ok (.lst (rows.map rw')) h:=fun h=>cH h (by rw [am,fF];rfl) q3
 have tg:∀ (x:Row) h,gB (F (K+2)) [some (rw' x)] h= .ok (decide (tgK x.2∈([[119],[116],[110]]:List (List Nat)))) h:=fun x h=>by
  have i1:pIx (rw' x) (.int 1) h= .ok (kd x.2) h:=by show Res.ok (aq h (kd x.2)) h=_;rw [hM]
  have dr:aq h (rw' x)=rw' x:=rfl
  have it:=CH (ls:= [[119],[116],[110]]) (lJ (sZ x.2)) (by decide) h
  simp only [List.map_cons,List.map_nil] at it
  simp only [EX,gB,dr,i1,wU,it]
 obtain ⟨fl,f1,f2,f3⟩:=qS (tt:=gB (F (K+2))) (te:=ja (F (K+2))) (cp:= []) rw' rw' rows (fun x hx=>⟨_,tg x⟩) (fun x hx h=>by
  have dr:aq h (rw' x)=rw' x:=rfl
  simp only [EX,ja,dr])
 have lr:(rows.map rw').length<16777216:=by rw [List.length_map];have:=hA.l;omega
 obtain ⟨v,v0,v1,ce⟩:=cZ (K+1) cs hc n m h0 (by omega) []
 have d0:∀ (n:Int),aq [spt n m] (.ref 0)= .ref 0:=fun _=>rfl
 have fdr:∀ l:List Row,(∀ x∈l,x∈rows)→fds 59 (l.map rw'):=fun l=>by
  induction l with
  | nil=>intro _;exact aH _
  | cons a r ih=>
   intro hl
   have o:=q1 a (hl a List.mem_cons_self)
   refine ak (aN (aP (d:=50) (ak (aN (jM (d:=0) o.w) (by omega)) (ak (aN (oj o.k.1) (by have:=o.k.2;omega)) (aH _)))) (by omega)) (ih fun y hy=>hl y (List.mem_cons_of_mem _ hy))
 have en:∀ h,pEq (.lst (fl.map rw')) (.lst []) h= .ok (.bl (fl.map rw').isEmpty) h:=fun h=>qW (fdr fl fun x hx=>(f1 x hx).1) h
 obtain ⟨s,s1,s2,se⟩:=oJ K cs hc (n+1) m (by omega) (by omega) []
 have n2:n+1+1=n+2:=by omega
 rw [n2] at se
 by_cases ne:fl= []
 ·subst ne
  have en0:∀ h,pEq (.lst []) (.lst []) h= .ok (.bl true) h:=fun h=>en h
  refine ⟨[.text s],n+2,⟨(Rw.text s1 s2 (by omega)).mono (Nat.le_refl _) (by omega) (by omega),by omega,by omega⟩,?_⟩
  have nt:nd (.text s)= .tup [.str tT,.str s]:=by rw [nd]
  simp only [EX,fX,bI,tc,cp,lr,f3,bW,Option.getD,List.map_nil,bO,d0,ce,en0,se,nt]
 have e0:(fl.map rw').isEmpty=false:=by cases fl<;>first | exact (ne rfl).elim | rfl
 obtain ⟨x,hx,q,ix⟩:=nY rw' mA ne v
 obtain ⟨hx1,hx2⟩:=f1 x hx
 have ro:=q1 x hx1
 have hk:tgK x.2∈([[119],[116],[110]]:List (List Nat)):=by
  have:=hx2 []
  rw [tg x []] at this
  injection this with this _
  exact of_decide_eq_true this
 obtain ⟨W0,w1,w2,w3⟩:=AX x.2 hk
 obtain ⟨p,kk⟩:=x
 have rq:rw' (p,kk)= .tup [pth p,kd kk]:=rfl
 have cd:∀ ρ h,lT [((cK (.str [110])),(cN br (ab (cK (.str [110,117,109,98,101,114])) aj))),((cK (.str [119])),(cN br (ab (cK (.str [119,111,114,100])) (ab (cK (.str [112,108,97,105,110])) (ab (cK (.str [113,117,111,116,101,100])) (ab (cK (.str [108,105,110,101])) aj)))))),((cK (.str [116])),(cN br (ab (cK (.str [112,108,97,105,110])) (ab (cK (.str [113,117,111,116,101,100])) (ab (cK (.str [108,105,110,101])) aj)))))] ρ h= .ok EP h:=fun _ _=>rfl
 have cd2:∀ ρ h,lT [((cK (.str [112,108,97,105,110])),(cK (.str [10,38,60,62,124]))),((cK (.str [108,105,110,101])),(cK (.str [10])))] ρ h= .ok dCl h:=fun _ _=>rfl
 have isd:∀ h,yV h dCl=true:=fun _=>rfl
 show gQ (cxT A) 0 2 4 n 2 m _
 unfold fX
 refine bw [some (cv cs),some (.ref 0),some (ta A),some (.lst (fl.map rw')),none,none,none,none,none,none] [spt n m] (by simp only [EX,bI,tc,cp,lr,f3,bW,Option.getD]) ?_
 refine bw [some (cv cs),some (.ref 0),some (ta A),some (.lst (fl.map rw')),some (.int v),none,none,none,none,none] [spt (n+1) m] (by simp only [EX,bO,d0,ce]) ?_
 refine bw [some (cv cs),some (.ref 0),some (ta A),some (.lst (fl.map rw')),some (.int v),none,none,none,none,none] [spt (n+1) m] (by simp only [EX,en,e0]) ?_
 refine bw [some (cv cs),some (.ref 0),some (ta A),some (.lst (fl.map rw')),some (.int v),some (pth p),some (kd kk),none,none,none] [spt (n+1) m] (by simp only [EX,q,ix,rq]) ?_
 refine bw [some (cv cs),some (.ref 0),some (ta A),some (.lst (fl.map rw')),some (.int v),some (pth p),some (kd kk),some (.lst (W0.map PV.str)),none,none] [spt (n+1) m] (by simp only [EX,cd,hM,wU,w3]) ?_
 refine jX (fun W:List (List Nat)=> [some (cv cs),some (.ref 0),some (ta A),some (.lst (fl.map rw')),some (.int v),some (pth p),some (kd kk),some (.lst (W.map PV.str)),none,none]) (fun _=> [spt (n+1) m]) (fun W=>W≠ []∧∀ w∈W,w∈w5) ?_ fun W hW=>?_
 ·cases o:A.od with
  | false=>exact ⟨W0,⟨w1,w2⟩,by simp only [EX,bI,BM,o]⟩
  | true=>
   cases o2:decide (v / 512 % 9=1) with
   | false=>exact ⟨W0,⟨w1,w2⟩,by simp only [EX,bI,BM,o,o2]⟩
   | true=>exact ⟨w5,⟨by decide,fun w h=>h⟩,by simp only [EX,bI,BM,o,o2]⟩
 obtain ⟨w,hw,wq,wi⟩:=nY PV.str (fun _=>rfl) hW.1 (v / 64)
 have w5w:=hW.2 w hw
 refine bw [some (cv cs),some (.ref 0),some (ta A),some (.lst (fl.map rw')),some (.int v),some (pth p),some (kd kk),some (.lst (W.map PV.str)),some (.str w),none] [spt (n+1) m] (by simp only [EX,wq,wi]) ?_
 obtain ⟨c,c1,c2,c3,c4⟩:=AY w w5w
 obtain ⟨z,z1,z2,z3⟩:=yR c1 c2 c3 (v / 4096)
 have ok:pOk (A.s.map (·.1)) p:=⟨ro.m,ro.w,ro.l⟩
 have np:nd (.place p w)= .tup [.str tP,pth p,.str w]:=by rw [nd]
 have nt:nd (.text (z::s))= .tup [.str tT,.str (z::s)]:=by rw [nd]
 have zs:1+s.length≤16777216:=by omega
 have rp:Rw (cxT A) 0 1 0 [.place p w]:=Rw.place ok (Dn w5w)
 cases t:(A.td||decide (v / 512 % 3=1)) with
 | true=>
  refine ⟨[.place p w,.text ([z]++s)],n+2,⟨(Rw.app rp (Rw.text (s:= [z]++s) (t:=4) (tw z1 s1 (by simp;omega)) (by simp;omega) (by omega))).mono (Nat.le_refl _) (by omega) (by omega),by omega,by omega⟩,?_⟩
  cases o:A.td with
  | true=>simp only [EX,bI,lW,o,cd2,isd,c4,sA c2,z2,z3,bO,d0,se,zs,np,nt]
  | false=>
   rw [o,Bool.false_or] at t
   simp only [EX,bI,lW,o,t,cd2,isd,c4,sA c2,z2,z3,bO,d0,se,zs,np,nt]
 | false=>
  rw [Bool.or_eq_false_iff] at t
  refine ⟨[.place p w],n+1,⟨rp.mono (Nat.le_refl _) (by omega) (by omega),by omega,by omega⟩,?_⟩
  simp only [EX,bI,lW,t.1,t.2,np]
theorem Er(k:Nat)(A:Ta)(j:Nat)(hA:tOk j A)(hj:j≤1000)(mo:Scp)(lm:mo.length≤1000):F (k+1) .l_in [ta A,scv mo]= .ok (ta { A with s:=A.s++mo }):=by
 have r2:F (k+1) .l_in [ta A,scv mo]=match rh (F k) [some (ta A),some (scv mo),none] [] with
   | .nx _ _=>.ok .non
   | .rt v h=>gh v h
   | _=>.bad:=rfl
 have dm:nM [ta A] []= .ok (.ref 0) [.dct [(.inr kS,scv A.s),(.inr kP,.lst (A.p.map pkP)),(.inr kH,hkv A.h),(.inr kN,mnu A.ms),(.inr kTi,.bl A.td),(.inr kOd,.bl A.od)]]:=rfl
 have ad:∀ h,ay (scv A.s) (scv mo) h= .ok (scv (A.s++mo)) h:=fun h=>by
  unfold scv
  rw [bh _ _ h (by rw [List.length_map,List.length_map];have:=hA.l;omega),List.map_append]
 have sd:∀ ρ,oO (scv (A.s++mo)) (.ref 0) (.str kS) ρ [.dct [(.inr kS,scv A.s),(.inr kP,.lst (A.p.map pkP)),(.inr kH,hkv A.h),(.inr kN,mnu A.ms),(.inr kTi,.bl A.td),(.inr kOd,.bl A.od)]]= .nx ρ [.dct [(.inr kS,scv (A.s++mo)),(.inr kP,.lst (A.p.map pkP)),(.inr kH,hkv A.h),(.inr kN,mnu A.ms),(.inr kTi,.bl A.td),(.inr kOd,.bl A.od)]]:=fun ρ=>rfl
 have tp:=gA { A with s:=A.s++mo }
 have fz:fzR (.ref 0) [.dct [(.inr kS,scv (A.s++mo)),(.inr kP,.lst (A.p.map pkP)),(.inr kH,hkv A.h),(.inr kN,mnu A.ms),(.inr kTi,.bl A.td),(.inr kOd,.bl A.od)]]= .ok (ta { A with s:=A.s++mo }) [.froz (ta { A with s:=A.s++mo })]:=by
  show (match (if cW [(.inr kS,scv (A.s++mo)),(.inr kP,.lst (A.p.map pkP)),(.inr kH,hkv A.h),(.inr kN,mnu A.ms),(.inr kTi,.bl A.td),(.inr kOd,.bl A.od)]=true then some (ta { A with s:=A.s++mo },[PO.froz (ta { A with s:=A.s++mo })]) else none) with | some (q,h2)=>Res.ok q h2 | none=>.bad)=_
  rw [if_pos (by unfold ta at tp;rw [PV.pure] at tp;exact tp)]
 have d0:∀ l,aq [.dct l] (.ref 0)= .ref 0:=fun _=>rfl
 rw [r2]
 simp only [EX,rh,bI,jA,dm,tc,ad,sd,d0,fz]
 exact fM tp
theorem tOk.more{j:Nat}{A:Ta}(h:tOk j A){mo:Scp}(hm:sOk mo){i:Nat}(hl:mo.length≤i):tOk (j+i) { A with s:=A.s++mo }:=⟨fun x hx=>by
 rcases List.mem_append.mp hx with q | q
 ·exact h.s x q
 ·exact hm x q,by show (A.s++mo).length≤_;rw [List.length_append];have:=h.l;omega,h.pl,h.p,h.h,h.ml,h.m,h.mn,h.pn⟩
theorem vD(A:Ta)(mo:Scp):cxT { A with s:=A.s++mo }=moX (cxT A) (mo.map (·.1)):=by
 show (_,_,(A.s++mo).map (·.1))=(_,_,A.s.map (·.1)++mo.map (·.1));rw [List.map_append]
theorem vK{k:Nat}{A:Ta}{j:Nat}(hA:tOk j A)(hj:j≤1000)(mo:Scp)(lm:mo.length≤1000)(h:List PO):dv (F (k+1) .l_in) [ta A,scv mo] h= .ok (ta { A with s:=A.s++mo }) h:=cH h (by rw [am,am,gA,fF];rfl) (Er k A j hA hj mo lm)
theorem jU{fn:List PV→List PO→Res PV}(cs:List Int)(l2:List PV)(h2:am l2=true){n m n':Int}{v:PV}(hv:v.pure=true)(e:fn (cv cs::.ref 0::l2) [spt n m]= .ok v [spt n' m])(r:List PO):callL fn (cv cs::.ref 0::l2) (spt n m::r)= .ok v (spt n' m::r):=
 eP (fn:=fn) [cv cs] l2 (by rw [am,ku];rfl) h2 rfl (dX _ _) e hv (dX _ _)
theorem lQ(l:List Nd):(PV.lst (l.map nd)).pure=true:=by rw [PV.pure];exact iS l
theorem jD(K:Nat)(cs:List Int)(hc:cs.length≤63)(A:Ta)(j:Nat)(hA:tOk j A)(hj:j≤1000)(n m:Int)(h0:0≤n)(h1:n≤1800000)(hK:3≤K)(r:List PO):
  ∃ (l:List Nd) (n':Int),Rw (cxT A) 0 2 4 l∧n≤n'∧n'≤n+2∧callL (L K .l_place) [cv cs,.ref 0,ta A] (spt n m::r)= .ok (.lst (l.map nd)) (spt n' m::r):=by
 obtain ⟨K',rfl⟩:∃ K',K=K'+3:=⟨K - 3,by omega⟩
 obtain ⟨l,n',a,b,c,e⟩:=yg K' cs hc A j hA hj n m h0 h1
 exact ⟨l,n',a,b,c,jU cs [ta A] (by rw [am,gA];rfl) (lQ l) e r⟩
theorem iY(K:Nat)(cs:List Int)(hc:cs.length≤63)(s:Scp)(hs:sOk s)(hl:s.length≤1000)(ks:List Kd)(hk:kOl ks)(lk:ks.length≤100)(n m:Int)(h0:0≤n)(h1:n≤1800000)(hK:2≤K)(r:List PO):
  ∃ (o:Option (List Pth)) (n':Int),n≤n'∧n'≤n+ks.length∧(∀ ps,o=some ps→ps.length=ks.length∧∀ p∈ps,pOk (s.map (·.1)) p)∧callL (L K .l_handed) [cv cs,.ref 0,scv s,kdl ks] (spt n m::r)= .ok (opt o) (spt n' m::r):=by
 obtain ⟨K',rfl⟩:∃ K',K=K'+2:=⟨K - 2,by omega⟩
 obtain ⟨o,n',a,b,c,e⟩:=wX K' cs hc s hs hl ks hk lk n m h0 h1
 exact ⟨o,n',a,b,c,jU cs [scv s,kdl ks] (by rw [am,am,fF,km];rfl) (rX o) e r⟩
theorem qz{X:Cx}{ps:List Pth}(h:∀ p∈ps,pOk X.2.2 p):okP X ps=true:=List.all_eq_true.mpr fun p hp=>List.contains_iff_mem.mpr (h p hp).1
theorem xk{ns:List (List Nat)}{ps:List Pth}(h:∀ p∈ps,pOk ns p)(hl:ps.length<5):wps ps=true:=by
 rw [wps,Bool.and_eq_true];exact ⟨List.all_eq_true.mpr fun p hp=>(h p hp).2.1,decide_eq_true hl⟩
def mq(b:SR):Res PV:=match b with
 | .nx _ h1=>lG 1 .non h1
 | .rt v h1=>iu 1 v h1
 | _=>.bad
theorem qP{X:Cx}{D c t:Nat}{n k m:Int}{b:SR}{R:Res PV}(hb:gQ X D c t n k m b)(e:R=mq b):∃ (l:List Nd) (n':Int),Rw X D c t l∧n≤n'∧n'≤n+k∧R= .ok (.lst (l.map nd)) [spt n' m]:=by
 obtain ⟨l,n',⟨a,b1,c1⟩,z⟩:=hb
 refine ⟨l,n',a,b1,c1,?_⟩
 rw [e,z];exact EG (lQ l) (dX _ _)
theorem Bd(K:Nat)(cs:List Int)(hc:cs.length≤63)(A:Ta)(j:Nat)(hA:tOk j A)(hj:j≤1000)(n m:Int)(h0:0≤n)(h1:n≤1700000)(hK:3≤K):
  ∃ (l:List Nd) (n':Int),Rw (cxT A) 0 2 4 l∧n≤n'∧n'≤n+5∧L (K+1) .l_body [cv cs,.ref 0,ta A] [spt n m]= .ok (.lst (l.map nd)) [spt n' m]:=by
 refine qP (b:=kF (F K) (L K) [some (cv cs),some (.ref 0),some (ta A),none] [spt n m]) ?_ rfl
 have d0:∀ (n:Int),aq [spt n m] (.ref 0)= .ref 0:=fun _=>rfl
 unfold kF
 refine bw [some (cv cs),some (.ref 0),some (ta A),some .non] [spt n m] (by simp only [EX,if_true]) ?_
 refine jX (fun x:Option (List Pth)×Int=> [some (cv cs),some (.ref 0),some (ta A),some (opt x.1)]) (fun x=> [spt x.2 m]) (fun x=>n≤x.2∧x.2≤n+3∧∀ ps,x.1=some ps→A.h.map (fun l=>(l.length:Int))=some (ps.length:Int)∧ps.length≤3∧∀ p∈ps,pOk (A.s.map (·.1)) p) ?_ fun x hx=>?_
 ·cases hh:A.h with
  | none=>exact ⟨(none,n),⟨Int.le_refl _,by show n≤n+3;omega,fun ps e=>(by cases e)⟩,by simp only [EX,bI,Du,hh,hkv,opt]⟩
  | some ks=>
   have ho:=hA.h;rw [hh] at ho
   obtain ⟨o,n',a,b,c,e⟩:=iY K cs hc A.s hA.s (Nat.le_trans hA.l hj) ks ho.2 (by have:=ho.1;omega) n m h0 (by omega) (by omega) []
   have nn:fL (kdl ks)=false:=rfl
   refine ⟨(o,n'),⟨a,by have:=ho.1;show n'≤n+3;omega,fun ps q=>?_⟩,by simp only [EX,bI,Du,tc,hh,hkv,nn,bO,d0,e]⟩
   obtain ⟨c1,c2⟩:=c ps q
   refine ⟨?_,by have:=ho.1;omega,c2⟩
   show some (ks.length:Int)=some (ps.length:Int);rw [c1]
 obtain ⟨o,n1⟩:=x
 obtain ⟨x1,x2,x3⟩:=hx
 dsimp only at x1 x2 x3 ⊢
 cases o with
 | none=>
  obtain ⟨l,n',a,b,c,e⟩:=jD K cs hc A j hA hj n1 m (by omega) (by omega) hK []
  have o0:opt none= .non:=rfl
  refine ⟨l,n',⟨a,by omega,by omega⟩,?_⟩
  simp only [EX,o0,bI,bO,d0,e]
 | some ps=>
  obtain ⟨y1,y2,y3⟩:=x3 ps rfl
  have o1:∀ h,aq h (opt (some ps))= .tup (pths ps):=fun _=>rfl
  have nb:nd (.body ps)= .tup [.str tB,.tup (pths ps)]:=by rw [nd]
  refine ⟨[.body ps],n1,⟨Rw.one (by rw [wN];exact xk y3 (by omega)) ?_ (Nat.zero_le _) (by show 0+1≤2;omega) (Nat.zero_le _),by omega,by omega⟩,?_⟩
  ·rw [okN,qz (X:=cxT A) y3];exact decide_eq_true y1
  ·simp only [EX,o1,nb]
theorem lI(K:Nat)(cs:List Int)(hc:cs.length≤63)(A:Ta)(j:Nat)(hA:tOk j A)(hj:j≤1000)(n m:Int)(h0:0≤n)(h1:n≤1700000)(hK:4≤K)(r:List PO):
  ∃ (l:List Nd) (n':Int),Rw (cxT A) 0 2 4 l∧n≤n'∧n'≤n+5∧callL (L K .l_body) [cv cs,.ref 0,ta A] (spt n m::r)= .ok (.lst (l.map nd)) (spt n' m::r):=by
 obtain ⟨K',rfl⟩:∃ K',K=K'+1:=⟨K - 1,by omega⟩
 obtain ⟨l,n',a,b,c,e⟩:=Bd K' cs hc A j hA hj n m h0 h1 (by omega)
 exact ⟨l,n',a,b,c,jU cs [ta A] (by rw [am,gA];rfl) (lQ l) e r⟩
def Gc:Nat→Nat
 | 0=>6
 | d+1=>3 * (2 * Gc d+6)
def cnn:Nat→Nat
 | 0=>10
 | d+1=>1+3 * (1+(2 * cnn d+20))
theorem Gc3{d:Nat}(h:d≤3):Gc d≤2070:=(by decide:∀ d≤3,Gc d≤2070) d h
theorem Hk{d:Nat}(h:d≤3):cnn d≤10000:=(by decide:∀ d≤3,cnn d≤10000) d h
theorem mN(d:Nat):10≤cnn d:=by cases d<;>simp only [cnn]<;>omega
theorem ry(d:Nat):6≤Gc d:=by cases d<;>simp only [Gc]<;>omega
def fE(d:Nat):Prop:=∀ (K:Nat) (cs:List Int) (A:Ta) (j:Nat) (n m:Int),cs.length≤63→tOk j A→j+3 * d≤100→0≤n→n+cnn d≤1600000→3 * d+6≤K→
 ∃ (l:List Nd) (n':Int),Rw (cxT A) d (Gc d) 12 l∧n≤n'∧n'≤n+cnn d∧L K .l_nodes [cv cs,.ref 0,ta A,.int d] [spt n m]= .ok (.lst (l.map nd)) [spt n' m]
theorem ip{d:Nat}(ok:fE d)(K:Nat)(cs:List Int)(A:Ta)(j:Nat)(n m:Int)(hc:cs.length≤63)(hA:tOk j A)(hj:j+3 * d≤100)(h0:0≤n)(h1:n+cnn d≤1600000)(hK:3 * d+6≤K)(r:List PO):
  ∃ (l:List Nd) (n':Int),Rw (cxT A) d (Gc d) 12 l∧n≤n'∧n'≤n+cnn d∧callL (L K .l_nodes) [cv cs,.ref 0,ta A,.int d] (spt n m::r)= .ok (.lst (l.map nd)) (spt n' m::r):=by
 obtain ⟨l,n',a,b,c,e⟩:=ok K cs A j n m hc hA hj h0 h1 hK
 exact ⟨l,n',a,b,c,jU cs [ta A,.int d] (by rw [am,am,gA];rfl) (lQ l) e r⟩
theorem gZ{kn:Cx}{d c t:Nat}(k:Nat)(hd:d≤20)(hc:c≤1000000)(ht:t≤17)(l:List Nd)(h:Rw kn d c t l):∃ l',Rw kn d c t l'∧∀ g,dv (F (k+1) .l_one) [.lst (l.map nd)] g= .ok (.tup (nds (ndl l'))) g:=by
 obtain ⟨l',a,e⟩:=Cs kn d c t k hd hc ht false l h
 exact ⟨l',a,fun g=>by rw [uX];exact cH g (by rw [am,lQ];rfl) e⟩
theorem vE(a b:PV):cut [a,b] none (some 2)= [a,b]∧cut [a,b] none (some 1)= [a]:=⟨rfl,rfl⟩
theorem Rw.tail{kn:Cx}{d c t:Nat}{n:Nd}{z:Nat}(x:Bool)(h:Rw kn d c t [n])(hz:sg [z]=true):Rw kn d (c+1) (t+1) (if x=true then [n,.text [z]] else [n]):=by
 cases x with
 | true=>exact Rw.app h ((Rw.text (s:= [z]) (t:=1) hz (Nat.le_refl _) (by omega)).mono (Nat.zero_le _) (Nat.le_refl _) (Nat.le_refl _))
 | false=>exact h.mono (Nat.le_refl _) (by omega) (by omega)
def btw(z:Nat)(i:Int):List Nat:=if i % 4=0 then [] else if i % 4=1 then [] else if i % 4=2 then [z,44,32] else [z]
theorem CW{z:Nat}(hz:sg [z]=true)(i:Int):sg (btw z i)=true:=by
 have e3:sg [z,44,32]=true:=tw (a:= [z]) (b:= [44,32]) hz (by decide) (by simp)
 unfold btw;split
 ·rfl
 ·split
  ·rfl
  ·split
   ·exact e3
   ·exact hz
theorem CX(z:Nat)(i:Int)(h:List PO):pIx (.lst [.str [],.str [],.str [z,44,32],.str [z]]) (.int (i % 4)) h= .ok (.str (btw z i)) h:=by
 obtain ⟨a,b⟩:=bx i (by decide:(0:Int)<4)
 unfold btw
 rcases (show i % 4=0∨i % 4=1∨i % 4=2∨i % 4=3 by omega) with q | q | q | q<;>rw [q]<;>rfl
theorem AE(d:Nat)(hd:d≤2)(ok:fE d)(K:Nat)(cs:List Int)(hc:cs.length≤63)(A:Ta)(j:Nat)(hA:tOk j A)(hj:j+3 * (d+1)≤100)(n m:Int)(h0:0≤n)(h1:n+(cnn d+1)≤1600000)(hK:3 * d+6≤K):
  ∃ (l:List Nd) (n':Int),Rw (cxT A) (d+1) (Gc d+4) 4 l∧n≤n'∧n'≤n+(cnn d+1)∧L (K+1) .l_loop [cv cs,.ref 0,ta A,.int ((d+1:Nat):Int)] [spt n m]= .ok (.lst (l.map nd)) [spt n' m]:=by
 obtain ⟨K',rfl⟩:∃ K',K=K'+2:=⟨K - 2,by omega⟩
 have gp:=ry d
 have cq:=mN d
 refine qP (b:=kD (F (K'+2)) (L (K'+2)) [some (cv cs),some (.ref 0),some (ta A),some (.int ((d+1:Nat):Int)),none,none,none,none,none,none,none,none,none] [spt n m]) ?_ rfl
 obtain ⟨rows,q1,q2,q3⟩:=nH (K'+1) A.s hA.s (by have:=hA.l;omega)
 have cp:∀ h,dv (F (K'+2) .l_paths) [scv A.s] h= .ok (.lst (rows.map rw')) h:=fun h=>cH h (by rw [am,fF];rfl) q3
 have tg:∀ (x:Row) h,ia (F (K'+2)) [some (rw' x)] h= .ok (decide (tgK x.2= [108])) h:=fun x h=>by
  have i1:pIx (rw' x) (.int 1) h= .ok (kd x.2) h:=by show Res.ok (aq h (kd x.2)) h=_;rw [hM]
  have dr:aq h (rw' x)=rw' x:=rfl
  have it:=vw (sZ x.2) (by decide:sg [108]=true) h
  simp only [EX,ia,dr,i1,wU,it]
 obtain ⟨fl,f1,f2,f3⟩:=qS (tt:=ia (F (K'+2))) (te:=jQ (F (K'+2))) (cp:= []) rw' rw' rows (fun x hx=>⟨_,tg x⟩) (fun x hx h=>by
  have dr:aq h (rw' x)=rw' x:=rfl
  simp only [EX,jQ,dr])
 have lr:(rows.map rw').length<16777216:=by rw [List.length_map];have:=hA.l;omega
 obtain ⟨v,v0,v1,ce⟩:=cZ (K'+1) cs hc n m h0 (by omega) []
 have d0:∀ (n:Int),aq [spt n m] (.ref 0)= .ref 0:=fun _=>rfl
 have fdr:∀ l:List Row,(∀ x∈l,x∈rows)→fds 59 (l.map rw'):=fun l=>by
  induction l with
  | nil=>intro _;exact aH _
  | cons a r ih=>
   intro hl
   have o:=q1 a (hl a List.mem_cons_self)
   refine ak (aN (aP (d:=50) (ak (aN (jM (d:=0) o.w) (by omega)) (ak (aN (oj o.k.1) (by have:=o.k.2;omega)) (aH _)))) (by omega)) (ih fun y hy=>hl y (List.mem_cons_of_mem _ hy))
 have en:∀ h,pEq (.lst (fl.map rw')) (.lst []) h= .ok (.bl (fl.map rw').isEmpty) h:=fun h=>qW (fdr fl fun x hx=>(f1 x hx).1) h
 unfold kD
 refine bw [some (cv cs),some (.ref 0),some (ta A),some (.int ((d+1:Nat):Int)),some (.lst (fl.map rw')),none,none,none,none,none,none,none,none] [spt n m] (by simp only [EX,bI,tc,cp,lr,f3,bW,Option.getD]) ?_
 refine bw [some (cv cs),some (.ref 0),some (ta A),some (.int ((d+1:Nat):Int)),some (.lst (fl.map rw')),some (.int v),none,none,none,none,none,none,none] [spt (n+1) m] (by simp only [EX,bO,d0,ce]) ?_
 by_cases ne:fl= []
 ·subst ne
  have en0:∀ h,pEq (.lst []) (.lst []) h= .ok (.bl true) h:=fun h=>en h
  obtain ⟨l,n',a,b,c,e⟩:=jD (K'+2) cs hc A j hA (by omega) (n+1) m (by omega) (by omega) (by omega) []
  refine ⟨l,n',⟨a.mono (Nat.zero_le _) (by omega) (Nat.le_refl _),by omega,by omega⟩,?_⟩
  simp only [EX,List.map_nil,en0,bO,d0,bI,e]
 have e0:(fl.map rw').isEmpty=false:=by cases fl<;>first | exact (ne rfl).elim | rfl
 obtain ⟨x,hx,q,ix⟩:=nY rw' mA ne v
 obtain ⟨hx1,hx2⟩:=f1 x hx
 have ro:=q1 x hx1
 have hk:tgK x.2= [108]:=by
  have:=hx2 []
  rw [tg x []] at this
  injection this with this _
  exact of_decide_eq_true this
 obtain ⟨p,kk⟩:=x
 obtain ⟨k1,rfl⟩:∃ k1,kk= .l k1:=by cases kk<;>first | exact ⟨_,rfl⟩ | (exfalso;simp [tgK] at hk)
 have rq:rw' (p,Kd.l k1)= .tup [pth p,kd (.l k1)]:=rfl
 have kg1:kGd k1:=by have:=ro.k;unfold kGd at this ⊢;rw [wK,zK] at this;exact ⟨this.1,by omega⟩
 obtain ⟨nm,m1,m2,m3⟩:=iT hA.ml hA.m (v / 64 % 12) (bx _ (by decide)).1 (bx _ (by decide)).2
 have sm:sOk [(nm,k1)]:=fun y hy=>by cases List.mem_singleton.mp hy;exact ⟨m1,kg1⟩
 have ci:=fun h=>vK (k:=K'+1) hA (by omega) [(nm,k1)] (by simp) h
 have sv1:scv [(nm,k1)]= .lst [.tup [.str nm,kd k1]]:=rfl
 rw [sv1] at ci
 obtain ⟨l,n1,a1,a2,a3,a4⟩:=ip ok (K'+2) cs { A with s:=A.s++ [(nm,k1)] } (j+1) (n+1) m hc (hA.more sm (Nat.le_refl 1)) (by omega) (by omega) (by omega) (by omega) []
 rw [vD] at a1
 obtain ⟨z1,y1,_,y2⟩:=pZ (v / 768)
 obtain ⟨z2,y3,_,y4⟩:=pZ (v / 768+1+v / 72960 % 94)
 have dd:((d+1:Nat):Int) - 1=(d:Int):=by omega
 have i1:∀ h,pIx (kd (.l k1)) (.int 1) h= .ok (kd k1) h:=fun h=>by rw [kd];show Res.ok (aq h (kd k1)) h=_;rw [hM]
 have sc:=fun h=>jz (K'+1) h
 refine bw [some (cv cs),some (.ref 0),some (ta A),some (.int ((d+1:Nat):Int)),some (.lst (fl.map rw')),some (.int v),none,none,none,none,none,none,none] [spt (n+1) m] (by simp only [EX,en,e0]) ?_
 refine bw [some (cv cs),some (.ref 0),some (ta A),some (.int ((d+1:Nat):Int)),some (.lst (fl.map rw')),some (.int v),some (pth p),some (kd (.l k1)),none,none,none,none,none] [spt (n+1) m] (by simp only [EX,q,ix,rq]) ?_
 refine bw [some (cv cs),some (.ref 0),some (ta A),some (.int ((d+1:Nat):Int)),some (.lst (fl.map rw')),some (.int v),some (pth p),some (kd (.l k1)),some (.str nm),none,none,none,none] [spt (n+1) m] (by simp only [EX,bI,Dt,m2]) ?_
 refine bw [some (cv cs),some (.ref 0),some (ta A),some (.int ((d+1:Nat):Int)),some (.lst (fl.map rw')),some (.int v),some (pth p),some (kd (.l k1)),some (.str nm),some (.lst (l.map nd)),none,none,none] [spt n1 m] (by simp only [EX,bO,d0,bI,hM,i1,ci,dd,a4]) ?_
 refine bw [some (cv cs),some (.ref 0),some (ta A),some (.int ((d+1:Nat):Int)),some (.lst (fl.map rw')),some (.int v),some (pth p),some (kd (.l k1)),some (.str nm),some (.lst (l.map nd)),some (.str [z1]),none,none] [spt n1 m] (by simp only [EX,sc,y2]) ?_
 refine bw [some (cv cs),some (.ref 0),some (ta A),some (.int ((d+1:Nat):Int)),some (.lst (fl.map rw')),some (.int v),some (pth p),some (kd (.l k1)),some (.str nm),some (.lst (l.map nd)),some (.str [z1]),some (.str [z2]),none] [spt n1 m] (by simp only [EX,sc,y4]) ?_
 refine jX (fun l:List Nd=> [some (cv cs),some (.ref 0),some (ta A),some (.int ((d+1:Nat):Int)),some (.lst (fl.map rw')),some (.int v),some (pth p),some (kd (.l k1)),some (.str nm),some (.lst (l.map nd)),some (.str [z1]),some (.str [z2]),none]) (fun _=> [spt n1 m]) (fun l=>Rw (moX (cxT A) [nm]) d (Gc d+1) 13 l) ?_ fun l hl=>?_
 ·cases t:A.td with
  | false=>exact ⟨l,a1.mono (Nat.le_refl _) (by omega) (by omega),by simp only [EX,bI,lW,t]⟩
  | true=>
   refine ⟨[.text [z1]]++l,(Rw.app ((Rw.text (kn:=moX (cxT A) [nm]) (s:= [z1]) (t:=1) y1 (Nat.le_refl _) (by omega)).mono (Nat.zero_le d) (Nat.le_refl _) (Nat.le_refl _)) a1).mono (Nat.le_refl _) (by omega) (by omega),?_⟩
   have nt:nd (.text [z1])= .tup [.str tT,.str [z1]]:=by rw [nd]
   have g3:=Gc3 (d:=d) (by omega)
   have ad:∀ h,ay (.lst [.tup [.str tT,.str [z1]]]) (.lst (l.map nd)) h= .ok (.lst (.tup [.str tT,.str [z1]]::l.map nd)) h:=fun h=>by
    rw [bh _ _ h (by have:=dj l;have:=a1.c;rw [List.length_map];simp;omega)];rfl
   simp only [EX,bI,lW,t,ad,nt]
 obtain ⟨l',b1,b2⟩:=gZ (K'+1) (by omega:d≤20) (by have:=Gc3 (d:=d) (by omega);omega) (by omega) l hl
 obtain ⟨w1,w2,w3⟩:=b1.nds
 have bt:=CX z1 (v / 7)
 have bo:=CW y1 (v / 7)
 have zs:∀ h,ay (.str [z1]) (.str [44,32]) h= .ok (.str [z1,44,32]) h:=fun h=>rfl
 have nl:nd (.loop nm p (ndl l') (btw z1 (v / 7)))= .tup [.str tL,.str nm,pth p,.tup (nds (ndl l')),.str (btw z1 (v / 7))]:=by rw [nd]
 refine bw [some (cv cs),some (.ref 0),some (ta A),some (.int ((d+1:Nat):Int)),some (.lst (fl.map rw')),some (.int v),some (pth p),some (kd (.l k1)),some (.str nm),some (.lst (l.map nd)),some (.str [z1]),some (.str [z2]),some (nd (.loop nm p (ndl l') (btw z1 (v / 7))))] [spt n1 m] (by simp only [EX,b2,zs,bt,nl]) ?_
 have po:pOk (A.s.map (·.1)) p:=⟨ro.m,ro.w,ro.l⟩
 have on:Rw (cxT A) (d+1) (Gc d+2) 0 [.loop nm p (ndl l') (btw z1 (v / 7))]:=Rw.one (by rw [wN,m1,po.2.1,w1,bo];rfl) (by rw [okN,qz (X:=cxT A) (ps:= [p]) (fun q hq=>by cases List.mem_singleton.mp hq;exact po),w2];rfl) (by rw [dN];omega) (by rw [ctN,iD];have:=b1.c;omega) (Nat.zero_le _)
 have nt:nd (.text [z2])= .tup [.str tT,.str [z2]]:=by rw [nd]
 have tl:=on.tail (A.td||decide (v / 5 % 2=1)) y3
 refine ⟨if (A.td||decide (v / 5 % 2=1))=true then [.loop nm p (ndl l') (btw z1 (v / 7)),.text [z2]] else [.loop nm p (ndl l') (btw z1 (v / 7))],n1,⟨tl.mono (Nat.le_refl _) (by omega) (by omega),by omega,by omega⟩,?_⟩
 cases t:A.td with
 | true=>simp only [EX,bI,lW,t,vE,nt]
 | false=>cases q:decide (v / 5 % 2=1)<;>simp only [EX,bI,lW,t,q,vE,nt]
theorem lw{d:Nat}(hd:d≤2)(ok:fE d)(K:Nat)(cs:List Int)(hc:cs.length≤63)(A:Ta)(j:Nat)(hA:tOk j A)(hj:j+3 * (d+1)≤100)(n m:Int)(h0:0≤n)(h1:n+(cnn d+1)≤1600000)(hK:3 * d+7≤K)(r:List PO):
  ∃ (l:List Nd) (n':Int),Rw (cxT A) (d+1) (Gc d+4) 4 l∧n≤n'∧n'≤n+(cnn d+1)∧callL (L K .l_loop) [cv cs,.ref 0,ta A,.int ((d+1:Nat):Int)] (spt n m::r)= .ok (.lst (l.map nd)) (spt n' m::r):=by
 obtain ⟨K',rfl⟩:∃ K',K=K'+1:=⟨K - 1,by omega⟩
 obtain ⟨l,n',a,b,c,e⟩:=AE d hd ok K' cs hc A j hA hj n m h0 h1 (by omega)
 exact ⟨l,n',a,b,c,jU cs [ta A,.int ((d+1:Nat):Int)] (by rw [am,am,gA];rfl) (lQ l) e r⟩
theorem kh{α β:Type}{te:Ex}{cp:Ev}{h:List PO}(f:α→PV)(g:β→PV)(R:β→Prop):∀ l:List α,(∀ x∈l,∃ s,R s∧te (some (f x)::cp) h= .ok (g s) h)→∃ ss:List β,ss.length=l.length∧(∀ s∈ss,R s)∧bZ bF te cp (l.map f) h= .ok (ss.map g) h
 | [],_=>⟨[],rfl,by simp,rfl⟩
 | x::r,hx=>by
  obtain ⟨s,h1,h2⟩:=hx x List.mem_cons_self
  obtain ⟨ss,g0,g1,g2⟩:=kh f g R r fun z hz=>hx z (List.mem_cons_of_mem _ hz)
  refine ⟨s::ss,by simp [g0],fun z hz=>?_,?_⟩
  ·rcases List.mem_cons.mp hz with q | q
   ·subst q;exact h1
   ·exact g1 z q
  ·rw [List.map_cons,bZ,show bF (some (f x)::cp) h= .ok true h from rfl]
   simp only [Res.bind_ok,if_true]
   rw [h2];simp only [Res.bind_ok,g2,List.map_cons]
theorem CS{α:Type}(a b c:α):cut [a,b,c] none (some 1)= [a]∧cut [a,b,c] (some 1) (some 0)= []∧cut [a,b,c] (some 1) (some 2)= [b]:=⟨rfl,rfl,rfl⟩
theorem EQ{α:Type}(l:List α):(cut l none (some 1)).length=if l.isEmpty=true then 0 else 1:=by
 cases l with
 | nil=>rfl
 | cons a r=>
  unfold cut
  rw [HT.sIx_none,List.length_take,List.length_drop]
  have:HT.sIx (a::r).length (a::r).length (some 1)=1:=by
   show (if (1:Int)<0 then ((1:Int)+((a::r).length:Nat)).toNat else min (1:Int).toNat (a::r).length)=1
   rw [if_neg (by decide)];simp
  rw [this];simp
theorem wY(d:Nat)(hd:d≤2)(ok:fE d)(K:Nat)(cs:List Int)(hc:cs.length≤63)(A:Ta)(j:Nat)(hA:tOk j A)(hj:j+3 * (d+1)≤100)(n m:Int)(h0:0≤n)(h1:n+(2 * cnn d+3)≤1600000)(hK:3 * d+7≤K):
  ∃ (l:List Nd) (n':Int),Rw (cxT A) (d+1) (2 * Gc d+4) 4 l∧n≤n'∧n'≤n+(2 * cnn d+3)∧L (K+1) .l_choice [cv cs,.ref 0,ta A,.int ((d+1:Nat):Int)] [spt n m]= .ok (.lst (l.map nd)) [spt n' m]:=by
 obtain ⟨K',rfl⟩:∃ K',K=K'+2:=⟨K - 2,by omega⟩
 have gp:=ry d
 have cq:=mN d
 have g3:=Gc3 (d:=d) (by omega)
 have d0:∀ (n:Int),aq [spt n m] (.ref 0)= .ref 0:=fun _=>rfl
 refine qP (b:=iF (F (K'+2)) (L (K'+2)) [some (cv cs),some (.ref 0),some (ta A),some (.int ((d+1:Nat):Int)),none,none,none,none,none] [spt n m]) ?_ rfl
 obtain ⟨o,n1,o1,o2,o3,o4⟩:=iY (K'+2) cs hc A.s hA.s (by have:=hA.l;omega) [.b] (fun k hk=>by cases List.mem_singleton.mp hk;exact ⟨rfl,by decide⟩) (by decide) n m h0 (by omega) (by omega) []
 have kb:kdl [.b]= .lst [.tup [.str [98]]]:=by unfold kdl;rw [List.map_cons,kd];rfl
 rw [kb] at o4
 rw [show (([Kd.b].length:Nat):Int)=1 from rfl] at o2
 obtain ⟨v,v0,v1,ce⟩:=cZ (K'+1) cs hc n1 m (by omega) (by omega) []
 unfold iF
 refine bw [some (cv cs),some (.ref 0),some (ta A),some (.int ((d+1:Nat):Int)),some (opt o),none,none,none,none] [spt n1 m] (by simp only [EX,bO,d0,bI,tc,o4]) ?_
 refine bw [some (cv cs),some (.ref 0),some (ta A),some (.int ((d+1:Nat):Int)),some (opt o),some (.int v),none,none,none] [spt (n1+1) m] (by simp only [EX,bO,d0,ce]) ?_
 cases o with
 | none=>
  obtain ⟨l,n',a,b,c,e⟩:=lw hd ok (K'+2) cs hc A j hA hj (n1+1) m (by omega) (by omega) (by omega) []
  have on:∀ h,aq h (opt none)= .non:=fun _=>rfl
  refine ⟨l,n',⟨a.mono (Nat.le_refl _) (by omega) (Nat.le_refl _),by omega,by omega⟩,?_⟩
  simp only [EX,on,bO,d0,bI,e]
 | some ps=>
  obtain ⟨pl,pk⟩:=o3 ps rfl
  obtain ⟨p,rfl⟩:∃ p,ps= [p]:=by
   match ps,pl with
   | [p],_=>exact ⟨p,rfl⟩
  have po:=pk p List.mem_cons_self
  have sc:=fun h=>jz (K'+1) h
  have op:∀ h,aq h (opt (some [p]))= .tup [pth p]:=fun _=>rfl
  have nn:fL (.tup [pth p])=false:=rfl
  obtain ⟨zs,z1,z2,z3⟩:=kh (te:=iz (F (K'+2))) (cp:= [some (.int v)]) (h:= [spt (n1+1) m]) (fun i:Nat=>PV.int (0+(i:Nat))) (fun z=>nd (.text [z])) (fun z=>sg [z]=true) (List.range (Int.toNat 3)) fun i hi=>by
   obtain ⟨c,c1,_,c2⟩:=pZ (v / 64+(0+(i:Nat)))
   have nt:nd (.text [c])= .tup [.str tT,.str [c]]:=by rw [nd]
   exact ⟨c,c1,by simp only [EX,iz,sc,c2,nt]⟩
  obtain ⟨a0,a1,a2,rfl⟩:∃ a b c,zs= [a,b,c]:=by
   match zs,z1 with
   | [a,b,c],_=>exact ⟨a,b,c,rfl⟩
  have s0:=z2 a0 (by simp)
  have s1:=z2 a1 (by simp)
  have s2:=z2 a2 (by simp)
  have ll3:((List.range (Int.toNat 3)).map fun i=>PV.int (0+(i:Nat))).length<16777216:=by decide
  have b3:bel 4611686018427387904 3=true:=rfl
  refine bw [some (cv cs),some (.ref 0),some (ta A),some (.int ((d+1:Nat):Int)),some (opt (some [p])),some (.int v),none,none,none] [spt (n1+1) m] (by simp only [EX,op,nn]) ?_
  refine bw [some (cv cs),some (.ref 0),some (ta A),some (.int ((d+1:Nat):Int)),some (opt (some [p])),some (.int v),some (.lst [nd (.text [a0]),nd (.text [a1]),nd (.text [a2])]),none,none] [spt (n1+1) m] (by simp only [EX,b3,ll3,bW,Option.getD,z3]) ?_
  have dd:((d+1:Nat):Int) - 1=(d:Int):=by omega
  obtain ⟨cc,hcc,ec⟩:∃ cc:Nat,(cc=1∨cc=2)∧(2:Int) - (if decide (v % 3=1)=true then 1 else 0)=(cc:Int):=by
   cases q:decide (v % 3=1) with
   | true=>exact ⟨1,.inl rfl,rfl⟩
   | false=>exact ⟨2,.inr rfl,rfl⟩
  obtain ⟨ys,n2,y1,y2,y3,y4,y5⟩:=vB (te:=fW (F (K'+2)) (L (K'+2))) (cp:= [some (cv cs),some (.ref 0),some (ta A),some (.int ((d+1:Nat):Int))]) (m:=m) (fun i:Nat=>PV.int (0+(i:Nat))) (fun l:List Nd=>.lst (l.map nd)) (fun l=>Rw (cxT A) d (Gc d) 12 l) (cnn d) (by omega) 1600000 (List.range cc) (n1+1) (by omega) (by rw [List.length_range];rcases hcc with rfl | rfl<;>omega) fun x _ n3 q0 q1=>by
   obtain ⟨l,n',a,b,c,e⟩:=ip ok (K'+2) cs A j n3 m hc hA (by omega) q0 (by omega) (by omega) []
   exact ⟨l,n',a,b,c,by simp only [EX,fW,bO,d0,bI,dd,e]⟩
  rw [List.length_range] at y1 y4
  have bc:bel 4611686018427387904 (cc:Int)=true:=bX.mpr ⟨by omega,by rcases hcc with rfl | rfl<;>decide⟩
  have llc:((List.range (Int.toNat (cc:Int))).map fun i=>PV.int (0+(i:Nat))).length<16777216:=by rw [List.length_map,List.length_range];rcases hcc with rfl | rfl<;>decide
  have y5':bZ bF (fW (F (K'+2)) (L (K'+2))) [some (cv cs),some (.ref 0),some (ta A),some (.int ((d+1:Nat):Int))] ((List.range (Int.toNat (cc:Int))).map fun i=>PV.int (0+(i:Nat))) [spt (n1+1) m]= .ok (ys.map fun l:List Nd=>PV.lst (l.map nd)) [spt n2 m]:=by rw [Int.toNat_natCast];exact y5
  have ad:∀ h,ay (.lst (ys.map fun l:List Nd=>PV.lst (l.map nd))) (.lst [.lst []]) h= .ok (.lst ((ys++ [[]]).map fun l:List Nd=>PV.lst (l.map nd))) h:=fun h=>by
   rw [bh _ _ h (by rw [List.length_map,y1];rcases hcc with rfl | rfl<;>decide),List.map_append];rfl
  have le:n2≤n1+1+2 * cnn d:=by rcases hcc with rfl | rfl<;>omega
  obtain ⟨t0,t1,tr,et,rw0,rw1⟩:∃ (t0 t1:List Nd) (tr:List (List Nd)),ys++ [[]]=t0::t1::tr∧Rw (cxT A) d (Gc d) 12 t0∧Rw (cxT A) d (Gc d) 12 t1:=by
   have nil:Rw (cxT A) d (Gc d) 12 []:=⟨fun x hx=>(by cases hx),Nat.zero_le _,Nat.zero_le _⟩
   rcases hcc with rfl | rfl
   ·match ys,y1 with
    | [a],_=>exact ⟨a,[],[],rfl,y2 a (by simp),nil⟩
   ·match ys,y1 with
    | [a,b],_=>exact ⟨a,b,[[]],rfl,y2 a (by simp),y2 b (by simp)⟩
  rw [et] at ad
  refine bw [some (cv cs),some (.ref 0),some (ta A),some (.int ((d+1:Nat):Int)),some (opt (some [p])),some (.int v),some (.lst [nd (.text [a0]),nd (.text [a1]),nd (.text [a2])]),some (.lst (.lst (t0.map nd)::.lst (t1.map nd)::tr.map fun l:List Nd=>PV.lst (l.map nd))),none] [spt n2 m] (by
   have ad':∀ h,ay (.lst (ys.map fun l:List Nd=>PV.lst (l.map nd))) (.lst [.lst []]) h= .ok (.lst (.lst (t0.map nd)::.lst (t1.map nd)::tr.map fun l:List Nd=>PV.lst (l.map nd))) h:=ad
   simp only [EX,ec,bc,llc,bW,Option.getD,y5',ad']) ?_
  refine jX (fun x:List Nd×List Nd×List (List Nd)=> [some (cv cs),some (.ref 0),some (ta A),some (.int ((d+1:Nat):Int)),some (opt (some [p])),some (.int v),some (.lst [nd (.text [a0]),nd (.text [a1]),nd (.text [a2])]),some (.lst (.lst (x.1.map nd)::.lst (x.2.1.map nd)::x.2.2.map fun l:List Nd=>PV.lst (l.map nd))),none]) (fun _=> [spt n2 m]) (fun x=>Rw (cxT A) d (Gc d+1) 13 x.1∧Rw (cxT A) d (Gc d+1) 13 x.2.1) ?_ fun x hx=>?_
  ·cases t:A.td with
   | false=>exact ⟨(t0,t1,tr),⟨rw0.mono (Nat.le_refl _) (by omega) (by omega),rw1.mono (Nat.le_refl _) (by omega) (by omega)⟩,by simp only [EX,bI,lW,t]⟩
   | true=>
    have l0:=dj t0
    have l1:=dj t1
    have c0:=rw0.c
    have c1:=rw1.c
    have A0:∀ h,ay (.lst [nd (.text [a0])]) (.lst (t0.map nd)) h= .ok (.lst ((.text [a0]::t0).map nd)) h:=fun h=>by rw [bh _ _ h (by rw [List.length_map];simp;omega)];rfl
    have R0:Rw (cxT A) d (Gc d+1) 13 (.text [a0]::t0):=(Rw.app ((Rw.text (kn:=cxT A) (s:= [a0]) (t:=1) s0 (Nat.le_refl _) (by omega)).mono (Nat.zero_le d) (Nat.le_refl _) (Nat.le_refl _)) rw0).mono (Nat.le_refl _) (by omega) (by omega)
    have e3:=CS (nd (.text [a0])) (nd (.text [a1])) (nd (.text [a2]))
    have ct:=EQ (t1.map nd)
    cases em:t1.isEmpty with
    | true=>
     have en:t1= []:=List.isEmpty_iff.mp em
     subst en
     have A1:∀ h,ay (.lst []) (.lst (([]:List Nd).map nd)) h= .ok (.lst (([]:List Nd).map nd)) h:=fun h=>rfl
     refine ⟨(.text [a0]::t0,[],[]),⟨R0,rw1.mono (Nat.le_refl _) (by omega) (by omega)⟩,?_⟩
     have ct0:(cut ([]:List PV) none (some 1)).length=0:=rfl
     have m0:hH 2 ((0:Nat):Int)=true:=rfl
     have e0:(2:Int) * ((0:Nat):Int)=0:=rfl
     simp only [List.map_nil] at A1
     simp only [EX,bI,lW,t,e3.1,A0,List.map_nil,ct0,m0,e0,e3.2.1,A1]
    | false=>
     have A1:∀ h,ay (.lst [nd (.text [a1])]) (.lst (t1.map nd)) h= .ok (.lst ((.text [a1]::t1).map nd)) h:=fun h=>by rw [bh _ _ h (by rw [List.length_map];simp;omega)];rfl
     refine ⟨(.text [a0]::t0,.text [a1]::t1,[]),⟨R0,(Rw.app ((Rw.text (kn:=cxT A) (s:= [a1]) (t:=1) s1 (Nat.le_refl _) (by omega)).mono (Nat.zero_le d) (Nat.le_refl _) (Nat.le_refl _)) rw1).mono (Nat.le_refl _) (by omega) (by omega)⟩,?_⟩
     have ie:(t1.map nd).isEmpty=false:=by cases t1<;>first | rfl | cases em
     rw [ie] at ct
     simp only [Bool.false_eq_true,if_false] at ct
     have m0:hH 2 ((1:Nat):Int)=true:=rfl
     have e0:(2:Int) * ((1:Nat):Int)=2:=rfl
     simp only [EX,bI,lW,t,e3.1,A0,ct,m0,e0,e3.2.2,A1]
  obtain ⟨u0,u1,ur⟩:=x
  obtain ⟨x0,x1⟩:=hx
  dsimp only at x0 x1 ⊢
  obtain ⟨b0,c0,e0⟩:=gZ (K'+1) (by omega:d≤20) (by omega) (by omega) u0 x0
  obtain ⟨b1,c1,e1⟩:=gZ (K'+1) (by omega:d≤20) (by omega) (by omega) u1 x1
  obtain ⟨w1,w2,w3⟩:=c0.nds
  obtain ⟨w4,w5,w6⟩:=c1.nds
  have nl:nd (.choice p (ndl b0) (ndl b1))= .tup [.str tC,pth p,.tup (nds (ndl b0)),.tup (nds (ndl b1))]:=by rw [nd]
  refine bw [some (cv cs),some (.ref 0),some (ta A),some (.int ((d+1:Nat):Int)),some (opt (some [p])),some (.int v),some (.lst [nd (.text [a0]),nd (.text [a1]),nd (.text [a2])]),some (.lst (.lst (u0.map nd)::.lst (u1.map nd)::ur.map fun l:List Nd=>PV.lst (l.map nd))),some (nd (.choice p (ndl b0) (ndl b1)))] [spt n2 m] (by simp only [EX,op,zp,e0,e1,nl]) ?_
  have on:Rw (cxT A) (d+1) (2 * Gc d+3) 0 [.choice p (ndl b0) (ndl b1)]:=Rw.one (by rw [wN,po.2.1,w1,w4];rfl) (by rw [okN,qz (X:=cxT A) (ps:= [p]) (fun q hq=>by cases List.mem_singleton.mp hq;exact po),w2,w5];rfl) (by rw [dN];have:=Nat.max_le.mpr ⟨w3,w6⟩;omega) (by rw [ctN,iD,iD];have:=c0.c;have:=c1.c;omega) (Nat.zero_le _)
  have tl:=on.tail (A.td||decide (v / 5 % 2=1)) s2
  refine ⟨if (A.td||decide (v / 5 % 2=1))=true then [.choice p (ndl b0) (ndl b1),.text [a2]] else [.choice p (ndl b0) (ndl b1)],n2,⟨tl.mono (Nat.le_refl _) (by omega) (by omega),by omega,by omega⟩,?_⟩
  cases t:A.td with
  | true=>simp only [EX,bI,lW,t,vE,uZ]
  | false=>cases q:decide (v / 5 % 2=1)<;>simp only [EX,bI,lW,t,q,vE,uZ]
theorem Fb {e d : Nat} (h : e ≤ d) : Gc e ≤ Gc d := by
  induction d with
  | zero => obtain rfl : e = 0 := by omega
            exact Nat.le_refl _
  | succ d ih =>
    rcases Nat.lt_or_ge e (d + 1) with q | q
    · have := ih (by omega); rw [Gc]; omega
    · obtain rfl : e = d + 1 := by omega
      exact Nat.le_refl _
theorem CU {e d : Nat} (h : e ≤ d) : cnn e ≤ cnn d := by
  induction d with
  | zero => obtain rfl : e = 0 := by omega
            exact Nat.le_refl _
  | succ d ih =>
    rcases Nat.lt_or_ge e (d + 1) with q | q
    · have := ih (by omega); rw [cnn]; omega
    · obtain rfl : e = d + 1 := by omega
      exact Nat.le_refl _
theorem zv{l:List (List Nat)}(hl:l.length=12){a:Int}(a0:0≤a)(a1:a<9){k:Nat}(hk:k≤3):(cut (cut l (some a) none) none (some (k:Int))).length=k:=by
 obtain ⟨a,rfl⟩:=Int.eq_ofNat_of_zero_le a0
 have e:(cut l (some (a:Int)) none).length=12 - a:=by
  unfold cut
  rw [HT.sIx_none,HT.sIx_nat,List.length_take,List.length_drop,hl];omega
 have e2:(cut (cut l (some (a:Int)) none) none (some (k:Int))).length=min k (12 - a):=by
  generalize cut l (some (a:Int)) none=x at e
  unfold cut
  rw [HT.sIx_none,HT.sIx_nat,List.length_take,List.length_drop,e];omega
 rw [e2];omega
theorem Bg:∀ (hs:List (List Nat)) (ks:List Kd),zpL (hs.map PV.str) (ks.map kd)=(hs.zip ks).map sv
 | [],_=>by cases ‹List Kd› <;>rfl
 | _::_,[]=>rfl
 | a::r,k::t=>by
  rw [List.map_cons,List.map_cons,zpL,Bg r t];rfl
theorem uy:∀ (hs:List (List Nat)) (ks:List Kd),hs.length=ks.length→(hs.zip ks).map (·.1)=hs
 | [],_,_=>by simp
 | a::r,[],h=>by cases h
 | a::r,k::t,h=>by simp only [List.zip_cons_cons,List.map_cons];rw [uy r t (by simpa using h)]
theorem BH{hs:List (List Nat)}{ks:List Kd}(h1:sgs hs=true)(h2:kOl ks):sOk (hs.zip ks):=fun x hx=>by
 obtain ⟨a,b⟩:=List.of_mem_zip (a:=x.1) (b:=x.2) hx
 exact ⟨List.all_eq_true.mp h1 _ a,h2 _ b⟩
theorem qV:∀ {l:List Kd},kOl l→fds 42 (l.map kd)
 | [],_=>aH _
 | a::r,h=>ak (aN (oj (h a List.mem_cons_self).1) (by have:=(h a List.mem_cons_self).2;omega)) (qV fun k hk=>h k (List.mem_cons_of_mem _ hk))
theorem vp:∀ {l:List Pk},(∀ p∈l,sg p.n=true∧p.o.length≤4∧kOl p.o∧hOl p.h)→fds 59 (l.map pkP)
 | [],_=>aH _
 | a::r,h=>by
  obtain ⟨a1,_,a3,a4⟩:=h a List.mem_cons_self
  refine ak (aN (aP (d:=43) (ak (aY a1) (ak (ug (qV a3)) (ak ?_ (aH _))))) (by omega)) (vp fun p hp=>h p (List.mem_cons_of_mem _ hp))
  cases e:a.h with
  | none=>exact oh _
  | some l=>rw [e] at a4;exact ug (qV a4.2)
theorem BI(d:Nat)(hd:d≤2)(ok:∀ e≤d,fE e)(K:Nat)(cs:List Int)(hc:cs.length≤63)(A:Ta)(j:Nat)(hA:tOk j A)(hj:j+3 * (d+1)≤100)(n m:Int)(h0:0≤n)(h1:n+(cnn d+10)≤1600000)(hK:3 * d+7≤K):
  ∃ (l:List Nd) (n':Int),Rw (cxT A) (d+1) (2 * Gc d+4) 4 l∧n≤n'∧n'≤n+(cnn d+10)∧L (K+1) .l_use [cv cs,.ref 0,ta A,.int ((d+1:Nat):Int)] [spt n m]= .ok (.lst (l.map nd)) [spt n' m]:=by
 obtain ⟨K',rfl⟩:∃ K',K=K'+2:=⟨K - 2,by omega⟩
 have gp:=ry d
 have cq:=mN d
 have g3:=Gc3 (d:=d) (by omega)
 have d0:∀ (n:Int),aq [spt n m] (.ref 0)= .ref 0:=fun _=>rfl
 refine qP (b:=mO (F (K'+2)) (L (K'+2)) [some (cv cs),some (.ref 0),some (ta A),some (.int ((d+1:Nat):Int)),none,none,none,none,none,none,none,none] [spt n m]) ?_ rfl
 obtain ⟨v,v0,v1,ce⟩:=cZ (K'+1) cs hc n m h0 (by omega) []
 unfold mO
 refine bw [some (cv cs),some (.ref 0),some (ta A),some (.int ((d+1:Nat):Int)),some (.int v),none,none,none,none,none,none,none] [spt (n+1) m] (by simp only [EX,bO,d0,ce]) ?_
 refine bw [some (cv cs),some (.ref 0),some (ta A),some (.int ((d+1:Nat):Int)),some (.int v),some .non,none,none,none,none,none,none] [spt (n+1) m] (by simp only [EX,if_true]) ?_
 have en:∀ h,pNe (.lst (A.p.map pkP)) (.lst []) h= .ok (.bl (!(A.p.map pkP).isEmpty)) h:=fun h=>Az (vp hA.p) h
 have to_loop:∀ (n1:Int) (x6 x7 x8:Option PV),n≤n1→n1≤n+5→gQ (cxT A) (d+1) (2 * Gc d+4) 4 n (cnn d+10) m ((aG (sIf (aJ (c2 pIs (af 5) (cK .non))) (bS (aM (L (K'+2) .l_loop) (ab (af 0) (ab (af 1) (ab (af 2) (ab (af 3) aj)))))) cT) (aG (sIf (aJ (c2 pIs (af 8) (cK .non))) (bS (cN br (ab (cN aS (ab (cK (.str [117,115,101])) (ab (af 6) (ab (af 5) (ab (cK .non) (ab (cK .non) aj)))))) aj))) cT) (aG (aK 9 (cN cF (ab (iI (iI (c2 pIx (af 2) (cK (.str [110,97,109,101,115]))) (eS (c2 bV (c2 db (af 4) (cK (.int 64))) (cK (.int 9)))) fI) fI (eS (cN bv (ab (af 8) aj)))) aj))) (aG (aK 10 (bP (F (K'+2) .l_in) (ab (af 2) (ab (cN nJ (ab (af 9) (ab (af 8) aj))) aj)))) (aG (aK 11 (aM (L (K'+2) .l_nodes) (ab (af 0) (ab (af 1) (ab (af 10) (ab (cN yn (ab (c2 ke (af 3) (cK (.int 1))) (ab (c2 ay (cK (.int 1)) (c2 bV (c2 db (af 4) (cK (.int 576))) (cK (.int 2)))) aj))) aj)))))) (aG (sIf (aJ (c2 pEq (c2 bV (c2 db (af 4) (cK (.int 1152))) (cK (.int 2))) (cK (.int 1)))) (aK 11 (c2 ay (af 11) (aM (L (K'+2) .l_body) (ab (af 0) (ab (af 1) (ab (af 10) aj)))))) cT) (aG (sIf (aJ (c2 pEq (c2 bV (c2 db (af 4) (cK (.int 2304))) (cK (.int 8))) (cK (.int 1)))) (aK 11 (cN br aj)) cT) (bS (cN br (ab (cN aS (ab (cK (.str [117,115,101])) (ab (af 6) (ab (af 5) (ab (af 9) (ab (bP (F (K'+2) .l_one) (ab (af 11) aj)) aj)))))) aj))))))))))
   [some (cv cs),some (.ref 0),some (ta A),some (.int ((d+1:Nat):Int)),some (.int v),some .non,x6,x7,x8,none,none,none] [spt n1 m]):=fun n1 x6 x7 x8 q0 q1=>by
  obtain ⟨l,n',a,b,c,e⟩:=lw hd (ok d (Nat.le_refl _)) (K'+2) cs hc A j hA hj n1 m (by omega) (by omega) (by omega) []
  refine ⟨l,n',⟨a.mono (Nat.le_refl _) (by omega) (Nat.le_refl _),by omega,by omega⟩,?_⟩
  simp only [EX,bO,d0,bI,e]
 by_cases ne:A.p= []
 ·have e0:(!(A.p.map pkP).isEmpty)=false:=by rw [ne];rfl
  refine bw [some (cv cs),some (.ref 0),some (ta A),some (.int ((d+1:Nat):Int)),some (.int v),some .non,none,none,none,none,none,none] [spt (n+1) m] (by simp only [EX,bI,Ds,en,e0]) ?_
  exact to_loop (n+1) none none none (by omega) (by omega)
 have e0:(!(A.p.map pkP).isEmpty)=true:=by cases q:A.p<;>first | exact (ne q).elim | rfl
 obtain ⟨p,hp,q,ix⟩:=nY pkP rU ne v
 obtain ⟨p1,p2,p3,p4⟩:=hA.p p hp
 have pq:pkP p= .tup [.str p.n,kdl p.o,hkv p.h]:=rfl
 obtain ⟨o,n1,o1,o2,o3,o4⟩:=iY (K'+2) cs hc A.s hA.s (by have:=hA.l;omega) p.o p3 (by omega) (n+1) m (by omega) (by omega) (by omega) []
 refine bw [some (cv cs),some (.ref 0),some (ta A),some (.int ((d+1:Nat):Int)),some (.int v),some (opt o),some (.str p.n),some (kdl p.o),some (hkv p.h),none,none,none] [spt n1 m] (by simp only [EX,bI,Ds,tc,en,e0,q,ix,pq,fT,bO,d0,o4]) ?_
 cases o with
 | none=>exact to_loop n1 _ _ _ (by omega) (by omega)
 | some ps=>
  obtain ⟨pl,pk⟩:=o3 ps rfl
  have op:∀ h,aq h (opt (some ps))= .tup (pths ps):=fun _=>rfl
  have nn:fL (.tup (pths ps))=false:=rfl
  have lk:lkP (cxT A).1 p.n=some (peK p):=by
   have hn:((A.p.map peK).map (·.n)).Nodup:=by rw [List.map_map];exact hA.pn
   exact AF (p:=peK p) hn (List.mem_map_of_mem hp)
  have wo:=xk pk (by omega:ps.length<5)
  have oo:=qz (X:=cxT A) pk
  refine bw [some (cv cs),some (.ref 0),some (ta A),some (.int ((d+1:Nat):Int)),some (.int v),some (opt (some ps)),some (.str p.n),some (kdl p.o),some (hkv p.h),none,none,none] [spt n1 m] (by simp only [EX,op,nn]) ?_
  cases hh:p.h with
  | none=>
   have hn:∀ h,aq h (hkv none)= .non:=fun _=>rfl
   have nu:nd (.use p.n ps)= .tup [.str tU,.str p.n,.tup (pths ps),.non,.non]:=by rw [nd]
   refine ⟨[.use p.n ps],n1,⟨Rw.one (by rw [wN,p1,wo];rfl) ?_ (Nat.zero_le _) (by show 0+1≤_;omega) (Nat.zero_le _),by omega,by omega⟩,?_⟩
   ·rw [okN,oo,okU,lk]
    show (true&&(decide (p.o.length=ps.length)&&decide (p.h.map (fun l=>(l.length:Int))=none)))=true
    rw [hh,pl];simp
   ·simp only [EX,hn,op,nu]
  | some ks=>
   rw [hh] at p4
   obtain ⟨k1,k2⟩:=p4
   have hn:fL (kdl ks)=false:=rfl
   have i9:=bx (v / 64) (by decide:(0:Int)<9)
   have i2:=bx (v / 576) (by decide:(0:Int)<2)
   let hs:=cut (cut A.ms (some (v / 64 % 9)) none) none (some (ks.length:Int))
   have hl:hs.length=ks.length:=zv hA.ml i9.1 i9.2 k1
   have hsg:sgs hs=true:=uE hA.m fun x hx=>mK (mK hx)
   have hnd:hs.Nodup:=zu (zu hA.mn)
   have sl1:∀ h,iH (mnu A.ms) (some (v / 64 % 9)) none h= .ok (mnu (cut A.ms (some (v / 64 % 9)) none)) h:=fun h=>by unfold mnu;rw [uD,mL]
   have sl2:∀ h,iH (mnu (cut A.ms (some (v / 64 % 9)) none)) none (some (ks.length:Int)) h= .ok (mnu hs) h:=fun h=>by unfold mnu;rw [uD,mL]
   have kln:∀ h,bv [kdl ks] h= .ok (.int ks.length) h:=fun h=>by unfold kdl;rw [lR,List.length_map]
   have tp:∀ h,cF [mnu hs] h= .ok (nms hs) h:=fun h=>rfl
   have lz:∀ h,nJ [nms hs,kdl ks] h= .ok (scv (hs.zip ks)) h:=fun h=>by
    show Res.ok (PV.lst (zpL (hs.map PV.str) (ks.map kd))) h=_
    rw [Bg];rfl
   have zl:(hs.zip ks).length≤3:=by rw [List.length_zip];omega
   have zo:=BH hsg k2
   have ci:=fun h=>vK (k:=K'+1) hA (by omega) (hs.zip ks) (by omega) h
   let B:Ta:= { A with s:=A.s++hs.zip ks }
   have hB:tOk (j+3) B:=hA.more zo zl
   have cB:cxT B=moX (cxT A) hs:=by rw [vD,uy hs ks hl]
   obtain ⟨e,he,ee⟩:∃ e:Nat,e≤d∧(if (1+v / 576 % 2)<(d:Int) then (1+v / 576 % 2) else (d:Int))=(e:Int):=by
    by_cases q:(1+v / 576 % 2)<(d:Int)
    ·exact ⟨(1+v / 576 % 2).toNat,by omega,by rw [if_pos q];omega⟩
    ·exact ⟨d,Nat.le_refl _,by rw [if_neg q]⟩
   have dd:((d+1:Nat):Int) - 1=(d:Int):=by omega
   have ce2:=CU he
   have ge:=Fb he
   obtain ⟨l,n2,a1,a2,a3,a4⟩:=ip (ok e he) (K'+2) cs B (j+3) n1 m hc hB (by omega) (by omega) (by omega) (by omega) []
   refine bw [some (cv cs),some (.ref 0),some (ta A),some (.int ((d+1:Nat):Int)),some (.int v),some (opt (some ps)),some (.str p.n),some (kdl p.o),some (kdl ks),none,none,none] [spt n1 m] (by simp only [EX,hkv,fT,hn]) ?_
   refine bw [some (cv cs),some (.ref 0),some (ta A),some (.int ((d+1:Nat):Int)),some (.int v),some (opt (some ps)),some (.str p.n),some (kdl p.o),some (kdl ks),some (nms hs),none,none] [spt n1 m] (by simp only [EX,bI,Dt,sl1,fT,kln,sl2,tp]) ?_
   refine bw [some (cv cs),some (.ref 0),some (ta A),some (.int ((d+1:Nat):Int)),some (.int v),some (opt (some ps)),some (.str p.n),some (kdl p.o),some (kdl ks),some (nms hs),some (ta B),none] [spt n1 m] (by simp only [EX,bI,fT,lz,ci];rfl) ?_
   refine bw [some (cv cs),some (.ref 0),some (ta A),some (.int ((d+1:Nat):Int)),some (.int v),some (opt (some ps)),some (.str p.n),some (kdl p.o),some (kdl ks),some (nms hs),some (ta B),some (.lst (l.map nd))] [spt n2 m] (by simp only [EX,bI,bO,d0,dd,ee,a4]) ?_
   obtain ⟨lb,n3,b1,b2,b3,b4⟩:=lI (K'+2) cs hc B (j+3) hB (by omega) n2 m (by omega) (by omega) (by omega) []
   refine jX (fun x:List Nd×Int=> [some (cv cs),some (.ref 0),some (ta A),some (.int ((d+1:Nat):Int)),some (.int v),some (opt (some ps)),some (.str p.n),some (kdl p.o),some (kdl ks),some (nms hs),some (ta B),some (.lst (x.1.map nd))]) (fun x=> [spt x.2 m]) (fun x=>Rw (cxT B) d (Gc d+2) 16 x.1∧n2≤x.2∧x.2≤n2+5) ?_ fun x hx=>?_
   ·cases t:decide (v / 1152 % 2=1) with
    | false=>exact ⟨(l,n2),⟨a1.mono he (by omega) (by omega),Int.le_refl _,by show n2≤n2+5;omega⟩,by simp only [EX,t]⟩
    | true=>
     have ad:∀ h,ay (.lst (l.map nd)) (.lst (lb.map nd)) h= .ok (.lst ((l++lb).map nd)) h:=fun h=>by
      rw [bh _ _ h (by have:=dj l;have:=a1.c;have:=dj lb;have:=b1.c;rw [List.length_map,List.length_map];omega),List.map_append]
     exact ⟨(l++lb,n3),⟨(Rw.app (a1.mono he ge (Nat.le_refl _)) (b1.mono (Nat.zero_le _) (Nat.le_refl _) (Nat.le_refl _))).mono (Nat.le_refl _) (by omega) (by omega),b2,b3⟩,by simp only [EX,t,bI,bO,d0,b4,ad]⟩
   obtain ⟨l1,n4⟩:=x
   obtain ⟨x1,x2,x3⟩:=hx
   dsimp only at x1 x2 x3 ⊢
   refine jX (fun l:List Nd=> [some (cv cs),some (.ref 0),some (ta A),some (.int ((d+1:Nat):Int)),some (.int v),some (opt (some ps)),some (.str p.n),some (kdl p.o),some (kdl ks),some (nms hs),some (ta B),some (.lst (l.map nd))]) (fun x=> [spt n4 m]) (fun l=>Rw (cxT B) d (Gc d+2) 16 l) ?_ fun l2 hl2=>?_
   ·cases t:decide (v / 2304 % 8=1) with
    | false=>exact ⟨l1,x1,by simp only [EX,t]⟩
    | true=>exact ⟨[],⟨fun x hx=>(by cases hx),Nat.zero_le _,Nat.zero_le _⟩,by simp only [EX,t]⟩
   rw [cB] at hl2
   obtain ⟨b,c0,e0⟩:=gZ (K'+1) (by omega:d≤20) (by omega) (by omega) l2 hl2
   obtain ⟨w1,w2,w3⟩:=c0.nds
   have nl:nd (.usew p.n ps hs (ndl b))= .tup [.str tU,.str p.n,.tup (pths ps),nms hs,.tup (nds (ndl b))]:=by rw [nd]
   refine ⟨[.usew p.n ps hs (ndl b)],n4,⟨Rw.one (by rw [wN,p1,wo,hsg,decide_eq_true (show hs.length<5 by omega),w1];rfl) ?_ (by rw [dN];omega) (by rw [ctN,iD];have:=c0.c;omega) (Nat.zero_le _),by omega,by omega⟩,?_⟩
   ·rw [okN,oo,okU,lk,(zm hs).mpr hnd,w2]
    show (true&&((decide (p.o.length=ps.length)&&decide (p.h.map (fun l=>(l.length:Int))=some (hs.length:Int)))&&(!false&&true)))=true
    rw [hh,pl,hl];simp
   ·simp only [EX,op,e0,nl]
theorem sQ{d:Nat}(hd:d≤2)(ok:fE d)(K:Nat)(cs:List Int)(hc:cs.length≤63)(A:Ta)(j:Nat)(hA:tOk j A)(hj:j+3 * (d+1)≤100)(n m:Int)(h0:0≤n)(h1:n+(2 * cnn d+3)≤1600000)(hK:3 * d+8≤K)(r:List PO):
  ∃ (l:List Nd) (n':Int),Rw (cxT A) (d+1) (2 * Gc d+4) 4 l∧n≤n'∧n'≤n+(2 * cnn d+3)∧callL (L K .l_choice) [cv cs,.ref 0,ta A,.int ((d+1:Nat):Int)] (spt n m::r)= .ok (.lst (l.map nd)) (spt n' m::r):=by
 obtain ⟨K',rfl⟩:∃ K',K=K'+1:=⟨K - 1,by omega⟩
 obtain ⟨l,n',a,b,c,e⟩:=wY d hd ok K' cs hc A j hA hj n m h0 h1 (by omega)
 exact ⟨l,n',a,b,c,jU cs [ta A,.int ((d+1:Nat):Int)] (by rw [am,am,gA];rfl) (lQ l) e r⟩
theorem xm{d:Nat}(hd:d≤2)(ok:∀ e≤d,fE e)(K:Nat)(cs:List Int)(hc:cs.length≤63)(A:Ta)(j:Nat)(hA:tOk j A)(hj:j+3 * (d+1)≤100)(n m:Int)(h0:0≤n)(h1:n+(cnn d+10)≤1600000)(hK:3 * d+8≤K)(r:List PO):
  ∃ (l:List Nd) (n':Int),Rw (cxT A) (d+1) (2 * Gc d+4) 4 l∧n≤n'∧n'≤n+(cnn d+10)∧callL (L K .l_use) [cv cs,.ref 0,ta A,.int ((d+1:Nat):Int)] (spt n m::r)= .ok (.lst (l.map nd)) (spt n' m::r):=by
 obtain ⟨K',rfl⟩:∃ K',K=K'+1:=⟨K - 1,by omega⟩
 obtain ⟨l,n',a,b,c,e⟩:=BI d hd ok K' cs hc A j hA hj n m h0 h1 (by omega)
 exact ⟨l,n',a,b,c,jU cs [ta A,.int ((d+1:Nat):Int)] (by rw [am,am,gA];rfl) (lQ l) e r⟩
def gr:Nat→Nat
 | 0=>2
 | d+1=>2 * Gc d+6
def crr:Nat→Nat
 | 0=>3
 | d+1=>2 * cnn d+21
abbrev nE(cs:List Int)(A:Ta)(d:Nat)(x5 x6:Option PV):Ev:= [some (cv cs),some (.ref 0),some (ta A),some (.int d),some (.ref 1),x5,x6]
theorem sL(o:PO)(a b:List Nd)(hl:a.length+b.length≤1000000):cG (.ref 1) [.lst (b.map nd)] [o,.lst (a.map nd)]= .ok .non [o,.lst ((a++b).map nd)]:=by
 show (if (a.map nd).length+(b.map nd).length≤sizeLine then Res.ok PV.non ([o,PO.lst (a.map nd)].set 1 (.lst (a.map nd++b.map nd))) else .bad)=_
 rw [if_pos (by rw [List.length_map,List.length_map];exact Nat.le_trans hl (by decide)),List.map_append];rfl
theorem tQ(d:Nat)(hd:d≤3)(ok:∀ e<d,fE e)(K:Nat)(cs:List Int)(hc:cs.length≤63)(A:Ta)(j:Nat)(hA:tOk j A)(hj:j+3 * d≤100)(n m:Int)(h0:0≤n)(h1:n+crr d≤1600000)(hK:3 * d+5≤K)(acc:List Nd)(la:acc.length≤100000)(x5 x6:Option PV):
  ∃ (l:List Nd) (n':Int) (y6:Option PV),Rw (cxT A) d (gr d) 4 l∧n≤n'∧n'≤n+crr d∧eI (F K) (L K) (nE cs A d x5 x6) [spt n m,.lst (acc.map nd)]= .nx (nE cs A d x5 y6) [spt n' m,.lst ((acc++l).map nd)]:=by
 obtain ⟨K',rfl⟩:∃ K',K=K'+2:=⟨K - 2,by omega⟩
 obtain ⟨v,v0,v1,ce⟩:=cZ (K'+1) cs hc n m h0 (by omega) [.lst (acc.map nd)]
 have d0:∀ (n:Int) (o:PO),aq [spt n m,o] (.ref 0)= .ref 0:=fun _ _=>rfl
 have d1:∀ (o:PO) (xs:List PV),aq [o,.lst xs] (.ref 1)= .ref 1:=fun _ _=>rfl
 have i0:∀ (n:Int) (o:PO),pIx (.ref 0) (.int 0) [spt n m,o]= .ok (.int n) [spt n m,o]:=fun _ _=>rfl
 have i1:∀ (n:Int) (o:PO),pIx (.ref 0) (.int 1) [spt n m,o]= .ok (.int m) [spt n m,o]:=fun _ _=>rfl
 have il:∀ (o:PO) (xs:List PV),bM [o,.lst xs] (.ref 1)=true:=fun _ _=>rfl
 have k9:=bx (v / 3) (by decide:(0:Int)<9)
 have go:∀ κ:Int,0≤κ→κ≤8→(d=0→κ<3)→∃ (l:List Nd) (n':Int),Rw (cxT A) d (gr d) 4 l∧n≤n'∧n'≤n+crr d∧
   (sIf (aJ (c2 pEq (af 6) (cK (.int 0)))) (cf (cM bM bH (af 4) (ab (cN aS (ab (cK (.str [116,101,120,116])) (ab (aM (L (K'+2) .l_text) (ab (af 0) (ab (af 1) aj))) aj))) aj))) (sIf (aJ (c2 pLt (af 6) (cK (.int 3)))) (cf (cM bM cG (af 4) (ab (aM (L (K'+2) .l_place) (ab (af 0) (ab (af 1) (ab (af 2) aj)))) aj))) (sIf (aJ (c2 pEq (af 6) (cK (.int 8)))) (cf (cM bM cG (af 4) (ab (aM (L (K'+2) .l_body) (ab (af 0) (ab (af 1) (ab (af 2) aj)))) aj))) (sIf (aJ (c2 pEq (af 6) (cK (.int 5)))) (cf (cM bM cG (af 4) (ab (aM (L (K'+2) .l_choice) (ab (af 0) (ab (af 1) (ab (af 2) (ab (af 3) aj))))) aj))) (sIf (aJ (c2 pLt (af 6) (cK (.int 5)))) (cf (cM bM cG (af 4) (ab (aM (L (K'+2) .l_loop) (ab (af 0) (ab (af 1) (ab (af 2) (ab (af 3) aj))))) aj))) (cf (cM bM cG (af 4) (ab (aM (L (K'+2) .l_use) (ab (af 0) (ab (af 1) (ab (af 2) (ab (af 3) aj))))) aj)))))))) (nE cs A d x5 (some (.int κ))) [spt (n+1) m,.lst (acc.map nd)]= .nx (nE cs A d x5 (some (.int κ))) [spt n' m,.lst ((acc++l).map nd)]:=fun κ a0 a1 a2=>by
  by_cases c0:κ=0
  ·have t0:decide (κ=0)=true:=decide_eq_true c0
   obtain ⟨s,s1,s2,se⟩:=oJ K' cs hc (n+1) m (by omega) (by omega) [.lst (acc.map nd)]
   have ap:bH (.ref 1) [.tup [.str tT,.str s]] [spt (n+1+1) m,.lst (acc.map nd)]= .ok .non [spt (n+1+1) m,.lst ((acc++ [Nd.text s]).map nd)]:=by
    rw [pP (acc:=acc.map nd) rfl _ (by rw [List.length_map];omega),List.map_append]
    show Res.ok _ [_,PO.lst (acc.map nd++ [PV.tup [.str tT,.str s]])]=Res.ok _ [_,PO.lst (acc.map nd++ [nd (.text s)])]
    rw [nd]
   have cr:3≤crr d:=by cases d<;>simp only [crr]<;>omega
   have g2:2≤gr d:=by cases d<;>simp only [gr]<;>omega
   exact ⟨[.text s],n+1+1,(Rw.text s1 s2 (by omega)).mono (Nat.zero_le _) (by omega) (by omega),by omega,by omega,by simp only [EX,t0,d1,d0,il,bO,se,ap]⟩
  have f0:decide (κ=0)=false:=decide_eq_false c0
  by_cases c3:κ<3
  ·have t3:decide (κ<3)=true:=decide_eq_true c3
   obtain ⟨l,n',a,b,c,e⟩:=jD (K'+2) cs hc A j hA (by omega) (n+1) m (by omega) (by omega) (by omega) [.lst (acc.map nd)]
   have ll:=dj l
   have lc:=a.c
   have cr:3≤crr d:=by cases d<;>simp only [crr]<;>omega
   have g2:2≤gr d:=by cases d<;>simp only [gr]<;>omega
   exact ⟨l,n',a.mono (Nat.zero_le _) g2 (Nat.le_refl _),by omega,by omega,by simp only [EX,f0,t3,d1,d0,il,bO,bI,e,sL (spt n' m) acc l (by omega)]⟩
  have f3:decide (κ<3)=false:=decide_eq_false c3
  obtain ⟨e,rfl⟩:∃ e,d=e+1:=⟨d - 1,by have:=a2;omega⟩
  have gp:=ry e
  have g3:=Gc3 (d:=e) (by omega)
  have cq:=mN e
  have er:crr (e+1)=2 * cnn e+21:=rfl
  have eg:gr (e+1)=2 * Gc e+6:=rfl
  by_cases c8:κ=8
  ·have t8:decide (κ=8)=true:=decide_eq_true c8
   obtain ⟨l,n',a,b,c,z⟩:=lI (K'+2) cs hc A j hA (by omega) (n+1) m (by omega) (by omega) (by omega) [.lst (acc.map nd)]
   have ll:=dj l
   have lc:=a.c
   exact ⟨l,n',a.mono (Nat.zero_le _) (by omega) (Nat.le_refl _),by omega,by omega,by simp only [EX,f0,f3,t8,d1,d0,il,bO,bI,z,sL (spt n' m) acc l (by omega)]⟩
  have f8:decide (κ=8)=false:=decide_eq_false c8
  by_cases c5:κ=5
  ·have t5:decide (κ=5)=true:=decide_eq_true c5
   obtain ⟨l,n',a,b,c,z⟩:=sQ (by omega:e≤2) (ok e (Nat.lt_succ_self _)) (K'+2) cs hc A j hA hj (n+1) m (by omega) (by omega) (by omega) [.lst (acc.map nd)]
   have ll:=dj l
   have lc:=a.c
   exact ⟨l,n',a.mono (Nat.le_refl _) (by omega) (Nat.le_refl _),by omega,by omega,by simp only [EX,f0,f3,f8,t5,d1,d0,il,bO,bI,z,sL (spt n' m) acc l (by omega)]⟩
  have f5:decide (κ=5)=false:=decide_eq_false c5
  by_cases c5':κ<5
  ·have t5:decide (κ<5)=true:=decide_eq_true c5'
   obtain ⟨l,n',a,b,c,z⟩:=lw (by omega:e≤2) (ok e (Nat.lt_succ_self _)) (K'+2) cs hc A j hA hj (n+1) m (by omega) (by omega) (by omega) [.lst (acc.map nd)]
   have ll:=dj l
   have lc:=a.c
   exact ⟨l,n',a.mono (Nat.le_refl _) (by omega) (Nat.le_refl _),by omega,by omega,by simp only [EX,f0,f3,f8,f5,t5,d1,d0,il,bO,bI,z,sL (spt n' m) acc l (by omega)]⟩
  have g5:decide (κ<5)=false:=decide_eq_false c5'
  obtain ⟨l,n',a,b,c,z⟩:=xm (by omega:e≤2) (fun i hi=>ok i (by omega)) (K'+2) cs hc A j hA hj (n+1) m (by omega) (by omega) (by omega) [.lst (acc.map nd)]
  have ll:=dj l
  have lc:=a.c
  exact ⟨l,n',a.mono (Nat.le_refl _) (by omega) (Nat.le_refl _),by omega,by omega,by simp only [EX,f0,f3,f8,f5,g5,d1,d0,il,bO,bI,z,sL (spt n' m) acc l (by omega)]⟩
 have fin:∀ κ:Int,0≤κ→κ≤8→(d=0→κ<3)→(sIf (pV (aJ (c2 pGt (c2 pIx (af 1) (cK (.int 0))) (c2 pIx (af 1) (cK (.int 1))))) (aJ (c2 pLt (af 3) (cK (.int 1))))) (aK 6 (c2 bV (af 6) (cK (.int 3)))) cT (nE cs A d x5 (some (.int (v / 3 % 9)))) [spt (n+1) m,.lst (acc.map nd)]= .nx (nE cs A d x5 (some (.int κ))) [spt (n+1) m,.lst (acc.map nd)])→∃ (l:List Nd) (n':Int) (y6:Option PV),Rw (cxT A) d (gr d) 4 l∧n≤n'∧n'≤n+crr d∧eI (F (K'+2)) (L (K'+2)) (nE cs A d x5 x6) [spt n m,.lst (acc.map nd)]= .nx (nE cs A d x5 y6) [spt n' m,.lst ((acc++l).map nd)]:=fun κ a0 a1 a2 hs=>by
  obtain ⟨l,n',b1,b2,b3,e⟩:=go κ a0 a1 a2
  refine ⟨l,n',some (.int κ),b1,b2,b3,?_⟩
  unfold eI
  refine bw (Q:=fun r=>r=SR.nx (nE cs A d x5 (some (.int κ))) [spt n' m,.lst ((acc++l).map nd)]) (nE cs A d x5 (some (.int (v / 3 % 9)))) [spt (n+1) m,.lst (acc.map nd)] (by simp only [EX,bO,d0,ce]) ?_
  exact bw (Q:=fun r=>r=SR.nx (nE cs A d x5 (some (.int κ))) [spt n' m,.lst ((acc++l).map nd)]) _ _ hs e
 have k3:=bx (v / 3 % 9) (by decide:(0:Int)<3)
 cases q1:decide (n+1>m) with
 | true=>exact fin (v / 3 % 9 % 3) k3.1 (by omega) (fun _=>k3.2) (by simp only [EX,d0,i0,i1,q1])
 | false=>
  cases q2:decide ((d:Int)<1) with
  | true=>exact fin (v / 3 % 9 % 3) k3.1 (by omega) (fun _=>k3.2) (by simp only [EX,d0,i0,i1,q1,q2])
  | false=>exact fin (v / 3 % 9) k9.1 (by omega) (fun z=>by have:=of_decide_eq_false q2;omega) (by simp only [EX,d0,i0,i1,q1,q2])
theorem nQ(d:Nat)(hd:d≤3)(ok:∀ e<d,fE e)(K:Nat)(cs:List Int)(hc:cs.length≤63)(A:Ta)(j:Nat)(hA:tOk j A)(hj:j+3 * d≤100)(m:Int)(hK:3 * d+5≤K):∀ (js:List Nat) (n:Int) (acc:List Nd) (c t:Nat) (x5 x6:Option PV),0≤n→n+crr d * js.length≤1600000→Rw (cxT A) d c t acc→c+gr d * js.length≤100000→
  ∃ (l:List Nd) (n':Int) (y5 y6:Option PV),Rw (cxT A) d (c+gr d * js.length) (t+4 * js.length) l∧n≤n'∧n'≤n+crr d * js.length∧bg (gNm 5) (eI (F K) (L K)) (js.map fun i=>PV.int (0+(i:Nat))) (nE cs A d x5 x6) [spt n m,.lst (acc.map nd)]= .nx (nE cs A d y5 y6) [spt n' m,.lst (l.map nd)]
 | [],n,acc,c,t,x5,x6,_,_,ha,_=>⟨acc,n,x5,x6,ha,Int.le_refl _,by simp,by rw [List.map_nil,bg]⟩
 | i::r,n,acc,c,t,x5,x6,h0,h1,ha,hl=>by
  rw [List.length_cons,Nat.mul_succ] at hl
  have e:(crr d:Int) * ((i::r).length:Nat)=crr d * (r.length:Nat)+crr d:=by rw [List.length_cons,Int.natCast_add,Int.mul_add];simp
  have p0:0≤(crr d:Int) * (r.length:Nat):=Int.mul_nonneg (by omega) (by omega)
  rw [e] at h1
  have al:=dj acc
  have ac:=ha.c
  obtain ⟨l,n1,y6,a1,a2,a3,a4⟩:=tQ d hd ok K cs hc A j hA hj n m h0 (by omega) hK acc (by omega) (some (.int (0+(i:Nat)))) x6
  obtain ⟨l2,n2,y5,y6',b1,b2,b3,b4⟩:=nQ d hd ok K cs hc A j hA hj m hK r n1 (acc++l) (c+gr d) (t+4) (some (.int (0+(i:Nat)))) y6 (by omega) (by omega) (ha.app a1) (by omega)
  refine ⟨l2,n2,y5,y6',b1.mono (Nat.le_refl _) (by rw [List.length_cons,Nat.mul_succ];omega) (by rw [List.length_cons];omega),by omega,by rw [e];omega,?_⟩
  rw [List.map_cons]
  exact Eq.trans (cO rfl a4) b4
theorem yx:∀ d,d≤3→fE d:=by
 intro d
 induction d using Nat.strongRecOn with
 | ind d ih=>
  intro hd K cs A j n m hc hA hj h0 h1 hK
  obtain ⟨K',rfl⟩:∃ K',K=K'+2:=⟨K - 2,by omega⟩
  have c3:=Hk hd
  have g3:=Gc3 hd
  have eg:3 * gr d=Gc d:=by cases d<;>simp only [gr,Gc]
  have ec:1+3 * crr d≤cnn d:=by cases d<;>simp only [crr,cnn]<;>omega
  obtain ⟨v,v0,v1,ce⟩:=cZ K' cs hc n m h0 (by omega) [.lst []]
  have k3:=bx (v / 5) (by decide:(0:Int)<3)
  have hl:((List.range (1+v / 5 % 3).toNat).length:Nat)≤3:=by rw [List.length_range];omega
  have gl:gr d * (List.range (1+v / 5 % 3).toNat).length≤gr d * 3:=Nat.mul_le_mul_left _ hl
  have cl:(crr d:Int) * ((List.range (1+v / 5 % 3).toNat).length:Nat)≤crr d * 3:=Int.mul_le_mul_of_nonneg_left (by omega) (by omega)
  obtain ⟨l,n',y5,y6,b1,b2,b3,b4⟩:=nQ d hd (fun e he=>ih e he (by omega)) (K'+1) cs hc A j hA hj m (by omega) (List.range (1+v / 5 % 3).toNat) (n+1) [] 0 0 none none (by omega) (by omega) ⟨fun x hx=>(by cases hx),Nat.zero_le _,Nat.zero_le _⟩ (by omega)
  refine ⟨l,n',b1.mono (Nat.le_refl _) (by omega) (by omega),by omega,by omega,?_⟩
  have r2:∀ x,jp (F (K'+1)) (L (K'+1)) [some (cv cs),some (.ref 0),some (ta A),some (.int d),none,none,none] [spt n m]=x→L (K'+2) .l_nodes [cv cs,.ref 0,ta A,.int d] [spt n m]=mq x:=fun x e=>by subst e;rfl
  have lm:eM [] [spt n m]= .ok (.ref 1) [spt n m,.lst []]:=rfl
  have d0:∀ (n:Int) (o:PO),aq [spt n m,o] (.ref 0)= .ref 0:=fun _ _=>rfl
  have d1:∀ (o:PO) (xs:List PV),aq [o,.lst xs] (.ref 1)= .ref 1:=fun _ _=>rfl
  have bc:bel 4611686018427387904 (1+v / 5 % 3)=true:=bX.mpr ⟨by omega,by omega⟩
  have b4':bg (gNm 5) (eI (F (K'+1)) (L (K'+1))) ((List.range (1+v / 5 % 3).toNat).map fun i=>PV.int (0+(i:Nat))) [some (cv cs),some (.ref 0),some (ta A),some (.int d),some (.ref 1),none,none] [spt (n+1) m,.lst []]= .nx [some (cv cs),some (.ref 0),some (ta A),some (.int d),some (.ref 1),y5,y6] [spt n' m,.lst (l.map nd)]:=b4
  rw [r2 _ rfl]
  simp only [EX,jp,lm,bO,d0,d1,ce,bc,b4']
  show iu 1 (.ref 1) [spt n' m,.lst (l.map nd)]=_
  have fr:ir [spt n' m,.lst (l.map nd)] (.ref 1)=some (.lst (l.map nd),[spt n' m,.froz (.lst (l.map nd))]):=by
   show (if am (l.map nd)=true then some (PV.lst (l.map nd),[spt n' m,PO.froz (.lst (l.map nd))]) else none)=_
   rw [if_pos (iS l)]
  unfold iu;rw [fr];rfl
theorem DN(k:Nat)(n j:Int)(h:List PO):∃ W:List (List Nat),w8 W∧bZ bF (gF (F k)) [some (.str dq),some (.int n),some (.int j)] ((List.range (Int.toNat 8)).map fun i=>PV.int (0+(i:Nat))) h= .ok (W.map PV.str) h:=by
 obtain ⟨W,g0,g1,g2⟩:=tS (te:=gF (F k)) (cp:= [some (.str dq),some (.int n),some (.int j)]) (h:=h) (fun i:Nat=>PV.int (0+(i:Nat))) (fun s=>sg s=true∧s.length≤1) (List.range (Int.toNat 8)) fun i _=>by
  have q2:=bx n (by decide:(0:Int)<2)
  have mi:∀ x:Int,hH x (1 - n % 2)=true:=fun x=>qF (bX.mpr ⟨by omega,by omega⟩)
  have az:=zE (n / 128+5 * (0+(i:Int))+3 * (j / 8) * (1 - n % 2))
  have zl:dq.length≤16777216:=by decide
  exact ⟨[azA (n / 128+5 * (0+(i:Int))+3 * (j / 8) * (1 - n % 2))],⟨zD _,Nat.le_refl _⟩,by simp only [EX,gF,mi,az,zl]⟩
 exact ⟨W,⟨by rw [g0];rfl,List.all_eq_true.mpr fun x hx=>(g1 x hx).1,fun x hx=>(g1 x hx).2⟩,g2⟩
abbrev nmE(n a:Int)(x4 x5:Option PV):Ev:= [some (.int n),some (.str dq),some (.int a),some (.ref 0),x4,x5,none]
theorem tR(k:Nat)(n a:Int)(ha:0≤a∧a<8)(j:Nat)(hj:j<12)(x5:Option PV)(acc:List (List Nat))(la:acc.length<16777216)(rest:List PO):∃ l rest' y5,(sg l=true∧l.length≤100)∧
  eJ (F k) (nmE n a (some (.int (0+(j:Nat)))) x5) (.lst (acc.map PV.str)::rest)= .nx (nmE n a (some (.int (0+(j:Nat)))) y5) (.lst ((acc++ [l]).map PV.str)::rest'):=by
 obtain ⟨W,hW,cm⟩:=DN k n (0+(j:Nat)) (.lst (acc.map PV.str)::rest)
 have b8:bel 4611686018427387904 8=true:=rfl
 have ln:((List.range (Int.toNat 8)).map fun i=>PV.int (0+(i:Nat))).length<16777216:=by decide
 have nl:∀ (xs:List PV) (o:PO),nT xs (o::rest)= .ok (.ref (rest.length+1)) (o::(rest++ [.lst xs])):=fun _ _=>rfl
 have d0:∀ (xs:List PV) r,aq (.lst xs::r) (.ref 0)= .ref 0:=fun xs r=>rfl
 have dW:∀ (xs ys:List PV),aq (.lst xs::(rest++ [.lst ys])) (.ref (rest.length+1))= .ref (rest.length+1):=fun xs ys=>CQ (acc:=ys) (by simp)
 have sW:∀ (xs:List PV) (V:List (List Nat)) lo hi,iH (.ref (rest.length+1)) lo hi (.lst xs::(rest++ [.lst (V.map PV.str)]))= .ok (.lst ((cut V lo hi).map PV.str)) (.lst xs::(rest++ [.lst (V.map PV.str)])):=fun xs V lo hi=>by
  show (match lsM (.lst xs::(rest++ [.lst (V.map PV.str)])) (.ref (rest.length+1)) with | some ys=>Res.ok (PV.lst (cut ys lo hi)) _ | none=>.bad)=_
  have:lsM (.lst xs::(rest++ [.lst (V.map PV.str)])) (.ref (rest.length+1))=some (V.map PV.str):=by simp [lsM]
  rw [this,← mL]
 have ap:∀ (l:List Nat) r,bH (.ref 0) [.str l] (.lst (acc.map PV.str)::r)= .ok .non (.lst (acc.map PV.str++ [.str l])::r):=fun l r=>by rw [EW,if_pos (by rw [List.length_map];exact Nat.lt_of_lt_of_le la (by decide))]
 have cl:∀ (V:List (List Nat)) lo hi,V.length=8→(cut V lo hi).length≤17:=fun V lo hi h=>by have:=mM V lo hi;omega
 have ic:=yU
 have p8:decide (0<8 - a)=true:=decide_eq_true (by omega)
 have q2:=bx n (by decide:(0:Int)<2)
 by_cases q1:n % 2=1
 ·have e1:decide (n % 2=1)=true:=decide_eq_true q1
  have az:=zE (n / 128+7 * (0+(j:Nat))+1)
  have ao:=zD (n / 128+7 * (0+(j:Nat))+1)
  have zl:dq.length≤16777216:=by decide
  generalize azA (n / 128+7 * (0+(j:Nat))+1)=s at az ao
  have hV:w8 (W.set a.toNat [s]):=by
   refine ⟨by rw [List.length_set];exact hW.1,List.all_eq_true.mpr fun x hx=>?_,fun x hx=>?_⟩
   ·rcases List.mem_or_eq_of_mem_set hx with h | h
    ·exact List.all_eq_true.mp hW.2.1 x h
    ·subst h;exact ao
   ·rcases List.mem_or_eq_of_mem_set hx with h | h
    ·exact hW.2.2 x h
    ·subst h;exact Nat.le_refl _
  have si:∀ ρ,dG (.str [s]) (.ref (rest.length+1)) (.int a) ρ (.lst (acc.map PV.str)::(rest++ [.lst (W.map PV.str)]))= .nx ρ (.lst (acc.map PV.str)::(rest++ [.lst ((W.set a.toNat [s]).map PV.str)])):=fun ρ=>by
   unfold dG
   have e2:fK (.lst (acc.map PV.str)::(rest++ [.lst (W.map PV.str)])) (.ref (rest.length+1))=some (rest.length+1,W.map PV.str):=by unfold fK;simp
   have e3:ixN (W.map PV.str).length a=some a.toNat:=by unfold ixN;rw [List.length_map,hW.1,if_pos ha.1,if_pos (by omega)]
   rw [e2]
   dsimp only
   rw [e3]
   dsimp only
   rw [List.set_cons_succ,List.set_append_right _ _ (Nat.le_refl _),Nat.sub_self,List.set_cons_zero,List.map_set]
  obtain ⟨j1,j3⟩:=uz (V:=cut (W.set a.toNat [s]) none (some (a+1+n / 16 % (8 - a)))) hV (fun x hx=>mK hx) (cl _ _ _ hV.1) (.lst (acc.map PV.str)::(rest++ [.lst ((W.set a.toNat [s]).map PV.str)]))
  refine ⟨_,rest++ [.lst ((W.set a.toNat [s]).map PV.str)],some (.ref (rest.length+1)),⟨j1,Nat.le_trans (tq j1) (by omega)⟩,?_⟩
  have ii:∀ (x y:Int),atI [PV.int x,.int y] 1=some (.int y):=fun _ _=>rfl
  simp only [EX,eJ,b8,ln,cm,bW,Option.getD,nl,e1,q1,ii,d0,dW,sW,ic,az,zl,si,p8,j3,ap,List.map_append]
 ·have q0:n % 2=0:=by omega
  have e1:decide (n % 2=1)=false:=decide_eq_false q1
  obtain ⟨j1,j3⟩:=uz (V:=cut W none (some (1+(0+(j:Nat)) % 8))) hW (fun x hx=>mK hx) (cl _ _ _ hW.1) (.lst (acc.map PV.str)::(rest++ [.lst (W.map PV.str)]))
  refine ⟨_,rest++ [.lst (W.map PV.str)],some (.ref (rest.length+1)),⟨j1,Nat.le_trans (tq j1) (by omega)⟩,?_⟩
  have e0:decide ((0:Int)=1)=false:=rfl
  have ii:∀ (x y:Int),atI [PV.int x,.int y] 0=some (.int x):=fun _ _=>rfl
  simp only [EX,eJ,b8,ln,cm,bW,Option.getD,nl,e1,e0,q0,ii,d0,dW,sW,ic,p8,j3,ap,List.map_append]
theorem nR(k:Nat)(n a:Int)(ha:0≤a∧a<8):∀ (js:List Nat) (x4 x5:Option PV) (acc:List (List Nat)) (rest:List PO),(∀ j∈js,j<12)→acc.length+js.length<16777216→sgs acc=true→(∀ x∈acc,x.length≤100)→∃ (ls:List (List Nat)) (y4 y5:Option PV) (rest':List PO),ls.length=acc.length+js.length∧(sgs ls=true∧∀ x∈ls,x.length≤100)∧
  bg (gNm 4) (eJ (F k)) (js.map fun j=>PV.int (0+(j:Nat))) (nmE n a x4 x5) (.lst (acc.map PV.str)::rest)= .nx (nmE n a y4 y5) (.lst (ls.map PV.str)::rest')
 | [],x4,x5,acc,rest,_,_,ho,hn=>⟨acc,x4,x5,rest,rfl,⟨ho,hn⟩,by rw [List.map_nil,bg]⟩
 | j::r,x4,x5,acc,rest,hj,hl,ho,hn=>by
  rw [List.length_cons] at hl
  obtain ⟨l,rest1,x5',⟨ol,nl⟩,e⟩:=tR k n a ha j (hj j List.mem_cons_self) x5 acc (by omega) rest
  obtain ⟨ls,y4,y5,rest2,e1,e2,e3⟩:=nR k n a ha r (some (.int (0+(j:Nat)))) x5' (acc++ [l]) rest1 (fun z hz=>hj z (List.mem_cons_of_mem _ hz)) (by rw [List.length_append,List.length_singleton];omega) (jh ho (by simp [sgs,ol])) (fun z hz=>by
   rcases List.mem_append.mp hz with q | q
   ·exact hn z q
   ·cases List.mem_singleton.mp q;exact nl)
  refine ⟨ls,y4,y5,rest2,by rw [e1,List.length_append];simp only [List.length_cons,List.length_nil];omega,e2,?_⟩
  rw [List.map_cons]
  exact Eq.trans (cO rfl e) e3
theorem yC(k:Nat)(n:Int):∃ ls:List (List Nat),ls.length=12∧sgs ls=true∧ls.Nodup∧(∀ x∈ls,x.length≤100)∧F (k+1) .l_names [.int n]= .ok (mnu ls):=by
 have s8:=bx (n / 2) (by decide:(0:Int)<8)
 obtain ⟨ls,y4,y5,rest,e1,⟨e2,nl⟩,e3⟩:=nR k n (n / 2 % 8) s8 (List.range 12) none none [] [] (fun j hj=>List.mem_range.mp hj) (by simp) rfl (fun x hx=>(by cases hx))
 have l12:ls.length=12:=by rw [e1];simp
 have b12:bel 4611686018427387904 12=true:=rfl
 have r12:(List.range (Int.toNat 12))=List.range 12:=rfl
 have e3':bg (gNm 4) (eJ (F k)) ((List.range 12).map fun j=>PV.int (0+(j:Nat))) [some (.int n),some (.str dq),some (.int (n / 2 % 8)),some (.ref 0),none,none,none] [.lst []]= .nx [some (.int n),some (.str dq),some (.int (n / 2 % 8)),some (.ref 0),y4,y5,none] (.lst (ls.map PV.str)::rest):=e3
 have d0:∀ (xs:List PV) r,aq (.lst xs::r) (.ref 0)= .ref 0:=fun xs r=>rfl
 have tl:(fQ.map PV.str)= [.str [97,115],.str [98,101,116,119,101,101,110],.str [98,111,100,121],.str [101,108,115,101],.str [101,110,100],.str [102,111,114],.str [105,102],.str [105,110],.str [112,105,101,99,101],.str [117,115,101],.str [119,105,116,104]]:=rfl
 have ad:ay (.ref 0) (.lst (fQ.map PV.str)) (.lst (ls.map PV.str)::rest)= .ok (.lst ((ls++fQ).map PV.str)) (.lst (ls.map PV.str)::rest):=by
  rw [zJ (acc:=ls.map PV.str) rfl _ (by rw [List.length_map,List.length_map,l12];decide),List.map_append]
 have sc:(ls++fQ).length+1<scanBound:=by rw [List.length_append,l12];decide
 have lz:∀ h,iQ (.lst ((ls++fQ).map PV.str)) h= .ok (.int (kQ (ls++fQ):Nat)) h:=fun h=>by
  show (match dU ((ls++fQ).map PV.str) with | some ls=>if ls.length+1<scanBound then Res.ok (PV.int (kQ ls:Nat)) _ else .bad | none=>.bad)=_
  rw [iL]
  dsimp only
  rw [if_pos sc]
 have r2:F (k+1) .l_names [.int n]=match hS (F k) [some (.int n),none,none,none,none,none,none] [] with
   | .nx _ _=>.ok .non
   | .rt v h=>gh v h
   | _=>.bad:=rfl
 rw [tl] at ad
 by_cases c1:((kQ (ls++fQ):Nat):Int)<23
 ·have z1:decide (((kQ (ls++fQ):Nat):Int)<23)=true:=decide_eq_true c1
  refine ⟨Hj,rfl,by decide,by decide,by decide,?_⟩
  rw [r2]
  simp only [EX,hS,b12,r12,e3',d0,ad,lz,z1]
  rfl
 ·have z1:decide (((kQ (ls++fQ):Nat):Int)<23)=false:=decide_eq_false c1
  have dn:dup (ls++fQ)=false:=by unfold dup;rw [List.length_append,l12];exact decide_eq_false (by show ¬ (kQ (ls++fQ)<12+11);omega)
  refine ⟨ls,l12,e2,(List.nodup_append.mp ((zm _).mp dn)).1,nl,?_⟩
  rw [r2]
  simp only [EX,hS,b12,r12,e3',d0,ad,lz,z1]
  exact qT rfl (gR ls)
theorem yN(k:Nat)(ms:List (List Nat))(ml:ms.length=12)(hm:sgs ms=true)(n:Int):∃ ks:List Kd,ks.length=9∧kOl ks∧F (k+1) .l_kinds [mnu ms,.int n]= .ok (kdl ks):=by
 have s5:=bx n (by decide:(0:Int)<5)
 obtain ⟨x0,a0,i0,_⟩:=iT ml hm (n % 5) (by omega) (by omega)
 obtain ⟨x1,a1,i1,_⟩:=iT ml hm (n % 5+1) (by omega) (by omega)
 obtain ⟨x2,a2,i2,_⟩:=iT ml hm (n % 5+2) (by omega) (by omega)
 obtain ⟨x3,a3,i3,_⟩:=iT ml hm (n % 5+3) (by omega) (by omega)
 obtain ⟨x4,a4,i4,_⟩:=iT ml hm (n % 5+4) (by omega) (by omega)
 obtain ⟨x6,a6,i6,_⟩:=iT ml hm (n % 5+6) (by omega) (by omega)
 let sm:Kd:=.r (.cons x0 .t (.cons x1 .w (.cons x3 .n (.cons x6 .b .nil))))
 let gt:Kd:=.r (.cons x2 (.l sm) (.cons x0 (.l .w) (.cons x4 sm .nil)))
 have ws:wK sm=true:=by simp [sm,wK,wKs,a0,a1,a3,a6]
 have zs:zK sm=5:=by simp [sm,zK,zKs]
 have wg:wK gt=true:=by simp [gt,wK,wKs,a0,a2,a4,ws]
 have zg:zK gt=14:=by simp [gt,zK,zKs,zs]
 have es:kd sm= .tup [.str [114],.tup [.tup [.str x0,.tup [.str [116]]],.tup [.str x1,.tup [.str [119]]],.tup [.str x3,.tup [.str [110]]],.tup [.str x6,.tup [.str [98]]]]]:=by simp [sm,kd,kds]
 have eg:kd gt= .tup [.str [114],.tup [.tup [.str x2,.tup [.str [108],kd sm]],.tup [.str x0,.tup [.str [108],.tup [.str [119]]]],.tup [.str x4,kd sm]]]:=by simp [gt,kd,kds]
 refine ⟨[.w,.t,.n,.b,sm,.l .w,.l sm,gt,.l (.l .n)],rfl,?_,?_⟩
 ·intro q hq
  simp only [List.mem_cons,List.not_mem_nil,or_false] at hq
  rcases hq with rfl | rfl | rfl | rfl | rfl | rfl | rfl | rfl | rfl
  ·exact ⟨rfl,by decide⟩
  ·exact ⟨rfl,by decide⟩
  ·exact ⟨rfl,by decide⟩
  ·exact ⟨rfl,by decide⟩
  ·exact ⟨ws,by omega⟩
  ·exact ⟨rfl,by decide⟩
  ·exact ⟨by rw [wK];exact ws,by rw [zK];omega⟩
  ·exact ⟨wg,by omega⟩
  ·exact ⟨rfl,by decide⟩
 ·have r2:F (k+1) .l_kinds [mnu ms,.int n]=match jq (F k) [some (mnu ms),some (.int n),none,none,none,none] [] with
   | .nx _ _=>.ok .non
   | .rt v h=>gh v h
   | _=>.bad:=rfl
  have ek:kdl [.w,.t,.n,.b,sm,.l .w,.l sm,gt,.l (.l .n)]= .lst [.tup [.str [119]],.tup [.str [116]],.tup [.str [110]],.tup [.str [98]],kd sm,.tup [.str [108],.tup [.str [119]]],.tup [.str [108],kd sm],kd gt,.tup [.str [108],.tup [.str [108],.tup [.str [110]]]]]:=by
   unfold kdl;simp [kd]
  have fi:gh (kdl [.w,.t,.n,.b,sm,.l .w,.l sm,gt,.l (.l .n)]) []= .ok (kdl [.w,.t,.n,.b,sm,.l .w,.l sm,gt,.l (.l .n)]):=fM (km _)
  rw [r2]
  rw [ek,eg,es] at fi ⊢
  simp only [EX,jq,dM,i0,i1,i2,i3,i4,i6]
  exact fi
theorem aO:∀ (a b:List PV),am (a++b)=(am a&&am b)
 | [],b=>by simp [am]
 | x::r,b=>by rw [List.cons_append,am,am,aO r b,Bool.and_assoc]
theorem AG{P Q:List Pe}{x:List Nat}{p:Pe}(h:lkP P x=some p):lkP (P++Q) x=some p:=by
 unfold lkP at *;rw [List.find?_append,h];rfl
theorem uT{P Q:List Pe}{x:List Nat}{l:Nat}{h:Option Int}(e:okU P x l h=true):okU (P++Q) x l h=true:=by
 unfold okU at *
 cases z:lkP P x with
 | none=>rw [z] at e;cases e
 | some p=>rw [z] at e;rw [AG z];exact e
mutual
theorem Ar(P Q:List Pe)(m:Option Int)(ns:List (List Nat)):∀ n:Nd,okN (P,m,ns) n=true→okN (P++Q,m,ns) n=true
 | .text _,_=>rfl
 | .place p w,h=>by rw [okN] at h ⊢;exact h
 | .loop x p b t,h=>by rw [okN,Bool.and_eq_true] at h;rw [okN,Bool.and_eq_true];exact ⟨h.1,gD P Q m _ b h.2⟩
 | .choice p y z,h=>by rw [okN,Bool.and_eq_true,Bool.and_eq_true] at h;rw [okN,Bool.and_eq_true,Bool.and_eq_true];exact ⟨h.1,gD P Q m _ y h.2.1,gD P Q m _ z h.2.2⟩
 | .use x ps,h=>by rw [okN,Bool.and_eq_true] at h;rw [okN,Bool.and_eq_true];exact ⟨h.1,uT h.2⟩
 | .usew x ps hs b,h=>by rw [okN,Bool.and_eq_true,Bool.and_eq_true,Bool.and_eq_true] at h;rw [okN,Bool.and_eq_true,Bool.and_eq_true,Bool.and_eq_true];exact ⟨h.1,uT h.2.1,h.2.2.1,gD P Q m _ b h.2.2.2⟩
 | .body ps,h=>by rw [okN] at h ⊢;exact h
theorem gD(P Q:List Pe)(m:Option Int)(ns:List (List Nat)):∀ b:Nds,okS (P,m,ns) b=true→okS (P++Q,m,ns) b=true
 | .nil,_=>rfl
 | .cons n r,h=>by rw [okS,Bool.and_eq_true] at h;rw [okS,Bool.and_eq_true];exact ⟨Ar P Q m ns n h.1,gD P Q m ns r h.2⟩
end
theorem uU(X:Cx):∀ (y z:Nds),okS X y=true→okS X z=true→okS X (apS y z)=true
 | .nil,z,_,h=>h
 | .cons n r,z,h,g=>by rw [okS,Bool.and_eq_true] at h;rw [apS,okS,h.1,uU X r z h.2 g];rfl
def bdp(q:Pc):PK×PV:=(.inr q.n,.tup (nds q.b))
def pd(B:List Pc):PV:=.dct (B.map bdp)
theorem qu(B:List Pc):(pd B).pure=true:=by
 show cW (B.map bdp)=true
 rw [eY,List.map_map]
 induction B with
 | nil=>rfl
 | cons q r ih=>rw [List.map_cons,am,ih];simp [bdp,PV.pure,du]
theorem rV(B:List Pc)(h:List PO):aq h (pd B)=pd B:=rfl
theorem rC(n:List Nat):∀ B:List Pc,hZ (B.map bdp) (.inr n)=(look B n).map fun q=>.tup (nds q.b)
 | []=>rfl
 | q::r=>by
  rw [List.map_cons]
  by_cases h:q.n=n
  ·subst h
   simp [hZ,look,bdp]
  ·have i:=rC n r
   unfold look at i ⊢
   rw [List.find?_cons_of_neg (by simpa using h),← i]
   simp [hZ,bdp,h]
theorem Bk{B:List Pc}{x:List Nat}{q:Pc}(e:look B x=some q)(h:List PO):pIx (pd B) (.str x) h= .ok (.tup (nds q.b)) h:=by
 show (match hZ (B.map bdp) (.inr x) with | some v=>Res.ok (aq h v) h | none=>Res.bad)=_
 rw [rC,e];rfl
inductive HB(B:List Pc):List PV→Option Int→Hd→Prop where
 | no (l:List PV):HB B l none .nil
 | yes {l:List PV} {m:Option Int} {h:Hd} {b:Nds} {ns:List (List Nat)} (i:Int) (t:HB B l m h) (ok:okS (B.map pOf,m,ns) b=true) (ct:ctS b≤1000000):HB B (l++ [.tup (nds b)]) (some i) (.cons b 0 h)
def uv(B:List Pc)(j:Nat):Prop:=∀ (b:Nds) (m:Option Int) (ns:List (List Nat)) (l:List PV) (hd:Hd) (left:Int) (K:Nat),okS (B.map pOf,m,ns) b=true→ctS b≤1000000→HB B l m hd→am l=true→l.length+j≤1000→ -1≤left→j+1≤K→
 ∃ left':Int,(-1≤left'∧left'≤max left (-1)∧(0≤left'→∃ r,cX B (j+1) b hd=some r∧(r.1:Int)+left'≤left))∧L K .l_come [.tup (nds b),pd B,.lst l,.int (25 - (j:Int)),.ref 0] [lft left]= .ok .non [lft left']
abbrev cE(a:PV)(B:List Pc)(l:List PV)(j:Nat)(x5:Option PV):Ev:= [some a,some (pd B),some (.lst l),some (.int (25 - (j:Int))),some (.ref 0),x5]
theorem zA(B:List Pc)(hB:∀ q∈B,okS (B.map pOf,q.m,q.ns) q.b=true∧ctS q.b≤1000000)(j k:Nat)(hj:j≤24)(ok:∀ j',j'<j→uv B j')(hk:j≤k)(a:PV)(m:Option Int)(ns:List (List Nat))(l:List PV)(hd:Hd)(left:Int)(n:Nd)
    (us:okN (B.map pOf,m,ns) n=true) (ct:ctN n≤1000000) (ho:HB B l m hd) (pl:am l=true) (ll:l.length+j≤1000) (hl: -1≤left):∃ left':Int,(-1≤left'∧left'≤max left (-1)∧(0≤left'→∃ r,cN1 B (cX B j) hd n=some r∧(r.1:Int)+left'≤left))∧
     bU (F k) (L k) (cE a B l j (some (nd n))) [lft left]= .nx (cE a B l j (some (nd n))) [lft left']:=by
  have ix0:∀ m:Int,pIx (.ref 0) (.int 0) [lft m]= .ok (.int m) [lft m]:=fun m=>rfl
  have d0:∀ m:Int,aq [lft m] (.ref 0)= .ref 0:=fun m=>rfl
  have st:∀ (v m:Int) ρ,dG (.int v) (.ref 0) (.int 0) ρ [lft m]= .nx ρ [lft v]:=fun v m ρ=>rfl
  by_cases c1:left - 1<0
  · have z1:decide (left - 1<0)=true:=decide_eq_true c1
    exact ⟨-1,⟨by omega,by omega,fun z=>by omega⟩,by simp only [EX,bU,d0,ix0,st,z1]⟩
  have z1:decide (left - 1<0)=false:=decide_eq_false c1
  cases j with
  | zero=>exact ⟨-1,⟨by omega,by omega,fun z=>by omega⟩,by simp only [EX,bU,d0,ix0,st,z1];rfl⟩
  | succ j=>
    have z2:decide (25 - ((j+1:Nat):Int)>24)=false:=decide_eq_false (by omega)
    have ad:25 - ((j+1:Nat):Int)+1=25 - (j:Int):=by omega
    have go:∀ (b:Nds) (m':Option Int) (ns':List (List Nat)) (l':List PV) (h':Hd),okS (B.map pOf,m',ns') b=true→ctS b≤1000000→HB B l' m' h'→am l'=true→l'.length+j≤1000→∃ left':Int,(-1≤left'∧left'≤max (left - 1) (-1)∧(0≤left'→∃ r,cX B (j+1) b h'=some r∧(r.1:Int)+left'≤left - 1))∧callL (L k .l_come) [.tup (nds b),pd B,.lst l',.int (25 - (j:Int)),.ref 0] [lft (left - 1)]= .ok .non [lft left']:=fun b m' ns' l' h' u c o p q=>by
      obtain ⟨lf,g1,g2⟩:=ok j (Nat.lt_succ_self _) b m' ns' l' h' (left - 1) k u c o p q (by omega) (by omega)
      exact ⟨lf,g1,eP (fn:=L k .l_come) [.tup (nds b),pd B,.lst l',.int (25 - (j:Int))] [] (by simp [am,qu,PV.pure,du,p]) rfl rfl (ki _) g2 rfl (ki _)⟩
    have up:∀ {b:Nds} {h':Hd} {l':Int} {n:Nd},(-1≤l'∧l'≤max (left - 1) (-1)∧(0≤l'→∃ r,cX B (j+1) b h'=some r∧(r.1:Int)+l'≤left - 1))→cN1 B (cX B (j+1)) hd n=upO (cX B (j+1) b h')→ -1≤l'∧l'≤max left (-1)∧(0≤l'→∃ r,cN1 B (cX B (j+1)) hd n=some r∧(r.1:Int)+l'≤left):=fun g e=>⟨g.1,by have:=g.2.1;omega,fun z=>by
      obtain ⟨r,hr,hs⟩:=g.2.2 z
      rw [e,hr];exact ⟨_,rfl,by show ((r.1+1:Nat):Int)+_≤_;omega⟩⟩
    cases n with
    | text s=>exact ⟨left - 1,⟨by omega,by omega,fun _=>⟨_,rfl,by show (1:Int)+_≤_;omega⟩⟩,by simp only [EX,bU,d0,ix0,st,z1,z2]⟩
    | place p s=>exact ⟨left - 1,⟨by omega,by omega,fun _=>⟨_,rfl,by show (1:Int)+_≤_;omega⟩⟩,by simp only [EX,bU,d0,ix0,st,z1,z2]⟩
    | loop x p b s=>
      rw [okN,Bool.and_eq_true] at us;rw [ctN] at ct
      obtain ⟨l',g1,g2⟩:=go b m _ l hd us.2 ct ho pl (by omega)
      exact ⟨l',up g1 rfl,by simp only [EX,bU,d0,ix0,st,z1,z2,rV,ad,g2]⟩
    | choice p y z=>
      rw [okN,Bool.and_eq_true,Bool.and_eq_true] at us;rw [ctN] at ct
      obtain ⟨l',g1,g2⟩:=go (apS y z) m _ l hd (uU _ y z us.2.1 us.2.2) (by rw [zx];exact ct) ho pl (by omega)
      rw [yB] at g2
      have aa:∀ h,ay (.tup (nds y)) (.tup (nds z)) h= .ok (.tup (nds y++nds z)) h:=fun h=>oA _ _ h (by have:=mF y;have:=mF z;exact Nat.le_trans (by omega:_≤1000000) (by decide))
      exact ⟨l',up g1 rfl,by simp only [EX,bU,d0,ix0,st,z1,z2,rV,aa,ad,g2]⟩
    | body ps=>
      rw [okN,Bool.and_eq_true] at us
      have us2:m=some (ps.length:Int):=of_decide_eq_true us.2
      cases ho with
      | no l=>cases us2
      | @yes l0 m0 h0 b ns0 i t okb ctb=>
        have plp:am l0=true:=by rw [aO,Bool.and_eq_true] at pl;exact pl.1
        obtain ⟨l',g1,g2⟩:=go b m0 ns0 l0 h0 okb ctb t plp (by rw [List.length_append] at ll;simp only [List.length_singleton] at ll;omega)
        have e0:∀ h,pIx (.lst (l0++ [.tup (nds b)])) (.int (-1)) h= .ok (.tup (nds b)) h:=fun h=>by rw [nX,mR];rfl
        have e1:∀ h,iH (.lst (l0++ [.tup (nds b)])) none (some (-1)) h= .ok (.lst l0) h:=fun h=>by
          rw [uD]
          have:cut (l0++ [PV.tup (nds b)]) none (some (-1))=l0:=by
            unfold cut
            rw [HT.sIx_none,List.drop_zero]
            have:HT.sIx (l0++ [PV.tup (nds b)]).length (l0++ [PV.tup (nds b)]).length (some (-1))=l0.length:=by
              show (if (-1:Int)<0 then ((-1:Int)+((l0++ [PV.tup (nds b)]).length:Nat)).toNat else min (-1:Int).toNat (l0++ [PV.tup (nds b)]).length)=_
              rw [if_pos (by decide),List.length_append,List.length_singleton];omega
            rw [this,Nat.sub_zero,List.take_left]
          rw [this]
        exact ⟨l',up g1 rfl,by simp only [EX,bU,d0,ix0,st,z1,z2,rV,e0,e1,ad,g2]⟩
    | use x ps=>
      rw [okN,Bool.and_eq_true] at us
      obtain ⟨q,lk,u1,u2⟩:=rZ us.2
      have qm:q∈B:=List.mem_of_find?_eq_some lk
      obtain ⟨b1,b2⟩:=hB q qm
      rw [u2] at b1
      obtain ⟨l',g1,g2⟩:=go q.b none q.ns (l++ [.non]) .nil b1 b2 (.no _) (by rw [aO,pl];rfl) (by rw [List.length_append];simp only [List.length_singleton];omega)
      have aa:∀ h,ay (.lst l) (.lst [.non]) h= .ok (.lst (l++ [.non])) h:=fun h=>bh _ _ h (by simp only [List.length_singleton];omega)
      exact ⟨l',up g1 (by rw [cN1,lk]),by simp only [EX,bU,d0,ix0,st,z1,z2,rV,Bk lk,aa,ad,g2]⟩
    | usew x ps hs b=>
      rw [okN,Bool.and_eq_true,Bool.and_eq_true,Bool.and_eq_true] at us;rw [ctN] at ct
      obtain ⟨q,lk,u1,u2⟩:=rZ us.2.1
      have qm:q∈B:=List.mem_of_find?_eq_some lk
      obtain ⟨b1,b2⟩:=hB q qm
      rw [u2] at b1
      obtain ⟨l',g1,g2⟩:=go q.b (some (hs.length:Int)) q.ns (l++ [.tup (nds b)]) (.cons b 0 hd) b1 b2 (.yes _ ho us.2.2.2 ct) (by rw [aO,pl,am,PV.pure,du];rfl) (by rw [List.length_append];simp only [List.length_singleton];omega)
      have aa:∀ h,ay (.lst l) (.lst [.tup (nds b)]) h= .ok (.lst (l++ [.tup (nds b)])) h:=fun h=>bh _ _ h (by simp only [List.length_singleton];omega)
      exact ⟨l',up g1 (by rw [cN1,lk]),by simp only [EX,bU,d0,ix0,st,z1,z2,rV,Bk lk,aa,ad,g2]⟩
theorem pA(B:List Pc)(hB:∀ q∈B,okS (B.map pOf,q.m,q.ns) q.b=true∧ctS q.b≤1000000)(j k:Nat)(hj:j≤24)(ok:∀ j',j'<j→uv B j')(hk:j≤k)(a:PV)(m:Option Int)(ns:List (List Nat))(l:List PV)(hd:Hd)(ho:HB B l m hd)(pl:am l=true)(ll:l.length+j≤1000):
    ∀ (b:Nds) (left:Int) (x5:Option PV),okS (B.map pOf,m,ns) b=true→ctS b≤1000000→ -1≤left→∃ (left':Int) (y5:Option PV),(-1≤left'∧left'≤max left (-1)∧(0≤left'→∃ r,cX B (j+1) b hd=some r∧(r.1:Int)+left'≤left))∧
       bg (gNm 5) (bU (F k) (L k)) (nds b) (cE a B l j x5) [lft left]= .nx (cE a B l j y5) [lft left']
  | .nil,left,x5,_,_,hl=>⟨left,x5,⟨hl,by omega,fun _=>⟨_,rfl,by show (0:Int)+_≤_;omega⟩⟩,by rw [nds,bg]⟩
  | .cons n r,left,x5,us,ct,hl=>by
    rw [okS,Bool.and_eq_true] at us;rw [ctS] at ct
    obtain ⟨l1,g1,g2⟩:=zA B hB j k hj ok hk a m ns l hd left n us.1 (by omega) ho pl ll hl
    obtain ⟨l2,y5,g3,g4⟩:=pA B hB j k hj ok hk a m ns l hd ho pl ll r l1 (some (nd n)) us.2 (by omega) g1.1
    have one:0≤l2→∃ r',cX B (j+1) (.cons n r) hd=some r'∧(r'.1:Int)+l2≤left:=by
      intro z
      obtain ⟨r2,h2,h3⟩:=g3.2.2 z
      obtain ⟨r1,h1,h4⟩:=g1.2.2 (by have:=g3.2.1;omega)
      have e2:cR (cN1 B (cX B j) hd) r=some r2:=h2
      show ∃ r',cR (cN1 B (cX B j) hd) (.cons n r)=some r'∧_
      rw [cR,h1,e2];exact ⟨_,rfl,by show ((r1.1+r2.1:Nat):Int)+_≤_;omega⟩
    refine ⟨l2,y5,⟨g3.1,by have:=g3.2.1;have:=g1.2.1;omega,one⟩,?_⟩
    rw [nds]
    exact Eq.trans (cO rfl g2) g4
theorem AZ(B:List Pc)(hB:∀ q∈B,okS (B.map pOf,q.m,q.ns) q.b=true∧ctS q.b≤1000000):∀ j,j≤24→uv B j:=by
 intro j
 induction j using Nat.strongRecOn with
 | ind j ih=>
  intro hj b m ns l hd left k us ct ho pl ll hl hk
  obtain ⟨k',rfl⟩:∃ k',k=k'+1:=⟨k - 1,by omega⟩
  obtain ⟨l',y5,g1,g2⟩:=pA B hB j k' hj (fun j' h=>ih j' h (by omega)) (by omega) (.tup (nds b)) m ns l hd ho pl ll b left none us ct hl
  refine ⟨l',g1,?_⟩
  have r2:L (k'+1) .l_come [.tup (nds b),pd B,.lst l,.int (25 - (j:Int)),.ref 0] [lft left]=mq (bg (gNm 5) (bU (F k') (L k')) (nds b) (cE (.tup (nds b)) B l j none) [lft left]):=rfl
  rw [r2,g2];rfl
theorem tY{ks:List Kd}(hk:kOl ks)(hl:ks.length=9)(i:Int)(h0:0≤i)(h1:i<9):∃ k,kGd k∧∀ h,pIx (kdl ks) (.int i) h= .ok (kd k) h:=by
 have hi:i.toNat<ks.length:=by omega
 refine ⟨ks[i.toNat],hk _ (List.getElem_mem hi),fun h=>?_⟩
 unfold kdl
 rw [nX,eG (v:=kd ks[i.toNat]) h0 (by rw [List.getElem?_map,List.getElem?_eq_getElem hi];rfl)]
 show Res.ok (aq h (kd _)) h=_
 rw [hM]
def ndL:Nds→List Nd
 | .nil=> []
 | .cons n r=>n::ndL r
theorem va:∀ l:List Nd,ndL (ndl l)=l
 | []=>rfl
 | n::r=>by rw [ndl,ndL,va r]
theorem uY:∀ b:Nds,nds b=(ndL b).map nd
 | .nil=>by rw [nds];rfl
 | .cons n r=>by rw [nds,uY r];rfl
theorem vF:∀ b:Nds,ctL (ndL b)=ctS b
 | .nil=>by rw [ctS];rfl
 | .cons n r=>by rw [ndL,ctS,← vF r];unfold ctL;rw [List.map_cons,List.sum_cons]
theorem vb(X:Cx):∀ b:Nds,wS b=true→okS X b=true→∀ n∈ndL b,wN n=true∧okN X n=true∧dN n≤dS b
 | .nil,_,_,n,h=>by cases h
 | .cons a r,w,o,n,h=>by
  rw [wS,Bool.and_eq_true] at w;rw [okS,Bool.and_eq_true] at o;rw [dS]
  rcases List.mem_cons.mp h with q | q
  ·subst q;exact ⟨w.1,o.1,Nat.le_max_left _ _⟩
  ·obtain ⟨a1,a2,a3⟩:=vb X r w.2 o.2 n q
   exact ⟨a1,a2,Nat.le_trans a3 (Nat.le_max_right _ _)⟩
structure GI(ms:List (List Nat))(k:Nat)(B:List Pc)(P:List Pk):Prop where
 lB:B.length=k
 nm:P.map peK=B.map pOf
 p:∀ p∈P,sg p.n=true∧p.o.length≤4∧kOl p.o∧hOl p.h
 g:∀ q∈B,wC q=true∧dS q.b≤3∧ctS q.b≤2100∧q.ns.length≤4∧tlL (ndL q.b)≤17
 o:∀ q∈B,okS (B.map pOf,q.m,q.ns) q.b=true
 n:B.map (·.n)=(ms.drop 8).take k
abbrev kE(cs:List Int)(ms:List (List Nat))(td od:Bool)(f:Int)(ks:List Kd)(x8 x9 x10 x11 x12 x13 x14 x15 x16:Option PV):Ev:= [some (cv cs),some (.ref 0),some (mnu ms),some (.bl td),some (.bl od),some (.int f),some (kdl ks),some (.ref 1),x8,x9,x10,x11,x12,x13,x14,x15,x16,none]
def bQ(cs:List Int)(ms:List (List Nat))(td od:Bool)(f:Int)(ks:List Kd)(k:Nat)(n:Int)(r:SR):Prop:=∃ (n' m':Int) (B:List Pc) (P:List Pk) (s:Scp) (x9 x10 x11 x12 x14 x15 x16:Option PV),GI ms (k+1) B P∧sOk s∧(∀ E q,B=E++ [q]→q.ns=s.map (·.1)∧(k=(f % 4).toNat→q.m=none))∧n≤n'∧n'≤n+5000∧r= .nx (kE cs ms td od f ks (some (.lst (P.map pkP))) x9 x10 x11 x12 (some (scv s)) x14 x15 x16) [spt n' m',.lst (B.map pc)]
theorem Cr(K:Nat)(ks:List Kd)(hk:kOl ks)(hl:ks.length=9)(v:Int)(h:List PO):∃ os:List Kd,os.length=(v % 5).toNat∧kOl os∧bZ bF (iB (F K)) [some (kdl ks),some (.int v)] ((List.range (v % 5).toNat).map fun i=>PV.int (0+(i:Nat))) h= .ok (os.map kd) h:=by
 have t5:=bx v (by decide:(0:Int)<5)
 obtain ⟨os,a,b,c⟩:=kh (te:=iB (F K)) (cp:= [some (kdl ks),some (.int v)]) (h:=h) (fun i:Nat=>PV.int (0+(i:Nat))) kd kGd (List.range (v % 5).toNat) fun i hi=>by
  have hi':=List.mem_range.mp hi
  obtain ⟨w,w1,w2⟩:∃ w:Int,atI [PV.int 1,.int 9,.int 81,.int 729] (0+(i:Nat))=some (.int w)∧decide (0<w∧w<1073741824)=true:=by
   rcases (show i=0∨i=1∨i=2∨i=3 by omega) with rfl | rfl | rfl | rfl
   ·exact ⟨1,rfl,rfl⟩
   ·exact ⟨9,rfl,rfl⟩
   ·exact ⟨81,rfl,rfl⟩
   ·exact ⟨729,rfl,rfl⟩
  have t9:=bx (v / 4 / w) (by decide:(0:Int)<9)
  obtain ⟨kk,k1,k2⟩:=tY hk hl (v / 4 / w % 9) t9.1 t9.2
  exact ⟨kk,k1,by simp only [EX,iB,fT,w1,w2,k2]⟩
 exact ⟨os,by rw [a,List.length_range],b,c⟩
theorem CI(K:Nat)(ks:List Kd)(hk:kOl ks)(hl:ks.length=9)(v:Int)(h:List PO):∃ os:List Kd,os.length=(v / 7 % 4).toNat∧kOl os∧bZ bF (iA (F K)) [some (kdl ks),some (.int v)] ((List.range (v / 7 % 4).toNat).map fun i=>PV.int (0+(i:Nat))) h= .ok (os.map kd) h:=by
 have t4:=bx (v / 7) (by decide:(0:Int)<4)
 obtain ⟨os,a,b,c⟩:=kh (te:=iA (F K)) (cp:= [some (kdl ks),some (.int v)]) (h:=h) (fun i:Nat=>PV.int (0+(i:Nat))) kd kGd (List.range (v / 7 % 4).toNat) fun i hi=>by
  have hi':=List.mem_range.mp hi
  obtain ⟨w,w1,w2⟩:∃ w:Int,atI [PV.int 1,.int 9,.int 81] (0+(i:Nat))=some (.int w)∧decide (0<w∧w<1073741824)=true:=by
   rcases (show i=0∨i=1∨i=2 by omega) with rfl | rfl | rfl
   ·exact ⟨1,rfl,rfl⟩
   ·exact ⟨9,rfl,rfl⟩
   ·exact ⟨81,rfl,rfl⟩
  have t9:=bx (v / 11 / w) (by decide:(0:Int)<9)
  obtain ⟨kk,k1,k2⟩:=tY hk hl (v / 11 / w % 9) t9.1 t9.2
  exact ⟨kk,k1,by simp only [EX,iA,fT,w1,w2,k2]⟩
 exact ⟨os,by rw [a,List.length_range],b,c⟩
theorem BS(K:Nat)(ms:List (List Nat))(ml:ms.length=12)(hm:sgs ms=true)(os:List Kd)(ho:kOl os)(v:Int)(h:List PO):∃ s:Scp,s.length=os.length∧sOk s∧bZ bF (gq (F K)) [some (mnu ms),some (kdl os),some (.int v)] ((List.range os.length).map fun i=>PV.int (0+(i:Nat))) h= .ok (s.map sv) h:=by
 obtain ⟨s,a,b,c⟩:=kh (te:=gq (F K)) (cp:= [some (mnu ms),some (kdl os),some (.int v)]) (h:=h) (fun i:Nat=>PV.int (0+(i:Nat))) sv (fun x=>sg x.1=true∧kGd x.2) (List.range os.length) fun i hi=>by
  have hi':=List.mem_range.mp hi
  have t8:=bx (v / 13+(0+(i:Nat))) (by decide:(0:Int)<8)
  obtain ⟨x,x1,x2,_⟩:=iT ml hm ((v / 13+(0+(i:Nat))) % 8) t8.1 (by omega)
  have ix:∀ h,pIx (kdl os) (.int (0+(i:Nat))) h= .ok (kd os[i]) h:=fun h=>by
   unfold kdl
   rw [nX,eG (v:=kd os[i]) (by omega) (by rw [show (0+((i:Nat):Int)).toNat=i by omega,List.getElem?_map,List.getElem?_eq_getElem hi'];rfl)]
   show Res.ok (aq h (kd _)) h=_
   rw [hM]
  exact ⟨(x,os[i]),⟨x1,ho _ (List.getElem_mem hi')⟩,by simp only [EX,gq,dM,fT,x2,ix];rfl⟩
 exact ⟨s,by rw [a,List.length_range],b,c⟩
theorem Co(P:List Pk)(p:Pk)(h:List PO)(hl:P.length≤1000):ay (.lst (P.map pkP)) (.lst [.tup [.str p.n,kdl p.o,hkv p.h]]) h= .ok (.lst ((P++ [p]).map pkP)) h:=by
 rw [bh _ _ h (by rw [List.length_map];simp;omega),List.map_append];rfl
def cnt(o:Option (List Kd)):Option Int:=o.map fun l=>(l.length:Int)
theorem or{α:Type}(l:List α)(k:Nat)(d:α)(h:k<l.length):l.take (k+1)=l.take k++ [l.getD k d]:=by
 rw [List.take_succ,List.getD_eq_getElem?_getD,List.getElem?_eq_getElem h];rfl
theorem pH(K:Nat)(hK:17≤K)(cs:List Int)(hc:cs.length≤63)(ms:List (List Nat))(ml:ms.length=12)(hm:sgs ms=true)(md:ms.Nodup)(td od:Bool)(f:Int)(ks:List Kd)(kl:ks.length=9)(hk:kOl ks)(k:Nat)(k4:k<4)(n m:Int)(h0:0≤n)(h1:n≤1000000)(B:List Pc)(P:List Pk)(I:GI ms k B P)(x10 x11 x12 x13 x14 x15 x16:Option PV):
  bQ cs ms td od f ks k n (ga (F K) (L K) (kE cs ms td od f ks (some (.lst (P.map pkP))) (some (.int (0+(k:Nat)))) x10 x11 x12 x13 x14 x15 x16) [spt n m,.lst (B.map pc)]):=by
 obtain ⟨K',rfl⟩:∃ K',K=K'+2:=⟨K - 2,by omega⟩
 obtain ⟨v,v0,v1,ce⟩:=cZ (K'+1) cs hc n m h0 (by omega) [.lst (B.map pc)]
 have d0:∀ (n m:Int) (o:PO),aq [spt n m,o] (.ref 0)= .ref 0:=fun _ _ _=>rfl
 have d1:∀ (o:PO) (xs:List PV),aq [o,.lst xs] (.ref 1)= .ref 1:=fun _ _=>rfl
 have lP:P.length=k:=by have:=congrArg List.length I.nm;rw [List.length_map,List.length_map,I.lB] at this;exact this
 have t5:=bx v (by decide:(0:Int)<5)
 have t4:=bx (v / 7) (by decide:(0:Int)<4)
 have tf:=bx f (by decide:(0:Int)<4)
 obtain ⟨os,o1,o2,o3⟩:=Cr (K'+2) ks hk kl v [spt (n+1) m,.lst (B.map pc)]
 obtain ⟨hs,s1,s2,s3⟩:=CI (K'+2) ks hk kl v [spt (n+1) m,.lst (B.map pc)]
 have b5:bel 4611686018427387904 (v % 5)=true:=bX.mpr ⟨by omega,by omega⟩
 have b4:bel 4611686018427387904 (v / 7 % 4)=true:=bX.mpr ⟨by omega,by omega⟩
 have l5:((List.range (v % 5).toNat).map fun i=>PV.int (0+(i:Nat))).length<16777216:=by rw [List.length_map,List.length_range];omega
 have l4:((List.range (v / 7 % 4).toNat).map fun i=>PV.int (0+(i:Nat))).length<16777216:=by rw [List.length_map,List.length_range];omega
 unfold ga
 refine bw (kE cs ms td od f ks (some (.lst (P.map pkP))) (some (.int (0+(k:Nat)))) (some (.int v)) x11 x12 x13 x14 x15 x16) [spt (n+1) m,.lst (B.map pc)] (by simp only [EX,bO,d0,ce]) ?_
 refine bw (kE cs ms td od f ks (some (.lst (P.map pkP))) (some (.int (0+(k:Nat)))) (some (.int v)) (some (kdl os)) x12 x13 x14 x15 x16) [spt (n+1) m,.lst (B.map pc)] (by simp only [EX,b5,l5,bW,Option.getD,o3];rfl) ?_
 refine bw (kE cs ms td od f ks (some (.lst (P.map pkP))) (some (.int (0+(k:Nat)))) (some (.int v)) (some (kdl os)) (some (kdl hs)) x13 x14 x15 x16) [spt (n+1) m,.lst (B.map pc)] (by simp only [EX,b4,l4,bW,Option.getD,s3];rfl) ?_
 refine jX (fun o:List Kd=>kE cs ms td od f ks (some (.lst (P.map pkP))) (some (.int (0+(k:Nat)))) (some (.int v)) (some (kdl o)) (some (kdl hs)) x13 x14 x15 x16) (fun _=> [spt (n+1) m,.lst (B.map pc)]) (fun o=>o.length≤4∧kOl o) ?_ fun o ho=>?_
 ·cases q:decide (0+((k:Nat):Int)=f % 4) with
  | false=>exact ⟨os,⟨by omega,o2⟩,by simp only [EX,q]⟩
  | true=>
   obtain ⟨k7,g1,g2⟩:=tY hk kl 7 (by decide) (by decide)
   have sl:∀ h,iH (kdl os) none (some 3) h= .ok (kdl (os.take 3)) h:=fun h=>by
    unfold kdl
    rw [uD,mL,show (3:Int)=((3:Nat):Int) from rfl,zq]
   have ad:∀ h,ay (.lst [kd k7]) (kdl (os.take 3)) h= .ok (kdl (k7::os.take 3)) h:=fun h=>by
    unfold kdl
    rw [bh _ _ h (by rw [List.length_map,List.length_take];simp;omega)];rfl
   refine ⟨k7::os.take 3,⟨by rw [List.length_cons,List.length_take];omega,fun z hz=>?_⟩,by simp only [EX,q,fT,g2,sl,ad]⟩
   rcases List.mem_cons.mp hz with rfl | hz
   ·exact g1
   ·exact o2 z (List.mem_of_mem_take hz)
 refine jX (fun o2:Option (List Kd)=>kE cs ms td od f ks (some (.lst (P.map pkP))) (some (.int (0+(k:Nat)))) (some (.int v)) (some (kdl o)) (some (hkv o2)) x13 x14 x15 x16) (fun _=> [spt (n+1) m,.lst (B.map pc)]) (fun o2=>hOl o2∧(k=(f % 4).toNat→o2=none)) ?_ fun ho2 hh=>?_
 ·cases q:decide (0+((k:Nat):Int)=f % 4) with
  | true=>exact ⟨none,⟨trivial,fun _=>rfl⟩,by simp only [EX,q,hkv]⟩
  | false=>
   have qf:k≠(f % 4).toNat:=fun z=>(of_decide_eq_false q) (by omega)
   cases q2:decide (v / 5 % 2=0) with
   | true=>exact ⟨none,⟨trivial,fun _=>rfl⟩,by simp only [EX,q,q2,hkv]⟩
   | false=>exact ⟨some hs,⟨⟨by omega,s2⟩,fun z=>(qf z).elim⟩,by simp only [EX,q,q2,hkv]⟩
 obtain ⟨s,c1,c2,c3⟩:=BS (K'+2) ms ml hm o ho.2 v [spt (n+1) m,.lst (B.map pc)]
 have kln:∀ h,bv [kdl o] h= .ok (.int o.length) h:=fun h=>by unfold kdl;rw [lR,List.length_map]
 have bo:bel 4611686018427387904 (o.length:Int)=true:=bX.mpr ⟨by omega,by have:=ho.1;omega⟩
 have lo:((List.range (Int.toNat (o.length:Int))).map fun i=>PV.int (0+(i:Nat))).length<16777216:=by rw [List.length_map,List.length_range];have:=ho.1;omega
 have c3':bZ bF (gq (F (K'+2))) [some (mnu ms),some (kdl o),some (.int v)] ((List.range (Int.toNat (o.length:Int))).map fun i=>PV.int (0+(i:Nat))) [spt (n+1) m,.lst (B.map pc)]= .ok (s.map sv) [spt (n+1) m,.lst (B.map pc)]:=by rw [Int.toNat_natCast];exact c3
 let A:Ta:=⟨s,P,ho2,ms,td,od⟩
 have nP:P.map (·.n)=(ms.drop 8).take k:=by
  rw [← I.n]
  have:=congrArg (List.map (·.n)) I.nm
  rw [List.map_map,List.map_map] at this;exact this
 have hA:tOk 4 A:=⟨c2,by show s.length≤4;rw [c1];exact ho.1,by show P.length≤1000;omega,I.p,hh.1,ml,hm,md,by show (P.map (·.n)).Nodup;rw [nP];exact List.Sublist.nodup ((List.take_sublist _ _).trans (List.drop_sublist _ _)) md⟩
 have cx:cxT A=(B.map pOf,cnt ho2,s.map (·.1)):=by show (P.map peK,_,_)=_;rw [I.nm];rfl
 have c3n:cnn 3=4912:=rfl
 have g3n:Gc 3=2070:=rfl
 obtain ⟨l,n1,a1,a2,a3,a4⟩:=ip (yx 3 (Nat.le_refl _)) (K'+2) cs A 4 (n+1) m hc hA (by decide) (by omega) (by rw [c3n];omega) (by omega) [.lst (B.map pc)]
 rw [c3n] at a3
 rw [g3n] at a1
 have a4':callL (L (K'+2) .l_nodes) [cv cs,.ref 0,ta A,.int 3] [spt (n+1) m,.lst (B.map pc)]= .ok (.lst (l.map nd)) [spt n1 m,.lst (B.map pc)]:=a4
 refine bw (kE cs ms td od f ks (some (.lst (P.map pkP))) (some (.int (0+(k:Nat)))) (some (.int v)) (some (kdl o)) (some (hkv ho2)) (some (scv s)) x14 x15 x16) [spt (n+1) m,.lst (B.map pc)] (by simp only [EX,fT,kln,bo,lo,bW,Option.getD,c3'];rfl) ?_
 refine bw (kE cs ms td od f ks (some (.lst (P.map pkP))) (some (.int (0+(k:Nat)))) (some (.int v)) (some (kdl o)) (some (hkv ho2)) (some (scv s)) (some (ta A)) x15 x16) [spt (n+1) m,.lst (B.map pc)] (by
  show kSt 14 _ (lT _ _ _)=_
  have cd:lT [((cK (.str [115,99,111,112,101])),(af 13)),((cK (.str [112,105,101,99,101,115])),(af 8)),((cK (.str [104,97,110,100,101,100])),(af 12)),((cK (.str [110,97,109,101,115])),(af 2)),((cK (.str [116,105,100,121])),(af 3)),((cK (.str [111,100,100])),(af 4))] (kE cs ms td od f ks (some (.lst (P.map pkP))) (some (.int (0+(k:Nat)))) (some (.int v)) (some (kdl o)) (some (hkv ho2)) (some (scv s)) x14 x15 x16) [spt (n+1) m,.lst (B.map pc)]= .ok (ta A) [spt (n+1) m,.lst (B.map pc)]:=by
   cases ho2<;>rfl
  rw [cd];rfl) ?_
 refine bw (kE cs ms td od f ks (some (.lst (P.map pkP))) (some (.int (0+(k:Nat)))) (some (.int v)) (some (kdl o)) (some (hkv ho2)) (some (scv s)) (some (ta A)) (some (.lst (l.map nd))) x16) [spt n1 m,.lst (B.map pc)] (by simp only [EX,bO,d0,bI,a4']) ?_
 refine jX (fun x:List Nd×Int=>kE cs ms td od f ks (some (.lst (P.map pkP))) (some (.int (0+(k:Nat)))) (some (.int v)) (some (kdl o)) (some (hkv ho2)) (some (scv s)) (some (ta A)) (some (.lst (x.1.map nd))) x16) (fun x=> [spt x.2 m,.lst (B.map pc)]) (fun x=>Rw (cxT A) 3 2073 17 x.1∧n1≤x.2∧x.2≤n1+5) ?_ fun x hx=>?_
 ·cases e:ho2 with
  | none=>
   have nn:∀ h,aq h (hkv none)= .non:=fun _=>rfl
   exact ⟨(l,n1),⟨a1.mono (Nat.le_refl _) (by omega) (by omega),Int.le_refl _,by show n1≤n1+5;omega⟩,by simp only [EX,nn]⟩
  | some z=>
   obtain ⟨lb,n3,b1,b2,b3,b4⟩:=lI (K'+2) cs hc A 4 hA (by omega) n1 m (by omega) (by omega) (by omega) [.lst (B.map pc)]
   have nn:fL (hkv (some z))=false:=rfl
   have nt:nd (.text [60])= .tup [.str tT,.str [60]]:=by rw [nd]
   have ll:=dj l
   have lc:=a1.c
   have lb1:=dj lb
   have lb2:=b1.c
   have A1:∀ h,ay (.lst (l.map nd)) (.lst (lb.map nd)) h= .ok (.lst ((l++lb).map nd)) h:=fun h=>by
    rw [bh _ _ h (by rw [List.length_map,List.length_map];omega),List.map_append]
   have A2:∀ h,ay (.lst ((l++lb).map nd)) (.lst [.tup [.str tT,.str [60]]]) h= .ok (.lst ((l++lb++ [Nd.text [60]]).map nd)) h:=fun h=>by
    rw [bh _ _ h (by rw [List.length_map,List.length_append];simp;omega),List.map_append (l₁:=l++lb),List.map_singleton,nt]
   refine ⟨(l++lb++ [.text [60]],n3),⟨(Rw.app (Rw.app a1 (b1.mono (Nat.zero_le 3) (Nat.le_refl _) (Nat.le_refl _))) ((Rw.text (kn:=cxT A) (s:= [60]) (t:=1) (by decide) (Nat.le_refl _) (by omega)).mono (Nat.zero_le 3) (Nat.le_refl _) (Nat.le_refl _))).mono (Nat.le_refl _) (by omega) (by omega),b2,b3⟩,?_⟩
   simp only [EX,qM,nn,bO,d0,bI,b4,A1,A2]
 obtain ⟨l2,n2⟩:=x
 obtain ⟨r1,r2,r3⟩:=hx
 dsimp only at r1 r2 r3 ⊢
 rw [cx] at r1
 obtain ⟨l3,u1,u2⟩:=gZ (K'+1) (by omega:3≤20) (by omega) (by omega) l2 r1
 obtain ⟨w1,w2,w3⟩:=u1.nds
 have i0:∀ (n:Int) (o:PO),pIx (.ref 0) (.int 0) [spt n m,o]= .ok (.int n) [spt n m,o]:=fun _ _=>rfl
 have si:∀ (z:Int) (o:PO) ρ,dG (.int z) (.ref 0) (.int 1) ρ [spt n2 m,o]= .nx ρ [spt n2 z,o]:=fun _ _ _=>rfl
 refine bw (kE cs ms td od f ks (some (.lst (P.map pkP))) (some (.int (0+(k:Nat)))) (some (.int v)) (some (kdl o)) (some (hkv ho2)) (some (scv s)) (some (ta A)) (some (.lst (l2.map nd))) x16) [spt n2 (n2+30),.lst (B.map pc)] (by simp only [EX,d0,i0,si]) ?_
 refine bw (kE cs ms td od f ks (some (.lst (P.map pkP))) (some (.int (0+(k:Nat)))) (some (.int v)) (some (kdl o)) (some (hkv ho2)) (some (scv s)) (some (ta A)) (some (.lst (l2.map nd))) (some (mny (cnt ho2)))) [spt n2 (n2+30),.lst (B.map pc)] (by
  cases ho2 with
  | none=>
   have nn:∀ h,aq h (hkv none)= .non:=fun _=>rfl
   simp only [EX,nn];rfl
  | some z=>
   have nn:fL (hkv (some z))=false:=rfl
   have zl:∀ h,bv [hkv (some z)] h= .ok (.int z.length) h:=fun h=>by show bv [.lst (z.map kd)] h=_;rw [lR,List.length_map]
   simp only [EX,qM,nn,zl];rfl) ?_
 have hi:8+k<ms.length:=by omega
 have e8:(8:Int)+(0+(k:Nat))=((8+k:Nat):Int):=by omega
 let nm:List Nat:=ms.getD (8+k) []
 have nsg:sg nm=true:=List.all_eq_true.mp hm _ (eT hi)
 have ix8:∀ h,pIx (mnu ms) (.int ((8+k:Nat):Int)) h= .ok (.str nm) h:=fun h=>by
  unfold mnu
  rw [nX,eG (v:=PV.str nm) (by omega) (by rw [Int.toNat_natCast,List.getElem?_map];show (ms[8+k]?).map PV.str=some (.str (ms.getD (8+k) []));rw [List.getD_eq_getElem?_getD,List.getElem?_eq_getElem hi];rfl)];rfl
 have sit:∀ h,gC (scv s) h= .ok (s.map sv) h:=fun _=>rfl
 have lsv:(s.map sv).length<16777216:=by rw [List.length_map,c1];have:=ho.1;omega
 have c4:∀ h,bZ bF (jS (F (K'+2))) [] (s.map sv) h= .ok ((s.map (·.1)).map PV.str) h:=fun h=>by
  rw [List.map_map]
  exact lu sv _ s fun x _=>by
   have i0:pIx (sv x) (.int 0) h= .ok (.str x.1) h:=rfl
   have dr:aq h (sv x)=sv x:=rfl
   simp only [EX,jS,dr,i0];rfl
 have tpl:∀ h,cF [.lst ((s.map (·.1)).map PV.str)] h= .ok (nms (s.map (·.1))) h:=fun h=>rfl
 have il:∀ (o:PO) (xs:List PV),bM [o,.lst xs] (.ref 1)=true:=fun _ _=>rfl
 let q:Pc:=⟨nm,s.map (·.1),cnt ho2,ndl l3⟩
 have pq:pc q= .tup [.str tI,.str nm,nms (s.map (·.1)),mny (cnt ho2),.tup (nds (ndl l3))]:=rfl
 have ap:bH (.ref 1) [.tup [.str tI,.str nm,nms (s.map (·.1)),mny (cnt ho2),.tup (nds (ndl l3))]] [spt n2 (n2+30),.lst (B.map pc)]= .ok .non [spt n2 (n2+30),.lst ((B++ [q]).map pc)]:=by
  rw [pP (acc:=B.map pc) rfl _ (by rw [List.length_map,I.lB];omega),List.map_append];rfl
 refine bw (kE cs ms td od f ks (some (.lst (P.map pkP))) (some (.int (0+(k:Nat)))) (some (.int v)) (some (kdl o)) (some (hkv ho2)) (some (scv s)) (some (ta A)) (some (.lst (l2.map nd))) (some (mny (cnt ho2)))) [spt n2 (n2+30),.lst ((B++ [q]).map pc)] (by simp only [EX,d1,il,dM,e8,ix8,jA,sit,lsv,bW,c4,tpl,qG,u2,ap]) ?_
 let p:Pk:=⟨nm,o,ho2⟩
 refine ⟨n2,n2+30,B++ [q],P++ [p],s,some (.int (0+(k:Nat))),some (.int v),some (kdl o),some (hkv ho2),some (ta A),some (.lst (l2.map nd)),some (mny (cnt ho2)),⟨?_,?_,?_,?_,?_,?_⟩,c2,fun E q' e=>?_,by omega,by omega,?_⟩
 ·rw [List.length_append,I.lB];rfl
 ·rw [List.map_append,List.map_append,I.nm]
  show B.map pOf++ [peK p]=B.map pOf++ [pOf q]
  have:peK p=pOf q:=by show Pe.mk nm o.length (cnt ho2)=Pe.mk nm (s.map (·.1)).length (cnt ho2);rw [List.length_map,c1]
  rw [this]
 ·intro z hz
  rcases List.mem_append.mp hz with z1 | z1
  ·exact I.p z z1
  ·cases List.mem_singleton.mp z1;exact ⟨nsg,ho.1,ho.2,hh.1⟩
 ·intro z hz
  rcases List.mem_append.mp hz with z1 | z1
  ·exact I.g z z1
  ·cases List.mem_singleton.mp z1
   refine ⟨?_,w3,by show ctS (ndl l3)≤2100;rw [iD];have:=u1.c;omega,by show (s.map (·.1)).length≤4;rw [List.length_map,c1];exact ho.1,by show tlL (ndL (ndl l3))≤17;rw [va];exact u1.t⟩
   have sn:sgs (s.map (·.1))=true:=List.all_eq_true.mpr fun x hx=>by
    obtain ⟨y,hy,rfl⟩:=List.mem_map.mp hx
    exact (c2 y hy).1
   show (sg nm&&(sgs (s.map (·.1))&&(decide ((s.map (·.1)).length<60)&&(wS (ndl l3)&&decide (dS (ndl l3)≤20)))))=true
   rw [nsg,sn,w1,decide_eq_true (show (s.map (·.1)).length<60 by rw [List.length_map,c1];have:=ho.1;omega),decide_eq_true (show dS (ndl l3)≤20 by omega)];rfl
 ·intro z hz
  rw [List.map_append]
  rcases List.mem_append.mp hz with z1 | z1
  ·exact gD _ _ _ _ _ (I.o z z1)
  ·cases List.mem_singleton.mp z1
   exact gD _ _ _ _ _ w2
 ·rw [List.map_append,I.n,or _ k [] (by rw [List.length_drop];omega)]
  show _++ [nm]=_++ [(ms.drop 8).getD k []]
  have:(ms.drop 8).getD k []=nm:=by show _=ms.getD (8+k) [];rw [List.getD_eq_getElem?_getD,List.getD_eq_getElem?_getD,List.getElem?_drop]
  rw [this]
 ·obtain ⟨_,e2⟩:=List.append_inj' e rfl
  cases e2
  exact ⟨rfl,fun z=>by show cnt ho2=none;rw [hh.2 z];rfl⟩
 ·have pa:=fun h=>Co P p h (by omega)
  simp only [EX,dM,e8,ix8,fT,qM]
  have pa':∀ h,ay (.lst (P.map pkP)) (.lst [.tup [.str nm,kdl o,hkv ho2]]) h= .ok (.lst ((P++ [p]).map pkP)) h:=pa
  simp only [EX,pa']
structure GB(B:List Pc):Prop where
 l1:1≤B.length
 l4:B.length≤4
 g:∀ q∈B,wC q=true∧dS q.b≤3∧ctS q.b≤2100∧q.ns.length≤4
 o:∀ q∈B,okS (B.map pOf,q.m,q.ns) q.b=true
 nd:(B.map (·.n)).Nodup
 lm:∀ E q,B=E++ [q]→q.m=none∧∃ r,cX B 25 q.b .nil=some r∧r.1≤2200
 mm:∀ q∈B,∀ i,q.m=some i→0≤i∧i<1000000
theorem GI.mm{ms:List (List Nat)}{k:Nat}{B:List Pc}{P:List Pk}(I:GI ms k B P):∀ q∈B,∀ i,q.m=some i→0≤i∧i<1000000:=fun q hq i e=>by
 have:pOf q∈P.map peK:=by rw [I.nm];exact List.mem_map_of_mem hq
 obtain ⟨p,hp,e2⟩:=List.mem_map.mp this
 have e3:p.h.map (fun l=>(l.length:Int))=q.m:=congrArg Pe.h e2
 have ho:=(I.p p hp).2.2.2
 cases z:p.h with
 | none=>rw [z] at e3;rw [← e3] at e;cases e
 | some l=>
  rw [z] at e3 ho;rw [← e3] at e;cases e
  have:=ho.1
  dsimp only
  exact ⟨by omega,by omega⟩
theorem pJ(K:Nat)(hK:17≤K)(cs:List Int)(hc:cs.length≤63)(ms:List (List Nat))(ml:ms.length=12)(hm:sgs ms=true)(md:ms.Nodup)(td od:Bool)(f:Int)(ks:List Kd)(kl:ks.length=9)(hk:kOl ks):∀ (r k:Nat) (n m:Int) (B:List Pc) (P:List Pk) (x9 x10 x11 x12 x13 x14 x15 x16:Option PV),(f % 4).toNat=k+r→0≤n→n+5000 * (r+1)≤1000000→GI ms k B P→
  ∃ (n' m':Int) (B':List Pc) (P':List Pk) (s:Scp) (y9 y10 y11 y12 y14 y15 y16:Option PV),GI ms ((f % 4).toNat+1) B' P'∧sOk s∧(∀ E q,B'=E++ [q]→q.ns=s.map (·.1)∧q.m=none)∧n≤n'∧n'≤n+5000 * (r+1)∧
   bg (gNm 9) (ga (F K) (L K)) ((List.range' k (r+1)).map fun i=>PV.int (0+(i:Nat))) (kE cs ms td od f ks (some (.lst (P.map pkP))) x9 x10 x11 x12 x13 x14 x15 x16) [spt n m,.lst (B.map pc)]= .nx (kE cs ms td od f ks (some (.lst (P'.map pkP))) y9 y10 y11 y12 (some (scv s)) y14 y15 y16) [spt n' m',.lst (B'.map pc)]
 | 0,k,n,m,B,P,x9,x10,x11,x12,x13,x14,x15,x16,hf,h0,h1,I=>by
  have tf:=bx f (by decide:(0:Int)<4)
  obtain ⟨n',m',B',P',s,y9,y10,y11,y12,y14,y15,y16,g1,g2,g3,g4,g5,e⟩:=pH K hK cs hc ms ml hm md td od f ks kl hk k (by omega) n m h0 (by omega) B P I x10 x11 x12 x13 x14 x15 x16
  refine ⟨n',m',B',P',s,y9,y10,y11,y12,y14,y15,y16,by rw [hf];exact g1,g2,fun E q z=>⟨(g3 E q z).1,(g3 E q z).2 (by omega)⟩,g4,by omega,?_⟩
  show bg (gNm 9) _ (PV.int (0+(k:Nat)):: []) _ _=_
  rw [cO rfl e,bg]
 | r+1,k,n,m,B,P,x9,x10,x11,x12,x13,x14,x15,x16,hf,h0,h1,I=>by
  have tf:=bx f (by decide:(0:Int)<4)
  obtain ⟨n',m',B',P',s,y9,y10,y11,y12,y14,y15,y16,g1,g2,g3,g4,g5,e⟩:=pH K hK cs hc ms ml hm md td od f ks kl hk k (by omega) n m h0 (by omega) B P I x10 x11 x12 x13 x14 x15 x16
  obtain ⟨n2,m2,B2,P2,s2,z9,z10,z11,z12,z14,z15,z16,k1,k2,k3,k4,k5,e2⟩:=pJ K hK cs hc ms ml hm md td od f ks kl hk r (k+1) n' m' B' P' y9 y10 y11 y12 (some (scv s)) y14 y15 y16 (by omega) (by omega) (by omega) g1
  refine ⟨n2,m2,B2,P2,s2,z9,z10,z11,z12,z14,z15,z16,k1,k2,k3,by omega,by omega,?_⟩
  show bg (gNm 9) _ (PV.int (0+(k:Nat))::((List.range' (k+1) (r+1)).map fun i=>PV.int (0+(i:Nat)))) _ _=_
  rw [cO rfl e]
  exact e2
theorem yF:∀ (B a:List Pc),((a++B).map (·.n)).Nodup→(B.map bdp).foldl (fun acc kv=>jB acc kv.1 kv.2) (a.map bdp)=(a++B).map bdp
 | [],a,_=>by simp
 | q::r,a,h=>by
  rw [List.map_cons,List.foldl_cons]
  have ne:(a.map bdp).any (fun kv=>decide (kv.1=(bdp q).1))=false:=by
   rw [List.any_eq_false]
   intro x hx z
   obtain ⟨y,hy,rfl⟩:=List.mem_map.mp hx
   have e:y.n=q.n:=by have:=of_decide_eq_true z;injection this
   rw [List.map_append,List.map_cons,List.nodup_append] at h
   exact h.2.2 y.n (List.mem_map_of_mem hy) q.n List.mem_cons_self e
  have pp:jB (a.map bdp) (bdp q).1 (bdp q).2=(a++ [q]).map bdp:=by unfold jB;rw [ne,if_neg (by decide),List.map_append];rfl
  rw [pp,yF r (a++ [q]) (by rw [List.append_assoc];exact h),List.append_assoc];rfl
theorem uP:∀ B:List Pc,jt (B.map fun q=>.tup [.str q.n,.tup (nds q.b)])=some (B.map bdp)
 | []=>rfl
 | q::r=>by
  have ih:=uP r
  show (match kj (.str q.n),jt (r.map fun q=>.tup [.str q.n,.tup (nds q.b)]) with | some kk,some l=>some ((kk,PV.tup (nds q.b))::l) | _,_=>none)=_
  rw [ih];rfl
theorem Bp(B:List Pc)(X:Cx):∀ l:List Nd,(∀ n∈l,okN X n=true∧decide (kT n∈ [tT,tP])=true)→cX B 25 (ndl l) .nil=some (l.length,if l.isEmpty then 0 else 1)
 | [],_=>rfl
 | n::r,h=>by
  have ih:=Bp B X r fun z hz=>h z (List.mem_cons_of_mem _ hz)
  have one:cN1 B (cX B 24) .nil n=some (1,1):=by
   obtain ⟨_,k⟩:=h n List.mem_cons_self
   cases n with
   | text s=>rfl
   | place p s=>rfl
   | loop x p b s=>exact absurd (show decide (tL∈ [tT,tP])=true from k) (by decide)
   | choice p y z=>exact absurd (show decide (tC∈ [tT,tP])=true from k) (by decide)
   | use x ps=>exact absurd (show decide (tU∈ [tT,tP])=true from k) (by decide)
   | usew x ps hs b=>exact absurd (show decide (tU∈ [tT,tP])=true from k) (by decide)
   | body ps=>exact absurd (show decide (tB∈ [tT,tP])=true from k) (by decide)
  have ih':cR (cN1 B (cX B 24) .nil) (ndl r)=some (r.length,if r.isEmpty then 0 else 1):=ih
  show cR (cN1 B (cX B 24) .nil) (ndl (n::r))=_
  rw [ndl,cR,one,ih']
  show some (1+r.length,max 1 (if r.isEmpty=true then 0 else 1))=some (r.length+1,_)
  have:max 1 (if r.isEmpty=true then 0 else 1)=1:=by cases r<;>rfl
  rw [this,Nat.add_comm];rfl
theorem xw{α:Type}(E:List α)(q q':α):(E++ [q]).set E.length q'=E++ [q']:=by
 rw [List.set_append_right _ _ (Nat.le_refl _),Nat.sub_self];rfl
theorem vO(K:Nat)(hK:26≤K)(cs:List Int)(hc:cs.length≤63)(ms:List (List Nat))(ml:ms.length=12)(hm:sgs ms=true)(md:ms.Nodup)(td od:Bool)(n m:Int)(h0:0≤n)(h1:n≤900000):
  ∃ (B:List Pc) (s:Scp) (n' m':Int),GB B∧sOk s∧(∀ E q,B=E++ [q]→q.ns=s.map (·.1))∧n≤n'∧n'≤n+20001∧L (K+1) .l_book [cv cs,.ref 0,mnu ms,.bl td,.bl od] [spt n m]= .ok (.tup [bk B,scv s]) [spt n' m']:=by
 obtain ⟨K',rfl⟩:∃ K',K=K'+1:=⟨K - 1,by omega⟩
 obtain ⟨f,f0,f1,ce⟩:=cZ K' cs hc n m h0 (by omega) []
 obtain ⟨ks,k1,k2,k3⟩:=yN K' ms ml hm (f / 3)
 have ck:∀ h,dv (F (K'+1) .l_kinds) [mnu ms,.int (f / 3)] h= .ok (kdl ks) h:=fun h=>cH h (by rw [am,am,gf];rfl) k3
 have tf:=bx f (by decide:(0:Int)<4)
 have I0:GI ms 0 [] []:=⟨rfl,rfl,fun p h=>(by cases h),fun p h=>(by cases h),fun p h=>(by cases h),rfl⟩
 obtain ⟨n1,m1,B,P,s,y9,y10,y11,y12,y14,y15,y16,I,g2,g3,g4,g5,lp⟩:=pJ (K'+1) (by omega) cs hc ms ml hm md td od f ks k1 k2 (f % 4).toNat 0 (n+1) m [] [] none none none none none none none none (by omega) (by omega) (by omega) I0
 have rg:(List.range (1+f % 4).toNat).map (fun i=>PV.int (0+(i:Nat)))=(List.range' 0 ((f % 4).toNat+1)).map fun i=>PV.int (0+(i:Nat)):=by
  rw [show (1+f % 4).toNat=(f % 4).toNat+1 by omega,List.range_eq_range']
 have bf:bel 4611686018427387904 (1+f % 4)=true:=bX.mpr ⟨by omega,by omega⟩
 have lB:=I.lB
 have Bn:(B.map (·.n)).Nodup:=by rw [I.n];exact List.Sublist.nodup ((List.take_sublist _ _).trans (List.drop_sublist _ _)) md
 obtain ⟨E,q,eB⟩:∃ E q,B=E++ [q]:=by
  rcases List.eq_nil_or_concat B with rfl | ⟨E,q,rfl⟩
  ·simp at lB
  ·exact ⟨E,q,List.concat_eq_append⟩
 have qB:q∈B:=by rw [eB];simp
 obtain ⟨q1,q2⟩:=g3 E q eB
 have d0:∀ (n m:Int) (r:List PO),aq (spt n m::r) (.ref 0)= .ref 0:=fun _ _ _=>rfl
 have lm1:eM [] [spt (n+1) m]= .ok (.ref 1) [spt (n+1) m,.lst []]:=rfl
 have lp':bg (gNm 9) (ga (F (K'+1)) (L (K'+1))) ((List.range' 0 ((f % 4).toNat+1)).map fun i=>PV.int (0+(i:Nat))) [some (cv cs),some (.ref 0),some (mnu ms),some (.bl td),some (.bl od),some (.int f),some (kdl ks),some (.ref 1),some (.lst []),none,none,none,none,none,none,none,none,none] [spt (n+1) m,.lst []]= .nx (kE cs ms td od f ks (some (.lst (P.map pkP))) y9 y10 y11 y12 (some (scv s)) y14 y15 y16) [spt n1 m1,.lst (B.map pc)]:=lp
 have hB:∀ q∈B,okS (B.map pOf,q.m,q.ns) q.b=true∧ctS q.b≤1000000:=fun z hz=>⟨I.o z hz,by have:=(I.g z hz).2.2.1;omega⟩
 obtain ⟨lf,cx1,cx2⟩:=AZ B hB 24 (Nat.le_refl _) q.b q.m q.ns [] .nil 400 (K'+1) (I.o q qB) (by have:=(I.g q qB).2.2.1;omega) (by rw [q2];exact .no _) rfl (by decide) (by omega) (by omega)
 have cc:=fun r=>eP (fn:=L (K'+1) .l_come) [.tup (nds q.b),pd B,.lst [],.int 1] [] (h:=spt n1 m1::.froz (.lst (B.map pc))::lft 400::r) (i:=2) (by simp [am,qu,PV.pure,du]) rfl rfl (ki _) cx2 rfl (ki _)
 have l6:(B.map pc).length<16777216:=by rw [List.length_map,lB];omega
 have cm6:∀ h,bZ bF (gn (F (K'+1))) [] (B.map pc) h= .ok (B.map fun q=>PV.tup [.str q.n,.tup (nds q.b)]) h:=fun h=>lu pc _ B fun x _=>by
  simp only [EX,gn]
 have dP:∀ h,iR [.lst (B.map fun q=>PV.tup [.str q.n,.tup (nds q.b)])] h= .ok (.ref h.length) (h++ [.dct (B.map bdp)]):=fun h=>by
  show (match jt (B.map fun q=>PV.tup [.str q.n,.tup (nds q.b)]) with | some l=>Res.ok (PV.ref h.length) (h++ [PO.dct (mkD l)]) | none=>.bad)=_
  rw [uP];dsimp only
  have:mkD (B.map bdp)=B.map bdp:=yF B [] (by simpa using Bn)
  rw [this]
 have pp:=qu B
 have pp':cW (B.map bdp)=true:=by unfold pd at pp;rw [PV.pure] at pp;exact pp
 have fz3:∀ a b c,fzR (.ref 3) [a,b,c,.dct (B.map bdp)]= .ok (pd B) [a,b,c,.froz (pd B)]:=fun a b c=>by
  show (match (if cW (B.map bdp)=true then some (PV.dct (B.map bdp),[a,b,c,PO.froz (.dct (B.map bdp))]) else none) with | some (q,h2)=>Res.ok q h2 | none=>.bad)=_
  rw [if_pos pp'];rfl
 have ixl:∀ h,pIx (.lst (B.map pc)) (.int (-1)) h= .ok (pc q) h:=fun h=>by
  rw [nX,eB,List.map_append,List.map_singleton,mR];rfl
 have cqv:cQ 7 (aM (L (K'+1) .l_come) (ab (c2 pIx (c2 pIx (af 7) (c1 jE (cK (.int 1)))) (cK (.int 4))) (ab (cFz (cN iR (ab (cN okL (cS [] (gx (af 7)) bF (gn (F (K'+1))))) aj))) (ab (cN br aj) (ab (cK (.int 1)) (ab (af 17) aj)))))) [some (cv cs),some (.ref 0),some (mnu ms),some (.bl td),some (.bl od),some (.int f),some (kdl ks),some (.ref 1),some (.lst (P.map pkP)),y9,y10,y11,y12,some (scv s),y14,y15,y16,some (.ref 2)] [spt n1 m1,.lst (B.map pc),lft 400]= .ok .non [spt n1 m1,.lst (B.map pc),lft lf]:=by
  have run:aM (L (K'+1) .l_come) (ab (c2 pIx (c2 pIx (af 7) (c1 jE (cK (.int 1)))) (cK (.int 4))) (ab (cFz (cN iR (ab (cN okL (cS [] (gx (af 7)) bF (gn (F (K'+1))))) aj))) (ab (cN br aj) (ab (cK (.int 1)) (ab (af 17) aj))))) [some (cv cs),some (.ref 0),some (mnu ms),some (.bl td),some (.bl od),some (.int f),some (kdl ks),some (.ref 1),some (.lst (P.map pkP)),y9,y10,y11,y12,some (scv s),y14,y15,y16,some (.ref 2)] [spt n1 m1,.froz (.lst (B.map pc)),lft 400]= .ok .non [spt n1 m1,.froz (.lst (B.map pc)),lft lf,.froz (pd B)]:=by
   have dz:∀ (o o2:PO) (xs:List PV) r,aq (o::.froz (.lst xs)::o2::r) (.ref 1)= .lst xs:=fun _ _ _ _=>rfl
   have dl:∀ (o o2:PO) (x:Int) r,aq (o::o2::lft x::r) (.ref 2)= .ref 2:=fun _ _ _ _=>rfl
   have cc':callL (L (K'+1) .l_come) [.tup (nds q.b),pd B,.lst [],.int 1,.ref 2] [spt n1 m1,.froz (.lst (B.map pc)),lft 400,.froz (pd B)]= .ok .non [spt n1 m1,.froz (.lst (B.map pc)),lft lf,.froz (pd B)]:=cc [.froz (pd B)]
   simp only [EX,dz,dl,ixl,l6,bW,cm6,dP,fz3,cc']
  have pu:=kc B
  unfold cQ
  show (match (if am (B.map pc)=true then (match aM (L (K'+1) .l_come) _ _ [spt n1 m1,.froz (.lst (B.map pc)),lft 400] with | .ok .non h2=>if ((List.range 3).all fun k=>k==1||match h2[k]? with | some o=>vo o | none=>false)=true then Res.ok PV.non ((h2.take 3).set 1 (.lst (B.map pc))) else .bad | _=>.bad) else .bad) with | r=>r)=_
  rw [if_pos pu,run];rfl
 have r2:∀ x,gw (F (K'+1)) (L (K'+1)) [some (cv cs),some (.ref 0),some (mnu ms),some (.bl td),some (.bl od),none,none,none,none,none,none,none,none,none,none,none,none,none] [spt n m]=x→L (K'+1+1) .l_book [cv cs,.ref 0,mnu ms,.bl td,.bl od] [spt n m]=mq x:=fun x e=>by subst e;rfl
 have lm2:eM [.int 400] [spt n1 m1,.lst (B.map pc)]= .ok (.ref 2) [spt n1 m1,.lst (B.map pc),lft 400]:=rfl
 have i2:∀ (o o2:PO) (x:Int),pIx (.ref 2) (.int 0) [o,o2,lft x]= .ok (.int x) [o,o2,lft x]:=fun _ _ _=>rfl
 have d2:∀ (o o2:PO) (x:Int),aq [o,o2,lft x] (.ref 2)= .ref 2:=fun _ _ _=>rfl
 have d1:∀ (o o2:PO) (xs:List PV),aq [o,.lst xs,o2] (.ref 1)= .ref 1:=fun _ _ _=>rfl
 have tp:∀ (o o2:PO) (xs:List PV),cF [.ref 1] [o,.lst xs,o2]= .ok (.tup xs) [o,.lst xs,o2]:=fun _ _ _=>rfl
 have ixl1:∀ (o o2:PO),pIx (.ref 1) (.int (-1)) [o,.lst (B.map pc),o2]= .ok (pc q) [o,.lst (B.map pc),o2]:=fun o o2=>by
  show (match atI (B.map pc) (-1) with | some v=>Res.ok (aq _ v) _ | none=>.bad)=_
  rw [eB,List.map_append,List.map_singleton,mR];rfl
 have fin:∀ (B':List Pc) (x:Int),mq (.rt (.tup [.tup (B'.map pc),scv s]) [spt n1 m1,.lst (B'.map pc),lft x])= .ok (.tup [bk B',scv s]) [spt n1 m1]:=fun B' x=>by
  have pv:(PV.tup [.tup (B'.map pc),scv s]).pure=true:=by rw [PV.pure,am,am,PV.pure,kc,fF];rfl
  show iu 1 _ _=_
  unfold iu;rw [iZ _ pv];rfl
 have wq:=(I.g q qB).1
 unfold wC at wq
 simp only [Bool.and_eq_true,decide_eq_true_eq] at wq
 obtain ⟨wq1,wq2,wq3,wq4,wq5⟩:=wq
 have g20:=I.g q qB
 by_cases neg:lf<0
 ·have z1:decide (lf<0)=true:=decide_eq_true neg
  have all:=vb (B.map pOf,q.m,q.ns) q.b wq4 (I.o q qB)
  have flt:∀ h,bZ (jy (F (K'+1))) (jR (F (K'+1))) [] (nds q.b) h= .ok (((ndL q.b).filter fun x=>decide (kT x∈ [tT,tP])).map nd) h:=fun h=>by
   rw [uY]
   refine qR nd (fun x=>decide (kT x∈ [tT,tP])) nd (ndL q.b) (fun x _=>?_) fun x _=>?_
   ·have it:=CH (ls:= [tT,tP]) (lJ (yP x)) (by decide) h
    simp only [List.map_cons,List.map_nil] at it
    simp only [EX,jy,it]
   ·simp only [EX,jR]
  have R0:Rw (B.map pOf,q.m,q.ns) (dS q.b) (ctS q.b) 17 (ndL q.b):=⟨all,by rw [vF];exact Nat.le_refl _,g20.2.2.2.2⟩
  have R1:=R0.filter fun x=>decide (kT x∈ [tT,tP])
  have R2:Rw ([],none,q.ns) 0 (ctS q.b) 17 ((ndL q.b).filter fun x=>decide (kT x∈ [tT,tP])):=⟨fun x hx=>by
   obtain ⟨a,b⟩:=List.mem_filter.mp hx
   obtain ⟨a1,a2,a3⟩:=all x a
   cases x with
   | text s=>exact ⟨a1,rfl,Nat.le_refl _⟩
   | place p s=>exact ⟨a1,by rw [okN] at a2 ⊢;exact a2,Nat.le_refl _⟩
   | loop x p b' s=>exact absurd (show decide (tL∈ [tT,tP])=true from b) (by decide)
   | choice p y z=>exact absurd (show decide (tC∈ [tT,tP])=true from b) (by decide)
   | use x ps=>exact absurd (show decide (tU∈ [tT,tP])=true from b) (by decide)
   | usew x ps hs b'=>exact absurd (show decide (tU∈ [tT,tP])=true from b) (by decide)
   | body ps=>exact absurd (show decide (tB∈ [tT,tP])=true from b) (by decide),R1.c,R1.t⟩
  obtain ⟨l',u1,u2⟩:=gZ K' (by omega:0≤20) (by have:=g20.2.2.1;omega) (by omega) _ R2
  obtain ⟨w1,w2,w3⟩:=u1.nds
  let q':Pc:=⟨q.n,q.ns,q.m,ndl l'⟩
  have lnd:(nds q.b).length<16777216:=by have:=mF q.b;have:=g20.2.2.1;omega
  have sl4:∀ h,iH (pc q) none (some 4) h= .ok (.tup [.str tI,.str q.n,nms q.ns,mny q.m]) h:=fun h=>by
   unfold pc;rw [show (4:Int)=((4:Nat):Int) from rfl,BP];rfl
  have ad5:∀ h,ay (.tup [.str tI,.str q.n,nms q.ns,mny q.m]) (.tup [.tup (nds (ndl l'))]) h= .ok (pc q') h:=fun h=>oA _ _ h (show 4+1≤sizeLine by decide)
  have si:∀ (o o2:PO) ρ,dG (pc q') (.ref 1) (.int (-1)) ρ [o,.lst (B.map pc),o2]= .nx ρ [o,.lst ((E++ [q']).map pc),o2]:=fun o o2 ρ=>by
   have e2:fK [o,.lst (B.map pc),o2] (.ref 1)=some (1,B.map pc):=rfl
   have e3:ixN (B.map pc).length (-1)=some E.length:=by
    unfold ixN
    rw [if_neg (by decide),List.length_map,eB,List.length_append,List.length_singleton,if_pos (by omega)]
    congr 1;omega
   unfold dG
   rw [e2];dsimp only
   rw [e3];dsimp only
   rw [eB,List.map_append,List.map_singleton,show E.length=(E.map pc).length by rw [List.length_map],xw,List.map_append];rfl
  have pe:(E++ [q']).map pOf=B.map pOf:=by rw [eB,List.map_append,List.map_append];rfl
  have cl:∀ x∈l',okN ([],none,q.ns) x=true∧decide (kT x∈ [tT,tP])=true:=fun x hx=>by
   obtain ⟨a1,a2,a3⟩:=u1.w x hx
   refine ⟨a2,?_⟩
   cases x with
   | text s=>rfl
   | place p s=>rfl
   | loop x p b' s=>rw [dN] at a3;omega
   | choice p y z=>rw [dN] at a3;omega
   | usew x ps hs b'=>rw [dN] at a3;omega
   | use x ps=>rw [okN,Bool.and_eq_true] at a2;cases a2.2
   | body ps=>rw [okN,Bool.and_eq_true] at a2;cases a2.2
  refine ⟨E++ [q'],s,n1,m1,⟨by simp,?_,?_,?_,?_,?_,?_⟩,g2,fun E' z e=>?_,by omega,by omega,?_⟩
  ·have:=lB;rw [eB] at this;rw [List.length_append] at this ⊢;simp only [List.length_singleton] at this ⊢;omega
  ·intro z hz
   rcases List.mem_append.mp hz with h | h
   ·have:=I.g z (by rw [eB];exact List.mem_append_left _ h);exact ⟨this.1,this.2.1,this.2.2.1,this.2.2.2.1⟩
   ·cases List.mem_singleton.mp h
    refine ⟨?_,by show dS (ndl l')≤3;omega,by show ctS (ndl l')≤2100;rw [iD];have:=u1.c;have:=g20.2.2.1;omega,g20.2.2.2.1⟩
    show (sg q.n&&(sgs q.ns&&(decide (q.ns.length<60)&&(wS (ndl l')&&decide (dS (ndl l')≤20)))))=true
    rw [wq1,wq2,w1,decide_eq_true wq3,decide_eq_true (show dS (ndl l')≤20 by omega)];rfl
  ·intro z hz
   rw [pe]
   rcases List.mem_append.mp hz with h | h
   ·exact I.o z (by rw [eB];exact List.mem_append_left _ h)
   ·cases List.mem_singleton.mp h
    show okS (B.map pOf,q.m,q.ns) (ndl l')=true
    rw [q2]
    exact gD [] (B.map pOf) none q.ns _ w2
  ·have:=Bn;rw [eB] at this;rw [List.map_append] at this ⊢;exact this
  ·intro E' z e
   obtain ⟨_,e2⟩:=List.append_inj' e rfl
   cases e2
   refine ⟨q2,_,Bp (E++ [q']) ([],none,q.ns) l' cl,?_⟩
   have a:=dj l'
   have b:=u1.c
   have c:=g20.2.2.1
   show l'.length≤2200;omega
  ·intro z hz
   rcases List.mem_append.mp hz with h | h
   ·exact I.mm z (by rw [eB];exact List.mem_append_left _ h)
   ·cases List.mem_singleton.mp h;exact I.mm q qB
  ·obtain ⟨_,e2⟩:=List.append_inj' e rfl
   cases e2
   exact q1
  ·rw [r2 _ rfl]
   rw [show mq (gw (F (K'+1)) (L (K'+1)) [some (cv cs),some (.ref 0),some (mnu ms),some (.bl td),some (.bl od),none,none,none,none,none,none,none,none,none,none,none,none,none] [spt n m])=mq (.rt (.tup [.tup ((E++ [q']).map pc),scv s]) [spt n1 m1,.lst ((E++ [q']).map pc),lft lf]) from congrArg mq (by simp only [EX,gw,bO,d0,ce,dM,ck,lm1,bf,rg,lp',kE,lm2,cqv,d1,d2,i2,z1,ixl1,sl4,lnd,bW,flt,u2,ad5,si,tp,jA])]
   exact fin _ _
 ·have z1:decide (lf<0)=false:=decide_eq_false neg
  refine ⟨B,s,n1,m1,⟨by omega,by omega,fun z hz=>by have:=I.g z hz;exact ⟨this.1,this.2.1,this.2.2.1,this.2.2.2.1⟩,I.o,Bn,fun E' z e=>?_,I.mm⟩,g2,fun E' z e=>(g3 E' z e).1,by omega,by omega,?_⟩
  ·rw [eB] at e
   obtain ⟨_,e2⟩:=List.append_inj' e rfl
   cases e2
   obtain ⟨r,r1,r3⟩:=cx1.2.2 (by omega)
   exact ⟨q2,r,r1,by omega⟩
  ·rw [r2 _ rfl]
   rw [show mq (gw (F (K'+1)) (L (K'+1)) [some (cv cs),some (.ref 0),some (mnu ms),some (.bl td),some (.bl od),none,none,none,none,none,none,none,none,none,none,none,none,none] [spt n m])=mq (.rt (.tup [.tup (B.map pc),scv s]) [spt n1 m1,.lst (B.map pc),lft lf]) from congrArg mq (by simp only [EX,gw,bO,d0,ce,dM,ck,lm1,bf,rg,lp',kE,lm2,cqv,d1,d2,i2,z1,tp,jA])]
   exact fin _ _
abbrev uN:List Nat:= [108,111,97,100]
abbrev qt:List Nat:= [102,105,101,108,100]
abbrev Cn:List Nat:= [119,114,105,116,101]
abbrev xZ:List Nat:= [112,117,116]
abbrev nj:List Nat:= [119,97,108,107]
abbrev nk:List Nat:= [114,111,117,110,100]
abbrev nr:List Nat:= [97,103,97,105,110]
abbrev gW:List Nat:= [117,110,108,101,115,115]
abbrev Af:List Nat:= [115,107,105,112]
abbrev eW:List Nat:= [98,97,99,107]
def kL(ns:List (List Nat))(x:List Nat):Nat:=ns.length - 1 - ns.reverse.idxOf x
theorem uB{ns A C:List (List Nat)}{x:List Nat}(e:ns=A++x::C)(h:x∉C):kL ns x=A.length:=by
 unfold kL
 rw [e,List.reverse_append,List.reverse_cons,List.append_assoc,List.idxOf_append,if_neg (by simpa using h)]
 have:([x]++A.reverse).idxOf x=0:=by simp
 rw [this,List.length_append,List.length_cons,List.length_reverse];omega
theorem uC{ns:List (List Nat)}{x:List Nat}(h:x∈ns):∃ A C,ns=A++x::C∧x∉C:=by
 have h':x∈ns.reverse:=by simpa using h
 obtain ⟨A,C,e,n⟩:=List.eq_append_cons_of_mem h'
 refine ⟨C.reverse,A.reverse,?_,by simpa using n⟩
 have:=congrArg List.reverse e
 rw [List.reverse_reverse] at this
 rw [this];simp
theorem yy{ns:List (List Nat)}{i:Nat}{x:List Nat}(e:ns[i]? =some x)(h:List PO):pIx (nms ns) (.int i) h= .ok (.str x) h:=by
 unfold nms
 rw [DW,eG (v:=PV.str x) (by omega) (by rw [Int.toNat_natCast,List.getElem?_map,e];rfl),yQ];rfl
theorem AC{ns:List (List Nat)}{i:Nat}{x:List Nat}(e:ns[i]? =some x)(h:List PO):pIx (mnu ns) (.int i) h= .ok (.str x) h:=by
 unfold mnu
 rw [DX,eG (v:=PV.str x) (by omega) (by rw [Int.toNat_natCast,List.getElem?_map,e];rfl),yQ];rfl
theorem Bm{a b:List Nat}(ha:sg a=true)(hb:sg b=true)(h:List PO):pNe (.str a) (.str b) h= .ok (.bl (!decide (a=b))) h:=by
 rw [yl a b h (lJ ha) (lJ hb)]
theorem oN(k:Nat)(ns A C:List (List Nat))(x:List Nat)(hn:sgs ns=true)(hx:sg x=true)(e:ns=A++x::C)(h:x∉C):∀ j:Nat,j≤C.length→ew (aJ (c2 pNe (c2 pIx (af 1) (af 2)) (af 0))) (fP (F k)) [some (.str x),some (nms ns),some (.int ((A.length+j:Nat):Int))] []= .nx [some (.str x),some (nms ns),some (.int (A.length:Nat))] []
 | 0,_=>by
  have ix:ns[A.length+0]? =some x:=by rw [e];simp
  have i1:=yy ix
  refine xA (h1:= []) ?_
  have ne:=Bm hx hx
  simp only [EX,ot,i1,ne]
 | j+1,hj=>by
  have hj':j<C.length:=by omega
  have ix:ns[A.length+(j+1)]? =some C[j]:=by rw [e,List.getElem?_append_right (by omega),show A.length+(j+1) - A.length=j+1 by omega,List.getElem?_cons_succ,List.getElem?_eq_getElem hj']
  have cm:C[j]∈C:=List.getElem_mem hj'
  have cs:sg C[j]=true:=List.all_eq_true.mp hn _ (by rw [e];simp [cm])
  have i1:=yy ix
  have nx:decide (C[j]=x)=false:=decide_eq_false fun z=>h (z▸cm)
  have ne:=Bm cs hx
  refine Bi (h1:= []) ?_ (b:=?_) (oN k ns A C x hn hx e h j (by omega)) (by intro z;cases z)
  ·simp only [EX,ot,i1,ne,nx]
  ·have:((A.length+(j+1):Nat):Int) - 1=((A.length+j:Nat):Int):=by omega
   simp only [EX,fP,this]
theorem vZ(k:Nat)(ns:List (List Nat))(x:List Nat)(hn:sgs ns=true)(hx:x∈ns):F (k+1) .inmost_slot [.str x,nms ns]= .ok (.int (kL ns x:Nat)):=by
 obtain ⟨A,C,e,h⟩:=uC hx
 have sx:sg x=true:=List.all_eq_true.mp hn _ hx
 have lp:=oN k ns A C x hn sx e h C.length (Nat.le_refl _)
 have r2:F (k+1) .inmost_slot [.str x,nms ns]=match fC (F k) [some (.str x),some (nms ns),none] [] with
   | .nx _ _=>.ok .non
   | .rt v h=>gh v h
   | _=>.bad:=rfl
 have ll:((ns.length:Nat):Int) - 1=((A.length+C.length:Nat):Int):=by rw [e,List.length_append,List.length_cons];omega
 rw [r2,uB e h]
 simp only [EX,fC,ot,ll,lp]
 rfl
def rwP(ns:List (List Nat))(p:Pth):List PV:=.tup [.str uN,.int (kL ns p.a:Nat)]::p.f.map fun x=>.tup [.str qt,.str x]
def rwPs(ns:List (List Nat))(ps:List Pth):List PV:=ps.flatMap (rwP ns)
theorem gV(ns:List (List Nat))(p:Pth):am (rwP ns p)=true:=by
 have:∀ l:List (List Nat),am (l.map fun x=>PV.tup [.str qt,.str x])=true:=fun l=>by
  induction l with
  | nil=>rfl
  | cons a r ih=>rw [List.map_cons,am,ih];rfl
 unfold rwP;rw [am,this];rfl
theorem gU(ns:List (List Nat)):∀ ps:List Pth,am (rwPs ns ps)=true
 | []=>rfl
 | p::r=>by
  have e:rwPs ns (p::r)=rwP ns p++rwPs ns r:=by unfold rwPs;rw [List.flatMap_cons]
  rw [e,aO,gV,gU ns r];rfl
theorem fV(ns:List (List Nat)){p:Pth}(h:wp p=true):(rwP ns p).length≤4:=by
 rw [wp,Bool.and_eq_true,Bool.and_eq_true] at h
 unfold rwP;rw [List.length_cons,List.length_map]
 have:=of_decide_eq_true h.2.2;omega
theorem fG(ns:List (List Nat)):∀ {ps:List Pth},(∀ p∈ps,wp p=true)→(rwPs ns ps).length≤4 * ps.length
 | [],_=>Nat.le_refl _
 | p::r,h=>by
  have e:rwPs ns (p::r)=rwP ns p++rwPs ns r:=by unfold rwPs;rw [List.flatMap_cons]
  have:=fV ns (h p List.mem_cons_self)
  have:=fG ns fun z hz=>h z (List.mem_cons_of_mem _ hz)
  rw [e,List.length_append,List.length_cons];omega
theorem CR(a:PV)(l:List PV)(h:List PO):iH (.tup (a::l)) (some 1) none h= .ok (.tup l) h:=by
 rw [pY]
 have:cut (a::l) (some 1) none=l:=by
  unfold cut
  rw [HT.sIx_none,show (1:Int)=((1:Nat):Int) from rfl,HT.sIx_nat,List.length_cons,Nat.min_eq_left (by omega),List.drop_one,List.tail_cons,List.take_of_length_le (by omega)]
 rw [this]
theorem yb(p:Pth)(h:List PO):iH (pth p) (some 1) none h= .ok (.tup (p.f.map PV.str)) h:=by unfold pth;rw [CR]
theorem jk(k:Nat)(ns:List (List Nat))(p:Pth)(hn:sgs ns=true)(hp:p.a∈ns)(hw:wp p=true):F (k+2) .rows_of_path [pth p,nms ns]= .ok (.lst (rwP ns p)):=by
 have cs:∀ h,dv (F (k+1) .inmost_slot) [.str p.a,nms ns] h= .ok (.int (kL ns p.a:Nat)) h:=fun h=>cH h (by rw [am,am,fJ];rfl) (vZ k ns p.a hn hp)
 rw [wp,Bool.and_eq_true,Bool.and_eq_true] at hw
 have f3:=of_decide_eq_true hw.2.2
 have lf:(p.f.map PV.str).length<16777216:=by rw [List.length_map];omega
 have cm:∀ h,bZ bF (fj (F (k+1))) [] (p.f.map PV.str) h= .ok (p.f.map fun x=>PV.tup [.str qt,.str x]) h:=fun h=>lu PV.str _ p.f fun x _=>by simp only [EX,fj]
 have ad:∀ h,ay (.lst [.tup [.str uN,.int (kL ns p.a:Nat)]]) (.lst (p.f.map fun x=>PV.tup [.str qt,.str x])) h= .ok (.lst (rwP ns p)) h:=fun h=>by
  rw [bh _ _ h (by rw [List.length_map];simp;omega)];rfl
 have r2:F (k+2) .rows_of_path [pth p,nms ns]=match eU (F (k+1)) [some (pth p),some (nms ns)] [] with
   | .nx _ _=>.ok .non
   | .rt v h=>gh v h
   | _=>.bad:=rfl
 rw [r2]
 simp only [EX,eU,yc,cs,yb,lf,bW,cm,ad]
 exact fM (by rw [PV.pure];exact gV ns p)
theorem AD{is:List Int}{m:Int}(hm:m∈is)(h:∀ y∈is,y≤m):wM is=m:=by
 obtain ⟨a,b⟩:=argBest_gt (fun i=>is.getD i 0) (is.length - 1)
 have l0:0<is.length:=List.length_pos_iff.mpr (List.ne_nil_of_mem hm)
 obtain ⟨j,hj,e⟩:=List.mem_iff_getElem.mp hm
 have c:=b j (by omega)
 have ej:is.getD j 0=m:=by rw [List.getD_eq_getElem?_getD,List.getElem?_eq_getElem hj,e];rfl
 have d:=h _ (eT (xs:=is) (d:=0) (n:=argBest (fun i j=>decide (is.getD i 0>is.getD j 0)) (is.length - 1)) (Nat.lt_of_le_of_lt a (by omega)))
 unfold wM
 have c':m≤is.getD (argBest (fun i j=>decide (is.getD i 0>is.getD j 0)) (is.length - 1)) 0:=by rw [← ej];exact c
 omega
theorem uc(l:List Nat):iX (l.map fun i=>PV.int (0+(i:Nat)))=some (l.map fun i:Nat=>(0:Int)+(i:Nat)):=by
 induction l with
 | nil=>rfl
 | cons a r ih=>rw [List.map_cons,iX,ih];rfl
theorem yj(k:Nat)(ns:List (List Nat))(p:Pth)(hn:sgs ns=true)(ln:ns.length≤1000)(hp:p.a∈ns)(hw:wp p=true):F (k+1) .l_path [mnu ns,pth p]= .ok (.lst (rwP ns p)):=by
 obtain ⟨A,C,e,hC⟩:=uC hp
 have sx:sg p.a=true:=List.all_eq_true.mp hn _ hp
 rw [wp,Bool.and_eq_true,Bool.and_eq_true] at hw
 have f3:=of_decide_eq_true hw.2.2
 have bn:bel 4611686018427387904 (ns.length:Int)=true:=bX.mpr ⟨by omega,by omega⟩
 have lr:((List.range (Int.toNat (ns.length:Int))).map fun i=>PV.int (0+(i:Nat))).length<16777216:=by rw [List.length_map,List.length_range];omega
 have lnn:∀ h,bv [mnu ns] h= .ok (.int ns.length) h:=fun h=>by unfold mnu;rw [lR,List.length_map]
 have c1':∀ h,bZ (jx (F k)) (jP (F k)) [some (mnu ns),some (pth p)] ((List.range (Int.toNat (ns.length:Int))).map fun i=>PV.int (0+(i:Nat))) h= .ok (((List.range ns.length).filter fun i=>decide (ns.getD i []=p.a)).map fun i=>PV.int (0+(i:Nat))) h:=fun h=>by
  rw [Int.toNat_natCast]
  refine qR (fun i:Nat=>PV.int (0+(i:Nat))) (fun i=>decide (ns.getD i []=p.a)) (fun i=>PV.int (0+(i:Nat))) (List.range ns.length) (fun i hi=>?_) fun i hi=>by simp only [EX,jP]
  have hi':=List.mem_range.mp hi
  have ix:ns[i]? =some (ns.getD i []):=by rw [List.getD_eq_getElem?_getD,List.getElem?_eq_getElem hi'];rfl
  have i1:=AC ix
  have z:(0:Int)+(i:Nat)=(i:Nat):=by omega
  have gs:sg (ns.getD i [])=true:=List.all_eq_true.mp hn _ (eT hi')
  have eq:=vw gs sx
  simp only [EX,jx,dM,z,i1,yc,eq]
 have mem:A.length∈(List.range ns.length).filter fun i=>decide (ns.getD i []=p.a):=by
  refine List.mem_filter.mpr ⟨List.mem_range.mpr (by rw [e];simp),decide_eq_true ?_⟩
  rw [e,List.getD_eq_getElem?_getD];simp
 have le:∀ i∈(List.range ns.length).filter fun i=>decide (ns.getD i []=p.a),i≤A.length:=fun i hi=>by
  obtain ⟨h1,h2⟩:=List.mem_filter.mp hi
  have h1':=List.mem_range.mp h1
  have h2':=of_decide_eq_true h2
  rcases Nat.lt_or_ge A.length i with q | q
  ·exfalso
   rw [e] at h1' h2'
   rw [List.length_append,List.length_cons] at h1'
   rw [List.getD_eq_getElem?_getD,List.getElem?_append_right (by omega),show i - A.length=(i - A.length - 1)+1 by omega,List.getElem?_cons_succ,List.getElem?_eq_getElem (by omega)] at h2'
   exact hC (by rw [← h2'];exact List.getElem_mem _)
  ·exact q
 generalize (List.range ns.length).filter (fun i=>decide (ns.getD i []=p.a))=fl at c1' mem le
 have mx:∀ h,uR [.lst (fl.map fun i=>PV.int (0+(i:Nat)))] h= .ok (.int (kL ns p.a:Nat)) h:=fun h=>by
  show (match iX (fl.map fun i=>PV.int (0+(i:Nat))) with | some is=>if is.isEmpty=false then Res.ok (PV.int (wM is)) h else .bad | none=>.bad)=_
  rw [uc]
  dsimp only
  rw [if_pos (by cases fl<;>first | rfl | cases mem),AD (m:=((A.length:Nat):Int)) (List.mem_map.mpr ⟨A.length,mem,by omega⟩) (fun y hy=>by obtain ⟨i,hi,rfl⟩:=List.mem_map.mp hy;have:=le i hi;omega),uB e hC]
 have lf:(p.f.map PV.str).length<16777216:=by rw [List.length_map];omega
 have cm:∀ h,bZ bF (jO (F k)) [] (p.f.map PV.str) h= .ok (p.f.map fun x=>PV.tup [.str qt,.str x]) h:=fun h=>lu PV.str _ p.f fun x _=>by simp only [EX,jO]
 have ad:∀ h,ay (.lst [.tup [.str uN,.int (kL ns p.a:Nat)]]) (.lst (p.f.map fun x=>PV.tup [.str qt,.str x])) h= .ok (.lst (rwP ns p)) h:=fun h=>by
  rw [bh _ _ h (by rw [List.length_map];simp;omega)];rfl
 have r2:F (k+1) .l_path [mnu ns,pth p]=match kB (F k) [some (mnu ns),some (pth p),none] [] with
   | .nx _ _=>.ok .non
   | .rt v h=>gh v h
   | _=>.bad:=rfl
 rw [r2]
 simp only [EX,kB,dM,lnn,bn,lr,bW,Option.getD,c1',mx,yb,lf,cm,ad]
 exact fM (by rw [PV.pure];exact gV ns p)
def skp(z:Nds)(no:List PV):List PV:=match z with
 | .nil=> []
 | .cons _ _=> [.tup [.str Af,.int (no.length:Nat)]]
mutual
def rwN(bn ns:List (List Nat))(bl:List PV):Nd→List PV×List PV
 | .text s=>([.tup [.str Cn,.str s]],bl)
 | .place p w=>(rwP ns p++ [.tup [.str xZ,.str w]],bl)
 | .loop x p b t=>(rwP ns p++([.tup [.str nj],.tup [.str nk,.int (ns.length:Nat),.int (((rwS bn (ns++ [x]) bl b).1.length:Nat)+1),.str t]]++((rwS bn (ns++ [x]) bl b).1++ [.tup [.str nr,.int (((rwS bn (ns++ [x]) bl b).1.length:Nat)+1)]])),(rwS bn (ns++ [x]) bl b).2)
 | .choice p y z=>(rwP ns p++([.tup [.str gW,.int (((rwS bn ns bl y).1++skp z (rwS bn ns (rwS bn ns bl y).2 z).1).length:Nat)]]++((rwS bn ns bl y).1++(skp z (rwS bn ns (rwS bn ns bl y).2 z).1++(rwS bn ns (rwS bn ns bl y).2 z).1))),(rwS bn ns (rwS bn ns bl y).2 z).2)
 | .use x ps=>(rwPs ns ps++ [.tup [.str tU,.int (bn.idxOf x:Nat),.int (ps.length:Nat),.non,.int (ns.length:Nat)]],bl)
 | .usew x ps hs b=>(rwPs ns ps++ [.tup [.str tU,.int (bn.idxOf x:Nat),.int (ps.length:Nat),.int (bl.length:Nat),.int (ns.length:Nat)]],(rwS bn (ns++hs) (bl++ [.tup []]) b).2.set bl.length (.tup ((rwS bn (ns++hs) (bl++ [.tup []]) b).1++ [.tup [.str eW]])))
 | .body ps=>(rwPs ns ps++ [.tup [.str tB,.int (ps.length:Nat)]],bl)
def rwS(bn ns:List (List Nat))(bl:List PV):Nds→List PV×List PV
 | .nil=>([],bl)
 | .cons n r=>((rwN bn ns bl n).1++(rwS bn ns (rwN bn ns bl n).2 r).1,(rwS bn ns (rwN bn ns bl n).2 r).2)
end
theorem my(z:Nds)(no:List PV):(skp z no).length≤1:=by cases z<;>simp [skp]
theorem xu(z:Nds)(no:List PV):am (skp z no)=true:=by cases z<;>rfl
theorem eV{ps:List Pth}(h:wps ps=true):(∀ p∈ps,wp p=true)∧ps.length≤4:=by
 rw [wps,Bool.and_eq_true] at h
 exact ⟨fun p hp=>List.all_eq_true.mp h.1 p hp,by have:=of_decide_eq_true h.2;omega⟩
mutual
theorem mB(bn ns:List (List Nat))(bl:List PV):∀ n:Nd,wN n=true→(rwN bn ns bl n).1.length≤20 * (ctN n+1)∧bl.length≤(rwN bn ns bl n).2.length∧(rwN bn ns bl n).2.length≤bl.length+ctN n+1
 | .text s,_=>by rw [rwN];dsimp only;refine ⟨?_,Nat.le_refl _,by show _≤bl.length+0+1;omega⟩;show 1≤20 * (0+1);omega
 | .place p w,h=>by
  rw [wN,Bool.and_eq_true] at h;rw [rwN]
  have:=fV ns h.1
  dsimp only
  refine ⟨?_,Nat.le_refl _,by show _≤bl.length+0+1;omega⟩
  rw [List.length_append];show _+1≤20 * (0+1);omega
 | .loop x p b t,h=>by
  rw [wN,Bool.and_eq_true,Bool.and_eq_true,Bool.and_eq_true] at h;rw [rwN,ctN]
  have:=fV ns h.2.1
  have ih:=cD bn (ns++ [x]) bl b h.2.2.1
  dsimp only
  refine ⟨?_,ih.2.1,by omega⟩
  simp only [List.length_append,List.length_cons,List.length_nil];omega
 | .choice p y z,h=>by
  rw [wN,Bool.and_eq_true,Bool.and_eq_true] at h;rw [rwN,ctN]
  have:=fV ns h.1
  have i1:=cD bn ns bl y h.2.1
  have i2:=cD bn ns (rwS bn ns bl y).2 z h.2.2
  have:=my z (rwS bn ns (rwS bn ns bl y).2 z).1
  dsimp only
  refine ⟨?_,by omega,by omega⟩
  simp only [List.length_append,List.length_cons,List.length_nil];omega
 | .use x ps,h=>by
  rw [wN,Bool.and_eq_true] at h;rw [rwN]
  obtain ⟨a,b⟩:=eV h.2
  have:=fG ns a
  dsimp only
  refine ⟨?_,Nat.le_refl _,by show _≤bl.length+0+1;omega⟩
  rw [List.length_append];show _+1≤20 * (0+1);omega
 | .usew x ps hs b,h=>by
  rw [wN,Bool.and_eq_true,Bool.and_eq_true,Bool.and_eq_true,Bool.and_eq_true] at h;rw [rwN,ctN]
  obtain ⟨a,c⟩:=eV h.2.1
  have:=fG ns a
  have ih:=cD bn (ns++hs) (bl++ [.tup []]) b h.2.2.2.2
  rw [List.length_append,List.length_singleton] at ih
  dsimp only
  refine ⟨?_,by rw [List.length_set];omega,by rw [List.length_set];omega⟩
  rw [List.length_append,List.length_singleton];omega
 | .body ps,h=>by
  rw [wN] at h;rw [rwN]
  obtain ⟨a,b⟩:=eV h
  have:=fG ns a
  dsimp only
  refine ⟨?_,Nat.le_refl _,by show _≤bl.length+0+1;omega⟩
  rw [List.length_append];show _+1≤20 * (0+1);omega
theorem cD(bn ns:List (List Nat))(bl:List PV):∀ b:Nds,wS b=true→(rwS bn ns bl b).1.length≤20 * ctS b∧bl.length≤(rwS bn ns bl b).2.length∧(rwS bn ns bl b).2.length≤bl.length+ctS b
 | .nil,_=>by rw [rwS,ctS];exact ⟨Nat.le_refl _,Nat.le_refl _,Nat.le_refl _⟩
 | .cons n r,h=>by
  rw [wS,Bool.and_eq_true] at h;rw [rwS,ctS]
  have i1:=mB bn ns bl n h.1
  have i2:=cD bn ns (rwN bn ns bl n).2 r h.2
  dsimp only
  rw [List.length_append];exact ⟨by omega,by omega,by omega⟩
end
theorem gX{l:List PV}{x:PV}(i:Nat)(h:am l=true)(hx:x.pure=true):am (l.set i x)=true:=by
 induction l generalizing i with
 | nil=>rfl
 | cons a r ih=>
  rw [am,Bool.and_eq_true] at h
  cases i with
  | zero=>rw [List.set_cons_zero,am,hx,h.2];rfl
  | succ i=>rw [List.set_cons_succ,am,h.1,ih i h.2];rfl
mutual
theorem eQ(bn ns:List (List Nat))(bl:List PV)(hb:am bl=true):∀ n:Nd,am (rwN bn ns bl n).1=true∧am (rwN bn ns bl n).2=true
 | .text s=>by rw [rwN];exact ⟨rfl,hb⟩
 | .place p w=>by rw [rwN];exact ⟨by rw [aO,gV];rfl,hb⟩
 | .loop x p b t=>by
  rw [rwN]
  have ih:=cL bn (ns++ [x]) bl hb b
  exact ⟨by rw [aO,aO,aO,gV,ih.1];rfl,ih.2⟩
 | .choice p y z=>by
  rw [rwN]
  have i1:=cL bn ns bl hb y
  have i2:=cL bn ns _ i1.2 z
  exact ⟨by rw [aO,aO,aO,aO,gV,i1.1,i2.1,xu];rfl,i2.2⟩
 | .use x ps=>by rw [rwN];exact ⟨by rw [aO,gU];rfl,hb⟩
 | .usew x ps hs b=>by
  rw [rwN]
  have ih:=cL bn (ns++hs) (bl++ [.tup []]) (by rw [aO,hb];rfl) b
  exact ⟨by rw [aO,gU];rfl,gX _ ih.2 (by rw [PV.pure,aO,ih.1];rfl)⟩
 | .body ps=>by rw [rwN];exact ⟨by rw [aO,gU];rfl,hb⟩
theorem cL(bn ns:List (List Nat))(bl:List PV)(hb:am bl=true):∀ b:Nds,am (rwS bn ns bl b).1=true∧am (rwS bn ns bl b).2=true
 | .nil=>by rw [rwS];exact ⟨rfl,hb⟩
 | .cons n r=>by
  rw [rwS]
  have i1:=eQ bn ns bl hb n
  have i2:=cL bn ns _ i1.2 r
  exact ⟨by rw [aO,i1.1,i2.1];rfl,i2.2⟩
end
def ub:Nd→Bool
 | .use _ _=>true
 | .usew _ _ _ _=>true
 | .body _=>true
 | _=>false
theorem Eg(n:Nd)(h:List PO):pIn (.str (kT n)) (.tup [.str tU,.str tB]) h= .ok (.bl (ub n)) h:=by
 have it:=CH (ls:= [tU,tB]) (lJ (yP n)) (by decide) h
 refine it.trans ?_
 cases n<;>rfl
theorem tJ(k:Nat)(n:Nd):F (k+1) .l_paths_of [nd n]= .ok (.lst (pths (pa n))):=by
 have r2:F (k+1) .l_paths_of [nd n]=match bY (F k) [some (nd n)] [] with
   | .nx _ _=>.ok .non
   | .rt v h=>gh v h
   | _=>.bad:=rfl
 have fi:gh (.lst (pths (pa n))) []= .ok (.lst (pths (pa n))):=fM (by rw [PV.pure];exact eZ _)
 have it:=Eg n
 rw [r2]
 cases n with
 | text s=>simp only [EX,bY];exact fi
 | place p w=>have it:∀ h,pIn (.str tP) (.tup [.str tU,.str tB]) h= .ok (.bl false) h:=it;simp only [EX,bY,it];exact fi
 | loop x p b t=>have it:∀ h,pIn (.str tL) (.tup [.str tU,.str tB]) h= .ok (.bl false) h:=it;simp only [EX,bY,it];exact fi
 | choice p y z=>have it:∀ h,pIn (.str tC) (.tup [.str tU,.str tB]) h= .ok (.bl false) h:=it;simp only [EX,bY,it];exact fi
 | use x ps=>have it:∀ h,pIn (.str tU) (.tup [.str tU,.str tB]) h= .ok (.bl true) h:=it;simp only [EX,bY,it];exact fi
 | usew x ps hs b=>have it:∀ h,pIn (.str tU) (.tup [.str tU,.str tB]) h= .ok (.bl true) h:=it;simp only [EX,bY,it];exact fi
 | body ps=>have it:∀ h,pIn (.str tB) (.tup [.str tU,.str tB]) h= .ok (.bl true) h:=it;simp only [EX,bY,it,yS];exact fi
def hR(bl:List PV)(t:List PO)(acc:List PV):List PO:=.lst bl::(t++ [.lst acc])
section
variable (bl:List PV) (t:List PO) (acc:List PV)
theorem ly:(hR bl t acc)[t.length+1]? =some (.lst acc):=by unfold hR;rw [List.getElem?_cons_succ];simp
theorem qN:aq (hR bl t acc) (.ref (t.length+1))= .ref (t.length+1):=CQ (ly bl t acc)
theorem sI:aq (hR bl t acc) (.ref 0)= .ref 0:=rfl
theorem ud:bM (hR bl t acc) (.ref (t.length+1))=true:=Bv (ly bl t acc)
theorem Et:bM (hR bl t acc) (.ref 0)=true:=rfl
theorem AP:bv [.ref 0] (hR bl t acc)= .ok (.int bl.length) (hR bl t acc):=rfl
theorem yX(x:PV)(hl:acc.length<16000000):bH (.ref (t.length+1)) [x] (hR bl t acc)= .ok .non (hR bl t (acc++ [x])):=by
 rw [pP (ly bl t acc) x hl]
 unfold hR;rw [List.set_cons_succ,List.set_append_right _ _ (Nat.le_refl _),Nat.sub_self];rfl
theorem Ew(x:PV)(hl:bl.length<16000000):bH (.ref 0) [x] (hR bl t acc)= .ok .non (hR (bl++ [x]) t acc):=by
 rw [pP (h:=hR bl t acc) (i:=0) (acc:=bl) rfl x hl];rfl
theorem Eu(ys:List PV)(hl:acc.length+ys.length≤16000000):ay (.ref (t.length+1)) (.lst ys) (hR bl t acc)= .ok (.lst (acc++ys)) (hR bl t acc):=zJ (ly bl t acc) ys hl
theorem GQ(ys:List PV)(hl:acc.length+ys.length≤16000000):lO (.ref (t.length+1)) (.lst ys) (hR bl t acc)= .ok (.ref ((t++ [PO.lst acc]).length+1)) (hR bl (t++ [PO.lst acc]) (acc++ys)):=by
 unfold lO
 have e1:lsM (hR bl t acc) (.ref (t.length+1))=some acc:=by show (match (hR bl t acc)[t.length+1]? with | some (.lst xs)=>some xs | _=>none)=_;rw [ly]
 rw [e1]
 show (if acc.length+ys.length≤sizeLine then Res.ok (PV.ref (hR bl t acc).length) (hR bl t acc++ [.lst (acc++ys)]) else .bad)=_
 rw [if_pos (Nat.le_trans hl (by decide))]
 have:(hR bl t acc).length=(t++ [PO.lst acc]).length+1:=by unfold hR;rw [List.length_cons]
 rw [this];rfl
theorem Bx(xs ys:List PV)(hl:xs.length+ys.length≤16000000):lO (.lst xs) (.lst ys) (hR bl t acc)= .ok (.ref ((t++ [PO.lst acc]).length+1)) (hR bl (t++ [PO.lst acc]) (xs++ys)):=by
 show (if xs.length+ys.length≤sizeLine then Res.ok (PV.ref (hR bl t acc).length) (hR bl t acc++ [.lst (xs++ys)]) else .bad)=_
 rw [if_pos (Nat.le_trans hl (by decide))]
 have:(hR bl t acc).length=(t++ [PO.lst acc]).length+1:=by unfold hR;rw [List.length_cons]
 rw [this];rfl
theorem GP{i:Nat}(hi:i<bl.length)(v:PV)(ρ:Ev):dG v (.ref 0) (.int i) ρ (hR bl t acc)= .nx ρ (hR (bl.set i v) t acc):=by
 unfold dG
 have e2:fK (hR bl t acc) (.ref 0)=some (0,bl):=rfl
 have e3:ixN bl.length (i:Int)=some i:=by unfold ixN;rw [if_pos (by omega),if_pos (by omega),Int.toNat_natCast]
 rw [e2];dsimp only;rw [e3];rfl
end
abbrev rE(B:List Pc)(ns:List (List Nat))(a:PV)(r:Nat)(x5 x6 x7 x8 x9 x10 x11 x12:Option PV):Ev:= [some (bk B),some (.ref 0),some (mnu ns),some a,some (.ref r),x5,x6,x7,x8,x9,x10,x11,x12]
theorem xE(k:Nat)(B:List Pc)(ns:List (List Nat))(hn:sgs ns=true)(ln:ns.length≤1000)(a:PV)(bl:List PV)(x5 x7 x8 x9 x10 x11 x12:Option PV):∀ (ps:List Pth) (t:List PO) (acc:List PV) (x6:Option PV),(∀ p∈ps,p.a∈ns∧wp p=true)→acc.length+4 * ps.length≤15000000→
  ∃ t' y6,bg (gNm 6) (fZ (F (k+1))) (pths ps) (rE B ns a (t.length+1) x5 x6 x7 x8 x9 x10 x11 x12) (hR bl t acc)= .nx (rE B ns a (t'.length+1) x5 y6 x7 x8 x9 x10 x11 x12) (hR bl t' (acc++rwPs ns ps))
 | [],t,acc,x6,_,_=>⟨t,x6,by show bg _ _ [] _ _=_;rw [bg,show rwPs ns []= [] from rfl,List.append_nil]⟩
 | p::r,t,acc,x6,hp,hl=>by
  rw [List.length_cons] at hl
  obtain ⟨p1,p2⟩:=hp p List.mem_cons_self
  have pl:=yj k ns p hn ln p1 p2
  have cp:∀ h,dv (F (k+1) .l_path) [mnu ns,pth p] h= .ok (.lst (rwP ns p)) h:=fun h=>cH h (by rw [am,am,gf,dK];rfl) pl
  have l4:=fV ns p2
  have e:fZ (F (k+1)) (rE B ns a (t.length+1) x5 (some (pth p)) x7 x8 x9 x10 x11 x12) (hR bl t acc)= .nx (rE B ns a ((t++ [PO.lst acc]).length+1) x5 (some (pth p)) x7 x8 x9 x10 x11 x12) (hR bl (t++ [.lst acc]) (acc++rwP ns p)):=by
   have hm:=GQ bl t acc (rwP ns p) (by omega)
   simp only [EX,fZ,qN,dM,cp,hm]
  obtain ⟨t',y6,z⟩:=xE k B ns hn ln a bl x5 x7 x8 x9 x10 x11 x12 r (t++ [.lst acc]) (acc++rwP ns p) (some (pth p)) (fun q hq=>hp q (List.mem_cons_of_mem _ hq)) (by rw [List.length_append];omega)
  refine ⟨t',y6,?_⟩
  have e2:acc++rwPs ns (p::r)=acc++rwP ns p++rwPs ns r:=by unfold rwPs;rw [List.flatMap_cons,List.append_assoc]
  rw [e2]
  exact Eq.trans (cO rfl e) z
def rm(B:List Pc)(d:Nat):Prop:=∀ (b:Nds) (m:Option Int) (ns:List (List Nat)) (bl:List PV) (K:Nat),dS b≤d→wS b=true→okS (B.map pOf,m,ns) b=true→sgs ns=true→ns.length+4 * d≤1000→am bl=true→bl.length+ctS b≤100000→ctS b≤10000→2 * d+3≤K→
 L K .l_rows [bk B,.ref 0,mnu ns,.tup (nds b)] [.lst bl]= .ok (.lst (rwS (B.map (·.n)) ns bl b).1) [.lst (rwS (B.map (·.n)) ns bl b).2]
theorem ji{B:List Pc}{d:Nat}(ok:rm B d)(b:Nds)(m:Option Int)(ns:List (List Nat))(bl:List PV)(K:Nat)(h1:dS b≤d)(h2:wS b=true)(h3:okS (B.map pOf,m,ns) b=true)(h4:sgs ns=true)(h5:ns.length+4 * d≤1000)(h6:am bl=true)(h7:bl.length+ctS b≤100000)(h8:ctS b≤10000)(h9:2 * d+3≤K)(t:List PO)(acc:List PV):
  callL (L K .l_rows) [bk B,.ref 0,mnu ns,.tup (nds b)] (hR bl t acc)= .ok (.lst (rwS (B.map (·.n)) ns bl b).1) (hR (rwS (B.map (·.n)) ns bl b).2 t acc):=by
 have e:=ok b m ns bl K h1 h2 h3 h4 h5 h6 h7 h8 h9
 have pp:=cL (B.map (·.n)) ns bl h6 b
 refine eP (fn:=L K .l_rows) [bk B] [mnu ns,.tup (nds b)] (h:=hR bl t acc) (i:=0) (o:=.lst bl) ?_ ?_ rfl h6 e ?_ pp.2
 ·rw [am,kx];rfl
 ·rw [am,am,am,gf,PV.pure,du];rfl
 ·rw [PV.pure];exact pp.1
theorem yW(B:List Pc)(lB:B.length≤1000)(x:List Nat)(hx:(B.map (·.n)).contains x=true)(h:List PO):mC (.lst ((B.map (·.n)).map PV.str)) [.str x] h= .ok (.int ((B.map (·.n)).idxOf x:Nat)) h:=by
 show (match (some ((B.map (·.n)).map PV.str)).bind dU with | some ls=>if ls.length≤sizeLine∧ls.idxOf x<ls.length then Res.ok (PV.int (ls.idxOf x:Nat)) h else .bad | none=>.bad)=_
 rw [Option.bind_some,iL]
 dsimp only
 rw [if_pos ⟨by rw [List.length_map];exact Nat.le_trans lB (by decide),List.idxOf_lt_length_of_mem (List.contains_iff_mem.mp hx)⟩]
theorem jF{X:Cx}{n:Nd}(w:wN n=true)(h:okN X n=true):∀ p∈pa n,p.a∈X.2.2∧wp p=true:=by
 have one:∀ {p:Pth},okP X [p]=true→p.a∈X.2.2:=fun {p} h=>List.contains_iff_mem.mp (by simpa [okP] using h)
 have all:∀ {ps:List Pth},okP X ps=true→∀ p∈ps,p.a∈X.2.2:=fun {ps} h p hp=>List.contains_iff_mem.mp (List.all_eq_true.mp h p hp)
 cases n with
 | text s=>intro p hp;cases hp
 | place p s=>rw [okN] at h;rw [wN,Bool.and_eq_true] at w;intro q hq;cases List.mem_singleton.mp hq;exact ⟨one h,w.1⟩
 | loop x p b s=>rw [okN,Bool.and_eq_true] at h;rw [wN,Bool.and_eq_true,Bool.and_eq_true] at w;intro q hq;cases List.mem_singleton.mp hq;exact ⟨one h.1,w.2.1⟩
 | choice p y z=>rw [okN,Bool.and_eq_true] at h;rw [wN,Bool.and_eq_true] at w;intro q hq;cases List.mem_singleton.mp hq;exact ⟨one h.1,w.1⟩
 | use x ps=>rw [okN,Bool.and_eq_true] at h;rw [wN,Bool.and_eq_true] at w;intro q hq;exact ⟨all h.1 q hq,(eV w.2).1 q hq⟩
 | usew x ps hs b=>rw [okN,Bool.and_eq_true] at h;rw [wN,Bool.and_eq_true,Bool.and_eq_true] at w;intro q hq;exact ⟨all h.1 q hq,(eV w.2.1).1 q hq⟩
 | body ps=>rw [okN,Bool.and_eq_true] at h;rw [wN] at w;intro q hq;exact ⟨all h.1 q hq,(eV w).1 q hq⟩
theorem qv{n:Nd}(w:wN n=true):(pa n).length≤4:=by
 cases n with
 | text s=>exact Nat.zero_le _
 | place p s=>show 1≤4;omega
 | loop x p b s=>show 1≤4;omega
 | choice p y z=>show 1≤4;omega
 | use x ps=>rw [wN,Bool.and_eq_true] at w;exact (eV w.2).2
 | usew x ps hs b=>rw [wN,Bool.and_eq_true,Bool.and_eq_true] at w;exact (eV w.2.1).2
 | body ps=>rw [wN] at w;exact (eV w).2
theorem vd(a b:List (List Nat))(h:List PO)(hl:a.length+b.length≤10000):ay (mnu a) (.lst (b.map PV.str)) h= .ok (mnu (a++b)) h:=by
 unfold mnu;rw [bh _ _ h (by rw [List.length_map,List.length_map];omega),List.map_append]
def Av:Nds→Bool
 | .nil=>false
 | .cons _ _=>true
theorem AA(z:Nds)(hz:wS z=true)(dz:dS z≤20)(h:List PO):pNe (.tup (nds z)) (.tup []) h= .ok (.bl (Av z)) h:=by
 rw [Ay (og (jL hz) (by omega)) h]
 cases z with
 | nil=>rw [nds];rfl
 | cons n r=>rw [nds];rfl
theorem AB(z:Nds)(no:List PV)(h:List PO):iP (.lst [.tup [.str Af,.int (no.length:Nat)]]) (.int (if Av z=true then 1 else 0)) h= .ok (.lst (skp z no)) h:=by
 cases z<;>rfl
def rQ(B:List Pc)(ns:List (List Nat))(a:PV)(n:Nd)(bl acc:List PV)(r:SR):Prop:=∃ (t':List PO) (y6 y7 y8 y9 y10 y11 y12:Option PV),r= .nx (rE B ns a (t'.length+1) (some (nd n)) y6 y7 y8 y9 y10 y11 y12) (hR (rwN (B.map (·.n)) ns bl n).2 t' (acc++(rwN (B.map (·.n)) ns bl n).1))
theorem wh(B:List Pc)(lB:B.length≤1000)(d:Nat)(d20:d≤20)(ok:∀ d'<d,rm B d')(K:Nat)(hK:2 * d+2≤K)(m:Option Int)(ns:List (List Nat))(hn:sgs ns=true)(ln:ns.length+4 * d≤1000)(a:PV)(n:Nd)(hd:dN n≤d)(w:wN n=true)(o:okN (B.map pOf,m,ns) n=true)(bl:List PV)(pb:am bl=true)(lb:bl.length+ctN n+1≤100000)(cn:ctN n+1≤10000)(t:List PO)(acc:List PV)(la:acc.length+20 * (ctN n+1)≤1000000)(x6 x7 x8 x9 x10 x11 x12:Option PV):
  rQ B ns a n bl acc (fY (F K) (L K) (rE B ns a (t.length+1) (some (nd n)) x6 x7 x8 x9 x10 x11 x12) (hR bl t acc)):=by
 obtain ⟨k,rfl⟩:∃ k,K=k+2:=⟨K - 2,by omega⟩
 have pl:=qv w
 obtain ⟨t1,y6,lp⟩:=xE (k+1) B ns hn (by omega) a bl (some (nd n)) x7 x8 x9 x10 x11 x12 (pa n) t acc x6 (jF w o) (by omega)
 have cpo:∀ h,dv (F (k+2) .l_paths_of) [nd n] h= .ok (.lst (pths (pa n))) h:=fun h=>cH h (by rw [am,mG];rfl) (tJ (k+1) n)
 have l16:=fG ns fun p hp=>(jF w o p hp).2
 have la1:(acc++rwPs ns (pa n)).length≤1000000:=by rw [List.length_append];omega
 have pa1:∀ p:Pth,rwPs ns [p]=rwP ns p:=fun p=>by unfold rwPs;rw [List.flatMap_cons,List.flatMap_nil,List.append_nil]
 have nln:∀ h,bv [mnu ns] h= .ok (.int ns.length) h:=fun h=>by unfold mnu;rw [lR,List.length_map]
 have sit:∀ h,gC (.lst (pths (pa n))) h= .ok (pths (pa n)) h:=fun _=>rfl
 unfold fY
 refine bw (rE B ns a (t1.length+1) (some (nd n)) y6 x7 x8 x9 x10 x11 x12) (hR bl t1 (acc++rwPs ns (pa n))) (by
  show kFo (gNm 6) (fZ (F (k+2))) _ (kg gC ((bP (F (k+2) .l_paths_of) (ab (af 5) aj)) _ _))=_
  simp only [EX,cpo,lp]) ?_
 generalize hacc:acc++rwPs ns (pa n)=acc1 at la1
 cases n with
 | text s=>
  have ea:acc1=acc:=by rw [← hacc];exact List.append_nil _
  have ap:=yX bl t1 acc1 (.tup [.str Cn,.str s]) (by omega)
  refine ⟨t1,y6,x7,x8,x9,x10,x11,x12,?_⟩
  have i1:∀ h,pIx (nd (.text s)) (.int 1) h= .ok (.str s) h:=fun h=>by rw [nd];rfl
  rw [rwN,← ea]
  simp only [EX,qN,ud,i1,ap]
 | place p s=>
  have ap:=yX bl t1 acc1 (.tup [.str xZ,.str s]) (by omega)
  refine ⟨t1,y6,x7,x8,x9,x10,x11,x12,?_⟩
  rw [rwN];dsimp only
  rw [← List.append_assoc,← pa1,show [p]=pa (.place p s) from rfl,hacc]
  simp only [EX,qN,ud,ap]
 | body ps=>
  have ap:=yX bl t1 acc1 (.tup [.str tB,.int (ps.length:Nat)]) (by omega)
  refine ⟨t1,y6,x7,x8,x9,x10,x11,x12,?_⟩
  rw [rwN];dsimp only
  rw [← List.append_assoc,show rwPs ns ps=rwPs ns (pa (.body ps)) from rfl,hacc]
  simp only [EX,yS,jj,qN,ud,ap]
 | loop x p b s=>
  rw [okN,Bool.and_eq_true] at o
  rw [wN,Bool.and_eq_true,Bool.and_eq_true,Bool.and_eq_true] at w
  rw [dN] at hd;rw [ctN] at lb cn la
  have sx:sgs (ns++ [x])=true:=jh hn (by simp [sgs,w.1])
  have rc:=ji (ok (dS b) (by omega)) b m (ns++ [x]) bl (k+2) (Nat.le_refl _) w.2.2.1 o.2 sx (by rw [List.length_append,List.length_singleton];omega) pb (by omega) (by omega) (by omega) t1 acc1
  have rl:=cD (B.map (·.n)) (ns++ [x]) bl b w.2.2.1
  have ad:=fun h=>vd ns [x] h (by rw [List.length_singleton];omega)
  rw [rQ,rwN]
  generalize rwS (B.map (·.n)) (ns++ [x]) bl b=R at rc rl
  obtain ⟨R1,R2⟩:=R
  dsimp only at rc rl ⊢
  have e1:=Eu R2 t1 acc1 [.tup [.str nj],.tup [.str nk,.int (ns.length:Nat),.int ((R1.length:Nat)+1),.str s]] (by simp only [List.length_cons,List.length_nil];omega)
  have e2:ay (.lst (acc1++ [.tup [.str nj],.tup [.str nk,.int (ns.length:Nat),.int ((R1.length:Nat)+1),.str s]])) (.lst R1) (hR R2 t1 acc1)= .ok (.lst (acc1++ [.tup [.str nj],.tup [.str nk,.int (ns.length:Nat),.int ((R1.length:Nat)+1),.str s]]++R1)) (hR R2 t1 acc1):=bh _ _ _ (by simp only [List.length_append,List.length_cons,List.length_nil];omega)
  have e3:=Bx R2 t1 acc1 (acc1++ [.tup [.str nj],.tup [.str nk,.int (ns.length:Nat),.int ((R1.length:Nat)+1),.str s]]++R1) [.tup [.str nr,.int ((R1.length:Nat)+1)]] (by simp only [List.length_append,List.length_cons,List.length_nil];omega)
  have ea:acc++(rwP ns p++([.tup [.str nj],.tup [.str nk,.int (ns.length:Nat),.int ((R1.length:Nat)+1),.str s]]++(R1++ [.tup [.str nr,.int ((R1.length:Nat)+1)]])))=acc1++ [.tup [.str nj],.tup [.str nk,.int (ns.length:Nat),.int ((R1.length:Nat)+1),.str s]]++R1++ [.tup [.str nr,.int ((R1.length:Nat)+1)]]:=by
   rw [← hacc,show pa (.loop x p b s)= [p] from rfl,pa1];simp only [List.append_assoc]
  refine ⟨t1++ [.lst acc1],y6,some (.lst R1),some (.lst [.tup [.str nj],.tup [.str nk,.int (ns.length:Nat),.int ((R1.length:Nat)+1),.str s]]),x9,x10,x11,x12,?_⟩
  rw [ea]
  simp only [List.map_cons,List.map_nil] at ad
  simp only [EX,qN,sI,ud,jd,dM,ad,rc,nln,e1,e2,e3]
 | choice p y z=>
  rw [okN,Bool.and_eq_true,Bool.and_eq_true] at o
  rw [wN,Bool.and_eq_true,Bool.and_eq_true] at w
  rw [dN] at hd;rw [ctN] at lb cn la
  have dy:=Nat.le_max_left (dS y) (dS z)
  have dz:=Nat.le_max_right (dS y) (dS z)
  have rc1:=ji (ok (dS y) (by omega)) y m ns bl (k+2) (Nat.le_refl _) w.2.1 o.2.1 hn (by omega) pb (by omega) (by omega) (by omega) t1 acc1
  have rl1:=cD (B.map (·.n)) ns bl y w.2.1
  have rp1:=cL (B.map (·.n)) ns bl pb y
  have rc2:=ji (ok (dS z) (by omega)) z m ns (rwS (B.map (·.n)) ns bl y).2 (k+2) (Nat.le_refl _) w.2.2 o.2.2 hn (by omega) rp1.2 (by omega) (by omega) (by omega) t1 acc1
  have rl2:=cD (B.map (·.n)) ns (rwS (B.map (·.n)) ns bl y).2 z w.2.2
  rw [rQ,rwN]
  generalize rwS (B.map (·.n)) ns bl y=R at rc1 rl1 rc2 rl2
  obtain ⟨R1,R2⟩:=R
  dsimp only at rc1 rl1 rc2 rl2 ⊢
  generalize rwS (B.map (·.n)) ns R2 z=S at rc2 rl2
  obtain ⟨S1,S2⟩:=S
  dsimp only at rc2 rl2 ⊢
  have sk:=my z S1
  have sl:∀ h,iH (nd (.choice p y z)) (some 2) none h= .ok (.tup [.tup (nds y),.tup (nds z)]) h:=fun h=>by rw [nd,pY];rfl
  have cm:bZ bF (fm (F (k+2)) (L (k+2))) [some (bk B),some (.ref 0),some (mnu ns)] [.tup (nds y),.tup (nds z)] (hR bl t1 acc1)= .ok [.lst R1,.lst S1] (hR S2 t1 acc1):=by
   have a1:fm (F (k+2)) (L (k+2)) [some (.tup (nds y)),some (bk B),some (.ref 0),some (mnu ns)] (hR bl t1 acc1)= .ok (.lst R1) (hR R2 t1 acc1):=by simp only [EX,fm,jd,sI,dM,rc1]
   have a2:fm (F (k+2)) (L (k+2)) [some (.tup (nds z)),some (bk B),some (.ref 0),some (mnu ns)] (hR R2 t1 acc1)= .ok (.lst S1) (hR S2 t1 acc1):=by simp only [EX,fm,jd,sI,dM,rc2]
   simp only [bZ,CN,Res.bind_ok,if_true,a1,a2]
  have ne:=AA z w.2.2 (by omega)
  have ml:=AB z S1
  have e0:∀ h,ay (.lst R1) (.lst (skp z S1)) h= .ok (.lst (R1++skp z S1)) h:=fun h=>bh _ _ h (by omega)
  have e1:=Eu S2 t1 acc1 [.tup [.str gW,.int ((R1++skp z S1).length:Nat)]] (by simp only [List.length_cons,List.length_nil];omega)
  have e2:ay (.lst (acc1++ [.tup [.str gW,.int ((R1++skp z S1).length:Nat)]])) (.lst R1) (hR S2 t1 acc1)= .ok (.lst (acc1++ [.tup [.str gW,.int ((R1++skp z S1).length:Nat)]]++R1)) (hR S2 t1 acc1):=bh _ _ _ (by simp only [List.length_append,List.length_cons,List.length_nil];omega)
  have e3:ay (.lst (acc1++ [.tup [.str gW,.int ((R1++skp z S1).length:Nat)]]++R1)) (.lst (skp z S1)) (hR S2 t1 acc1)= .ok (.lst (acc1++ [.tup [.str gW,.int ((R1++skp z S1).length:Nat)]]++R1++skp z S1)) (hR S2 t1 acc1):=bh _ _ _ (by simp only [List.length_append,List.length_cons,List.length_nil];omega)
  have e4:=Bx S2 t1 acc1 (acc1++ [.tup [.str gW,.int ((R1++skp z S1).length:Nat)]]++R1++skp z S1) S1 (by simp only [List.length_append,List.length_cons,List.length_nil];omega)
  have ea:acc++(rwP ns p++([.tup [.str gW,.int ((R1++skp z S1).length:Nat)]]++(R1++(skp z S1++S1))))=acc1++ [.tup [.str gW,.int ((R1++skp z S1).length:Nat)]]++R1++skp z S1++S1:=by
   rw [← hacc,show pa (.choice p y z)= [p] from rfl,pa1];simp only [List.append_assoc]
  have l2:(2:Nat)<16777216:=by omega
  have i0:∀ h,pIx (.lst [.lst R1,.lst S1]) (.int 0) h= .ok (.lst R1) h:=fun _=>rfl
  have i1:∀ h,pIx (.lst [.lst R1,.lst S1]) (.int 1) h= .ok (.lst S1) h:=fun _=>rfl
  refine ⟨t1++ [.lst acc1],y6,x7,x8,some (.lst [.lst R1,.lst S1]),some (.lst (skp z S1)),x11,x12,?_⟩
  rw [ea]
  have okm:∀ h,okL [.lst R1,.lst S1] h= .ok (.lst [.lst R1,.lst S1]) h:=fun _=>rfl
  generalize hU:(R1++skp z S1).length=U at e0 e1 e2 e3 e4 ea
  have lU:∀ h,bv [.lst (R1++skp z S1)] h= .ok (.int U) h:=fun h=>by rw [lR,hU]
  generalize R1++skp z S1=RS at e0 lU
  simp only [EX,qN,sI,ud,jd,dM,sl,l2,bW,Option.getD,cm,i0,i1,ne,ml,e0,lU,e1,e2,e3,e4]
 | use x ps=>
  rw [okN,Bool.and_eq_true] at o
  have hx:(B.map (·.n)).contains x=true:=by have:=mD o.2;rwa [List.map_map] at this
  have ix:=yW B lB x hx
  have cm3:∀ h,bZ bF (gj (F (k+2))) [] (B.map pc) h= .ok ((B.map (·.n)).map PV.str) h:=fun h=>by
   rw [List.map_map]
   exact lu pc _ B fun q _=>by simp only [EX,gj];rfl
  have lq:(B.map pc).length<16777216:=by rw [List.length_map];omega
  have sb:∀ h,gC (bk B) h= .ok (B.map pc) h:=fun _=>rfl
  have ap:=yX bl t1 acc1 (.tup [.str tU,.int ((B.map (·.n)).idxOf x:Nat),.int (ps.length:Nat),.non,.int (ns.length:Nat)]) (by omega)
  refine ⟨t1,y6,x7,x8,x9,x10,some (.int ((B.map (·.n)).idxOf x:Nat)),some .non,?_⟩
  rw [rwN];dsimp only
  rw [← List.append_assoc,show rwPs ns ps=rwPs ns (pa (.use x ps)) from rfl,hacc]
  generalize (B.map (·.n)).idxOf x=I at ix ap
  simp only [EX,qN,ud,jd,dM,sb,lq,bW,cm3,Bt,ix,jj,nln,ap]
 | usew x ps hs b=>
  rw [okN,Bool.and_eq_true,Bool.and_eq_true,Bool.and_eq_true] at o
  rw [wN,Bool.and_eq_true,Bool.and_eq_true,Bool.and_eq_true,Bool.and_eq_true] at w
  rw [dN] at hd;rw [ctN] at lb cn la
  have hl5:=of_decide_eq_true w.2.2.2.1
  have hx:(B.map (·.n)).contains x=true:=by have:=mD o.2.1;rwa [List.map_map] at this
  have ix:=yW B lB x hx
  have cm3:∀ h,bZ bF (gj (F (k+2))) [] (B.map pc) h= .ok ((B.map (·.n)).map PV.str) h:=fun h=>by
   rw [List.map_map]
   exact lu pc _ B fun q _=>by simp only [EX,gj];rfl
  have lq:(B.map pc).length<16777216:=by rw [List.length_map];omega
  have sb:∀ h,gC (bk B) h= .ok (B.map pc) h:=fun _=>rfl
  have sx:sgs (ns++hs)=true:=jh hn w.2.2.1
  have pb2:am (bl++ [.tup []])=true:=by rw [aO,pb];rfl
  have rc:=ji (ok (dS b) (by omega)) b m (ns++hs) (bl++ [.tup []]) (k+2) (Nat.le_refl _) w.2.2.2.2 o.2.2.2 sx (by rw [List.length_append];omega) pb2 (by rw [List.length_append,List.length_singleton];omega) (by omega) (by omega) t1 acc1
  have rl:=cD (B.map (·.n)) (ns++hs) (bl++ [.tup []]) b w.2.2.2.2
  have ad:=fun h=>vd ns hs h (by omega)
  have a0:=Ew bl t1 acc1 (.tup []) (by omega)
  rw [rQ,rwN]
  generalize rwS (B.map (·.n)) (ns++hs) (bl++ [.tup []]) b=R at rc rl
  obtain ⟨R1,R2⟩:=R
  dsimp only at rc rl ⊢
  rw [List.length_append,List.length_singleton] at rl
  have e1:∀ h,ay (.lst R1) (.lst [.tup [.str eW]]) h= .ok (.lst (R1++ [.tup [.str eW]])) h:=fun h=>bh _ _ h (by simp only [List.length_cons,List.length_nil];omega)
  have tp:∀ h,cF [.lst (R1++ [.tup [.str eW]])] h= .ok (.tup (R1++ [.tup [.str eW]])) h:=fun _=>rfl
  have si:=fun ρ=>GP R2 t1 acc1 (i:=bl.length) (by omega) (.tup (R1++ [.tup [.str eW]])) ρ
  have ap:=yX (R2.set bl.length (.tup (R1++ [.tup [.str eW]]))) t1 acc1 (.tup [.str tU,.int ((B.map (·.n)).idxOf x:Nat),.int (ps.length:Nat),.int (bl.length:Nat),.int (ns.length:Nat)]) (by omega)
  have nn:∀ l:List PV,fL (.tup l)=false:=fun _=>rfl
  have ls:∀ h,lM [nms hs] h= .ok (.lst (hs.map PV.str)) h:=fun _=>rfl
  refine ⟨t1,y6,x7,x8,x9,x10,some (.int ((B.map (·.n)).idxOf x:Nat)),some (.int (bl.length:Nat)),?_⟩
  rw [← List.append_assoc,show rwPs ns ps=rwPs ns (pa (.usew x ps hs b)) from rfl,hacc]
  generalize (B.map (·.n)).idxOf x=I at ix ap
  simp only [EX,qN,sI,ud,Et,AP,jd,dM,ot,sb,lq,bW,cm3,Bt,ix,jj,nln,nn,a0,ls,ad,rc,e1,tp,si,ap]
theorem oR(B:List Pc)(lB:B.length≤1000)(d:Nat)(d20:d≤20)(ok:∀ d'<d,rm B d')(K:Nat)(hK:2 * d+2≤K)(m:Option Int)(ns:List (List Nat))(hn:sgs ns=true)(ln:ns.length+4 * d≤1000)(a:PV):∀ (b:Nds) (bl:List PV) (t:List PO) (acc:List PV) (x5 x6 x7 x8 x9 x10 x11 x12:Option PV),dS b≤d→wS b=true→okS (B.map pOf,m,ns) b=true→am bl=true→bl.length+ctS b≤100000→ctS b≤10000→acc.length+20 * ctS b≤1000000→
  ∃ (t':List PO) (y5 y6 y7 y8 y9 y10 y11 y12:Option PV),bg (gNm 5) (fY (F K) (L K)) (nds b) (rE B ns a (t.length+1) x5 x6 x7 x8 x9 x10 x11 x12) (hR bl t acc)= .nx (rE B ns a (t'.length+1) y5 y6 y7 y8 y9 y10 y11 y12) (hR (rwS (B.map (·.n)) ns bl b).2 t' (acc++(rwS (B.map (·.n)) ns bl b).1))
 | .nil,bl,t,acc,x5,x6,x7,x8,x9,x10,x11,x12,_,_,_,_,_,_,_=>⟨t,x5,x6,x7,x8,x9,x10,x11,x12,by rw [nds,bg,rwS,List.append_nil]⟩
 | .cons n r,bl,t,acc,x5,x6,x7,x8,x9,x10,x11,x12,hd,w,o,pb,lb,cn,la=>by
  rw [dS] at hd;rw [wS,Bool.and_eq_true] at w;rw [okS,Bool.and_eq_true] at o;rw [ctS] at lb cn la
  have d1:=Nat.le_max_left (dN n) (dS r)
  have d2:=Nat.le_max_right (dN n) (dS r)
  obtain ⟨t1,y6,y7,y8,y9,y10,y11,y12,e⟩:=wh B lB d d20 ok K hK m ns hn ln a n (by omega) w.1 o.1 bl pb (by omega) (by omega) t acc (by omega) x6 x7 x8 x9 x10 x11 x12
  have rl:=mB (B.map (·.n)) ns bl n w.1
  have rp:=eQ (B.map (·.n)) ns bl pb n
  obtain ⟨t2,z5,z6,z7,z8,z9,z10,z11,z12,e2⟩:=oR B lB d d20 ok K hK m ns hn ln a r (rwN (B.map (·.n)) ns bl n).2 t1 (acc++(rwN (B.map (·.n)) ns bl n).1) (some (nd n)) y6 y7 y8 y9 y10 y11 y12 (by omega) w.2 o.2 rp.2 (by omega) (by omega) (by rw [List.length_append];omega)
  refine ⟨t2,z5,z6,z7,z8,z9,z10,z11,z12,?_⟩
  rw [nds,rwS]
  dsimp only
  rw [← List.append_assoc]
  exact Eq.trans (cO rfl e) e2
theorem zY(B:List Pc)(lB:B.length≤1000):∀ d,d≤20→rm B d:=by
 intro d
 induction d using Nat.strongRecOn with
 | ind d ih=>
  intro d20 b m ns bl K hd w o hn ln pb lb cb hK
  obtain ⟨k,rfl⟩:∃ k,K=k+1:=⟨K - 1,by omega⟩
  obtain ⟨t',y5,y6,y7,y8,y9,y10,y11,y12,e⟩:=oR B lB d d20 (fun d' h=>ih d' h (by omega)) k (by omega) m ns hn ln (.tup (nds b)) b bl [] [] none none none none none none none none hd w o pb lb cb (by rw [List.length_nil];omega)
  have pp:=cL (B.map (·.n)) ns bl pb b
  have r2:∀ x,kA (F k) (L k) [some (bk B),some (.ref 0),some (mnu ns),some (.tup (nds b)),none,none,none,none,none,none,none,none,none] [.lst bl]=x→L (k+1) .l_rows [bk B,.ref 0,mnu ns,.tup (nds b)] [.lst bl]=mq x:=fun x e=>by subst e;rfl
  have lm:eM [] [.lst bl]= .ok (.ref 1) [.lst bl,.lst []]:=rfl
  have e':bg (gNm 5) (fY (F k) (L k)) (nds b) [some (bk B),some (.ref 0),some (mnu ns),some (.tup (nds b)),some (.ref 1),none,none,none,none,none,none,none,none] [.lst bl,.lst []]= .nx (rE B ns (.tup (nds b)) (t'.length+1) y5 y6 y7 y8 y9 y10 y11 y12) (hR (rwS (B.map (·.n)) ns bl b).2 t' (rwS (B.map (·.n)) ns bl b).1):=by
   have:=e
   rw [List.nil_append] at this
   exact this
  rw [r2 _ rfl]
  simp only [EX,kA,lm,e',qN]
  generalize rwS (B.map (·.n)) ns bl b=R at pp ⊢
  show iu 1 (.ref (t'.length+1)) (hR R.2 t' R.1)=_
  have fr:ir (hR R.2 t' R.1) (.ref (t'.length+1))=some (.lst R.1,(hR R.2 t' R.1).set (t'.length+1) (.froz (.lst R.1))):=by
   unfold ir;dsimp only;rw [ly];dsimp only;rw [if_pos pp.1]
  unfold iu;rw [fr]
  show lG 1 (.lst R.1) (PO.lst R.2::(t'++ [PO.lst R.1]).set t'.length (.froz (.lst R.1)))=_
  unfold lG
  rw [if_pos (by show (((PO.lst R.2).pure&&true)&&true)=true;rw [show (PO.lst R.2).pure=true from pp.2];rfl)];rfl
def cpB(bn:List (List Nat))(bl:List PV)(i:Nat):List Pc→List PV
 | []=>bl
 | q::r=>cpB bn ((rwS bn q.ns bl q.b).2.set i (.tup ((rwS bn q.ns bl q.b).1++ [.tup [.str eW]]))) (i+1) r
theorem ou(bn:List (List Nat)):∀ (r:List Pc) (bl:List PV) (i:Nat),am bl=true→am (cpB bn bl i r)=true
 | [],bl,i,h=>h
 | q::r,bl,i,h=>by
  have pp:=cL bn q.ns bl h q.b
  exact ou bn r _ _ (gX _ pp.2 (by rw [PV.pure,aO,pp.1];rfl))
abbrev dE(B:List Pc)(x2 x3:Option PV):Ev:= [some (bk B),some (.ref 0),x2,x3]
theorem sN(B:List Pc)(lB:B.length≤4)(g:∀ q∈B,wC q=true∧dS q.b≤3∧ctS q.b≤2100∧q.ns.length≤4)(o:∀ q∈B,okS (B.map pOf,q.m,q.ns) q.b=true)(K:Nat)(hK:9≤K):∀ (r:List Pc) (i:Nat) (bl:List PV) (x2 x3:Option PV),(∀ q∈r,q∈B)→i+r.length≤bl.length→bl.length+2100 * r.length≤50000→am bl=true→
  ∃ y2 y3,bg (gTp 2 (bR (gNm 2) (bR (gNm 3) gg))) (jg (F K) (L K)) (enL i (r.map pc)) (dE B x2 x3) [.lst bl]= .nx (dE B y2 y3) [.lst (cpB (B.map (·.n)) bl i r)]
 | [],i,bl,x2,x3,_,_,_,_=>⟨x2,x3,rfl⟩
 | q::r,i,bl,x2,x3,hr,hi,hl,pb=>by
  rw [List.length_cons] at hi hl
  have qB:=hr q List.mem_cons_self
  obtain ⟨g1,g2,g3,g4⟩:=g q qB
  unfold wC at g1
  simp only [Bool.and_eq_true,decide_eq_true_eq] at g1
  have rc:=zY B (by omega) 3 (by omega) q.b q.m q.ns bl K g2 g1.2.2.2.1 (o q qB) g1.2.1 (by omega) pb (by omega) (by omega) (by omega)
  have rl:=cD (B.map (·.n)) q.ns bl q.b g1.2.2.2.1
  have rp:=cL (B.map (·.n)) q.ns bl pb q.b
  have cc:callL (L K .l_rows) [bk B,.ref 0,mnu q.ns,.tup (nds q.b)] [.lst bl]= .ok (.lst (rwS (B.map (·.n)) q.ns bl q.b).1) [.lst (rwS (B.map (·.n)) q.ns bl q.b).2]:=by
   refine eP (fn:=L K .l_rows) [bk B] [mnu q.ns,.tup (nds q.b)] (h:= [.lst bl]) (i:=0) (o:=.lst bl) ?_ ?_ rfl pb rc ?_ rp.2
   ·rw [am,kx];rfl
   ·rw [am,am,am,gf,PV.pure,du];rfl
   ·rw [PV.pure];exact rp.1
  have p2:am ((rwS (B.map (·.n)) q.ns bl q.b).2.set i (.tup ((rwS (B.map (·.n)) q.ns bl q.b).1++ [.tup [.str eW]])))=true:=gX _ rp.2 (by rw [PV.pure,aO,rp.1];rfl)
  obtain ⟨y2,y3,e2⟩:=sN B lB g o K hK r (i+1) ((rwS (B.map (·.n)) q.ns bl q.b).2.set i (.tup ((rwS (B.map (·.n)) q.ns bl q.b).1++ [.tup [.str eW]]))) (some (.int i)) (some (pc q)) (fun z hz=>hr z (List.mem_cons_of_mem _ hz)) (by rw [List.length_set];omega) (by rw [List.length_set];omega) p2
  refine ⟨y2,y3,?_⟩
  have ls:∀ h,lM [nms q.ns] h= .ok (mnu q.ns) h:=fun _=>rfl
  have d0:∀ xs:List PV,aq [.lst xs] (.ref 0)= .ref 0:=fun _=>rfl
  generalize hR:rwS (B.map (·.n)) q.ns bl q.b=R at cc rl e2
  obtain ⟨R1,R2⟩:=R
  dsimp only at cc rl e2
  have ad:∀ h,ay (.lst R1) (.lst [.tup [.str eW]]) h= .ok (.lst (R1++ [.tup [.str eW]])) h:=fun h=>bh _ _ h (by simp only [List.length_cons,List.length_nil];omega)
  have tp:∀ h,cF [.lst (R1++ [.tup [.str eW]])] h= .ok (.tup (R1++ [.tup [.str eW]])) h:=fun _=>rfl
  have si:∀ (v:PV) ρ,dG v (.ref 0) (.int i) ρ [.lst R2]= .nx ρ [.lst (R2.set i v)]:=fun v ρ=>by
   unfold dG
   have e2:fK [.lst R2] (.ref 0)=some (0,R2):=rfl
   have e3:ixN R2.length (i:Int)=some i:=by unfold ixN;rw [if_pos (by omega),if_pos (by omega),Int.toNat_natCast]
   rw [e2];dsimp only;rw [e3];rfl
  have st:jg (F K) (L K) (dE B (some (.int i)) (some (pc q))) [.lst bl]= .nx (dE B (some (.int i)) (some (pc q))) [.lst (R2.set i (.tup (R1++ [.tup [.str eW]])))]:=by
   simp only [EX,jg,d0,jd,ls,cc,ad,tp,si]
  rw [cpB,hR]
  rw [List.map_cons]
  show bg _ _ (.tup [.int i,pc q]::enL (i+1) (r.map pc)) _ _=_
  exact Eq.trans (cO rfl st) e2
theorem CP(K:Nat)(hK:9≤K)(B:List Pc)(lB:B.length≤4)(g:∀ q∈B,wC q=true∧dS q.b≤3∧ctS q.b≤2100∧q.ns.length≤4)(o:∀ q∈B,okS (B.map pOf,q.m,q.ns) q.b=true):F (K+1) .l_due [bk B]= .ok (.tup (cpB (B.map (·.n)) (dI [.tup []] (B.length:Int)) 0 B)):=by
 have rl:(dI [PV.tup []] (B.length:Int)).length=B.length:=by
  unfold dI
  rw [Int.toNat_natCast]
  generalize B.length=n
  induction n with
  | zero=>rfl
  | succ n ih=>rw [List.replicate_succ,List.flatten_cons,List.length_append,ih];simp;omega
 have rp:am (dI [PV.tup []] (B.length:Int))=true:=by
  unfold dI
  rw [Int.toNat_natCast]
  generalize B.length=n
  induction n with
  | zero=>rfl
  | succ n ih=>rw [List.replicate_succ,List.flatten_cons,aO,ih];rfl
 obtain ⟨y2,y3,e⟩:=sN B lB g o K hK B 0 (dI [.tup []] (B.length:Int)) none none (fun q h=>h) (by omega) (by omega) rp
 have r2:F (K+1) .l_due [bk B]=match mQ (F K) (L K) [some (bk B),none,none,none] [] with
   | .nx _ _=>.ok .non
   | .rt v h=>gh v h
   | _=>.bad:=rfl
 have mm:oV (.lst [.tup []]) (.int (B.length:Int)) []= .ok (.ref 0) [.lst (dI [.tup []] (B.length:Int))]:=by
  show (if bel 9223372036854775808 (B.length:Int)=true∧1 * (B.length:Int).toNat≤sizeLine then Res.ok (PV.ref 0) [PO.lst (dI [.tup []] (B.length:Int))] else .bad)=_
  rw [if_pos ⟨bX.mpr ⟨by omega,by omega⟩,by rw [Int.toNat_natCast];exact Nat.le_trans (by omega:_≤4) (by decide)⟩]
 have en:∀ h,uh [bk B] h= .ok (enL 0 (B.map pc)) h:=fun _=>rfl
 have tp:∀ xs:List PV,cF [.ref 0] [.lst xs]= .ok (.tup xs) [.lst xs]:=fun _=>rfl
 have d0:∀ xs:List PV,aq [.lst xs] (.ref 0)= .ref 0:=fun _=>rfl
 rw [r2]
 simp only [EX,mQ,jd,mm,en,e,dE,d0,tp]
 exact fM (by rw [PV.pure];exact ou _ _ _ _ rp)
def hC(nu:List (PK×PV))(bl:List PV)(t:List PO):List PO:=.obj 603 [.ref 1,.ref 2]::.dct nu::.lst bl::t
section
variable (nu:List (PK×PV)) (bl:List PV) (t:List PO)
theorem mj:oH 603 (hC nu bl t) (.ref 0)=some (0,[.ref 1,.ref 2]):=rfl
theorem kq:aq (hC nu bl t) (.ref 0)= .ref 0:=rfl
theorem By:nL 603 0 (.ref 0) (hC nu bl t)= .ok (.ref 1) (hC nu bl t):=rfl
theorem yY:nL 603 1 (.ref 0) (hC nu bl t)= .ok (.ref 2) (hC nu bl t):=rfl
theorem CK:bv [.ref 2] (hC nu bl t)= .ok (.int bl.length) (hC nu bl t):=rfl
theorem GT:bM (hC nu bl t) (.ref 2)=true:=rfl
theorem GU(x:PV)(hl:bl.length<16000000):bH (.ref 2) [x] (hC nu bl t)= .ok .non (hC nu (bl++ [x]) t):=by
 rw [pP (h:=hC nu bl t) (i:=2) (acc:=bl) rfl x hl];rfl
theorem GS{i:Nat}(hi:i<bl.length)(v:PV)(ρ:Ev):dG v (.ref 2) (.int i) ρ (hC nu bl t)= .nx ρ (hC nu (bl.set i v) t):=by
 unfold dG
 have e2:fK (hC nu bl t) (.ref 2)=some (2,bl):=rfl
 have e3:ixN bl.length (i:Int)=some i:=by unfold ixN;rw [if_pos (by omega),if_pos (by omega),Int.toNat_natCast]
 rw [e2];dsimp only;rw [e3];rfl
theorem qO(xs:List PV)(t2:List PO):(hC nu bl (t++.lst xs::t2))[t.length+3]? =some (.lst xs):=by
 unfold hC
 rw [List.getElem?_cons_succ,List.getElem?_cons_succ,List.getElem?_cons_succ];simp
variable {nu bl t}
theorem ue(pn:cW nu=true)(pb:am bl=true)(pt:bq t=true)(t2:List PO)(v:PV):qY (t.length+3) v (hC nu bl (t++t2))= .ok v (hC nu bl t):=by
 have tk:(hC nu bl (t++t2)).take (t.length+3)=hC nu bl t:=by
  unfold hC
  rw [List.take_succ_cons,List.take_succ_cons,List.take_succ_cons,List.take_left]
 have al:(hC nu bl t).all (ltP (t.length+3))=true:=by
  show (ltP (t.length+3) (.obj 603 [.ref 1,.ref 2])&&(ltP (t.length+3) (.dct nu)&&(ltP (t.length+3) (.lst bl)&&t.all (ltP (t.length+3)))))=true
  have a:ltP (t.length+3) (.obj 603 [.ref 1,.ref 2])=true:=by simp [ltP,ltv]
  have b: [PO.dct nu,.lst bl].all (ltP (t.length+3))=true:=Z.gY (by show ((PO.dct nu).pure&&((PO.lst bl).pure&&true))=true;rw [show (PO.dct nu).pure=true from pn,show (PO.lst bl).pure=true from pb];rfl)
  simp only [List.all_cons,List.all_nil,Bool.and_true,Bool.and_eq_true] at b
  rw [a,b.1,b.2,Z.gY pt];rfl
 unfold qY
 rw [tk,al,if_pos (by rw [Bool.true_and];exact Nat.ble_eq_true_of_le (by simp only [hC,List.length_cons,List.length_append];omega))]
theorem lA(pn:cW nu=true)(pb:am bl=true)(pt:bq t=true)(t2:List PO){v:PV}(hv:v.pure=true):uf (t.length+3) v (hC nu bl (t++t2))= .ok v (hC nu bl t):=by
 unfold uf
 rw [if_pos (yH hv)]
 exact ue pn pb pt t2 v
theorem AQ(pn:cW nu=true)(pb:am bl=true)(pt:bq t=true)(xs:List PV)(px:am xs=true)(t2:List PO):uf (t.length+3) (.ref (t.length+3)) (hC nu bl (t++.lst xs::t2))= .ok (.lst xs) (hC nu bl t):=by
 unfold uf
 rw [if_neg (by simp [ltv])]
 have fr:ir (hC nu bl (t++.lst xs::t2)) (.ref (t.length+3))=some (.lst xs,hC nu bl (t++.froz (.lst xs)::t2)):=by
  unfold ir;dsimp only;rw [qO];dsimp only;rw [if_pos px]
  unfold hC
  rw [List.set_cons_succ,List.set_cons_succ,List.set_cons_succ,List.set_append_right _ _ (Nat.le_refl _),Nat.sub_self];rfl
 rw [fr]
 exact ue pn pb pt (.froz (.lst xs)::t2) _
theorem Bz(xs:List PV)(t2:List PO):aq (hC nu bl (t++.lst xs::t2)) (.ref (t.length+3))= .ref (t.length+3):=CQ (qO nu bl t xs t2)
theorem Ey(xs:List PV)(t2:List PO):bM (hC nu bl (t++.lst xs::t2)) (.ref (t.length+3))=true:=Bv (qO nu bl t xs t2)
theorem GR(xs ys:List PV)(hl:xs.length+ys.length≤10000000):cG (.ref (t.length+3)) [.lst ys] (hC nu bl (t++ [.lst xs]))= .ok .non (hC nu bl (t++ [.lst (xs++ys)])):=by
 have e:fK (hC nu bl (t++ [.lst xs])) (.ref (t.length+3))=some (t.length+3,xs):=by
  show (match (hC nu bl (t++ [.lst xs]))[t.length+3]? with | some (.lst xs)=>some (t.length+3,xs) | _=>none)=_
  rw [qO]
 show (match fK (hC nu bl (t++ [.lst xs])) (.ref (t.length+3)),some ys with | some (i,us),some vs=>if us.length+vs.length≤sizeLine then Res.ok PV.non ((hC nu bl (t++ [PO.lst xs])).set i (PO.lst (us++vs))) else .bad | _,_=>.bad)=_
 rw [e];dsimp only
 rw [if_pos (Nat.le_trans hl (by decide))]
 unfold hC
 rw [List.set_cons_succ,List.set_cons_succ,List.set_cons_succ,List.set_append_right _ _ (Nat.le_refl _),Nat.sub_self];rfl
end
theorem nG(k:Nat)(ns:List (List Nat))(hn:sgs ns=true):∀ (ps:List Pth) (acc:List PV) (x3:Option PV) (a:PV),(∀ p∈ps,p.a∈ns∧wp p=true)→acc.length+4 * ps.length≤1000000→∃ y3,bg (gNm 3) (dA (F (k+2))) (pths ps) [some a,some (nms ns),some (.ref 0),x3] [.lst acc]= .nx [some a,some (nms ns),some (.ref 0),y3] [.lst (acc++rwPs ns ps)]
 | [],acc,x3,a,_,_=>⟨x3,by show bg _ _ [] _ _=_;rw [bg,show rwPs ns []= [] from rfl,List.append_nil]⟩
 | p::r,acc,x3,a,hp,hl=>by
  rw [List.length_cons] at hl
  obtain ⟨p1,p2⟩:=hp p List.mem_cons_self
  have cp:∀ h,dv (F (k+2) .rows_of_path) [pth p,nms ns] h= .ok (.lst (rwP ns p)) h:=fun h=>cH h (by rw [am,am,fJ,dK];rfl) (jk k ns p hn p1 p2)
  have l4:=fV ns p2
  have d0:∀ xs:List PV,aq [.lst xs] (.ref 0)= .ref 0:=fun _=>rfl
  have ex:cG (.ref 0) [.lst (rwP ns p)] [.lst acc]= .ok .non [.lst (acc++rwP ns p)]:=by
   show (if acc.length+(rwP ns p).length≤sizeLine then Res.ok PV.non [PO.lst (acc++rwP ns p)] else .bad)=_
   rw [if_pos (Nat.le_trans (by omega:_≤1000000) (by decide))]
  have st:dA (F (k+2)) [some a,some (nms ns),some (.ref 0),some (pth p)] [.lst acc]= .nx [some a,some (nms ns),some (.ref 0),some (pth p)] [.lst (acc++rwP ns p)]:=by
   simp only [EX,dA,d0,yU,cp,ex]
  obtain ⟨y3,e⟩:=nG k ns hn r (acc++rwP ns p) (some (pth p)) a (fun q hq=>hp q (List.mem_cons_of_mem _ hq)) (by rw [List.length_append];omega)
  refine ⟨y3,?_⟩
  have e2:acc++rwPs ns (p::r)=acc++rwP ns p++rwPs ns r:=by unfold rwPs;rw [List.flatMap_cons,List.append_assoc]
  rw [e2]
  exact Eq.trans (cO rfl st) e
theorem gO(k:Nat)(ns:List (List Nat))(hn:sgs ns=true)(ps:List Pth)(hp:∀ p∈ps,p.a∈ns∧wp p=true)(hl:ps.length≤1000)(h:List PO):dv (F (k+3) .rows_of_paths) [.tup (pths ps),nms ns] h= .ok (.lst (rwPs ns ps)) h:=by
 obtain ⟨y3,e⟩:=nG k ns hn ps [] none (.tup (pths ps)) hp (by rw [List.length_nil];omega)
 rw [List.nil_append] at e
 have r2:F (k+3) .rows_of_paths [.tup (pths ps),nms ns]=match eh (F (k+2)) [some (.tup (pths ps)),some (nms ns),none,none] [] with
   | .nx _ _=>.ok .non
   | .rt v h=>gh v h
   | _=>.bad:=rfl
 refine cH h (by rw [am,am,fJ,PV.pure,eZ];rfl) ?_
 have lm:eM [] []= .ok (.ref 0) [.lst []]:=rfl
 have d0:∀ xs:List PV,aq [.lst xs] (.ref 0)= .ref 0:=fun _=>rfl
 rw [r2]
 simp only [EX,eh,lm,e,d0]
 exact qT rfl (gU ns ps)
def je(B:List Pc)(nu:List (PK×PV))(d:Nat):Prop:=∀ (b:Nds) (m:Option Int) (ns:List (List Nat)) (bl:List PV) (t:List PO) (K:Nat),dS b≤d→wS b=true→okS (B.map pOf,m,ns) b=true→sgs ns=true→ns.length+4 * d≤1000→am bl=true→bl.length+ctS b≤100000→ctS b≤10000→bq t=true→6 * d+6≤K→
 X_ K .Compiler_rows_of [.ref 0,.tup (nds b),nms ns] (hC nu bl t)= .ok (.lst (rwS (B.map (·.n)) ns bl b).1) (hC nu (rwS (B.map (·.n)) ns bl b).2 t)
def sM(n:Nat)(r:SR):Res PV:=match r with
 | .nx _ h1=>qY n .non h1
 | .rt v h1=>uf n v h1
 | .exc e h1=>CT n e h1
 | _=>.bad
def lZ(B:List Pc)(nu:List (PK×PV)):Prop:=cW nu=true∧∀ x,(B.map (·.n)).contains x=true→hZ nu (.inr x)=some (.int ((B.map (·.n)).idxOf x:Nat))
theorem Bl{B:List Pc}{nu:List (PK×PV)}(h:lZ B nu){x:List Nat}(hx:(B.map (·.n)).contains x=true)(bl:List PV)(t:List PO):pIx (.ref 1) (.str x) (hC nu bl t)= .ok (.int ((B.map (·.n)).idxOf x:Nat)) (hC nu bl t):=by
 show (match hZ nu (.inr x) with | some v=>Res.ok (aq (hC nu bl t) v) (hC nu bl t) | none=>Res.bad)=_
 rw [h.2 x hx];rfl
theorem Cz(a:List (List Nat))(x:List Nat)(h:List PO)(hl:a.length≤10000):ay (nms a) (.tup [.str x]) h= .ok (nms (a++ [x])) h:=BC a [x] h (by rw [List.length_singleton];omega)
theorem zT(z:Nds)(h:List PO):pT h (.tup (nds z))=some (Av z):=by
 cases z with
 | nil=>rw [nds];rfl
 | cons n r=>rw [nds];rfl
section
variable {B:List Pc} {nu:List (PK×PV)}
theorem wA(d:Nat)(ok:je B nu d)(hnu:lZ B nu)(k:Nat)(hk:6 * d+6≤k)(m:Option Int)(ns:List (List Nat))(hn:sgs ns=true)(ln:ns.length+4 * (d+1)≤1000)(x:List Nat)(p:Pth)(b:Nds)(s:List Nat)(hd:dS b≤d)(w:wN (.loop x p b s)=true)(o:okN (B.map pOf,m,ns) (.loop x p b s)=true)(bl:List PV)(pb:am bl=true)(lb:bl.length+ctS b≤99999)(cn:ctS b≤9999)(t:List PO)(pt:bq t=true):
  X_ (k+1) .Compiler_rows_of_loop [.ref 0,nd (.loop x p b s),nms ns] (hC nu bl t)= .ok (.lst (rwN (B.map (·.n)) ns bl (.loop x p b s)).1) (hC nu (rwN (B.map (·.n)) ns bl (.loop x p b s)).2 t):=by
 have pp:=eQ (B.map (·.n)) ns bl pb (.loop x p b s)
 obtain ⟨p1,p2⟩:=jF w o p (by simp [pa])
 rw [okN,Bool.and_eq_true] at o
 rw [wN,Bool.and_eq_true,Bool.and_eq_true,Bool.and_eq_true] at w
 have sx:sgs (ns++ [x])=true:=jh hn (by simp [sgs,w.1])
 obtain ⟨k',rfl⟩:∃ k',k=k'+2:=⟨k - 2,by omega⟩
 have rc:=ok b m (ns++ [x]) bl t (k'+2) hd w.2.2.1 o.2 sx (by rw [List.length_append,List.length_singleton];omega) pb (by omega) (by omega) pt hk
 have rl:=cD (B.map (·.n)) (ns++ [x]) bl b w.2.2.1
 have cp:∀ h,dv (F (k'+2) .rows_of_path) [pth p,nms ns] h= .ok (.lst (rwP ns p)) h:=fun h=>cH h (by rw [am,am,fJ,dK];rfl) (jk k' ns p hn p1 p2)
 have l4:=fV ns p2
 have tu:=fun h=>Cz ns x h (by omega)
 have nl:∀ h,bv [nms ns] h= .ok (.int ns.length) h:=fun h=>mE h ns
 have r2:∀ z,bJ (F (k'+2)) (X_ (k'+2)) [some (.ref 0),some (nd (.loop x p b s)),some (nms ns),none,none,none] (hC nu bl t)=z→X_ (k'+2+1) .Compiler_rows_of_loop [.ref 0,nd (.loop x p b s),nms ns] (hC nu bl t)=sM (t.length+3) z:=fun z e=>by subst e;rfl
 rw [r2 _ rfl]
 rw [rwN] at pp ⊢
 dsimp only at pp ⊢
 generalize rwS (B.map (·.n)) (ns++ [x]) bl b=R at rc rl pp
 obtain ⟨R1,R2⟩:=R
 dsimp only at rc rl pp ⊢
 let H:List PV:= [.tup [.str nj],.tup [.str nk,.int (ns.length:Nat),.int ((R1.length:Nat)+1),.str s]]
 have e1:∀ h,ay (.lst (rwP ns p)) (.lst [.tup [.str nj],.tup [.str nk,.int (ns.length:Nat),.int ((R1.length:Nat)+1),.str s]]) h= .ok (.lst (rwP ns p++H)) h:=fun h=>bh _ _ h (by simp only [List.length_cons,List.length_nil];omega)
 have e2:∀ h,ay (.lst (rwP ns p++H)) (.lst R1) h= .ok (.lst (rwP ns p++H++R1)) h:=fun h=>bh _ _ h (by simp only [H,List.length_append,List.length_cons,List.length_nil];omega)
 have e3:∀ h,ay (.lst (rwP ns p++H++R1)) (.lst [.tup [.str nr,.int ((R1.length:Nat)+1)]]) h= .ok (.lst (rwP ns p++H++R1++ [.tup [.str nr,.int ((R1.length:Nat)+1)]])) h:=fun h=>bh _ _ h (by simp only [H,List.length_append,List.length_cons,List.length_nil];omega)
 have ea:rwP ns p++(H++(R1++ [.tup [.str nr,.int ((R1.length:Nat)+1)]]))=rwP ns p++H++R1++ [.tup [.str nr,.int ((R1.length:Nat)+1)]]:=by simp only [List.append_assoc]
 have fi:=lA (nu:=nu) hnu.1 pp.2 pt [] (v:=.lst (rwP ns p++(H++(R1++ [.tup [.str nr,.int ((R1.length:Nat)+1)]])))) (by rw [PV.pure];exact pp.1)
 rw [List.append_nil] at fi
 have run:bJ (F (k'+2)) (X_ (k'+2)) [some (.ref 0),some (nd (.loop x p b s)),some (nms ns),none,none,none] (hC nu bl t)= .rt (.lst (rwP ns p++(H++(R1++ [.tup [.str nr,.int ((R1.length:Nat)+1)]])))) (hC nu R2 t):=by
  rw [ea]
  simp only [EX,bJ,kq,mj,tu,rc,nl,cp,e1,e2,e3]
 rw [run];exact fi
theorem rT(d:Nat)(ok:je B nu d)(hnu:lZ B nu)(k:Nat)(hk:6 * d+6≤k)(m:Option Int)(ns:List (List Nat))(hn:sgs ns=true)(ln:ns.length+4 * (d+1)≤1000)(p:Pth)(y z:Nds)(hy:dS y≤d)(hz:dS z≤d)(w:wN (.choice p y z)=true)(o:okN (B.map pOf,m,ns) (.choice p y z)=true)(bl:List PV)(pb:am bl=true)(lb:bl.length+ctS y+ctS z≤99999)(cn:ctS y+ctS z≤9999)(t:List PO)(pt:bq t=true):
  X_ (k+1) .Compiler_rows_of_choice [.ref 0,nd (.choice p y z),nms ns] (hC nu bl t)= .ok (.lst (rwN (B.map (·.n)) ns bl (.choice p y z)).1) (hC nu (rwN (B.map (·.n)) ns bl (.choice p y z)).2 t):=by
 have pp:=eQ (B.map (·.n)) ns bl pb (.choice p y z)
 obtain ⟨p1,p2⟩:=jF w o p (by simp [pa])
 rw [okN,Bool.and_eq_true,Bool.and_eq_true] at o
 rw [wN,Bool.and_eq_true,Bool.and_eq_true] at w
 obtain ⟨k',rfl⟩:∃ k',k=k'+2:=⟨k - 2,by omega⟩
 have rl1:=cD (B.map (·.n)) ns bl y w.2.1
 have rp1:=cL (B.map (·.n)) ns bl pb y
 have rc1:=ok y m ns bl t (k'+2) hy w.2.1 o.2.1 hn (by omega) pb (by omega) (by omega) pt hk
 have rc2:=ok z m ns (rwS (B.map (·.n)) ns bl y).2 t (k'+2) hz w.2.2 o.2.2 hn (by omega) rp1.2 (by omega) (by omega) pt hk
 have rl2:=cD (B.map (·.n)) ns (rwS (B.map (·.n)) ns bl y).2 z w.2.2
 have cp:∀ h,dv (F (k'+2) .rows_of_path) [pth p,nms ns] h= .ok (.lst (rwP ns p)) h:=fun h=>cH h (by rw [am,am,fJ,dK];rfl) (jk k' ns p hn p1 p2)
 have l4:=fV ns p2
 have r2:∀ q,bj (F (k'+2)) (X_ (k'+2)) [some (.ref 0),some (nd (.choice p y z)),some (nms ns),none,none] (hC nu bl t)=q→X_ (k'+2+1) .Compiler_rows_of_choice [.ref 0,nd (.choice p y z),nms ns] (hC nu bl t)=sM (t.length+3) q:=fun z e=>by subst e;rfl
 rw [r2 _ rfl]
 rw [rwN] at pp ⊢
 dsimp only at pp ⊢
 generalize rwS (B.map (·.n)) ns bl y=R at rc1 rl1 rc2 rl2 pp
 obtain ⟨R1,R2⟩:=R
 dsimp only at rc1 rl1 rc2 rl2 pp ⊢
 generalize rwS (B.map (·.n)) ns R2 z=S at rc2 rl2 pp
 obtain ⟨S1,S2⟩:=S
 dsimp only at rc2 rl2 pp ⊢
 have sk:=my z S1
 have fi:=lA (nu:=nu) hnu.1 pp.2 pt [] (v:=.lst (rwP ns p++([.tup [.str gW,.int ((R1++skp z S1).length:Nat)]]++(R1++(skp z S1++S1))))) (by rw [PV.pure];exact pp.1)
 rw [List.append_nil] at fi
 have run:bj (F (k'+2)) (X_ (k'+2)) [some (.ref 0),some (nd (.choice p y z)),some (nms ns),none,none] (hC nu bl t)= .rt (.lst (rwP ns p++([.tup [.str gW,.int ((R1++skp z S1).length:Nat)]]++(R1++(skp z S1++S1))))) (hC nu S2 t):=by
  have ea:rwP ns p++([.tup [.str gW,.int ((R1++skp z S1).length:Nat)]]++(R1++(skp z S1++S1)))=rwP ns p++ [.tup [.str gW,.int ((R1++skp z S1).length:Nat)]]++(R1++skp z S1)++S1:=by simp only [List.append_assoc]
  rw [ea]
  have tr:=zT z
  have lY:(R1++skp z S1).length≤16000000:=by rw [List.length_append];omega
  have e1:∀ h,ay (.lst (rwP ns p)) (.lst [.tup [.str gW,.int ((R1++skp z S1).length:Nat)]]) h= .ok (.lst (rwP ns p++ [.tup [.str gW,.int ((R1++skp z S1).length:Nat)]])) h:=fun h=>bh _ _ h (by simp only [List.length_cons,List.length_nil];omega)
  have e2:∀ h,ay (.lst (rwP ns p++ [.tup [.str gW,.int ((R1++skp z S1).length:Nat)]])) (.lst (R1++skp z S1)) h= .ok (.lst (rwP ns p++ [.tup [.str gW,.int ((R1++skp z S1).length:Nat)]]++(R1++skp z S1))) h:=fun h=>bh _ _ h (by simp only [List.length_append,List.length_cons,List.length_nil];omega)
  have e3:∀ h,ay (.lst (rwP ns p++ [.tup [.str gW,.int ((R1++skp z S1).length:Nat)]]++(R1++skp z S1))) (.lst S1) h= .ok (.lst (rwP ns p++ [.tup [.str gW,.int ((R1++skp z S1).length:Nat)]]++(R1++skp z S1)++S1)) h:=fun h=>bh _ _ h (by simp only [List.length_append,List.length_cons,List.length_nil];omega)
  have lU:∀ h,bv [.lst (R1++skp z S1)] h= .ok (.int ((R1++skp z S1).length:Nat)) h:=fun h=>by rw [lR]
  cases en:Av z with
  | true=>
   have ek:∀ h,ay (.lst R1) (.lst [.tup [.str Af,.int (S1.length:Nat)]]) h= .ok (.lst (R1++skp z S1)) h:=fun h=>by
    cases z with
    | nil=>cases en
    | cons n r=>exact bh _ _ h (by simp only [List.length_cons,List.length_nil];omega)
   generalize R1++skp z S1=RS at ek e1 e2 e3 lU
   generalize RS.length=U at e1 e2 e3 lU
   simp only [EX,bj,kq,mj,rc1,rc2,tr,en,ek,cp,lU,e1,e2,e3]
  | false=>
   have ek:R1++skp z S1=R1:=by
    cases z with
    | nil=>exact List.append_nil _
    | cons n r=>cases en
   rw [ek] at e1 e2 e3 lU ⊢
   simp only [EX,bj,kq,mj,rc1,rc2,tr,en,cp,lU,e1,e2,e3]
 rw [run];exact fi
theorem nB(d:Nat)(ok:je B nu d)(hnu:lZ B nu)(k:Nat)(hk:6 * d+6≤k)(m:Option Int)(ns:List (List Nat))(hn:sgs ns=true)(ln:ns.length+4 * d≤1000)(b:Nds)(hd:dS b≤d)(w:wS b=true)(o:okS (B.map pOf,m,ns) b=true)(i:Nat)(bl:List PV)(hi:i<bl.length)(pb:am bl=true)(lb:bl.length+ctS b≤100000)(cn:ctS b≤10000)(t:List PO)(pt:bq t=true):
  X_ (k+1) .Compiler_compile_block [.ref 0,.int (i:Nat),.tup (nds b),nms ns] (hC nu bl t)= .ok .non (hC nu ((rwS (B.map (·.n)) ns bl b).2.set i (.tup ((rwS (B.map (·.n)) ns bl b).1++ [.tup [.str eW]]))) t):=by
 have rc:=ok b m ns bl t k hd w o hn ln pb lb cn pt hk
 have rl:=cD (B.map (·.n)) ns bl b w
 have pp:=cL (B.map (·.n)) ns bl pb b
 have r2:∀ q,bE (F k) (X_ k) [some (.ref 0),some (.int (i:Nat)),some (.tup (nds b)),some (nms ns)] (hC nu bl t)=q→X_ (k+1) .Compiler_compile_block [.ref 0,.int (i:Nat),.tup (nds b),nms ns] (hC nu bl t)=sM (t.length+3) q:=fun z e=>by subst e;rfl
 rw [r2 _ rfl]
 generalize rwS (B.map (·.n)) ns bl b=R at rc rl pp
 obtain ⟨R1,R2⟩:=R
 dsimp only at rc rl pp ⊢
 have tp:∀ h,cF [.lst R1] h= .ok (.tup R1) h:=fun _=>rfl
 have ad:∀ h,ay (.tup R1) (.tup [.tup [.str eW]]) h= .ok (.tup (R1++ [.tup [.str eW]])) h:=fun h=>oA _ _ h (by simp only [List.length_cons,List.length_nil];exact Nat.le_trans (by omega:_≤1000000) (by decide))
 have si:=fun ρ=>GS nu R2 t (i:=i) (by omega) (.tup (R1++ [.tup [.str eW]])) ρ
 have run:bE (F k) (X_ k) [some (.ref 0),some (.int (i:Nat)),some (.tup (nds b)),some (nms ns)] (hC nu bl t)= .nx [some (.ref 0),some (.int (i:Nat)),some (.tup (nds b)),some (nms ns)] (hC nu (R2.set i (.tup (R1++ [.tup [.str eW]]))) t):=by
  simp only [EX,bE,kq,mj,yY,rc,tp,ad,si]
 rw [run]
 have fi:=ue (nu:=nu) hnu.1 (gX i pp.2 (x:=.tup (R1++ [.tup [.str eW]])) (by rw [PV.pure,aO,pp.1];rfl)) pt [] .non
 rw [List.append_nil] at fi
 exact fi
end
section
variable {B:List Pc} {nu:List (PK×PV)}
theorem rS(d:Nat)(ok:je B nu d)(hnu:lZ B nu)(k:Nat)(hk:6 * d+7≤k)(m:Option Int)(ns:List (List Nat))(hn:sgs ns=true)(ln:ns.length+4 * (d+1)≤1000)(x:List Nat)(ps:List Pth)(hs:List (List Nat))(b:Nds)(hd:dS b≤d)(w:wN (.usew x ps hs b)=true)(o:okN (B.map pOf,m,ns) (.usew x ps hs b)=true)(bl:List PV)(pb:am bl=true)(lb:bl.length+ctS b≤99999)(cn:ctS b≤9999)(t:List PO)(pt:bq t=true):
  X_ (k+1) .Compiler_number_of_body [.ref 0,nd (.usew x ps hs b),nms ns] (hC nu bl t)= .ok (.int (bl.length:Nat)) (hC nu (rwN (B.map (·.n)) ns bl (.usew x ps hs b)).2 t):=by
 have pp:=eQ (B.map (·.n)) ns bl pb (.usew x ps hs b)
 rw [okN,Bool.and_eq_true,Bool.and_eq_true,Bool.and_eq_true] at o
 rw [wN,Bool.and_eq_true,Bool.and_eq_true,Bool.and_eq_true,Bool.and_eq_true] at w
 have hl5:=of_decide_eq_true w.2.2.2.1
 have sx:sgs (ns++hs)=true:=jh hn w.2.2.1
 obtain ⟨k',rfl⟩:∃ k',k=k'+1:=⟨k - 1,by omega⟩
 have bk:=nB d ok hnu k' (by omega) m (ns++hs) sx (by rw [List.length_append];omega) b hd w.2.2.2.2 o.2.2.2 bl.length (bl++ [.tup []]) (by simp) (by rw [aO,pb];rfl) (by rw [List.length_append,List.length_singleton];omega) (by omega) t pt
 have r2:∀ q,bz (F (k'+1)) (X_ (k'+1)) [some (.ref 0),some (nd (.usew x ps hs b)),some (nms ns),none] (hC nu bl t)=q→X_ (k'+1+1) .Compiler_number_of_body [.ref 0,nd (.usew x ps hs b),nms ns] (hC nu bl t)=sM (t.length+3) q:=fun z e=>by subst e;rfl
 rw [r2 _ rfl]
 rw [rwN] at pp ⊢
 dsimp only at pp ⊢
 have a0:=GU nu bl t (.tup []) (by omega)
 have ad:=fun h=>BC ns hs h (by omega)
 have run:bz (F (k'+1)) (X_ (k'+1)) [some (.ref 0),some (nd (.usew x ps hs b)),some (nms ns),none] (hC nu bl t)= .rt (.int (bl.length:Nat)) (hC nu ((rwS (B.map (·.n)) (ns++hs) (bl++ [.tup []]) b).2.set bl.length (.tup ((rwS (B.map (·.n)) (ns++hs) (bl++ [.tup []]) b).1++ [.tup [.str eW]]))) t):=by
  generalize (rwS (B.map (·.n)) (ns++hs) (bl++ [.tup []]) b).2.set bl.length (.tup ((rwS (B.map (·.n)) (ns++hs) (bl++ [.tup []]) b).1++ [.tup [.str eW]]))=Z at bk
  simp only [EX,bz,kq,mj,yY,CK,GT,a0,ad,bk]
 rw [run]
 have fi:=lA (nu:=nu) hnu.1 pp.2 pt [] (v:=.int (bl.length:Nat)) rfl
 rw [List.append_nil] at fi
 exact fi
theorem yf(hnu:lZ B nu)(k:Nat)(hk:3≤k)(m:Option Int)(ns:List (List Nat))(hn:sgs ns=true)(x:List Nat)(ps:List Pth)(w:wN (.use x ps)=true)(o:okN (B.map pOf,m,ns) (.use x ps)=true)(bl:List PV)(pb:am bl=true)(t:List PO)(pt:bq t=true):
  X_ (k+1) .Compiler_rows_of_use [.ref 0,nd (.use x ps),nms ns] (hC nu bl t)= .ok (.lst (rwN (B.map (·.n)) ns bl (.use x ps)).1) (hC nu (rwN (B.map (·.n)) ns bl (.use x ps)).2 t):=by
 have pp:=eQ (B.map (·.n)) ns bl pb (.use x ps)
 have pa':=jF w o
 have pl:=qv w
 obtain ⟨k',rfl⟩:∃ k',k=k'+3:=⟨k - 3,by omega⟩
 have cp:=fun h=>gO k' ns hn ps pa' (by have:ps.length≤4:=pl;omega) h
 have l16:=fG ns fun p hp=>(pa' p hp).2
 rw [okN,Bool.and_eq_true] at o
 have hx:(B.map (·.n)).contains x=true:=by have:=mD o.2;rwa [List.map_map] at this
 have ix:=fun bl t=>Bl hnu hx bl t
 have r2:∀ q,aV (F (k'+3)) (X_ (k'+3)) [some (.ref 0),some (nd (.use x ps)),some (nms ns),none,none] (hC nu bl t)=q→X_ (k'+3+1) .Compiler_rows_of_use [.ref 0,nd (.use x ps),nms ns] (hC nu bl t)=sM (t.length+3) q:=fun z e=>by subst e;rfl
 rw [r2 _ rfl]
 rw [rwN] at pp ⊢
 dsimp only at pp ⊢
 have nl:∀ h,bv [nms ns] h= .ok (.int ns.length) h:=fun h=>mE h ns
 have fi:=lA (nu:=nu) hnu.1 pp.2 pt [] (v:=.lst (rwPs ns ps++ [.tup [.str tU,.int ((B.map (·.n)).idxOf x:Nat),.int (ps.length:Nat),.non,.int (ns.length:Nat)]])) (by rw [PV.pure];exact pp.1)
 rw [List.append_nil] at fi
 generalize (B.map (·.n)).idxOf x=I at ix fi ⊢
 have e1:∀ h,ay (.lst (rwPs ns ps)) (.lst [.tup [.str tU,.int (I:Nat),.int (ps.length:Nat),.non,.int (ns.length:Nat)]]) h= .ok (.lst (rwPs ns ps++ [.tup [.str tU,.int (I:Nat),.int (ps.length:Nat),.non,.int (ns.length:Nat)]])) h:=fun h=>bh _ _ h (by simp only [List.length_cons,List.length_nil];have:ps.length≤4:=pl;have:(rwPs ns ps).length≤4 * ps.length:=l16;omega)
 have run:aV (F (k'+3)) (X_ (k'+3)) [some (.ref 0),some (nd (.use x ps)),some (nms ns),none,none] (hC nu bl t)= .rt (.lst (rwPs ns ps++ [.tup [.str tU,.int (I:Nat),.int (ps.length:Nat),.non,.int (ns.length:Nat)]])) (hC nu bl t):=by
  simp only [EX,aV,kq,By,ix,jj,nl,cp,e1]
 rw [run];exact fi
theorem wx(d:Nat)(ok:je B nu d)(hnu:lZ B nu)(k:Nat)(hk:6 * d+8≤k)(m:Option Int)(ns:List (List Nat))(hn:sgs ns=true)(ln:ns.length+4 * (d+1)≤1000)(x:List Nat)(ps:List Pth)(hs:List (List Nat))(b:Nds)(hd:dS b≤d)(w:wN (.usew x ps hs b)=true)(o:okN (B.map pOf,m,ns) (.usew x ps hs b)=true)(bl:List PV)(pb:am bl=true)(lb:bl.length+ctS b≤99999)(cn:ctS b≤9999)(t:List PO)(pt:bq t=true):
  X_ (k+1) .Compiler_rows_of_use [.ref 0,nd (.usew x ps hs b),nms ns] (hC nu bl t)= .ok (.lst (rwN (B.map (·.n)) ns bl (.usew x ps hs b)).1) (hC nu (rwN (B.map (·.n)) ns bl (.usew x ps hs b)).2 t):=by
 have pp:=eQ (B.map (·.n)) ns bl pb (.usew x ps hs b)
 have pa':=jF w o
 have pl:=qv w
 obtain ⟨k',rfl⟩:∃ k',k=k'+3:=⟨k - 3,by omega⟩
 have nb:=rS d ok hnu (k'+2) (by omega) m ns hn ln x ps hs b hd w o bl pb lb cn t pt
 have cp:=fun h=>gO k' ns hn ps pa' (by have:ps.length≤4:=pl;omega) h
 have l16:=fG ns fun p hp=>(pa' p hp).2
 rw [okN,Bool.and_eq_true,Bool.and_eq_true] at o
 have hx:(B.map (·.n)).contains x=true:=by have:=mD o.2.1;rwa [List.map_map] at this
 have ix:=fun bl t=>Bl hnu hx bl t
 have r2:∀ q,aV (F (k'+3)) (X_ (k'+3)) [some (.ref 0),some (nd (.usew x ps hs b)),some (nms ns),none,none] (hC nu bl t)=q→X_ (k'+3+1) .Compiler_rows_of_use [.ref 0,nd (.usew x ps hs b),nms ns] (hC nu bl t)=sM (t.length+3) q:=fun z e=>by subst e;rfl
 rw [r2 _ rfl]
 have e0:(rwN (B.map (·.n)) ns bl (.usew x ps hs b)).1=rwPs ns ps++ [.tup [.str tU,.int ((B.map (·.n)).idxOf x:Nat),.int (ps.length:Nat),.int (bl.length:Nat),.int (ns.length:Nat)]]:=by rw [rwN]
 rw [e0] at pp ⊢
 generalize (rwN (B.map (·.n)) ns bl (.usew x ps hs b)).2=Z at nb pp ⊢
 have nl:∀ h,bv [nms ns] h= .ok (.int ns.length) h:=fun h=>mE h ns
 have fi:=lA (nu:=nu) hnu.1 pp.2 pt [] (v:=.lst (rwPs ns ps++ [.tup [.str tU,.int ((B.map (·.n)).idxOf x:Nat),.int (ps.length:Nat),.int (bl.length:Nat),.int (ns.length:Nat)]])) (by rw [PV.pure];exact pp.1)
 rw [List.append_nil] at fi
 generalize (B.map (·.n)).idxOf x=I at ix fi ⊢
 have e1:∀ h,ay (.lst (rwPs ns ps)) (.lst [.tup [.str tU,.int (I:Nat),.int (ps.length:Nat),.int (bl.length:Nat),.int (ns.length:Nat)]]) h= .ok (.lst (rwPs ns ps++ [.tup [.str tU,.int (I:Nat),.int (ps.length:Nat),.int (bl.length:Nat),.int (ns.length:Nat)]])) h:=fun h=>bh _ _ h (by simp only [List.length_cons,List.length_nil];have:ps.length≤4:=pl;have:(rwPs ns ps).length≤4 * ps.length:=l16;omega)
 have nn:∀ l:List PV,fL (.tup l)=false:=fun _=>rfl
 have run:aV (F (k'+3)) (X_ (k'+3)) [some (.ref 0),some (nd (.usew x ps hs b)),some (nms ns),none,none] (hC nu bl t)= .rt (.lst (rwPs ns ps++ [.tup [.str tU,.int (I:Nat),.int (ps.length:Nat),.int (bl.length:Nat),.int (ns.length:Nat)]])) (hC nu Z t):=by
  simp only [EX,aV,kq,mj,By,nn,nb,ix,jj,nl,cp,e1]
 rw [run];exact fi
theorem wz(d:Nat)(ok:∀ d'<d,je B nu d')(hnu:lZ B nu)(k:Nat)(hk:6 * d+4≤k)(m:Option Int)(ns:List (List Nat))(hn:sgs ns=true)(ln:ns.length+4 * d≤1000)(n:Nd)(hd:dN n≤d)(w:wN n=true)(o:okN (B.map pOf,m,ns) n=true)(bl:List PV)(pb:am bl=true)(lb:bl.length+ctN n+1≤100000)(cn:ctN n+1≤10000)(t:List PO)(pt:bq t=true):
  X_ (k+1) .Compiler_rows_of_node [.ref 0,nd n,nms ns] (hC nu bl t)= .ok (.lst (rwN (B.map (·.n)) ns bl n).1) (hC nu (rwN (B.map (·.n)) ns bl n).2 t):=by
 have pp:=eQ (B.map (·.n)) ns bl pb n
 have pa':=jF w o
 have pl:=qv w
 obtain ⟨k',rfl⟩:∃ k',k=k'+3:=⟨k - 3,by omega⟩
 have r2:∀ q,aI (F (k'+3)) (X_ (k'+3)) [some (.ref 0),some (nd n),some (nms ns),none] (hC nu bl t)=q→X_ (k'+3+1) .Compiler_rows_of_node [.ref 0,nd n,nms ns] (hC nu bl t)=sM (t.length+3) q:=fun z e=>by subst e;rfl
 have fi:=lA (nu:=nu) hnu.1 pp.2 pt [] (v:=.lst (rwN (B.map (·.n)) ns bl n).1) (by rw [PV.pure];exact pp.1)
 rw [List.append_nil] at fi
 suffices run:aI (F (k'+3)) (X_ (k'+3)) [some (.ref 0),some (nd n),some (nms ns),none] (hC nu bl t)= .rt (.lst (rwN (B.map (·.n)) ns bl n).1) (hC nu (rwN (B.map (·.n)) ns bl n).2 t) by
  rw [r2 _ run];exact fi
 cases n with
 | text s=>
  have i1:∀ h,pIx (nd (.text s)) (.int 1) h= .ok (.str s) h:=fun h=>by rw [nd];rfl
  rw [rwN]
  simp only [EX,aI,i1]
 | place p s=>
  obtain ⟨p1,p2⟩:=pa' p (by simp [pa])
  have cp:∀ h,dv (F (k'+3) .rows_of_path) [pth p,nms ns] h= .ok (.lst (rwP ns p)) h:=fun h=>cH h (by rw [am,am,fJ,dK];rfl) (jk (k'+1) ns p hn p1 p2)
  have l4:=fV ns p2
  have e1:∀ h,ay (.lst (rwP ns p)) (.lst [.tup [.str xZ,.str s]]) h= .ok (.lst (rwP ns p++ [.tup [.str xZ,.str s]])) h:=fun h=>bh _ _ h (by simp only [List.length_cons,List.length_nil];omega)
  rw [rwN]
  simp only [EX,aI,cp,e1]
 | body ps=>
  have cp:=fun h=>gO k' ns hn ps pa' (by have:ps.length≤4:=pl;omega) h
  have l16:=fG ns fun p hp=>(pa' p hp).2
  have e1:∀ h,ay (.lst (rwPs ns ps)) (.lst [.tup [.str tB,.int (ps.length:Nat)]]) h= .ok (.lst (rwPs ns ps++ [.tup [.str tB,.int (ps.length:Nat)]])) h:=fun h=>bh _ _ h (by simp only [List.length_cons,List.length_nil];have:ps.length≤4:=pl;have:(rwPs ns ps).length≤4 * ps.length:=l16;omega)
  rw [rwN]
  simp only [EX,aI,yS,jj,cp,e1]
 | loop x p b s=>
  rw [dN] at hd;rw [ctN] at lb cn
  have e:=wA (dS b) (ok (dS b) (by omega)) hnu (k'+2) (by omega) m ns hn (by omega) x p b s (Nat.le_refl _) w o bl pb (by omega) (by omega) t pt
  generalize rwN (B.map (·.n)) ns bl (.loop x p b s)=R at e ⊢
  simp only [EX,aI,kq,mj,e]
 | choice p y z=>
  rw [dN] at hd;rw [ctN] at lb cn
  have e:=rT (max (dS y) (dS z)) (ok _ (by omega)) hnu (k'+2) (by omega) m ns hn (by omega) p y z (Nat.le_max_left _ _) (Nat.le_max_right _ _) w o bl pb (by omega) (by omega) t pt
  generalize rwN (B.map (·.n)) ns bl (.choice p y z)=R at e ⊢
  simp only [EX,aI,kq,mj,e]
 | use x ps=>
  have e:=yf hnu (k'+2) (by omega) m ns hn x ps w o bl pb t pt
  generalize rwN (B.map (·.n)) ns bl (.use x ps)=R at e ⊢
  simp only [EX,aI,kq,mj,e]
 | usew x ps hs b=>
  rw [dN] at hd;rw [ctN] at lb cn
  have e:=wx (dS b) (ok (dS b) (by omega)) hnu (k'+2) (by omega) m ns hn (by omega) x ps hs b (Nat.le_refl _) w o bl pb (by omega) (by omega) t pt
  generalize rwN (B.map (·.n)) ns bl (.usew x ps hs b)=R at e ⊢
  simp only [EX,aI,kq,mj,e]
theorem nF:∀ (a b:List PO),bq (a++b)=(bq a&&bq b)
 | [],b=>by simp [bq]
 | x::r,b=>by rw [List.cons_append];show (x.pure&&bq (r++b))=((x.pure&&bq r)&&bq b);rw [nF r b,Bool.and_assoc]
theorem oT(d:Nat)(ok:∀ d'<d,je B nu d')(hnu:lZ B nu)(k:Nat)(hk:6 * d+5≤k)(m:Option Int)(ns:List (List Nat))(hn:sgs ns=true)(ln:ns.length+4 * d≤1000)(a:PV)(t:List PO)(pt:bq t=true):∀ (b:Nds) (bl acc:List PV) (x4:Option PV),dS b≤d→wS b=true→okS (B.map pOf,m,ns) b=true→am bl=true→bl.length+ctS b≤100000→ctS b≤10000→am acc=true→acc.length+20 * ctS b≤1000000→
  ∃ y4,bg (gNm 4) (cC (F k) (X_ k)) (nds b) [some (.ref 0),some a,some (nms ns),some (.ref (t.length+3)),x4] (hC nu bl (t++ [.lst acc]))= .nx [some (.ref 0),some a,some (nms ns),some (.ref (t.length+3)),y4] (hC nu (rwS (B.map (·.n)) ns bl b).2 (t++ [.lst (acc++(rwS (B.map (·.n)) ns bl b).1)]))
 | .nil,bl,acc,x4,_,_,_,_,_,_,_,_=>⟨x4,by rw [nds,bg,rwS,List.append_nil]⟩
 | .cons n r,bl,acc,x4,hd,w,o,pb,lb,cn,pa,la=>by
  rw [dS] at hd;rw [wS,Bool.and_eq_true] at w;rw [okS,Bool.and_eq_true] at o;rw [ctS] at lb cn la
  have d1:=Nat.le_max_left (dN n) (dS r)
  have d2:=Nat.le_max_right (dN n) (dS r)
  obtain ⟨k',rfl⟩:∃ k',k=k'+1:=⟨k - 1,by omega⟩
  have e:=wz d ok hnu k' (by omega) m ns hn ln n (by omega) w.1 o.1 bl pb (by omega) (by omega) (t++ [.lst acc]) (by rw [nF,pt];show ((PO.lst acc).pure&&true)=true;rw [show (PO.lst acc).pure=true from pa];rfl)
  have rl:=mB (B.map (·.n)) ns bl n w.1
  have rp:=eQ (B.map (·.n)) ns bl pb n
  obtain ⟨y4,e2⟩:=oT d ok hnu (k'+1) hk m ns hn ln a t pt r (rwN (B.map (·.n)) ns bl n).2 (acc++(rwN (B.map (·.n)) ns bl n).1) (some (nd n)) (by omega) w.2 o.2 rp.2 (by omega) (by omega) (by rw [aO,pa,rp.1];rfl) (by rw [List.length_append];omega)
  refine ⟨y4,?_⟩
  rw [nds,rwS]
  dsimp only
  rw [← List.append_assoc]
  have st:cC (F (k'+1)) (X_ (k'+1)) [some (.ref 0),some a,some (nms ns),some (.ref (t.length+3)),some (nd n)] (hC nu bl (t++ [.lst acc]))= .nx [some (.ref 0),some a,some (nms ns),some (.ref (t.length+3)),some (nd n)] (hC nu (rwN (B.map (·.n)) ns bl n).2 (t++ [.lst (acc++(rwN (B.map (·.n)) ns bl n).1)])):=by
   generalize rwN (B.map (·.n)) ns bl n=R at e rl
   have ex:=GR (nu:=nu) (bl:=R.2) (t:=t) acc R.1 (by omega)
   have d3:=Bz (nu:=nu) (bl:=bl) (t:=t) acc []
   have il:=Ey (nu:=nu) (bl:=bl) (t:=t) acc []
   simp only [EX,cC,kq,mj,d3,il,e,ex]
  exact Eq.trans (cO rfl st) e2
theorem Al(hnu:lZ B nu):∀ d,d≤20→je B nu d:=by
 intro d
 induction d using Nat.strongRecOn with
 | ind d ih=>
  intro d20 b m ns bl t K hd w o hn ln pb lb cb pt hK
  obtain ⟨k,rfl⟩:∃ k,K=k+1:=⟨K - 1,by omega⟩
  obtain ⟨y4,e⟩:=oT d (fun d' h=>ih d' h (by omega)) hnu k (by omega) m ns hn ln (.tup (nds b)) t pt b bl [] none hd w o pb lb cb rfl (by rw [List.length_nil];omega)
  have pp:=cL (B.map (·.n)) ns bl pb b
  rw [List.nil_append] at e
  have r2:∀ q,cI (F k) (X_ k) [some (.ref 0),some (.tup (nds b)),some (nms ns),none,none] (hC nu bl t)=q→X_ (k+1) .Compiler_rows_of [.ref 0,.tup (nds b),nms ns] (hC nu bl t)=sM (t.length+3) q:=fun z e=>by subst e;rfl
  generalize rwS (B.map (·.n)) ns bl b=R at e pp ⊢
  have d3:=Bz (nu:=nu) (bl:=R.2) (t:=t) R.1 []
  have ha:∀ x:PO,hC nu bl t++ [x]=hC nu bl (t++ [x]):=fun _=>rfl
  have hl:(hC nu bl t).length=t.length+3:=rfl
  have run:cI (F k) (X_ k) [some (.ref 0),some (.tup (nds b)),some (nms ns),none,none] (hC nu bl t)= .rt (.ref (t.length+3)) (hC nu R.2 (t++ [.lst R.1])):=by
   simp only [EX,cI,ha,hl,e,d3]
  rw [r2 _ run]
  exact AQ hnu.1 pp.2 pt R.1 pp.1 []
end
def nuL(i:Nat):List Pc→List (PK×PV)
 | []=> []
 | q::r=>(.inr q.n,.int (i:Nat))::nuL (i+1) r
theorem uW:∀ (a:List Pc) (i:Nat) (q:Pc),nuL i (a++ [q])=nuL i a++ [(.inr q.n,.int ((i+a.length:Nat):Int))]
 | [],i,q=>rfl
 | p::r,i,q=>by
  rw [List.cons_append,nuL,nuL,uW r (i+1) q,List.cons_append,List.length_cons]
  rw [show i+1+r.length=i+(r.length+1) by omega]
theorem sh:∀ (a:List Pc) (i:Nat),cW (nuL i a)=true
 | [],_=>rfl
 | p::r,i=>by show ((PV.int (i:Nat)).pure&&cW (nuL (i+1) r))=true;rw [sh r];rfl
theorem yw(x:List Nat):∀ (a:List Pc) (i:Nat),(a.map (·.n)).contains x=true→hZ (nuL i a) (.inr x)=some (.int ((i+(a.map (·.n)).idxOf x:Nat):Int))
 | [],_,h=>by cases h
 | p::r,i,h=>by
  rw [List.map_cons,List.idxOf_cons]
  by_cases e:p.n=x
  ·subst e;simp [hZ,nuL]
  ·rw [List.map_cons,List.contains_cons,Bool.or_eq_true] at h
   have h':=h.resolve_left fun z=>e (eq_of_beq z).symm
   have ih:=yw x r (i+1) h'
   have e1:(p.n==x)=false:=beq_eq_false_iff_ne.mpr e
   rw [e1]
   unfold hZ at ih ⊢
   rw [nuL,List.find?_cons_of_neg (by simpa using e),ih]
   show some (PV.int _)=some (PV.int ((i+((r.map (·.n)).idxOf x+1):Nat):Int))
   rw [show i+1+(r.map (·.n)).idxOf x=i+((r.map (·.n)).idxOf x+1) by omega]
theorem Cw(B:List Pc):lZ B (nuL 0 B):=⟨sh B 0,fun x hx=>by rw [yw x B 0 hx,Nat.zero_add]⟩
theorem yv(x:List Nat):∀ (a:List Pc) (i:Nat),x∉a.map (·.n)→(nuL i a).any (fun kv=>decide (kv.1= .inr x))=false
 | [],_,_=>rfl
 | p::r,i,h=>by
  rw [List.map_cons,List.mem_cons] at h
  rw [nuL,List.any_cons,yv x r (i+1) fun z=>h (.inr z)]
  have:decide ((Sum.inr p.n:PK)= .inr x)=false:=decide_eq_false fun z=>h (.inl (by injection z with z;exact z.symm))
  rw [this];rfl
abbrev iE(B:List Pc)(x2 x3:Option PV):Ev:= [some (.ref 0),some (bk B),x2,x3]
theorem pj(k:Nat)(B:List Pc):∀ (r a:List Pc) (x2 x3:Option PV),((a++r).map (·.n)).Nodup→(a++r).length≤1000→∃ y2 y3,bg (gTp 2 (bR (gNm 2) (bR (gNm 3) gg))) (bK (F k)) (enL a.length (r.map pc)) (iE B x2 x3) [.obj 603 [.ref 1],.dct (nuL 0 a)]= .nx (iE B y2 y3) [.obj 603 [.ref 1],.dct (nuL 0 (a++r))]
 | [],a,x2,x3,_,_=>⟨x2,x3,by rw [List.append_nil];rfl⟩
 | q::r,a,x2,x3,h,hl=>by
  have h':((a++ [q]++r).map (·.n)).Nodup:=by rw [List.append_assoc];exact h
  obtain ⟨y2,y3,e⟩:=pj k B r (a++ [q]) (some (.int (a.length:Nat))) (some (pc q)) h' (by rw [List.append_assoc];exact hl)
  refine ⟨y2,y3,?_⟩
  have ln:(nuL 0 a).length=a.length:=by
   have:∀ (l:List Pc) (i:Nat),(nuL i l).length=l.length:=fun l=>by
    induction l with
    | nil=>intro i;rfl
    | cons p r ih=>intro i;rw [nuL,List.length_cons,List.length_cons,ih]
   exact this a 0
  have nq:q.n∉a.map (·.n):=by
   rw [List.map_append,List.map_cons,List.nodup_append] at h
   intro z;exact h.2.2 q.n z q.n List.mem_cons_self rfl
  have sd:∀ ρ,oO (.int (a.length:Nat)) (.ref 1) (.str q.n) ρ [.obj 603 [.ref 1],.dct (nuL 0 a)]= .nx ρ [.obj 603 [.ref 1],.dct (nuL 0 (a++ [q]))]:=fun ρ=>by
   show (if (nuL 0 a).length<sizeLine then SR.nx ρ [PO.obj 603 [.ref 1],.dct (jB (nuL 0 a) (.inr q.n) (.int (a.length:Nat)))] else .bad)=_
   rw [if_pos (by rw [ln];rw [List.length_append] at hl;exact Nat.lt_of_le_of_lt (by omega:_≤1000) (by decide))]
   unfold jB
   rw [yv q.n a 0 nq,if_neg (by decide),uW,Nat.zero_add]
  have fl:∀ d,nL 603 0 (.ref 0) [.obj 603 [.ref 1],.dct d]= .ok (.ref 1) [.obj 603 [.ref 1],.dct d]:=fun _=>rfl
  have d0:∀ d,aq [.obj 603 [.ref 1],.dct d] (.ref 0)= .ref 0:=fun _=>rfl
  have st:bK (F k) (iE B (some (.int (a.length:Nat))) (some (pc q))) [.obj 603 [.ref 1],.dct (nuL 0 a)]= .nx (iE B (some (.int (a.length:Nat))) (some (pc q))) [.obj 603 [.ref 1],.dct (nuL 0 (a++ [q]))]:=by
   simp only [EX,bK,d0,fl,sd]
  rw [show a++q::r=a++ [q]++r by simp]
  rw [List.map_cons]
  rw [List.length_append,List.length_singleton] at e
  show bg _ _ (.tup [.int (a.length:Nat),pc q]::enL (a.length+1) (r.map pc)) _ _=_
  exact Eq.trans (cO rfl st) e
theorem AO(k:Nat)(B:List Pc)(hn:(B.map (·.n)).Nodup)(hl:B.length≤4):X_ (k+1) .Compiler___init__ [.ref 0,bk B] [.obj 603 []]= .ok .non (hC (nuL 0 B) (dI [.tup []] (B.length:Int)) []):=by
 obtain ⟨y2,y3,e⟩:=pj k B B [] none none hn (by rw [List.nil_append];omega)
 have r2:∀ q,cw (F k) [some (.ref 0),some (bk B),none,none] [.obj 603 []]=q→X_ (k+1) .Compiler___init__ [.ref 0,bk B] [.obj 603 []]=match q with | .nx _ h1=>.ok .non h1 | _=>.bad:=fun z e=>by subst e;rfl
 have mm:∀ h,oV (.lst [.tup []]) (.int (B.length:Int)) h= .ok (.ref h.length) (h++ [.lst (dI [.tup []] (B.length:Int))]):=fun h=>by
  show (if bel 9223372036854775808 (B.length:Int)=true∧1 * (B.length:Int).toNat≤sizeLine then Res.ok (PV.ref h.length) (h++ [PO.lst (dI [.tup []] (B.length:Int))]) else .bad)=_
  rw [if_pos ⟨bX.mpr ⟨by omega,by omega⟩,by rw [Int.toNat_natCast];exact Nat.le_trans (by omega:_≤4) (by decide)⟩]
 have en:∀ h,uh [bk B] h= .ok (enL 0 (B.map pc)) h:=fun _=>rfl
 have s1:∀ ρ,wc 603 0 (.ref 1) (.ref 0) ρ [.obj 603 [],.dct []]= .nx ρ [.obj 603 [.ref 1],.dct []]:=fun _=>rfl
 have s2:∀ ρ d l,wc 603 1 (.ref 2) (.ref 0) ρ [.obj 603 [.ref 1],.dct d,.lst l]= .nx ρ (hC d l []):=fun _ _ _=>rfl
 have d0:∀ (o:PO) (r:List PO) ps,aq (.obj 603 ps::r) (.ref 0)= .ref 0:=fun _ _ _=>rfl
 have nd:∀ ρ,vM ρ [.obj 603 []]= .ok (.ref 1) [.obj 603 [],.dct []]:=fun _=>rfl
 have e':bg (gTp 2 (bR (gNm 2) (bR (gNm 3) gg))) (bK (F k)) (enL 0 (B.map pc)) [some (.ref 0),some (bk B),none,none] [.obj 603 [.ref 1],.dct []]= .nx [some (.ref 0),some (bk B),y2,y3] [.obj 603 [.ref 1],.dct (nuL 0 B)]:=e
 have run:cw (F k) [some (.ref 0),some (bk B),none,none] [.obj 603 []]= .nx [some (.ref 0),some (bk B),y2,y3] (hC (nuL 0 B) (dI [.tup []] (B.length:Int)) []):=by
  have d0':∀ (r:List PO) ps,aq (.obj 603 ps::r) (.ref 0)= .ref 0:=fun _ _=>rfl
  unfold cw
  refine bw (Q:=fun r=>r=SR.nx [some (.ref 0),some (bk B),y2,y3] (hC (nuL 0 B) (dI [.tup []] (B.length:Int)) [])) [some (.ref 0),some (bk B),none,none] [.obj 603 [.ref 1],.dct []] rfl ?_
  refine bw (Q:=fun r=>r=SR.nx [some (.ref 0),some (bk B),y2,y3] (hC (nuL 0 B) (dI [.tup []] (B.length:Int)) [])) [some (.ref 0),some (bk B),y2,y3] [.obj 603 [.ref 1],.dct (nuL 0 B)] (by simp only [EX,en,e']) ?_
  simp only [EX,d0',mm,s2]
 rw [r2 _ run]
theorem pz(B:List Pc)(lB:B.length≤4)(g:∀ q∈B,wC q=true∧dS q.b≤3∧ctS q.b≤2100∧q.ns.length≤4)(o:∀ q∈B,okS (B.map pOf,q.m,q.ns) q.b=true)(nu:List (PK×PV))(hnu:lZ B nu)(K:Nat)(hK:26≤K):∀ (r:List Pc) (i:Nat) (bl:List PV) (x2 x3:Option PV),(∀ q∈r,q∈B)→i+r.length≤bl.length→bl.length+2100 * r.length≤50000→am bl=true→
  ∃ y2 y3,bg (gTp 2 (bR (gNm 2) (bR (gNm 3) gg))) (fU (F K) (X_ K)) (enL i (r.map pc)) [some (bk B),some (.ref 0),x2,x3] (hC nu bl [])= .nx [some (bk B),some (.ref 0),y2,y3] (hC nu (cpB (B.map (·.n)) bl i r) [])
 | [],i,bl,x2,x3,_,_,_,_=>⟨x2,x3,rfl⟩
 | q::r,i,bl,x2,x3,hr,hi,hl,pb=>by
  rw [List.length_cons] at hi hl
  have qB:=hr q List.mem_cons_self
  obtain ⟨g1,g2,g3,g4⟩:=g q qB
  unfold wC at g1
  simp only [Bool.and_eq_true,decide_eq_true_eq] at g1
  obtain ⟨k,rfl⟩:∃ k,K=k+1:=⟨K - 1,by omega⟩
  have bk:=nB 3 (Al hnu 3 (by omega)) hnu k (by omega) q.m q.ns g1.2.1 (by omega) q.b g2 g1.2.2.2.1 (o q qB) i bl (by omega) pb (by omega) (by omega) [] rfl
  have rl:=cD (B.map (·.n)) q.ns bl q.b g1.2.2.2.1
  have rp:=cL (B.map (·.n)) q.ns bl pb q.b
  have p2:am ((rwS (B.map (·.n)) q.ns bl q.b).2.set i (.tup ((rwS (B.map (·.n)) q.ns bl q.b).1++ [.tup [.str eW]])))=true:=gX _ rp.2 (by rw [PV.pure,aO,rp.1];rfl)
  obtain ⟨y2,y3,e2⟩:=pz B lB g o nu hnu (k+1) hK r (i+1) ((rwS (B.map (·.n)) q.ns bl q.b).2.set i (.tup ((rwS (B.map (·.n)) q.ns bl q.b).1++ [.tup [.str eW]]))) (some (.int i)) (some (pc q)) (fun z hz=>hr z (List.mem_cons_of_mem _ hz)) (by rw [List.length_set];omega) (by rw [List.length_set];omega) p2
  refine ⟨y2,y3,?_⟩
  rw [cpB]
  generalize (rwS (B.map (·.n)) q.ns bl q.b).2.set i (.tup ((rwS (B.map (·.n)) q.ns bl q.b).1++ [.tup [.str eW]]))=Z at bk e2
  have st:fU (F (k+1)) (X_ (k+1)) [some (K22.bk B),some (.ref 0),some (.int i),some (pc q)] (hC nu bl [])= .nx [some (K22.bk B),some (.ref 0),some (.int i),some (pc q)] (hC nu Z []):=by
   simp only [EX,fU,kq,mj,bk]
  rw [List.map_cons]
  show bg _ _ (.tup [.int i,pc q]::enL (i+1) (r.map pc)) _ _=_
  exact Eq.trans (cO rfl st) e2
theorem xH(n:Nat):(dI [PV.tup []] (n:Int)).length=n∧am (dI [PV.tup []] (n:Int))=true:=by
 unfold dI
 rw [Int.toNat_natCast]
 induction n with
 | zero=>exact ⟨rfl,rfl⟩
 | succ n ih=>rw [List.replicate_succ,List.flatten_cons,List.length_append,aO,ih.1,ih.2];exact ⟨by simp;omega,rfl⟩
theorem sO(K:Nat)(hK:26≤K)(B:List Pc)(G:GB B):F (K+1) .compiled [bk B]= .ok (.tup (cpB (B.map (·.n)) (dI [.tup []] (B.length:Int)) 0 B)):=by
 obtain ⟨rl,rp⟩:=xH B.length
 obtain ⟨y2,y3,e⟩:=pz B G.l4 G.g G.o (nuL 0 B) (Cw B) K hK B 0 (dI [.tup []] (B.length:Int)) none none (fun q h=>h) (by omega) (by have:=G.l4;omega) rp
 obtain ⟨k,rfl⟩:∃ k,K=k+1:=⟨K - 1,by omega⟩
 have ini:=AO k B G.nd G.l4
 have r2:F (k+1+1) .compiled [bk B]=match iG (F (k+1)) (X_ (k+1)) [some (bk B),none,none,none] [] with
   | .nx _ _=>.ok .non
   | .rt v h=>gh v h
   | _=>.bad:=rfl
 have mk:mkO 603 (X_ (k+1) .Compiler___init__) [bk B] []= .ok (.ref 0) (hC (nuL 0 B) (dI [.tup []] (B.length:Int)) []):=by
  show (match X_ (k+1) .Compiler___init__ [.ref 0,bk B] [.obj 603 []] with | .ok .non h2=>Res.ok (PV.ref 0) h2 | _=>.bad)=_
  rw [ini]
 have en:∀ h,uh [bk B] h= .ok (enL 0 (B.map pc)) h:=fun _=>rfl
 have tp:∀ d xs,cF [.ref 2] (hC d xs [])= .ok (.tup xs) (hC d xs []):=fun _ _=>rfl
 rw [r2]
 simp only [EX,iG,jd,mk,en,e,kq,yY,tp]
 exact fM (by rw [PV.pure];exact ou _ _ _ _ rp)
theorem Aj:((List.range 127).all fun c=>decide (c<32)||PySem.Unicode.isPrintable c)=true:=by kernel_rfl
theorem Ck(q c:Nat)(h:c=10∨(32≤c∧c<127)):(Builtin.Str.reprChar q c).length≤2:=by
 unfold Builtin.Str.reprChar
 dsimp only
 split
 ·exact Nat.le_refl _
 ·split
  ·exact Nat.le_refl _
  ·rename_i h10
   have h10':c≠10:=fun z=>h10 (by simp [z])
   have hr:=h.resolve_left h10'
   have p:=List.all_eq_true.mp Aj c (List.mem_range.mpr hr.2)
   have p':PySem.Unicode.isPrintable c=true:=by
    rw [Bool.or_eq_true] at p
    exact p.resolve_left fun z=>by have:=of_decide_eq_true z;omega
   split
   ·exact Nat.le_refl _
   ·split
    ·exact Nat.le_refl _
    ·first | (show 1≤2;omega) | (rw [if_pos p'];show 1≤2;omega)
theorem sK(q:Nat):∀ (l:List Nat) (acc:Array Nat),(∀ c∈l,c=10∨(32≤c∧c<127))→(l.foldl (fun out c=>out++(Builtin.Str.reprChar q c).toArray) acc).size≤acc.size+2 * l.length
 | [],acc,_=>by simp
 | c::r,acc,h=>by
  have ih:=sK q r (acc++(Builtin.Str.reprChar q c).toArray) fun d hd=>h d (List.mem_cons_of_mem _ hd)
  have hc:=Ck q c (h c List.mem_cons_self)
  simp only [List.foldl_cons,List.length_cons]
  simp only [Array.size_append,List.size_toArray] at ih
  omega
theorem BZ{s:List Nat}(h:sg s=true):(reprText (S s)).length≤36:=by
 unfold reprText
 show (((S s).cps.foldl (fun out c=>out++(Builtin.Str.reprChar (reprQuote (S s)) c).toArray) #[reprQuote (S s)]).push (reprQuote (S s))).size≤_
 rw [Array.size_push,← Array.foldl_toList,Fa]
 have:=sK (reprQuote (S s)) s #[reprQuote (S s)] fun c hc=>of_decide_eq_true (List.all_eq_true.mp (wb h) c hc)
 have l:=tq h
 have e1:(#[reprQuote (S s)]:Array Nat).size=1:=rfl
 omega
def Sh(n:Nat)(p:PV):Prop:=(toD p).showable=true∧(toD p).shown.length≤n
def Shs(n:Nat)(l:List PV):Prop:=PyData.showableAll (dC l)=true∧piled (PyData.shownAll (dC l))≤n
theorem Sh.mono{n m:Nat}{p:PV}(h:Sh n p)(le:n≤m):Sh m p:=⟨h.1,Nat.le_trans h.2 le⟩
theorem Shs.mono{n m:Nat}{p:List PV}(h:Shs n p)(le:n≤m):Shs m p:=⟨h.1,Nat.le_trans h.2 le⟩
theorem Shs.nil:Shs 0 []:=⟨by simp [dC,PyData.showableAll],by simp [dC,PyData.shownAll,piled]⟩
theorem Shs.cons{a b:Nat}{p:PV}{l:List PV}(h:Sh a p)(t:Shs b l):Shs (a+2+b) (p::l):=by
 refine ⟨?_,?_⟩
 ·rw [dC,PyData.showableAll,h.1,t.1];rfl
 ·rw [dC,PyData.shownAll,piled_cons];have:=h.2;have:=t.2;omega
theorem Shs.app{a b:Nat}:∀ {l m:List PV},Shs a l→Shs b m→Shs (a+b) (l++m)
 | [],m,_,h=>h.mono (by omega)
 | p::r,m,h,g=>by
  obtain ⟨h1,h2⟩:=h
  rw [dC,PyData.showableAll,Bool.and_eq_true] at h1
  rw [dC,PyData.shownAll,piled_cons] at h2
  have ih:=Shs.app (a:=piled (PyData.shownAll (dC r))) (l:=r) ⟨h1.2,Nat.le_refl _⟩ g
  exact (Shs.cons (a:=(toD p).shown.length) ⟨h1.1,Nat.le_refl _⟩ ih).mono (by omega)
theorem Sh.str{s:List Nat}(h:sg s=true):Sh 36 (.str s):=⟨by simp [toD,PyData.showable],by simp only [toD,PyData.shown];exact BZ h⟩
theorem Sh.non:Sh 4 .non:=⟨by simp [toD,PyData.showable],by simp only [toD,PyData.shown];exact Nat.le_refl 4⟩
theorem Sh.nat{n:Nat}(h:n<1000000):Sh 6 (.int (n:Nat)):=by
 refine ⟨?_,?_⟩
 ·simp only [toD,PyData.showable,decide_eq_true_eq]
  rw [Int.natAbs_natCast]
  by_cases z:n=0
  ·subst z;decide
  ·exact Nat.lt_of_lt_of_le ((Nat.log2_lt z).mpr (Nat.lt_trans h (by decide:(1000000:Nat)<2 ^ 20))) (by decide)
 ·simp only [toD,PyData.shown]
  show (PySem.Str.ofString (toString ((n:Nat):Int))).cps.size≤6
  have:=PySem.W.KIN.signs_num n
  have e:(PySem.Str.ofString (toString ((n:Nat):Int))).cps.size=((Nat.toDigits 10 n).map Char.toNat).length:=by rw [← this,Array.length_toList]
  rw [e,List.length_map]
  exact PyProof.Rows.digits10_le (by decide) h
theorem BL(ts:List Str):(tupleText ts).length≤piled ts+3:=by
 unfold tupleText
 rw [strLen_append,strLen_append]
 have l1:(("(":String):Str).length=1:=rfl
 have l2:(((if ts.length==1 then ",)" else ")":String)):Str).length≤2:=by split<;>decide
 by_cases h:ts= []
 ·subst h
  have:(Str.join ", " []).length=0:=rfl
  omega
 ·have:=join_length_add ts h
  omega
theorem xp:∀ (ts:List Str) (k:Nat) (acc:Str),(textFrom k acc ts).length≤acc.length+piled ts
 | [],k,acc=>by rw [textFrom,piled_nil];omega
 | t::r,k,acc=>by
  rw [textFrom,piled_cons]
  have ih:=xp r (k+1) (acc++(if k>0 then ", " else "":String)++t)
  rw [strLen_append,strLen_append] at ih
  have l2:(((if k>0 then ", " else "":String)):Str).length≤2:=by split<;>decide
  omega
theorem Sh.tup{n:Nat}{l:List PV}(h:Shs n l):Sh (n+3) (.tup l):=by
 refine ⟨by rw [toD,PyData.showable];exact h.1,?_⟩
 rw [toD,PyData.shown]
 have:=BL (PyData.shownAll (dC l));have:=h.2;omega
theorem Sh.lst{n:Nat}{l:List PV}(h:Shs n l):Sh (n+3) (.lst l):=by
 refine ⟨by rw [toD,PyData.showable];exact h.1,?_⟩
 rw [toD,PyData.shown]
 unfold listText
 rw [strLen_append]
 have a:=xp (PyData.shownAll (dC l)) 0 "["
 have l1:(("[":String):Str).length=1:=rfl
 have l2:(("]":String):Str).length=1:=rfl
 have:=h.2;omega
theorem Shs.strs:∀ {l:List (List Nat)},sgs l=true→Shs (38 * l.length) (l.map PV.str)
 | [],_=>Shs.nil
 | a::r,h=>by
  unfold sgs at h
  rw [List.all_cons,Bool.and_eq_true] at h
  exact (Shs.cons (Sh.str h.1) (Shs.strs h.2)).mono (by rw [List.length_cons];omega)
theorem Sh.pth{p:Pth}(h:wp p=true):Sh 155 (pth p):=by
 rw [wp,Bool.and_eq_true,Bool.and_eq_true] at h
 have:=of_decide_eq_true h.2.2
 exact (Sh.tup (Shs.cons (Sh.str h.1) (Shs.strs h.2.1))).mono (by omega)
theorem Shs.pths:∀ {l:List Pth},(∀ p∈l,wp p=true)→Shs (157 * l.length) (pths l)
 | [],_=>Shs.nil
 | a::r,h=>(Shs.cons (Sh.pth (h a List.mem_cons_self)) (Shs.pths fun p hp=>h p (List.mem_cons_of_mem _ hp))).mono (by rw [List.length_cons];omega)
mutual
theorem Sh.nd:∀ {n:Nd},wN n=true→Sh (910 * ctN n+908) (nd n)
 | .text s,h=>by
  rw [wN,Bool.and_eq_true] at h;rw [K22.nd]
  exact (Sh.tup (Shs.cons (Sh.str dO.1) (Shs.cons (Sh.str h.1) Shs.nil))).mono (by show _≤910 * 0+908;omega)
 | .place p w,h=>by
  rw [wN,Bool.and_eq_true] at h;rw [K22.nd]
  exact (Sh.tup (Shs.cons (Sh.str dO.2.1) (Shs.cons (Sh.pth h.1) (Shs.cons (Sh.str h.2) Shs.nil)))).mono (by show _≤910 * 0+908;omega)
 | .loop x p b t,h=>by
  rw [wN,Bool.and_eq_true,Bool.and_eq_true,Bool.and_eq_true] at h;rw [K22.nd,ctN]
  exact (Sh.tup (Shs.cons (Sh.str dO.2.2.1) (Shs.cons (Sh.str h.1) (Shs.cons (Sh.pth h.2.1) (Shs.cons (Sh.tup (Shs.nds h.2.2.1)) (Shs.cons (Sh.str h.2.2.2) Shs.nil)))))).mono (by omega)
 | .choice p y z,h=>by
  rw [wN,Bool.and_eq_true,Bool.and_eq_true] at h;rw [K22.nd,ctN]
  exact (Sh.tup (Shs.cons (Sh.str dO.2.2.2.1) (Shs.cons (Sh.pth h.1) (Shs.cons (Sh.tup (Shs.nds h.2.1)) (Shs.cons (Sh.tup (Shs.nds h.2.2)) Shs.nil))))).mono (by omega)
 | .use x ps,h=>by
  rw [wN,Bool.and_eq_true] at h;rw [K22.nd]
  obtain ⟨a,b⟩:=eV h.2
  exact (Sh.tup (Shs.cons (Sh.str dO.2.2.2.2.1) (Shs.cons (Sh.str h.1) (Shs.cons (Sh.tup (Shs.pths a)) (Shs.cons Sh.non (Shs.cons Sh.non Shs.nil)))))).mono (by show _≤910 * 0+908;omega)
 | .usew x ps hs b,h=>by
  rw [wN,Bool.and_eq_true,Bool.and_eq_true,Bool.and_eq_true,Bool.and_eq_true] at h;rw [K22.nd,ctN]
  obtain ⟨a,c⟩:=eV h.2.1
  have l5:=of_decide_eq_true h.2.2.2.1
  exact (Sh.tup (Shs.cons (Sh.str dO.2.2.2.2.1) (Shs.cons (Sh.str h.1) (Shs.cons (Sh.tup (Shs.pths a)) (Shs.cons (Sh.tup (Shs.strs h.2.2.1)) (Shs.cons (Sh.tup (Shs.nds h.2.2.2.2)) Shs.nil)))))).mono (by omega)
 | .body ps,h=>by
  rw [wN] at h;rw [K22.nd]
  obtain ⟨a,c⟩:=eV h
  exact (Sh.tup (Shs.cons (Sh.str dO.2.2.2.2.2.1) (Shs.cons (Sh.tup (Shs.pths a)) Shs.nil))).mono (by show _≤910 * 0+908;omega)
theorem Shs.nds:∀ {b:Nds},wS b=true→Shs (910 * ctS b) (nds b)
 | .nil,_=>by rw [K22.nds];exact Shs.nil.mono (Nat.zero_le _)
 | .cons n r,h=>by
  rw [wS,Bool.and_eq_true] at h;rw [K22.nds,ctS]
  exact (Shs.cons (Sh.nd h.1) (Shs.nds h.2)).mono (by omega)
end
theorem Shs.set:∀ {l:List PV} {a b:Nat} {v:PV} (i:Nat),Shs a l→Sh b v→Shs (a+b+2) (l.set i v)
 | [],a,b,v,i,h,_=>by rw [List.set_nil];exact h.mono (by omega)
 | p::r,a,b,v,i,h,g=>by
  obtain ⟨h1,h2⟩:=h
  rw [dC,PyData.showableAll,Bool.and_eq_true] at h1
  rw [dC,PyData.shownAll,piled_cons] at h2
  cases i with
  | zero=>rw [List.set_cons_zero];exact (Shs.cons g (⟨h1.2,Nat.le_refl _⟩:Shs (piled (PyData.shownAll (dC r))) r)).mono (by omega)
  | succ i=>
   rw [List.set_cons_succ]
   have ih:=Shs.set (a:=piled (PyData.shownAll (dC r))) i ⟨h1.2,Nat.le_refl _⟩ g
   exact (Shs.cons (a:=(toD p).shown.length) ⟨h1.1,Nat.le_refl _⟩ ih).mono (by omega)
theorem rsg:sg uN=true∧sg qt=true∧sg Cn=true∧sg xZ=true∧sg nj=true∧sg nk=true∧sg nr=true∧sg gW=true∧sg Af=true∧sg eW=true:=by decide
theorem Shs.flds:∀ {l:List (List Nat)},sgs l=true→Shs (81 * l.length) (l.map fun x=>PV.tup [.str qt,.str x])
 | [],_=>Shs.nil
 | a::r,h=>by
  unfold sgs at h
  rw [List.all_cons,Bool.and_eq_true] at h
  exact (Shs.cons (Sh.tup (Shs.cons (Sh.str rsg.2.1) (Shs.cons (Sh.str h.1) Shs.nil))) (Shs.flds h.2)).mono (by rw [List.length_cons];omega)
theorem zW(ns:List (List Nat))(x:List Nat):kL ns x≤ns.length:=by unfold kL;omega
theorem Shs.rwP{ns:List (List Nat)}{p:Pth}(hp:wp p=true)(ln:ns.length≤100000):Shs 294 (rwP ns p):=by
 rw [wp,Bool.and_eq_true,Bool.and_eq_true] at hp
 have:=of_decide_eq_true hp.2.2
 have sl:=zW ns p.a
 exact (Shs.cons (Sh.tup (Shs.cons (Sh.str rsg.1) (Shs.cons (Sh.nat (by omega:kL ns p.a<1000000)) Shs.nil))) (Shs.flds hp.2.1)).mono (by omega)
theorem Shs.rwPs{ns:List (List Nat)}(ln:ns.length≤100000):∀ {ps:List Pth},(∀ p∈ps,wp p=true)→Shs (294 * ps.length) (rwPs ns ps)
 | [],_=>Shs.nil
 | p::r,h=>by
  have e:K22.rwPs ns (p::r)=K22.rwP ns p++K22.rwPs ns r:=by unfold K22.rwPs;rw [List.flatMap_cons]
  rw [e]
  exact (Shs.app (Shs.rwP (h p List.mem_cons_self) ln) (Shs.rwPs ln fun q hq=>h q (List.mem_cons_of_mem _ hq))).mono (by rw [List.length_cons];omega)
theorem Shs.one{n:Nat}{p:PV}(h:Sh n p):Shs (n+2) [p]:=(Shs.cons h Shs.nil).mono (by omega)
theorem Sh.nat1{n:Nat}(h:n<900000):Sh 6 (.int ((n:Nat)+1:Int)):=by
 rw [show ((n:Nat):Int)+1=((n+1:Nat):Int) by omega];exact Sh.nat (by omega)
theorem Shs.skp(z:Nds){no:List PV}(h:no.length<1000000):Shs 60 (skp z no):=by
 cases z with
 | nil=>exact Shs.nil.mono (by omega)
 | cons n r=>exact (Shs.one (Sh.tup (Shs.cons (Sh.str rsg.2.2.2.2.2.2.2.2.1) (Shs.cons (Sh.nat h) Shs.nil)))).mono (by omega)
mutual
theorem BW(bn:List (List Nat))(lbn:bn.length≤1000):∀ (n:Nd) (ns:List (List Nat)) (bl:List PV) (a:Nat),wN n=true→ns.length+5 * (ctN n+1)≤100000→bl.length+ctN n+1≤100000→ctN n+1≤10000→Shs a bl→∃ x y,Shs x (rwN bn ns bl n).1∧Shs y (rwN bn ns bl n).2∧x+y≤a+1400 * (ctN n+1)
 | .text s,ns,bl,a,w,_,_,_,h=>by
  rw [wN,Bool.and_eq_true] at w;rw [rwN]
  exact ⟨_,_,Shs.one (Sh.tup (Shs.cons (Sh.str rsg.2.2.1) (Shs.cons (Sh.str w.1) Shs.nil))),h,by show _≤a+1400 * (0+1);omega⟩
 | .place p s,ns,bl,a,w,l,_,_,h=>by
  rw [wN,Bool.and_eq_true] at w;rw [rwN]
  have l':ns.length+5 * (0+1)≤100000:=l
  exact ⟨_,_,Shs.app (Shs.rwP w.1 (by omega)) (Shs.one (Sh.tup (Shs.cons (Sh.str rsg.2.2.2.1) (Shs.cons (Sh.str w.2) Shs.nil)))),h,by show _≤a+1400 * (0+1);omega⟩
 | .loop x p b s,ns,bl,a,w,l,lb,c,h=>by
  rw [wN,Bool.and_eq_true,Bool.and_eq_true,Bool.and_eq_true] at w;rw [ctN] at l lb c;rw [rwN,ctN]
  obtain ⟨u,v,hu,hv,le⟩:=kR bn lbn b (ns++ [x]) bl a w.2.2.1 (by rw [List.length_append,List.length_singleton];omega) (by omega) (by omega) h
  have rl:=cD bn (ns++ [x]) bl b w.2.2.1
  exact ⟨_,_,Shs.app (Shs.rwP w.2.1 (by omega)) (Shs.app (Shs.cons (Sh.tup (Shs.cons (Sh.str rsg.2.2.2.2.1) Shs.nil)) (Shs.one (Sh.tup (Shs.cons (Sh.str rsg.2.2.2.2.2.1) (Shs.cons (Sh.nat (by omega:ns.length<1000000)) (Shs.cons (Sh.nat1 (by omega)) (Shs.cons (Sh.str w.2.2.2) Shs.nil))))))) (Shs.app hu (Shs.one (Sh.tup (Shs.cons (Sh.str rsg.2.2.2.2.2.2.1) (Shs.cons (Sh.nat1 (by omega)) Shs.nil)))))),hv,by omega⟩
 | .choice p y z,ns,bl,a,w,l,lb,c,h=>by
  rw [wN,Bool.and_eq_true,Bool.and_eq_true] at w;rw [ctN] at l lb c;rw [rwN,ctN]
  have rl:=cD bn ns bl y w.2.1
  obtain ⟨u,v,hu,hv,le⟩:=kR bn lbn y ns bl a w.2.1 (by omega) (by omega) (by omega) h
  have rl2:=cD bn ns (rwS bn ns bl y).2 z w.2.2
  obtain ⟨u2,v2,hu2,hv2,le2⟩:=kR bn lbn z ns (rwS bn ns bl y).2 v w.2.2 (by omega) (by omega) (by omega) hv
  have sk:=my z (rwS bn ns (rwS bn ns bl y).2 z).1
  exact ⟨_,_,Shs.app (Shs.rwP w.1 (by omega)) (Shs.app (Shs.one (Sh.tup (Shs.cons (Sh.str rsg.2.2.2.2.2.2.2.1) (Shs.cons (Sh.nat (by rw [List.length_append];omega)) Shs.nil)))) (Shs.app hu (Shs.app (Shs.skp z (by omega)) hu2))),hv2,by omega⟩
 | .use x ps,ns,bl,a,w,l,_,_,h=>by
  rw [wN,Bool.and_eq_true] at w;rw [rwN]
  obtain ⟨p1,p2⟩:=eV w.2
  have l':ns.length+5 * (0+1)≤100000:=l
  have ix:bn.idxOf x≤bn.length:=List.idxOf_le_length
  exact ⟨_,_,Shs.app (Shs.rwPs (by omega) p1) (Shs.one (Sh.tup (Shs.cons (Sh.str dO.2.2.2.2.1) (Shs.cons (Sh.nat (by omega:bn.idxOf x<1000000)) (Shs.cons (Sh.nat (by omega:ps.length<1000000)) (Shs.cons Sh.non (Shs.cons (Sh.nat (by omega:ns.length<1000000)) Shs.nil))))))),h,by show _≤a+1400 * (0+1);omega⟩
 | .usew x ps hs b,ns,bl,a,w,l,lb,c,h=>by
  rw [wN,Bool.and_eq_true,Bool.and_eq_true,Bool.and_eq_true,Bool.and_eq_true] at w;rw [ctN] at l lb c;rw [rwN,ctN]
  obtain ⟨p1,p2⟩:=eV w.2.1
  have l5:=of_decide_eq_true w.2.2.2.1
  have ix:bn.idxOf x≤bn.length:=List.idxOf_le_length
  obtain ⟨u,v,hu,hv,le⟩:=kR bn lbn b (ns++hs) (bl++ [.tup []]) (a+5) w.2.2.2.2 (by rw [List.length_append];omega) (by rw [List.length_append,List.length_singleton];omega) (by omega) (Shs.app h ((Shs.one (Sh.tup Shs.nil)).mono (by omega)))
  exact ⟨_,_,Shs.app (Shs.rwPs (by omega) p1) (Shs.one (Sh.tup (Shs.cons (Sh.str dO.2.2.2.2.1) (Shs.cons (Sh.nat (by omega:bn.idxOf x<1000000)) (Shs.cons (Sh.nat (by omega:ps.length<1000000)) (Shs.cons (Sh.nat (by omega:bl.length<1000000)) (Shs.cons (Sh.nat (by omega:ns.length<1000000)) Shs.nil))))))),Shs.set _ hv (Sh.tup (Shs.app hu (Shs.one (Sh.tup (Shs.cons (Sh.str rsg.2.2.2.2.2.2.2.2.2) Shs.nil))))),by omega⟩
 | .body ps,ns,bl,a,w,l,_,_,h=>by
  rw [wN] at w;rw [rwN]
  obtain ⟨p1,p2⟩:=eV w
  have l':ns.length+5 * (0+1)≤100000:=l
  exact ⟨_,_,Shs.app (Shs.rwPs (by omega) p1) (Shs.one (Sh.tup (Shs.cons (Sh.str dO.2.2.2.2.2.1) (Shs.cons (Sh.nat (by omega:ps.length<1000000)) Shs.nil)))),h,by show _≤a+1400 * (0+1);omega⟩
theorem kR(bn:List (List Nat))(lbn:bn.length≤1000):∀ (b:Nds) (ns:List (List Nat)) (bl:List PV) (a:Nat),wS b=true→ns.length+5 * ctS b≤100000→bl.length+ctS b≤100000→ctS b≤10000→Shs a bl→∃ x y,Shs x (rwS bn ns bl b).1∧Shs y (rwS bn ns bl b).2∧x+y≤a+1400 * ctS b
 | .nil,ns,bl,a,_,_,_,_,h=>by rw [rwS,ctS];exact ⟨0,a,Shs.nil,h,by omega⟩
 | .cons n r,ns,bl,a,w,l,lb,c,h=>by
  rw [wS,Bool.and_eq_true] at w;rw [ctS] at l lb c;rw [rwS,ctS]
  have rl:=mB bn ns bl n w.1
  obtain ⟨u,v,hu,hv,le⟩:=BW bn lbn n ns bl a w.1 (by omega) (by omega) (by omega) h
  obtain ⟨u2,v2,hu2,hv2,le2⟩:=kR bn lbn r ns (rwN bn ns bl n).2 v w.2 (by omega) (by omega) (by omega) hv
  exact ⟨_,_,Shs.app hu hu2,hv2,by omega⟩
end
theorem bT{d:Nat}:∀ {l m:List PV},fds d l→fds d m→fds d (l++m)
 | [],m,_,h=>h
 | p::r,m,h,g=>by
  obtain ⟨a,b⟩:=vr h
  exact ak a (bT b g)
theorem qU{d:Nat}{v:PV}(hv:fd d v):∀ {l:List PV} (i:Nat),fds d l→fds d (l.set i v)
 | [],i,h=>by rw [List.set_nil];exact h
 | p::r,i,h=>by
  obtain ⟨a,b⟩:=vr h
  cases i with
  | zero=>rw [List.set_cons_zero];exact ak hv b
  | succ i=>rw [List.set_cons_succ];exact ak a (qU hv i b)
theorem mI{ns:List (List Nat)}{p:Pth}(hp:wp p=true):fds 1 (rwP ns p):=by
 rw [wp,Bool.and_eq_true,Bool.and_eq_true] at hp
 refine ak (aP (ak (aY rsg.1) (ak (eA 0 _) (aH 0)))) ?_
 have:∀ l:List (List Nat),sgs l=true→fds 1 (l.map fun x=>PV.tup [.str qt,.str x]):=fun l=>by
  induction l with
  | nil=>intro _;exact aH _
  | cons a r ih=>
   intro h
   unfold sgs at h;rw [List.all_cons,Bool.and_eq_true] at h
   exact ak (aP (ak (aY rsg.2.1) (ak (aY h.1) (aH 0)))) (ih h.2)
 exact this _ hp.2.1
theorem kr{ns:List (List Nat)}:∀ {ps:List Pth},(∀ p∈ps,wp p=true)→fds 1 (rwPs ns ps)
 | [],_=>aH _
 | p::r,h=>by
  have e:rwPs ns (p::r)=rwP ns p++rwPs ns r:=by unfold rwPs;rw [List.flatMap_cons]
  rw [e];exact bT (mI (h p List.mem_cons_self)) (kr fun q hq=>h q (List.mem_cons_of_mem _ hq))
theorem lF{d:Nat}{p:PV}(h:fd d p):fds d [p]:=ak h (aH d)
theorem AU(z:Nds)(no:List PV):fds 1 (skp z no):=by
 cases z with
 | nil=>exact aH _
 | cons n r=>exact lF (aP (ak (aY rsg.2.2.2.2.2.2.2.2.1) (ak (eA 0 _) (aH 0))))
mutual
theorem BX(bn:List (List Nat)):∀ (n:Nd) (ns:List (List Nat)) (bl:List PV),wN n=true→fds 2 bl→fds 1 (rwN bn ns bl n).1∧fds 2 (rwN bn ns bl n).2
 | .text s,ns,bl,w,h=>by
  rw [wN,Bool.and_eq_true] at w;rw [rwN]
  exact ⟨lF (aP (ak (aY rsg.2.2.1) (ak (aY w.1) (aH 0)))),h⟩
 | .place p s,ns,bl,w,h=>by
  rw [wN,Bool.and_eq_true] at w;rw [rwN]
  exact ⟨bT (mI w.1) (lF (aP (ak (aY rsg.2.2.2.1) (ak (aY w.2) (aH 0))))),h⟩
 | .loop x p b s,ns,bl,w,h=>by
  rw [wN,Bool.and_eq_true,Bool.and_eq_true,Bool.and_eq_true] at w;rw [rwN]
  obtain ⟨u,v⟩:=kU bn b (ns++ [x]) bl w.2.2.1 h
  exact ⟨bT (mI w.2.1) (bT (ak (aP (ak (aY rsg.2.2.2.2.1) (aH 0))) (lF (aP (ak (aY rsg.2.2.2.2.2.1) (ak (eA 0 _) (ak (eA 0 _) (ak (aY w.2.2.2) (aH 0)))))))) (bT u (lF (aP (ak (aY rsg.2.2.2.2.2.2.1) (ak (eA 0 _) (aH 0))))))),v⟩
 | .choice p y z,ns,bl,w,h=>by
  rw [wN,Bool.and_eq_true,Bool.and_eq_true] at w;rw [rwN]
  obtain ⟨u,v⟩:=kU bn y ns bl w.2.1 h
  obtain ⟨u2,v2⟩:=kU bn z ns _ w.2.2 v
  exact ⟨bT (mI w.1) (bT (lF (aP (ak (aY rsg.2.2.2.2.2.2.2.1) (ak (eA 0 _) (aH 0))))) (bT u (bT (AU z _) u2))),v2⟩
 | .use x ps,ns,bl,w,h=>by
  rw [wN,Bool.and_eq_true] at w;rw [rwN]
  exact ⟨bT (kr (eV w.2).1) (lF (aP (ak (aY dO.2.2.2.2.1) (ak (eA 0 _) (ak (eA 0 _) (ak (oh 0) (ak (eA 0 _) (aH 0)))))))),h⟩
 | .usew x ps hs b,ns,bl,w,h=>by
  rw [wN,Bool.and_eq_true,Bool.and_eq_true,Bool.and_eq_true,Bool.and_eq_true] at w;rw [rwN]
  obtain ⟨u,v⟩:=kU bn b (ns++hs) (bl++ [.tup []]) w.2.2.2.2 (bT h (lF (aN (aP (aH 0)) (by omega))))
  exact ⟨bT (kr (eV w.2.1).1) (lF (aP (ak (aY dO.2.2.2.2.1) (ak (eA 0 _) (ak (eA 0 _) (ak (eA 0 _) (ak (eA 0 _) (aH 0)))))))),qU (aP (bT u (lF (aP (ak (aY rsg.2.2.2.2.2.2.2.2.2) (aH 0)))))) _ v⟩
 | .body ps,ns,bl,w,h=>by
  rw [wN] at w;rw [rwN]
  exact ⟨bT (kr (eV w).1) (lF (aP (ak (aY dO.2.2.2.2.2.1) (ak (eA 0 _) (aH 0))))),h⟩
theorem kU(bn:List (List Nat)):∀ (b:Nds) (ns:List (List Nat)) (bl:List PV),wS b=true→fds 2 bl→fds 1 (rwS bn ns bl b).1∧fds 2 (rwS bn ns bl b).2
 | .nil,ns,bl,_,h=>by rw [rwS];exact ⟨aH _,h⟩
 | .cons n r,ns,bl,w,h=>by
  rw [wS,Bool.and_eq_true] at w;rw [rwS]
  obtain ⟨u,v⟩:=BX bn n ns bl w.1 h
  obtain ⟨u2,v2⟩:=kU bn r ns _ w.2 v
  exact ⟨bT u u2,v2⟩
end
open PySem.Builtin.Str in
theorem DA(q c:Nat)(hq:q<1114112)(hc:c<1114112):∀ z∈reprChar q c,z<1114112:=by
  have hx:∀ w:Nat,∀ z∈List.replicate (w - ((Nat.toDigits 16 c).map Char.toNat).length) 48++(Nat.toDigits 16 c).map Char.toNat,z<1114112:=by
    intro w z hz
    rcases List.mem_append.mp hz with h | h
    · rw [List.eq_of_mem_replicate h];decide
    · obtain ⟨ch,_,rfl⟩:=List.mem_map.mp h
      have:=ch.valid
      rcases this with h | h<;>(simp only [Char.toNat];omega)
  unfold reprChar
  dsimp only
  intro z hz
  repeat' split at hz
  all_goals first
    | (simp only [List.mem_cons,List.not_mem_nil,or_false] at hz;rcases hz with rfl | rfl<;>first | assumption | decide)
    | (simp only [List.mem_cons,List.not_mem_nil,or_false] at hz;rcases hz with rfl;assumption)
    | (rcases List.mem_append.mp hz with h | h
       · simp only [List.mem_cons,List.not_mem_nil,or_false] at h
         rcases h with rfl | rfl<;>decide
       · exact hx _ z h)
open PySem.Builtin.Str in
theorem vm(q:Nat)(hq:q<1114112):∀ (l:List Nat) (acc:Array Nat),(∀ c∈l,c<1114112)→(∀ z∈acc.toList,z<1114112)→∀ z∈(l.foldl (fun out c=>out++(reprChar q c).toArray) acc).toList,z<1114112
 | [],acc,_,h=>h
 | c::r,acc,hl,h=>by
  rw [List.foldl_cons]
  refine vm q hq r _ (fun z hz=>hl z (List.mem_cons_of_mem _ hz)) fun z hz=>?_
  rw [Array.toList_append] at hz
  rcases List.mem_append.mp hz with e | e
  ·exact h z e
  ·exact DA q c hq (hl c (by simp)) z e
theorem Dy(x:Str)(hx:∀ c∈x.cps.toList,c<1114112):∀ z∈(reprText x).cps.toList,z<1114112:=by
 intro z hz
 unfold reprText at hz
 have hq:reprQuote x<1114112:=by unfold reprQuote;split<;>decide
 simp only [Array.toList_push] at hz
 rcases List.mem_append.mp hz with e | e
 ·rw [← Array.foldl_toList] at e
  exact vm _ hq x.cps.toList #[reprQuote x] hx (by intro y hy;simp at hy;rw [hy];exact hq) z e
 ·rw [List.mem_singleton.mp e];exact hq
theorem Dq(ts:List Str)(h:∀ t∈ts,∀ c∈t.cps.toList,c<1114112):∀ c∈(tupleText ts).cps.toList,c<1114112:=by
 intro c hc
 unfold tupleText at hc
 rw [PyProof.Rows.mem_cps_append,PyProof.Rows.mem_cps_append,PyProof.Rows.mem_join] at hc
 rcases hc with (hc | hc) | hc
 ·rw [PyProof.Rows.signs_lparen] at hc
  rw [List.mem_singleton.mp hc];decide
 ·rcases hc with ⟨t,ht,hc⟩ | ⟨_,hc⟩
  ·exact h t ht c hc
  ·rw [PyProof.Rows.signs_sep] at hc
   simp at hc
   omega
 ·split at hc
  ·rw [show ((",)":String):Str).cps.toList= [44,41] by decide] at hc
   simp at hc
   omega
  ·rw [show ((")":String):Str).cps.toList= [41] by decide] at hc
   simp at hc
   omega
theorem lg(s:String):∀ c∈(PySem.Str.ofString s).cps.toList,c<1114112:=fun c hc=>by
 rw [PyProof.Rows.signs_ofString] at hc
 obtain ⟨ch,_,rfl⟩:=List.mem_map.mp hc
 rcases ch.valid with h | h<;>(simp only [Char.toNat];omega)
theorem Bh:∀ (ts:List Str) (k:Nat) (acc:Str),(∀ c∈acc.cps.toList,c<1114112)→(∀ t∈ts,∀ c∈t.cps.toList,c<1114112)→∀ c∈(textFrom k acc ts).cps.toList,c<1114112
 | [],_,acc,h,_=>h
 | t::r,k,acc,h,ht=>by
  rw [textFrom]
  refine Bh r (k+1) _ (fun c hc=>?_) fun t' h'=>ht t' (List.mem_cons_of_mem _ h')
  rw [PyProof.Rows.mem_cps_append,PyProof.Rows.mem_cps_append] at hc
  rcases hc with (hc | hc) | hc
  ·exact h c hc
  ·exact lg _ c hc
  ·exact ht t List.mem_cons_self c hc
theorem DS(ts:List Str)(h:∀ t∈ts,∀ c∈t.cps.toList,c<1114112):∀ c∈(listText ts).cps.toList,c<1114112:=fun c hc=>by
 unfold listText at hc
 rw [PyProof.Rows.mem_cps_append] at hc
 rcases hc with hc | hc
 ·exact Bh ts 0 "[" (lg "[") h c hc
 ·exact lg "]" c hc
mutual
theorem rH:∀ d:PyData,d.canLay0=true→∀ c∈d.shown.cps.toList,c<1114112
 | .none,_=>by rw [PyData.shown];exact lg "None"
 | .bool b,_=>by rw [PyData.shown];cases b<;>exact lg _
 | .int i,_=>by rw [PyData.shown];exact lg _
 | .str x,h=>by
  rw [PyData.shown]
  refine Dy x fun c hc=>?_
  rw [PyData.canLay0] at h
  unfold PyData.strOk at h
  rw [← Array.all_toList] at h
  exact of_decide_eq_true (List.all_eq_true.mp h c hc)
 | .list xs,h=>by rw [PyData.canLay0] at h;rw [PyData.shown];exact DS _ (iM xs h)
 | .tuple xs,h=>by rw [PyData.canLay0] at h;rw [PyData.shown];exact Dq _ (iM xs h)
 | .dict _,h=>by simp [PyData.canLay0] at h
theorem iM:∀ xs:List PyData,PyData.canLayAll0 xs=true→∀ t∈PyData.shownAll xs,∀ c∈t.cps.toList,c<1114112
 | [],_=>by rw [PyData.shownAll];intro t ht;cases ht
 | x::r,h=>by
  rw [PyData.canLayAll0,Bool.and_eq_true] at h
  rw [PyData.shownAll]
  intro t ht
  rcases List.mem_cons.mp ht with q | q
  ·subst q;exact rH x h.1
  ·exact iM r h.2 t q
end
theorem uK{p:PV}{n:Nat}(f:fd 59 p)(s:Sh n p)(hn:n≤16777216)(sq:Em (toD p)=true):∃ X:List Nat,(∀ h,kf [p] h= .ok (.str X) h)∧(∀ h,pEq (.str X) (.str X) h= .ok (.bl true) h)∧∀ h,pNe (.str X) (.str X) h= .ok (.bl false) h:=by
 have e:∀ h,dOf h p=toD p:=fun h=>by cases p<;>first | rfl | (have:=f.2.2;simp [PV.pure] at this)
 have lt:=rH (toD p) f.1
 refine ⟨(toD p).shown.cps.toList,fun h=>?_,fun h=>?_,fun h=>?_⟩
 ·show (if okR (dOf h p)=true then Res.ok (PV.str (dOf h p).shown.cps.toList) h else .bad)=_
  rw [e h,if_pos]
  unfold okR
  rw [f.1,PyData.hasDict_of_canLay _ f.1,s.1,sq,decide_eq_true (show (toD p).depth≤60 from Nat.le_trans f.2.1 (by omega)),decide_eq_true (show (toD p).shown.length≤sizeLine from Nat.le_trans s.2 (Nat.le_trans hn (by decide)))];rfl
 ·rw [qx _ _ h lt lt,decide_eq_true rfl]
 ·rw [yl _ _ h lt lt,decide_eq_true rfl];rfl
theorem Aw{p:PV}(f:fd 60 p)(h:List PO):pNe p p h= .ok (.bl false) h:=by
 have e:dOf h p=toD p:=by cases p<;>first | rfl | (have:=f.2.2;simp [PV.pure] at this)
 unfold pNe
 rw [if_pos ⟨vv f h,vv f h⟩,e,SeqAt.eqv_refl _ f.1];rfl
theorem zy(bn:List (List Nat))(lbn:bn.length≤1000):∀ (r:List Pc) (i:Nat) (bl:List PV) (a:Nat),(∀ q∈r,wC q=true∧dS q.b≤3∧ctS q.b≤2100∧q.ns.length≤4)→bl.length+2100 * r.length≤50000→Shs a bl→fds 2 bl→fds 2 (cpB bn bl i r)∧Shs (a+2940100 * r.length) (cpB bn bl i r)
 | [],i,bl,a,_,_,h,f=>⟨f,h.mono (by omega)⟩
 | q::r,i,bl,a,hr,hl,h,f=>by
  rw [List.length_cons] at hl
  obtain ⟨g1,g2,g3,g4⟩:=hr q List.mem_cons_self
  unfold wC at g1
  simp only [Bool.and_eq_true,decide_eq_true_eq] at g1
  obtain ⟨u,v,hu,hv,le⟩:=kR bn lbn q.b q.ns bl a g1.2.2.2.1 (by omega) (by omega) (by omega) h
  obtain ⟨f1,f2⟩:=kU bn q.b q.ns bl g1.2.2.2.1 f
  have rl:=cD bn q.ns bl q.b g1.2.2.2.1
  have s1:=Shs.set i hv (Sh.tup (Shs.app hu (Shs.one (Sh.tup (Shs.cons (Sh.str rsg.2.2.2.2.2.2.2.2.2) Shs.nil)))))
  have s2:=qU (aP (bT f1 (lF (aP (ak (aY rsg.2.2.2.2.2.2.2.2.2) (aH 0)))))) i f2
  obtain ⟨z1,z2⟩:=zy bn lbn r (i+1) _ _ (fun z hz=>hr z (List.mem_cons_of_mem _ hz)) (by rw [List.length_set];omega) s1 s2
  rw [cpB]
  exact ⟨z1,z2.mono (by rw [List.length_cons];omega)⟩
theorem Cg(n:Nat):fds 2 (dI [PV.tup []] (n:Int))∧Shs (5 * n) (dI [PV.tup []] (n:Int)):=by
 unfold dI
 rw [Int.toNat_natCast]
 induction n with
 | zero=>exact ⟨aH _,Shs.nil⟩
 | succ n ih=>
  rw [List.replicate_succ,List.flatten_cons]
  exact ⟨bT (lF (aN (aP (aH 0)) (by omega))) ih.1,(Shs.app (Shs.one (Sh.tup Shs.nil)) ih.2).mono (by omega)⟩
theorem DE{q:Pc}(g:wC q=true∧dS q.b≤3∧ctS q.b≤2100∧q.ns.length≤4)(m4:∀ i,q.m=some i→0≤i∧i<1000000):Sh 1911400 (pc q):=by
 obtain ⟨g1,g2,g3,g4⟩:=g
 unfold wC at g1
 simp only [Bool.and_eq_true,decide_eq_true_eq] at g1
 have hm:Sh 6 (mny q.m):=by
  cases e:q.m with
  | none=>exact Sh.non.mono (by omega)
  | some i=>
   obtain ⟨i0,i1⟩:=m4 i e
   obtain ⟨n,rfl⟩:=Int.eq_ofNat_of_zero_le i0
   exact Sh.nat (by omega)
 exact (Sh.tup (Shs.cons (Sh.str dO.2.2.2.2.2.2) (Shs.cons (Sh.str g1.1) (Shs.cons (Sh.tup (Shs.strs g1.2.1)) (Shs.cons hm (Shs.cons (Sh.tup (Shs.nds g1.2.2.2.1)) Shs.nil)))))).mono (by omega)
theorem yi:∀ {l:List Pc},(∀ q∈l,wC q=true∧dS q.b≤3∧ctS q.b≤2100∧q.ns.length≤4)→(∀ q∈l,∀ i,q.m=some i→0≤i∧i<1000000)→Shs (1911402 * l.length) (l.map pc)
 | [],_,_=>Shs.nil
 | q::r,g,m=>(Shs.cons (DE (g q List.mem_cons_self) (m q List.mem_cons_self)) (yi (fun z hz=>g z (List.mem_cons_of_mem _ hz)) fun z hz=>m z (List.mem_cons_of_mem _ hz))).mono (by rw [List.length_cons];omega)
theorem vN{B:List Pc}(G:GB B):fd 51 (bk B)∧Sh 7645611 (bk B):=by
 have l4:=G.l4
 exact ⟨aP (vq fun q hq=>(G.g q hq).1),(Sh.tup (yi G.g G.mm)).mono (by omega)⟩
theorem BK{A B:List Pc}(GA:GB A)(GB':GB B):∃ X:List Nat,(∀ h,kf [.lst [bk A,bk B]] h= .ok (.str X) h)∧∀ h,pEq (.str X) (.str X) h= .ok (.bl true) h:=by
 obtain ⟨a1,a2⟩:=vN GA
 obtain ⟨b1,b2⟩:=vN GB'
 obtain ⟨X,x1,x2,_⟩:=uK (p:=.lst [bk A,bk B]) (aN (ug (ak a1 (ak b1 (aH _)))) (by omega)) (Sh.lst (Shs.cons a2 (Shs.cons b2 Shs.nil))) (by omega) (by rw [toD];rfl)
 exact ⟨X,x1,x2⟩
theorem Am{B:List Pc}(G:GB B):∃ P:PV,P.pure=true∧(∀ K,26≤K→F (K+1) .compiled [bk B]= .ok P∧F (K+1) .l_due [bk B]= .ok P)∧(∀ h,aq h P=P)∧(∀ h,pNe P P h= .ok (.bl false) h)∧(∀ h,eR [P,.ty "tuple"] h= .ok (.bl true) h)∧∃ X:List Nat,(∀ h,kf [P] h= .ok (.str X) h)∧∀ h,pNe (.str X) (.str X) h= .ok (.bl false) h:=by
 have l4:=G.l4
 obtain ⟨r1,r2⟩:=Cg B.length
 obtain ⟨rl,rp⟩:=xH B.length
 obtain ⟨f,s⟩:=zy (B.map (·.n)) (by rw [List.length_map];omega) B 0 (dI [.tup []] (B.length:Int)) (5 * B.length) G.g (by omega) r2 r1
 have ft:=aP f
 obtain ⟨X,x1,_,x3⟩:=uK (p:=.tup (cpB (B.map (·.n)) (dI [.tup []] (B.length:Int)) 0 B)) (aN ft (by omega)) (Sh.tup s) (by omega) (by rw [toD];rfl)
 exact ⟨.tup (cpB (B.map (·.n)) (dI [.tup []] (B.length:Int)) 0 B),ft.2.2,fun K hK=>⟨sO K hK B G,CP K (by omega) B G.l4 G.g G.o⟩,fun _=>rfl,Aw (aN ft (by omega)),fun _=>rfl,X,x1,x3⟩
theorem wZ(k:Nat)(cs:List Int):∃ z:Int,F (k+1) .l_cell_at [cv cs,.int 0]= .ok (.int z):=by
 have r2:F (k+1) .l_cell_at [cv cs,.int 0]=match fN (F k) [some (cv cs),some (.int 0)] [] with
   | .nx _ _=>.ok .non
   | .rt v h=>gh v h
   | _=>.bad:=rfl
 have ln:∀ h,bv [cv cs] h= .ok (.int cs.length) h:=fun h=>by unfold cv;rw [Bo,List.length_map]
 cases cs with
 | nil=>
  refine ⟨0,?_⟩
  rw [r2]
  simp only [EX,fN,bO,ln]
  rfl
 | cons a r=>
  refine ⟨a,?_⟩
  have z:decide ((0:Int)<((a::r).length:Nat))=true:=decide_eq_true (by rw [List.length_cons];omega)
  have ix:∀ h,pIx (cv (a::r)) (.int 0) h= .ok (.int a) h:=fun h=>by unfold cv;rw [List.map_cons,DY,at0,yQ];rfl
  rw [r2]
  simp only [List.length_cons] at z ln
  simp only [EX,fN,bO,ln,z,ix]
  rfl
abbrev lE(cs:List Int)(ms:List (List Nat))(A B:List Pc)(X:List Nat)(x6 x7:Option PV):Ev:= [some (cv cs),some (.ref 0),some (mnu ms),some (bk A),some (bk B),some (.str X),x6,x7]
theorem qI(K:Nat)(hK:27≤K)(cs:List Int)(ms:List (List Nat))(A B:List Pc)(X:List Nat)(Q:List Pc)(G:GB Q)(h:List PO)(x7:Option PV):∃ y7,mu (F K) (lE cs ms A B X (some (bk Q)) x7) h= .nx (lE cs ms A B X (some (bk Q)) y7) h:=by
 obtain ⟨k,rfl⟩:∃ k,K=k+1:=⟨K - 1,by omega⟩
 obtain ⟨P,p0,p1,p2,p3,p4,Y,y1,y2⟩:=Am G
 obtain ⟨c1,c2⟩:=p1 k (by omega)
 have cc:∀ h,dv (F (k+1) .compiled) [bk Q] h= .ok P h:=fun h=>cH h (by rw [am,kx];rfl) c1
 have cd:∀ h,dv (F (k+1) .l_due) [bk Q] h= .ok P h:=fun h=>cH h (by rw [am,kx];rfl) c2
 refine ⟨some P,?_⟩
 have tn:∀ ρ:Ev,ρ[7]? =some (some P)→xq (iK (cN eR (ab (af 7) (ab (cK (.ty "tuple")) aj)))) ρ h= .ok false h:=fun ρ e=>by
  have v7:af 7 ρ h= .ok P h:=by
   show (match ρ[7]? with | some (some p)=>Res.ok (aq h p) h | _=>.bad)=_
   rw [e];show Res.ok (aq h P) h=_;rw [p2]
  show ((iK (cN eR (ab (af 7) (ab (cK (.ty "tuple")) aj))) ρ h).bind _)=_
  have:iK (cN eR (ab (af 7) (ab (cK (.ty "tuple")) aj))) ρ h= .ok true h:=by
   show kTr (kg eR (ab (af 7) (ab (cK (.ty "tuple")) aj) ρ h))=_
   have:ab (af 7) (ab (cK (.ty "tuple")) aj) ρ h= .ok [P,.ty "tuple"] h:=by
    show ((af 7 ρ h).bind _)=_
    rw [v7];rfl
   rw [this]
   show kTr (eR [P,.ty "tuple"] h)=_
   rw [p4];rfl
  rw [this];rfl
 have tn':=tn [some (cv cs),some (.ref 0),some (mnu ms),some (bk A),some (bk B),some (.str X),some (bk Q),some P] rfl
 simp only [EX,mu,cc,cd,p2,p3,y1,y2,tn']
theorem vL{fn:List PV→List PO→Res PV}(cs:List Int)(l2:List PV)(h2:am l2=true){n m n' m':Int}{v:PV}(hv:v.pure=true)(e:fn (cv cs::.ref 0::l2) [spt n m]= .ok v [spt n' m'])(r:List PO):callL fn (cv cs::.ref 0::l2) (spt n m::r)= .ok v (spt n' m'::r):=
 eP (fn:=fn) [cv cs] l2 (by rw [am,ku];rfl) h2 rfl (dX _ _) e hv (dX _ _)
theorem CG(K:Nat)(hK:40≤K)(cs:List Int)(hc:cs.length≤63):F (K+1) .law [cv cs]= .ok (.bl true):=by
 obtain ⟨k,rfl⟩:∃ k,K=k+1:=⟨K - 1,by omega⟩
 obtain ⟨v,v0,v1,ce⟩:=cZ k cs hc 0 30 (by decide) (by decide) []
 have ce':callL (L (k+1) .l_cell) [cv cs,.ref 0] [spt 0 30]= .ok (.int v) [spt 1 30]:=ce
 obtain ⟨ms,m1,m2,m3,_,m5⟩:=yC k v
 have cn:∀ h,dv (F (k+1) .l_names) [.int v] h= .ok (mnu ms) h:=fun h=>cH h rfl m5
 obtain ⟨z,cz⟩:=wZ k cs
 have ca:∀ h,dv (F (k+1) .l_cell_at) [cv cs,.int 0] h= .ok (.int z) h:=fun h=>cH h (by rw [am,ku];rfl) cz
 obtain ⟨A,s,n1,k1,GA,_,_,a4,a5,a6⟩:=vO k (by omega) cs hc ms m1 m2 m3 (decide (z % 4=3)) false 1 30 (by decide) (by decide)
 obtain ⟨B,s2,n2,k2,GB',_,_,b4,b5,b6⟩:=vO k (by omega) cs hc ms m1 m2 m3 false true n1 k1 (by omega) (by omega)
 have pv:∀ (A:List Pc) (s:Scp),(PV.tup [bk A,scv s]).pure=true:=fun A s=>by rw [PV.pure,am,am,kx,fF];rfl
 have cA:=vL (fn:=L (k+1) .l_book) cs [mnu ms,.bl (decide (z % 4=3)),.bl false] (by rw [am,gf];rfl) (pv A s) a6 []
 have cB:=vL (fn:=L (k+1) .l_book) cs [mnu ms,.bl false,.bl true] (by rw [am,gf];rfl) (pv B s2) b6 []
 obtain ⟨X,x1,x2⟩:=BK GA GB'
 have i0:∀ (A:List Pc) (s:Scp) h,pIx (.tup [bk A,scv s]) (.int 0) h= .ok (bk A) h:=fun _ _ _=>rfl
 have d0:∀ (n m:Int),aq [spt n m] (.ref 0)= .ref 0:=fun _ _=>rfl
 obtain ⟨y1,e1⟩:=qI (k+1) (by omega) cs ms A B X A GA [spt n2 k2] none
 obtain ⟨y2,e2⟩:=qI (k+1) (by omega) cs ms A B X B GB' [spt n2 k2] y1
 obtain ⟨y3,e3⟩:=qI (k+1) (by omega) cs ms A B X A GA [spt n2 k2] y2
 have lp:bg (gNm 6) (mu (F (k+1))) [bk A,bk B,bk A] [some (cv cs),some (.ref 0),some (mnu ms),some (bk A),some (bk B),some (.str X),none,none] [spt n2 k2]= .nx [some (cv cs),some (.ref 0),some (mnu ms),some (bk A),some (bk B),some (.str X),some (bk A),y3] [spt n2 k2]:=by
  refine (cO rfl e1).trans ?_
  refine (cO rfl e2).trans ?_
  refine (cO rfl e3).trans ?_
  rw [bg]
 have r2:F (k+1+1) .law [cv cs]=match vP (F (k+1)) (L (k+1)) [some (cv cs),none,none,none,none,none,none,none] [] with
   | .nx _ _=>.ok .non
   | .rt v h=>gh v h
   | _=>.bad:=rfl
 have lm:eM [.int 0,.int 30] []= .ok (.ref 0) [spt 0 30]:=rfl
 rw [r2]
 unfold vP
 have Q:=fun r:SR=>(match r with | .nx _ _=>Out.ok .non | .rt v h=>gh v h | _=>.bad)=Out.ok (.bl true)
 simp only [EX,bO,d0,lm,ce',cn,dM,ca,cA,cB,i0,jd,x1,lp,x2]
 rfl
theorem yK:∀ ns:List Int,ns.length≤63→F 100 .law [.giv (ns.map PV.int)]= .ok (.bl true):=fun cs hc=>CG 99 (by decide) cs hc
end K22
namespace PySem.W.Fast
open Lean in
local macro_rules|`(command|#check tws)=>do let p:=`PySem.Challenge;let q:=p.str "cw_formsmith_k22_rows_told_holds";let c←((List.range 263).map (fun i=>q.str s!"o_{i+43}")++("tree_57 heap_39 tree_305 env_41 sts_58 tree_129 sts_290 tree_47 heap_306 sts_209 tree_208 sts_130 view_39 tree_289 sts_49 heap_46".splitOn.map q.str)++[p.str "pw_formsmith_k22_rows_told",p.str "rw_formsmith_k22_rows_told"]).mapM fun n=>`(command|theorem $(mkIdent (.mkSimple s!"tw{n.hash}")):ident:True:=⟨⟩);return mkNullNode c.toArray
#check tws
end PySem.W.Fast
open PySem PySem.W PyProof.Rows
set_option maxRecDepth 100000 in
set_option maxHeartbeats 0 in
theorem PySem.Challenge.cw_formsmith_k22_rows_told_holds : PySem.Challenge.rw_formsmith_k22_rows_told.Holds := by
  w_on; o_law; k_head; (case hw => w_witness2)
  k_fill
  refine Z.yJ (l := PySem.Challenge.rw_formsmith_k22_rows_told) (k := K22.dl 100) (x := "_law_script") (fn := K22.F 100 .law) rfl rfl ⟨by decide, by decide, rfl⟩ (fun w h Y => PySem.W.kIn_of Y) K22.yK ?F
  case F =>
    intro w mg fa h KX G hmg
    refine' K22.CZ KX G hmg ?aC_Compiler ?cl_Compiler ?mk_Compiler ?kp_Compiler ?na_Compiler_numbers ?na_Compiler_blocks ?hf ?hn
    (case aC_Compiler | mk_Compiler | kp_Compiler | na_Compiler_numbers | na_Compiler_blocks => k_is)
    (case cl_Compiler => constructor <;> k_is)
    (case hf => intro f; cases f <;> (refine' K22.fq (Ad := K22.adP _ _ _) ?fa ?fl ?fc ?fk ?fb; (case fa => dsimp only [K22.adP]; first | k_is | ((first | constructor | skip) <;> (repeat' apply And.intro) <;> k_is)); (case fl => k_is); (case fc => k_is); (case fk => k_is); (case fb => intro _ _ _ _ _ _ us hl; first | (obtain rfl := K22.us0 hl; rfl) | (obtain ⟨_, rfl⟩ := K22.us1 hl; rfl) | (obtain ⟨_, _, rfl⟩ := K22.us2 hl; rfl) | (obtain ⟨_, _, _, rfl⟩ := K22.us3 hl; rfl) | (obtain ⟨_, _, _, _, rfl⟩ := K22.us4 hl; rfl) | (obtain ⟨_, _, _, _, _, rfl⟩ := K22.us5 hl; rfl) | (obtain ⟨_, _, _, _, _, _, rfl⟩ := K22.us6 hl; rfl) | (obtain ⟨_, _, _, _, _, _, _, rfl⟩ := K22.us7 hl; rfl))))
    (case hn => intro i; cases i <;> k_is)
