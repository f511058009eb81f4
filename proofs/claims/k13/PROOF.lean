import PyProof.Rows.All
import Wide.All
import OpenK.AllK
import Wide.FinOn
import Lean
import PyProof.EqAt
import PyProof.EqKinds
import PyProof.TupleCall
import PyProof.StationsW
import PyProof.TupleOps
import PyProof.ExcAttrAll.ValueError
import PyProof.ExcClass3
import PyProof.InstStoreFacts
import KE.KDictOf
import PyProof.AttrMissHeap
import KE.LcSums
import KE.KDictList
import PyProof.StrCalls
import PyProof.FactsAll.range_2
import KE.KRevIter
import PyProof.ZipIter
import PyProof.Draws
import PyProof.EnumMake
import PyProof.CompUse
import PyProof.ListCopy
import KE.KRevSl
import PyProof.DictUpdate
import PyProof.NeKinds
import PyProof.Rows.ExtendIn
import PyProof.DictItems
import KE.KPairComp
import PyProof.ListNew
import PyProof.ReprRoads
import KE.KDictLaws
import PyProof.SliceStr
import PyProof.P3Eq
import PySem.Challenge.RW_formsmith_k13_flat_forms_filled
open Array renaming getElem?_eq_getElem->aeL,findIdx?_eq_some_iff_getElem->afl,getElem?_toList->agO,length_toList->ag8,getElem_mem->ahB,toList_inj->ahM
open Bool renaming and_eq_true->adI,and_true->aek,or_eq_true->aeD,true_and->aeS,false_ne_true->aeX,false_eq_true->aeY,eq_iff_iff->afQ,not_eq_true'->agj,or_true->ahA,and_self->ah0,true_or->ah2
open Classical renaming byContradiction->agf
open Function renaming comp_def->ahz
open Int renaming toNat_natCast->aeR,emod_lt_of_pos->afk,emod_nonneg->afO,le_refl->agW,toNat_of_nonneg->ag6
open LawfulBEq renaming eq_of_beq->afe
open List renaming length_append->adt,length_cons->adu,getElem?_eq_some_iff->adv,mem_singleton->adw,getElem?_eq_getElem->adx,getElem?_append_left->adC,mem_cons->adD,map_cons->adE,mem_of_getElem?->adF,mem_cons_of_mem->adG,length_singleton->adH,length_map->adJ,getElem?_append_right->adL,getD_eq_getElem?_getD->adM,append_assoc->adN,mem_cons_self->adO,length_nil->adQ,mem_append->adS,mem_map->adT,append_nil->adU,map_append->adV,set_append_right->adW,all_eq_true->adX,length_range->adY,getElem?_map->adZ,getElem?_cons_succ->ad0,nil_append->ad1,mem_range->ad3,flatten_append->ad5,find?_cons_of_neg->ad6,find?_cons_of_pos->aea,not_mem_nil->aeb,set_cons_succ->aec,lookup_cons->aeg,getElem_mem->aeh,cons_append->aei,getElem?_take_of_lt->aej,nodup_cons->aem,map_map->aen,size_toArray->aep,isPrefixOf_iff_prefix->aer,flatten_cons->aes,replicate_succ->aev,getElem_inj->aeH,getElem?_eq_none->aeK,nodup_append->aeO,mem_iff_getElem->aeP,getElem?_set_ne->aeQ,length_drop->aeT,getElem?_replicate->aeU,set_cons_zero->aeV,getElem_range->aeW,any_cons->ae1,all_cons->ae2,singleton_append->ae3,mem_of_mem_take->afb,map_nil->afq,getElem?_set_self->afr,length_replicate->afw,contains_iff_mem->afx,length_take->afB,isEmpty_iff->afC,any_eq_true->afD,head?_drop->afM,mem_map_of_mem->afR,length_flatten->afS,map_id'->afY,zip_cons_cons->af5,nodup_nil->af6,drop_drop->af7,contains_cons->af8,mem_of_find?_eq_some->agd,sum_cons->agn,getElem?_cons_zero->ags,all_map->agz,range_succ->agB,of_mem_zip->agC,mem_filter->agD,foldl_cons->agE,length_filter_le->agK,getElem?_toArray->agL,eq_nil_or_concat->agM,concat_eq_append->agN,mem_of_mem_drop->agU,getLast?_concat->agV,map_congr_left->ag4,filter_eq_self->ag5,find?_eq_none->ahj,take_sublist->ahy,mem_flatten->ahI,getElem_map->ahJ,filter_cons->ahK,ext_getElem->ahL,find?_some->ahS,find?_cons->ahT,filter_map->ahU,any_map->ah1
open List.cons renaming injEq->afN
open Nat renaming le_refl->adA,le_trans->adR,sub_self->aee,le_max_right->aef,le_max_left->ael,zero_le->aex,ne_of_lt->aeF,lt_of_lt_of_le->aeI,lt_or_ge->aeN,lt_irrefl->ae0,lt_succ_of_lt->afp,le_of_ble_eq_true->afv,add_mul->afG,zero_add->afX,le_succ->agi,le_of_lt->agy,mul_le_mul_right->agT,succ_mul->ahv,mul_zero->ahw,mul_comm->ahx,not_lt_of_le->ahF,min_le_right->ahG,lt_succ_self->ahH,toList_repr->ahQ,min_le_left->ahR,max_le->ahZ
open Ne renaming symm->afW
open Option renaming isSome_iff_exists->ad4,map_eq_some_iff->aeE,bind_some->aeG,getD_some->afA,getD_none->ahE,map_some->ahP
open Option.some renaming inj->aed,injEq->ahu
open PyProof.Rows renaming slot_tuple_getitem->aey,subscriptTail_builtinR->agu,entry_tuple_getitem->ag0,slot_tuple_getitem->ahe,args_tuple_getitem->ahg,Subscript_->ahY
open PySem renaming wpAny_bind->adq,wpAny_pure->adB,wpAny_mono->ad8,wpAny_Call_Name_kw->ad9,wpAny_newObj_type->aeo,mem_of_lookup->aeu,wpAny_execs_nil->aew,wpAny_holding->aeA,wpAny_truthy_bool->aeB,wpAny_getItem_str_slice->aeC,wpAny_passesOwn->aeZ,wpAny_loadPart_at->ae5,wpAny_dictEntries->ae6,wpAny_call->ae7,sizeLine_eq->ae8,codeAny_call_builtin->ae9,wpAny_execs_cons->afc,wpAny_call_entry->afd,wpAny_comprehension_free->afi,wpAny_pyIter_tuple->afj,wpAny_field->afm,wpAny_callSpecial?_slot->afn,wpAny_pyIter_list->afo,plainObj_wpAny_Assign_Attribute->aft,wpAny_notOrdered_dict->afu,call_meets->afy,wpAny_standAt->afE,wpAny_dictEpoch->afI,post_val_or_str->afJ,wpAny_typeOf->afT,wpAny_richCompare_same_room->afU,codeAny_mono->afV,typeIs_str->af2,wpAny_binaryOp_repeat_ref->aga,codeAny_handlers_suite_as->agb,wpAny_pyIter_enum->agg,wpAny_assign_Name->agh,noFill_tuple_add->ago,wpAny_Assign_Subscript->agt,exec_Assign_Name_used->agF,codeAny_handlers_test->agG,wpAny_isSubtype_exc->agY,wpAny_handleBy_cons->agZ,codeAny_forLoop_any->ag1,seq_tuple_add->ag9,evalPart_none->aha,wpAny_List_spliced->ahc,typeIs_int->ahd,arm_eval_Attribute->ahf,wpAny_sequenceKey->ahn,wpAny_Assign_Name->aho,slot_list_getitem->ahp,seqIndex_neg->ahq,concat_meets->ahr,seqIndex_of->ahN,wpAny_rule->ahV,wpAny_Name->ahW
open PySem.Around renaming frames_deeper->afH,under_plainId->agX
open PySem.AutoSeq1 renaming wpAny_loadPart'->ad7,wpAny_loadPart'->afz
open PySem.Calls renaming Name_function_global->af9
open PySem.Code renaming quiet_builtin->ahm
open PySem.F renaming slot_list_getattribute->aez,store_object->aeM,slot_dict_eq->afa,slot_dict_setdefault->afL,excBase_ValueError->af3,excBase_Exception->agc,slot_str_eq_refl->agl,args_tuple_add_2->agm,plainAttrs_dict->agp,entry_tuple_add->agq,attr_ValueError->agr,slot_tuple_add->agv,plainAttrs_str->agw,args_dict_eq_2->agx,sub_dict_dict->agH,slot_dict_get->agI,entry_dict_eq->agJ,sub_str_dict->agR,slot_dict_ne->agS
open PySem.Heap renaming get?_push_of_some->ady,get?_push_size->adK,lt_size->ad2,get?_update_self->ae4,get?_update_ne->afh,size_push->afs,get?_some_iff->ahk
open PySem.Heap.DictOf renaming new->afP
open PySem.Heap.IsSliceOf renaming new->ahl
open PySem.Heap.SameBut renaming update->ag7
open PySem.Obj renaming data_mapFields->af4
open PySem.P renaming add_list->ahD
open PySem.Sem renaming wp_pure->afF,wp_mono->ahO
open PySem.SeqAt.EqAt renaming same->afK,of_refs->ahi
open PySem.W renaming mg_of->aeJ,callWith_K->afg,kia_tup->afZ,kia_one->af0,callWith_K0->agk,methodCall_KW->agA,looks_findIn->agP,hideAll_none->agQ,hideAll_get->ag2,plainGet_of->ahb,cellsFrom_some->ahC
open PySem.W.Looks renaming here->ahs,ld->ahX
open PySem.Walks renaming list->ahh
open PySem.Within renaming cons->aht
set_option compiler.extract_closed false
set_option genInjectivity false
set_option bootstrap.genMatcherCode false
noncomputable section
set_option Elab.async false
set_option linter.all false
set_option maxRecDepth 100000
set_option maxHeartbeats 4000000
set_option autoImplicit false
local macro_rules|`(⋯)=>`(by first|decide|lia)
namespace Z
open PySem PySem.Spec PyProof.Rows
abbrev Y1:=List Nat
abbrev Ya:=List Y1
abbrev Yf:=Value->Shared->Prop
abbrev Z3:=List Value
abbrev Zl:=List Str
abbrev Zp:=Option Int
abbrev Zs:=List Addr
variable{A:Around}{E Q:Yf}{O:Addr->Option Addr}{R:Result->Shared->Prop}{a b:Addr}{cells:List (Str×Addr)}{es ifs:List Expr}{i:Int}{items j6:Array Value}{iter tg:Expr}{k n:Nat}{kw:List (Str×Value)}{l:List (Str×NameKind)}{o:Obj}{op:CmpOp}{pos:Pos}{prog:Program}{s':Shared}{scope:Scope}{t:String}{u v:Value}{us:Z3}{x:Str}{α:Type}
abbrev PK:=Sum Int Y1
variable{kvs:List (PK×Value)}
noncomputable def S(l:Y1):Str:=⟨l.toArray⟩
def yC{a b:Y1}(h:S a=S b):a=b:=by have:=congrArg (fun x=>x.cps.toList) h;simpa[S]using this
def NK(x:Str):S x.cps.toList=x:=by cases x;simp[S]
def fN(l:Y1):(S l).length=l.length:=by show(S l).cps.size=_;simp[S]
set_option genInjectivity true in
inductive PV where
 |non|bl (b:Bool)|int (i:Int)|str (x:Y1)|ty (n:String)|cls (C:Nat)
 |tup (xs:List PV)|lst (xs:List PV)|Uh (xs:List PV)|dct (kvs:List (PK×PV))|ins (C:Nat) (fs:List (Str×PV))
 |ref (i:Nat)|exc (C:Nat)|TY (C:Nat) (v:PV)
abbrev Y2:=List PV
variable{p:PV}
mutual
noncomputable def PV.pure:PV->Bool
 |.ref _=>false
 |.tup xs=>aq xs
 |.lst xs=>aq xs
 |.Uh xs=>aq xs
 |.dct kvs=>bP kvs
 |.ins _ fs=>wg fs
 |.TY _ v=>v.pure
 |_=>true
noncomputable def aq:Y2->Bool
 |[]=>true
 |x::r=>x.pure&&aq r
noncomputable def bP:List (PK×PV)->Bool
 |[]=>true
 |(_,x)::r=>x.pure&&bP r
noncomputable def wg:List (Str×PV)->Bool
 |[]=>true
 |(_,x)::r=>x.pure&&wg r
end
theorem dC:∀(l:List (PK×PV)),bP l=aq (l.map (·.2))
 |[]=>by simp[aq,bP]
 |(k,x)::r=>by simp[aq,bP,dC r]
noncomputable def V0(C:Nat):Str:=if C<500 then "at" else "word"
noncomputable def Uy:Nat->Zl
 |600=> ["parts","counted"]
 |601=> ["pen","pieces"]
 |602=> ["loops","pieces"]
 |603=> ["numbers","blocks"]
 |604=> ["text","at"]
 |605=> ["block","slots","body","place","walks"]
 |606=> ["things","taken"]
 |607=> ["program","pen","frames","stack","done","result"]
 |608=> ["command","nodes","yes","between"]
 |609=> ["pieces","opened","counted"]
 |_=> []
inductive PO where
 |lst (xs:Y2)|dct (kvs:List (PK×PV))|s8 (v:PV)|obj (C:Nat) (ps:Y2)
abbrev Y3:=List PO
variable{K:Y2->Y3->Prop}{h h1:Y3}
inductive Res(α:Type) where
 |ok (a:α) (h:Y3)|exc (e:PV) (h:Y3)|bad
variable{g:PV->PV->Y3->Res PV}
noncomputable def Res.bind{α β:Type}(r:Res α)(k:α->Y3->Res β):Res β:=match r with
 |.ok a h=>k a h
 |.exc e h=>.exc e h
 |.bad=>.bad
abbrev Ev:=List (Option PV)
variable{ρ:Ev}
abbrev Ex:=Ev->Y3->Res PV
variable{fa:Ex}
abbrev Tx:=Ev->Y3->Res Bool
abbrev Ax:=Ev->Y3->Res Y2
def Zw:PK->Value->Bool
 |.inl k,v=>Value.isInt k v
 |.inr x,v=>Value.isStrOf (S x) v
theorem eH:∀{k:PK}{v:Value},Zw k v=true->(∃i t,k=Sum.inl i/\v=Value.int i t)\/(∃x t,k=Sum.inr x/\v=Value.str (S x) t)
 |.inl i,v,h=>let⟨t,e⟩:=Value.isInt_shape h;.inl ⟨i,t,rfl,e⟩
 |.inr x,v,h=>let⟨t,e⟩:=Value.isStrOf_shape h;.inr ⟨x,t,rfl,e⟩
def pk(P:Program)(w:World):KeyKind P w PK where
 is:=Zw
 hash:=fun|.inl k=>hashInt k|.inr x=>hashStr w (S x)
 inj:=fun v a b ha hb=>by rcases eH ha with⟨i,t,rfl,rfl⟩|⟨x,t,rfl,rfl⟩<;>rcases eH hb with⟨j,u,rfl,e⟩|⟨y,u,rfl,e⟩<;>first|(injection e with e1;first|rw[e1]|rw[yC e1])|cases e
 byValue:=fun k v h=>by rcases eH h with⟨i,t,rfl,rfl⟩|⟨x,t,rfl,rfl⟩<;>rfl
 pyHash:=fun hv h=>by
  rcases eH hv with⟨i,t,rfl,rfl⟩|⟨x,t,rfl,rfl⟩
  .exact wpAny_pyHash_int h
  .exact wpAny_pyHash_str h
 eqBool:=fun hu hv h=>by
  rcases eH hu with⟨i,t,rfl,rfl⟩|⟨x,t,rfl,rfl⟩<;>rcases eH hv with⟨j,u,rfl,rfl⟩|⟨y,u,rfl,rfl⟩
  .exact wpAny_eqBool_int (by rw[Bool.beq_eq_decide_eq];simpa using h)
  .exact SeqAt.EqAt.int_str i t _ u _ _ _ _ (by simpa using h)
  .exact SeqAt.EqAt.str_int _ t j u _ _ _ _ (by simpa using h)
  .exact wpAny_eqBool_str (by rw[show decide (S x=S y)=decide ((Sum.inr x:PK)=.inr y)from decide_eq_decide.mpr ⟨fun e=>by rw[yC e],fun e=>by cases e;rfl⟩];exact h)
 «strs» :=fun k x t v h=>by
  rcases eH h with⟨i,u,rfl,e⟩|⟨y,u,rfl,e⟩<;>cases e
  cases v<;>rfl
structure SC where
 prog:Program
 w:World
 K:W.Frag
 mg:Str->Option Value
 base:Heap
 T:Nat->Option Addr
variable{G:SC}
abbrev Fz:=Addr->Option Obj
structure Wo where
 F:Fz
 O:Addr->Option Addr
 m:Zs
 s:Shared
variable{w0 w1 w2:Wo}
def DO(G:SC)(o:Obj)(kvs:List (PK×Value)):Prop:=o.ExactDict/\∃es ep,o.data=.dict es ep/\KeysOf (pk G.prog G.w) es/\Pairs (pk G.prog G.w) es.toList kvs/\(kvs.map (·.1)).Nodup
def Wi(o:Obj)(fs:List (Str×Value)):Prop:=∃es ep,o.data=.dict es ep/\StrKeys es/\UniqKeys es/\∀n,nsFind es n=fs.lookup n
noncomputable def W5:PV->Option (String×Y2)
 |.tup ps=>some ("tuple",ps)
 |.lst ps=>some ("list",ps)
 |.Uh ps=>some ("list",ps)
 |_=>none
section
variable(G:SC)(F:Fz)(m:Zs)
mutual
inductive aP:PV->Value->Prop where
 |non:aP .non .none
 |bl (b:Bool):aP (.bl b) (.bool b)
 |int (i:Int) (t:Tok):aP (.int i) (.int i t)
 |str (x:Y1) (t:Tok):aP (.str x) (.str (S x) t)
 |ty (n:String):aP (.ty n) (.type n)
 |cls {C:Nat} {a:Addr} (c:G.T C=some a):aP (.cls C) (.ref a)
 |tup {ps:Y2} {a:Addr} {j6:Array Value} {n:Nat} (e:F a=some ({ cls:=.type "tuple",data:=.seq j6 n })) (z:j6.size<=sizeLine) (r:ay ps j6.toList):aP (.tup ps) (.ref a)
 |lst {ps:Y2} {a:Addr} {j6:Array Value} {n:Nat} (e:F a=some ({ cls:=.type "list",data:=.seq j6 n })) (z:j6.size<=sizeLine) (r:ay ps j6.toList):aP (.lst ps) (.ref a)
 |Uh {ps:Y2} {a:Addr} {j6:Array Value} {n:Nat} (e:F a=some ({ cls:=.type "list",data:=.seq j6 n })) (z:j6.size<=sizeLine) (r:ay ps j6.toList):aP (.Uh ps) (.ref a)
 |dct {H8:List (PK×PV)} {a:Addr} {o:Obj} {kvs:List (PK×Value)} (e:F a=some o) (d:DO G o kvs) (sm:(a==sysModules)=false) (z:kvs.length<=sizeLine) (k:kvs.map (·.1)=H8.map (·.1)) (r:ay (H8.map (·.2)) (kvs.map (·.2))):aP (.dct H8) (.ref a)
 |ins {C:Nat} {a Ca dx:Addr} {od:Obj} (c:G.T C=some Ca) (e:F a=some (W.instObj Ca dx)) (d:F dx=some od) (n:Wi od []):aP (.ins C []) (.ref a)
 |ref {i:Nat} {a:Addr} (e:m[i]? =some a):aP (.ref i) (.ref a)
 |exc {C:Nat} {a Ca:Addr} {o:Obj} {vs:Array Value} (c:G.T C=some Ca) (e:F a=some o) (oc:o.cls=.ref Ca) (d:o.data=.fields vs):aP (.exc C) (.ref a)
 |TY {C:Nat} {a Ca dx:Addr} {o od:Obj} {vs:Array Value} {u:Value} {fs:List (Str×Value)} {p:PV} (c:G.T C=some Ca) (e:F a=some o) (oc:o.cls=.ref Ca) (d:o.data=.fields vs) (Wu:o.dict=some dx) (e2:F dx=some od) (n:Wi od fs) (l:fs.lookup (V0 C)=some u) (r:aP p u):aP (.TY C p) (.ref a)
inductive ay:Y2->Z3->Prop where
 |nil:ay [] []
 |cons {p:PV} {v:Value} {ps:Y2} {vs:Z3} (r:aP p v) (t:ay ps vs):ay (p::ps) (v::vs)
end
def qP(O:Addr->Option Addr)(g:Heap)(a:Addr):PO->Prop
 |.lst ps=>F a=none/\∃j6 n,g.get? a=some { cls:=.type "list",data:=.seq j6 n }/\j6.size<=sizeLine/\ay G F m ps j6.toList
 |.dct H8=>F a=none/\∃o kvs,g.get? a=some o/\DO G o kvs/\(a==sysModules)=false/\kvs.length<=sizeLine/\kvs.map (·.1)=H8.map (·.1)/\ay G F m (H8.map (·.2)) (kvs.map (·.2))
 |.s8 p=>aP G F m p (.ref a)/\p.pure=true/\∃o,F a=some o
 |.obj C ps=>F a=none/\∃Ca dx od vs,G.T C=some Ca/\g.get? a=some (W.instObj Ca dx)/\O dx=some a/\g.get? dx=some od/\Wi od ((Uy C).zip vs)/\vs.length<=(Uy C).length/\ay G F m ps vs
end
section
variable{F F':Fz}{m m':Zs}
def Sub(m m':Zs):Prop:=∀(i:Nat)(a:Addr),m[i]? =some a->m'[i]? =some a
def ay.mono(hF:∀a o,F a=some o->F' a=some o){p:Y2}{v:Z3}(r:ay G F m p v):aq p=true\/Sub m m'->ay G F' m' p v:=
 ay.rec (motive_1:=fun p v _=>p.pure=true\/Sub m m'->aP G F' m' p v) (motive_2:=fun p v _=>aq p=true\/Sub m m'->ay G F' m' p v) (fun _=>.non) (fun b _=>.bl b) (fun i t _=>.int i t) (fun x t _=>.str x t) (fun n _=>.ty n) (fun c _=>.cls c) (fun e z _ i h=>.tup (hF _ _ e) z (i h)) (fun e z _ i h=>.lst (hF _ _ e) z (i h)) (fun e z _ i h=>.Uh (hF _ _ e) z (i h)) (fun e d s z k _ i h=>.dct (hF _ _ e) d s z k (i (h.imp_left fun q=>by simpa[PV.pure,dC]using q))) (fun c e d n _=>.ins c (hF _ _ e) (hF _ _ d) n) (fun e h=>.ref (h.elim nofun fun q=>q _ _ e)) (fun c e o d _=>.exc c (hF _ _ e) o d) (fun c e o d o' e2 n l _ i h=>.TY c (hF _ _ e) o d o' (hF _ _ e2) n l (i h)) (fun _=>.nil) (fun _ _ i j h=>.cons (i (h.imp_left fun q=>(adI _ _▸q:).1)) (j (h.imp_left fun q=>(adI _ _▸q:).2))) r
theorem aP.mono(hF:∀a o,F a=some o->F' a=some o){p:PV}{v:Value}(r:aP G F m p v)(h:p.pure=true\/Sub m m'):aP G F' m' p v:=by cases ay.mono hF (.cons r .nil) (h.imp_left fun q=>by rw[aq,q];rfl);assumption
theorem ay.ind{P:Y2->Z3->Prop}(n:P [] [])(c:∀{p v ps vs},aP G F m p v->ay G F m ps vs->P ps vs->P (p::ps) (v::vs)){ps:Y2}{vs:Z3}(r:ay G F m ps vs):P ps vs:=by
 induction ps generalizing vs with
 |nil=>cases r;exact n
 |cons _ _ i=>cases r with|cons r t=>exact c r t (i t)
def aP.vi(r:aP G F m (.int i) u):∃t,u=.int i t:=by cases r;exact⟨_,rfl⟩
def aP.vs{x:Y1}(r:aP G F m (.str x) u):∃t,u=.str (S x) t:=by cases r;exact⟨_,rfl⟩
def aP.vb{b:Bool}(r:aP G F m (.bl b) u):u=.bool b:=by cases r;rfl
def aP.vn(r:aP G F m .non u):u=.none:=by cases r;rfl
def aP.vt{n:String}(r:aP G F m (.ty n) u):u=.type n:=by cases r;rfl
def aP.sq{ps:Y2}(k:W5 p=some (t,ps))(e:F a=some ({ cls:=.type t,data:=.seq j6 n }))(z:j6.size<=sizeLine)(r:ay G F m ps j6.toList):aP G F m p (.ref a):=by
 unfold W5 at k
 split at k<;>cases k
 .exact .tup e z r
 .exact .lst e z r
 .exact .Uh e z r
end
structure HR(G:SC)(w:Wo)(h:Y3):Prop where
 sub:∀a o,w.F a=some o->w.s.heap.get? a=some o
 own:∀d a,w.O d=some a->(∃o,w.s.heap.get? d=some o)/\d∉w.m/\w.F d=none
 len:h.length=w.m.length
 nd:w.m.Nodup
 obj:∀(i:Nat)(o:PO)(a:Addr),h[i]? =some o->w.m[i]? =some a->qP G w.F w.m w.O w.s.heap a o
def S8(w:Wo)(b:Addr):Prop:=b∉w.m/\w.F b=none/\w.O b=none
def Has(w:Wo)(b:Addr)(o:Obj):Prop:=w.s.heap.get? b=some o/\S8 w b
structure K8(fs:Zs)(W:Addr->Prop)(w w':Wo):Prop where
 os:w'.s.os=w.s.os
 ba:AllBare w.s.gens->AllBare w'.s.gens
 fz:∀a o,w.F a=some o->w'.F a=some o
 ow:∀d a,w.O d=some a->w'.O d=some a
 pre:∃t,w'.m=w.m++t
 dom:∀b o,w.s.heap.get? b=some o->∃o',w'.s.heap.get? b=some o'
 keep:∀b o,Has w b o->¬ W b->∃sl,Has w' b { o with slots:=sl }/\(b∈fs\/sl=o.slots)
section
variable{fs:Zs}{W W':Addr->Prop}{w:Wo}
def K8.refl:K8 fs W w w:=⟨rfl,id,fun _ _ e=>e,fun _ _ e=>e,⟨[],by simp⟩,fun _ o e=>⟨o,e⟩,fun _ o q _=>⟨o.slots,q,.inr rfl⟩⟩
theorem K8.trans(x:K8 fs W w w1)(y:K8 fs W w1 w2):K8 fs W w w2:=
 ⟨y.os.trans x.os,y.ba∘x.ba,fun a o e=>y.fz a o (x.fz a o e),fun a o e=>y.ow a o (x.ow a o e),let⟨t,e⟩:=x.pre;let⟨u,e'⟩:=y.pre;⟨t++u,by rw[e',e,adN]⟩,fun b o e=>let⟨o',q⟩:=x.dom b o e;y.dom b o' q,fun b o q n=>by obtain⟨sl,q1,z1⟩:=x.keep b o q n;obtain⟨W7,q2,z2⟩:=y.keep b _ q1 n;exact⟨W7,q2,z1.elim .inl fun z=>z2.imp_right fun z'=>z'.trans z⟩⟩
def K8.weak{fs':Zs}(x:K8 fs W w w1)(k:∀b,W b->W' b)(l:∀b∈fs,b∈fs':=by exact fun _ z=>z):K8 fs' W' w w1:=⟨x.os,x.ba,x.fz,x.ow,x.pre,x.dom,fun b o q n=>let⟨sl,q,z⟩:=x.keep b o q fun z=>n (k b z);⟨sl,q,z.imp_left (l b)⟩⟩
def K8.sub(x:K8 fs W w w1):Sub w.m w1.m:=fun i a e=>by obtain⟨t,z⟩:=x.pre;rw[z,adC (adv.mp e).1];exact e
def K8.rep(x:K8 fs W w w1)(r:aP G w.F w.m p u):aP G w1.F w1.m p u:=r.mono x.fz (.inr x.sub)
def K8.reps(x:K8 fs W w w1){p:Y2}{u:Z3}(r:ay G w.F w.m p u):ay G w1.F w1.m p u:=r.mono x.fz (.inr x.sub)
theorem HR.there(H:HR G w h)(e:a∈w.m):∃o,w.s.heap.get? a=some o:=by
 obtain⟨i,hi,e⟩:=aeP.mp e;have q:=H.obj i (h[i]'(by rw[H.len];exact hi)) a (by simp) (by simp[<- e])
 revert q
 cases h[i]'(by rw[H.len];exact hi)with
 |lst ps=>exact (by rintro ⟨_,_,_,e,_⟩;exact ⟨_,e⟩)
 |dct H8=>exact (by rintro ⟨_,_,_,e,_⟩;exact ⟨_,e⟩)
 |s8 p=>exact (by rintro ⟨_,_,o,e⟩;exact ⟨o,H.sub a o e⟩)
 |obj C ps=>exact (by rintro ⟨_,_,_,_,_,_,e,_⟩;exact ⟨_,e⟩)
def HR.free(H:HR G w h)(e:w.s.heap.get? a=none):S8 w a:=by
 refine⟨fun z=>?_,?_,?_⟩
 .obtain⟨o,q⟩:=H.there z;rw[e]at q;cases q
 .cases q:w.F a with
  |none=>rfl
  |some x=>rw[H.sub a x q]at e;cases e
 .cases q:w.O a with
  |none=>rfl
  |some x=>obtain⟨⟨o,q'⟩,_⟩:=H.own a x q;rw[e]at q';cases q'
def HR.at(H:HR G w h)(e:w.F a=some o):w.s.heap.get? a=some o:=H.sub a o e
theorem aU(g:Heap):g.get? g.objs.size=none:=by
 cases q:g.get? g.objs.size with
 |none=>rfl
 |some o=>exact absurd (ad2 q) (ae0 _)
theorem qP.on{g g':Heap}{F F':Fz}{m m':Zs}{O':Addr->Option Addr}{po:PO}(hF:∀a o,F a=some o->F' a=some o)(hO:∀d,O d=some a->O' d=some a)(hm:Sub m m')(q:qP G F m O g a po)(k:∀b o,g.get? b=some o->b=a\/O b=some a->g'.get? b=some o)(f:F a=none->F' a=none):qP G F' m' O' g' a po:=by
 cases po with
 |lst ps=>obtain⟨z,j6,n,e,l,r⟩:=q;exact⟨f z,j6,n,k _ _ e (.inl rfl),l,r.mono hF (.inr hm)⟩
 |dct H8=>obtain⟨z,o,kvs,e,d,y,l,c,r⟩:=q;exact⟨f z,o,kvs,k _ _ e (.inl rfl),d,y,l,c,r.mono hF (.inr hm)⟩
 |s8 p=>obtain⟨r,z,o,e⟩:=q;exact⟨r.mono hF (.inr hm),z,o,hF _ _ e⟩
 |obj C ps=>obtain⟨z,Ca,dx,od,vs,c,e,d,e2,n,l,r⟩:=q;exact⟨f z,Ca,dx,od,vs,c,k _ _ e (.inl rfl),hO _ d,k _ _ e2 (.inr d),n,l,r.mono hF (.inr hm)⟩
theorem HR.on(H:HR G w h)(k:∀b o,w.s.heap.get? b=some o->¬ S8 w b->s'.heap.get? b=some o):HR G { w with s:=s' } h:=
 have f:∀{b o},w.F b=some o->¬ S8 w b:=fun e z=>by rw[z.2.1]at e;cases e
 have d:∀{b a},w.O b=some a->¬ S8 w b:=fun e z=>by rw[z.2.2]at e;cases e
 ⟨fun a o e=>k a o (H.sub a o e) (f e),fun b a e=>let⟨⟨o,q⟩,z⟩:=H.own b a e;⟨⟨o,k b o q (d e)⟩,z⟩,H.len,H.nd,fun i o a e1 e2=>(H.obj i o a e1 e2).on (fun _ _ e=>e) (fun _ e=>e) (fun _ _ e=>e) (fun b o e z=>k b o e (z.elim (fun z y=>y.1 (z▸adF e2)) d)) id⟩
end
set_option genInjectivity true in
structure Cx extends SC where
 A:Around
 N:Zl
 env:Env
 stack:List Env
 fn:Str->Bool
 calm:Bool
 tr:Bool
 Ep:Yf->Prop
variable{X:Cx}
abbrev Cx.L(X:Cx):Addr:=X.env.locals
noncomputable def frs(l:List Env):Zs:=l.filterMap (·.frame)
abbrev Cx.fs(X:Cx):Zs:=frs X.stack
abbrev Cx.M(X:Cx):Model:=model X.prog X.w
def Cx.W(X:Cx)(b:Addr):Prop:=b=X.L\/∃x,X.fn x=true/\X.env.cells.lookup x=some b
def Tg:Addr->Prop:=fun _=>False
def Nw(X:Cx)(w w':Wo)(h:Y3):Prop:=K8 X.fs Tg w w'/\HR X.toSC w' h
structure Wd(X:Cx)(w:Wo)(h:Y3):Prop extends HR X.toSC w h where
 ba:AllBare w.s.gens
 bs:∀b o,X.base.get? b=some o->w.F b=some o
 fr:∀b∈X.fs,∃o,Has w b o/\∀vs,o.data≠.fields vs
def vF(env:Env)(g:Heap)(m:Str->Option Value)(x:Str)(u:Value):Prop:=
 (env.kindOf x=some .local/\m x=some u)\/((env.kindOf x=some .cell\/env.kindOf x=some .free)/\∃c,env.cells.lookup x=some c/\g.IsCell c (some u))
structure Cx.Ok(X:Cx):Prop where
 Rd:X.K.In X.base
 gl:X.base.Ns mainGlobals X.mg
 bl:∃mb,X.base.Ns builtinsNs mb/\∀x:Str,x≠"__name__"->mb x=bootBuiltins x
 nl:X.base.NoLimit
 kind:X.env.scope.kind=.function
 glob:X.env.globals=mainGlobals
 blt:X.env.builtins=builtinsNs
 inj:∀x y c,X.env.cells.lookup x=some c->X.env.cells.lookup y=some c->x=y
 has:∀x,(X.env.kindOf x=some .cell\/X.env.kindOf x=some .free)->∃c,X.env.cells.lookup x=some c
 hd:X.calm=true->X.A.handled=none
 frames:X.A.frames=some X.stack
 nd:X.N.Nodup
 sf:∀env∈X.stack,env.scope.kind≠.module/\∃L,env.frame=some L/\X.base.get? L=none
structure Inv(X:Cx)(w:Wo)(ρ:Ev)(h:Y3):Prop extends Wd X w h where
 ok:X.Ok
 loc:∃m o,w.s.heap.Ns X.L m/\Has w X.L o/\∀(i:Nat)(p:PV),ρ[i]? =some (some p)->∃x u,X.N[i]? =some x/\aP X.toSC w.F w.m p u/\vF X.env w.s.heap m x u
 T_:∀x c,X.env.cells.lookup x=some c->∃v o,w.s.heap.IsCell c v/\Has w c o
 ln:ρ.length=X.N.length
section
variable{w:Wo}
theorem Nw.trans(x:Nw X w w1 h)(y:Nw X w1 w2 h1):Nw X w w2 h1:=⟨x.1.trans y.1,y.2⟩
def pX{g g':Heap}{m:Str->Option Value}(n:g.Ns a m)(k:∀o,g.get? a=some o->∃sl,g'.get? a=some { o with slots:=sl }):g'.Ns a m:=let⟨o,es,ep,e,r⟩:=n;let⟨sl,q⟩:=k o e;⟨_,es,ep,q,r⟩
def xh{g g':Heap}{v:Option Value}(n:g.IsCell a v)(k:∀o,g.get? a=some o->∃sl,g'.get? a=some { o with slots:=sl }):g'.IsCell a v:=let⟨o,e,d⟩:=n;let⟨sl,q⟩:=k o e;⟨_,q,d⟩
theorem K8.slots{W:Addr->Prop}{fs:Zs}(x:K8 fs W w w1)(q:Has w b o)(n:¬ W b):∀o,w.s.heap.get? b=some o->∃sl,w1.s.heap.get? b=some { o with slots:=sl }:=fun o' e=>by rw[q.1]at e;cases e;obtain⟨sl,z,_⟩:=x.keep b o q n;exact⟨sl,z.1⟩
theorem rK{g base:Heap}:∀{l:List Env},(∀env∈l,env.scope.kind≠.module/\∃L,env.frame=some L/\base.get? L=none)->(∀b∈frs l,∃o,g.get? b=some o/\∀vs,o.data≠.fields vs)->g.FunFrames base l
 |[],_,_=>trivial
 |env::r,h,k=>by
  obtain⟨a,L,b,c⟩:=h env (by simp);have e:frs (env::r)=L::frs r:=by simp[frs,b]
  rw[e]at k;obtain⟨o,q,d⟩:=k L (by simp);exact⟨a,⟨L,o,b,c,q,d⟩,rK (fun x hx=>h x (adG _ hx)) fun x hx=>k x (adG _ hx)⟩
def Wd.on{W:Addr->Prop}(I:Wd X w h)(x:K8 X.fs W w w1)(hw:∀b∈X.fs,W b->∃o,Has w1 b o/\∀vs,o.data≠.fields vs)(H:HR X.toSC w1 h1):Wd X w1 h1:=
 ⟨H,x.ba I.ba,fun b o e=>x.fz _ _ (I.bs b o e),fun b hb=>by
  by_cases z:W b
  .exact hw b hb z
  .obtain⟨o,q,d⟩:=I.fr b hb;obtain⟨sl,q',_⟩:=x.keep b o q z;exact⟨_,q',d⟩⟩
theorem Inv.on(I:Inv X w ρ h)(x:Nw X w w1 h1):Inv X w1 ρ h1:=by
 obtain⟨m,o,n,hl,q⟩:=I.loc;have nw:∀b,¬ Tg b:=fun _ z=>z;have cl:∀x c,X.env.cells.lookup x=some c->∀v,w.s.heap.IsCell c v->w1.s.heap.IsCell c v:=fun y c e v z=>let⟨_,_,_,hc⟩:=I.T_ y c e;xh z (x.1.slots hc (nw c));refine⟨I.toWd.on x.1 (fun _ _ z=>z.elim) x.2,I.ok,⟨m,?_⟩,fun y c e=>?_,I.ln⟩
 .obtain⟨sl,z,_⟩:=x.1.keep _ _ hl (nw _);refine⟨_,pX n (x.1.slots hl (nw _)),z,fun i p e=>?_⟩;obtain⟨y,u,e1,r,l⟩:=q i p e;exact⟨y,u,e1,x.1.rep r,l.imp_right (by rintro ⟨k,c,e,z⟩;exact ⟨k,c,e,cl y c e _ z⟩)⟩
 .obtain⟨v,o,z,hc⟩:=I.T_ y c e;obtain⟨sl,q',_⟩:=x.1.keep _ _ hc (nw _);exact⟨v,_,cl y c e v z,q'⟩
def Wd.bk(I:Wd X w h)(e:X.base.get? b=some o):w.s.heap.get? b=some o:=I.toHR.at (I.bs b o e)
def Inv.Qs(I:Inv X w ρ h):X.K.In w.s.heap:=I.ok.Rd.keeps fun _ _ e=>I.bk e
end
def Fst(B:Heap)(l:List Env)(a:Addr)(cls a0:Value)(h:Heap):Prop:=B.StaysIn h/\B.get? a=none/\h.FunFrames B l/\∃o vs,h.get? a=some o/\o.cls=cls/\o.data=.fields vs/\vs[0]? =some a0/\vs[1]? =some .none
structure Yp(X:Cx)(w w':Wo)(a:Addr)(cls:Value)(dx:Option Addr):Prop where
 f:∃a0 B,(Heap.FlyingW B X.stack a cls a0 w'.s.heap\/X.tr=true/\Fst B X.stack a cls a0 w'.s.heap)/\(∀b o,w.s.heap.get? b=some o->b∉X.fs->∃o',B.get? b=some o')/\∀b,¬ S8 w' b->∃o',B.get? b=some o'
 d:∃o,w'.s.heap.get? a=some o/\o.dict=dx
def XV(G:SC)(F:Fz)(m:Zs)(cls:Value)(dx:Option Addr):PV->Prop
 |.cls C=>∃Ca,G.T C=some Ca/\cls=.ref Ca/\dx=none
 |.TY C v=>∃Ca d od fs y,G.T C=some Ca/\cls=.ref Ca/\dx=some d/\F d=some od/\Wi od fs/\fs.lookup (V0 C)=some y/\aP G F m v y
 |_=>False
def mM(X:Cx)(w w':Wo)(e:PV)(u:Value):Prop:=∃a cls dx,u=.ref a/\Yp X w w' a cls dx/\XV X.toSC w'.F w'.m cls dx e
theorem mM.to{w w3:Wo}{e:PV}(r:mM X w w2 e u)(pu:e.pure=true)(hF:w3.F=w2.F)(hs:w3.s=w2.s)(h0:w0.s=w.s)(k:∀b,¬ S8 w3 b->¬ S8 w2 b\/(∃o,w.s.heap.get? b=some o)/\b∉X.fs):mM X w0 w3 e u:=by
 obtain⟨a,cls,dx,rfl,⟨⟨a0,B,f,c1,c2⟩,d⟩,m⟩:=r;refine⟨a,cls,dx,rfl,⟨⟨a0,B,hs▸f,h0▸c1,fun b z=>(k b z).elim (c2 b) (by rintro ⟨⟨o,q⟩,n⟩;exact c1 b o q n)⟩,hs▸d⟩,?_⟩;rw[hF]
 cases e with
 |TY C v=>obtain⟨Ca,d,od,fs,y,a,b,c,d',e,f,g⟩:=m;exact⟨Ca,d,od,fs,y,a,b,c,d',e,f,g.mono (fun _ _ e=>e) (.inl (by simpa[PV.pure]using pu))⟩
 |_=>exact m
abbrev RV(G:SC)(w:Wo):PV->Value->Prop:=aP G w.F w.m
abbrev RVs(G:SC)(w:Wo):Y2->Z3->Prop:=ay G w.F w.m
def bu{α β:Type}(X:Cx)(R:Wo->α->β->Prop)(w:Wo)(Q:β->Shared->Prop)(E:Yf):Res α->Prop
 |.ok a h=>X.Ep E/\∀w' x,Nw X w w' h->R w' a x->Q x w'.s
 |.exc e h=>X.Ep E/\∀w' u,Nw X w w' h->mM X w w' e u->E u w'.s
 |.bad=>False
abbrev Wp(X:Cx){β:Type}(t:Sem β)(Q:β->Shared->Prop)(E:Yf)(s:Shared):Prop:=wpAny (model X.prog X.w) X.A t Q E s
structure RE(X:Cx)(e:Expr)(f:Ex):Prop where
 r:∀{w:Wo}{ρ:Ev}{h:Y3}{Q:Yf}{E:Yf},Inv X w ρ h->bu X (RV X.toSC) w Q E (f ρ h)->Wp X (eval e X.env) Q E w.s
structure RT(X:Cx)(e:Expr)(f:Tx):Prop where
 r:∀{w:Wo}{ρ:Ev}{h:Y3}{Q:Bool->Shared->Prop}{E:Yf},Inv X w ρ h->bu X (fun _ a b=>a=b) w Q E (f ρ h)->Wp X (isTrue e X.env (eval e X.env)) Q E w.s
structure RA(X:Cx)(es:List Expr)(f:Ax):Prop where
 r:∀{w:Wo}{ρ:Ev}{h:Y3}{Q:Z3->Shared->Prop}{E:Yf}(pos:Pos),Inv X w ρ h->bu X (RVs X.toSC) w Q E (f ρ h)->Wp X (spliced (backTo pos (starEach es X.env))) Q E w.s
section
variable{w:Wo}{β γ δ:Type}{R:Wo->α->β->Prop}{R':Wo->γ->δ->Prop}
def Yp.back{cls:Value}{dx:Option Addr}{w':Wo}{W:Addr->Prop}{fs:Zs}(f:Yp X w1 w' a cls dx)(x:K8 fs W w w1):Yp X w w' a cls dx:=
 let⟨a0,B,y,c,d⟩:=f.f;⟨⟨a0,B,y,fun b o e n=>let⟨o',q⟩:=x.dom b o e;c b o' q n,d⟩,f.d⟩
theorem mM.back{w':Wo}{e:PV}{u:Value}{W:Addr->Prop}{fs:Zs}(r:mM X w1 w' e u)(x:K8 fs W w w1):mM X w w' e u:=let⟨a,c,d,e,f,r⟩:=r;⟨a,c,d,e,f.back x,r⟩
theorem bu.ep{Q:β->Shared->Prop}{r:Res α}(p:bu X R w Q E r):X.Ep E:=match r with
 |.ok _ _=>p.1
 |.exc _ _=>p.1
 |.bad=>p.elim
theorem bu.step{Q:β->Shared->Prop}{r:Res α}(p:bu X R w Q E r)(x:Nw X w w1 h1):bu X R w1 Q E r:=match r with
 |.ok _ _=>⟨p.1,fun w' u y=>p.2 w' u (x.trans y)⟩
 |.exc _ _=>⟨p.1,fun w' u y r=>p.2 w' u (x.trans y) (r.back x.1)⟩
 |.bad=>p
theorem bu.Wg{Q:δ->Shared->Prop}{G:β->Shared->Prop}{r:Res α}{k:α->Y3->Res γ}(p:bu X R' w Q E (r.bind k))(c:∀w1 h1 a x,Nw X w w1 h1->R w1 a x->bu X R' w Q E (k a h1)->G x w1.s):bu X R w G E r:=match r with
 |.ok a h=>⟨p.ep,fun w' x y q=>c w' h a x y q p⟩
 |.exc _ _=>p
 |.bad=>p
theorem bu.bind{Q:δ->Shared->Prop}{G:β->Shared->Prop}{r:Res α}{k:α->Y3->Res γ}(p:bu X R' w Q E (r.bind k))(c:∀w1 h1 a x,Nw X w w1 h1->R w1 a x->bu X R' w1 Q E (k a h1)->G x w1.s):bu X R w G E r:=p.Wg fun w1 h1 a x y q p=>c w1 h1 a x y q (p.step y)
def bu.now{Q:β->Shared->Prop}{a:α}{x:β}{t:Nat}(p:bu X R w Q E (.ok a h))(H:HR X.toSC w h)(r:R { w with s:={ w.s with toks:=t } } a x):Q x { w.s with toks:=t }:=
 p.2 { w with s:={ w.s with toks:=t } } x ⟨⟨rfl,id,fun _ _ e=>e,fun _ _ e=>e,⟨[],by simp⟩,fun _ o e=>⟨o,e⟩,fun _ o q _=>⟨o.slots,q,.inr rfl⟩⟩,H.on fun _ _ e _=>e⟩ r
def bu.here{Q:β->Shared->Prop}{a:α}{x:β}(p:bu X R w Q E (.ok a h))(H:HR X.toSC w h)(r:R w a x):Q x w.s:=p.2 w x ⟨.refl,H⟩ r
end
noncomputable def gD(F:Fz)(a:Addr)(o:Obj):Fz:=fun b=>if b=a then some o else F b
def bg{F:Fz}:gD F a o a=some o:=if_pos rfl
def kB{F:Fz}(n:b≠a):gD F a o b=F b:=if_neg n
def cT{F:Fz}(n:b≠a)(e:F b=none):gD F a o b=none:=(kB n).trans e
def cx{F:Fz}(n:F a=none)(b:Addr)(x:Obj)(q:F b=some x):gD F a o b=some x:=by rw[kB];exact q;rintro rfl;rw[n]at q;cases q
def Nw.lay{w:Wo}(H:HR X.toSC w h)(n:w.s.heap.get? a=none)(k:∀b o,w.s.heap.get? b=some o->s'.heap.get? b=some o)(e:s'.heap.get? a=some o)(ho:s'.os=w.s.os:=by rfl)(hg:s'.gens=w.s.gens:=by rfl):Nw X w ⟨gD w.F a o,w.O,w.m,s'⟩ h:=by
 obtain⟨z1,z2,z3⟩:=H.free n;have ne:∀{b o},w.s.heap.get? b=some o->b≠a:=fun q z=>by rw[z,n]at q;cases q
 refine⟨⟨ho,fun q=>hg▸q,cx z2,fun _ _ e=>e,⟨[],by simp⟩,fun b o e=>⟨o,k b o e⟩,fun b ob q _=>⟨ob.slots,⟨k b ob q.1,q.2.1,cT (ne q.1) q.2.2.1,q.2.2.2⟩,.inr rfl⟩⟩,fun b x q=>?_,fun b a q=>let⟨⟨o,e⟩,z⟩:=H.own b a q;⟨⟨o,k b o e⟩,z.1,cT (ne e) z.2⟩,H.len,H.nd,fun i ob b e1 e2=>(H.obj i ob b e1 e2).on (cx z2) (fun _ e=>e) (fun _ _ e=>e) (fun b o e _=>k b o e) (cT fun z=>z1 (z▸adF e2))⟩
 by_cases z:b=a
 .subst z;cases bg.symm.trans q;exact e
 .exact k b x (H.sub b x ((kB z).symm.trans q))
noncomputable def aj(h:Y3):PV->PV
 |.ref i=>match h[i]? with
  |some (.s8 q)=>q
  |_=>.ref i
 |p=>p
noncomputable def af(i:Nat):Ex:=fun ρ h=>match ρ[i]? with
 |some (some p)=>.ok (aj h p) h
 |_=>.bad
noncomputable def cK(v:PV):Ex:=fun _ h=>.ok v h
def c1(g:PV->Y3->Res PV)(a:Ex):Ex:=fun ρ h=>(a ρ h).bind g
def c2(g:PV->PV->Y3->Res PV)(a b:Ex):Ex:=fun ρ h=>(a ρ h).bind fun x h1=>(b ρ h1).bind fun y h2=>g x y h2
def cN(g:Y2->Y3->Res PV)(a:Ax):Ex:=fun ρ h=>(a ρ h).bind g
noncomputable def ai:Ax:=fun _ h=>.ok [] h
def aa(a:Ex)(r:Ax):Ax:=fun ρ h=>(a ρ h).bind fun x h1=>(r ρ h1).bind fun xs h2=>.ok (x::xs) h2
section
variable{w:Wo}{a b:Expr}{fb:Ex}{ta tb:Tx}
def HR.S5(H:HR G w h)(r:aP G w.F w.m p v):aP G w.F w.m (aj h p) v:=by
 unfold aj
 split
 .cases r with
  |ref e=>
   split
   .rename_i q;exact(H.obj _ _ _ q e).1
   .exact .ref e
 .exact r
abbrev sE0(X:Cx)(e:Expr)(es:List Expr):Prop:=starEach (e::es) X.env=(false,eval e X.env)::starEach es X.env
abbrev sP0(X:Cx)(es:List Expr)(pos:Pos):Prop:=(backTo pos (starEach es X.env)).any (·.1)=false
abbrev nD0(x:Str):Prop:=(x==("__debug__":Str))=false
def vF.nm{m:Str->Option Value}{s:Shared}(l:vF X.env s.heap m x u)(n:s.heap.Ns X.L m)(ok:X.Ok)(z:Q u s)(hd:(x==("__debug__":Str))=false)(VL:(x==("__classdict__":Str))=false):Wp X (eval (.Name x pos) X.env) Q E s:=by
 rcases l with⟨k,e⟩|⟨k|k,c,e,q⟩
 .exact ahW (wpAny_loadName_local ok.kind k n e z) hd
 .exact ahW (wpAny_loadName_cell ok.kind k e q z) hd
 .exact ahW (wpAny_loadName_free ok.kind k e q z VL) hd
def rv(i:Nat)(hN:X.N[i]? =some x:=by rfl)(hd:nD0 x:=by decide)(VL:(x==("__classdict__":Str))=false:=by decide):RE X (.Name x pos) (af i) where
 r I p:=by
  unfold af at p
  split at p
  .rename_i q;obtain⟨m,_,n,_,l⟩:=I.loc;obtain⟨y,u,e,r,l⟩:=l i _ q
   cases hN.symm.trans e
   exact l.nm n I.ok (p.here I.toHR (I.S5 r)) hd VL
  .exact p.elim
def GY{j}:RE X (.Constant (.int i) j pos) (cK (.int i)):=⟨fun I p=>wpAny_Constant_int (p.now I.toHR (.int i _))⟩
def Jl{b:Bool}{j}:RE X (.Constant (.bool b) j pos) (cK (.bl b)):=⟨fun I p=>Constant_bool (p.here I.toHR (.bl b))⟩
def GS{j}:RE X (.Constant .none j pos) (cK .non):=⟨fun I p=>Constant_none (p.here I.toHR .non)⟩
def GN(l:Y1){j}(e:x=S l:=by rfl):RE X (.Constant (.str x) j pos) (cK (.str l)):=⟨fun I p=>Calls.Constant_str (p.now I.toHR (e▸.str l _))⟩
def R3(X:Cx)(op:Value->Value->Sem Value)(g:PV->PV->Y3->Res PV):Prop:=
 ∀{w h p q u v Q E},Wd X w h->aP X.toSC w.F w.m p u->aP X.toSC w.F w.m q v->bu X (RV X.toSC) w Q E (g p q h)->Wp X (op u v) Q E w.s
def Op1(X:Cx)(op:Value->Sem Value)(g:PV->Y3->Res PV):Prop:=
 ∀{w h p u Q E},Wd X w h->aP X.toSC w.F w.m p u->bu X (RV X.toSC) w Q E (g p h)->Wp X (op u) Q E w.s
def OpN(X:Cx)(op:Z3->Sem Value)(g:Y2->Y3->Res PV):Prop:=
 ∀{w h p u Q E},Wd X w h->ay X.toSC w.F w.m p u->bu X (RV X.toSC) w Q E (g p h)->Wp X (op u) Q E w.s
def two{op:Value->Value->Sem Value}(o:R3 X op g)(ha:RE X a fa)(hb:RE X b fb)(I:Inv X w ρ h)(p:bu X (RV X.toSC) w Q E (c2 g fa fb ρ h)):
  Wp X (eval a X.env) (fun v s=>Wp X (eval b X.env) (fun u s=>Wp X (op v u) Q E s) E s) E w.s:=
 ha.r I (p.bind fun _ _ _ _ y r p=>hb.r (I.on y) (p.bind fun _ _ _ _ z r' p=>o ((I.on y).on z).toWd (z.1.rep r) r' p))
def pN{op:Operator}(o:R3 X (binaryOp op) g)(ha:RE X a fa)(hb:RE X b fb):RE X (.BinOp a op b pos) (c2 g fa fb):=⟨fun I p=>wpAny_BinOp (two o ha hb I p)⟩
def Jh{op:UnaryOp}{g:PV->Y3->Res PV}(o:Op1 X (unaryOp op) g)(ha:RE X a fa):RE X (.UnaryOp op a pos) (c1 g fa):=⟨fun I p=>UnaryOp_ (ha.r I (p.bind fun _ _ _ _ y r p=>o (I.on y).toWd r p))⟩
def mU(o:R3 X (compareOp op) g)(hm:behindInMarks op b=false)(ha:RE X a fa)(hb:RE X b fb):RE X (.Compare a [op] [b] pos) (c2 g fa fb):=⟨fun I p=>wpAny_Compare1 (two o ha hb I p) hm⟩
def wb:RA X [] ai:=⟨fun _ I p=>Calls.spliced_nil (p.here I.toHR .nil)⟩
def oK{e:Expr}{f:Ex}{fs:Ax}(ha:RE X e f)(hr:RA X es fs)(hs:sE0 X e es:=by rfl):RA X (e::es) (aa f fs):=⟨fun pos I p=>by rw[hs];exact Calls.spliced_cons (ha.r I (p.bind fun _ _ _ _ y r p=>hr.r pos (I.on y) (p.bind fun _ _ _ _ z r' p=>p.here z.2 (.cons (z.1.rep r) r'))))⟩
end
noncomputable def S9(h:Y3):PV->Option Y2
 |.lst xs=>some xs
 |.ref i=>match h[i]? with
  |some (.lst xs)=>some xs
  |_=>none
 |_=>none
noncomputable def Tt(h:Y3):PV->Option Y2
 |.Uh xs=>some xs
 |p=>S9 h p
noncomputable def R_(h:Y3):PV->Option (List (PK×PV))
 |.dct kvs=>some kvs
 |.ref i=>match h[i]? with
  |some (.dct kvs)=>some kvs
  |_=>none
 |_=>none
noncomputable def Wq(h:Y3):PV->Option Y2
 |.tup xs=>some xs
 |p=>Tt h p
def Ym(g:Heap)(t:String)(a:Addr)(j6:Array Value):Prop:=∃n,g.get? a=some { cls:=.type t,data:=.seq j6 n }
def Ym.tup{g:Heap}{a:Addr}{j6:Array Value}(x:Ym g "tuple" a j6):IsTup g a j6:=let⟨n,e⟩:=x;⟨_,e,rfl,n,rfl⟩
def Ym.pl{g:Heap}(x:Ym g "list" a j6):PlainL g a j6:=let⟨n,e⟩:=x;⟨_,n,e,rfl,rfl,rfl⟩
noncomputable def W6(h:Y3):PV->Option (String×Y2)
 |.ref i=>match h[i]? with
  |some (.lst xs)=>some ("list",xs)
  |_=>none
 |p=>W5 p
section
variable{w:Wo}{ps:Y2}
inductive Sq0(G:SC)(w:Wo)(u:Value)(t:String)(ps:Y2):Prop where
 |mk (a:Addr) (j6:Array Value) (_:u=.ref a) (_:Ym w.s.heap t a j6) (_:j6.size<=sizeLine) (_:ay G w.F w.m ps j6.toList)
def HR.sq(H:HR G w h)(r:aP G w.F w.m p u)(k:W6 h p=some (t,ps)):Sq0 G w u t ps:=by
 unfold W6 at k
 split at k
 .split at k
  .rename_i q
   cases k
   cases r with
   |ref e=>obtain⟨_,j6,n,e,z,r⟩:=H.obj _ _ _ q e;exact⟨_,j6,rfl,⟨n,e⟩,z,r⟩
  .cases k
 .cases r with
  |tup e z r=>cases k;exact⟨_,_,rfl,⟨_,H.at e⟩,z,r⟩
  |lst e z r=>cases k;exact⟨_,_,rfl,⟨_,H.at e⟩,z,r⟩
  |Uh e z r=>cases k;exact⟨_,_,rfl,⟨_,H.at e⟩,z,r⟩
  |_=>cases k
def jM(k:S9 h p=some ps):W6 h p=some ("list",ps):=by
 unfold S9 at k
 split at k
 .cases k;rfl
 .unfold W6
  split at k
  .rename_i q;cases k;simp only[q]
  .cases k
 .cases k
def iB(k:Tt h p=some ps):W6 h p=some ("list",ps):=by
 unfold Tt at k
 split at k
 .cases k;rfl
 .exact jM k
def vR(k:Wq h p=some ps):∃t,W6 h p=some (t,ps)/\(t="tuple"\/t="list"):=by
 unfold Wq at k
 split at k
 .cases k;exact⟨_,rfl,.inl rfl⟩
 .exact⟨_,iB k,.inr rfl⟩
theorem ay.length{F:Fz}{m:Zs}{ps:Y2}{vs:Z3}(r:ay G F m ps vs):ps.length=vs.length:=ay.ind (P:=fun p v=>p.length=v.length) rfl (fun _ _ i=>congrArg (· +1) i) r
def ay.app{F:Fz}{m:Zs}{ps qs:Y2}{vs:Z3}(r:ay G F m ps vs)(s:ay G F m qs us):ay G F m (ps++qs) (vs++us):=ay.ind (P:=fun p v=>ay G F m (p++qs) (v++us)) s (fun r _ i=>.cons r i) r
theorem ay.get{F:Fz}{m:Zs}{ps:Y2}{vs:Z3}{i:Nat}(r:ay G F m ps vs):ps[i]? =some p->∃v,vs[i]? =some v/\aP G F m p v:=ay.ind (P:=fun ps vs=>∀i:Nat,ps[i]? =some p->∃v,vs[i]? =some v/\aP G F m p v) nofun (fun r _ k i e=>by
 cases i with
 |zero=>cases e;exact⟨_,rfl,r⟩
 |succ i=>exact k i e) r i
theorem ay.td{F:Fz}{m:Zs}:∀{ps:Y2}{vs:Z3}(n:Nat),ay G F m ps vs->ay G F m (ps.take n) (vs.take n)/\ay G F m (ps.drop n) (vs.drop n)
 |_,_,0,r=>⟨.nil,r⟩
 |_,_,_+1,.nil=>⟨.nil,.nil⟩
 |_,_,n+1,.cons r t=>⟨.cons r (ay.td n t).1,(ay.td n t).2⟩
theorem ay.rep{F:Fz}{m:Zs}{vs:Z3}(r:ay G F m ps vs):∀n:Nat,ay G F m (List.replicate n ps).flatten (List.replicate n vs).flatten
 |0=>.nil
 |n+1=>by rw[aev,aev,aes,aes];exact r.app (r.rep n)
def ay.len{F:Fz}{m:Zs}(r:ay G F m ps j6.toList):ps.length=j6.size:=r.length
end
section
variable{w:Wo}{pv:PV}{ps:Y2}{tk:Nat}
theorem bu.seq(p:bu X (RV X.toSC) w Q E (.ok pv h))(H:HR X.toSC w h)(k:W5 pv=some (t,ps))(r:ay X.toSC w.F w.m ps j6.toList)(z:j6.size<=sizeLine):Q (.ref w.s.heap.objs.size) { w.s with heap:=w.s.heap.push { cls:=.type t,data:=.seq j6 n },toks:=tk }:=
 have y:=Nw.lay (X:=X) (s':={ w.s with heap:=w.s.heap.push { cls:=.type t,data:=.seq j6 n },toks:=tk }) H (aU _) (fun _ _ e=>ady _ e) (adK _ rfl)
 p.2 _ _ y (.sq k bg z (y.1.reps r))
def Nw.mk{po:PO}(H:HR X.toSC w h)(n:w.s.heap.get? a=none)(k:∀b o,w.s.heap.get? b=some o->s'.heap.get? b=some o)(q:qP X.toSC w.F (w.m++ [a]) O s'.heap a po)(hO:∀d b,w.O d=some b->O d=some b)(hn:∀d b,O d=some b->w.O d=some b\/w.s.heap.get? d=none/\d≠a/\∃o,s'.heap.get? d=some o)(ho:s'.os=w.s.os:=by rfl)(hg:s'.gens=w.s.gens:=by rfl):Nw X w ⟨w.F,O,w.m++ [a],s'⟩ (h++ [po]):=by
 obtain⟨z1,z2⟩:=H.free n;have sb:Sub w.m (w.m++ [a]):=fun i b e=>by rw[adC (adv.mp e).1];exact e
 refine⟨⟨ho,fun q=>hg▸q,fun _ _ e=>e,hO,⟨_,rfl⟩,fun b o e=>⟨o,k b o e⟩,fun b ob q _=>⟨ob.slots,⟨k b ob q.1,fun z=>?_,q.2.2.1,?_⟩,.inr rfl⟩⟩,fun b x q=>k b x (H.sub b x q),fun d b q=>?_,by simp[H.len],aeO.mpr ⟨H.nd,by simp,fun x hx y hy z=>z1 (by simp at hy;rw[<- hy,<- z];exact hx)⟩,fun i ob b e1 e2=>?_⟩
 .rcases adS.mp z with z|z
  .exact q.2.1 z
  .have q:=q.1;simp at z;rw[z,n]at q;cases q
 .cases e:O b with
  |none=>exact e
  |some d=>
   rcases hn b d e with z|⟨z,_⟩
   .rw[q.2.2.2]at z;cases z
   .have q:=q.1;rw[z]at q;cases q
 .rcases hn d b q with z|⟨z,y,x⟩
  .obtain⟨⟨o,e⟩,z,y⟩:=H.own d b z;exact⟨⟨o,k d o e⟩,fun q=>(adS.mp q).elim z fun q=>(by simp at q;rw[q,n]at e;cases e),y⟩
  .exact⟨x,fun q=>(adS.mp q).elim (H.free z).1 fun q=>y (by simpa using q),(H.free z).2.1⟩
 .rcases aeN i h.length with l|l
  .rw[adC l]at e1;rw[adC (H.len▸l)]at e2;exact(H.obj i ob b e1 e2).on (fun _ _ e=>e) (fun d=>hO d b) sb (fun b o e _=>k b o e) id
  .rw[adL l]at e1;rw[adL (H.len▸l),<- H.len]at e2
   cases e:i - h.length with
   |zero=>rw[e]at e1 e2;cases e1;cases e2;exact q
   |succ _=>rw[e]at e1;simp at e1
def bu.lm(p:bu X (RV X.toSC) w Q E (.ok (.ref h.length) (h++ [.lst ps])))(H:HR X.toSC w h)(r:ay X.toSC w.F w.m ps j6.toList)(z:j6.size<=sizeLine):Q (.ref w.s.heap.objs.size) { w.s with heap:=w.s.heap.push { cls:=.type "list",data:=.seq j6 n },toks:=tk }:=
 p.2 _ _ (Nw.mk (s':={ w.s with heap:=w.s.heap.push { cls:=.type "list",data:=.seq j6 n },toks:=tk }) H (aU _) (fun _ _ e=>ady _ e) ⟨(H.free (aU _)).2.1,j6,n,adK _ rfl,z,r.mono (fun _ _ e=>e) (.inr fun i b e=>by rw[adC (adv.mp e).1];exact e)⟩ (fun _ _ e=>e) fun _ _ e=>.inl e) (.ref (by rw[H.len];simp))
end
section
variable{w:World}{s:Shared}
def V8{t:Addr}{vs ws:Z3}(ht:IsTup s.heap t vs.toArray)(hb:IsTup s.heap b ws.toArray)(hv:vs≠ [])
  (h1:ws= []->Q (.ref t) s) (h2:ws≠ []->Q (.ref s.heap.objs.size) { s with heap:=s.heap.push { cls:=.type "tuple",data:=.seq (vs++ws).toArray } })
  (hsz:vs.length+ws.length<=sizeLine):wpAny (model prog w) A (binaryOp .Add (.ref t) (.ref b)) Q E s:=by
 obtain⟨⟨cls,dd,data,sl⟩,ho,hc,n,hd⟩:=id ht;obtain⟨⟨adz,dd2,data2,Yq⟩,YC,hc2,n2,hd2⟩:=id hb;simp only at hc hd hc2 hd2;subst hc hd hc2 hd2;have e:vs.toArray++ws.toArray=(vs++ws).toArray:=by simp
 by_cases hw:ws= []
 .exact ahr ⟨_,ho,rfl⟩ ⟨_,YC,rfl⟩ ago ag9 agv agq (agm _ _)
   (tuple_addW1 t b vs.toArray ws.toArray n n2 dd dd2 sl Yq (by simpa using hv) (by simp[hw])) ⟨ho,YC,h1 hw⟩
 .refine ahr ⟨_,ho,rfl⟩ ⟨_,YC,rfl⟩ ago ag9 agv agq (agm _ _)
   (tuple_addW2 t b vs.toArray ws.toArray n n2 dd dd2 sl Yq (by simpa using hv) (by simpa using hw) (by rw[aep,aep];exact hsz)) ⟨ho,YC,?_⟩
  rw[e];exact h2 hw
noncomputable def K5(n d:Nat):Zp->Nat
 |none=>d
 |some v=>if v<0 then(v+(n:Int)).toNat else min v.toNat n
def V2(n d k:Nat):K5 n d (some (k:Int))=min k n:=by show(if(k:Int)<0 then((k:Int)+(n:Int)).toNat else min (k:Int).toNat n)=min k n;rw[if_neg ⋯,aeR]
theorem Un(n d:Nat)(hd:d<=n)(o:Zp):K5 n d o<=n:=by
 cases o with
 |none=>exact hd
 |some v=>
  show(if v<0 then(v+(n:Int)).toNat else min v.toNat n)<=n
  by_cases hv:v<0
  .rw[if_pos hv];lia
  .rw[if_neg hv];exact ahG _ _
def yz(v:Int)(n d:Nat):(if v<0 then max (v+(n:Int)) 0 else min v (n:Int))=((K5 n d (some v):Nat):Int):=by
 show(if v<0 then max (v+(n:Int)) 0 else min v (n:Int))=(((if v<0 then(v+(n:Int)).toNat else min v.toNat n):Nat):Int)
 by_cases hv:v<0
 .simp only[if_pos hv];lia
 .simp only[if_neg hv];lia
def xq(lo hi:Zp)(n:Nat):Builtin.Slice.sliceAdjust lo hi 1 (n:Int)=(((K5 n 0 lo:Nat):Int),((K5 n n hi:Nat):Int)):=by
 have h1:¬ ((1:Int)<0):=by lia
 unfold Builtin.Slice.sliceAdjust;simp only[h1,if_false];refine Prod.ext ?_ ?_
 .cases lo with
  |none=>rfl
  |some v=>exact yz v n 0
 .cases hi with
  |none=>rfl
  |some v=>exact yz v n n
def wh(i j:Nat):Builtin.Slice.slicePlaces (i:Int) (j:Int) 1=j - i:=by
 unfold Builtin.Slice.slicePlaces;have h1:(1:Int)>0:=by lia
 simp only[h1,if_true,Int.ediv_one]
 split<;>lia
theorem pJ{o:Zp}{Q:Zp->Shared->Prop}(p:IsPart v o)(h:Q o s):wpAny (model prog w) A (Builtin.Slice.slicePartIndex v) Q E s:=by
 cases p with
 |none=>exact slicePart_none h
 |int i t=>exact slicePart_int h
def iJ{sl:Addr}{vl vu:Value}{lo hi:Zp}{Q:Int×Int×Nat->Shared->Prop}(hs:s.heap.IsSliceOf sl vl vu .none)(pl:IsPart vl lo)(pu:IsPart vu hi)
  (h:Q (((K5 n 0 lo:Nat):Int),1,K5 n n hi - K5 n 0 lo) s):wpAny (model prog w) A (Builtin.Slice.sliceApplied (.ref sl) (pure (n:Int))) Q E s:=by
 obtain⟨os,WD,Xd,X3⟩:=id hs;unfold Builtin.Slice.sliceApplied Builtin.Slice.sliceFields;refine adq (adq (afm WD X3 (x:=vl) rfl (adq (afm WD X3 (x:=vu) rfl (adq (afm WD X3 (x:=.none) rfl (adB ?_)))))));refine adq (slicePart_none ?_);show wpAny _ _ (if((1:Int)==0)=true then _ else _) _ _ s;rw[if_neg ⋯];refine adq (pJ pl (adq (pJ pu (adq (adB ?_)))));show wpAny _ _ (match Builtin.Slice.sliceAdjust lo hi 1 (n:Int)with|(lo,hi)=>pure (lo,(1:Int),Builtin.Slice.slicePlaces lo hi 1)) _ _ s;rw[xq lo hi n];show wpAny _ _ (pure (((K5 n 0 lo:Nat):Int),(1:Int),Builtin.Slice.slicePlaces ((K5 n 0 lo:Nat):Int) ((K5 n n hi:Nat):Int) 1)) _ _ s;rw[wh];exact adB h
def AS(xs:Array Value)(i k:Nat):((List.range k).filterMap fun(m:Nat)=>xs[((i:Int)+(m:Int) * 1).toNat]?).toArray=((xs.toList.drop i).take k).toArray:=by
 have e:(fun(m:Nat)=>xs[((i:Int)+(m:Int) * 1).toNat]?)=fun m=>xs[i+m]? :=by
  funext m
  have:((i:Int)+(m:Int) * 1).toNat=i+m:=by lia
  rw[this]
 rw[e];have:=pick_run xs i k;rw[List.filterMap_map]at this;have e2:((fun x=>xs[x]?)∘fun x=>i+x)=fun m=>xs[i+m]? :=rfl;rw[e2]at this;rw[this]
def Ru{t sl:Addr}{vl vu:Value}{lo hi:Zp}(ht:IsTup s.heap t items)(hs:s.heap.IsSliceOf sl vl vu .none)(pl:IsPart vl lo)(pu:IsPart vu hi)
  (hw:¬ (K5 items.size 0 lo=0/\K5 items.size items.size hi=items.size))
  (h:Q (.ref s.heap.objs.size) { s with heap:=s.heap.push { cls:=.type "tuple",data:=.seq ((items.toList.drop (K5 items.size 0 lo)).take (K5 items.size items.size hi - K5 items.size 0 lo)).toArray } })
  (hsz:items.size<=sizeLine):wpAny (model prog w) A (getItem (.ref t) (.ref sl)) Q E s:=by
 have U3:sizeOk (.seq ((items.toList.drop (K5 items.size 0 lo)).take (K5 items.size items.size hi - K5 items.size 0 lo)).toArray):=by
  show((items.toList.drop (K5 items.size 0 lo)).take (K5 items.size items.size hi - K5 items.size 0 lo)).toArray.size<=sizeLine;rw[aep,afB,aeT,ag8]
  lia
 have hj:K5 items.size items.size hi<=items.size:=Un _ _ (adA _) hi;obtain⟨os,WD,Xd,X3⟩:=id hs;have hTs:s.TypeIs (.ref sl) "slice":=⟨os,WD,Xd⟩
 unfold getItem
 try with_reducible refine aeA ?_
 first|refine adq (adB ?_)|skip
 refine adq (ahn ht.typeIs ⋯ ?_)
 refine adq (afn (name:=Str.ofString "__getitem__") ht.typeIs aey
  (afd aey ht.typeIs ag0 ?_ (ahg _ _)))
 show wpAny _ _ (Builtin.Tuple.tupleItemsOf (.ref t) >>= _) _ _ s;refine adq (tupleItemsOf_ ht ?_);refine adq (afT hTs ?_);rw[if_pos ⋯];refine adq (iJ hs pl pu ?_)
 have hno:¬ ((((K5 items.size 0 lo:Nat):Int)==0&&(1:Int)==1&&(K5 items.size items.size hi - K5 items.size 0 lo)==items.size)=true):=by intro q;rw[adI,adI]at q;have q1:((K5 items.size 0 lo:Nat):Int)=0:=afe q.1.1;have q2:K5 items.size items.size hi - K5 items.size 0 lo=items.size:=afe q.2;exact hw ⟨by lia,by lia⟩
 show wpAny _ _ (if(((K5 items.size 0 lo:Nat):Int)==0&&(1:Int)==1&&(K5 items.size items.size hi - K5 items.size 0 lo)==items.size)=true then _ else _) _ _ s;rw[if_neg hno,AS]
 first
  |exact adq (m:=Builtin.Tuple.tupleExact _) (aeo (adB ⟨_,rfl,adB h⟩) U3)
  |exact adq (m:=Builtin.Tuple.tupleExact _) (aeo (adq (adB (adB ⟨_,rfl,adB h⟩))) U3)
  |exact adq (adq (m:=Builtin.Tuple.tupleExact _) (aeo (adB (adB ⟨_,rfl,adB h⟩)) U3))
  |exact adq (adq (m:=Builtin.Tuple.tupleExact _) (aeo (adB ⟨_,rfl,adB h⟩) U3))
def Rv{t sl:Addr}{vl vu:Value}{lo hi:Zp}(ht:IsTup s.heap t items)(hs:s.heap.IsSliceOf sl vl vu .none)(pl:IsPart vl lo)(pu:IsPart vu hi)
  (hw:K5 items.size 0 lo=0/\K5 items.size items.size hi=items.size) (h:Q (.ref t) s):wpAny (model prog w) A (getItem (.ref t) (.ref sl)) Q E s:=by
 obtain⟨os,WD,Xd,X3⟩:=id hs;have hTs:s.TypeIs (.ref sl) "slice":=⟨os,WD,Xd⟩
 unfold getItem
 try with_reducible refine aeA ?_
 first|refine adq (adB ?_)|skip
 refine adq (ahn ht.typeIs ⋯ ?_)
 refine adq (afn (name:=Str.ofString "__getitem__") ht.typeIs aey
  (afd aey ht.typeIs ag0 ?_ (ahg _ _)))
 show wpAny _ _ (Builtin.Tuple.tupleItemsOf (.ref t) >>= _) _ _ s;refine adq (tupleItemsOf_ ht ?_);refine adq (afT hTs ?_);rw[if_pos ⋯];refine adq (iJ hs pl pu ?_)
 have yes:(((K5 items.size 0 lo:Nat):Int)==0&&(1:Int)==1&&(K5 items.size items.size hi - K5 items.size 0 lo)==items.size)=true:=by rw[hw.1,hw.2];simp
 show wpAny _ _ (if(((K5 items.size 0 lo:Nat):Int)==0&&(1:Int)==1&&(K5 items.size items.size hi - K5 items.size 0 lo)==items.size)=true then _ else _) _ _ s;rw[if_pos yes];obtain⟨⟨ct,dt,da,W7⟩,hot,hct,n,hdt⟩:=id ht
 cases(show ct=Value.type "tuple" from hct)
 wp_walk using ad7 hot
 exact⟨_,rfl,adB h⟩
end
def ado(a b:Bool):((a&&b)=true)=(a=true/\b=true):=adI a b
def adp(n:Nat):n<=n:=adA n
theorem nB(j6:Z3):∀(k:Nat)(acc:Z3),
  List.foldl (fun x1 x2=>x1++x2) acc.toArray (List.replicate k j6.toArray)=(acc++(List.replicate k j6).flatten).toArray
 |0,acc=>by simp
 |k+1,acc=>by
  have e:acc.toArray++j6.toArray=(acc++j6).toArray:=by simp
  have e2:(acc++j6)++(List.replicate k j6).flatten=acc++(List.replicate (k+1) j6).flatten:=by rw[aev,aes,adN]
  rw[<- e2,<- nB j6 k (acc++j6),<- e,aev,agE]
theorem tf(xs:List α)(k:Nat):(List.replicate k xs).flatten.length=k * xs.length:=by
 induction k with
 |zero=>simp
 |succ k ih=>rw[aev,aes,adt,ih,ahv,Nat.add_comm]
def Be(h:n<=sizeLine):Builtin.List.listTooLong n=false:=by unfold Builtin.List.listTooLong;exact decide_eq_false ⋯
def yL:fillsNumberSlot (.type "tuple") "mul"=pure false:=by kernel_rfl
def ua:seqRepeat? (.type "tuple")=pure (some (.builtin "tuple.__mul__")):=by kernel_rfl
def vY(a:Int)(t:Tok)(l:Addr)(j6:Array Value)(n:Nat)(dd:Option Addr)(sl:Array (Option Value)):
  Meets (Builtin.«int.__rmul__» ⟨[.int a t,.ref l],[]⟩) (fun _ R s=>s.heap.get? l=some { cls:=.type "tuple",dict:=dd,data:=.seq j6 n,slots:=sl }/\R (.ok (.ret Value.notImplemented)) s):=
 .of_wp fun prog w A R s h=>by
  obtain⟨hp,g,d,tk,os⟩:=s;obtain⟨hl,h⟩:=h
  wp_walk
  exact⟨_,rfl,h⟩
def yK(l:Addr)(j6:Z3)(n:Nat)(dd:Option Addr)(sl:Array (Option Value))(k:Int)(t:Tok)(h1: -(2 ^ 63)<=k)(h2:k<2 ^ 63)(hz:j6.length * k.toNat<=sizeLine):
  Meets (Builtin.«tuple.__mul__» ⟨[.ref l,.int k t],[]⟩) (fun _ R s=>s.heap.get? l=some { cls:=.type "tuple",dict:=dd,data:=.seq j6.toArray n,slots:=sl }/\
   ((j6= []\/k=1)->R (.ok (.ret (.ref l))) s)/\R (.ok (.ret (.ref s.heap.objs.size))) { s with heap:=s.heap.push { cls:=.type "tuple",data:=.seq (List.replicate k.toNat j6).flatten.toArray } }):=
 .of_wp fun prog w A R s h=>by
  obtain⟨hp,g,d,tk,os⟩:=s;obtain⟨hl,q1,q2⟩:=h;have f1:=AutoSeq1.idx_int;have f2:=AutoSeq1.sub_tuple_tuple;have b1:¬ ((decide (k< -(2 ^ 63))||decide (k>=2 ^ 63))=true):=by simp;lia
  unfold Builtin.«tuple.__mul__»
  wp_walk using ad7 hl
  rw[if_neg b1]
  wp_walk using ad7 hl
  have em:j6.toArray.isEmpty=j6.isEmpty:=by cases j6<;>rfl
  have fr:∀xs:Array Value,xs.size<=sizeLine->xs=(List.replicate k.toNat j6).flatten.toArray->wpAny (model prog w) A.in1 (Builtin.Tuple.tupleExact xs >>= fun v=>ret v) (fun fin s'=>∃v,fin=Fin.done (Flow.ret v)/\R (Except.ok (Flow.ret v)) s') (fun e s'=>R (Except.error e) s') ⟨hp,g,d,tk,os⟩:=fun xs hx e=>by unfold Builtin.Tuple.tupleExact;subst e;exact adq (aeo (adB ⟨_,rfl,q2⟩) hx)
  by_cases c:(j6.toArray.isEmpty||k==1)=true
  .rw[if_pos c]
   wp_walk using ad7 hl
   refine⟨_,rfl,q1 ?_⟩;rw[aeD,em,afC,beq_iff_eq]at c;exact c
  .rw[if_neg c];rw[aeD,not_or,em,afC]at c
   by_cases c2:(decide (k<=0)||j6.toArray.isEmpty)=true
   .rw[if_pos c2];rw[aeD,em,afC]at c2
    have k0:k.toNat=0:=by
     rcases c2 with z|z
     .have:=of_decide_eq_true z;lia
     .exact absurd z c.1
    exact fr #[] (aex _) (by rw[k0];rfl)
   .rw[if_neg c2]
    have e2:(j6.toArray.size:Int) * k=((j6.length * k.toNat:Nat):Int):=by
     have:((k.toNat:Nat):Int)=k:=ag6 (by simp only[aeD,not_or,decide_eq_true_eq]at c2;lia)
     rw[aep];push_cast;rw[this]
    have sl8:(sizeLine:Nat)<=(2 ^ 63 - 1) / 8:=by decide
    rw[if_neg (by rw[e2];intro z;have:(j6.length * k.toNat:Nat)<=(2 ^ 63 - 1) / 8:=adR hz sl8;lia)];rw[if_neg (by rw[e2];unfold Builtin.Tuple.tupleTooMany;intro z;have:=of_decide_eq_true z;have h3:((j6.length * k.toNat:Nat):Int)<=(sizeLine:Nat):=Int.ofNat_le.mpr hz;lia)]
    have hf:List.foldl (fun x1 x2=>x1++x2) #[] (List.replicate k.toNat j6.toArray)=(List.replicate k.toNat j6).flatten.toArray:=by have:=nB j6 k.toNat [];rw[ad1]at this;exact this
    refine fr _ ?_ hf;rw[hf,aep,tf,ahx];exact hz
def sG(lo hi:Zp)(n:Nat):(sliceBounds lo hi none n).1=((Z.K5 n 0 lo:Nat):Int)/\(sliceBounds lo hi none n).2.1=((Z.K5 n n hi:Nat):Int)/\(sliceBounds lo hi none n).2.2=1:=by
 refine⟨?_,?_,rfl⟩
 .cases lo with
  |none=>simp[sliceBounds,Z.K5]
  |some i=>
   simp only[sliceBounds,Z.K5,ahE,show(1:Int)>0 by decide,if_true]
   by_cases h:i<0
   .simp only[h,if_true]<;>lia
   .simp only[h,if_false]<;>lia
 .cases hi with
  |none=>simp[sliceBounds,Z.K5]
  |some i=>
   simp only[sliceBounds,Z.K5,ahE,show(1:Int)>0 by decide,if_true]
   by_cases h:i<0
   .simp only[h,if_true]<;>lia
   .simp only[h,if_false]<;>lia
def qR(j6:Z3)(lo hi:Zp):slicePick j6.toArray lo hi none=((j6.drop (Z.K5 j6.length 0 lo)).take (Z.K5 j6.length j6.length hi - Z.K5 j6.length 0 lo)).toArray:=by obtain⟨h1,h2,h3⟩:=sG lo hi j6.toArray.size;unfold slicePick;rw[h1,h2,h3];simp only[sliceRange_one,pick_run,aep]<;>rfl
def zj(p q:PV)(h:Y3):Res PV:=match p,q with
 |.int i,.int j=>.ok (.int (i+j)) h
 |.int i,.bl b=>.ok (.int (i+b2i b)) h
 |.str a,.str b=>if a.length+b.length<=sizeLine then .ok (.str (a++b)) h else .bad
 |.tup a,.tup b=>if a.isEmpty=false/\a.length+b.length<=sizeLine then .ok (.tup (a++b)) h else .bad
 |p,q=>match S9 h p,S9 h q with
  |some a,some b=>if a.length+b.length<=sizeLine then .ok (.lst (a++b)) h else .bad
  |_,_=>.bad
def aG(p q:PV)(h:Y3):Res PV:=match p,q with
 |.tup [],.tup b=>.ok (.tup b) h
 |p,q=>zj p q h
noncomputable def pI(C:Int->Int->Bool)(g:Int->Int->Int)(p q:PV)(h:Y3):Res PV:=match p,q with
 |.int i,.int j=>if C i j=true then .ok (.int (g i j)) h else .bad
 |_,_=>.bad
noncomputable def ng(p q:PV)(h:Y3):Res PV:=match p,q with
 |.int i,.int j=>.ok (.int (i - j)) h
 |_,_=>.bad
abbrev aO:=pI (fun _ j=>decide (0<j)) (fun i j=>i % j)
abbrev aZ:=pI (fun _ j=>decide (0<j/\j<1073741824)) (fun i j=>i / j)
abbrev wk:=pI (fun i j=>decide (0<=j/\j<=1000000/\i.natAbs<2 ^ 64)) (fun i j=>i ^ j.toNat)
noncomputable def QW(n:Nat)(i:Int):Bool:=Nat.blt i.natAbs n
noncomputable def Mv(i j:Int):Bool:=decide (Builtin.Int.intBits i+Builtin.Int.intBits j<=134217728)
def jg(i j:Int):Bool:=QW 18446744073709551616 i||(QW 18446744073709551616 j||Mv i j)
noncomputable def oq{α:Type}(xs:List α)(k:Int):List α:=(List.replicate k.toNat xs).flatten
def gX(p q:PV)(h:Y3):Res PV:=match p,q with
 |.int i,.int j=>if jg i j=true then .ok (.int (i * j)) h else .bad
 |.str a,.int k=>if QW 1048576 k=true/\a.length * k.toNat<=1048576 then .ok (.str (oq a k)) h else .bad
 |p,.int k=>match S9 h p with
  |some xs=>if QW 9223372036854775808 k=true/\xs.length * k.toNat<=sizeLine then .ok (.lst (oq xs k)) h else .bad
  |_=>.bad
 |_,_=>.bad
def AT(p q:PV)(h:Y3):Res PV:=match p,q with
 |.tup xs,.int k=>if QW 9223372036854775808 k=true/\xs.length * k.toNat<=sizeLine then .ok (.tup (oq xs k)) h else .bad
 |p,q=>gX p q h
noncomputable def wm(p:PV)(h:Y3):Res PV:=match p with
 |.int i=>.ok (.int (-i)) h
 |_=>.bad
def bD:QW n i=true↔ -(n:Int)<i/\i<(n:Int):=by
 unfold QW;rw[Nat.blt_eq]
 lia
def Cy(a b:Y1):S a++S b=S (a++b):=by show(⟨(S a).cps++(S b).cps⟩:Str)=_;simp[S]
section
variable{a b:Expr}{fb:Ex}
def JF:R3 X (binaryOp .Add) aG:=fun{w h p q u v Q E} I rp rq k=>by
 unfold aG at k
 split at k
 .obtain⟨a,j6,rfl,⟨n,e⟩,z,r⟩:=I.sq (ps:=[]) rp rfl;obtain⟨b,OJ,rfl,⟨n',e'⟩,_⟩:=I.sq rq rfl;exact ahr ⟨_,e,rfl⟩ ⟨_,e',rfl⟩ ago ag9 F.slot_tuple_add F.entry_tuple_add (F.args_tuple_add_2 _ _) (tuple_addW0 a b _ _ n n' _ _ _ _ (by have:=r.len;simpa using this.symm)) ⟨e,e',k.here I.toHR rq⟩
 .unfold zj at k
  split at k
  .cases rp;obtain⟨_,rfl⟩:=rq.vi;exact add_int (k.now I.toHR (.int _ _))
  .cases rp;obtain rfl:=rq.vb;exact add_int_bool (k.now I.toHR (.int _ _))
  .split at k
   .cases rp;obtain⟨_,rfl⟩:=rq.vs;exact add_str (fun _ _=>by rw[Cy];exact k.now I.toHR (.str _ _)) (by rw[fN,fN];assumption)
   .exact k.elim
  .split at k
   .rename_i xs ys _ c;obtain⟨a,j6,rfl,x,z,r⟩:=I.sq rp rfl;obtain⟨b,OJ,rfl,y,_,r'⟩:=I.sq rq rfl;have l:=r.len;have l':=r'.len;refine Z.V8 (vs:=j6.toList) (ws:=OJ.toList) x.tup y.tup (fun z=>?_) (fun z=>?_) (fun z=>?_) (by simp;lia)
    .obtain rfl:xs= []:=(by simp at z;simpa[z]using l)
     cases c.1
    .obtain rfl:ys= []:=(by simp at z;simpa[z]using l')
     rw[adU]at k;exact k.here I.toHR rp
    .exact k.seq I.toHR rfl (by simpa using r.app r') (by simp;lia)
   .exact k.elim
  .split at k
   .rename_i xs ys e1 e2
    split at k
    .obtain⟨a,j6,rfl,⟨_,x⟩,z,r⟩:=I.sq rp (jM e1);obtain⟨b,OJ,rfl,⟨_,y⟩,_,r'⟩:=I.sq rq (jM e2);have l:=r.len;have l':=r'.len;exact ahD x y (k.seq I.toHR rfl (by simpa using r.app r') (by simp;lia)) ⋯
    .exact k.elim
   .exact k.elim
def Zc{op:Operator}{C:Int->Int->Bool}{g:Int->Int->Int}(o:∀{i j t t' s Q} {E:Yf},C i j=true->Q (.int (g i j) s.toks) { s with toks:=s.toks+1 }->Wp X (binaryOp op (.int i t) (.int j t')) Q E s):R3 X (binaryOp op) (pI C g):=fun I rp rq k=>by
 unfold pI at k
 split at k
 .cases rp;obtain⟨_,rfl⟩:=rq.vi
  split at k
  .exact o ‹_› (k.now I.toHR (.int _ _))
  .exact k.elim
 .exact k.elim
def Dw(ha:RE X a fa)(hb:RE X b fb):RE X (.BinOp a .Add b pos) (c2 aG fa fb):=pN JF ha hb
def GL(ha:RE X a fa)(hb:RE X b fb):RE X (.BinOp a .Sub b pos) (c2 ng fa fb):=pN (fun I rp rq k=>by
 unfold ng at k
 split at k
 .cases rp;obtain⟨_,rfl⟩:=rq.vi;exact sub_int (k.now I.toHR (.int _ _))
 .exact k.elim) ha hb
def GW(ha:RE X a fa)(hb:RE X b fb):RE X (.BinOp a .Mod b pos) (c2 aO fa fb):=pN (Zc fun{i j t t' s Q E} c q=>by have c:=of_decide_eq_true c;exact mod_int' ⋯ (by rw[Int.fmod_eq_emod_of_nonneg i ⋯];exact q)) ha hb
def Dq(ha:RE X a fa)(hb:RE X b fb):RE X (.BinOp a .FloorDiv b pos) (c2 aZ fa fb):=pN (Zc fun{i j t t' s Q E} c q=>by have c:=of_decide_eq_true c;exact floordiv_int ⋯ (by rw[Int.fdiv_eq_ediv_of_nonneg i ⋯];exact q) (.inl (PyProof.noPylong_small ⋯))) ha hb
def GO(ha:RE X a fa)(hb:RE X b fb):RE X (.BinOp a .Pow b pos) (c2 wk fa fb):=pN (Zc fun c q=>have c:=of_decide_eq_true c;pow_int_small c.1 c.2.1 c.2.2 q) ha hb
def GU(ha:RE X a fa):RE X (.UnaryOp .USub a pos) (c1 wm fa):=Jh (fun I rp k=>by
 unfold wm at k
 split at k
 .cases rp;exact neg_int (k.now I.toHR (.int _ _))
 .exact k.elim) ha
def BV(l:Array Value)(k:Nat):List.foldl (fun x1 x2=>x1++x2) #[] (List.replicate k l)=(List.replicate k l.toList).flatten.toArray:=by have:=nB l.toList k [];simpa using this
def Li(a:Y1)(k:Int):Txt.mul (S a) k=S (oq a k):=by
 unfold Txt.mul oq
 have f:∀(k:Nat)(acc:Y1),(List.replicate k a.toArray).foldl (· ++ ·) acc.toArray=(acc++(List.replicate k a).flatten).toArray:=fun k=>by
  induction k with
  |zero=>simp
  |succ k ih=>intro acc;rw[aev,agE,aev,aes,<- adN,<- ih (acc++a)];congr 1;simp
 split
 .rw[show k.toNat=0 by lia];rfl
 .split
  .rename_i h1 h2;rcases aeD _ _▸h2 with z|z
   .obtain rfl:k=1:=by simpa using z
    simp
   .obtain rfl:a= []:=by rw[fN]at z;simpa using z
    simp
  .show(⟨_⟩:Str)=⟨_⟩
   congr 1
   exact(f k.toNat []).trans (by simp)
def Jv:R3 X (binaryOp .Mult) AT:=fun{w h p q u v Q E} I rp rq k=>by
 unfold AT at k
 split at k
 .split at k
  .rename_i xs n hz;have hk:=bD.mp hz.1;obtain⟨_,rfl⟩:=rq.vi;obtain⟨l,j6,rfl,⟨_,e⟩,z,r⟩:=I.sq rp rfl;have ln:=r.len
   refine aga (T:="tuple") (U:="int") ⋯ ⟨_,e,rfl⟩ (fun s'=>ahd s' _ _) yL F.fills_int_mul F.slot_int_rmul ua F.slot_int_index.lookup
    (afy F.slot_int_rmul (ahd w.s _ _) F.entry_int_rmul (F.args_int_rmul_2 _ _) (vY _ _ l j6 _ _ _) ⟨e,rfl,⟨_,e,rfl⟩,afy F.slot_tuple_mul ⟨_,e,rfl⟩ F.entry_tuple_mul (F.args_tuple_mul_2 _ _) (yK l j6.toList _ _ _ _ _ ⋯ ⋯ (by simp;rw[<- ln];exact hz.2)) ⟨e,fun c=>?_,k.seq I.toHR rfl (r.rep _) (by rw[aep,tf,<- r.length,ahx];exact hz.2)⟩⟩)
   rw[show oq xs n=xs by
    rcases c with c|rfl
    .obtain rfl:xs= []:=by simp at c;simpa[c]using ln
     simp[oq]
    .simp[oq]]at k
   exact k.here I.toHR rp
  .exact k.elim
 .unfold gX at k
  split at k
  .cases rp;obtain⟨_,rfl⟩:=rq.vi
   split at k
   .rename_i hc;unfold jg at hc;rw[aeD,aeD,bD,bD]at hc
    exact mul_int (k.now I.toHR (.int _ _)) (by
     rcases hc with c|c|c
     .exact .of_left (intBits_le_64 c.1 c.2)
     .exact .of_right (intBits_le_64 c.1 c.2)
     .exact IntMulOk.of_le (adA _) (adA _) (of_decide_eq_true c))
   .exact k.elim
  .rename_i a n _
   cases rp;obtain⟨_,rfl⟩:=rq.vi
   split at k
   .rename_i hc;obtain⟨h1,h2⟩:=bD.mp hc.1;have h3:=hc.2;refine SB.mul ⟨by simp;lia,fun g1 g2=>?_,fun g1 g2=>?_⟩ fun _ _=>by rw[Li];exact k.now I.toHR (.str _ _)
    .have:a.length * 1<=a.length * n.toNat:=Nat.mul_le_mul_left _ ⋯
     have:(2:Int) ^ 20<=(2 ^ 63 - 1) / n:=by
      rw[Int.le_ediv_iff_mul_le ⋯];have:(2:Int) ^ 20 * n<=2 ^ 20 * 2 ^ 20:=Int.mul_le_mul_of_nonneg_left ⋯ ⋯
      lia
     rw[fN];lia
    .rw[fN];have:(2:Nat) ^ 20<=sizeLine:=by decide
     simp[Builtin.Str.tooLong];lia
   .exact k.elim
  .rename_i n _ _ _;obtain⟨_,rfl⟩:=rq.vi
   split at k
   .rename_i xs e'
    split at k
    .rename_i hz;have hk:=bD.mp hz.1;obtain⟨l,j6,rfl,⟨_,e⟩,z,r⟩:=I.sq rp (jM e');have ln:=r.len;have hl:=hz.2;rw[ln]at hl;have:(sizeLine:Nat)<=(2 ^ 63 - 1) / 8:=by decide
     refine aga (T:="list") (U:="int") ⋯ ⟨_,e,rfl⟩ (fun s'=>ahd s' _ _) noFill_list_mul F.fills_int_mul F.slot_int_rmul repeat_list F.slot_int_index.lookup
      (afy F.slot_int_rmul (ahd w.s _ _) F.entry_int_rmul (F.args_int_rmul_2 _ _) (int___rmul___int_list _ _ l j6 _) ⟨e,rfl,⟨_,e,rfl⟩,afy F.slot_list_mul ⟨_,e,rfl⟩ F.entry_list_mul (F.args_list_mul_2 _ _) (AutoListH.list___mul___list_int_3 l j6 _ n _ (by rw[fitsIndex_both ⋯ ⋯];exact aeX) ⋯ (by rw[Be hl];exact aeX)) ⟨e,?_⟩⟩)
     rw[BV,show(List.replicate (if j6.isEmpty=true then 0 else n.toNat) j6.toList).flatten=(List.replicate n.toNat j6.toList).flatten by split<;>simp_all];exact k.seq I.toHR rfl (r.rep _) (by rw[aep,tf,<- r.length,ahx];exact hz.2)
    .exact k.elim
   .exact k.elim
  .exact k.elim
end
mutual
noncomputable def toD:PV->PyData
 |.non=>.none
 |.bl b=>.bool b
 |.int i=>.int i
 |.str l=>.str (S l)
 |.tup xs=>.tuple (iI xs)
 |.lst xs=>.list (iI xs)
 |.Uh xs=>.list (iI xs)
 |_=>.dict []
noncomputable def iI:Y2->List PyData
 |[]=>[]
 |x::r=>toD x::iI r
end
noncomputable def QV(h:Y3):PV->PyData
 |.ref i=>match h[i]? with
  |some (.lst xs)=>.list (iI xs)
  |_=>.dict []
 |p=>toD p
def R5(h:Y3)(p:PV):Bool:=(QV h p).canLay0&&decide ((QV h p).depth<=60)
def z_(p q:PV)(h:Y3):Res PV:=if R5 h p=true/\R5 h q=true then .ok (.bl (PyData.eqv (QV h p) (QV h q))) h else .bad
def Rc(p q:PV)(h:Y3):Res PV:=if R5 h p=true/\R5 h q=true then .ok (.bl (!PyData.eqv (QV h p) (QV h q))) h else .bad
noncomputable def wn(g:Int->Int->Bool)(p q:PV)(h:Y3):Res PV:=match p,q with
 |.int i,.int j=>.ok (.bl (g i j)) h
 |_,_=>.bad
abbrev U8:=wn fun i j=>decide (i<j)
abbrev W8:=wn fun i j=>decide (i<=j)
abbrev Tp:=wn fun i j=>decide (j<i)
abbrev pGe:=wn fun i j=>decide (j<=i)
noncomputable def mw:PV->Bool
 |.non=>true
 |_=>false
def U9(p q:PV)(h:Y3):Res PV:=match q with
 |.non=>.ok (.bl (mw p)) h
 |_=>.bad
def lG(p q:PV)(h:Y3):Res PV:=match q with
 |.non=>.ok (.bl (!mw p)) h
 |_=>.bad
def ltL(h:Y3)(p q:PV):Bool:=match S9 h p,S9 h q with
 |some xs,some ys=>decide (xs.length≠ys.length)
 |_,_=>false
def zi(p q:PV)(h:Y3):Res PV:=if ltL h p q=true then .ok (.bl false) h else z_ p q h
def or(p q:PV)(h:Y3):Res PV:=match p with
 |.dct _=>(match q with
  |.str _=>.ok (.bl false) h
  |_=>.bad)
 |p=>z_ p q h
def tH(g g':PV->PV->Y3->Res PV)(a b c:Ex):Ex:=fun ρ h=>(a ρ h).bind fun x h1=>(b ρ h1).bind fun y h2=>(g x y h2).bind fun z h3=>match z with
 |.bl false=>.ok (.bl false) h3
 |.bl true=>(c ρ h3).bind fun u h4=>g' y u h4
 |_=>.bad
def aH(f:Ex):Tx:=fun ρ h=>(f ρ h).bind fun p h1=>match p with
 |.bl b=>.ok b h1
 |_=>.bad
def eX(f:Tx):Tx:=fun ρ h=>(f ρ h).bind fun b h1=>.ok (!b) h1
def ju(f g:Tx):Tx:=fun ρ h=>(f ρ h).bind fun b h1=>if b=true then g ρ h1 else .ok false h1
def kZ(f g:Tx):Tx:=fun ρ h=>(f ρ h).bind fun b h1=>if b=true then .ok true h1 else g ρ h1
def qM(f g:Ex):Ex:=fun ρ h=>(f ρ h).bind fun p h1=>match p with
 |.bl b=>if b=true then g ρ h1 else .ok (.bl false) h1
 |_=>.bad
def YQ(f g:Ex):Ex:=fun ρ h=>(f ρ h).bind fun p h1=>match p with
 |.bl b=>if b=true then .ok (.bl true) h1 else g ρ h1
 |_=>.bad
def ER(f:Ex):Ex:=fun ρ h=>(f ρ h).bind fun p h1=>match p with
 |.bl b=>.ok (.bl (!b)) h1
 |_=>.bad
def mH(t:Tx)(f g:Ex):Ex:=fun ρ h=>(t ρ h).bind fun b h1=>if b=true then f ρ h1 else g ρ h1
noncomputable def YK(h:Y3):PV->Option (List (PK×PV))
 |.ref i=>match h[i]? with
  |some (.dct kvs)=>some kvs
  |_=>none
 |_=>none
noncomputable def sC(h:Y3):PV->Option Bool
 |.non=>some false
 |.bl b=>some b
 |.int i=>some (i !=0)
 |.str l=>if l.length<=sizeLine then some (!l.isEmpty)else none
 |p=>match Wq h p with
  |some xs=>some (!xs.isEmpty)
  |none=>match YK h p with
   |some kvs=>some (!kvs.isEmpty)
   |none=>none
def bF(f:Ex):Tx:=fun ρ h=>(f ρ h).bind fun p h1=>match sC h1 p with
 |some b=>.ok b h1
 |none=>.bad
theorem bu.imp{β:Type}{R:Wo->α->β->Prop}{w:Wo}{Q Q':β->Shared->Prop}{r:Res α}(p:bu X R w Q E r)(k:∀x s,Q x s->Q' x s):bu X R w Q' E r:=match r with
 |.ok _ _=>⟨p.1,fun w' x y q=>k _ _ (p.2 w' x y q)⟩
 |.exc _ _=>p
 |.bad=>p
section
variable{w:Wo}
def ay.reads(H:HR G w h){p:Y2}{u:Z3}(r:ay G w.F w.m p u):PyData.canLayAll0 (iI p)=true->∃as,ReadsAll w.s.heap u (iI p) as:=
 ay.rec (motive_1:=fun p u _=>(toD p).canLay0=true->∃as,Reads w.s.heap u (toD p) as) (motive_2:=fun p u _=>PyData.canLayAll0 (iI p)=true->∃as,ReadsAll w.s.heap u (iI p) as) (fun _=>⟨_,.none⟩) (fun b _=>⟨_,.bool b⟩) (fun i t _=>⟨_,.int i t⟩) (fun x t _=>⟨_,.str _ t⟩) (fun _=>nofun) (fun _=>nofun) (fun e _ _ i c=>let⟨_,q⟩:=i c;⟨_,.tuple (H.at e) rfl rfl q⟩) (fun e _ _ i c=>let⟨_,q⟩:=i c;⟨_,.list (H.at e) rfl rfl q⟩) (fun e _ _ i c=>let⟨_,q⟩:=i c;⟨_,.list (H.at e) rfl rfl q⟩) (fun _ _ _ _ _ _ _=>nofun) (fun _ _ _ _=>nofun) (fun _=>nofun) (fun _ _ _ _=>nofun) (fun _ _ _ _ _ _ _ _ _ _=>nofun) (fun _=>⟨_,.nil⟩) (fun _ _ i j c=>let⟨a,b⟩:=(adI _ _▸c:);let⟨_,q⟩:=i a;let⟨_,q'⟩:=j b;⟨_,.cons q q'⟩) r
theorem aP.reads(H:HR G w h){p:PV}{u:Value}(r:aP G w.F w.m p u)(c:(toD p).canLay0=true):∃as,Reads w.s.heap u (toD p) as:=by obtain⟨_,q⟩:=ay.reads H (.cons r .nil) (show(_&&_)=true by rw[c];rfl);cases q;exact⟨_, ‹_›⟩
theorem HR.reads(H:HR G w h){p:PV}{u:Value}(r:aP G w.F w.m p u)(c:(QV h p).canLay0=true):∃as,Reads w.s.heap u (QV h p) as:=by
 unfold QV at c |-
 split
 .split
  .rename_i q
   cases r with
   |ref e=>obtain⟨_,j6,n,e,_,r⟩:=H.obj _ _ _ q e;simp only[q,PyData.canLay0]at c;obtain⟨as,q⟩:=r.reads H c;exact⟨_,.list e rfl rfl q⟩
  .rename_i q;revert c;dsimp only;split
   .rename_i q';exact absurd q' (q _)
   .simp[PyData.canLay0]
 .rename_i q;have e:QV h p=toD p:=by unfold QV;split;exact absurd rfl (q _);rfl
  exact r.reads H (by rw[<- e];exact c)
end
section
variable{w:Wo}{a b c:Expr}{fb fc:Ex}{ta tb:Tx}{rest:List Expr}
def wo(b:Expr)(h:op≠.In:=by decide)(h2:op≠.NotIn:=by decide):behindInMarks op b=false:=by
 have e1:(op==CmpOp.In)=false:=by cases op<;>first|rfl|exact absurd rfl h
 have e2:(op==CmpOp.NotIn)=false:=by cases op<;>first|rfl|exact absurd rfl h2
 cases b<;>simp[behindInMarks,e1,e2]
def DP(hu:X.A.units+64<cLine):R3 X (compareOp .Eq) z_:=fun{w h p q u v Q E} I rp rq k=>by
 unfold z_ R5 at k
 split at k
 .rename_i c;simp only[adI,decide_eq_true_eq]at c;obtain⟨as,ra⟩:=I.reads rp c.1.1;obtain⟨bs,rb⟩:=I.reads rq c.2.1;exact SeqAt.compareEq_reads ra rb c.1.1 c.2.1 (by have:=ahR (QV h p).depth (QV h q).depth;lia) (k.here I.toHR (.bl _))
 .exact k.elim
def DJ(hu:X.A.units+64<cLine):R3 X (compareOp .NotEq) Rc:=fun{w h p q u v Q E} I rp rq k=>by
 unfold Rc R5 at k
 split at k
 .rename_i c;simp only[adI,decide_eq_true_eq]at c;obtain⟨as,ra⟩:=I.reads rp c.1.1;obtain⟨bs,rb⟩:=I.reads rq c.2.1;exact SeqAt.compareNe_reads ra rb c.1.1 c.2.1 (by have:=ahR (QV h p).depth (QV h q).depth;lia) (k.here I.toHR (.bl _))
 .exact k.elim
def DT{g:Int->Int->Bool}(o:∀{i j t t' s Q} {E:Yf},Q (.bool (g i j)) s->Wp X (compareOp op (.int i t) (.int j t')) Q E s):R3 X (compareOp op) (wn g):=fun I rp rq k=>by
 unfold wn at k
 split at k
 .cases rp;obtain⟨_,rfl⟩:=rq.vi;exact o (k.here I.toHR (.bl _))
 .exact k.elim
def Hg:R3 X (compareOp .Lt) U8:=DT lt_int
def DL:R3 X (compareOp .LtE) W8:=DT le_int
def JB:R3 X (compareOp .Gt) Tp:=DT gt_int
def Mo:R3 X (compareOp .GtE) pGe:=DT ge_int
def rF{F:Fz}{m:Zs}(r:aP G F m p u):(u==Value.none)=mw p:=by cases r<;>rfl
def Jz:R3 X (compareOp .Is) U9:=fun I rp rq k=>by
 unfold U9 at k
 split at k
 .cases rq;exact is_none_gen (rF rp▸k.here I.toHR (.bl _))
 .exact k.elim
def Hf:R3 X (compareOp .IsNot) lG:=fun I rp rq k=>by
 unfold lG at k
 split at k
 .cases rq;exact isnot_none_gen (rF rp▸k.here I.toHR (.bl _))
 .exact k.elim
def eT(o:R3 X (compareOp op) g)(hm:behindInMarks op b=false)(ha:RE X a fa)(hb:RE X b fb):RT X (.Compare a [op] [b] pos) (aH (c2 g fa fb)) where
 r I p:=wpAny_isTrue_Compare1 (two o ha hb I (p.bind fun _ _ q _ y r p=>by
  cases r with
  |bl=>exact aeB (p.here y.2 rfl)
  |_=>exact p.elim)) hm
structure RW(X:Cx)(e:Expr)(f:Tx):Prop where
 r:∀{whole:Sem Value}{w:Wo}{ρ:Ev}{h:Y3}{Q:Bool->Shared->Prop}{E:Yf},Inv X w ρ h->bu X (fun _ a b=>a=b) w Q E (f ρ h)->Wp X (isTrue e X.env whole) Q E w.s
def RW.rt{f:Tx}(h:RW X a f):RT X a f:=⟨h.r⟩
def Gy(ha:RT X a ta):RT X (.UnaryOp .Not a pos) (eX ta):=⟨fun I p=>isTrue_not (ha.r I (p.bind fun _ _ _ _ y r p=>p.here y.2 (r▸rfl)))⟩
def CT(ha:RT X a ta):RW X (.BoolOp .And [a] pos) ta:=⟨fun{_ _ _ _ Q _} I p=>isTrue_and (ha.r I (bu.imp p fun b s q=>by cases b;exact q;exact isTrue_and_nil q))⟩
def Gv(ha:RT X a ta):RW X (.BoolOp .Or [a] pos) ta:=⟨fun{_ _ _ _ Q _} I p=>isTrue_or (ha.r I (bu.imp p fun b s q=>by cases b;exact isTrue_or_nil q;exact q))⟩
def Av(ha:RT X a ta)(hb:RW X (.BoolOp .And (b::rest) pos) tb):RW X (.BoolOp .And (a::b::rest) pos) (ju ta tb):=⟨fun I p=>isTrue_and (ha.r I (p.bind fun _ _ c _ y r p=>by
 subst r
 cases c
 .exact p.here y.2 rfl
 .exact hb.r (I.on y) p))⟩
def EZ(ha:RT X a ta)(hb:RW X (.BoolOp .Or (b::rest) pos) tb):RW X (.BoolOp .Or (a::b::rest) pos) (kZ ta tb):=⟨fun I p=>isTrue_or (ha.r I (p.bind fun _ _ c _ y r p=>by
 subst r
 cases c
 .exact hb.r (I.on y) p
 .exact p.here y.2 rfl))⟩
def GP{op}(ha:RE X a fa):RE X (.BoolOp op [a] pos) fa:=⟨fun I p=>BoolOp_one (ha.r I p)⟩
theorem Hc(ha:RE X a fa)(hb:RE X (.BoolOp .And (b::rest) pos) fb):RE X (.BoolOp .And (a::b::rest) pos) (qM fa fb):=⟨fun I p=>BoolOp_and (ha.r I (p.bind fun _ _ c _ y r p=>by
 cases r with
 |bl c=>exact aeB (by cases c;exact p.here y.2 (.bl _);exact hb.r (I.on y) p)
 |_=>exact p.elim))⟩
theorem Ji(ha:RE X a fa)(hb:RE X (.BoolOp .Or (b::rest) pos) fb):RE X (.BoolOp .Or (a::b::rest) pos) (YQ fa fb):=⟨fun I p=>BoolOp_or (ha.r I (p.bind fun _ _ c _ y r p=>by
 cases r with
 |bl c=>exact aeB (by cases c;exact hb.r (I.on y) p;exact p.here y.2 (.bl _))
 |_=>exact p.elim))⟩
theorem GQ(ha:RE X a fa):RE X (.UnaryOp .Not a pos) (ER fa):=⟨fun I p=>UnaryOp_ (ha.r I (p.bind fun _ _ c _ y r p=>by
 cases r with
 |bl c=>exact not_of (aeB (p.here y.2 (.bl _)))
 |_=>exact p.elim))⟩
def AG(hc:RT X c ta)(ha:RE X a fa)(hb:RE X b fb):RE X (.IfExp c a b pos) (mH ta fa fb):=⟨fun I p=>wpAny_IfExp (hc.r I (p.bind fun _ _ c _ y r p=>by
 subst r
 cases c
 .exact hb.r (I.on y) p
 .exact ha.r (I.on y) p))⟩
end
noncomputable def bn(ps:Y2)(h:Y3):Res PV:=if ps.length<=sizeLine then .ok (.lst ps) h else .bad
noncomputable def eJ(ps:Y2)(h:Y3):Res PV:=if ps.length<=sizeLine then .ok (.ref h.length) (h++ [.lst ps])else .bad
noncomputable def aM(ps:Y2)(h:Y3):Res PV:=if ps.length<=sizeLine then .ok (.tup ps) h else .bad
def DO.of{g:Heap}(d:DO G o kvs)(e:g.get? a=some o):g.DictOf (pk G.prog G.w) a kvs:=let⟨x,es,ep,y,z⟩:=d;⟨o,es,ep,e,x,y,z⟩
section
variable{w:Wo}{H8:List (PK×PV)}
def II(G:SC)(w:Wo)(H8:List (PK×PV))(kvs:List (PK×Value)):Prop:=kvs.length<=sizeLine/\kvs.map (·.1)=H8.map (·.1)/\ay G w.F w.m (H8.map (·.2)) (kvs.map (·.2))
inductive Dc0(G:SC)(w:Wo)(u:Value)(H8:List (PK×PV)):Prop where
 |mk (a:Addr) (kvs:List (PK×Value)) (_:u=.ref a) (_:(a==sysModules)=false) (_:w.s.heap.DictOf (pk G.prog G.w) a kvs) (_:II G w H8 kvs)
def HR.dc(H:HR G w h)(r:aP G w.F w.m p u)(k:R_ h p=some H8):Dc0 G w u H8:=by
 unfold R_ at k
 split at k
 .cases k
  cases r with
  |dct e d y z c r=>exact⟨_,_,rfl,y,d.of (H.at e),z,c,r⟩
 .split at k
  .rename_i q
   cases k
   cases r with
   |ref e=>obtain⟨_,o,kvs,e,d,y,z⟩:=H.obj _ _ _ q e;exact⟨_,kvs,rfl,y,d.of e,z⟩
  .cases k
 .cases k
def ay.sz{F:Fz}{m:Zs}{ps:Y2}(r:ay G F m ps us)(z:ps.length<=sizeLine):us.toArray.size<=sizeLine:=adR (Nat.le_of_eq r.length.symm) z
def II.len(r:II G w H8 kvs):kvs.length=H8.length:=by have:=congrArg List.length r.2.1;simpa using this
def KY(k:YK h p=some H8):R_ h p=some H8:=by
 unfold YK at k
 split at k
 .exact k
 .cases k
end
section
variable{w:Wo}{a b e:Expr}{fb:Ex}{f:Ax}{p0:Pos}{id:String}{g:Y2->Y3->Res PV}
def Wd.tru(I:Wd X w h){c:Bool}{Q:Bool->Shared->Prop}(r:aP X.toSC w.F w.m p u)(k:sC h p=some c)(q:bu X (fun _ a b=>a=b) w Q E (.ok c h)):Wp X (truthy u) Q E w.s:=by
 have l:sizeLine=16777216:=ae8;unfold sC at k
 split at k
 .cases k;obtain rfl:=r.vn;exact truthy_none (q.here I.toHR rfl)
 .cases k;obtain rfl:=r.vb;exact aeB (q.here I.toHR rfl)
 .cases k;obtain⟨_,rfl⟩:=r.vi;exact PySem.P.truthy_int (q.here I.toHR rfl)
 .obtain⟨_,rfl⟩:=r.vs
  split at k
  .cases k
   exact PySem.P.truthy_str (by rw[fN];lia) (q.now I.toHR (by rw[fN];cases ‹Y1›;rfl;symm;simp;lia))
  .cases k
 .split at k
  .rename_i e
   cases k
   obtain⟨t,e,ht⟩:=vR e
   replace r:=I.sq r e
   obtain⟨a,j6,rfl,y,z,r⟩:=r
   have n:j6.isEmpty=(‹Y2›).isEmpty:=by
    have:=r.len
    cases j6;rename_i l;cases l<;>cases ‹Y2› <;>simp_all
   rcases ht with rfl|rfl
   .exact truthy_tuple y.tup ⋯ (q.now I.toHR (by rw[n]))
   .exact wpAny_truthy_list y.pl.isList ⋯ (q.now I.toHR (by rw[n]))
  .split at k
   .rename_i e
    cases k
    replace r:=I.dc r (KY e)
    obtain⟨a,kvs,rfl,y,d,r⟩:=r;exact wpAny_truthy_dict y d (by have:=r.1;lia) (q.now I.toHR (by have:=r.len;cases kvs<;>cases ‹List (PK×PV)› <;>simp_all))
   .cases k
theorem Gw(ha:RE X a fa)(he:∀whole,isTrue a X.env whole=(do let v <- whole;standAt a.pos;holding [v] (truthy v)):=by intro _;rfl):RT X a (bF fa):=⟨fun I p=>isTrue_plain (ha.r I (p.bind fun _ h1 q _ y r p=>by
 cases e:sC h1 q with
 |none=>rw[e]at p;exact p.elim
 |some b=>rw[e]at p;exact(I.on y).toWd.tru r e p)) (he _)⟩
def GK{k}(ha:RA X es f):RE X (.Tuple es k pos) (cN aM f):=⟨fun I p=>wpAny_Tuple_spliced (ha.r _ I (p.bind fun _ _ ps us y r p=>by
 unfold aM at p
 split at p
 .exact⟨r.length▸ ‹_›,p.seq (ps:=ps) y.2 rfl r (r.sz ‹_›)⟩
 .exact p.elim))⟩
def GX(ha:RA X es f):RE X (.List es pos) (cN bn f):=⟨fun I p=>ahc (ha.r _ I (p.bind fun _ _ ps us y r p=>by
 unfold bn at p
 split at p
 .exact⟨r.length▸ ‹_›,p.seq (ps:=ps) y.2 rfl r (r.sz ‹_›)⟩
 .exact p.elim))⟩
def Do(ha:RA X es f):RE X (.List es pos) (cN eJ f):=⟨fun I p=>ahc (ha.r _ I (p.bind fun _ _ ps us y r p=>by
 unfold eJ at p
 split at p
 .exact⟨r.length▸ ‹_›,p.lm (ps:=ps) y.2 r (r.sz ‹_›)⟩
 .exact p.elim))⟩
def Gl(X:Cx)(x:Str):Prop:=X.env.kindOf x=some .globalImplicit
def Inv.Vu(I:Inv X w ρ h)(hg:Gl X x)(hm:X.mg x=some u)(q:Q u w.s)(hd:nD0 x:=by decide):Wp X (eval (.Name x p0) X.env) Q E w.s:=
 af9 I.ok.kind hg (Calls.loadGlobal_global (by rw[I.ok.glob];exact I.ok.gl.keeps fun _ _ e=>I.bk e) hm q) hd
theorem Inv.blt(I:Inv X w ρ h){u:Value}{Q:Yf}{E:Yf}(hg:Gl X x)(hm:X.mg x=none)(hv:bootBuiltins x=some u)(q:Q u w.s)(hn:x≠"__name__":=by decide)(hd:nD0 x:=by decide):Wp X (eval (.Name x p0) X.env) Q E w.s:=
 let⟨mb,h1,h2⟩:=I.ok.bl
 af9 I.ok.kind hg (Calls.loadGlobal_builtin (by rw[I.ok.glob];exact I.ok.gl.keeps fun _ _ e=>I.bk e) hm (by rw[I.ok.blt];exact h1.keeps fun _ _ e=>I.bk e) ((h2 x hn).trans hv) q) hd
def Uk(X:Cx)(f:Value)(g:Y2->Y3->Res PV):Prop:=X.Ok->OpN X (fun us=>call f us) g
def AN(o:Uk X (.builtin id) g)(hg:Gl X x)(hm:X.mg x=none)(hv:bootBuiltins x=some (.builtin id))(ha:RA X (e::es) f)(hn:x≠"__name__")(Qt:(x==("__debug__":Str))=false)(he:starEach (e::es) X.env=(false,eval e X.env)::starEach es X.env)(S_:(backTo pos (starEach es X.env)).any (·.1)=false):RE X (.Call (.Name x p0) (e::es) [] pos) (cN g f):=
 ⟨fun I p=>ad9 (I.blt hg hm hv (callWith_builtin1 (ha.r pos I (p.bind fun _ _ _ _ y r p=>o I.ok (I.on y).toWd r p)) he S_) hn Qt)⟩
def yZ(o:Uk X (.type id) g)(hg:Gl X x)(hm:X.mg x=none)(hv:bootBuiltins x=some (.type id))(ha:RA X (e::es) f)(hn:x≠"__name__")(Qt:(x==("__debug__":Str))=false)(he:starEach (e::es) X.env=(false,eval e X.env)::starEach es X.env)(S_:(backTo pos (starEach es X.env)).any (·.1)=false):RE X (.Call (.Name x p0) (e::es) [] pos) (cN g f):=
 ⟨fun I p=>ad9 (I.blt hg hm hv (callWith_type1 (ha.r pos I (p.bind fun _ _ _ _ y r p=>o I.ok (I.on y).toWd r p)) he S_) hn Qt)⟩
end
noncomputable def Vq(n:Nat)(i:Int):Option Nat:=if 0<=i then(if i<n then some i.toNat else none)else if -(n:Int)<=i then some (i+n).toNat else none
def PN{α:Type}(xs:List α)(i:Int):Option α:=(Vq xs.length i).bind fun j=>xs[j]?
def xY{j:Nat}(h:Vq n i=some j):seqIndex? i n=some j/\j<n/\ -(n:Int)<=i/\i<n:=by
 unfold Vq at h
 by_cases h0:0<=i
 .rw[if_pos h0]at h
  by_cases h1:i<n
  .rw[if_pos h1]at h;have e:i.toNat=j:=aed h;exact⟨by rw[ahN h0 h1,e],by lia,by lia,h1⟩
  .rw[if_neg h1]at h;cases h
 .rw[if_neg h0]at h
  by_cases h1: -(n:Int)<=i
  .rw[if_pos h1]at h;have e:(i+n).toNat=j:=aed h;exact⟨by rw[ahq ⋯ h1,e],by lia,h1,by lia⟩
  .rw[if_neg h1]at h;cases h
theorem tM{xs:List α}{v:α}(h:PN xs i=some v):∃j,seqIndex? i xs.length=some j/\xs[j]? =some v/\j<xs.length/\ -(xs.length:Int)<=i/\i<xs.length:=by
 unfold PN at h
 cases e:Vq xs.length i with
 |none=>rw[e]at h;cases h
 |some j=>rw[e]at h;obtain⟨h1,h2,h3,h4⟩:=xY e;exact⟨j,h1,h,h2,h3,h4⟩
noncomputable def iM:PV->Option PK
 |.int i=>some (.inl i)
 |.str l=>some (.inr l)
 |_=>none
noncomputable def bj(kvs:List (PK×PV))(k:PK):Option PV:=(kvs.find? fun kv=>decide (kv.1=k)).map (·.2)
def f9(p q:PV)(h:Y3):Res PV:=match p,q with
 |.str l,.int i=>match PN l i with
  |some c=>if l.length<=sizeLine then .ok (.str [c]) h else .bad
  |none=>.bad
 |.tup xs,.int i=>match PN xs i with
  |some v=>.ok (aj h v) h
  |none=>.bad
 |p,q=>match R_ h p with
  |some kvs=>match iM q with
   |some k=>match bj kvs k with
    |some v=>.ok (aj h v) h
    |none=>.bad
   |none=>.bad
  |none=>match Tt h p with
   |some xs=>match q with
    |.int i=>match PN xs i with
     |some v=>.ok (aj h v) h
     |none=>.bad
    |_=>.bad
   |none=>.bad
def cut{α:Type}(xs:List α)(lo hi:Zp):List α:=(xs.drop (Z.K5 xs.length 0 lo)).take (Z.K5 xs.length xs.length hi - Z.K5 xs.length 0 lo)
abbrev Ox:=Ev->Y3->Res Zp
noncomputable def mj:Ox:=fun _ h=>.ok none h
def iL(f:Ex):Ox:=fun ρ h=>(f ρ h).bind fun p h1=>match p with
 |.int i=>.ok (some i) h1
 |_=>.bad
def pSl(p:PV)(lo hi:Zp)(h:Y3):Res PV:=match p with
 |.str l=>if l.length<=sizeLine then .ok (.str (cut l lo hi)) h else .bad
 |.tup xs=>if Z.K5 xs.length 0 lo=0/\Z.K5 xs.length xs.length hi=xs.length then .bad else .ok (.tup (cut xs lo hi)) h
 |p=>match Tt h p with
  |some xs=>.ok (.lst (cut xs lo hi)) h
  |none=>.bad
def pT(p:PV)(lo hi:Zp)(h:Y3):Res PV:=match p with
 |.tup xs=>if Z.K5 xs.length 0 lo=0/\Z.K5 xs.length xs.length hi=xs.length then .ok (.tup xs) h else .ok (.tup (cut xs lo hi)) h
 |p=>pSl p lo hi h
def qJ(a:Ex)(lo hi:Ox):Ex:=fun ρ h=>(a ρ h).bind fun p h1=>(lo ρ h1).bind fun l h2=>(hi ρ h2).bind fun u h3=>pT p l u h3
def IX(lo hi:Zp)(n:Nat):Builtin.Str.strSliceIndices lo hi 1 n=(List.range (Z.K5 n n hi - Z.K5 n 0 lo)).map (Z.K5 n 0 lo+ ·):=by
 rw[<- sliceRange_one];unfold Builtin.Str.strSliceIndices
 have e1:∀d:Nat,d<=n->∀o:Zp,(match o with|none=>(d:Int)|some i=>(if(1:Int)>0 then max 0 (min (if i<0 then i+(n:Int)else i) n)else max (-1) (min (if i<0 then i+(n:Int)else i) ((n:Int) - 1))))=((Z.K5 n d o:Nat):Int):=by
  intro d hd o
  cases o with
  |none=>rfl
  |some i=>
   simp only[show(1:Int)>0 by decide,if_true,Z.K5]
   by_cases h:i<0
   .simp only[h,if_true];lia
   .simp only[h,if_false];lia
 have e2:=e1 0 (aex _) lo;have e3:=e1 n (adp _) hi;simp only[show(1:Int)>0 by decide,if_true]at e2 e3 |-;rw[<- e2,<- e3];rfl
def EU(l:Y1)(lo hi:Zp):Txt.slice (S l) lo hi=S (cut l lo hi):=by
 unfold Txt.slice;have hn:(S l).length=l.length:=fN l;rw[hn,IX];have hlo:=Z.Un l.length 0 (aex _) lo;have hhi:=Z.Un l.length l.length (adp _) hi
 split
 .rename_i h
  have h':Z.K5 l.length l.length hi - Z.K5 l.length 0 lo=l.length:=by simpa using h
  have e0:Z.K5 l.length 0 lo=0:=by lia
  unfold cut;rw[h',e0];simp
 .rw[pick_run];show(⟨_⟩:Str)=⟨_⟩
  unfold cut;simp[S]
def jP{F:Fz}{m:Zs}{k:PK}(r:aP G F m p u)(e:iM p=some k):(pk G.prog G.w).is k u=true:=by cases r<;>cases e<;>simp[pk,Zw,Value.isInt,Value.isStrOf]
theorem kq{G:SC}{F:Fz}{m:Zs}:∀{H8:List (PK×PV)}{kvs:List (PK×Value)},kvs.map (·.1)=H8.map (·.1)->ay G F m (H8.map (·.2)) (kvs.map (·.2))->∀k:PK,(∃p v,bj H8 k=some p/\valueAt kvs k=some v/\aP G F m p v)\/(bj H8 k=none/\valueAt kvs k=none)
 |[],[],_,_,k=>.inr ⟨rfl,rfl⟩
 |[],_::_,h,_,_=>by simp at h
 |_::_,[],h,_,_=>by simp at h
 |(a,p)::ps,(b,v)::vs,h,.cons r t,k=>by
  simp only[adE,afN]at h;obtain⟨rfl,h⟩:=h;unfold bj valueAt;rw[ahT,ahT]
  by_cases z:b=k
  .simp only[z,decide_true];exact .inl ⟨p,v,rfl,rfl,r⟩
  .simp only[z,decide_false];exact kq h t k
section
variable{w:Wo}{a b:Expr}{fb:Ex}{p2:Pos}
def Mm(value slice:Expr)(hs:∀o i,subscripted slice false o i=operate [o,i] (getItem o i)):R3 X (subscriptTail value slice) f9:=fun{w h p q u u2 Q E} I rp rq k=>by
 have hl:sizeLine=16777216:=ae8;unfold f9 at k
 split at k
 .cases rp;obtain⟨_,rfl⟩:=rq.vi
  split at k
  .rename_i c e
   split at k
   .rename_i z;obtain⟨j,h1,h2,h3,h4,h5⟩:=tM e;exact tail_any (af2 w.s _ _) slot_str_getitem.lookup (getItem_str (c:=c) (by rw[Bool.or_eq_false_iff];exact⟨decide_eq_false ⋯,decide_eq_false ⋯⟩) (by rw[fN,h1];simpa[S]using h2) (k.now I.toHR (.str [c] _))) (hs _ _)
   .exact k.elim
  .exact k.elim
 .obtain⟨_,rfl⟩:=rq.vi
  split at k
  .rename_i e;obtain⟨a,j6,rfl,y,z,r⟩:=I.sq rp rfl;obtain⟨j,h1,h2,h3,h4,h5⟩:=tM e;obtain⟨u,eu,ru⟩:=r.get h2;have l:=r.len;exact agu (x:=u) y.tup.typeIs ahe.lookup (getItem_tuple (j:=j) (Q:=fun r s'=>r=u/\Q r s') y.tup ⋯ ⋯ (by rw[<- l];exact h1) (by simpa using eu) ⟨rfl,k.here I.toHR (I.S5 ru)⟩) (hs _ _)
  .exact k.elim
 .split at k
  .rename_i ed
   split at k
   .rename_i kk ek
    split at k
    .rename_i v ev;obtain⟨a,kvs,rfl,y,d,r⟩:=I.dc rp ed;rcases kq r.2.1 r.2.2 kk with⟨p1,v1,h1,h2,r1⟩|⟨h1,_⟩<;>rw[ev]at h1<;>cases h1
     have hT:w.s.TypeIs (.ref a) "dict":=d.mapOf.typeIs;unfold subscriptTail;refine adq ?_;rw[getitemInPython_of_ne hT.not_modules];refine adq (wpAny_specialOf hT F.slot_dict_getitem.lookup ?_)
     have fin:Wp X (subscripted slice false (.ref a) u2) (fun r s₃=>Wp X (letTemporaryGo value (.ref a) r >>= fun _=>pure r) Q E s₃) E w.s:=by rw[hs];exact wpAny_operating (wpAny_getItem_of (jP rq ek) d.mapOf h2 (adq (wpAny_letTemporaryGo (adB (k.now I.toHR (I.S5 r1))))))
     first
      |exact adB (adq fin)
      |exact adq (adB (adq fin))
      |exact adq fin
    .exact k.elim
   .exact k.elim
  .split at k
   .rename_i el
    split at k
    .rename_i i _ _;obtain⟨_,rfl⟩:=rq.vi
     split at k
     .rename_i e;obtain⟨a,j6,rfl,y,z,r⟩:=I.sq rp (iB el);obtain⟨j,h1,h2,h3,h4,h5⟩:=tM e;obtain⟨u,eu,ru⟩:=r.get h2;have l:=r.len;have fin:=k.here I.toHR (I.S5 ru)
      by_cases h0:0<=i
      .exact item_listR y.pl.isList h0 ⋯ (by rw[show i.toNat=j by rw[ahN h0 h5]at h1;exact aed h1];simpa using eu) fin (hs _ _)
      .exact agu (x:=u) y.pl.isList.typeIs ahp.lookup (wpAny_getItem_list_neg (Q:=fun r s'=>r=u/\Q r s') y.pl.isList ⋯ ⋯ ⋯ (by rw[show(i+(j6.size:Int)).toNat=j by rw[ahq ⋯ h4]at h1;rw[<- l];exact aed h1];simpa using eu) ⟨rfl,fin⟩) (hs _ _)
     .exact k.elim
    .exact k.elim
   .exact k.elim
def Jj(ha:RE X a fa)(hb:RE X b fb)(hs:∀o i,subscripted b false o i=operate [o,i] (getItem o i):=by intro _ _;rfl):RE X (.Subscript a b pos) (c2 f9 fa fb):=⟨fun I p=>ahY (two (Mm a b hs) ha hb I p)⟩
structure RO(X:Cx)(e:Option Expr)(f:Ox):Prop where
 r:∀{w:Wo}{ρ:Ev}{h:Y3}{Q:Yf}{E:Yf},Inv X w ρ h->bu X (fun _ o u=>IsPart u o) w Q E (f ρ h)->Wp X (evalPart e X.env) Q E w.s
def Dh:RO X none mj:=⟨fun I p=>by rw[aha];exact adB (p.here I.toHR .none)⟩
def Dg(ha:RE X a fa):RO X (some a) (iL fa):=⟨fun I p=>by
 rw[evalPart_some]
 exact ha.r I (p.bind fun _ _ _ _ y r p=>by
  cases r with
  |int i t=>exact p.here y.2 (.int i t)
  |_=>exact p.elim)⟩
def Nw.also(H:HR X.toSC w h)(k:∀b o,w.s.heap.get? b=some o->s'.heap.get? b=some o)(ho:s'.os=w.s.os:=by rfl)(hg:s'.gens=w.s.gens:=by rfl):Nw X w { w with s:=s' } h:=
 ⟨⟨ho,fun q=>hg▸q,fun _ _ e=>e,fun _ _ e=>e,⟨[],by simp⟩,fun b o e=>⟨o,k b o e⟩,fun b o q _=>⟨o.slots,⟨k b o q.1,q.2⟩,.inr rfl⟩⟩,H.on fun b o e _=>k b o e⟩
theorem ay.cut{G:SC}{F:Fz}{m:Zs}{ps:Y2}{vs:Z3}(r:ay G F m ps vs)(lo hi:Zp):ay G F m (Z.cut ps lo hi) (Z.cut vs lo hi):=by unfold Z.cut;rw[<- r.length];exact((r.td _).2.td _).1
def jq(xs:List α)(lo hi:Zp):(Z.cut xs lo hi).length<=xs.length:=by
 unfold Z.cut;rw[afB,aeT]
 lia
theorem Wd.sl(I:Wd X w h){p:PV}{u vl vu:Value}{lo hi:Zp}{sl:Addr}(rp:aP X.toSC w.F w.m p u)(hs:w.s.heap.IsSliceOf sl vl vu .none)(pl:IsPart vl lo)(pu:IsPart vu hi)(k:bu X (RV X.toSC) w Q E (pT p lo hi h)):∃T id,typeLookup (.type T) "__getitem__"=pure (some (.builtin id))/\w.s.TypeIs u T/\Wp X (getItem u (.ref sl)) Q E w.s:=by
 unfold pT at k
 split at k
 .obtain⟨a,j6,rfl,y,z,r⟩:=I.sq rp rfl;have l:=r.len;refine⟨"tuple",_,ahe.lookup,y.tup.typeIs,?_⟩
  split at k
  .exact Z.Rv y.tup hs pl pu (by rw[<- l];assumption) (k.here I.toHR rp)
  .exact Z.Ru y.tup hs pl pu (by rw[<- l];assumption) (k.seq I.toHR rfl (r.cut lo hi) (adR (jq j6.toList lo hi) z)) z
 .unfold pSl at k
  split at k
  .obtain⟨_,rfl⟩:=rp.vs
   split at k
   .refine⟨"str",_,F.slot_str_getitem.lookup,af2 _ _ _,?_⟩;have fin:∀t k,Q (.str (Txt.slice (S _) lo hi) t) { w.s with toks:=k }:=fun t _=>by rw[EU];exact k.now I.toHR (.str _ t)
    have hz:∀lo hi,(Txt.slice (S _) lo hi).length<=sizeLine:=fun lo hi=>adR (Txt.slice_le _ _ _) (by rw[fN];assumption)
    cases pl with
    |none=>cases pu with
     |none=>exact aeC (l:=none) (u:=none) (st:=none) hs rfl (afJ ⟨hz _ _,fin⟩)
     |int j u=>exact aeC (l:=none) (u:=some (j,u)) (st:=none) hs rfl (afJ ⟨hz _ _,fin⟩)
    |int i t=>cases pu with
     |none=>exact aeC (l:=some (i,t)) (u:=none) (st:=none) hs rfl (afJ ⟨hz _ _,fin⟩)
     |int j u=>exact aeC (l:=some (i,t)) (u:=some (j,u)) (st:=none) hs rfl (afJ ⟨hz _ _,fin⟩)
   .exact k.elim
  .rename_i n;exact(n _ rfl).elim
  .split at k
   .rename_i e;obtain⟨a,j6,rfl,y,z,r⟩:=I.sq rp (iB e);refine⟨"list",_,ahp.lookup,y.pl.isList.typeIs,wpAny_getItem_list_slice y.pl.isList hs pl pu .none (by simp) ?_ z⟩;rw[show j6=j6.toList.toArray by simp,qR];exact k.seq I.toHR rfl (r.cut lo hi) (adR (jq j6.toList lo hi) z)
   .exact k.elim
def yX{lo hi:Option Expr}{fl fu:Ox}(ha:RE X a fa)(hl:RO X lo fl)(hh:RO X hi fu):RE X (.Subscript a (.Slice lo hi none p2) pos) (qJ fa fl fu):=⟨fun I k=>ahY (ha.r I (k.bind fun _ _ p u y r k=>wpAny_Slice (hl.r (I.on y) (k.bind fun _ _ l vl y1 pl k=>hh.r ((I.on y).on y1) (k.bind fun w h h' vu y2 pu k=>by rw[aha];refine adB ?_;have n:=Nw.also (X:=X) (s':={ w.s with heap:=w.s.heap.push { cls:=.type "slice",data:=.fields #[vl,vu,.none] } }) y2.2 fun b o e=>ady _ e;obtain⟨T,id,a,b,c⟩:=((((I.on y).on y1).on y2).on n).toWd.sl (y2.1.rep (y1.1.rep r)) (ahl w.s.heap vl vu .none) pl pu (k.step n);exact tail_any (ops:=[.ref w.s.heap.objs.size,u]) b a c (by with_unfolding_all rfl))))))⟩
end
inductive SR where
 |nx (ρ:Ev) (h:Y3)|rt (v:PV) (h:Y3)|bk (ρ:Ev) (h:Y3)|ct (ρ:Ev) (h:Y3)|exc (e:PV) (h:Y3)|bad
abbrev Sx:=Ev->Y3->SR
noncomputable def bv:Sx:=fun ρ h=>.nx ρ h
noncomputable def au(f g:Sx):Sx:=fun ρ h=>match f ρ h with
 |.nx ρ1 h1=>g ρ1 h1
 |.rt v h1=>.rt v h1
 |.bk ρ1 h1=>.bk ρ1 h1
 |.ct ρ1 h1=>.ct ρ1 h1
 |.exc v h1=>.exc v h1
 |.bad=>.bad
noncomputable def eY{α:Type}(f:Res α)(k:α->Y3->SR):SR:=match f with
 |.ok v h=>k v h
 |.exc e h=>.exc e h
 |.bad=>.bad
def df(f:Res PV)(k:PV->Y3->SR):SR:=eY f k
def FX(f:Res Bool)(k:Bool->Y3->SR):SR:=eY f k
def Fm(f:Res Y2)(k:Y2->Y3->SR):SR:=eY f k
noncomputable def aN(f:Ex):Sx:=fun ρ h=>df (f ρ h) fun v h1=>.rt v h1
def bS(f:Ex):Sx:=fun ρ h=>df (f ρ h) fun _ h1=>.nx ρ h1
def G4(t:Tx)(f g:Sx):Sx:=fun ρ h=>FX (t ρ h) fun b h1=>if b=true then f ρ h1 else g ρ h1
def aA(i:Nat)(f:Ex):Sx:=fun ρ h=>df (f ρ h) fun v h1=>.nx (ρ.set i (some v)) h1
noncomputable def sJ:Sx:=fun _ _=>.bad
abbrev Gx:=PV->Ev->Option Ev
noncomputable def z7(i:Nat):Gx:=fun p ρ=>some (ρ.set i (some p))
abbrev VR:=Y2->Ev->Option Ev
noncomputable def gK:VR:=fun ps ρ=>match ps with
 |[]=>some ρ
 |_=>none
noncomputable def bI(g:Gx)(gs:VR):VR:=fun ps ρ=>match ps with
 |p::r=>match g p ρ with
  |some ρ1=>gs r ρ1
  |none=>none
 |_=>none
noncomputable def Ui(n:Nat)(gs:VR):Gx:=fun p ρ=>match p with
 |.tup ps=>if ps.length=n then gs ps ρ else none
 |_=>none
def pK(g:Gx)(f:Ex):Sx:=fun ρ h=>df (f ρ h) fun v h1=>match g v ρ with
 |some ρ'=>.nx ρ' h1
 |none=>.bad
abbrev RZ(X:Cx)(w w':Wo):Prop:=K8 X.fs X.W w w'
def bp(X:Cx)(w:Wo)(Q:Flow->Shared->Prop)(E:Yf):SR->Prop
 |.nx ρ h=>X.Ep E/\∀w',RZ X w w'->Inv X w' ρ h->Q .next w'.s
 |.bk ρ h=>X.Ep E/\∀w',RZ X w w'->Inv X w' ρ h->Q .brk w'.s
 |.ct ρ h=>X.Ep E/\∀w',RZ X w w'->Inv X w' ρ h->Q .cont w'.s
 |.rt v h=>X.Ep E/\∀w' u ρ,RZ X w w'->Inv X w' ρ h->aP X.toSC w'.F w'.m v u->Q (.ret u) w'.s
 |.exc e h=>X.Ep E/\∀w' u ρ,RZ X w w'->Inv X w' ρ h->mM X w w' e u->E u w'.s
 |.bad=>False
structure RS(X:Cx)(st:Stmt)(f:Sx):Prop where
 r:∀{w:Wo}{ρ:Ev}{h:Y3}{Q:Flow->Shared->Prop}{E:Yf},Inv X w ρ h->bp X w Q E (f ρ h)->Wp X (exec st X.env) Q E w.s
structure Tw(X:Cx)(st:List Stmt)(f:Sx):Prop where
 r:∀{w:Wo}{ρ:Ev}{h:Y3}{Q:Flow->Shared->Prop}{E:Yf},Inv X w ρ h->bp X w Q E (f ρ h)->Wp X (execs st X.env) Q E w.s
structure RG(X:Cx)(tg:Expr)(g:Gx):Prop where
 r:∀{w:Wo}{ρ ρ':Ev}{h:Y3}{p:PV}{u:Value}{Q:Unit->Shared->Prop}{E:Yf},Inv X w ρ h->aP X.toSC w.F w.m p u->g p ρ=some ρ'->(∀w',RZ X w w'->Inv X w' ρ' h->Q () w'.s)->Wp X (assign tg X.env u) Q E w.s
section
variable{w:Wo}{a:Expr}{ta:Tx}{pos':Pos}{i:Nat}{Q:Flow->Shared->Prop}{st:Stmt}{Xv Wm:List Stmt}{f g:Sx}
def Nw.s(y:Nw X w w1 h1):RZ X w w1:=y.1.weak fun _ z=>z.elim
def bp.ep{r:SR}(p:bp X w Q E r):X.Ep E:=by cases r<;>first|exact p.1|exact p.elim
theorem bp.step{r:SR}(p:bp X w Q E r)(x:RZ X w w1):bp X w1 Q E r:=match r with
 |.nx _ _=>⟨p.1,fun w' y=>p.2 w' (x.trans y)⟩
 |.bk _ _=>⟨p.1,fun w' y=>p.2 w' (x.trans y)⟩
 |.ct _ _=>⟨p.1,fun w' y=>p.2 w' (x.trans y)⟩
 |.rt _ _=>⟨p.1,fun w' u ρ y=>p.2 w' u ρ (x.trans y)⟩
 |.exc _ _=>⟨p.1,fun w' u ρ y I r=>p.2 w' u ρ (x.trans y) I (r.back x)⟩
 |.bad=>p
theorem bp.e0{β:Type}{R:Wo->α->β->Prop}{r:Res α}{k:α->Y3->SR}{G:β->Shared->Prop}(p:bp X w Q E (eY r k))(I:Inv X w ρ h)(c:∀w1 h1 a x,Nw X w w1 h1->Inv X w1 ρ h1->R w1 a x->bp X w Q E (k a h1)->G x w1.s):bu X R w G E r:=match r with
 |.ok a h=>⟨p.ep,fun w' x y q=>c w' h a x y (I.on y) q p⟩
 |.exc _ _=>⟨p.1,fun w' u y r=>p.2 w' u ρ y.s (I.on y) r⟩
 |.bad=>p
def bp.e{β:Type}{R:Wo->α->β->Prop}{r:Res α}{k:α->Y3->SR}{G:β->Shared->Prop}(p:bp X w Q E (eY r k))(I:Inv X w ρ h)(c:∀w1 h1 a x,Nw X w w1 h1->Inv X w1 ρ h1->R w1 a x->bp X w1 Q E (k a h1)->G x w1.s):bu X R w G E r:=p.e0 I fun w1 h1 a x y I r p=>c w1 h1 a x y I r (p.step y.s)
def bp.here(p:bp X w Q E (.nx ρ h))(I:Inv X w ρ h):Q .next w.s:=p.2 w .refl I
def Inv.store{Q:Unit->Shared->Prop}(I:Inv X w ρ h)(hi:X.N[i]? =some x)(hx:X.env.kindOf x=some .local\/(X.env.kindOf x=some .cell/\X.fn x=true))(r:aP X.toSC w.F w.m p u)(q:∀w',RZ X w w'->Inv X w' (ρ.set i (some p)) h->Q () w'.s):Wp X (storeName X.env x u) Q E w.s:=by
 obtain⟨m,o,n,hl,l⟩:=I.loc;have Wc:i<ρ.length:=by rw[I.ln];exact(adv.mp hi).1
 have go:∀{a:Addr}{s':Shared}(oa Xz:Obj),Has w a oa->X.W a->Heap.SameBut a w.s.heap s'.heap->s'.heap.get? a=some Xz->s'.os=w.s.os->s'.gens=w.s.gens->(∀vs,Xz.data≠.fields vs)->
   (∃m',s'.heap.Ns X.L m'/\∀(j:Nat)(y:Str)(v:Value),X.N[j]? =some y->if j=i then vF X.env s'.heap m' y u else vF X.env w.s.heap m y v->vF X.env s'.heap m' y v)->(∀y c,X.env.cells.lookup y=some c->∃v,s'.heap.IsCell c v)->Q () s':=by
  intro a s' oa Xz ha wa sb ea eo eg ed ⟨m',n',lk⟩ cl;have on:∀b o,b≠a->w.s.heap.get? b=some o->s'.heap.get? b=some o:=fun b o z e=>(sb.2 b z).trans e
  have hs:∀b o,Has w b o->∃o',Has { w with s:=s' } b o'/\(b≠a->o'=o)/\(b=a->o'=Xz):=fun b o q=>by
   by_cases z:b=a
   .subst z;exact⟨Xz,⟨ea,q.2⟩,fun z=>absurd rfl z,fun _=>rfl⟩
   .exact⟨o,⟨on b o z q.1,q.2⟩,fun _=>rfl,fun z'=>absurd z' z⟩
  have st:RZ X w { w with s:=s' }:=⟨eo,fun q=>eg▸q,fun _ _ e=>e,fun _ _ e=>e,⟨[],by simp⟩,fun b o e=>by
   by_cases z:b=a
   .subst z;exact⟨_,ea⟩
   .exact⟨o,on b o z e⟩,fun b o q nw=>⟨o.slots,⟨on b o (fun z=>nw (z▸wa)) q.1,q.2⟩,.inr rfl⟩⟩
  refine q { w with s:=s' } st ⟨I.toWd.on st (fun b hb z=>?_) (I.toHR.on fun b o e z=>on b o ?_ e),I.ok,?_,fun y c e=>?_,by simp[I.ln]⟩
  .obtain⟨o,q,d⟩:=I.fr b hb;obtain⟨o',q',z1,z2⟩:=hs b o q;refine⟨o',q',?_⟩
   by_cases z:b=a
   .rw[z2 z];exact ed
   .rw[z1 z];exact d
  .rintro rfl
   exact z ha.2
  .obtain⟨o',q',_⟩:=hs _ _ hl;refine⟨m',o',n',q',fun j p' e=>?_⟩
   by_cases z:j=i
   .subst z;rw[afr Wc]at e
    cases e
    have:=lk j x u hi;rw[if_pos rfl]at this;exact⟨x,u,hi,r,this⟩
   .rw[aeQ (afW z)]at e;obtain⟨y,v,e1,r',l'⟩:=l j p' e;have:=lk j y v e1;rw[if_neg z]at this;exact⟨y,v,e1,r',this l'⟩
  .obtain⟨v,o,_,q⟩:=I.T_ y c e;obtain⟨o',q',_⟩:=hs c o q;obtain⟨v',z⟩:=cl y c e;exact⟨v',o',z,q'⟩
 have nx:∀j y,X.N[j]? =some y->j≠i->y≠x:=fun j y e z q=>z (by subst q;obtain⟨h1,e1⟩:=adv.mp e;obtain⟨h2,e2⟩:=adv.mp hi;exact(aeH I.ok.nd).mp (e1.trans e2.symm))
 have cne:∀y c,X.env.cells.lookup y=some c->c≠X.L:=fun y c e z=>by obtain⟨v,o,⟨o',ho,hd⟩,_⟩:=I.T_ y c e;obtain⟨o2,es,ep,XM,Vt,_⟩:=n;rw[z,XM]at ho;cases ho;rw[Vt]at hd;cases hd
 have Z8:(X.env.scope.kind==.class||(X.env.scope.kind==.module&&X.env.locals !=X.env.globals))=false:=by rw[I.ok.kind];rfl
 rcases hx with hk|⟨hk,hf⟩
 .refine wpAny_storeName_local hk n (fun h' n' hs=>?_) Z8;obtain⟨o',es,ep,e',d',_⟩:=id n';refine go o o' hl (.inl rfl) hs e' rfl rfl (fun vs z=>by rw[d']at z;cases z) ⟨_,n',fun j y v e=>?_⟩ fun y c e=>let⟨v,_,z,_⟩:=I.T_ y c e;⟨v,z.sameBut hs (cne y c e)⟩
  split
  .rename_i z;subst z;cases e.symm.trans hi;exact .inl ⟨hk,by simp⟩
  .rename_i z
   rintro(⟨k,e'⟩|⟨k,c,e',q'⟩)
   .exact .inl ⟨k,by simp[nx j y e z,e']⟩
   .exact .inr ⟨k,c,e',q'.sameBut hs (cne y c e')⟩
 .obtain⟨c,hc⟩:=I.ok.has x (.inl hk);obtain⟨v0,oc,z0,hcc⟩:=I.T_ x c hc;refine wpAny_storeName_cell I.ok.kind hk hc z0 (fun h' Xe hs=>?_);obtain⟨o',e',d'⟩:=id Xe;refine go (s':={ w.s with heap:=h' }) oc o' hcc (.inr ⟨x,hf,hc⟩) hs e' rfl rfl (fun vs z=>by rw[d']at z;cases z) ⟨m,n.sameBut hs (afW (cne x c hc)),fun j y v e=>?_⟩ fun y d e=>?_
  .split
   .rename_i z;subst z;cases e.symm.trans hi;exact .inr ⟨.inl hk,c,hc,Xe⟩
   .rename_i z
    rintro(l|⟨k,d,e',q'⟩)
    .exact .inl l
    .exact .inr ⟨k,d,e',q'.sameBut hs fun q=>nx j y e z (I.ok.inj y x c (q▸e') hc)⟩
  .by_cases z:d=c
   .subst z;exact⟨_,Xe⟩
   .obtain⟨v,_,q',_⟩:=I.T_ y d e;exact⟨v,q'.sameBut hs z⟩
end
noncomputable def bf(g:Gx)(body:Sx):Y2->Sx
 |[],ρ,h=>.nx ρ h
 |p::r,ρ,h=>match g p ρ with
  |some ρ1=>match body ρ1 h with
   |.nx ρ2 h2=>bf g body r ρ2 h2
   |.ct ρ2 h2=>bf g body r ρ2 h2
   |.bk ρ2 h2=>.nx ρ2 h2
   |.rt v h2=>.rt v h2
   |.exc v h2=>.exc v h2
   |.bad=>.bad
  |none=>.bad
def fS(it:Ax)(g:Gx)(body:Sx):Sx:=fun ρ h=>Fm (it ρ h) fun xs h1=>bf g body xs ρ h1
section
variable{w:Wo}{a c:Expr}{ta:Tx}{pos':Pos}{i:Nat}{Q:Flow->Shared->Prop}{st:Stmt}{Xv Wm:List Stmt}{f g:Sx}
def Inv.quiet(I:Inv X w ρ h):interactive X.env=false:=by simp[interactive,I.ok.kind]
def CU:Tw X [] bv:=⟨fun I p=>aew (p.here I)⟩
def Ay(ha:RS X st f)(hb:Tw X Xv g):Tw X (st::Xv) (au f g):=⟨fun{w ρ h Q E} I p=>afc (ha.r I (by
 unfold au at p
 split at p<;>rename_i e<;>rw[e]
 .exact⟨p.ep,fun w' y I'=>hb.r I' (p.step y)⟩
 all_goals exact p))⟩
def xI(ha:RS X st f):Tw X [st] f:=⟨fun{w ρ h Q E} I p=>afc (ha.r I (by
 cases e:f ρ h<;>rw[e]at p
 .exact⟨p.1,fun w' y I'=>aew (p.2 w' y I')⟩
 all_goals exact p))⟩
def AA:RS X st sJ:=⟨fun _ p=>p.elim⟩
def GA(ha:RE X a fa):RS X (.Return (some a) pos) (aN fa):=⟨fun{w ρ h Q E} I p=>wpAny_Return_some (ha.r I (bp.e p I fun _ _ _ _ _ I r p=>p.2 _ _ ρ .refl I r))⟩
def Dc(ha:RE X a fa)(hs:swapsWith a none pos.line X.env=pure false:=by rfl):RS X (.Expr a pos) (bS fa):=⟨fun I p=>wpAny_Expr_any (ha.r I (bp.e p I fun _ _ _ _ _ I r p=>p.here I)) I.quiet hs⟩
def Jf(hc:RT X c ta)(ha:Tw X Xv f)(hb:Tw X Wm g):RS X (.If c Xv Wm pos) (G4 ta f g):=⟨fun I p=>wpAny_If (hc.r I (bp.e p I fun _ _ b _ _ I r p=>by
 subst r
 cases b
 .exact hb.r I p
 .exact ha.r I p))⟩
def Gz(hi:X.N[i]? =some x:=by rfl)(hx:X.env.kindOf x=some .local\/(X.env.kindOf x=some .cell/\X.fn x=true):=by first|exact .inl rfl|exact .inr ⟨rfl,rfl⟩)(ha:RE X a fa)(hs:swapsWith a (some (.Name x pos')) pos.line X.env=pure false:=by rfl):RS X (.Assign [.Name x pos'] a pos) (aA i fa):=
 ⟨fun I p=>aho (ha.r I (bp.e p I fun _ _ _ _ _ I r p=>I.store hi hx r fun w' y I'=>p.2 w' y I')) hs⟩
def lZ(hi:X.N[i]? =some x:=by rfl)(hx:X.env.kindOf x=some .local\/(X.env.kindOf x=some .cell/\X.fn x=true):=by first|exact .inl rfl|exact .inr ⟨rfl,rfl⟩):RG X (.Name x pos) (z7 i):=⟨fun I r e q=>by cases e;exact agh (I.store hi hx r q)⟩
structure Xl(X:Cx)(tg:List Expr)(g:VR):Prop where
 r:∀{w:Wo}{ρ ρ':Ev}{h:Y3}{p:Y2}{u:Z3}{Q:Unit->Shared->Prop}{E:Yf},Inv X w ρ h->ay X.toSC w.F w.m p u->g p ρ=some ρ'->(∀w',RZ X w w'->Inv X w' ρ' h->Q () w'.s)->Wp X (assignInOrder ((assignEach tg X.env).map (·.2)) u) Q E w.s
def Dk:Xl X [] gK:=⟨fun I r e q=>by
 unfold gK at e
 split at e<;>cases e
 cases r
 exact assignInOrder_nil (q _ .refl I)⟩
def AF{e:Expr}{g:Gx}{gs:VR}(h1:RG X e g)(h2:Xl X es gs)(hs:(assignEach (e::es) X.env).map (·.2)=assign e X.env::(assignEach es X.env).map (·.2):=by rfl):Xl X (e::es) (bI g gs):=⟨fun I r e q=>by
 unfold bI at e
 split at e
 .split at e
  .rename_i e1
   cases r with
   |cons r t=>rw[hs];exact assignInOrder_cons (h1.r I r e1 fun w' y I'=>h2.r I' (y.reps t) e fun w2 y2=>q w2 (y.trans y2))
  .cases e
 .cases e⟩
def GG{gs:VR}(hc:X.calm=true)(h:Xl X es gs)(hn:(assignEach es X.env).length=n:=by rfl)(R9:(assignEach es X.env).findIdx? (·.1)=none:=by rfl):RG X (.Tuple es k pos) (Ui n gs):=⟨fun{w ρ ρ' h p u Q E} I r e q=>by
 unfold Ui at e
 split at e
 .split at e
  .replace r:=I.sq r rfl
   obtain⟨a,j6,rfl,y,z,r⟩:=r;refine assign_Tuple_tuple (I.ok.hd hc) y.tup (by rw[<- r.len,hn];exact Eq.symm ‹_›) R9 fun h' hx=>?_;have n:=Nw.also (X:=X) (s':={ w.s with heap:=h' }) I.toHR fun b o e=>hx b o (aeF (ad2 e)) e;exact ‹Xl X es gs›.r (I.on n) r e fun w2 y2=>q w2 (n.s.trans y2)
  .cases e
 .cases e⟩
def GD{g:Gx}(hg:RG X tg g)(ha:RE X a fa)(hs:swapsWithSole [tg] a pos.line X.env=pure false:=by rfl)(hw:swappedStores [tg] a X.env=pure none:=by rfl)(h1:(assignEach [tg] X.env).map (·.2)=[assign tg X.env]:=by rfl):RS X (.Assign [tg] a pos) (pK g fa):=⟨fun I p=>wpAny_Assign_stores (ha.r I (bp.e p I fun _ _ _ _ _ I r p=>by
 rw[h1]
 split at p
 .exact hg.r I r ‹_› fun w' y I'=>p.2 w' y I'
 .exact p.elim)) hs hw⟩
end
def T5(w w':Wo):Prop:=(∀a o,w.F a=some o->w'.F a=some o)/\Sub w.m w'.m
def K8.lat{fs:Zs}{W:Addr->Prop}{w w':Wo}(x:K8 fs W w w'):T5 w w':=⟨x.fz,x.sub⟩
def T5.trans{w:Wo}(x:T5 w w1)(y:T5 w1 w2):T5 w w2:=⟨fun a o e=>y.1 a o (x.1 a o e),fun i a e=>y.2 i a (x.2 i a e)⟩
structure Pv(fp:Zs)(w w':Wo):Prop where
 os:w'.s.os=w.s.os
 ba:AllBare w.s.gens->AllBare w'.s.gens
 fz:∀a o,w.F a=some o->w'.F a=some o
 ow:∀d a,w.O d=some a->w'.O d=some a
 pre:∃t,w'.m=w.m++t
 dom:∀b o,b∉fp->w.s.heap.get? b=some o->∃o',w'.s.heap.get? b=some o'
 keep:∀b o,b∉fp->Has w b o->Has w' b o
def Pv.sub{fp:Zs}{w:Wo}(x:Pv fp w w1):Sub w.m w1.m:=fun i a e=>by obtain⟨t,z⟩:=x.pre;rw[z,adC (adv.mp e).1];exact e
structure CD(G:SC)(w0:Wo)(tg:Expr)(xs:Y2)(it:Addr)(fp:Zs)(tn:Nat->Heap->Prop):Prop where
 keep:∀{i:Nat}{w1 w2:Wo}{h1 h2:Y3},T5 w0 w1->HR G w1 h1->T5 w1 w2->HR G w2 h2->tn i w1.s.heap->(∀b∈fp,∀o,w1.s.heap.get? b=some o->w2.s.heap.get? b=some o)->tn i w2.s.heap
 item:∀{A:Around}{w:Wo}{h:Y3}{i:Nat}{p:PV}{Q:Yf}{E:Yf},A.handled=none->T5 w0 w->HR G w h->tn i w.s.heap->xs[i]? =some p->(∀b∈fp,∃o,Has w b o)->
  (∀u w',Pv fp w w'->HR G w' h->tn (i+1) w'.s.heap->(∀b∈fp,∃o,Has w' b o)->aP G w'.F w'.m p u->Q u w'.s)->
  wpAny (model G.prog G.w) A (pyNext (.ref it)) (fun r s=>∃u,r=some u/\wpAny (model G.prog G.w) A (letOwnedTupleGo tg (.ref it) u) (fun _ s=>Q u s) E s) E w.s
 done:∀{A:Around}{w:Wo}{h:Y3}{i:Nat}{Q:Shared->Prop}{E:Yf},A.handled=none->T5 w0 w->HR G w h->tn i w.s.heap->xs.length=i->(∀b∈fp,∃o,Has w b o)->
  (∀w',Pv fp w w'->HR G w' h->Q w'.s)->wpAny (model G.prog G.w) A (pyNext (.ref it)) (fun r s=>r=none/\Q s) E w.s
 self:∀{A:Around}{i:Nat}{s:Shared}{Q:Yf}{E:Yf},A.handled=none->tn i s.heap->Q (.ref it) s->wpAny (model G.prog G.w) A (pyIter (.ref it)) Q E s
def Vc(X:Cx)(b:Addr):Prop:=b≠X.L/\b∉X.fs/\∀x c,X.env.cells.lookup x=some c->c≠b
def Vc.w(n:Vc X b):¬ X.W b:=fun z=>z.elim n.1 (by rintro ⟨x,_,e⟩;exact n.2.2 x b e rfl)
def Inv.out{w:Wo}(I:Inv X w ρ h)(n:w.s.heap.get? b=none):Vc X b:=by
 have k:∀{c o},Has w c o->b≠c:=fun q z=>by have q:=q.1;rw[<- z,n]at q;cases q
 obtain⟨_,_,_,q,_⟩:=I.loc;exact⟨k q,fun z=>let⟨_,q,_⟩:=I.fr b z;k q rfl,fun x c e=>let⟨_,_,_,q⟩:=I.T_ x c e;afW (k q)⟩
def Ul(X:Cx)(tg:Expr)(w0 w:Wo)(xs:Y2)(v:Value):Prop:=∃it fp tn,v=.ref it/\CD X.toSC w tg xs it fp tn/\tn 0 w.s.heap/\∀b∈fp,(∃o,Has w b o)/\Vc X b/\w0.s.heap.get? b=none
structure RI(X:Cx)(tg iter:Expr)(f:Ax):Prop where
 r:∀{w:Wo}{ρ:Ev}{h:Y3}{Q:Yf}{E:Yf},Inv X w ρ h->bu X (Ul X tg w) w Q E (f ρ h)->Wp X (eval iter X.env) (fun v s=>Wp X (pyIter v) Q E s) E w.s
section
variable{w:Wo}{it:Ax}{g:Gx}{body:List Stmt}{f:Sx}
def Inv.priv{fp:Zs}(I:Inv X w ρ h)(x:Pv fp w w1)(H:HR X.toSC w1 h1)(n:∀b∈fp,Vc X b):Inv X w1 ρ h1:=by
 obtain⟨m,o,n1,hl,q⟩:=I.loc;have k:=x.keep;have cl:∀x c,X.env.cells.lookup x=some c->c∉fp:=fun x c e z=>(n c z).2.2 x c e rfl;have ck:∀x c,X.env.cells.lookup x=some c->∀v,w.s.heap.IsCell c v->w1.s.heap.IsCell c v:=(by rintro y c e v ⟨o,q,d⟩;exact (let⟨_,o',⟨_,_,_⟩,hc⟩:=I.T_ y c e;⟨o,(k c o (cl y c e) ⟨q,hc.2⟩).1,d⟩))
 have hL:X.L∉fp:=fun z=>(n _ z).1 rfl;refine⟨⟨H,x.ba I.ba,fun b o e=>x.fz _ _ (I.bs b o e),fun b hb=>let⟨o,q,d⟩:=I.fr b hb;⟨o,k b o (fun z=>(n b z).2.1 hb) q,d⟩⟩,I.ok,⟨m,o,?_,k _ _ hL hl,fun i p e=>?_⟩,fun y c e=>?_,I.ln⟩
 .obtain⟨o',es,ep,e,r⟩:=n1;exact⟨o',es,ep,(k _ _ hL ⟨e,hl.2⟩).1,r⟩
 .obtain⟨y,u,e1,r,l⟩:=q i p e;exact⟨y,u,e1,r.mono x.fz (.inr x.sub),l.imp_right (by rintro ⟨k,c,e,z⟩;exact ⟨k,c,e,ck y c e _ z⟩)⟩
 .obtain⟨v,o,z,hc⟩:=I.T_ y c e;exact⟨v,o,ck y c e v z,k c o (cl y c e) hc⟩
def K8.priv{fp fs:Zs}{W:Addr->Prop}(x:K8 fs W w0 w)(y:Pv fp w w1)(n:∀b∈fp,w0.s.heap.get? b=none):K8 fs W w0 w1:=
 have k:∀{b o},w0.s.heap.get? b=some o->b∉fp:=fun e z=>by rw[n _ z]at e;cases e
 ⟨y.os.trans x.os,y.ba∘x.ba,fun a o e=>y.fz a o (x.fz a o e),fun a o e=>y.ow a o (x.ow a o e),let⟨t,e⟩:=x.pre;let⟨u,e'⟩:=y.pre;⟨t++u,by rw[e',e,adN]⟩,fun b o e=>let⟨o',q⟩:=x.dom b o e;y.dom b o' (k e) q,fun b o q z=>let⟨sl,q1,z1⟩:=x.keep b o q z;⟨sl,y.keep b _ (k q.1) q1,z1⟩⟩
inductive Lq0(X:Cx)(w0 w:Wo)(tn:Nat->Heap->Prop)(fp:Zs)(xs:Y2)(Q:Flow->Shared->Prop)(E:Yf)(g:Gx)(f:Sx)(n:Nat)(s:Shared):Prop where
 |mk (w1:Wo) (ρ1:Ev) (h1:Y3) (ys:Y2) (_:w1.s=s) (_:RZ X w0 w1) (_:T5 w w1) (_:Inv X w1 ρ1 h1) (_:ys.length=n) (_:ys=xs.drop (xs.length - n)) (_:n<=xs.length) (_:tn (xs.length - n) w1.s.heap) (_:(∀b∈fp,∃o,Has w1 b o)) (_:bp X w0 Q E (bf g f ys ρ1 h1))
def GB(hp:∀E,X.Ep E->PassesOwn X.M X.A X.env E)(hc:X.calm=true)(hi:RI X tg iter it)(hg:RG X tg g)(hb:Tw X body f)(hs:∀x,foldedSetIterable iter X.env x=pure x:=by intro _;rfl):RS X (.For tg iter body [] pos) (fS it g f) where
 r {w0 ρ h Q E} I0 p:=by
  have hp:=hp E p.ep;refine wpAny_For (hi.r I0 (bp.e0 p I0 fun w h1 xs v y0 I r p=>?_)) hs;obtain⟨it,fp,tn,rfl,T,t0,fr⟩:=r;have no:=fun b hb=>(fr b hb).2.1;have nf:=fun b hb=>(fr b hb).2.2;refine ag1 (Lq0 X w0 w tn fp xs Q E g f) ?_ xs.length ⟨w,ρ,h1,xs,rfl,y0.s,(K8.refl (fs:=[]) (W:=Tg)).lat,I,rfl,by simp,adA _,by simpa using t0,fun b hb=>(fr b hb).1,p⟩
  rintro n s ⟨w1,ρ1,h1,ys,rfl,y1,l1,I1,ln,dr,le,t1,f1,p1⟩
  cases ys with
  |nil=>
   cases ln
   exact aeZ hp (ad8 (T.done (I1.ok.hd hc) l1 I1.toHR t1 (by simp) f1 (Q:=fun s=>wpAny X.M X.A (execs [] X.env) Q (notedBy X.M X.A X.env (cameBackBy X.M X.A X.env E)) s) fun w2 y2 H2=>aew (p1.2 w2 (y1.priv y2 nf) (I1.priv y2 H2 no))) (fun r s q=>by obtain⟨rfl,q⟩:=q;exact q) fun _ _ z=>z)
  |cons q ys=>
   have ln':ys.length+1=n:=ln;have eq:xs[xs.length - n]? =some q:=by rw[<- afM,<- dr];rfl
   unfold bf at p1
   split at p1
   .rename_i ρ2 e2;refine ad8 (T.item (I1.ok.hd hc) l1 I1.toHR t1 eq f1 (Q:=fun u s=>wpAny (model X.prog X.w) X.A (assign tg X.env u) ?R ?N s) ?c) (fun r s q=>by obtain⟨u,rfl,q⟩:=q;exact q) fun _ _ z=>z;intro u w2 y2 H2 t2 f2 r2;refine aeZ hp (hg.r (I1.priv y2 H2 no) r2 e2 fun w3 y3 I3=>aeZ hp (hb.r I3 ?_));have Xn:=(y1.priv y2 nf).trans y3;have l2:T5 w w2:=l1.trans ⟨y2.fz,y2.sub⟩
    have t3:∀w4 h4,HR X.toSC w4 h4->RZ X w3 w4->tn (xs.length - ys.length) w4.s.heap/\∀b∈fp,∃o,Has w4 b o:=fun w4 h4 H4 y4=>by
     have k:∀b∈fp,∀o,Has w2 b o->Has w4 b o:=fun b hb o q=>by
      obtain⟨sl,q',z⟩:=(y3.trans y4).keep b o q (no b hb).w;rcases z with z|rfl
      .exact absurd z (no b hb).2.1
      .exact q'
     refine⟨?_,fun b hb=>let⟨o,q⟩:=f2 b hb;⟨o,k b hb o q⟩⟩;rw[show xs.length - ys.length=xs.length - n+1 by lia];exact T.keep l2 H2 (y3.trans y4).lat H4 t2 fun b hb o e=>let⟨o',q⟩:=f2 b hb;(k b hb o ⟨e,q.2⟩).1
    have dy:ys=xs.drop (xs.length - ys.length):=by rw[show xs.length - ys.length=xs.length - n+1 by lia,<- af7,<- dr];rfl
    have go:∀ ρ4 h4,bp X w0 Q E (bf g f ys ρ4 h4)->∀w4,RZ X w3 w4->Inv X w4 ρ4 h4->∃m,m<n/\Lq0 X w0 w tn fp xs Q E g f m w4.s:=fun ρ4 h4 p4 w4 y4 I4=>⟨ys.length,by lia,w4,ρ4,h4,ys,rfl,Xn.trans y4,l2.trans (y3.trans y4).lat,I4,rfl,dy,by lia,(t3 w4 h4 I4.toHR y4).1,(t3 w4 h4 I4.toHR y4).2,p4⟩
    split at p1<;>rename_i e3<;>rw[e3]
    .exact⟨p1.ep,go _ _ p1⟩
    .exact⟨p1.ep,go _ _ p1⟩
    all_goals exact p1.step Xn
   .exact p1.elim
end
noncomputable def ei(h:Y3):PV->Option (PV×Y3)
 |.ref i=>match h[i]? with
  |some (.lst xs)=>if aq xs=true then some (.lst xs,h.set i (.s8 (.lst xs)))else none
  |some (.dct _)=>none
  |some (.s8 p)=>some (p,h)
  |some (.obj _ _)=>none
  |none=>none
 |p=>if p.pure=true then some (p,h)else none
def bA(f:Ax):Ax:=fun ρ h=>(f ρ h).bind fun ps h1=>match ps with
 |[.int j]=>if QW 4611686018427387904 j=true then .ok ((List.range j.toNat).map fun i=>PV.int (0+(i:Nat))) h1 else .bad
 |_=>.bad
def lV(p:PV)(h:Y3):Res Y2:=match p with
 |.str l=>.ok (l.map fun c=>PV.str [c]) h
 |.tup xs=>.ok xs h
 |.lst xs=>.ok xs h
 |.Uh xs=>.ok xs h
 |p=>match ei h p with
  |some (.lst xs,h2)=>.ok xs h2
  |_=>.bad
def iV(f:Ex):Ax:=fun ρ h=>(f ρ h).bind lV
noncomputable def eZ:PK->PV
 |.inl i=>.int i
 |.inr l=>.str l
def lw(p:PV)(h:Y3):Res Y2:=match p with
 |.dct H8=>.ok (H8.map fun p=>eZ p.1) h
 |p=>lV p h
def rY(f:Ex):Ax:=fun ρ h=>(f ρ h).bind lw
section
variable{w:Wo}{p0:Pos}{a:Expr}{it:Addr}{xs:Y2}
def jz(H:HR G w h)(q:Has w it o)(k:∀b o,b≠it->w.s.heap.get? b=some o->s'.heap.get? b=some o)(ho:s'.os=w.s.os:=by rfl)(hg:s'.gens=w.s.gens:=by rfl):Pv [it] w { w with s:=s' }/\HR G { w with s:=s' } h:=
 ⟨⟨ho,fun q=>hg▸q,fun _ _ e=>e,fun _ _ e=>e,⟨[],by simp⟩,fun b o n e=>⟨o,k b o (by simpa using n) e⟩,fun b o n q=>⟨k b o (by simpa using n) q.1,q.2⟩⟩,H.on fun b o e' z=>k b o (by rintro rfl;exact z q.2) e'⟩
theorem Ul.new{tn:Nat->Heap->Prop}{tk:Nat}(I:Inv X w ρ h)(y:K8 X.fs Tg w0 w)(T:CD X.toSC w tg xs w.s.heap.objs.size [w.s.heap.objs.size] tn)(t:tn 0 (w.s.heap.push o))(ho:o.isFreed=false)(p:bu X (Ul X tg w0) w Q E (.ok xs h)):Q (.ref w.s.heap.objs.size) { w.s with heap:=w.s.heap.push o,toks:=tk }:=by
 have n:=Nw.also (X:=X) (s':={ w.s with heap:=w.s.heap.push o,toks:=tk }) I.toHR fun b o e=>ady _ e;refine p.2 _ _ n ⟨_,_,tn,rfl,⟨T.keep,T.item,T.done,T.self⟩,t,?_⟩;simp only[adw,forall_eq];refine⟨⟨o,adK _ ho,I.toHR.free (aU _)⟩,I.out (aU _),?_⟩
 cases q:w0.s.heap.get? w.s.heap.objs.size with
 |none=>rfl
 |some o=>obtain⟨o',q'⟩:=y.dom _ _ q;rw[aU]at q';cases q'
def FP{M:Model}{s:Shared}{n:String}{vs:Array Value}{Q:Unit->Shared->Prop}(ho:s.heap.get? it=some o)(hc:o.cls=.type n)(hd:o.data=.fields vs)
    (hn: ["enumerate","zip","dict_itemiterator","dict_reverseitemiterator","odict_iterator","itertools.zip_longest","itertools.pairwise"].contains n=false) (hQ:Q () s):wpAny M A (letOwnedTupleGo tg (.ref it) u) Q E s:=by
  unfold letOwnedTupleGo
  cases tg<;>first
    |exact adB hQ
    |(cases u<;>first
      |exact adB hQ
      |(refine adq (wpAny_load ho ?_)
        rw[hc,hd];show wpAny M A (if(["enumerate","zip","dict_itemiterator","dict_reverseitemiterator","odict_iterator","itertools.zip_longest","itertools.pairwise"].contains n&&vs[0]? ==some (rawInt _))=true then _ else _) Q E s;rw[if_neg (by intro h;rw[hn,Bool.false_and]at h;cases h)];exact adB hQ))
def iP{St:Nat->Heap->Prop}{P:Nat->Value->Prop}{src:Zs}(W:∀A:Around,A.handled=none->Walks G.prog G.w A it (it::src) [it] n P St)(hl:xs.length=n)(fz:∀b∈src,∃o,w.F b=some o)
  (lv:∀i g,St i g->∃o m vs,g.get? it=some o/\o.cls=.type m/\o.data=.fields vs/\ ["enumerate","zip","dict_itemiterator","dict_reverseitemiterator","odict_iterator","itertools.zip_longest","itertools.pairwise"].contains m=false) (hP:∀i p v,xs[i]? =some p->P i v->aP G w.F w.m p v):CD G w tg xs it [it] St where
 keep {i w1 w2 h1 h2} l1 H1 l2 H2 st k:=(W callerA rfl).frame i _ _ st fun b hb o e=>by
  rcases adD.mp hb with rfl|hb
  .exact k b (by simp) o e
  .obtain⟨o',q⟩:=fz b hb;rw[H1.at (l1.1 _ _ q)]at e
   cases e
   exact H2.at (l2.1 _ _ (l1.1 _ _ q))
 item {A w1 h i p Q E} hh y H st hx f q:=by
  obtain⟨o,ho⟩:=f it (by simp);refine(W A hh).item i _ _ _ (by rw[<- hl];exact(adv.mp hx).1) st fun v h' tk hv Wn k=>⟨v,rfl,?_⟩
  obtain⟨o',m,vs,e',c,d,z⟩:=lv _ _ Wn;obtain⟨a1,a2⟩:=jz (s':={ w1.s with heap:=h',toks:=tk }) H ho fun b o hb e=>k b o (by simpa using hb) e;exact FP (s:={ w1.s with heap:=h',toks:=tk }) e' c d z (q v _ a1 a2 Wn (by simp;exact⟨o',e',ho.2⟩) ((hP i p v hx hv).mono y.1 (.inr y.2)))
 done {A w1 h i Q E} hh y H st hx f q:=by
  obtain⟨o,ho⟩:=f it (by simp);subst hl hx;refine(W A hh).done _ _ _ st fun h' tk k=>⟨rfl,?_⟩
  obtain⟨a1,a2⟩:=jz (s':={ w1.s with heap:=h',toks:=tk }) H ho fun b o hb e=>k b o (by simpa using hb) e;exact q _ a1 a2
 self hh st q:=(W _ hh).self _ _ _ _ st q
def HR.fix{i:Nat}{a:Addr}(H:HR X.toSC w h)(e:w.m[i]? =some a)(f:w.F a=none)(e1:w.s.heap.get? a=some o)(rr:aP X.toSC (gD w.F a o) w.m p (.ref a))(pu:p.pure=true):Nw X w ⟨gD w.F a o,w.O,w.m,w.s⟩ (h.set i (.s8 p)):=by
 refine⟨⟨rfl,id,cx f,fun _ _ e=>e,⟨[],by simp⟩,fun b o e=>⟨o,e⟩,fun b o q _=>⟨o.slots,⟨q.1,q.2.1,cT (fun z=>q.2.1 (z▸adF e)) q.2.2.1,q.2.2.2⟩,.inr rfl⟩⟩,fun b x q=>?_,fun d b q=>let⟨o,z,y⟩:=H.own d b q;⟨o,z,cT (fun e'=>z (e'▸adF e)) y⟩,by simp[H.len],H.nd,fun j po b h1 h2=>?_⟩
 .by_cases z:b=a
  .subst z;cases bg.symm.trans q;exact e1
  .exact H.sub b x ((kB z).symm.trans q)
 .by_cases z:j=i
  .subst z
   cases h2.symm.trans e
   rw[afr (H.len▸(adv.mp e).1)]at h1
   cases h1
   exact⟨rr,pu,_,bg⟩
  .rw[aeQ (afW z)]at h1;refine(H.obj j po b h1 h2).on (cx f) (fun _ e=>e) (fun _ _ e=>e) (fun _ _ e _=>e) (cT ?_)
   rintro rfl
   obtain⟨l1,e1⟩:=adv.mp h2;obtain⟨l2,e2⟩:=adv.mp e;exact z ((aeH H.nd).mp (e1.trans e2.symm))
def HR.X8{q:PV}{h':Y3}(H:HR X.toSC w h)(r:aP X.toSC w.F w.m p u)(k:ei h p=some (q,h')):∃F',Nw X w ⟨F',w.O,w.m,w.s⟩ h'/\aP X.toSC F' w.m q u/\q.pure=true:=by
 unfold ei at k
 split at k
 .rename_i i
  cases r with
  |@ref _ a e=>
   cases q0:h[i]? <;>rw[q0]at k<;>try simp only at k
   .cases k
   .rename_i po
    cases po with
    |lst xs=>
     simp only at k
     split at k<;>cases k
     obtain⟨f,j6,n,e1,z,r⟩:=H.obj _ _ _ q0 e;have rr:aP X.toSC (gD w.F a ({ cls:=.type "list",data:=.seq j6 n })) w.m (.lst xs) (.ref a):=.lst bg z (r.mono (cx f) (.inr fun _ _ e=>e));have pu:(PV.lst xs).pure=true:=by simpa[PV.pure]using ‹_›
     exact⟨_,H.fix e f e1 rr pu,rr,pu⟩
    |s8 p=>simp only at k;cases k;obtain⟨r,z,_⟩:=H.obj _ _ _ q0 e;exact⟨w.F,⟨.refl,H⟩,r,z⟩
    |_=>cases k
 .split at k<;>cases k
  exact⟨w.F,⟨.refl,H⟩,r, ‹_›⟩
def Ap(I:Inv X w ρ h)(y:K8 X.fs Tg w0 w)(r:aP X.toSC w.F w.m p v)(k:bu X (Ul X tg w0) w Q E (lV p h)):Wp X (pyIter v) Q E w.s:=by
 have seq:∀{w:Wo}{h:Y3}{xs:Y2}{p:PV}{t:String},Inv X w ρ h->K8 X.fs Tg w0 w->aP X.toSC w.F w.m p v->W5 p=some (t,xs)->bu X (Ul X tg w0) w Q E (.ok xs h)->Wp X (pyIter v) Q E w.s:=by
  intro w h xs p t I y r k q
  have tup:∀{a:Addr}{j6:Array Value}{n:Nat},w.F a=some ({ cls:=.type "tuple",data:=.seq j6 n })->ay X.toSC w.F w.m xs j6.toList->Wp X (pyIter (.ref a)) Q E w.s:=fun{a j6 n} e r=>by
   have ne:a≠w.s.heap.objs.size:=fun z=>by have:=I.toHR.at e;rw[z,aU]at this;cases this
   refine afj (items:=j6) ⟨_,I.toHR.at e,rfl,n,rfl⟩ (Ul.new I y (iP (src:=[a]) (fun A hA=>Walks.tuple hA _ a ne j6) r.len (fun b hb=>by simp at hb;exact⟨_,hb▸e⟩) (fun i g st=>let⟨o,e,c,d⟩:=st.1;⟨o,_,_,e,c,d,by decide⟩) fun i p v e h=>?_) ⟨⟨_,adK _ rfl,rfl,rfl⟩,⟨_,ady _ (I.toHR.at e),rfl,n,rfl⟩⟩ rfl q);obtain⟨u,e',r'⟩:=r.get e;rw[show j6[i]? =some u by simpa using e']at h
   cases h;exact r'
  have lst:∀{a:Addr}{j6:Array Value}{n:Nat},w.F a=some ({ cls:=.type "list",data:=.seq j6 n })->ay X.toSC w.F w.m xs j6.toList->Wp X (pyIter (.ref a)) Q E w.s:=fun{a j6 n} e r=>by
   have ne:a≠w.s.heap.objs.size:=fun z=>by have:=I.toHR.at e;rw[z,aU]at this;cases this
   refine afo (items:=j6) ⟨_,I.toHR.at e,rfl,n,rfl⟩ (Ul.new I y (iP (src:=[a]) (fun A hA=>ahh hA _ a ne j6) r.len (fun b hb=>by simp at hb;exact⟨_,hb▸e⟩) (fun i g st=>let⟨o,e,c,d⟩:=st.1;⟨o,_,_,e,c,d,by decide⟩) fun i p v e h=>?_) ⟨⟨_,adK _ rfl,rfl,rfl⟩,⟨_,ady _ (I.toHR.at e),rfl,n,rfl⟩⟩ rfl q);obtain⟨u,e',r'⟩:=r.get e;rw[show j6[i]? =some u by simpa using e']at h
   cases h;exact r'
  cases r<;>cases k
  .exact tup ‹_› ‹_›
  .exact lst ‹_› ‹_›
  .exact lst ‹_› ‹_›
 unfold lV at k
 split at k
 .rename_i l;obtain⟨_,rfl⟩:=r.vs
  have hP:∀(i:Nat)(p:PV)(v:Value),(l.map fun c=>PV.str [c])[i]? =some p->SignAt (S l) i v->aP X.toSC w.F w.m p v:=fun i p v e ⟨c,t,e',e''⟩=>by
   rw[adZ,show l[i]? =some c by simpa[S]using e']at e
   cases e;subst e'';exact .str [c] t
  cases ha:(S l).cps.all (· <128)
  .exact wpAny_pyIter_wide ha (Ul.new I y (iP (src:=[]) (fun A hA=>Walks.strWide hA _ _ _) (by simp[S]) (fun b hb=>nomatch hb) ((by rintro i g ⟨o,e,c,d⟩;exact ⟨o,_,_,e,c,d,by decide⟩)) hP) ⟨_,adK _ rfl,rfl,rfl⟩ rfl k)
  .exact wpAny_pyIter_ascii ha (Ul.new I y (iP (src:=[]) (fun A hA=>Walks.strAscii hA _ _ _) (by simp[S]) (fun b hb=>nomatch hb) ((by rintro i g ⟨o,e,c,d⟩;exact ⟨o,_,_,e,c,d,by decide⟩)) hP) ⟨_,adK _ rfl,rfl,rfl⟩ rfl k)
 .exact seq I y r rfl k
 .exact seq I y r rfl k
 .exact seq I y r rfl k
 .split at k
  .rename_i e;obtain⟨F',n,r',_⟩:=I.toHR.X8 r e;exact seq (w:=⟨F',w.O,w.m,w.s⟩) (I.on n) (y.trans n.1) r' rfl (k.step n)
  .exact k.elim
def GF(ha:RE X a fa):RI X tg a (iV fa):=⟨fun I p=>ha.r I (p.bind fun _ _ _ _ y r p=>Ap (I.on y) y.1 r p)⟩
def Di(ha:RE X a fa):RI X tg a (rY fa):=⟨fun I p=>ha.r I (p.bind fun w _ _ _ y r p=>by
 unfold lw at p
 split at p
 .rename_i H8
  cases r with
  |@dct _ a o kvs e d sm z c r=>
   have I:=I.on y;have g:=I.toHR.at e;obtain⟨x,es,ep,d1,d2⟩:=id d;have ne:a≠w.s.heap.objs.size:=fun z=>by rw[z,aU]at g;cases g
   have l:kvs.length=H8.length:=by have:=congrArg List.length c;simpa using this
   refine wpAny_pyIter_dict (knd:=pk X.prog X.w) (kvs:=kvs) (ep:=ep) sm ⟨o,es,g,x,d1,d2⟩ (Ul.new I y.1 (iP (src:=[a]) (fun A hA=>Walks.dictKeys (knd:=pk X.prog X.w) hA _ a ne kvs ep) (by simp[l]) (fun b hb=>by simp at hb;exact⟨_,hb▸e⟩) (fun i g st=>let⟨o,e,c,d⟩:=st.1;⟨o,_,_,e,c,d,by decide⟩) fun i p v e' h=>?_) ⟨⟨_,adK _ rfl,rfl,rfl⟩,⟨o,es,ady _ g,x,d1,d2⟩⟩ rfl p);obtain⟨k,x,e1,e2⟩:=h;have e3:(H8.map (·.1))[i]? =some k:=by rw[<- c,adZ,e1];rfl
   rw[adZ]at e3 e';obtain⟨q,e4,rfl⟩:=aeE.mp e3;rw[e4]at e'
   cases e'
   rcases eH e2 with⟨i,t,z,rfl⟩|⟨x,t,z,rfl⟩<;>(show aP _ _ _ (eZ q.1) _;rw[z])
   .exact .int i t
   .exact .str x t
 .exact Ap (I.on y) y.1 r p)⟩
def yW{e:Expr}{f:Ax}(hg:Gl X "range")(hm:X.mg "range"=none)(ha:RA X [e] f)(hs:starEach [e] X.env= [(false,eval e X.env)]:=by rfl):RI X tg (.Call (.Name "range" p0) [e] [] pos) (bA f):=⟨fun I p=>Call_ (I.blt hg hm boot_range (callWith_type1 (ha.r pos I (p.bind fun w _ ps us y r p=>by
 split at p
 .rename_i j
  split at p
  .rename_i hb;have hb:=bD.mp hb
   cases r with
   |cons r t=>
    cases t;obtain⟨_,rfl⟩:=r.vi
    refine call_range_1 ?_;have n:=Nw.also (X:=X) (s':={ w.s with heap:=w.s.heap.push { cls:=.type "range",data:=.fields #[.int 0 w.s.toks,.int j ‹_›,.int 1 (w.s.toks+1)] },toks:=w.s.toks+1+1 }) y.2 fun b o e=>ady _ e;refine wpAny_pyIter_range (IsRange.new ..) (small_one ⋯ ⋯ ⋯ ⋯) (Ul.new ((I.on y).on n) (y.1.trans n.1) (iP (n:=j.toNat) (src:=[]) (fun A hA=>Walks.range hA _ 0 1 _) (by simp) (fun b hb=>nomatch hb) (fun i g st=>⟨_,_,_,st,rfl,rfl,by decide⟩) fun i p v e h=>?_) ?_ rfl (p.step n))
    .obtain⟨t,rfl⟩:=h;rw[adZ]at e;obtain⟨q,e',rfl⟩:=aeE.mp e;obtain rfl:i=q:=by have:=adv.mp e';simpa using this.2
     rw[Int.mul_one];exact .int _ t
    .show IsRangeIter _ _ (0+((0:Nat):Int) * 1) ((j.toNat:Int) - ((0:Nat):Int)) 1;rw[show(0:Int)+((0:Nat):Int) * 1=0 by simp,show(j.toNat:Int) - ((0:Nat):Int)=Builtin.Range.rangeSize 0 j 1 by rw[rangeSize_one];split<;>lia];exact adK _ rfl
  .exact p.elim
 .exact p.elim)) hs rfl))⟩
end
structure kI(N P:Zl)(sc:Scope):Prop where
 kind:sc.kind=.function
 co:sc.isCoroutine=false
 gen:sc.isGenerator=false
 nd:N.Nodup
 pre:N.take P.length=P
 par:∀x∈P,sc.names.lookup x=some .local\/sc.names.lookup x=some .cell
 Ww:∀y∈sc.names,y.2≠.free
theorem rU{kindOf:Str->Option NameKind}{x:Str}:∀{binds:List (Str×Value)}{m:Str->Option Value},(∀v,(x,v)∉binds)->bindL kindOf binds m x=m x
 |[],_,_=>rfl
 |(n,v)::r,m,h=>by
  unfold bindL;rw[rU fun w hw=>h w (adG _ hw)]
  split
  .have:x≠n:=by rintro rfl;exact h v adO
   simp[this]
  .rfl
theorem rW{kindOf:Str->Option NameKind}{x:Str}:∀{binds:List (Str×Value)}{m:Str->Option Value},(∀v,(x,v)∉binds)->bindC kindOf binds m x=m x
 |[],_,_=>rfl
 |(n,v)::r,m,h=>by
  unfold bindC;rw[rW fun w hw=>h w (adG _ hw)]
  split
  .rfl
  .have:x≠n:=by rintro rfl;exact h v adO
   simp[this]
theorem rV{kindOf:Str->Option NameKind}{x:Str}{v:Value}:∀{P:Zl}{vs:Z3}{i:Nat}{m:Str->Option Value},P.Nodup->P[i]? =some x->vs[i]? =some v->kindOf x=some .local->
  bindL kindOf (P.zip vs) m x=some v
 |[],_,_,_,_,h,_,_=>by simp at h
 |_::_,[],_,_,_,_,h,_=>by simp at h
 |p::P,w::vs,0,m,nd,h1,h2,hk=>by simp at h1 h2;subst h1;subst h2;show bindL kindOf ((p,w)::P.zip vs) m p=_;unfold bindL;rw[rU fun v hv=>(aem.mp nd).1 (agC hv).1,if_pos hk];simp
 |p::P,w::vs,i+1,m,nd,h1,h2,hk=>by show bindL kindOf ((p,w)::P.zip vs) m x=_;unfold bindL;exact rV (i:=i) (aem.mp nd).2 (by simpa using h1) (by simpa using h2) hk
theorem rX{kindOf:Str->Option NameKind}{x:Str}{v:Value}:∀{P:Zl}{vs:Z3}{i:Nat}{m:Str->Option Value},P.Nodup->P[i]? =some x->vs[i]? =some v->kindOf x≠some .local->
  bindC kindOf (P.zip vs) m x=some v
 |[],_,_,_,_,h,_,_=>by simp at h
 |_::_,[],_,_,_,_,h,_=>by simp at h
 |p::P,w::vs,0,m,nd,h1,h2,hk=>by simp at h1 h2;subst h1;subst h2;show bindC kindOf ((p,w)::P.zip vs) m p=_;unfold bindC;rw[rW fun v hv=>(aem.mp nd).1 (agC hv).1,if_neg hk];simp
 |p::P,w::vs,i+1,m,nd,h1,h2,hk=>by show bindC kindOf ((p,w)::P.zip vs) m x=_;unfold bindC;exact rX (i:=i) (aem.mp nd).2 (by simpa using h1) (by simpa using h2) hk
def vy{sc:Scope}(h:sc.names.lookup x=some .cell):∃c,(cellsFrom n sc.names []).lookup x=some c:=by have q:=ahC sc.names n [] (.inl h);exact ad4.mp q
structure dP(k:Nat)(A:Around):Prop where
 dp:A.depth+3 * k+5<recursionLimit
 un:A.units+16 * k+200<cLine
 gd:A.guards=some []
def dP.mono{j:Nat}(r:dP k A)(h:j<=k):dP j A:=⟨by have:=r.dp;lia,by have:=r.un;lia,r.gd⟩
theorem dP.deeper{k:Nat}{A:Around}(r:dP (k+1) A)(env:Env):dP k (A.deeper env):=
 ⟨by have:=r.dp;show A.depth+1+3 * k+5<_;lia,by have:=r.un;show A.units+3+16 * k+200<_;lia,r.gd⟩
def wz{C:Addr}:(A.under (.builtin "type.__call__" ⟨.ref C::us,kw⟩)).depth=A.depth+1:=by first|rfl|simp[Around.under,Code.weight,Code.isCreation,Code.isGuard,Code.isCaller,Code.frames,Code.isFrame,guardIds]
def wx{C:Addr}:(A.under (.builtin "type.__call__" ⟨.ref C::us,kw⟩)).units=A.units+1:=by first|rfl|simp[Around.under,Code.cUnits,Code.frames,Code.isFrame]
def dP.make(r:dP (k+1) A)(C:Addr)(us:Z3)(kw:List (Str×Value)):dP k (A.under (.builtin "type.__call__" ⟨.ref C::us,kw⟩)):=
 ⟨by have:=r.dp;rw[wz];lia,by have:=r.un;rw[wx];lia,by first|exact r.gd|(simp[Around.under,Code.guards,Code.isGuard,guardIds,pushGuards];exact r.gd)⟩
theorem dP.depth{k:Nat}{A:Around}(r:dP k A):A.depth<recursionLimit:=by have:=r.dp;lia
theorem dP.units{k:Nat}{A:Around}(r:dP k A):A.units+64<cLine:=by have:=r.un;lia
def hX(K:W.Frag)(fd:FuncData)(ps:Zl)(ds:Z3):Prop:=
 ∀(s:Shared)(us:Z3),K.In s.heap->(us++ds).length=ps.length->BindsTo s fd ⟨us,[]⟩ (ps.zip (us++ds))
def bQ(s:Stmt)(j:Nat):Stmt:=match s with
 |.ClassDef _ _ _ body _ _ _ _ _ _ _=>body.getD j (.Pass ⟨0,0,0,0⟩)
 |_=>.Pass ⟨0,0,0,0⟩
def oV(s:Stmt):Arguments:=match s with
 |.FunctionDef _ a _ _ _ _ _ _ _ _=>a
 |_=> { posonlyargs:=[],args:=[],vararg:=none,kwonlyargs:=[],kw_defaults:=[],kwarg:=none,defaults:=[] }
def gN(s:Stmt):List Stmt:=match s with
 |.FunctionDef _ _ b _ _ _ _ _ _ _=>b
 |_=> []
def aR(s:Stmt):Scope:=match s with
 |.FunctionDef _ _ _ _ _ _ sc _ _ _=>sc
 |_=> { kind:=.function,names:=[],isGenerator:=false,isCoroutine:=false }
structure W3(K:W.Frag)(x qual:Str)(st:Stmt)(f:Addr)(fd:FuncData):Prop where
 ex:∃(oc:Value)(od:Option Addr)(kV doc pm:Value)(an:Option Addr)(WQ ct:Value)(W9:Array (Option Value)),
  fd=W.fnOf x qual (oV st) (gN st) (aR st) .none kV doc pm an WQ ct/\K.lookup f=some ⟨oc,od,.func fd,W9⟩/\W.codeIn K WQ qual=true
 kp:W.keepIn K (.ref f)=true
noncomputable def st0(n:Nat)(ps:Y2):Ev:=ps.map some++List.replicate (n - ps.length) none
noncomputable def jp(c:Bool)(X:Cx)(N:Zl)(qual:Str)(scope:Scope)(f:Addr)(cd:Value)(A:Around)(s:Shared):Cx:=
 { X with A:=A.deeper (envOfC qual scope s.heap.objs.size f cd),N:=N,env:=envOfC qual scope s.heap.objs.size f cd,stack:=envOfC qual scope s.heap.objs.size f cd::X.stack,fn:=fun _=>true,calm:=c,tr:=true,Ep:=PassesOwn (model X.prog X.w) (A.deeper (envOfC qual scope s.heap.objs.size f cd)) (envOfC qual scope s.heap.objs.size f cd) }
def New(X Y:Cx)(w:Wo):Prop:=(∀b,Y.W b->w.s.heap.get? b=none)/\∀b∈Y.fs,b∈X.fs\/w.s.heap.get? b=none
section
variable{w:Wo}{N ps:Zl}{qual name:Str}{f:Addr}{cd:Value}{qs:Y2}
def Ge(env:Env)(ps:Zl)(us:Z3)(s s1:Shared):Prop:=∃h t,s1= { s with heap:=h,toks:=t }/\(∀b o,s.heap.get? b=some o->h.get? b=some o)/\∃m,h.Ns env.locals m/\∀(i:Nat) y u,ps[i]? =some y->us[i]? =some u->vF env h m y u
def zE{s1:Shared}(S:kI N ps scope){c:Bool}(hd:c=true->A.handled=none)(hf:A.frames=some X.stack)(I:Wd X w h)(ok:X.Ok)(hl:qs.length=ps.length)(r:ay X.toSC w.F w.m qs us)
  (x:InCallC w.s w.s.heap.objs.size (bindL (envOfC qual scope w.s.heap.objs.size f cd).kindOf (ps.zip us) fun _=>none) (cellsFrom (w.s.heap.objs.size+1) scope.names []) (bindC (envOfC qual scope w.s.heap.objs.size f cd).kindOf (ps.zip us) fun _=>none) s1):
  New X (jp c X N qual scope f cd A w.s) w/\K8 X.fs Tg w { w with s:=s1 }/\Inv (jp c X N qual scope f cd A w.s) { w with s:=s1 } (st0 N.length qs) h/\Ge (envOfC qual scope w.s.heap.objs.size f cd) ps us w.s s1:=by
 have S_:ps.length<=N.length:=by have:=congrArg List.length S.pre;rw[afB]at this;lia
 obtain⟨h1,tk,rfl,hk⟩:=x.done;have n:=Nw.also (X:=X) (s':={ w.s with heap:=h1,toks:=tk }) I.toHR hk;have W:=I.on n.1 (fun _ _ z=>z.elim) n.2;have nn:∀{b},w.s.heap.objs.size<=b->w.s.heap.get? b=none:=fun{b} z=>by cases q:w.s.heap.get? b with|none=>rfl|some o=>exact absurd (aeI (ad2 q) z) (ae0 _)
 have pv:∀{b o},w.s.heap.objs.size<=b->h1.get? b=some o->Has { w with s:={ w.s with heap:=h1,toks:=tk } } b o:=fun{b o} z e=>⟨e,I.toHR.free (nn z)⟩
 obtain⟨oL,es,ep,eL,dL,_⟩:=id x.toInCall.ns;have hL:=pv (adA _) eL;have ndP:ps.Nodup:=by rw[<- S.pre];exact S.nd.sublist (ahy _ _)
 have lk:∀(i:Nat) y u,ps[i]? =some y->us[i]? =some u->vF (envOfC qual scope w.s.heap.objs.size f cd) h1 (bindL (envOfC qual scope w.s.heap.objs.size f cd).kindOf (ps.zip us) fun _=>none) y u:=fun i y u hp hu=>by
  rcases S.par y (adF hp)with k|k
  .exact .inl ⟨k,rV ndP hp hu k⟩
  .obtain⟨c,e⟩:=vy (n:=w.s.heap.objs.size+1) k;refine .inr ⟨.inl k,c,e,?_⟩;have q:=x.cell y c e;rw[rX ndP hp hu (by show scope.names.lookup y≠_;rw[k];decide)]at q;exact q
 refine⟨⟨fun b z=>z.elim (fun z=>z▸aU _) (by rintro ⟨y,_,e⟩;exact nn (agy (x.above y b (aeu e)))),fun b z=>(adD.mp (show b∈w.s.heap.objs.size::X.fs from z)).elim (fun z=>.inr (by rw[z];exact aU _)) .inl⟩,n.1,⟨⟨W.toHR,W.ba,W.bs,fun b hb=>?_⟩,⟨ok.Rd,ok.gl,ok.bl,ok.nl,S.kind,rfl,rfl,fun y z c h1 h2=>?_,fun y hy=>?_,hd,afH hf,S.nd,fun e he=>?_⟩,⟨_,oL,x.toInCall.ns,hL,fun i p e=>?_⟩,fun y c e=>?_,?_⟩,_,_,rfl,hk,_,x.toInCall.ns,lk⟩
 .rcases adD.mp (show b∈w.s.heap.objs.size::X.fs from hb)with rfl|hb
  .exact⟨oL,hL,fun vs z=>by rw[dL]at z;cases z⟩
  .exact W.fr b hb
 .exact name_of_addr x.apart (aeu h1) (aeu h2)
 .have hy:scope.names.lookup y=some .cell\/scope.names.lookup y=some .free:=hy;rcases hy with hy|hy
  .exact vy hy
  .exact absurd rfl (S.Ww _ (aeu hy))
 .rcases adD.mp he with rfl|he
  .exact⟨by rw[show(envOfC qual scope w.s.heap.objs.size f cd).scope.kind=.function from S.kind];decide,_,rfl,by
    cases q:X.base.get? w.s.heap.objs.size with
    |none=>exact q
    |some o=>have:=I.bk q;rw[aU]at this;cases this⟩
  .exact ok.sf e he
 .have hi:i<qs.length:=by
   unfold st0 at e
   by_cases hi:i<qs.length
   .exact hi
   .rw[adL (by simpa using hi),aeU]at e
    split at e<;>cases e
  have ha:qs[i]? =some p:=by
   unfold st0 at e;rw[adC (by simpa using hi),adZ]at e
   cases e':qs[i]? with
   |none=>rw[e']at e;cases e
   |some a=>rw[e']at e;cases e;rfl
  obtain⟨u,hu,rv⟩:=r.get ha;obtain⟨y,hp⟩:∃y,ps[i]? =some y:=⟨ps[i],by simp[hl▸hi]⟩
  have hN:N[i]? =some y:=by rw[<- S.pre,aej ⋯]at hp;exact hp
  exact⟨y,u,hN,rv,lk i y u hp hu⟩
 .obtain⟨o,q,d⟩:=x.cell y c e;exact⟨_,o,⟨o,q,d⟩,pv (agy (x.above y c (aeu e))) q⟩
 .simp only[st0,adt,adJ,afw];show _=N.length
  lia
abbrev RC(Q:Yf)(E:Yf)(r:Result)(s:Shared):Prop:=match r with
 |.ok (.ret u)=>Q u s
 |.ok _=>False
 |.error e=>E e s
def nL{c:Bool}{st:Stmt}{fd:FuncData}{args:Args}(F:W3 X.K name qual st f fd)(S:kI N ps (aR st))(hr:dP (k+1) A)(hd:c=true->A.handled=none)(hf:A.frames=some X.stack)(I:Wd X w h)(ok:X.Ok)(hl:qs.length=ps.length)(r:ay X.toSC w.F w.m qs us)(hb:BindsTo w.s fd args (ps.zip us))
  (go:∀cd s1,dP k (A.deeper (envOfC qual (aR st) w.s.heap.objs.size f cd))->New X (jp c X N qual (aR st) f cd A w.s) w->K8 X.fs Tg w { w with s:=s1 }->Inv (jp c X N qual (aR st) f cd A w.s) { w with s:=s1 } (st0 N.length qs) h->Ge (envOfC qual (aR st) w.s.heap.objs.size f cd) ps us w.s s1->
   Wp (jp c X N qual (aR st) f cd A w.s) (execs (gN st) (jp c X N qual (aR st) f cd A w.s).env) (fun fl s=>match fl with|.ret u=>Q u s|.next=>Q .none s|_=>False) (fun e s=>Wp (jp c X N qual (aR st) f cd A w.s) (leaving (jp c X N qual (aR st) f cd A w.s).env e) (fun _ s=>E e s) E s) s1):
  codeAny (model X.prog X.w) A (.call (.ref f) args) (RC Q E) w.s:=by
 obtain⟨oc,od,kV,doc,pm,an,WQ,ct,W9,rfl,lk,VL⟩:=F.ex;have KX:X.K.In w.s.heap:=ok.Rd.keeps fun _ _ e=>I.bk e;have lim:w.s.heap.NoLimit:=ok.nl.keeps fun _ _ e=>I.bk e;have XS:∀y∈ps.zip us,(aR st).names.lookup y.1=some .local\/((aR st).names.lookup y.1=some .cell/\((cellsFrom (w.s.heap.objs.size+1) (aR st).names []).lookup y.1).isSome=true):=(by rintro ⟨n,v⟩ hy;exact (S.par n (agC hy).1).imp_right fun q=>⟨q,ahC _ _ _ (.inl q)⟩)
 refine codeAny_call_function hr.depth (KX _ _ lk) rfl S.co S.gen rfl (W.codeRec_of KX VL) (hb _ _ _ _ ?_);refine wpAny_newFunctionEnv_cells S.kind XS fun env he s1 x=>?_;subst he;refine⟨lim.keeps x.toInCall.keep,codeAny_func ?_⟩;obtain⟨nw,y,J,gr⟩:=zE (N:=N) (cd:=WQ) S hd hf I ok hl r x;refine ad8 (go WQ s1 (hr.deeper _) nw y J gr) (fun fl s' hs=>?_) fun e s' hs=>hs
 cases fl<;>first|exact hs|exact hs.elim
end
def RP:Y2->Y3->Option (Y2×Y3)
 |[],h=>some ([],h)
 |p::r,h=>match ei h p with
  |some (q,h1)=>match RP r h1 with
   |some (qs,h2)=>some (q::qs,h2)
   |none=>none
  |none=>none
inductive Out where
 |ok (v:PV)|bad
def aT(v:PV)(h:Y3):Out:=match ei h v with
 |some (q,_)=>.ok q
 |none=>.bad
def ar(f:Sx)(np n:Nat)(ps:Y2):Out:=if ps.length=np then match f (ps.map some++List.replicate (n - ps.length) none) []with
  |.nx _ _=>.ok .non
  |.rt v h=>aT v h
  |_=>.bad
 else .bad
def aX(fn:Y2->Out)(ps:Y2)(h:Y3):Res PV:=match RP ps h with
 |some (qs,h2)=>match fn qs with
  |.ok v=>.ok v h2
  |.bad=>.bad
 |none=>.bad
def aI(fn:Y2->Out)(as:Ax):Ex:=fun ρ h=>(as ρ h).bind (aX fn)
structure Vb(G:SC)(k:Nat)(f:Addr)(fd:FuncData)(ps:Zl)(fn:Y2->Out):Prop where
 len:∀qs v,fn qs=.ok v->qs.length=ps.length
 run:∀{X:Cx}{w:Wo}{h:Y3}{A:Around}{qs:Y2}{us:Z3}{v:PV}{args:Args}{Q:Yf}{E:Yf},X.toSC=G->dP k A->A.handled=none->A.frames=some X.stack->Wd X w h->X.Ok->ay G w.F [] qs us->fn qs=.ok v->BindsTo w.s fd args (ps.zip us)->
  (∀F' s' u,Nw X w ⟨F',w.O,w.m,s'⟩ h->aP G F' [] v u->Q u s')->codeAny (model G.prog G.w) A (.call (.ref f) args) (RC Q E) w.s
section
variable{w:Wo}{N ps:Zl}{qual name:Str}{st:Stmt}{f:Addr}{fd:FuncData}{g:Sx}
def Wd.hide(I:Wd X w h):Wd X ⟨w.F,fun _=>none,[],w.s⟩ []:=⟨⟨I.sub,fun _ _ e=>(nomatch e),rfl,af6,fun _ _ _ e=>(nomatch e)⟩,I.ba,I.bs,fun b hb=>let⟨o,q,d⟩:=I.fr b hb;⟨o,⟨q.1,by simp,q.2.2.1,rfl⟩,d⟩⟩
def K8.out{Y:Cx}(nw:New X Y w)(y:RZ Y w w2):K8 X.fs Tg w w2:=⟨y.os,y.ba,y.fz,y.ow,y.pre,y.dom,fun b o q _=>by
 obtain⟨sl,q',z⟩:=y.keep b o q fun z=>by have q:=q.1;rw[nw.1 b z]at q;cases q
 exact⟨sl,q',z.imp_left fun z=>(nw.2 b z).resolve_right fun z=>by have q:=q.1;rw[z]at q;cases q⟩⟩
def Nw.back{m0:Zs}{h':Y3}(I:Wd X w h)(y:K8 X.fs Tg ⟨w.F,fun _=>none,m0,w.s⟩ w1)(H:HR X.toSC w1 h1)(hl:h'.length=h.length)(hm:∀a∈m0,a∈w.m)(ho:∀(i:Nat) po a,h'[i]? =some po->w.m[i]? =some a->a∈m0->qP X.toSC w1.F w.m w.O w1.s.heap a po)(hk:∀(i:Nat) po a,h'[i]? =some po->w.m[i]? =some a->a∉m0->h[i]? =some po):Nw X w ⟨w1.F,w.O,w.m,w1.s⟩ h':=by
 have k:∀b o,w.s.heap.get? b=some o->w.F b=none->b∉m0->∃sl,(w1.s.heap.get? b=some { o with slots:=sl }/\w1.F b=none)/\(b∈X.fs\/sl=o.slots):=fun b o e n z=>by obtain⟨sl,q,z⟩:=y.keep b o ⟨e,z,n,rfl⟩ fun z=>z;exact⟨sl,⟨q.1,q.2.2.1⟩,z⟩
 have k':∀b o,w.s.heap.get? b=some o->w.F b=none->b∉m0->b∉X.fs->w1.s.heap.get? b=some o/\w1.F b=none:=fun b o e n y z=>by
  obtain⟨sl,q,z'⟩:=k b o e n y;rcases z' with z'|rfl
  .exact absurd z' z
  .exact q
 have nf:∀{b},¬ S8 w b->b∉X.fs:=fun n z=>let⟨_,q,_⟩:=I.fr _ z;n q.2;have no:∀{b a},w.O b=some a->b∉m0:=fun e z=>let⟨_,y,_⟩:=I.own _ _ e;y (hm _ z);refine⟨⟨y.os,y.ba,y.fz,fun _ _ e=>e,⟨[],by simp⟩,y.dom,fun b o q _=>?_⟩,H.sub,fun d a e=>?_,hl.trans I.len,I.nd,fun i po a e1 e2=>?_⟩
 .obtain⟨sl,q',z⟩:=k b o q.1 q.2.2.1 fun z=>q.2.1 (hm _ z);exact⟨sl,⟨q'.1,q.2.1,q'.2,q.2.2.2⟩,z⟩
 .obtain⟨⟨o,q⟩,z,n⟩:=I.own d a e;exact⟨y.dom d o q,z,(k' d o q n (no e) (nf fun y=>by rw[y.2.2]at e;cases e)).2⟩
 .by_cases z0:a∈m0
  .exact ho i po a e1 e2 z0
  .refine(I.obj i po a (hk i po a e1 e2 z0) e2).on y.fz (fun _ e=>e) (fun _ _ e=>e) (fun b o e z=>?_) fun n=>?_
   .cases n:w.F b with
    |some x=>rw[I.sub b x n]at e;cases e;exact H.sub b _ (y.fz _ _ n)
    |none=>exact(k' b o e n (z.elim (fun z=>z▸z0) no) (nf fun y=>z.elim (fun z=>y.1 (z▸adF e2)) fun z=>by rw[y.2.2]at z;cases z)).1
   .obtain⟨o,q⟩:=I.toHR.there (adF e2);exact(k' a o q n z0 (nf fun y=>y.1 (adF e2))).2
def Nw.show{Y:Cx}(I:Wd X w h)(nw:New X Y w)(y:RZ Y ⟨w.F,fun _=>none,[],w.s⟩ w1)(H:HR X.toSC w1 h1):Nw X w ⟨w1.F,w.O,w.m,w1.s⟩ h:=Nw.back I (K8.out (w:=⟨w.F,fun _=>none,[],w.s⟩) nw y) H rfl (by simp) (fun _ _ _ _ _ z=>absurd z (by simp)) fun _ _ _ e _ _=>e
def EB(F:W3 G.K name qual st f fd)(S:kI N ps (aR st))(hb:∀(X:Cx)(cd:Value)(A:Around)(s:Shared),X.toSC=G->dP k (A.deeper (envOfC qual (aR st) s.heap.objs.size f cd))->Tw (jp true X N qual (aR st) f cd A s) (gN st) g):Vb G (k+1) f fd ps (ar g ps.length N.length) where
 len qs v e:=by
  unfold ar at e
  split at e
  .assumption
  .cases e
 run {X w h A qs us v args Q E} hG hr hd hf I ok r e hbd q:=by
  subst hG;unfold ar at e
  split at e
  .rename_i hl;refine nL (c:=true) (w:=⟨w.F,fun _=>none,[],w.s⟩) F S hr (fun _=>hd) hf I.hide ok hl r hbd fun cd s1 ZS nw y J _=>?_
   have ends:∀{w2:Wo}{h2 h3:Y3}{p:PV}{u:Value},RZ (jp true X N qual (aR st) f cd A w.s) { F:=w.F,O:=fun _=>none,m:=[],s:=s1 } w2->HR X.toSC w2 h2->aP X.toSC w2.F w2.m p u->ei h2 p=some (v,h3)->Q u w2.s:=fun{w2 h2 h3 p u} y2 H2 r2 e2=>by obtain⟨F',n,r3,pu⟩:=H2.X8 (X:=jp true X N qual (aR st) f cd A w.s) r2 e2;exact q F' w2.s u (Nw.show I nw (K8.trans (y.weak (fun _ z=>z.elim) fun b z=>adG _ z) (y2.trans n.s)) n.2) (r3.mono (fun _ _ e=>e) (.inl pu))
   refine ad8 ((hb X cd A w.s rfl ZS).r (E:=fun _ _=>False) J ?_) (fun _ _ z=>z) fun _ _ z=>z.elim;unfold st0
   split at e<;>rename_i e'<;>first|rw[e']|skip
   .cases e
    exact⟨.never,fun w2 y2 I2=>ends y2 I2.toHR .non (h3:=_) rfl⟩
   .unfold aT at e
    split at e<;>cases e
    exact⟨.never,fun w2 u ρ2 y2 I2 r2=>ends y2 I2.toHR r2 ‹_›⟩
   .cases e
  .cases e
theorem HR.RP:∀{ps qs:Y2}{us:Z3}{w:Wo}{h h':Y3},HR X.toSC w h->ay X.toSC w.F w.m ps us->RP ps h=some (qs,h')->∃F',Nw X w ⟨F',w.O,w.m,w.s⟩ h'/\ay X.toSC F' [] qs us
 |[],_,_,w,_,_,H,.nil,k=>by cases k;exact⟨w.F,⟨.refl,H⟩,.nil⟩
 |p::ps,qs,_,w,h,h',H,.cons r t,k=>by
  unfold Z.RP at k
  split at k
  .rename_i e;obtain⟨F1,n1,r1,pu⟩:=H.X8 (X:=X) r e
   split at k<;>cases k
   rename_i e2;obtain⟨F2,n2,r2⟩:=HR.RP n1.2 (n1.1.reps t) e2;exact⟨F2,n1.trans n2,.cons (r1.mono n2.1.fz (.inl pu)) r2⟩
  .cases k
structure ZC(X:Cx)(x:Str)(fn:Y2->Z.Out):Prop where
 ex:∃k f fd ps,Vb X.toSC k f fd ps fn/\dP k X.A/\X.mg x=some (.ref f)/\W.keepIn X.K (.ref f)=true/\hX X.K fd ps []
variable{e:Expr}{p0:Pos}{fs:Ax}{fn:Y2->Z.Out}
theorem Vb.call{qs:Y2}{us:Z3}{Q:Yf}{E:Yf}(F:Vb X.toSC k f fd ps fn)(hr:dP k X.A)(hc:X.calm=true)(hb:hX X.K fd ps [])(I:Inv X w ρ h)(r:ay X.toSC w.F w.m qs us)(p:bu X (RV X.toSC) w Q E (aX fn qs h)):Wp X (call (.ref f) us) Q E w.s:=by
 unfold aX at p
 split at p
 .rename_i e1
  split at p
  .rename_i qs' h2 v e2;obtain⟨F',n,r'⟩:=I.toHR.RP r e1;have I':=I.on n;refine ae7 (F.run (w:=⟨F',w.O,w.m,w.s⟩) rfl hr (I.ok.hd hc) I.ok.frames I'.toWd I'.ok r' e2 (by simpa using hb w.s us I.Qs (by rw[adU,<- r'.length];exact F.len _ _ e2)) fun F2 s2 u n2 r2=>?_);exact p.2 _ _ (n.trans n2) (r2.mono (fun _ _ e=>e) (.inr fun _ _ e=>nomatch e))
  .exact p.elim
 .exact p.elim
def Dt(c:ZC X x fn)(hg:Gl X x)(ha:RA X (e::es) fs)(hc:X.calm=true)(Qt:(x==("__debug__":Str))=false)(he:starEach (e::es) X.env=(false,eval e X.env)::starEach es X.env)(S_:(backTo pos (starEach es X.env)).any (·.1)=false):RE X (.Call (.Name x p0) (e::es) [] pos) (aI fn fs):=⟨fun I p=>by obtain⟨k,f,fd,ps,F,hr,hm,hk,hb⟩:=c.ex;exact ad9 (I.Vu hg hm (afg (h₀:=X.base) I.ok.Rd hk (ha.r pos I (p.bind fun _ _ _ _ y r p=>⟨(I.on y).Qs,F.call hr hc hb (I.on y) r p⟩)) he S_) Qt)⟩
def AO(c:ZC X x fn)(hg:Gl X x)(hc:X.calm=true)(Qt:(x==("__debug__":Str))=false):RE X (.Call (.Name x p0) [] [] pos) (aI fn ai):=⟨fun I p=>by obtain⟨k,f,fd,ps,F,hr,hm,hk,hb⟩:=c.ex;exact ad9 (I.Vu hg hm (agk I.Qs hk (F.call hr hc hb I .nil p)) Qt)⟩
end
noncomputable def ez(cells:List (Str×Addr)):List (Str×NameKind)->List (Str×Addr)->List (Str×Addr)
 |[],cs=>cs
 |(n,k)::r,cs=>ez cells r (if k==.free then(match cells.lookup n with|some a=>(n,a)::cs|none=>cs)else cs)
theorem rR(cells:List (Str×Addr)):∀(l:List (Str×NameKind))(cs:List (Str×Addr))(p:Str×Addr),p∈ez cells l cs->p∈cs\/(cells.lookup p.1=some p.2/\(p.1,NameKind.free)∈l)
 |[],cs,p,h=>.inl h
 |(n,k)::r,cs,p,h=>by
  unfold ez at h;rcases rR cells r _ p h with q|⟨q1,q2⟩
  .by_cases hk:k=.free
   .subst hk;simp only[beq_self_eq_true,if_true]at q
    cases e:cells.lookup n with
    |none=>rw[e]at q;exact .inl q
    |some a=>
     rw[e]at q;rcases adD.mp q with rfl|q
     .exact .inr ⟨e,adO⟩
     .exact .inl q
   .have hb:(k==NameKind.free)=false:=by simpa using hk
    simp only[hb,aeY,if_false]at q;exact .inl q
  .exact .inr ⟨q1,adG _ q2⟩
theorem rQ(cells:List (Str×Addr)):∀(l:List (Str×NameKind))(cs:List (Str×Addr))(p:Str×Addr),p∈cs->p∈ez cells l cs
 |[],_,_,h=>h
 |(n,k)::r,cs,p,h=>by
  unfold ez;refine rQ cells r _ p ?_
  split
  .split
   .exact adG _ h
   .exact h
  .exact h
theorem rS(cells:List (Str×Addr)){x:Str}{c:Addr}(hc:cells.lookup x=some c):∀(l:List (Str×NameKind))(cs:List (Str×Addr)),(x,NameKind.free)∈l->(x,c)∈ez cells l cs
 |(n,k)::r,cs,h=>by
  unfold ez;rcases adD.mp h with e|h
  .cases e
   refine rQ cells r _ _ ?_;simp only[beq_self_eq_true,if_true,hc];exact adO
  .exact rS cells hc r _ h
theorem kL{x:Str}{c:Addr}:∀{l:List (Str×Addr)},(x,c)∈l->∃c',l.lookup x=some c'
 |(y,d)::r,h=>by
  by_cases e:x=y
  .subst e;exact⟨d,by simp[aeg]⟩
  .have hb:(x==y)=false:=by simpa using e
   rw[aeg,hb];rcases adD.mp h with q|q
   .cases q;exact absurd rfl e
   .exact kL q
def lO{c:Addr}(h:(ez cells l []).lookup x=some c):cells.lookup x=some c/\(x,NameKind.free)∈l:=by
 rcases rR cells l [] (x,c) (aeu h)with q|q
 .cases q
 .exact q
def vq{c:Addr}(hc:cells.lookup x=some c)(h:(x,NameKind.free)∈l):(ez cells l []).lookup x=some c:=by obtain⟨c',e⟩:=kL (rS cells hc l [] h);rw[e,<- hc,(lO e).1]
def iD{env:Env}(h:∀n,(n,NameKind.free)∈scope.names->∃c,env.cells.lookup n=some c):closureFor scope env=pure (ez env.cells scope.names []):=by
 unfold closureFor
 have go:∀(l:List (Str×NameKind))(cs:List (Str×Addr)),(∀n,(n,NameKind.free)∈l->∃c,env.cells.lookup n=some c)->
   (forIn l cs fun x r=>if(x.2==NameKind.free)=true then do let a <- cellOf env x.1;pure (ForInStep.yield ((x.1,a)::r))else pure (ForInStep.yield r):Sem (List (Str×Addr)))=pure (ez env.cells l cs):=by
  intro l
  induction l with
  |nil=>intro cs _;rfl
  |cons x r ih=>
   intro cs hl;obtain⟨n,k⟩:=x;rw[List.forIn_cons];have hr:∀n,(n,NameKind.free)∈r->∃c,env.cells.lookup n=some c:=fun y hy=>hl y (adG _ hy)
   by_cases hk:k=.free
   .subst hk;obtain⟨c,hc⟩:=hl n adO;have e:cellOf env n=pure c:=by unfold cellOf;rw[hc]
    simp only[beq_self_eq_true,if_true,e,pure_bind,ez,hc];exact ih _ hr
   .have hb:(k==NameKind.free)=false:=by simpa using hk
    simp only[hb,aeY,if_false,pure_bind,ez];exact ih _ hr
 have q:=go scope.names [] h;simp only[bind_pure];exact q
theorem jc{env:Env}{x:Str}:∀{names:List (Str×NameKind)},(∀y∈names,y.2≠.cell)->∀{k:NameKind},
  (names.map fun(n,k)=>if(k==NameKind.free&&env.scope.kind==.function&&env.kindOf n==some .cell)then(n,NameKind.cell)else(n,k)).lookup x=some k->k=.cell\/k=.free->(x,NameKind.free)∈names
 |[],_,_,h,_=>by simp at h
 |(n,k0)::r,hn,k,h,hk=>by
  have ih:= @jc env x r (fun y hy=>hn y (adG _ hy)) k;rw[adE]at h
  by_cases hc:(k0==NameKind.free&&env.scope.kind==.function&&env.kindOf n==some .cell)=true
  .have h2:List.lookup x ((n,NameKind.cell)::r.map fun(n,k)=>if(k==NameKind.free&&env.scope.kind==.function&&env.kindOf n==some .cell)then(n,NameKind.cell)else(n,k))=some k:=by have q:=h;simp only[hc,if_true]at q;exact q
   have hf:k0=.free:=by
    have z:(k0==NameKind.free)=true:=by
     cases e:(k0==NameKind.free)with
     |true=>rfl
     |false=>rw[e]at hc;simp at hc
    simpa using z
   by_cases e:x=n
   .subst e;subst hf;exact adO
   .have hb:(x==n)=false:=by simpa using e
    rw[aeg,hb]at h2;exact adG _ (ih h2 hk)
  .have h2:List.lookup x ((n,k0)::r.map fun(n,k)=>if(k==NameKind.free&&env.scope.kind==.function&&env.kindOf n==some .cell)then(n,NameKind.cell)else(n,k))=some k:=by have q:=h;simp only[hc,if_false]at q;exact q
   by_cases e:x=n
   .subst e;rw[aeg,beq_self_eq_true]at h2;have e2:k0=k:=aed h2;subst e2;rcases hk with z|z
    .exact absurd z (hn (x,k0) adO)
    .subst z;exact adO
   .have hb:(x==n)=false:=by simpa using e
    rw[aeg,hb]at h2;exact adG _ (ih h2 hk)
theorem mf{env:Env}{x:Str}:∀{names:List (Str×NameKind)},names.lookup x=some .free->
  (names.map fun(n,k)=>if(k==NameKind.free&&env.scope.kind==.function&&env.kindOf n==some .cell)then(n,NameKind.cell)else(n,k)).lookup x=some .cell\/
  (names.map fun(n,k)=>if(k==NameKind.free&&env.scope.kind==.function&&env.kindOf n==some .cell)then(n,NameKind.cell)else(n,k)).lookup x=some .free
 |[],h=>by simp at h
 |(n,k)::r,h=>by
  have ih:= @mf env x r;show List.lookup x ((if(k==NameKind.free&&env.scope.kind==.function&&env.kindOf n==some .cell)=true then(n,NameKind.cell)else(n,k))::_)=_\/List.lookup x ((if(k==NameKind.free&&env.scope.kind==.function&&env.kindOf n==some .cell)=true then(n,NameKind.cell)else(n,k))::_)=_
  by_cases hc:(k==NameKind.free&&env.scope.kind==.function&&env.kindOf n==some .cell)=true
  .rw[if_pos hc]
   cases hx:x==n with
   |true=>left;simp[aeg,hx]
   |false=>simp only[aeg,hx]at h |-;exact ih h
  .rw[if_neg hc]
   cases hx:x==n with
   |true=>
    simp only[aeg,hx]at h
    right;simp[aeg,hx,h]
   |false=>simp only[aeg,hx]at h |-;exact ih h
theorem tD{w:World}{s:Shared}{elt target:Expr}{it acc:Value}{env:Env}(I:Nat->Shared->Prop)
  (turn:∀n s,I n s->wpAny (model prog w) A (pyNext it) (fun r s₁=>match r with
   |none=>R (.ok .next) s₁
   |some v=>wpAny (model prog w) A (letOwnedTupleGo target it v) (fun _ s₂=>wpAny (model prog w) A (assign target env v) (fun _ s₃=>
     wpAny (model prog w) A (forIn ifs true fun c r=>if r=true then do let ok <- isTrue c env (eval c env);pure (ForInStep.yield ok)else pure (ForInStep.yield r)) (fun ok s₄=>
      if ok=true then wpAny (model prog w) A (eval elt env) (fun x s₅=>wpAny (model prog w) A (call (.builtin "list.append") [acc,x]) (fun _ s₆=>∃m,m<n/\I m s₆) (fun _ _=>False) s₅) (fun _ _=>False) s₄
      else∃m,m<n/\I m s₄) (fun _ _=>False) s₃) (fun _ _=>False) s₂) (fun _ _=>False) s₁) (fun _ _=>False) s)
  (n:Nat) (h:I n s):
  codeAny (model prog w) A (.compLoop (.ListComp elt [⟨target,iter,ifs,0⟩] scope pos) 0 it acc env) R s:=by
 refine codeAny_loop rfl I (fun n s hI=>?_) n h;show wpAny _ A ((compTurn (.ListComp elt [⟨target,iter,ifs,0⟩] scope pos) 0 it acc env).onRaise (fun x=>do noteFrame x env;theTreesLotGoes x)) _ _ s;refine wpAny_noted ?_;rw[compTurn_list];refine adq (afE (adq (ad8 (turn n s hI) (fun r s₁ h₁=>?_) fun _ _ h'=>h'.elim)))
 cases r with
 |none=>exact adB h₁
 |some v=>
  refine adq (ad8 h₁ (fun _ s₂ h₂=>adq (ad8 h₂ (fun _ s₃ h₃=>adq (ad8 h₃ (fun ok s₄ h₄=>?_) fun _ _ h'=>h'.elim)) fun _ _ h'=>h'.elim)) fun _ _ h'=>h'.elim)
  cases ok with
  |false=>exact adB ⟨rfl,h₄⟩
  |true=>exact adq (adq (ad8 h₄ (fun x s₅ h₅=>adq (ad8 h₅ (fun _ s₆ h₆=>adB (adB ⟨rfl,h₆⟩)) fun _ _ h'=>h'.elim)) fun _ _ h'=>h'.elim))
noncomputable def Res.calm{α:Type}(r:Res α):Res α:=match r with
 |.exc _ _=>.bad
 |r=>r
noncomputable def cU(m6:Y1)(ρ:Ev):Ev:=m6.map fun i=>(ρ[i]?).getD none
def ew(g:Gx)(tt:Tx)(te:Ex)(ρ0:Ev):Y2->Y3->Res Y2
 |[],h=>.ok [] h
 |p::r,h=>match g p ρ0 with
  |some ρ1=>(tt ρ1 h).bind fun b h1=>if b=true then(te ρ1 h1).bind fun v h2=>(ew g tt te ρ0 r h2).bind fun vs h3=>.ok (v::vs) h3 else ew g tt te ρ0 r h1
  |none=>.bad
def eU(n:Nat)(g:Gx)(m6:Y1)(it:Ax)(tt:Tx)(te:Ex):Ax:=fun ρ h=>(it ρ h).bind fun xs h1=>if xs.length<sizeLine then(ew g tt te (List.replicate n none++cU m6 ρ) xs h1).calm else .bad
noncomputable def bK:Tx:=fun _ h=>.ok true h
noncomputable def Ss(ps:Y2)(h:Y3):Res PV:=.ok (.lst ps) h
noncomputable def ia(ps:Y2)(h:Y3):Res PV:=.ok (.ref h.length) (h++ [.lst ps])
structure fZ(N:Zl)(Vk scope:Scope)(m6:Y1)(vs M:Zl):Prop where
 kind:scope.kind=.function
 Ur:∀y∈scope.names,y.2≠.cell
 names:∀y∈scope.names,y.2=.local->scope.names.lookup y.1=some .local
 free:∀y∈scope.names,y.2=.free->Vk.names.lookup y.1=some .cell\/Vk.names.lookup y.1=some .free
 inN:M=vs++m6.map fun i=>N.getD i ""
 cap:∀i∈m6,i<N.length/\scope.names.lookup (N.getD i "")=some .free
 nd:M.Nodup
noncomputable def tE(N:Zl)(Vk scope:Scope)(m6:Y1)(vs M:Zl):Bool:=
 decide (scope.kind=.function)&&decide (∀y∈scope.names,y.2≠.cell)&&decide (∀y∈scope.names,y.2=.local->scope.names.lookup y.1=some .local)
  &&decide (∀y∈scope.names,y.2=.free->Vk.names.lookup y.1=some .cell\/Vk.names.lookup y.1=some .free)&&decide (M=vs++m6.map fun i=>N.getD i "")
  &&decide (∀i∈m6,i<N.length/\scope.names.lookup (N.getD i "")=some .free)&&decide M.Nodup
def fZ.of{N:Zl}{Vk:Scope}{m6:Y1}{vs M:Zl}(h:tE N Vk scope m6 vs M=true):fZ N Vk scope m6 vs M:=by unfold tE at h;simp only[adI,decide_eq_true_eq]at h;obtain⟨⟨⟨⟨⟨⟨a,b⟩,c⟩,d⟩,e⟩,f⟩,g⟩:=h;exact⟨a,b,c,d,e,f,g⟩
noncomputable def bJ(X:Cx)(M:Zl)(scope:Scope)(cl:List (Str×Addr))(C:Addr):Cx:={ X with N:=M,env:=compEnvC scope cl C X.env,fn:=fun _=>false,Ep:=fun _=>True }
structure VB(X:Cx)(ifs:List Expr)(f:Tx):Prop where
 r:∀{w:Wo}{ρ:Ev}{h:Y3}{Q:Bool->Shared->Prop}{E:Yf},Inv X w ρ h->bu X (fun _ a b=>a=b) w Q E (f ρ h)->Wp X (forIn ifs true fun c r=>if r=true then do let ok <- isTrue c X.env (eval c X.env);pure (ForInStep.yield ok)else pure (ForInStep.yield r)) Q E w.s
section
variable{w:Wo}{c:Expr}{f:Tx}
def GI:VB X [] bK:=⟨fun I p=>wpAny_tests_nil (p.here I.toHR rfl)⟩
def GH(ha:RT X c f):VB X [c] f:=⟨fun I p=>wpAny_tests_one (ha.r I p)⟩
def K8.new{fs:Zs}{W W':Addr->Prop}(x:K8 fs W w w1)(y:K8 fs W' w1 w2)(n:∀b,W' b->w.s.heap.get? b=none):K8 fs W w w2:=
 ⟨y.os.trans x.os,y.ba∘x.ba,fun a o e=>y.fz a o (x.fz a o e),fun a o e=>y.ow a o (x.ow a o e),let⟨t,e⟩:=x.pre;let⟨u,e'⟩:=y.pre;⟨t++u,by rw[e',e,adN]⟩,fun b o e=>let⟨o',q⟩:=x.dom b o e;y.dom b o' q,fun b o q z=>by
  obtain⟨sl,q1,z1⟩:=x.keep b o q z;obtain⟨W7,q2,z2⟩:=y.keep b _ q1 fun z=>by have q:=q.1;rw[n b z]at q;cases q
  exact⟨W7,q2,z1.elim .inl fun z=>z2.imp_right fun z'=>z'.trans z⟩⟩
def xc{M:Zl}{m6:Y1}{vs:Zl}{C:Addr}{m:Str->Option Value}{s1:Shared}(S:fZ X.N X.env.scope scope m6 vs M)(I:Inv X w ρ h)(hC:w.s.heap.get? C=none)(k:∀b o,w.s.heap.get? b=some o->s1.heap.get? b=some o)(hn:s1.heap.Ns C m)(ho:s1.os=w.s.os)(hg:s1.gens=w.s.gens):
  Inv (bJ X M scope (ez X.env.cells scope.names []) C) { w with s:=s1 } (List.replicate vs.length none++cU m6 ρ) h:=by
 have n:=Nw.also (X:=X) (s':=s1) I.toHR k ho hg;have J:=I.on n;have c0:∀y c,(ez X.env.cells scope.names []).lookup y=some c->X.env.cells.lookup y=some c:=fun y c h=>(lO h).1;obtain⟨m0,_,_,_,l⟩:=J.loc;obtain⟨oC,es,ep,eC,_⟩:=id hn;refine⟨⟨J.toHR,J.ba,J.bs,J.fr⟩,⟨I.ok.Rd,I.ok.gl,I.ok.bl,I.ok.nl,S.kind,I.ok.glob,I.ok.blt,fun y z c h1 h2=>I.ok.inj y z c (c0 _ _ h1) (c0 _ _ h2),fun y hy=>?_,I.ok.hd,I.ok.frames,S.nd,I.ok.sf⟩,⟨m,oC,hn,⟨eC,I.toHR.free hC⟩,fun i p e=>?_⟩,fun y c e=>J.T_ y c (c0 y c e),?_⟩
 .have hm:(y,NameKind.free)∈scope.names:=by
   rcases hy with h|h
   .exact jc S.Ur h (.inl rfl)
   .exact jc S.Ur h (.inr rfl)
  obtain⟨c,hc⟩:=I.ok.has y (S.free _ hm rfl);exact⟨c,vq hc hm⟩
 .have hi:vs.length<=i:=by
   rcases aeN i vs.length with z|z
   .rw[adC (by simpa using z)]at e;simp[aeU]at e
   .exact z
  rw[adL (by simpa using hi),afw]at e;simp only[cU,adZ]at e
  cases e1:m6[i - vs.length]? with
  |none=>rw[e1]at e;cases e
  |some k=>
   rw[e1]at e;obtain⟨c1,c2⟩:=S.cap k (adF e1)
   have e2:ρ[k]? =some (some p):=by
    simp only[ahP,ahu]at e
    cases q:ρ[k]? with
    |none=>rw[q]at e;cases e
    |some v=>rw[q]at e;simp at e;rw[e]
   obtain⟨y,u,e3,r,l⟩:=l k p e2;have e4:X.N.getD k ""=y:=by rw[adM,e3];rfl
   rw[e4]at c2;refine⟨y,u,?_,r,?_⟩
   .show M[i]? =some y;rw[S.inN,adL hi,adZ,e1,<- e4];rfl
   .have hm:(y,NameKind.free)∈scope.names:=aeu c2;rcases l with⟨k1,_⟩|⟨k1,c,e5,q⟩
    .rcases S.free _ hm rfl with z|z<;>(rw[show X.env.scope.names.lookup y=some .local from k1]at z;cases z)
    .exact .inr ⟨mf c2,c,vq e5 hm,q⟩
 .show _=M.length;rw[S.inN];simp[cU]
def Inv.weak{ρ':Ev}(I:Inv X w ρ h)(l:ρ'.length=ρ.length)(k:∀(i:Nat) p,ρ'[i]? =some (some p)->ρ[i]? =some (some p)):Inv X w ρ' h:=let⟨m,o,a,b,c⟩:=I.loc;⟨I.toWd,I.ok,⟨m,o,a,b,fun i p e=>c i p (k i p e)⟩,I.T_,l.trans I.ln⟩
def W0(K:Y2->Y3->Prop):Res Y2->Prop
 |.ok vs h=>K vs h
 |_=>False
theorem rT{r:Res α}{k:α->Y3->Res Y2}(p:W0 K (r.bind k).calm):∃a h,r=.ok a h/\W0 K (k a h).calm:=match r with
 |.ok a h=>⟨a,h,rfl,p⟩
 |.exc _ _=>p.elim
 |.bad=>p.elim
inductive Cq0(X Y:Cx)(w0 w:Wo)(tn:Nat->Heap->Prop)(fp:Zs)(xs:Y2)(ρ:Ev)(D:Addr)(K:Y2->Y3->Prop)(g:Gx)(tt:Tx)(te:Ex)(n:Nat)(s:Shared):Prop where
 |mk (w1:Wo) (h2:Y3) (acc:Y2) (j6:Array Value) (ys:Y2) (_:w1.s=s) (_:K8 X.fs Tg w0 w1) (_:T5 w w1) (_:Inv Y w1 ρ h2) (_:ys.length=n) (_:n<=xs.length) (_:ys=xs.drop (xs.length - n)) (_:tn (xs.length - n) w1.s.heap) (_:(∀b∈fp,∃o,Has w1 b o)) (_:w1.s.heap.PlainList D j6) (_:S8 w1 D) (_:ay X.toSC w1.F w1.m acc j6.toList) (_:j6.size+n<sizeLine) (_:W0 (fun vs h3=>K (acc++vs) h3) (ew g tt te ρ ys h2).calm)
def nJ{elt:Expr}{tt:Tx}{te:Ex}{M vs:Zl}{g:Gx}{use:Option (Value->Sem Unit)}{w:Wo}{xs:Y2}(m6:Y1)(hc:X.calm=true)(S:fZ X.N X.env.scope scope m6 vs M)(hg:∀cl C,RG (bJ X M scope cl C) tg g)(ht:∀cl C,VB (bJ X M scope cl C) ifs tt)(he:∀cl C,RE (bJ X M scope cl C) elt te)
  (gm:∀q cp ρ1,g q (List.replicate vs.length none++cp)=some ρ1->∃l,l.length=vs.length/\ρ1=l++cp) (I0:Inv X w0 ρ h) (y0:Nw X w0 w h1) (rr:Ul X tg w0 w xs v) (hz:xs.length<sizeLine) (p:W0 K (ew g tt te (List.replicate vs.length none++cU m6 ρ) xs h1).calm)
  (hr:∀{w2:Wo}{h2:Y3}{ps:Y2}{j6:Array Value}{D C:Addr}{oC:Obj}{m:Str->Option Value},K8 X.fs Tg w0 w2->HR X.toSC w2 h2->w0.s.heap.get? D=none->w0.s.heap.get? C=none->D≠C->Has w2 C oC->w2.s.heap.Ns C m->w2.s.heap.PlainList D j6->S8 w2 D->ay X.toSC w2.F w2.m ps j6.toList->j6.size<=sizeLine->K ps h2->compPost (model X.prog X.w) X.A E use Q (.ref D) C (.ok .next) w2.s):
  Wp X (newList []) (fun acc s=>Wp X (newFunctionEnv scope X.env.globals (ez X.env.cells scope.names []) [] X.env.qual none .none (some X.env)) (fun Yi s=>codeAny (model X.prog X.w) X.A (.compStart (.ListComp elt [⟨tg,iter,ifs,0⟩] scope pos) 0 v acc { Yi with scope:=relabel scope X.env }) (compPost (model X.prog X.w) X.A E use Q acc Yi.locals) s) E s) E w.s:=by
  obtain⟨it,fp,tn,rfl,T,t0,fr⟩:=rr;have I:=I0.on y0
  .refine aeo (wpAny_newFunctionEnv S.Ur (by intro y hy;simp at hy) (fun h₁ XQ Yz=>?_) S.kind);dsimp only at XQ Yz |-;generalize hP:w.s.heap.push { cls:=.type "list",dict:=none,data:=.seq ([]:Z3).toArray }=P at XQ Yz |-;have zP:P.objs.size=w.s.heap.objs.size+1:=by rw[<- hP,afs]
   have ne:∀{b},b<w.s.heap.objs.size+1->b≠P.objs.size:=fun z e=>by rw[e,zP]at z;exact absurd z (ae0 _)
   have old:∀b o,w.s.heap.get? b=some o->h₁.get? b=some o:=fun b o e=>Yz.extBut b o (ne (afp (ad2 e))) (ady _ (hP▸ady _ e));have DC:w.s.heap.objs.size≠P.objs.size:=ne (ahH _);have eD:h₁.PlainList w.s.heap.objs.size #[]:=⟨_,Yz.extBut _ _ DC (ady _ (hP▸adK _ rfl))⟩
   have nC:w.s.heap.get? P.objs.size=none:=by
    cases q:w.s.heap.get? P.objs.size with
    |none=>rfl
    |some o=>exact absurd rfl (ne (afp (ad2 q)))
   have n0:∀{b},w.s.heap.get? b=none->w0.s.heap.get? b=none:=fun{b} z=>by
    cases q:w0.s.heap.get? b with
    |none=>rfl
    |some o=>obtain⟨o',q'⟩:=y0.1.dom b o q;rw[z]at q';cases q'
   have nD:=aU w.s.heap;have nf:∀b∈fp,w0.s.heap.get? b=none:=fun b hb=>(fr b hb).2.2;have J:=xc S I nC old XQ (s1:={ w.s with heap:=h₁,toks:=w.s.toks+([]:List (Str×Value)).length }) rfl rfl;have n1:=Nw.also (X:=X) (s':={ w.s with heap:=h₁,toks:=w.s.toks+([]:List (Str×Value)).length }) I.toHR old;generalize hY:bJ X M scope (ez X.env.cells scope.names []) P.objs.size=Y at J;have fsY:Y.fs=X.fs:=by rw[<- hY];rfl
   have Xi:∀b,Vc X b->b≠P.objs.size->Vc Y b:=fun b a z=>by subst hY;exact⟨z,a.2.1,fun x c e=>a.2.2 x c (lO e).1⟩
   have aD:Vc Y w.s.heap.objs.size:=Xi _ (I.out nD) DC;have aF:∀b∈fp,Vc Y b:=fun b hb=>Xi b (fr b hb).2.1 (let⟨o,q⟩:=(fr b hb).1;ne (afp (ad2 q.1)));have dF:w.s.heap.objs.size∉fp:=fun z=>let⟨o,q⟩:=(fr _ z).1;absurd (ad2 q.1) (ae0 _)
   have loop:codeAny (model X.prog X.w) X.A (.compLoop (.ListComp elt [⟨tg,iter,ifs,0⟩] scope pos) 0 (.ref it) (.ref w.s.heap.objs.size) (compEnvC scope (ez X.env.cells scope.names []) P.objs.size X.env)) (compPost (model X.prog X.w) X.A E use Q (.ref w.s.heap.objs.size) P.objs.size) { w.s with heap:=h₁,toks:=w.s.toks+([]:List (Str×Value)).length }:=by
    refine tD (Cq0 X Y w0 w tn fp xs (List.replicate vs.length none++cU m6 ρ) w.s.heap.objs.size K g tt te) ?_ xs.length ⟨_,h1,[], #[],xs,rfl,y0.1.trans n1.1,n1.1.lat,J,rfl,adA _,by simp,?_,fun b hb=>?_,eD,I.toHR.free nD,.nil,by simpa using hz,p⟩
    .rintro n s ⟨w1,h2,acc,j6,ys,rfl,y1,l1,I1,ln,le,dr,t1,f1,d1,dn1,ra,z1,p1⟩
     subst hY
     cases ys with
     |nil=>
      cases ln
      refine ad8 (T.done (I.ok.hd hc) l1 I1.toHR t1 (by simp) f1 (Q:=fun s=>compPost (model X.prog X.w) X.A E use Q (.ref w.s.heap.objs.size) P.objs.size (.ok .next) s) fun w2 y2 H2=>?_) (fun r s q=>by obtain⟨rfl,q⟩:=q;exact q) fun _ _ z=>z;obtain⟨m,o,n,hl,_⟩:=(I1.priv y2 H2 aF).loc;obtain⟨nn,e1⟩:=d1;have q:=y2.keep _ _ dF ⟨e1,dn1⟩;exact hr (y1.priv y2 nf) H2 (n0 nD) (n0 nC) DC hl n ⟨nn,q.1⟩ q.2 (ra.mono y2.fz (.inr y2.sub)) ⋯ (by simpa[ew,Res.calm,W0]using p1)
     |cons q ys=>
      have ln':ys.length+1=n:=ln;have eq:xs[xs.length - n]? =some q:=by rw[<- afM,<- dr];rfl
      have dy:ys=xs.drop (xs.length - ys.length):=by rw[show xs.length - ys.length=xs.length - n+1 by lia,<- af7,<- dr];rfl
      unfold ew at p1
      split at p1
      .rename_i ρ2 e2;obtain⟨b,h3,e3,p3⟩:=rT p1;refine ad8 (T.item (I.ok.hd hc) l1 I1.toHR t1 eq f1 (Q:=fun u s=>wpAny (model X.prog X.w) X.A (assign tg (compEnvC scope (ez X.env.cells scope.names []) P.objs.size X.env) u) ?R ?N s) ?c) (fun r s q=>by obtain⟨u,rfl,q⟩:=q;exact q) fun _ _ z=>z;intro u w2 y2 H2 t2 f2 r2;refine(hg _ _).r (I1.priv y2 H2 aF) r2 e2 fun w3 y3 I3=>(ht _ _).r I3 ?_;rw[e3];refine⟨trivial,fun w4 b' y4 eb=>?_⟩;subst eb;obtain⟨l,ll,rfl⟩:=gm _ _ _ e2;have y04:K8 X.fs Tg w0 w4:=K8.trans (K8.new (y1.priv y2 nf) y3 fun b z=>n0 (z.elim (fun z=>z▸nC) (by rintro ⟨_,z,_⟩;exact nomatch z))) y4.1;have l4:T5 w w4:=(l1.trans ⟨y2.fz,y2.sub⟩).trans (y3.lat.trans y4.1.lat)
       have k4:∀b,Vc (bJ X M scope (ez X.env.cells scope.names []) P.objs.size) b->∀o,Has w2 b o->Has w4 b o:=fun b a o q=>by
        obtain⟨sl,q',z⟩:=(y3.trans y4.s).keep b o q a.w;rcases z with z|rfl
        .exact absurd z a.2.1
        .exact q'
       have D2:∀nn,w1.s.heap.get? w.s.heap.objs.size=some { cls:=.type "list",data:=.seq j6 nn }->Has w4 w.s.heap.objs.size { cls:=.type "list",data:=.seq j6 nn }:=fun nn e=>k4 _ aD _ (y2.keep _ _ dF ⟨e,dn1⟩);obtain⟨nn,e1⟩:=d1;have D4:=D2 nn e1
       have go:∀w5 h5 Uz OJ,K8 X.fs Tg w0 w5->T5 w w5->Inv (bJ X M scope (ez X.env.cells scope.names []) P.objs.size) w5 (l++cU m6 ρ) h5->(∀b∈fp,∀o,Has w2 b o->Has w5 b o)->T5 w2 w5->w5.s.heap.PlainList w.s.heap.objs.size OJ->S8 w5 w.s.heap.objs.size->ay X.toSC w5.F w5.m Uz OJ.toList->OJ.size<=j6.size+1->W0 (fun vs h3=>K (Uz++vs) h3) (ew g tt te (List.replicate vs.length none++cU m6 ρ) ys h5).calm->
         ∃m,m<n/\Cq0 X (bJ X M scope (ez X.env.cells scope.names []) P.objs.size) w0 w tn fp xs (List.replicate vs.length none++cU m6 ρ) w.s.heap.objs.size K g tt te m w5.s:=by
        intro w5 h5 Uz OJ a b c d l25 e f ra' i p;refine⟨ys.length,by lia,w5,h5,Uz,OJ,ys,rfl,a,b,c.weak (by simp[ll]) fun i p e=>?_,rfl,by lia,dy,?_,fun x hx=>let⟨o,q⟩:=f2 x hx;⟨o,d x hx o q⟩,e,f,ra',by lia,p⟩
        .rcases aeN i vs.length with z|z
         .rw[adC (by simpa using z)]at e;simp[aeU]at e
         .rw[adL (by simpa using z),afw]at e;rw[adL ⋯,ll];exact e
        .rw[show xs.length - ys.length=xs.length - n+1 by lia];exact T.keep (l1.trans ⟨y2.fz,y2.sub⟩) H2 l25 c.toHR t2 fun b hb o e=>let⟨o',q⟩:=f2 b hb;(d b hb o ⟨e,q.2⟩).1
       have Yw:T5 w2 w4:=y3.lat.trans y4.1.lat;have ra4:=ra.mono (y2.fz) (.inr y2.sub) |>.mono Yw.1 (.inr Yw.2)
       cases b with
       |false=>rw[if_neg ⋯]at p3 |-;exact go w4 h3 acc j6 y04 l4 (I3.on y4) (fun b hb=>k4 b (aF b hb)) Yw ⟨nn,D4.1⟩ D4.2 ra4 ⋯ p3
       |true=>
        rw[if_pos rfl]at p3 |-;obtain⟨v,h5,e5,p5⟩:=rT p3;refine(he _ _).r (I3.on y4) ?_;rw[e5];refine⟨trivial,fun w5 u5 y5 r5=>?_⟩
        have q5:∀b,Vc (bJ X M scope (ez X.env.cells scope.names []) P.objs.size) b->∀o,Has w4 b o->Has w5 b o:=fun b a o q=>by
         obtain⟨sl,q',z⟩:=y5.1.keep b o q fun z=>z;rcases z with z|rfl
         .exact absurd z a.2.1
         .exact q'
        have D5:=q5 _ aD _ D4;refine wpAny_list_append_plain ⟨nn,D5.1⟩ (fun h' Z0 Xx=>?_) ⋯;obtain⟨a1,a2⟩:=jz (s':={ w5.s with heap:=h',toks:=w5.s.toks }) y5.2 D5 fun b o z e=>(Xx.2 b z).trans e;refine go _ h5 (acc++ [v]) (j6.push u5) ((y04.trans y5.1).priv a1 (by simp;exact n0 nD)) (l4.trans (y5.1.lat.trans ⟨a1.fz,a1.sub⟩)) (((I3.on y4).on y5).priv a1 a2 (by simp;exact aD)) (fun b hb o q=>a1.keep b o (by simp;rintro rfl;exact dF hb) (q5 b (aF b hb) o (k4 b (aF b hb) o q))) (Yw.trans (y5.1.lat.trans ⟨a1.fz,a1.sub⟩)) Z0 D5.2 ?_ (by simp) ?_
        .rw[Array.toList_push];exact(ra4.mono y5.1.fz (.inr y5.1.sub)).app (.cons r5 .nil)
        .revert p5;cases ew g tt te (List.replicate vs.length none++cU m6 ρ) ys h5<;>simp[Res.bind,Res.calm,W0]
      .exact p1.elim
    .simpa using T.keep (⟨fun _ _ e=>e,fun _ _ e=>e⟩) I.toHR n1.1.lat n1.2 t0 fun b hb o e=>old b o e
    .obtain⟨o,q⟩:=(fr b hb).1;exact⟨o,old b o q.1,q.2⟩
   exact codeAny_compStart_list loop (T.self (I.ok.hd hc) (T.keep (⟨fun _ _ e=>e,fun _ _ e=>e⟩) I.toHR n1.1.lat n1.2 t0 fun b hb o e=>old b o e) loop)
def Ld{elt:Expr}{it:Ax}{tt:Tx}{te:Ex}{M vs:Zl}{g:Gx}{r:Y2->Y3->Res PV}(m6:Y1)(hc:X.calm=true)(S:fZ X.N X.env.scope scope m6 vs M)(hi:RI X tg iter it)(hg:∀cl C,RG (bJ X M scope cl C) tg g)(ht:∀cl C,VB (bJ X M scope cl C) ifs tt)(he:∀cl C,RE (bJ X M scope cl C) elt te)
  (hr:∀{w0 w:Wo}{h:Y3}{ps:Y2}{j6:Array Value}{D:Addr}{Q:Yf}{E:Yf},K8 X.fs Tg w0 w->HR X.toSC w h->w0.s.heap.get? D=none->w.s.heap.PlainList D j6->S8 w D->ay X.toSC w.F w.m ps j6.toList->j6.size<=sizeLine->bu X (RV X.toSC) w0 Q E (r ps h)->Q (.ref D) w.s)
  (gm:∀q cp ρ1,g q (List.replicate vs.length none++cp)=some ρ1->∃l,l.length=vs.length/\ρ1=l++cp)
  (hs:∀y,foldedSetIterable iter X.env y=pure y:=by intro _;rfl):RE X (.ListComp elt [⟨tg,iter,ifs,0⟩] scope pos) (cN r (eU vs.length g m6 it tt te)) where
 r {w0 ρ h Q E} I0 p:=by
  rw[eval_ListComp];refine afi rfl hs (iD fun n hn=>I0.ok.has n (S.free _ hn rfl)) S.kind S.names ?_
  have p:bu X (RV X.toSC) w0 Q E ((it ρ h).bind fun xs h1=>(if xs.length<sizeLine then(ew g tt te (List.replicate vs.length none++cU m6 ρ) xs h1).calm else .bad).bind r):=by
   have:cN r (eU vs.length g m6 it tt te) ρ h=(it ρ h).bind fun xs h1=>(if xs.length<sizeLine then(ew g tt te (List.replicate vs.length none++cU m6 ρ) xs h1).calm else .bad).bind r:=by unfold cN eU;cases it ρ h<;>rfl
   rw[<- this];exact p
  refine hi.r I0 (p.Wg fun w h1 xs v y0 rr p=>?_)
  split at p
  .rename_i hz
   refine nJ (use:=none) (K:=fun ps h=>bu X (RV X.toSC) w0 Q E (r ps h)) m6 hc S hg ht he gm I0 y0 rr hz (by
    revert p
    cases ew g tt te (List.replicate vs.length none++cU m6 ρ) xs h1<;>exact id) fun{w2 h2 ps j6 D C oC m} y2 H2 nD nC DC hl n l f ra z k=>⟨m,n,fun h' sb=>?_⟩
   obtain⟨a1,a2⟩:=jz (s':={ w2.s with heap:=h' }) H2 hl fun b o z e=>(sb.2 b z).trans e;obtain⟨nn,e1⟩:=l;have q:=a1.keep _ _ (by simp;exact DC) ⟨e1,f⟩;exact hr (y2.priv a1 (by simp;exact nC)) a2 nD ⟨nn,q.1⟩ q.2 ra z k
  .exact p.elim
def Eu(q:PV)(cp ρ1:Ev)(e:z7 0 q (List.replicate 1 none++cp)=some ρ1):∃l:Ev,l.length=1/\ρ1=l++cp:=by cases e;exact⟨[some q],rfl,rfl⟩
def EO{ps:Y2}{D:Addr}(y:K8 X.fs Tg w0 w)(H:HR X.toSC w h)(n:w0.s.heap.get? D=none)(l:w.s.heap.PlainList D j6)(f:S8 w D)(r:ay X.toSC w.F w.m ps j6.toList)(z:j6.size<=sizeLine)(p:bu X (RV X.toSC) w0 Q E (Ss ps h)):Q (.ref D) w.s:=by
 obtain⟨k,e⟩:=l;have fz:=cx (o:={ cls:=.type "list",data:=.seq j6 k }) f.2.1;refine p.2 ⟨gD w.F D { cls:=.type "list",data:=.seq j6 k },w.O,w.m,w.s⟩ _ ⟨⟨y.os,y.ba,fun a o e=>fz a o (y.fz a o e),y.ow,y.pre,y.dom,fun b o q zz=>?_⟩,fun b x q=>?_,fun d b q=>let⟨o,z,y⟩:=H.own d b q;⟨o,z,cT (fun e'=>by rw[e',f.2.2]at q;cases q) y⟩,H.len,H.nd,fun i po b e1 e2=>(H.obj i po b e1 e2).on fz (fun _ e=>e) (fun _ _ e=>e) (fun _ _ e _=>e) (cT fun z=>f.1 (z▸adF e2))⟩ (.lst bg z (r.mono fz (.inr fun _ _ e=>e)))
 .obtain⟨sl,q',z'⟩:=y.keep b o q zz;exact⟨sl,⟨q'.1,q'.2.1,cT (fun z=>by have q:=q.1;rw[z,n]at q;cases q) q'.2.2.1,q'.2.2.2⟩,z'⟩
 .by_cases z:b=D
  .subst z;cases bg.symm.trans q;exact e
  .exact H.sub b x ((kB z).symm.trans q)
def Ci{ps:Y2}{D:Addr}(y:K8 X.fs Tg w0 w)(H:HR X.toSC w h)(n:w0.s.heap.get? D=none)(l:w.s.heap.PlainList D j6)(f:S8 w D)(r:ay X.toSC w.F w.m ps j6.toList)(z:j6.size<=sizeLine)(p:bu X (RV X.toSC) w0 Q E (ia ps h)):Q (.ref D) w.s:=by
 obtain⟨k,e⟩:=l;have sb:Sub w.m (w.m++ [D]):=fun i b e=>by rw[adC (adv.mp e).1];exact e
 refine p.2 ⟨w.F,w.O,w.m++ [D],w.s⟩ _ ⟨⟨y.os,y.ba,y.fz,y.ow,let⟨t,e⟩:=y.pre;⟨t++ [D],by rw[e,adN]⟩,y.dom,fun b o q zz=>?_⟩,H.sub,fun d b q=>let⟨o,z,y⟩:=H.own d b q;⟨o,fun x=>(adS.mp x).elim z fun x=>(by simp at x;rw[x,f.2.2]at q;cases q),y⟩,by simp[H.len],aeO.mpr ⟨H.nd,by simp,fun x hx y hy z=>f.1 (by simp at hy;rw[<- hy,<- z];exact hx)⟩,fun i ob b e1 e2=>?_⟩ (.ref (by rw[H.len];simp))
 .obtain⟨sl,q',z'⟩:=y.keep b o q zz;refine⟨sl,⟨q'.1,fun z=>?_,q'.2.2⟩,z'⟩;rcases adS.mp z with z|z
  .exact q'.2.1 z
  .have q:=q.1;simp at z;rw[z,n]at q;cases q
 .rcases aeN i h.length with l|l
  .rw[adC l]at e1;rw[adC (H.len▸l)]at e2;exact(H.obj i ob b e1 e2).on (fun _ _ e=>e) (fun _ e=>e) sb (fun _ _ e _=>e) id
  .rw[adL l]at e1;rw[adL (H.len▸l),<- H.len]at e2
   cases e':i - h.length with
   |zero=>rw[e']at e1 e2;cases e1;cases e2;exact⟨f.2.1,j6,k,e,z,r.mono (fun _ _ e=>e) (.inr sb)⟩
   |succ _=>rw[e']at e1;simp at e1
end
end Z
namespace Z
open PySem
def DK(h h':Heap):Prop:=∀b o,h.get? b=some o->∃o',h'.get? b=some o'/\o'.dict=o.dict
def DK.refl(h:Heap):DK h h:=fun _ o e=>⟨o,e,rfl⟩
theorem DK.trans{h1 h2 h3:Heap}(x:DK h1 h2)(y:DK h2 h3):DK h1 h3:=fun b o e=>by obtain⟨o1,e1,d1⟩:=x b o e;obtain⟨o2,e2,d2⟩:=y b o1 e1;exact⟨o2,e2,d2.trans d1⟩
def Kd{α:Type}(t:Sem α):Prop:=∀(M:Model)(Γ:Ctx)(Q:α->Pos->Shared->Prop)(E:Value->Pos->Shared->Prop)(p:Pos)(s:Shared),Sem.wp M Γ t Q E p s->
 Sem.wp M Γ t (fun a p' s'=>Q a p' s'/\DK s.heap s'.heap) (fun e p' s'=>E e p' s'/\DK s.heap s'.heap) p s
section
variable{α β:Type}
def Kd.bind{m:Sem α}{f:α->Sem β}(hm:Kd m)(hf:∀a,Kd (f a)):Kd (m >>= f):=fun M Γ Q E p s h=>by rw[Sem.wp_bind']at h |-;refine ahO M Γ m (fun a p1 s1 z=>?_) (fun e p1 s1 z=>z) p s (hm M Γ _ _ p s h);exact ahO M Γ (f a) (fun b p2 s2 y=>⟨y.1,z.2.trans y.2⟩) (fun e p2 s2 y=>⟨y.1,z.2.trans y.2⟩) p1 s1 (hf a M Γ Q E p1 s1 z.1)
theorem Kd.pure(a:α):Kd (Pure.pure a:Sem α):=fun M Γ Q E p s h=>by rw[Sem.wp_pure']at h |-;exact⟨h,DK.refl _⟩
def Kd.VF(x:String):Kd (unsupported x:Sem α):=fun M Γ Q E p s h=>by rw[show(unsupported x:Sem α)=.unsupported x from rfl,Sem.wp_unsupported]at h;exact h.elim
theorem Kd.load(a:Addr):Kd (PySem.load a):=fun M Γ Q E p s h=>by rw[show PySem.load a=.load a none .pure from rfl,Sem.wp_load]at h |-;obtain⟨o,h1,h2⟩:=h;rw[afF]at h2;exact⟨o,h1,by rw[afF];exact⟨h2,DK.refl _⟩⟩
theorem Kd.stack:Kd PySem.stack:=fun M Γ Q E p s h=>by rw[show PySem.stack=.stack .pure from rfl,Sem.wp_stack,afF]at h |-;exact⟨h,DK.refl _⟩
theorem Kd.alloc(o:Obj):Kd (PySem.alloc o):=fun M Γ Q E p s h=>by rw[show PySem.alloc o=.alloc o .pure from rfl,Sem.wp_alloc,afF]at h |-;exact⟨h,fun b o' e=>⟨o',ady _ e,rfl⟩⟩
theorem Kd.update{a:Addr}{f:Obj->Obj}(hf:∀o,o.isFreed=false->(f o).isFreed=false/\(f o).dict=o.dict):Kd (PySem.update a f):=fun M Γ Q E p s h=>by
 rw[show PySem.update a f=.update a none f .pure from rfl,Sem.wp_update]at h |-;obtain⟨h1,h2⟩:=h;rw[afF]at h2;refine⟨h1,?_⟩;rw[afF];refine⟨h2,fun b o e=>?_⟩
 by_cases hb:a=b
 .subst hb;obtain⟨z1,z2⟩:=hf o (ahk.mp e).2;exact⟨f o,ae4 f e z1,z2⟩
 .exact⟨o,(Heap.get?_update_other _ _ hb).trans e,rfl⟩
def Kd.ite{c:Prop}[Decidable c]{t u:Sem α}(ht:Kd t)(hu:Kd u):Kd (if c then t else u):=by
 split
 .exact ht
 .exact hu
def uO(v:Value):Kd (fieldsOf v):=by
 unfold fieldsOf
 split
 .refine(Kd.load _).bind fun o=>?_
  split
  .exact Kd.pure _
  .exact Kd.VF _
 .exact Kd.VF _
def mq(v:Value)(i:Nat):Kd (field v i):=by
 refine(uO v).bind fun vs=>?_
 split
 .exact Kd.pure _
 .exact Kd.VF _
def ot(g:Array Value->Array Value)(o:Obj)(h:o.isFreed=false):(Obj.mapFields g o).isFreed=false/\(Obj.mapFields g o).dict=o.dict:=by
 unfold Obj.mapFields
 split
 .exact⟨rfl,rfl⟩
 .exact⟨h,rfl⟩
def jN(v:Value)(i:Nat)(x:Value):Kd (setField v i x):=by
 unfold setField
 split
 .unfold updateField;refine(Kd.load _).bind fun o=>?_
  split
  .exact Kd.ite (Kd.update fun o h=>ot _ o h) (Kd.VF _)
  .exact Kd.VF _
 .exact Kd.VF _
def fH(e:Value)(f:Option Addr):Kd (setFlight e f):=by refine(mq e 1).bind fun tb=>?_;exact Kd.ite (jN _ _ _) (Kd.pure _)
def tj(ty:String)(vs:Z3):Kd (newFields ty vs):=by
 unfold newFields newObj
 have as:Kd (newObjAsIs (.type ty) (.fields vs.toArray) none):=by unfold newObjAsIs;exact(Kd.alloc _).bind fun _=>Kd.pure _
 dsimp only
 split
 .exact(Kd.VF _).bind fun _=>as
 .exact as
theorem jO:∀l:List Env,Kd (readyFrames l)
 |[]=>Kd.pure _
 |env::outer=>by
  unfold readyFrames
  split
  .refine(Kd.load _).bind fun o=>Kd.ite (Kd.pure _) ?_;refine Kd.bind ?_ fun i=>Kd.bind ?_ fun b=>Kd.bind (Kd.update fun o h=>⟨?_,rfl⟩) fun _=>jO outer
   .unfold behindIsImport;exact Kd.ite (Kd.pure _) (Kd.ite (Kd.pure _) ((mq _ _).bind fun _=>Kd.pure _))
   .unfold keptBack
    split
    .refine Kd.ite (Kd.pure _) ?_;exact Kd.bind (Kd.stack.bind fun _=>Kd.pure _) fun _=>Kd.pure _
    .exact Kd.pure _
   .obtain⟨c,d,dt,s0⟩:=o
    cases dt<;>first|rfl|(simp[Obj.isFreed]at h)
  .exact Kd.VF _
def wD(env:Env):Kd (frameOf env):=by
 unfold frameOf;refine Kd.bind (Kd.stack.bind fun _=>Kd.pure _) fun l=>Kd.bind ?_ fun o=>?_
 .unfold frameObject
  split
  .exact Kd.pure _
  .exact(jO _).bind fun _=>Kd.pure _
 .split
  .exact Kd.pure _
  .exact Kd.VF _
def ou(f:Addr)(b:Bool):Kd (entryPlaceOf f b):=by
 unfold entryPlaceOf;refine Kd.stack.bind fun _=>?_
 split
 .exact Kd.pure _
 .exact Kd.pure _
def jh(e:Value)(env:Env):Kd (noteFrame e env):=by
 unfold noteFrame
 split
 .have go:∀hd:Value,∀f:Addr,Kd (do setField e 1 (<- EntryCells.newEntry hd (<- frameOf env) .none (rawInt f) .none (<- entryPlaceOf f (hd != .none)))):=fun hd f=>(wD env).bind fun _=>(ou _ _).bind fun _=>(tj _ _).bind fun _=>jN _ _ _
  refine(mq e 1).bind fun hd=>?_;refine Kd.ite ?_ (go _ _);exact(mq _ _).bind fun x=>Kd.ite (Kd.pure _) ((jN _ _ _).bind fun _=>go _ _)
 .exact Kd.VF _
def qh(env:Env)(e:Value):Kd (leaving env e):=(jh e env).bind fun _=>fH e none
end
end Z
namespace Z
open PySem PySem.Spec PyProof.Rows
variable{A:Around}{C Ta a l:Addr}{E Q:Yf}{G:SC}{H8:List (PK×PV)}{R:Result->Shared->Prop}{X:Cx}{XP:(Str->Option Value)->Heap->Prop}{YP:World->Heap->Prop}{apos p0 pos tp:Pos}{b0:Stmt}{body:List Stmt}{cat:Nat->Bool}{es ifs values:List Expr}{f name x:Str}{fa fb fo:Ex}{fn g:Y2->Y3->Res PV}{gs:Sx}{h h1:Y3}{i iy j k n:Nat}{iter tg:Expr}{keys:List (Option Expr)}{kvs:List (PK×Value)}{loose:Zl}{o:Obj}{outer:List Env}{p:PV}{prog:Program}{qs:Y2}{s':Shared}{scope:Scope}{tt:Tx}{u v:Value}{us:Z3}{w1:Wo}{xs:Array Value}{ρ:Ev}
def nX{α:Type}{M:Model}{t:Sem α}{Q:α->Shared->Prop}{s:Shared}{dx:Option Addr}(k:Kd t)(d:∃o,s.heap.get? a=some o/\o.dict=dx)(h:wpAny M A t (fun x s'=>(∃o,s'.heap.get? a=some o/\o.dict=dx)->Q x s') E s):wpAny M A t Q E s:=
 fun Γ p hΓ=>ahO M Γ t (fun _ _ _ z=>z.1 (let⟨o,e,d⟩:=d;let⟨o',e',d'⟩:=z.2 a o e;⟨o',e',d'.trans d⟩)) (fun _ _ _ z=>z.1) p s (k M Γ _ _ p s (h Γ p hΓ))
section
variable{Y:Cx}{w w2:Wo}{h2:Y3}
def BN{B hp:Heap}{V:Addr->Prop}(y:K8 Y.fs V w w2)(W2:Wd Y w2 h2)(c1:∀b o,w.s.heap.get? b=some o->b∉Y.fs->∃o',B.get? b=some o')(c2:∀b,¬ S8 w2 b->∃o',B.get? b=some o')(s1:B.StaysIn w2.s.heap)(s2:B.StaysIn hp)(up:w2.s.heap.UpToSlots hp):K8 Y.fs V w { w2 with s:={ w2.s with heap:=hp } }/\HR Y.toSC { w2 with s:={ w2.s with heap:=hp } } h2:=by
 have fr:∀b∈Y.fs,∀o,w2.s.heap.get? b=some o->∃sl,hp.get? b=some { o with slots:=sl }:=fun b hb o e=>by obtain⟨o',q,d⟩:=W2.fr b hb;have q:=q.1;rw[e]at q;cases q;exact up b o e d
 refine⟨⟨y.os,y.ba,y.fz,y.ow,y.pre,fun b o e=>?_,fun b o q n=>?_⟩,W2.toHR.on fun b o e n=>?_⟩
 .by_cases hb:b∈Y.fs
  .obtain⟨o',q⟩:=y.dom b o e;obtain⟨sl,q'⟩:=fr b hb o' q;exact⟨_,q'⟩
  .obtain⟨o',q⟩:=c1 b o e hb;exact⟨o',s2 b o' q⟩
 .obtain⟨sl,q',z⟩:=y.keep b o q n
  by_cases hb:b∈Y.fs
  .obtain⟨W7,e'⟩:=fr b hb _ q'.1;exact⟨W7,⟨e',q'.2⟩,.inl hb⟩
  .obtain⟨o',e'⟩:=c1 b o q.1 hb;have g1:=s1 b o' e';rw[q'.1]at g1;cases g1;exact⟨sl,⟨s2 b _ e',q'.2⟩,z⟩
 .obtain⟨o',q⟩:=c2 b n;have:=s1 b o' q;rw[e]at this;cases this;exact s2 b o q
def Fk{e:PV}{Q:Unit->Shared->Prop}(nw:New X Y w)(hG:Y.toSC=X.toSC)(R9:Y.stack=Y.env::X.stack)(hf:Y.env.frame=some Y.L)(hA:Y.A.frames=some Y.stack)(y:RZ Y w w2)(W2:Wd Y w2 h2)(r:mM Y w w2 e u)
  (c:∀s',K8 X.fs Tg w { w2 with s:=s' }->HR X.toSC { w2 with s:=s' } h2->mM X w { w2 with s:=s' } e u->Q () s'):Wp Y (leaving Y.env u) Q E w2.s:=by
 have fsY:Y.fs=Y.L::X.fs:=by simp[Cx.fs,frs,R9,hf]
 have oL:∀{b o},w.s.heap.get? b=some o->b≠Y.L:=fun e z=>by rw[z,nw.1 _ (.inl rfl)]at e;cases e
 obtain⟨a,cls,dx,rfl,⟨⟨a0,B,fl,c1,c2⟩,d⟩,m⟩:=r
 have go:∀hp,B.StaysIn w2.s.heap->Heap.FlyingW B X.stack a cls a0 hp->w2.s.heap.UpToSlots hp->(∃o,hp.get? a=some o/\o.dict=dx)->Q () { w2.s with heap:=hp }:=fun hp s1 YF up Ye=>by obtain⟨g1,g2⟩:=BN y W2 c1 c2 s1 YF.1 up;exact c _ (K8.out nw g1) (hG▸g2) ⟨a,cls,dx,rfl,⟨⟨a0,B,.inl YF,fun b o e n=>c1 b o e fun z=>by rw[fsY]at z;exact(adD.mp z).elim (oL e) n,fun b z=>c2 b z⟩,Ye⟩,by revert m;rw[hG];exact id⟩
 rw[R9]at fl;rcases fl with fl|⟨_,fl⟩
 .exact nX (qh _ _) d (wpAny_leaves_onW (R9▸hA) hf fl fun hp YF up Ye=>go hp fl.1 YF up Ye)
 .obtain⟨s1,eB,ff,o,vs,ho,rfl,hd,h0,h1⟩:=fl;exact nX (qh _ _) d (wpAny_leaving_firstW (R9▸hA) ff hf ho s1 eB hd h1 h0 fun hp L Ye=>go hp s1 ⟨L.1,eB,L.2.1.2.2,L.2.2.1⟩ L.2.2.2 Ye)
end
noncomputable def PO.pure:PO->Bool
 |.lst xs=>aq xs
 |.dct kvs=>bP kvs
 |.s8 _=>true
 |.obj _ _=>false
def dY:Y3->Bool
 |[]=>true
 |o::r=>o.pure&&dY r
def oE(n:Nat)(v:PV)(h:Y3):Res PV:=if(dY (h.take n)&&Nat.ble n h.length)=true then .ok v (h.take n)else .bad
def lN(n:Nat)(v:PV)(h:Y3):Res PV:=match ei h v with
 |some (q,h2)=>oE n q h2
 |none=>.bad
def cP(f:Sx)(np n:Nat)(ps:Y2)(h:Y3):Res PV:=if ps.length=np then match f (ps.map some++List.replicate (n - ps.length) none) h with
  |.nx _ h1=>oE h.length .non h1
  |.rt v h1=>lN h.length v h1
  |_=>.bad
 else .bad
def La(n:Nat)(e:PV)(h:Y3):Res PV:=if(dY (h.take n)&&Nat.ble n h.length&&e.pure)=true then .exc e (h.take n)else .bad
def Aw(f:Sx)(np n:Nat)(ps:Y2)(h:Y3):Res PV:=if ps.length=np then match f (ps.map some++List.replicate (n - ps.length) none) h with
  |.nx _ h1=>oE h.length .non h1
  |.rt v h1=>lN h.length v h1
  |.exc e h1=>La h.length e h1
  |_=>.bad
 else .bad
noncomputable def T7:Y2->Y1
 |[]=>[]
 |.ref i::r=>i::T7 r
 |_::r=>T7 r
noncomputable def VG:Nat->Y2->Y2
 |_,[]=>[]
 |n,.ref _::r=>.ref n::VG (n+1) r
 |n,p::r=>p::VG n r
def qd:Y2->Bool
 |[]=>true
 |.ref _::r=>qd r
 |p::r=>p.pure&&qd r
noncomputable def lL(h:Y3):Y1->Option Y3
 |[]=>some []
 |i::r=>match h[i]? with
  |some o=>match lL h r with
   |some l=>some (o::l)
   |none=>none
  |none=>none
noncomputable def fT:Y3->Y1->Y3->Y3
 |h,i::r,o::l=>fT (h.set i o) r l
 |h,_,_=>h
noncomputable def nq:Y1->Bool
 |[]=>true
 |i::r=>!r.contains i&&nq r
def z6(fn:Y2->Y3->Res PV)(ps:Y2)(h:Y3):Res PV:=match lL h (T7 ps)with
 |some hs=>if(qd ps&&dY hs&&nq (T7 ps))=true then match fn (VG 0 ps) hs with
   |.ok v U4=>if v.pure=true/\dY U4=true/\U4.length=hs.length then .ok v (fT h (T7 ps) U4)else .bad
   |.exc v U4=>if v.pure=true/\dY U4=true/\U4.length=hs.length then .exc v (fT h (T7 ps) U4)else .bad
   |.bad=>.bad
  else .bad
 |none=>.bad
def bx(fn:Y2->Y3->Res PV)(as:Ax):Ex:=fun ρ h=>(as ρ h).bind (z6 fn)
noncomputable def VH(n:Nat):PV->Bool
 |.ref i=>decide (i<n)
 |p=>p.pure
def Yv(n:Nat):PO->Bool
 |.lst xs=>xs.all (VH n)
 |.dct kvs=>kvs.all fun x=>VH n x.2
 |.s8 _=>true
 |.obj _ ps=>ps.all (VH n)
noncomputable def vU(f:Sx)(np n:Nat)(ps:Y2)(h:Y3):Res PV:=if ps.length=np then match f (ps.map some++List.replicate (n - ps.length) none) h with
  |.nx _ h1=>.ok .non h1
  |_=>.bad
 else .bad
def cB(fn:Y2->Y3->Res PV)(as:Ax):Ex:=fun ρ h=>(as ρ h).bind fn
def Gc(X:Cx)(w:Wo)(Q:Yf)(E:Yf):Res PV->Prop
 |.ok a h=>∀w' x,Nw X w w' h->aP X.toSC w'.F w'.m a x->Q x w'.s
 |.exc e h=>∀w' u,Nw X w w' h->mM X w w' e u->E u w'.s
 |.bad=>False
theorem bu.c{w:Wo}{r:Res PV}(p:bu X (RV X.toSC) w Q E r):Gc X w Q E r:=match r with
 |.ok _ _=>p.2
 |.exc _ _=>p.2
 |.bad=>p
structure Uc(G:SC)(c:Bool)(k:Nat)(f:Addr)(fd:FuncData)(ps:Zl)(fn:Y2->Y3->Res PV):Prop where
 len:∀qs h,fn qs h≠.bad->qs.length=ps.length
 run:∀{X:Cx}{w:Wo}{h:Y3}{A:Around}{qs:Y2}{us:Z3}{args:Args}{Q:Yf}{E:Yf},X.toSC=G->dP k A->(c=true->A.handled=none)->A.frames=some X.stack->Wd X w h->X.Ok->ay G w.F w.m qs us->BindsTo w.s fd args (ps.zip us)->
  Gc X w Q E (fn qs h)->codeAny (model G.prog G.w) A (.call (.ref f) args) (RC Q E) w.s
def qQ(n:Nat)(h:Y3):Prop:=(h.take n).all (Yv n)=true/\n<=h.length
inductive F0(n:Nat):SR->Res PV->Prop where
 |nx {ρ:Ev} {h:Y3}:qQ n h->F0 n (.nx ρ h) (.ok .non (h.take n))
 |al {ρ:Ev} {h:Y3}:F0 n (.nx ρ h) (.ok .non h)
 |rt {v:PV} {h:Y3}:VH n v=true->qQ n h->F0 n (.rt v h) (.ok v (h.take n))
 |rf {v q:PV} {h h2:Y3}:ei h v=some (q,h2)->qQ n h2->F0 n (.rt v h) (.ok q (h2.take n))
 |ex {e:PV} {h:Y3}:e.pure=true->qQ n h->F0 n (.exc e h) (.exc e (h.take n))
 |ra {v:PV} {h:Y3}:F0 n (.rt v h) (.ok v h)
 |xa {e:PV} {h:Y3}:F0 n (.exc e h) (.exc e h)
section
variable{Y:Cx}{w w2:Wo}{h2:Y3}
def aP.lt{F:Fz}{m:Zs}(r:aP G F m p u)(z:VH n p=true):aP G F (m.take n) p u:=by
 unfold VH at z
 split at z
 .cases r with|ref e=>exact .ref (by rw[aej (of_decide_eq_true z)];exact e)
 .exact r.mono (fun _ _ e=>e) (.inl z)
theorem ay.lt{n:Nat}{F:Fz}{m:Zs}{p:Y2}{u:Z3}(r:ay G F m p u):p.all (VH n)=true->ay G F (m.take n) p u:=ay.ind (P:=fun p u=>p.all (VH n)=true->ay G F (m.take n) p u) (fun _=>.nil) (fun r _ i z=>have z:=adI _ _▸z;.cons (r.lt z.1) (i z.2)) r
theorem HR.cut(H:HR G w h)(c:qQ n h):HR G ⟨w.F,w.O,w.m.take n,w.s⟩ (h.take n):=by
 refine⟨H.sub,fun d a e=>let⟨o,z,y⟩:=H.own d a e;⟨o,fun x=>z (afb x),y⟩,by simp[H.len],H.nd.sublist (ahy _ _),fun i o a e1 e2=>?_⟩
 have hi:i<n:=by
  rcases aeN i n with z|z
  .exact z
  .rw[aeK (by simp;lia)]at e1;cases e1
 have z:=adX.mp c.1 o (adF e1);rw[aej hi]at e1;have q:=H.obj i o a e1 (by rw[<- aej hi];exact e2)
 cases o with
 |lst ps=>obtain⟨f,j6,n,e,l,r⟩:=q;exact⟨f,j6,n,e,l,r.lt z⟩
 |dct H8=>obtain⟨f,o,kvs,e,d,y,l,c,r⟩:=q;exact⟨f,o,kvs,e,d,y,l,c,r.lt (by simpa[Yv,agz]using z)⟩
 |s8 p=>obtain⟨r,z,q⟩:=q;exact⟨r.mono (fun _ _ e=>e) (.inl z),z,q⟩
 |obj C ps=>obtain⟨f,Ca,dx,od,vs,c,e,d,e2,nn,l,r⟩:=q;exact⟨f,Ca,dx,od,vs,c,e,d,e2,nn,l,r.lt z⟩
theorem Nw.cut(hl:h.length=w.m.length)(y:K8 X.fs Tg w w2)(H:HR X.toSC w2 h2)(c:qQ h.length h2):Nw X w ⟨w2.F,w2.O,w2.m.take h.length,w2.s⟩ (h2.take h.length):=by refine⟨⟨y.os,y.ba,y.fz,y.ow,?_,y.dom,fun b o q z=>let⟨sl,q,z⟩:=y.keep b o q z;⟨sl,⟨q.1,fun z=>q.2.1 (afb z),q.2.2⟩,z⟩⟩,H.cut c⟩;obtain⟨t,e⟩:=y.pre;exact⟨[],by simp[e,hl]⟩
def mM.cut{e:PV}(r:mM X w w2 e u)(pu:e.pure=true):mM X w ⟨w2.F,w2.O,w2.m.take n,w2.s⟩ e u:=r.to pu rfl rfl rfl fun b z=>.inl fun y=>z ⟨fun z=>y.1 (afb z),y.2⟩
variable{N ps:Zl}{qual:Str}{st:Stmt}{f:Addr}{fd:FuncData}{g:Sx}
def tv{c:Bool}(F:W3 G.K name qual st f fd)(S:kI N ps (aR st))(hb:∀(X:Cx)(cd:Value)(A:Around)(s:Shared),X.toSC=G->dP k (A.deeper (envOfC qual (aR st) s.heap.objs.size f cd))->Tw (jp c X N qual (aR st) f cd A s) (gN st) g)
  (hfn:∀qs h,fn qs h≠.bad->qs.length=ps.length/\F0 h.length (g (st0 N.length qs) h) (fn qs h)):Uc G c (k+1) f fd ps fn where
 len qs h z:=(hfn qs h z).1
 run {X w h A qs us args Q E} hG hr hd hf I ok r hbd p:=by
  subst hG;obtain⟨hl,fin⟩:=hfn qs h fun z=>by rw[z]at p;exact p
  refine nL (c:=c) F S hr hd hf I ok hl r hbd fun cd s1 ZS nw y J _=>(hb X cd A w.s rfl ZS).r J ?_;have yo:∀{w2},RZ (jp c X N qual (aR st) f cd A w.s) { w with s:=s1 } w2->RZ (jp c X N qual (aR st) f cd A w.s) w w2:=fun y2=>K8.trans (y.weak (fun _ z=>z.elim) fun b z=>adG _ z) y2
  revert fin p
  generalize g (st0 N.length qs) h=sr;generalize fn qs h=res;intro p fin
  cases fin with
  |nx ck=>exact⟨.leaving,fun w2 y2 I2=>p ⟨w2.F,w2.O,w2.m.take h.length,w2.s⟩ _ (Nw.cut I.len ((yo y2).out nw) I2.toHR ck) .non⟩
  |al=>exact⟨.leaving,fun w2 y2 I2=>p _ _ ⟨(yo y2).out nw,I2.toHR⟩ .non⟩
  |rt l ck=>exact⟨.leaving,fun w2 u ρ y2 I2 r2=>p ⟨w2.F,w2.O,w2.m.take h.length,w2.s⟩ _ (Nw.cut I.len ((yo y2).out nw) I2.toHR ck) (r2.lt l)⟩
  |rf e ck=>exact⟨.leaving,fun w2 u ρ y2 I2 r2=>by obtain⟨F',n,r3,pu⟩:=I2.toHR.X8 (X:=jp c X N qual (aR st) f cd A w.s) r2 e;exact p ⟨F',w2.O,w2.m.take h.length,w2.s⟩ _ (Nw.cut (w2:=⟨F',w2.O,w2.m,w2.s⟩) I.len ((yo (y2.trans n.s)).out nw) n.2 ck) (r3.mono (fun _ _ e=>e) (.inl pu))⟩
  |ex pu ck=>exact⟨.leaving,fun w2 u ρ y2 I2 r2=>Fk nw rfl rfl rfl (afH hf) (yo y2) I2.toWd (r2.back y) fun s' y3 H3 r3=>p ⟨w2.F,w2.O,w2.m.take h.length,s'⟩ _ (Nw.cut (w2:={ w2 with s:=s' }) I.len y3 H3 ck) (r3.cut pu)⟩
  |ra=>exact⟨.leaving,fun w2 u ρ y2 I2 r2=>p _ _ ⟨(yo y2).out nw,I2.toHR⟩ r2⟩
  |xa=>exact⟨.leaving,fun w2 u ρ y2 I2 r2=>Fk nw rfl rfl rfl (afH hf) (yo y2) I2.toWd (r2.back y) fun s' y3 H3 r3=>p { w2 with s:=s' } _ ⟨y3,H3⟩ r3⟩
def Dx(h:p.pure=true):VH n p=true:=by cases p<;>first|exact h|cases h
theorem pQ:∀{l:Y2},aq l=true->l.all (VH n)=true
 |[],_=>rfl
 |p::r,h=>by simp only[aq,adI]at h;simp[Dx h.1,pQ h.2]
theorem mW:∀{l:Y3},dY l=true->l.all (Yv n)=true
 |[],_=>rfl
 |o::r,h=>by
  simp only[dY,adI]at h;simp only[ae2,mW h.2,aek]
  cases o with
  |lst xs=>exact pQ h.1
  |dct kvs=>have:=pQ (n:=n) (l:=kvs.map (·.2)) (by rw[<- dC];exact h.1);simpa[Yv,agz]using this
  |s8 _=>rfl
  |obj _ ps=>cases h.1
def FW{v:PV}(z:oE n v h≠.bad):qQ n h/\oE n v h=.ok v (h.take n):=by
 unfold oE at z |-
 split at z
 .rename_i c;rw[if_pos c];simp only[adI]at c;exact⟨⟨mW c.1,afv c.2⟩,rfl⟩
 .exact absurd rfl z
def KQ{np N:Nat}(qs:Y2)(h:Y3)(z:Aw g np N qs h≠.bad):qs.length=np/\F0 h.length (g (st0 N qs) h) (Aw g np N qs h):=by
 unfold Aw at z |-
 split at z
 .rename_i l;rw[if_pos l];refine⟨l,?_⟩;unfold st0
  split at z<;>rename_i e<;>(try rw[e])
  .obtain⟨c,e⟩:=FW z;rw[e];exact .nx c
  .unfold lN at z |-
   split at z
   .rename_i e1;obtain⟨c,e⟩:=FW z;rw[e];exact .rf e1 c
   .exact absurd rfl z
  .unfold La at z |-
   split at z
   .rename_i c;rw[if_pos c];simp only[adI]at c;exact .ex c.2 ⟨mW c.1.1,afv c.1.2⟩
   .exact absurd rfl z
  .exact absurd rfl z
 .exact absurd rfl z
def KP{np N:Nat}(qs:Y2)(h:Y3)(z:vU g np N qs h≠.bad):qs.length=np/\F0 h.length (g (st0 N qs) h) (vU g np N qs h):=by
 unfold vU at z |-
 split at z
 .rename_i l;rw[if_pos l];refine⟨l,?_⟩;unfold st0
  split at z<;>rename_i e<;>(try rw[e])
  .exact .al
  .exact absurd rfl z
 .exact absurd rfl z
def KO{np N:Nat}(qs:Y2)(h:Y3)(z:cP g np N qs h≠.bad):qs.length=np/\F0 h.length (g (st0 N qs) h) (cP g np N qs h):=by
 have e:cP g np N qs h=Aw g np N qs h:=by
  unfold cP Aw at*
  split
  .rw[if_pos ‹_›]at z;split<;>rename_i e<;>simp_all
  .rfl
 rw[e]at z |-;exact KQ qs h z
end
section
variable{w:Wo}{hs:Y3}{is:Y1}
theorem lK:∀{is:Y1}{hs:Y3},lL h is=some hs->is.length=hs.length/\∀(j i:Nat),is[j]? =some i->h[i]? =hs[j]?
 |[],_,e=>by cases e;exact⟨rfl,fun _ _ e=>nomatch e⟩
 |i::r,_,e=>by
  unfold lL at e
  split at e
  .rename_i e1
   split at e<;>cases e
   rename_i e2;obtain⟨l,k⟩:=lK e2;exact⟨by simp[l],fun j i' q=>by cases j with|zero=>cases q;exact e1|succ j=>exact k j i' q⟩
  .cases e
theorem pY:∀{is:Y1},nq is=true->is.Nodup
 |[],_=>.nil
 |i::r,h=>by simp only[nq,adI,agj,List.contains_eq_mem,decide_eq_false_iff_not]at h;exact .cons (fun x hx z=>h.1 (z▸hx)) (pY h.2)
theorem pO:∀(is:Y1)(h hs:Y3),(Z.fT h is hs).length=h.length
 |[],h,_=>by simp[Z.fT]
 |_::_,h,[]=>by simp[Z.fT]
 |i::r,h,o::l=>by simp[Z.fT,pO r]
theorem pP:∀{is:Y1}{h hs:Y3}{i:Nat},is.Nodup->is.length=hs.length->(∀j∈is,j<h.length)->(∀j:Nat,is[j]? =some i->(Z.fT h is hs)[i]? =hs[j]?)/\(i∉is->(Z.fT h is hs)[i]? =h[i]?)
 |[],h,[],i,_,_,_=>⟨fun _ e=>(nomatch e),fun _=>rfl⟩
 |j0::r,h,o::l,i,nd,e,lt=>by
  rw[aem]at nd;obtain⟨a,b⟩:=pP (h:=h.set j0 o) (hs:=l) (i:=i) nd.2 (by simpa using e) (fun j hj=>by simpa using lt j (adG _ hj));refine⟨fun j q=>?_,fun n=>?_⟩
  .cases j with
   |zero=>cases q;simp only[Z.fT];rw[b nd.1];simp[lt _ adO]
   |succ j=>simp only[Z.fT];rw[a j q];rfl
  .simp only[Z.fT];rw[b fun z=>n (adG _ z),aeQ fun z=>n (by simp[z])]
noncomputable def sel(m:Zs)(is:Y1):Zs:=is.map fun i=>m.getD i 0
def oG{m:Zs}(e:is[j]? =some i)(q:m[i]? =some a):(sel m is)[j]? =some a:=by simp[sel,e,adM,q]
theorem mX:∀{hs:Y3}{j:Nat}{o:PO},dY hs=true->hs[j]? =some o->o.pure=true
 |o::r,j,o',h,e=>by
  simp only[dY,adI]at h
  cases j with
  |zero=>cases e;exact h.1
  |succ j=>exact mX h.2 e
theorem qP.pure{F:Fz}{m m':Zs}{O O':Addr->Option Addr}{g:Heap}{a:Addr}{o:PO}(q:qP G F m O g a o)(p:o.pure=true):qP G F m' O' g a o:=by
 cases o with
 |lst ps=>obtain⟨f,j6,n,e,l,r⟩:=q;exact⟨f,j6,n,e,l,r.mono (fun _ _ e=>e) (.inl p)⟩
 |dct H8=>obtain⟨f,o,kvs,e,d,y,l,c,r⟩:=q;exact⟨f,o,kvs,e,d,y,l,c,r.mono (fun _ _ e=>e) (.inl (by rw[<- dC];exact p))⟩
 |s8 p=>obtain⟨r,z,q⟩:=q;exact⟨r.mono (fun _ _ e=>e) (.inl z),z,q⟩
 |obj C ps=>cases p
def sH(H:HR G w h)(lt:∀i∈is,i<h.length)(z:a∈sel w.m is):∃i∈is,w.m[i]? =some a:=by obtain⟨i,hi,rfl⟩:=adT.mp z;have l:=lt i hi;rw[H.len]at l;exact⟨i,hi,by simp[adM,adx l]⟩
theorem Aq:∀{is:Y1},is.Nodup->(∀i∈is,i<w.m.length)->w.m.Nodup->(sel w.m is).Nodup
 |[],_,_,_=>.nil
 |i::r,nd,lt,n=>by rw[aem]at nd;refine aem.mpr ⟨fun z=>?_,Aq nd.2 (fun j hj=>lt j (adG _ hj)) n⟩;obtain⟨j,hj,e⟩:=adT.mp z;have l1:=lt i (by simp);have l2:=lt j (adG _ hj);simp only[adM,adx l1,adx l2,afA]at e;exact nd.1 ((aeH n).mp e▸hj)
theorem Wd.sel(I:Wd X w h)(e:lL h is=some hs)(nd:is.Nodup)(pu:dY hs=true)(lt:∀i∈is,i<h.length):Wd X ⟨w.F,fun _=>none,sel w.m is,w.s⟩ hs:=by
 obtain⟨l,k⟩:=lK e;have g:∀i∈is,∃a,w.m[i]? =some a:=fun i hi=>⟨_,adx (I.len▸lt i hi)⟩
 refine⟨⟨I.sub,fun _ _ e=>(nomatch e),by simp[Z.sel,l],Aq nd (fun i hi=>I.len▸lt i hi) I.nd,fun j o a e1 e2=>?_⟩,I.ba,I.bs,fun b hb=>let⟨o,q,d⟩:=I.fr b hb;⟨o,⟨q.1,fun z=>let⟨i,_,q'⟩:=sH I.toHR lt z;q.2.1 (adF q'),q.2.2.1,rfl⟩,d⟩⟩;have hj:j<is.length:=by rw[l];exact(adv.mp e1).1
 obtain⟨i,hi⟩:∃i,is[j]? =some i:=⟨_,adx hj⟩
 obtain⟨a',ha⟩:=g i (adF hi)
 cases(oG hi ha).symm.trans e2
 exact(I.obj i o a (by rw[k j i hi];exact e1) ha).pure (mX pu e1)
theorem sL{F:Fz}{m:Zs}:∀{ps:Y2}{us:Z3}{n:Nat}{m':Zs},ay G F m ps us->qd ps=true->(∀(j i:Nat) a,(T7 ps)[j]? =some i->m[i]? =some a->m'[n+j]? =some a)->ay G F m' (VG n ps) us
 |[],_,_,_,.nil,_,_=>.nil
 |p::ps,_,n,m',.cons r t,ok,k=>by
  have z:p.pure=true/\qd ps=true/\T7 (p::ps)=T7 ps/\VG n (p::ps)=p::VG n ps\/∃i,p=.ref i:=by cases p<;>first|exact .inr ⟨_,rfl⟩|exact .inl ⟨(adI _ _▸ok).1,(adI _ _▸ok).2,rfl,rfl⟩
  rcases z with⟨z,o,e,e'⟩|⟨i,rfl⟩
  .rw[e'];rw[e]at k;exact .cons (r.mono (fun _ _ e=>e) (.inl z)) (sL t o k)
  .cases r with
   |ref e=>exact .cons (.ref (k 0 i _ rfl e)) (sL t ok fun j i a e1 e2=>by have:=k (j+1) i a e1 e2;rwa [show n+1+j=n+(j+1) by lia])
def Uc.WR{c:Bool}{f:Addr}{fd:FuncData}{ps:Zl}(F:Uc X.toSC c k f fd ps fn)(hr:dP k X.A)(hc:c=true->X.calm=true)(hb:hX X.K fd ps [])(I:Inv X w ρ h)(r:ay X.toSC w.F w.m qs us)(p:bu X (RV X.toSC) w Q E (fn qs h)):Wp X (call (.ref f) us) Q E w.s:=by refine ae7 (F.run rfl hr (fun z=>I.ok.hd (hc z)) I.ok.frames I.toWd I.ok r (by simpa using hb w.s us I.Qs (by rw[adU,<- r.length];exact F.len _ _ fun z=>by rw[z]at p;exact p)) p.c)
theorem Uc.z6{c:Bool}{f:Addr}{fd:FuncData}{k:Nat}{ps:Zl}{fn:Y2->Y3->Res PV}{ρ:Ev}{qs:Y2}{us:Z3}{Q:Yf}{E:Yf}(F:Uc X.toSC c k f fd ps fn)(hr:dP k X.A)(hc:c=true->X.calm=true)(hb:hX X.K fd ps [])(I:Inv X w ρ h)(r:ay X.toSC w.F w.m qs us)(p:bu X (RV X.toSC) w Q E (z6 fn qs h)):Wp X (call (.ref f) us) Q E w.s:=by
 unfold Z.z6 at p
 split at p
 .rename_i hs e
  split at p
  .rename_i c;simp only[adI]at c;obtain⟨⟨c1,c2⟩,c3⟩:=c;obtain⟨gl,gk⟩:=lK e;have nd:=pY c3
   have lt:∀i∈T7 qs,i<h.length:=fun i hi=>by obtain⟨j,hj,rfl⟩:=aeP.mp hi;have:=gk j _ (adx hj);rw[adx (show j<hs.length from gl▸hj)]at this;exact(adv.mp this).1
   have r':ay X.toSC w.F (sel w.m (T7 qs)) (VG 0 qs) us:=sL r c1 fun j i a e1 e2=>by rw[afX];exact oG e1 e2
   have I':=I.toWd.sel e nd c2 lt;have hm:∀a∈sel w.m (T7 qs),a∈w.m:=fun a z=>let⟨i,_,q⟩:=sH I.toHR lt z;adF q
   have bk:∀{w1:Wo}{U4:Y3},Nw X ⟨w.F,fun _=>none,sel w.m (T7 qs),w.s⟩ w1 U4->dY U4=true->U4.length=hs.length->Nw X w ⟨w1.F,w.O,w.m,w1.s⟩ (Z.fT h (T7 qs) U4):=fun{w1 U4} y pu l=>by
    have pg:=fun i=>pP (i:=i) (h:=h) (hs:=U4) nd (gl.trans l.symm) lt;refine Nw.back I.toWd y.1 y.2 (pO _ _ _) hm (fun i po a e1 e2 z=>?_) fun i po a e1 e2 z=>?_
    .obtain⟨i',Wc,e3⟩:=sH I.toHR lt z
     have:i=i':=by obtain⟨l1,q1⟩:=adv.mp e2;obtain⟨l2,q2⟩:=adv.mp e3;exact(aeH I.nd).mp (q1.trans q2.symm)
     subst this;obtain⟨j,hj,rfl⟩:=aeP.mp Wc;have ej:=adx hj;rw[(pg _).1 j ej]at e1;exact(y.2.obj j po a e1 (y.1.sub j a (oG ej e2))).pure (mX pu e1)
    .rw[(pg i).2 fun hi=>z (adF (oG (adx (aeP.mp hi).choose_spec.choose) (by rw[(aeP.mp hi).choose_spec.choose_spec];exact e2)))]at e1;exact e1
   refine ae7 (F.run (w:=⟨w.F,fun _=>none,sel w.m (T7 qs),w.s⟩) rfl hr (fun z=>I.ok.hd (hc z)) I.ok.frames I' I.ok r' (by simpa using hb w.s us I.Qs (by rw[adU,<- r'.length];exact F.len _ _ fun z=>by rw[z]at p;exact p)) ?_)
   split at p
   .rename_i e1;rw[e1]
    split at p
    .rename_i c;exact fun w1 x y r1=>p.2 ⟨w1.F,w.O,w.m,w1.s⟩ _ (bk y c.2.1 c.2.2) (r1.mono (fun _ _ e=>e) (.inl c.1))
    .exact p.elim
   .rename_i e1;rw[e1]
    split at p
    .rename_i c;refine fun w1 x y r1=>p.2 ⟨w1.F,w.O,w.m,w1.s⟩ _ (bk y c.2.1 c.2.2) (r1.to c.1 rfl rfl rfl fun b z=>?_);have nf:¬ S8 w b->b∉X.fs:=fun n z=>let⟨_,q,_⟩:=I.fr _ z;n q.2
     by_cases z1:b∈w.m
     .exact .inr ⟨I.toHR.there z1,nf fun y=>y.1 z1⟩
     .by_cases z2:w.O b=none
      .exact .inl fun y=>z ⟨z1,y.2.1,z2⟩
      .obtain⟨o,q⟩:=Option.ne_none_iff_exists'.mp z2;exact .inr ⟨(I.own b o q).1,nf fun y=>z2 y.2.2⟩
    .exact p.elim
   .exact p.elim
  .exact p.elim
 .exact p.elim
structure ZL(X:Cx)(x:Str)(fn:Y2->Y3->Res PV):Prop where
 ex:∃c k f fd ps,Uc X.toSC c k f fd ps fn/\dP k X.A/\(c=true->X.calm=true)/\X.mg x=some (.ref f)/\W.keepIn X.K (.ref f)=true/\hX X.K fd ps []
variable{e:Expr}{fs:Ax}
def AL(c:ZL X x fn)(hg:Gl X x)(ha:RA X (e::es) fs)(Qt:(x==("__debug__":Str))=false)(he:starEach (e::es) X.env=(false,eval e X.env)::starEach es X.env)(S_:(backTo pos (starEach es X.env)).any (·.1)=false):RE X (.Call (.Name x p0) (e::es) [] pos) (bx fn fs):=⟨fun I p=>by obtain⟨c,k,f,fd,ps,F,hr,hc,hm,hk,hb⟩:=c.ex;exact ad9 (I.Vu hg hm (afg (h₀:=X.base) I.ok.Rd hk (ha.r pos I (p.bind fun _ _ _ _ y r p=>⟨(I.on y).Qs,F.z6 hr hc hb (I.on y) r p⟩)) he S_) Qt)⟩
def AM(c:ZL X x fn)(hg:Gl X x)(ha:RA X (e::es) fs)(Qt:(x==("__debug__":Str))=false)(he:starEach (e::es) X.env=(false,eval e X.env)::starEach es X.env)(S_:(backTo pos (starEach es X.env)).any (·.1)=false):RE X (.Call (.Name x p0) (e::es) [] pos) (cB fn fs):=⟨fun I p=>by obtain⟨c,k,f,fd,ps,F,hr,hc,hm,hk,hb⟩:=c.ex;exact ad9 (I.Vu hg hm (afg (h₀:=X.base) I.ok.Rd hk (ha.r pos I (p.bind fun _ _ _ _ y r p=>⟨(I.on y).Qs,F.WR hr hc hb (I.on y) r p⟩)) he S_) Qt)⟩
end
noncomputable def je(C:Nat)(h:Y3):PV->Option (Nat×Y2)
 |.ref i=>match h[i]? with
  |some (.obj D ps)=>if D=C then some (i,ps)else none
  |_=>none
 |_=>none
def pU(C j:Nat)(p:PV)(h:Y3):Res PV:=match je C h p with
 |some (_,ps)=>match ps[j]? with
  |some q=>.ok (aj h q) h
  |none=>.bad
 |none=>.bad
def qS(C j:Nat)(v p:PV)(ρ:Ev)(h:Y3):SR:=match je C h p with
 |some (i,ps)=>if j<ps.length then .nx ρ (h.set i (.obj C (ps.set j v)))else if j=ps.length then .nx ρ (h.set i (.obj C (ps++ [v])))else .bad
 |none=>.bad
def uo(C j:Nat)(fo fv:Ex):Sx:=fun ρ h=>df (fv ρ h) fun v h1=>df (fo ρ h1) fun o h2=>qS C j v o ρ h2
def cZ(C:Nat)(fn:Y2->Y3->Res PV)(o:Ex)(as:Ax):Ex:=fun ρ h=>(o ρ h).bind fun p h1=>match je C h1 p with
 |some _=>(as ρ h1).bind fun ps h2=>fn (p::ps) h2
 |none=>.bad
noncomputable def Wx(C:Nat)(fn:Y2->Y3->Res PV)(ps:Y2)(h:Y3):Res PV:=match fn (.ref h.length::ps) (h++ [.obj C []])with
 |.ok .non h2=>.ok (.ref h.length) h2
 |_=>.bad
def Ck(C:Nat)(fn:Y2->Y3->Res PV)(as:Ax):Ex:=fun ρ h=>(as ρ h).bind (Wx C fn)
section
variable{y:Value}
theorem oZ:∀{ns:Zl}{vs:Z3}{j:Nat}{v:Value},ns.Nodup->ns[j]? =some f->vs[j]? =some v->(ns.zip vs).lookup f=some v
 |[],_,_,_,_,e,_=>by simp at e
 |n::ns,[],j,v,_,_,e=>by simp at e
 |n::ns,x::vs,0,v,_,e1,e2=>by cases e1;cases e2;simp[List.lookup]
 |n::ns,x::vs,j+1,v,nd,e1,e2=>by
  rw[aem]at nd;have ne:f≠n:=fun z=>nd.1 (z▸adF e1);have:(f==n)=false:=by simpa using ne
  rw[af5,List.lookup,this];exact oZ nd.2 e1 e2
theorem kR:∀{ns:Zl}{vs:Z3},f∉ns->(ns.zip vs).lookup f=none
 |[],_,_=>by simp
 |n::ns,[],_=>by simp
 |n::ns,x::vs,h=>by
  have:(f==n)=false:=by simpa using fun z=>h (by simp[z])
  rw[af5,List.lookup,this];exact kR fun z=>h (adG _ z)
theorem xr{n:Str}:∀{ns:Zl}{vs:Z3}{j:Nat},ns.Nodup->ns[j]? =some f->j<=vs.length->(ns.zip (vs.take j++y::vs.drop (j+1))).lookup n=if n=f then some y else(ns.zip vs).lookup n
 |[],_,_,_,e,_=>by simp at e
 |g::ns,vs,0,_,e,_=>by
  cases e
  by_cases z:n=f
  .simp[z,List.lookup]
  .have:(n==f)=false:=by simpa using z
   cases vs<;>simp[List.lookup,this,z]
 |g::ns,[],j+1,_,_,e=>by simp at e
 |g::ns,x::vs,j+1,nd,e1,l=>by
  rw[aem]at nd;have ih:=xr (n:=n) nd.2 e1 (Nat.le_of_succ_le_succ l);simp only[List.take_succ_cons,List.drop_succ_cons,aei,af5,List.lookup]
  by_cases z:n=g
  .have:n≠f:=fun z'=>nd.1 (z▸z'▸adF e1);simp[z,if_neg (z▸this)]
  .have:(n==g)=false:=by simpa using z
   simp only[this];exact ih
end
theorem qf{y:Str}{v:Value}:∀{fs:List (Str×Value)},fs.lookup y=some v->(y,v)∈fs
 |p::r,e=>by
  simp only[List.lookup]at e
  split at e
  .rename_i q;cases e;cases afe q;simp
  .exact adG _ (qf e)
def BW(C:Nat):(Uy C).Nodup:=by unfold Uy;split<;>decide+kernel
def EA(C:Nat):(Uy C).length<100:=by unfold Uy;split<;>decide+kernel
structure Cls(K:W.Frag)(C:Addr):Prop where
 pg:W.plainGet K C Str.empty=true
 hd:W.hasDictIn K C=true
 po:W.plainOver K C=true
 sa:W.findIn K (.ref C) "__setattr__"=some (some (.builtin "object.__setattr__"))
def tQ(K:W.Frag)(C:Addr)(f:Str):Prop:=W.findIn K (.ref C) f=some none
structure cD(K:W.Frag)(C:Addr)(m:Str)(f:Addr):Prop where
 at_:W.findIn K (.ref C) m=some (some (.ref f))
 fn:W.isFn K (.ref f)=true
 kp:W.keepIn K (.ref f)=true
structure Mk(K:W.Frag)(C f:Addr):Prop where
 makes:W.makesIn K C=true
 init:W.findIn K (.ref C) "__init__"=some (some (.ref f))
 fn:W.isFn K (.ref f)=true
 kp:W.keepIn K (.ref C)=true
def OM(g:Heap)(a dx C:Addr)(fs:List (Str×Value)):Prop:=g.get? a=some (W.instObj C dx)/\∃od,g.get? dx=some od/\Wi od fs
section
variable{M:Model}{P:Program}{wd:World}{K:W.Frag}{s:Shared}{dx:Addr}{fs:List (Str×Value)}
def rA{od:Obj}(n:Wi od fs)(name:Str):W.lookIn name od=some (fs.lookup name):=by
 obtain⟨es,ep,hd,hk,_,hm⟩:=n;have e:=hm name;unfold nsFind findBy at e;rw[<- Array.find?_toList]at e;unfold W.lookIn;rw[hd];dsimp only
 split
 .rename_i y q;rw[q]at e;exact congrArg some e
 .rename_i q;rw[q]at e
  have n:es.toList.any (·.refKey)=false:=by rw[List.any_eq_false];intro y hy;obtain⟨z,t,Z1⟩:=hk y (Array.mem_toList_iff.mp hy);simp[DictEntry.refKey,Z1]
  rw[if_neg (by rw[n];exact aeX)];exact congrArg some e
def OM.look{g:Heap}(I:OM g a dx C fs):∃od,W.InstAt g a (W.instObj C dx) C (some od)/\∀name,W.lookIn name od=some (fs.lookup name):=
 let⟨hx,od,ho,n⟩:=I;⟨od,⟨hx,rfl,rfl,ho⟩,rA n⟩
def Ew{b:Bool}(k:K.In s.heap)(I:OM s.heap a dx C fs)(c:Cls K C)(n:tQ K C f)(l:fs.lookup f=some v)(hv:W.handedIn v=true)(h:Q v { s with toks:=s.toks+1 }):wpAny (model P wd) A (getAttr (.ref a) f b) Q E s:=by obtain⟨od,J,hl⟩:=I.look;exact W.get_value k J (ahb c.pg).1 (W.findObj_own c.hd n rfl (by rw[hl,l])) hv h
def qv{g:Addr}{pl:Sem Bool}{Q:Value×Z3->Shared->Prop}(k:K.In s.heap)(I:OM s.heap a dx C fs)(c:Cls K C)(m:cD K C f g)(l:fs.lookup f=none)(h:Q (.ref g,[.ref a]) s):wpAny (model P wd) A (getMethod (.ref a) f pl) Q E s:=by obtain⟨od,J,hl⟩:=I.look;exact W.method_fn k J (ahb (name:=f) c.pg).1 (ahb (name:=f) c.pg).2 m.at_ (beq_iff_eq.mp m.fn) (by show(W.lookIn f od).map (·.isSome)=some false;rw[hl,l];rfl) h
def CQ{Q:Unit->Shared->Prop}(k:K.In s.heap)(I:OM s.heap a dx C fs)(ne:dx≠a)(c:Cls K C)(n:tQ K C f)(z:fs.length<=sizeLine)(h:∀h',h'.Ns1 dx (fun y=>if y=f then some v else fs.lookup y)->Heap.SameBut dx s.heap h'->Q () { s with heap:=h',toks:=s.toks+2 }):wpAny (model P wd) A (setAttr (.ref a) f v) Q E s:=by
 obtain⟨od,J,hl⟩:=I.look;obtain⟨hx,Wu,ho,es,ep,q1,q2,q3,q4⟩:=id I;have ns:s.heap.Ns1 dx fun y=>fs.lookup y:=⟨Wu,es,ep,ho,q1,q2,q3,q4⟩
 have hw:PySem.Within (fun y=>fs.lookup y) (fs.map (·.1)):=fun y hy=>by
  cases e:fs.lookup y with
  |none=>exact absurd e hy
  |some v=>exact adT.mpr ⟨(y,v),qf e,rfl⟩
 refine W.set_plain k J c.sa (W.osa_open (s:={ s with toks:=s.toks+1 }) (r:=none) k J c.po (by unfold W.takerIn;rw[show W.findIn K (.ref C) f=some none from n];rfl) fun b=>?_);obtain⟨cd,hc,Vt⟩:=W.any_some c.hd;refine adq (adB (adq (adq (wpAny_loadPart (show s.heap.get? a=some ⟨.ref C,some dx,.plain, #[]⟩from hx) (adq (ahs (s:={ s with toks:=s.toks+1 }) (W.looks_clsIn k hc) ?_))))));rw[Vt];refine adB (a:=some dx) (adq (adB (adq ?_)));refine wpAny_nsSet1 (s:={ s with toks:=s.toks+1 }) ns fun h' hn2 hs2=>?_;obtain⟨oD,esD,epD,ZV,Z7,Z_⟩:=hn2.count (aht f v hw);exact adq (wpAny_lookBehind ZV (by rw[Z7];exact pastItsLine_dict (adR Z_ (by rw[adu,adJ];lia))) (adB (h _ hn2 hs2)))
end
section
variable{w:Wo}{po:PO}
def Nw.upd(H:HR X.toSC w h)(em:w.m[i]? =some a)(n:w.F a=none)(k:∀b o,w.s.heap.get? b=some o->b=a\/w.O b=some a\/s'.heap.get? b=some o)(d:∀b o,w.s.heap.get? b=some o->∃o',s'.heap.get? b=some o')(q:qP X.toSC w.F w.m w.O s'.heap a po)(ho:s'.os=w.s.os:=by rfl)(hg:s'.gens=w.s.gens:=by rfl):Nw X w { w with s:=s' } (h.set i po):=by
 have k':∀b o,w.s.heap.get? b=some o->b≠a->w.O b≠some a->s'.heap.get? b=some o:=fun b o e x y=>(k b o e).elim (fun z=>absurd z x) fun z=>z.resolve_left y;refine⟨⟨ho,fun q=>hg▸q,fun _ _ e=>e,fun _ _ e=>e,⟨[],by simp⟩,d,fun b o q _=>⟨o.slots,⟨k' b o q.1 (fun z=>q.2.1 (z▸adF em)) (by rw[q.2.2.2];exact fun z=>nomatch z),q.2⟩,.inr rfl⟩⟩,fun b o e=>k' b o (H.sub b o e) (fun z=>by rw[z,n]at e;cases e) (fun z=>by rw[(H.own b a z).2.2]at e;cases e),fun b x e=>let⟨⟨o,q⟩,z⟩:=H.own b x e;⟨d b o q,z⟩,by simp[H.len],H.nd,fun j o b e1 e2=>?_⟩
 by_cases z:j=i
 .subst z
  cases em.symm.trans e2
  rw[afr (H.len▸(adv.mp em).1)]at e1
  cases e1;exact q
 .rw[aeQ (afW z)]at e1
  have nb:b≠a:=fun y=>z (by obtain⟨l1,q1⟩:=adv.mp e2;obtain⟨l2,q2⟩:=adv.mp em;exact(aeH H.nd).mp (q1.trans (y.trans q2.symm)))
  exact(H.obj j o b e1 e2).on (fun _ _ e=>e) (fun _ e=>e) (fun _ _ e=>e) (fun c o e y=>k' c o e (y.elim (fun y=>y▸nb) fun y z=>by subst z;exact(H.own _ _ y).2.1 (adF em)) (y.elim (fun y z=>(H.own c a z).2.1 (y▸adF e2)) fun y z=>nb (aed (y.symm.trans z)))) id
inductive Ob0(G:SC)(w:Wo)(C i:Nat)(p:PV)(u:Value)(ps:Y2):Prop where
 |mk (a Ca dx:Addr) (vs:Z3) (_:u=.ref a) (_:p=.ref i) (_:w.m[i]? =some a) (_:w.F a=none) (_:G.T C=some Ca) (_:OM w.s.heap a dx Ca ((Uy C).zip vs)) (_:dx≠a) (_:w.O dx=some a) (_:vs.length<=(Uy C).length) (_:ay G w.F w.m ps vs)
def HR.ob{C:Nat}{ps:Y2}(H:HR G w h)(r:aP G w.F w.m p u)(e:je C h p=some (i,ps)):Ob0 G w C i p u ps:=by
 unfold je at e
 split at e
 .split at e
  .rename_i q
   split at e<;>cases e
   subst_vars
   cases r with
   |ref em=>obtain⟨f,Ca,dx,od,vs,c,e1,o,e2,n,l,r⟩:=H.obj _ _ _ q em;exact⟨_,Ca,dx,vs,rfl,rfl,em,f,c,⟨e1,od,e2,n⟩,fun z=>(H.own _ _ o).2.1 (z▸adF em),o,l,r⟩
  .cases e
 .cases e
def BJ{F:Fz}{m:Zs}(r:aP G F m p u):W.handedIn u=true:=by cases r<;>rfl
structure OC(X:Cx)(C:Nat):Prop where
 ex:∃Ca,X.T C=some Ca/\Cls X.K Ca/\∀f∈Uy C,tQ X.K Ca f
variable{o value:Expr}{fv:Ex}{pos':Pos}{C:Nat}
def Ha(oc:OC X C)(hj:(Uy C)[j]? =some f)(ho:RE X o fo)(hb:attributeBase o f X.env (eval o X.env)=eval o X.env:=by rfl):RE X (.Attribute o f pos) (c1 (pU C j) fo):=⟨fun I p=>by
 obtain⟨Ca,t,c,n⟩:=oc.ex;refine Attribute_any_ (ho.r I (p.bind fun w1 h1 a u y r p=>?_)) (by rw[ahf,hb]);unfold pU at p
 split at p
 .rename_i e;obtain⟨a,Cb,dx,vs,rfl,_,em,_,c',O,_,_,_,rr⟩:=y.2.ob r e
  cases t.symm.trans c'
  split at p
  .obtain⟨v,e3,rq⟩:=rr.get ‹_›;exact Ew (I.on y).Qs O c (n f (adF hj)) (oZ (BW C) hj e3) (BJ rq) (p.now y.2 (y.2.S5 rq))
  .exact p.elim
 .exact p.elim⟩
def GC(oc:OC X C)(hj:(Uy C)[j]? =some f)(ho:RE X o fo)(hv:RE X value fv)(hs:swapsWith value (some (.Attribute o f pos')) pos.line X.env=pure false:=by rfl):RS X (.Assign [.Attribute o f pos'] value pos) (uo C j fo fv):=⟨fun{w ρ h Q E} I p=>by
 obtain⟨Ca,t,c,n⟩:=oc.ex;refine aft (hv.r I (bp.e p I fun w1 h1 pv v y1 I1 rv p=>ho.r I1 (bp.e p I1 fun w2 h2 po u y2 I2 r p=>?_))) hs;unfold qS at p
 split at p
 .rename_i i ps e;obtain⟨a,Cb,dx,vs,rfl,_,em,hf,c',O,ne,od,l,rr⟩:=I2.toHR.ob r e
  cases t.symm.trans c'
  have lj:=(adv.mp hj).1
  have go:∀qs,qs=ps.take j++pv::ps.drop (j+1)->j<=ps.length->bp X w2 Q E (.nx ρ (h2.set i (.obj C qs)))->Wp X (setAttr (.ref a) f v) (fun _=>Q .next) E w2.s:=by
   rintro qs rfl hl p
   have Z0:j<=vs.length:=rr.length▸hl;refine CQ I2.Qs O ne c (n f (adF hj)) (by have:=EA C;rw[List.length_zip,ae8];lia) fun h' ns sb=>?_;obtain⟨Wu,es,ep,e1,e2,e3,e4,e5⟩:=id ns
   have y3:=Nw.upd (X:=X) (s':={ w2.s with heap:=h',toks:=w2.s.toks+2 }) (po:=.obj C (ps.take j++pv::ps.drop (j+1))) I2.toHR em hf (fun b o e=>by
     by_cases z:b=dx
     .exact .inr (.inl (z▸od))
     .exact .inr (.inr ((sb.2 b z).trans e))) (fun b o e=>by
     by_cases z:b=dx
     .exact⟨Wu,z▸e1⟩
     .exact⟨o,(sb.2 b z).trans e⟩) ⟨hf,Ca,dx,Wu,vs.take j++v::vs.drop (j+1),t,(sb.2 a (afW ne)).trans O.1,od,e1,⟨es,ep,e2,e3,e4,fun m=>by rw[e5 m,xr (BW C) hj Z0]⟩,by simp;lia,(rr.td j).1.app (.cons (y2.1.rep rv) (rr.td (j+1)).2)⟩
   exact p.2 _ y3.s (I2.on y3)
  split at p
  .exact go _ (by rw[List.set_eq_take_append_cons_drop,if_pos ‹_›]) (agy ‹_›) p
  .split at p
   .exact go _ (by subst_vars;simp) (Nat.le_of_eq ‹_›) p
   .exact p.elim
 .exact p.elim⟩
variable{m:Str}{e:Expr}{fs:Ax}
structure ZO(X:Cx)(C:Nat)(m:Str)(fn:Y2->Y3->Res PV):Prop where
 ex:∃Ca c k f fd ps,X.T C=some Ca/\Cls X.K Ca/\cD X.K Ca m f/\m∉Uy C/\Uc X.toSC c k f fd ps fn/\dP k X.A/\(c=true->X.calm=true)/\hX X.K fd ps []
def uy{pl:Sem Bool}(c:ZO X C m fn)(ho:RE X o fo)(ha:RA X (e::es) fs)
  (R9:starEach (e::es) X.env=(false,eval e X.env)::starEach es X.env) (S_:(backTo pos (starEach es X.env)).any (·.1)=false)
  (ht:eval (.Call (.Attribute o m apos) (e::es) [] pos) X.env=(do
   let ov <- eval o X.env
   standAt apos.atName
   let(f,first) <- holding [ov] (getMethod ov m pl)
   callWith pos f first (backTo pos (starEach (e::es) X.env)) (backToKw pos (keywordEach [] X.env)))):
  RE X (.Call (.Attribute o m apos) (e::es) [] pos) (cZ C fn fo fs):=⟨fun I p=>by
 obtain⟨Ca,cc,k,f,fd,ps,t,c,hm,nm,F,hr,hc,hb⟩:=c.ex;refine agA (pl:=pl) (ho.r I (p.bind fun w1 h1 q u y r p=>?_)) ht
 split at p
 .obtain⟨a,Cb,dx,vs,rfl,_,em,_,c',O,_⟩:=y.2.ob r ‹_›
  cases t.symm.trans c'
  have I1:=I.on y;exact qv I1.Qs O c hm (kR nm) (afg (first:=[.ref a]) (h₀:=X.base) I.ok.Rd hm.kp (ha.r pos I1 (p.bind fun w2 h2 qs us y2 r2 p=>⟨(I1.on y2).Qs,F.WR hr hc hb (I1.on y2) (.cons (y2.1.rep r) r2) p⟩)) R9 S_)
 .exact p.elim⟩
def yY{pl:Sem Bool}(c:ZO X C m fn)(ho:RE X o fo)
  (ht:eval (.Call (.Attribute o m apos) [] [] pos) X.env=(do
   let ov <- eval o X.env
   standAt apos.atName
   let(f,first) <- holding [ov] (getMethod ov m pl)
   callWith pos f first (backTo pos (starEach [] X.env)) (backToKw pos (keywordEach [] X.env)))):
  RE X (.Call (.Attribute o m apos) [] [] pos) (cZ C fn fo ai):=⟨fun I p=>by
 obtain⟨Ca,cc,k,f,fd,ps,t,c,hm,nm,F,hr,hc,hb⟩:=c.ex;refine agA (pl:=pl) (ho.r I (p.bind fun w1 h1 q u y r p=>?_)) ht
 split at p
 .obtain⟨a,Cb,dx,vs,rfl,_,em,_,c',O,_⟩:=y.2.ob r ‹_›
  cases t.symm.trans c'
  have I1:=I.on y;exact qv I1.Qs O c hm (kR nm) (agk (first:=[.ref a]) I1.Qs hm.kp (F.WR hr hc hb I1 (.cons r .nil) p))
 .exact p.elim⟩
structure ZK(X:Cx)(C:Nat)(x:Str)(fn:Y2->Y3->Res PV):Prop where
 ex:∃Ca c k f fd ps,X.T C=some Ca/\Mk X.K Ca f/\Uc X.toSC c k f fd ps fn/\dP (k+1) X.A/\(c=true->X.calm=true)/\X.mg x=some (.ref Ca)/\hX X.K fd ps []
def make{Ca g:Addr}{fd:FuncData}{ps:Zl}(t:X.T C=some Ca)(M:Mk X.K Ca g){c:Bool}(F:Uc X.toSC c k g fd ps fn)(hr:dP (k+1) X.A)(hc:c=true->X.calm=true)(hb:hX X.K fd ps [])(I:Inv X w ρ h)(r:ay X.toSC w.F w.m qs us)(p:bu X (RV X.toSC) w Q E (Wx C fn qs h)):Wp X (call (.ref Ca) us) Q E w.s:=by
 have hl:fn (.ref h.length::qs) (h++ [.obj C []])≠.bad:=fun z=>by unfold Wx at p;rw[z]at p;exact p
 let s1:Shared:={ w.s with heap:=(w.s.heap.push W.emptyDict).push (W.instObj Ca w.s.heap.objs.size) }
 let w1:Wo:=⟨w.F,fun d=>if d=w.s.heap.objs.size then some (w.s.heap.objs.size+1)else w.O d,w.m++ [w.s.heap.objs.size+1],s1⟩
 have g0:s1.heap.get? w.s.heap.objs.size=some W.emptyDict:=ady _ (adK _ rfl)
 have e1:s1.heap.get? (w.s.heap.objs.size+1)=some (W.instObj Ca w.s.heap.objs.size):=by
  have:=adK (w.s.heap.push W.emptyDict) (o:=W.instObj Ca w.s.heap.objs.size) rfl
  rwa [show(w.s.heap.push W.emptyDict).objs.size=w.s.heap.objs.size+1 by simp[Heap.push]]at this
 have n0:=aU w.s.heap
 have n1:w.s.heap.get? (w.s.heap.objs.size+1)=none:=by
  cases q:w.s.heap.get? (w.s.heap.objs.size+1)with
  |none=>rfl
  |some o=>exact absurd (ad2 q) (ahF (agi _))
 have y:Nw X w w1 (h++ [.obj C []]):=Nw.mk (s':=s1) I.toHR n1 (fun _ _ e=>ady _ (ady _ e)) ⟨(I.free n1).2.1,Ca,_,_,[],t,e1,if_pos rfl,g0,⟨#[],0,rfl,by intro e he;simp at he,by simp[UniqKeys],fun n=>by simp[nsFind,findBy]⟩,by simp,.nil⟩ (fun d b e=>by
   by_cases z:d=w.s.heap.objs.size
   .rw[z,(I.free n0).2.2]at e;cases e
   .exact(if_neg z).trans e) fun d b e=>by
   by_cases z:d=w.s.heap.objs.size
   .exact .inr ⟨z▸n0,fun z'=>aeF (ahH _) (z.symm.trans z'),_,z▸g0⟩
   .exact .inl ((if_neg z).symm.trans e)
 have I1:=I.on y;have r0:aP X.toSC w1.F w1.m (.ref h.length) (.ref (w.s.heap.objs.size+1)):=.ref (by rw[I.len];simp[w1]);have r1:ay X.toSC w1.F w1.m (.ref h.length::qs) (.ref (w.s.heap.objs.size+1)::us):=.cons r0 (y.1.reps r);refine ae7 (W.make_core (W.makes_of I.Qs M.makes) (agP I.Qs M.init) (fun self=>W.bind_fn I.Qs self (beq_iff_eq.mp M.fn)) (.inl rfl) (afV (F.run (w:=w1) (Q:=fun v s=>v=.none/\Q (.ref (w.s.heap.objs.size+1)) s) (E:=E) rfl (hr.make Ca us []) (fun z=>I.ok.hd (hc z)) (by first|exact I.ok.frames|(simpa[Around.under,Code.envs,Code.isFrame,pushEnvs]using I.ok.frames)) I1.toWd I1.ok r1 (by simpa using hb s1 _ I1.Qs (by rw[adU,<- r1.length];exact F.len _ _ hl)) ?_) ?_))
 .unfold Wx at p
  split at p
  .rename_i e;rw[e];exact fun w' x y' rx=>by obtain rfl:=rx.vn;exact⟨rfl,p.2 _ _ (y.trans y') (y'.1.rep r0)⟩
  .exact p.elim
 .intro r s hq
  cases r with
  |error e=>exact hq
  |ok fl=>
   cases fl with
   |ret u=>exact hq
   |_=>exact False.elim hq
def Dn(c:ZK X C x fn)(hg:Gl X x)(Qt:(x==("__debug__":Str))=false):RE X (.Call (.Name x p0) [] [] pos) (Ck C fn ai):=⟨fun I p=>by obtain⟨Ca,cc,k,f,fd,ps,t,M,F,hr,hc,hm,hb⟩:=c.ex;exact ad9 (I.Vu hg hm (agk I.Qs M.kp (make t M F hr hc hb I .nil p)) Qt)⟩
end
def qK(res:Nat->Option (Y2->Out))(o:Ex)(as:Ax):Ex:=fun ρ h=>(o ρ h).bind fun p h1=>match p with
 |.ins C []=>match res C with
  |some fn=>(as ρ h1).bind fun ps h2=>aX fn (.ins C []::ps) h2
  |none=>.bad
 |_=>.bad
noncomputable def jZ(C:Nat):Ex:=fun _ h=>.ok (.ins C []) h
section
variable{w:Wo}{o e:Expr}{fs:Ax}{m:Str}
structure ZM(X:Cx)(m:Str)(res:Nat->Option (Y2->Z.Out)):Prop where
 ex:∀C fn,res C=some fn->∃Ca k f fd ps,X.T C=some Ca/\Cls X.K Ca/\cD X.K Ca m f/\Vb X.toSC k f fd ps fn/\dP k X.A/\hX X.K fd ps []
def sN{res:Nat->Option (Y2->Z.Out)}{pl:Sem Bool}(c:ZM X m res)(ho:RE X o fo)(ha:RA X (e::es) fs)(hc:X.calm=true:=by rfl)
  (R9:sE0 X e es:=by rfl) (S_:sP0 X es pos:=by rfl)
  (ht:eval (.Call (.Attribute o m apos) (e::es) [] pos) X.env=(do
   let ov <- eval o X.env
   standAt apos.atName
   let(f,first) <- holding [ov] (getMethod ov m pl)
   callWith pos f first (backTo pos (starEach (e::es) X.env)) (backToKw pos (keywordEach [] X.env))):=by rfl):
  RE X (.Call (.Attribute o m apos) (e::es) [] pos) (qK res fo fs):=⟨fun I p=>by
 refine agA (pl:=pl) (ho.r I (p.bind fun w1 h1 q u y r p=>?_)) ht
 split at p
 .split at p
  .obtain⟨Ca,k,f,fd,ps,t,cl,hm,F,hr,hb⟩:=c.ex _ _ ‹_›
   cases id r with
   |ins c' e d n=>
    cases t.symm.trans c'
    have I1:=I.on y;exact qv I1.Qs (fs:=[]) ⟨y.2.at e,_,y.2.at d,n⟩ cl hm rfl (afg (first:=[.ref _]) (h₀:=X.base) I.ok.Rd hm.kp (ha.r pos I1 (p.bind fun w2 h2 qs us y2 r2 p=>⟨(I1.on y2).Qs,F.call hr hc hb (I1.on y2) (.cons (y2.1.rep r) r2) p⟩)) R9 S_)
  .exact p.elim
 .exact p.elim⟩
def zJ{g:Heap}{a b:Obj}(ha:a.isFreed=false)(hb:b.isFreed=false):((g.push a).push b).get? g.objs.size=some a/\((g.push a).push b).get? (g.objs.size+1)=some b:=⟨ady _ (adK _ ha),by
 have:=adK (g.push a) hb
 rwa [afs]at this⟩
structure ZN(X:Cx)(C:Nat)(x:Str):Prop where
 ex:∃Ca,X.T C=some Ca/\W.makesIn X.K Ca=true/\W.findIn X.K (.ref Ca) "__init__"=some (some (.builtin "object.__init__"))/\W.keepIn X.K (.ref Ca)=true/\X.mg x=some (.ref Ca)
def jD{C:Nat}(c:ZN X C x)(hg:Gl X x)(Qt:nD0 x:=by decide):RE X (.Call (.Name x p0) [] [] pos) (jZ C):=⟨fun{w ρ h Q E} I p=>by
 obtain⟨Ca,t,hm,hi,hk,hx⟩:=c.ex;refine ad9 (I.Vu hg hx (agk I.Qs hk ?_) Qt);obtain⟨e1,e2⟩:=zJ (g:=w.s.heap) (a:=W.emptyDict) (b:=W.instObj Ca w.s.heap.objs.size) rfl rfl;have Y:=W.makes_of (M:=model X.prog X.w) I.Qs hm;have t1:W.Looks (model X.prog X.w) ((w.s.heap.push W.emptyDict).push (W.instObj Ca w.s.heap.objs.size)) (typeOf (.ref (w.s.heap.objs.size+1))) (.ref Ca):=(ahX e2).andThen .now;have t2:W.Looks (model X.prog X.w) ((w.s.heap.push W.emptyDict).push (W.instObj Ca w.s.heap.objs.size)) (isInstance (.ref (w.s.heap.objs.size+1)) (.type "object")) true:=t1.andThen (Y.top.keeps fun b o e=>ady _ (ady _ e));refine ae7 (W.make_core Y (agP I.Qs hi) (fun self=>W.Looks.of_pure (W.oi_bind self)) (.inr ⟨rfl,rfl⟩) ?_);refine ae9 W.oi_plain W.entry_oi (@W.check_slot (model X.prog X.w) _ _ _ "object.__init__" "object" "__init__" (.ref (w.s.heap.objs.size+1)) [] [] _ W.oi_kind W.oi_split t2 (W.oi_args (.ref (w.s.heap.objs.size+1))) ?_);simp only[adU,W.oi_run];refine adB ⟨rfl,?_⟩;have y1:=Nw.lay (X:=X) (a:=w.s.heap.objs.size) (s':={ w.s with heap:=w.s.heap.push W.emptyDict }) I.toHR (aU _) (fun _ _ e=>ady _ e) (adK _ rfl);have y2:=Nw.lay (X:=X) (s':={ w.s with heap:=(w.s.heap.push W.emptyDict).push (W.instObj Ca w.s.heap.objs.size) }) y1.2 (aU _) (fun _ _ e=>ady _ e) (adK _ rfl);have e:(w.s.heap.push W.emptyDict).objs.size=w.s.heap.objs.size+1:=afs _ _
 refine p.2 _ _ (y1.trans y2) (.ins t (dx:=w.s.heap.objs.size) ?_ (od:=W.emptyDict) ?_ ⟨#[],0,rfl,fun e he=>absurd he (by simp),by simp[UniqKeys],fun n=>by simp[nsFind,findBy]⟩)
 .rw[<- e];exact bg
 .exact y2.1.fz _ _ bg⟩
def xM(hg:Gl X x)(hm:X.mg x=some u)(r:∀F m,(∀b o,X.base.get? b=some o->F b=some o)->aP X.toSC F m p u)(hd:nD0 x:=by decide):RE X (.Name x pos) (cK p):=⟨fun{w ρ h Q E} I q=>I.Vu hg hm (q.here I.toHR (r w.F w.m I.bs)) hd⟩
def GJ{n:String}(hg:Gl X x)(hm:X.mg x=none)(hv:bootBuiltins x=some (.type n))(hn:x≠"__name__")(hd:(x==("__debug__":Str))=false):RE X (.Name x pos) (cK (.ty n)):=⟨fun I p=>I.blt hg hm hv (p.here I.toHR (.ty n)) hn hd⟩
end
section
open PySem.W PySem.Builtin PySem.Builtin.ObjectAttr PySem.Builtin.Getset_descriptor
structure Cw(K:Frag)(C:Addr):Prop where
 ga:findIn K (.ref C) "__getattribute__"=some (some (.builtin "BaseException.__getattribute__"))
 gt:findIn K (.ref C) "__getattr__"=some none
 mb:mroIn K C (.type "BaseException")=some true
section
variable{w:World}{K:Frag}{x:Addr}{tk:Tok}{s:Shared}
theorem CI{r:Found}{Q:Fin->Shared->Prop}(L0:Looks (model prog w) s.heap (typeOf (.ref x)) (.ref C))(L1:Looks (model prog w) s.heap (find (.ref x) (.ref C) name) r)
  (h:match r with
   |.value v=>Q (.done (.ret v)) s
   |.bind g a=>wpAny (model prog w) A (bindTo g a (.ref x) (.ref C)) Q E s
   |.missing=>False):wpAny (model prog w) A (Builtin.«object.__getattribute__» ⟨[.ref x,.str name tk],[]⟩) Q E s:=by
 obtain⟨hh,g,d,t,os⟩:=s;refine adq (adB (adq (adB (adq (L0.at (adq (L1.at ?_)))))))
 cases r with
 |value v=>exact adB h
 |bind g a=>exact h
 |missing=>exact h.elim
theorem LV{fill expr:Bool}(c:Cw K C)(Rd:K.In s.heap)(L0:Looks (model prog w) s.heap (typeOf (.ref x)) (.ref C))
  (h:codeAny (model prog w) A (.call (.builtin "BaseException.__getattribute__") ⟨[.ref x,.str name tk],[]⟩) (fun r s'=>match r with|.ok (.ret v)=>handedIn v=true/\Q v s'|_=>False) s):
  wpAny (model prog w) A (getAttrBy (.ref x) (.str name tk) fill expr) Q E s:=by
 obtain⟨hh,g,d,t,os⟩:=s;have L1:=looks_findIn (M:=model prog w) Rd c.ga;have Lb:=looks_findIn (M:=model prog w) Rd c.gt
 have no:(onTheHeap (Value.ref C)&&Value.builtin "BaseException.__getattribute__"==Value.builtin "object.__getattribute__")=false:=by rw[show(Value.builtin "BaseException.__getattribute__"==Value.builtin "object.__getattribute__")=false by decide+kernel];rfl
 have no2:(expr&&onTheHeap (Value.builtin "BaseException.__getattribute__"))=false:=by cases expr<;>rfl
 unfold getAttrBy;refine aeA (adq (L0.at (adq (L1.at ?_))));dsimp only;rw[no,if_neg ⋯];unfold getAttrByItsOwn callGetattribute boundAndCalled;rw[no2,if_neg ⋯];refine adq (Lb.at (adq (wpAny_attempt (aeA ?_))));rw[agr.ga.bind];refine adq (adB (ae7 (afV h fun r s' z=>?_)))
 cases r with
 |error e=>exact z.elim
 |ok f=>cases f with
  |ret v=>exact handed_on z.1 z.2
  |next=>exact z.elim
  |brk=>exact z.elim
  |cont=>exact z.elim
def Gg(c:Cw K C)(Rd:K.In s.heap)(L0:Looks (model prog w) s.heap (typeOf (.ref x)) (.ref C))
  (h:wpAny (model prog w) A.in1 (Builtin.«object.__getattribute__» ⟨[.ref x,.str name tk],[]⟩) (fun fin s'=>match fin with|.done f=>R (.ok f) s'|.again c'=>c'.quiet=true/\codeAny (model prog w) A c' R s') (fun e s'=>R (.error e) s') s):
  codeAny (model prog w) A (.call (.builtin "BaseException.__getattribute__") ⟨[.ref x,.str name tk],[]⟩) R s:=by
 have k1:builtinKind "BaseException.__getattribute__"=some .slot:=by decide+kernel
 have k2:splitId "BaseException.__getattribute__"=some ("BaseException","__getattribute__"):=by decide+kernel
 have isB:Looks (model prog w) s.heap (isInstance (.ref x) (.type "BaseException")) true:=L0.andThen (looks_mroIn Rd c.mb);refine ae9 agr.ga.plain PySem.F.entry_bexc_ga (@check_slot (model prog w) _ _ s "BaseException.__getattribute__" "BaseException" "__getattribute__" (.ref x) [.str name tk] [] _ k1 k2 isB (PySem.F.args_bexc_ga (.ref x) (.str name tk)) ?_);exact h
def CG{expr:Bool}(c:Cw K C)(Rd:K.In s.heap)(L0:Looks (model prog w) s.heap (typeOf (.ref x)) (.ref C))(L1:Looks (model prog w) s.heap (find (.ref x) (.ref C) name) (.value v))(hv:handedIn v=true)(h:Q v { s with toks:=s.toks+1 }):
  wpAny (model prog w) A (getAttr (.ref x) name expr) Q E s:=
 adq (wpAny_mkText (LV (s:={ s with toks:=s.toks+1 }) c Rd L0 (Gg (s:={ s with toks:=s.toks+1 }) c Rd L0 (CI (s:={ s with toks:=s.toks+1 }) L0 L1 ⟨hv,h⟩))))
end
noncomputable def vK:Z3->Bool
 |.ref _::r=>vK r
 |l=>l==[.type "ValueError",.type "Exception",.type "BaseException",.type "object"]||l==[.type "Exception",.type "BaseException",.type "object"]
def ja:∀{l:Z3},vK l=true->(l= [.type "ValueError",.type "Exception",.type "BaseException",.type "object"]\/l= [.type "Exception",.type "BaseException",.type "object"])\/∃c r,l=.ref c::r/\vK r=true:=by
 intro l e;unfold vK at e
 split at e
 .exact .inr ⟨_,_,rfl,e⟩
 .rw[aeD]at e;exact .inl (e.imp beq_iff_eq.mp beq_iff_eq.mp)
theorem tX(self:Value):∀(l:Z3),vK l=true->refuseLoop self "__setattr__" l=pure ():=by
 intro l
 induction l with
 |nil=>intro e;rcases ja e with(z|z)|⟨_,_,z,_⟩<;>cases z
 |cons x r ih=>
  intro e;rcases ja e with(z|z)|⟨c,r',z,e'⟩
  .rw[z];exact PySem.F.store_ValueError.passes self
  .rw[z];exact PySem.F.store_Exception.passes self
  .cases z;rw[refuseLoop_ref];exact ih e'
theorem tY:∀(l:Z3),vK l=true->l.contains (.type "object")=true:=by
 intro l
 induction l with
 |nil=>intro e;rcases ja e with(z|z)|⟨_,_,z,_⟩<;>cases z
 |cons x r ih=>
  intro e;rcases ja e with(z|z)|⟨c,r',z,e'⟩
  .rw[z];decide+kernel
  .rw[z];decide+kernel
  .cases z;rw[af8,ih e',ahA]
def Gm(K:Frag)(C:Addr):Bool:=(clsIn K C).any fun cd=>cd.hasDict&&vK cd.mro
noncomputable def ph(K:Frag)(C:Addr)(Tc:Z3)(M6:String):Bool:=match K.lookup C with
 |some ⟨.type "type",_,.cls cd,sl⟩=>(match cd.mro,sl.toList with
  |.ref C'::bm,[_,_,_,_,some (.builtin n),_]=>C'==C&&(n==M6&&(!cd.hasDel&&tailIn K Tc bm))
  |_,_=>false)
 |_=>false
inductive Vj0(h:Heap)(C:Addr)(Tc:Z3)(M6:String):Prop where
 |mk (bm:Z3) (N:Addr) (nm q:Str) (bs:Z3) (SQ:Bool) (sn:Zl) (sub:Z3) (ab:Bool) (Vx:Option Bool) (dd:Option Addr) (k0 k1 k2 k3 k5:Option Value) (_:h.get? C=some (excClassObj nm q C N bs bm SQ sn sub ab Vx dd k0 k1 k2 k3 k5 M6)) (_:OwnTail h Tc bm)
def tU{K:Frag}{h:Heap}{Tc:Z3}{M6:String}(Rd:K.In h)(ok:ph K C Tc M6=true):
  Vj0 h C Tc M6:=by
 unfold ph at ok
 split at ok
 case h_2=>exact absurd ok ⋯
 case h_1 dict aan sls lk=>
  split at ok
  case h_2=>exact absurd ok ⋯
  case h_1 C2 tl f0 f1 f2 f3 nid f5 em es=>
   rw[ado,ado,ado]at ok;obtain⟨z1,z2,z3,z4⟩:=ok;rw[agj]at z3;have T8:sls= #[f0,f1,f2,f3,some (.builtin nid),f5]:=ahM.mp es
   cases beq_iff_eq.mp z1
   cases beq_iff_eq.mp z2
   rcases aan with⟨c1,c2,c3,c4,c5,c6,c7,c8,c9,c10,c11⟩
   change c3=_ at em;change c11=false at z3;subst em z3 T8;exact⟨tl,c4,c1,c5,c2,c6,c7,c8,c9,c10,dict,f0,f1,f2,f3,f5,Rd _ _ lk,tail_of_in Rd z4⟩
section
variable{w:World}{h:Heap}{g:Array GenState}{d:Drawn}{t:Nat}{os:OsState}
variable{nm q:Str}{N fI:Addr}{bs bm Tc Yj:Z3}{SQ:Bool}{sn:Zl}{sub:Z3}{ab:Bool}{Vx:Option Bool}{dd:Option Addr}{k0 k1 k2 k3 k5:Option Value}{B Bn M6 nid SJ inN:String}{oI:Obj}
noncomputable def iF(h:Heap)(C:Addr)(us:Z3):Heap:=
 (h.push { cls:=.type "tuple",data:=.seq us.toArray }).push { cls:=.ref C,data:=.fields #[.ref h.objs.size,.none,.none,.none,.bool false,.none] }
def ig{b:Addr}(e:h.get? b=some o):(iF h C us).get? b=some o:=ady _ (ady _ e)
def mN:(iF h C us).get? (h.objs.size+1)=some { cls:=.ref C,data:=.fields #[.ref h.objs.size,.none,.none,.none,.bool false,.none] }:=by unfold iF;heap_get
def CH{Q:Fin->Shared->Prop}(Fn:ExcBaseFacts Bn M6 inN Yj)(Xf:Tc.contains (.type Bn)=true)(FB:ExcBaseFacts B nid SJ Tc)(T:OwnTail h Tc bm)
  (hc:h.get? C=some (excClassObj nm q C N bs bm SQ sn sub ab Vx dd k0 k1 k2 k3 k5 M6)) (li:∀h',(∀b o,h.get? b=some o->h'.get? b=some o)->Looks (model prog w) h' (typeLookup (.ref C) "__init__") (some (.ref fI)))
  (fo:h.get? fI=some oI) (fc:oI.cls=.type "function") (len:us.length<=sizeLine)
  (go:wpAny (model prog w) A (call (.ref fI) (.ref (h.objs.size+1)::us)) (fun r s'=>r=.none/\Q (.done (.ret (.ref (h.objs.size+1)))) s') E ⟨iF h C us,g,d,t,os⟩):
  wpAny (model prog w) A (Builtin.«type.__call__» ⟨.ref C::us,[]⟩) Q E ⟨h,g,d,t,os⟩:=by
 repeat (first|with_reducible refine wpAny_madeBy_exc hc ?_|with_reducible refine ae5 hc ?_|wp_step)
 refine codeAny_call_builtin_code (ahm _ Fn.quiet) (wpAny_check_new_subU Fn Xf T hc (codeAny_exc_new_subU Fn Xf FB T hc ?_ len));change wpAny _ _ _ _ _ _;have XK:(Value.ref C::bm).contains (.ref C)=true:=by rw[af8];simp
 have c1:(iF h C us).get? C=some (excClassObj nm q C N bs bm SQ sn sub ab Vx dd k0 k1 k2 k3 k5 M6):=ig hc;have e1:=mN (h:=h) (C:=C) (us:=us);have L:=li (iF h C us) fun b o e=>ig e;have f1:(⟨iF h C us,g,d,t,os⟩:Shared).TypeIs (.ref fI) "function":=⟨_,ig fo,fc⟩
 change wpAny _ _ _ _ _ ⟨iF h C us,g,d,t,os⟩;unfold isInstance
 repeat (first|(with_reducible refine agY c1 ?_;rw[XK])|with_reducible refine ae5 e1 ?_|wp_step)
 change wpAny _ _ (typeLookup (.ref C) _) _ _ _;refine L.at ?_;refine aeA (adq ?_);unfold bindSpecial;refine adq (afT f1 ?_);rw[if_pos ⋯];refine adB (adq (ad8 go (fun r s' z=>?_) fun _ _ z=>z));obtain⟨rfl,z⟩:=z
 wp_walk
 exact z
def Gf(Fn:ExcBaseFacts Bn M6 inN Yj)(Xf:Tc.contains (.type Bn)=true)(FB:ExcBaseFacts B nid SJ Tc)(T:OwnTail h Tc bm)
  (hc:h.get? C=some (excClassObj nm q C N bs bm SQ sn sub ab Vx dd k0 k1 k2 k3 k5 M6)) (li:∀h',(∀b o,h.get? b=some o->h'.get? b=some o)->Looks (model prog w) h' (typeLookup (.ref C) "__init__") (some (.ref fI)))
  (fo:h.get? fI=some oI) (fc:oI.cls=.type "function") (len:us.length<=sizeLine)
  (go:wpAny (model prog w) (A.under (.builtin "type.__call__" ⟨.ref C::us,[]⟩)) (call (.ref fI) (.ref (h.objs.size+1)::us)) (fun r s'=>r=.none/\Q (.ref (h.objs.size+1)) s') E ⟨iF h C us,g,d,t,os⟩):
  wpAny (model prog w) A (call (.ref C) us) Q E ⟨h,g,d,t,os⟩:=by
 have g1:=tc_lookup;have g2:=tc_bind (.ref C);have ty:(⟨h,g,d,t,os⟩:Shared).TypeIs (.ref C) "type":=⟨_,hc,rfl⟩
 refine ae7 (codeAny_of_tree ?_);change wpAny _ _ (callAny (.ref C) _) _ _ _
 repeat (any_goals (first|with_reducible refine ae5 hc ?_|assumption|wp_step))
 refine⟨rfl,codeAny_call_builtin_at (ahm _ (by decide+kernel)) entry_typeCall (wpAny_check_type_call_sub hc (CH Fn Xf FB T hc li fo fc len go))⟩
end
noncomputable def jx(h:Heap)(x:Addr):Heap:=(h.push { cls:=.type "dict",data:=.dict #[] }).update x fun o=> { cls:=o.cls,dict:=some h.objs.size,data:=o.data,slots:=o.slots }
section
variable{w:World}{K:Frag}{x:Addr}{ox:Obj}{tk:Tok}{s:Shared}
def zU{h:Heap}(hx:x<h.objs.size):(jx h x).get? h.objs.size=some { cls:=.type "dict",data:=.dict #[] }:=by unfold jx;rw[afh _ _ _ _ (Nat.ne_of_gt hx)];exact Heap.get?_push_at rfl rfl
def IN(Rd:K.In s.heap)(I:W.InstAt s.heap x ox C none)(hdn:ox.dict=none)(vc:Gm K C=true)(ha:findIn K (.ref C) name=some none)
  (go:∀h',h'.Ns1 s.heap.objs.size (fun y=>if y=name then some v else none)->Heap.SameBut s.heap.objs.size (jx s.heap x) h'->R (.ok (.ret .none)) { s with heap:=h',toks:=s.toks+1 }):
  codeAny (model prog w) A (.call (.builtin "object.__setattr__") ⟨[.ref x,.str name tk,v],[]⟩) R s:=by
 obtain⟨cd,hc,hv⟩:=any_some vc;rw[ado]at hv
 have ne:cd.mro.isEmpty=false:=by
  cases z:cd.mro with
  |nil=>rw[z]at hv;exact absurd (tY _ hv.2) ⋯
  |cons _ _=>rfl
 have V5:Looks (model prog w) s.heap (isInstance (.ref x) (.type "object")) true:=I.type.andThen (looks_mroIn Rd (by unfold mroIn;rw[hc,aeG,if_neg (by rw[ne];decide),tY _ hv.2]));have hm:Looks (model prog w) s.heap (mroOf (.ref C)) cd.mro:=(looks_clsIn Rd hc).andThen .now;refine ae9 aeM.slot.plain aeM.entry (@check_slot (model prog w) _ _ s "object.__setattr__" "object" "__setattr__" (.ref x) [.str name tk,v] [] _ aeM.kind aeM.split V5 (aeM.args (.ref x) (.str name tk) v) ?_);rw[osa_eq,refuse_eq];refine adq (adq (I.type.here (adq (hm.here ?_))));rw[tX _ _ hv.2];refine adB (adq (I.type.here (adq ((looks_findIn Rd ha).here (adq (adB (a:=none) ?_))))));obtain⟨hx,X4,hn, -⟩:=I;obtain⟨oc,odi,oda,W9⟩:=ox;dsimp only at X4 hdn;subst X4 hdn;refine adq (adB (adq (adq (wpAny_loadPart hx (adq ((looks_clsIn Rd hc).here ?_))))));rw[hv.1,if_neg ⋯];dsimp only;rw[if_neg (by simp[typeHasDict])]
 split
 .cases hn
 .have x1:(s.heap.push { cls:=.type "dict",data:=.dict #[] }).get? x=some { cls:=.ref C,data:=oda,slots:=W9 }:=ady _ hx;refine adq (wpAny_alloc' (adq (wpAny_update' x1 (adB ?_))));show wpAny _ _ (storeInDict s.heap.objs.size (.str name tk) name v) _ _ { s with heap:=jx s.heap x };have e0:(jx s.heap x).Ns s.heap.objs.size (fun _=>none):=⟨_, #[],_,zU (ad2 hx),rfl,fun e he=>absurd he (by simp),fun _=>rfl⟩
  unfold storeInDict newKeyGuard;refine adq (adB (adq (wpAny_nsSet1 (s:={ s with heap:=jx s.heap x }) (Heap.Ns1.of_empty e0) fun h' n1 sb=>?_)));obtain⟨oD,esD,epD,ZV,Z7,Z_⟩:=n1.count (aht name v PySem.Within.nil);refine adq (wpAny_lookBehind ZV (by rw[Z7];exact pastItsLine_dict (adR Z_ (by rw[ae8,adH];decide))) ?_);exact adB (go h' n1 sb)
end
structure Xk(K:Frag)(C fI:Addr)(f:Str):Prop where
 lies:ph K C [.type "ValueError",.type "Exception",.type "BaseException",.type "object"] "ValueError.__new__"=true\/ph K C [.type "Exception",.type "BaseException",.type "object"] "Exception.__new__"=true
 init:findIn K (.ref C) "__init__"=some (some (.ref fI))
 fn:isFn K (.ref fI)=true
 kp:keepIn K (.ref C)=true
 v:Gm K C=true
 sa:findIn K (.ref C) "__setattr__"=some (some (.builtin "object.__setattr__"))
 no:findIn K (.ref C) f=some none
 hd:hasDictIn K C=true
 x:Cw K C
inductive Xp0(Ee:Yf)(v:Value)(s1:Shared):Prop where
 |mk (e C N t:Addr) (dx:Option Addr) (sl:Array (Option Value)) (nm q:Str) (bs bm:Z3) (SQ:Bool) (sn:Zl) (sub:Z3) (ab:Bool) (Vx:Option Bool) (dd:Option Addr) (k0 k1 k2 k3 k5:Option Value) (nid:String) (_:v=.ref e) (_:s1.heap.get? C=some (excClassObj nm q C N bs bm SQ sn sub ab Vx dd k0 k1 k2 k3 k5 nid)) (_:bm.contains (.type "BaseException")=true) (_:s1.heap.get? e=some ⟨.ref C,dx,.fields #[.ref t,.none,.none,.none,.bool false,.none],sl⟩) (_:Ee (.ref e) s1)
def vZ{M:Model}{Ee:Yf}{env:Env}{x:Sem Value}{Q:Flow->Shared->Prop}{s:Shared}(hh:A.handled=none)
  (h:wpAny M A x (Xp0 Ee) Ee s):
  wpAny M A (raiseStmt env (some x) none) Q Ee s:=by
 unfold raiseStmt;refine adq (ad8 h (fun v s1 z=>?_) fun _ _ z=>z);obtain⟨e,C,N,t,dx,sl,nm,q,bs,bm,SQ,sn,sub,ab,Vx,dd,k0,k1,k2,k3,k5,nid,rfl,hC,hB,he,hE⟩:=z;have both:(Value.ref C::bm).contains (.type "BaseException")=true:=by rw[af8,hB,ahA]
 obtain⟨hp,g,d,tk,os⟩:=s1
 repeat (first|with_reducible refine ae5 he ?_|with_reducible refine ae5 hC ?_|(with_reducible refine agY hC ?_;rw[both])|wp_step)
 exact wpAny_raiseNew_none hh hE
end
noncomputable def sO(C:Nat):Res Y2->SR
 |.ok [v] h1=>.exc (.TY C v) h1
 |.exc e h1=>.exc e h1
 |_=>.bad
def jb(z:Bool)(C:Nat)(as:Ax):Sx:=if z=true then fun ρ h=>sO C (as ρ h)else fun _ _=>.bad
noncomputable def Xy(ok:Nat->Bool)(p:PV)(h:Y3):Res PV:=match p with
 |.TY C v=>if ok C=true then .ok v h else .bad
 |_=>.bad
section
variable{w w3:Wo}
def zL{vs:Array Value}{a0:Value}(ok:X.Ok)(W:Wd X w3 h)(y:RZ X w w3)(tr:X.tr=true)(nw:w.s.heap.get? a=none)(ha:Has w3 a o)(hd:o.data=.fields vs)(h0:vs[0]? =some a0)(h1:vs[1]? =some .none):Yp X w w3 a o.cls o.dict:=by
 have na:a∉X.fs:=fun z=>by obtain⟨o',q,d⟩:=W.fr a z;have q:=q.1;rw[ha.1]at q;cases q;exact d vs hd
 refine⟨⟨a0,PySem.W.hideAll w3.s.heap (a::X.fs),.inr ⟨tr,fun b o q=>PySem.W.of_hideAll _ q,agQ _ (by simp),rK (fun env he=>?_) fun b hb=>let⟨o,q,d⟩:=W.fr b hb;⟨o,q.1,d⟩,o,vs,ha.1,rfl,hd,h0,h1⟩,fun b o' e n=>?_,fun b z=>?_⟩,o,ha.1,rfl⟩
 .obtain⟨k,L,e,_⟩:=ok.sf env he;exact⟨k,L,e,agQ _ (adG _ (List.mem_filterMap.mpr ⟨env,he,e⟩))⟩
 .obtain⟨o2,q⟩:=y.dom b o' e;exact⟨o2,ag2 _ q (by simp only[adD,not_or];exact⟨fun z=>(by rw[z,nw]at e;cases e),n⟩)⟩
 .have nb:b∉a::X.fs:=by simp only[adD,not_or];exact⟨fun q=>z (q▸ha.2),fun q=>let⟨_,r,_⟩:=W.fr b q;z r.2⟩
  have go:(∃o,w3.s.heap.get? b=some o)->∃o',(PySem.W.hideAll w3.s.heap (a::X.fs)).get? b=some o':=(by rintro ⟨o,q⟩;exact ⟨o,ag2 _ q nb⟩)
  by_cases z1:b∈w3.m
  .exact go (W.toHR.there z1)
  .cases z2:w3.F b with
   |some o=>exact go ⟨o,W.sub b o z2⟩
   |none=>cases z3:w3.O b with
    |some x=>exact go (W.own b x z3).1
    |none=>exact absurd ⟨z1,z2,z3⟩ z
variable{C:Nat}{np S6:Pos}{e0:Expr}{fs:Ax}
structure FnX(G:SC)(fI:Addr)(fd:FuncData)(ps:Zl)(f:Str):Prop where
 len:ps.length=2
 run:∀{X:Cx}{w:Wo}{h:Y3}{A:Around}{C:Nat}{Ca a:Addr}{o:Obj}{vs:Array Value}{v:PV}{u:Value}{args:Args}{Q:Yf}{E:Yf},X.toSC=G->dP 1 A->A.handled=none->A.frames=some X.stack->Wd X w h->X.Ok->G.T C=some Ca->Xk G.K Ca fI f->Has w a o->o.cls=.ref Ca->o.data=.fields vs->o.dict=none->aP G w.F w.m v u->BindsTo w.s fd args (ps.zip [.ref a,u])->
  (∀h' t dx od,(∀b o,b≠a->w.s.heap.get? b=some o->h'.get? b=some o)->h'.get? a=some { o with dict:=some dx }->w.s.heap.get? dx=none->h'.get? dx=some od->Wi od [(f,u)]->Q .none { w.s with heap:=h',toks:=t })->codeAny (model G.prog G.w) A (.call (.ref fI) args) (RC Q E) w.s
def HR.freeze(H:HR G w h)(ha:Has w a o):HR G ⟨gD w.F a o,w.O,w.m,w.s⟩ h:=by
 have nb:∀{b},¬ S8 w b->b≠a:=fun n z=>n (z▸ha.2);refine⟨fun b x e=>?_,fun d b e=>let⟨q,z,y⟩:=H.own d b e;⟨q,z,cT (nb fun z=>by rw[z.2.2]at e;cases e) y⟩,H.len,H.nd,fun i po b e1 e2=>(H.obj i po b e1 e2).on (cx ha.2.2.1) (fun _ e=>e) (fun _ _ e=>e) (fun _ _ e _=>e) (cT (nb fun z=>z.1 (adF e2)))⟩
 by_cases z:b=a
 .subst z;cases bg.symm.trans e;exact ha.1
 .exact H.sub b x ((kB z).symm.trans e)
def BX{N ps:Zl}{qual y':Str}{st:Stmt}{fI:Addr}{fd:FuncData}{p1 p2 p3 p4:Pos}(F:W3 G.K name qual st fI fd)(S:kI N ps (aR st))(hl:ps.length=2)(hx:N[0]? =some x)(hy:N[1]? =some y')(hb:gN st= [.Assign [.Attribute (.Name x p1) f p2] (.Name y' p3) p4])
  (hs:∀env,swapsWith (.Name y' p3) (some (.Attribute (.Name x p1) f p2)) p4.line env=pure false:=by intro _;rfl) (hd:nD0 x:=by decide) (VL:(x==("__classdict__":Str))=false:=by decide) (Vt:(y'==("__debug__":Str))=false:=by decide) (Z9:(y'==("__classdict__":Str))=false:=by decide):FnX G fI fd ps f where
 len:=hl
 run {X w h A C Ca a o vs v u args Q E} hG hr hn hf I ok t c ha X4 hda hdi r hbd q:=by
  subst hG
  have H':Wd X ⟨gD w.F a o,w.O,w.m,w.s⟩ h:=⟨I.toHR.freeze ha,I.ba,fun b o' e=>cx ha.2.2.1 _ _ (I.bs b o' e),fun b hb=>by obtain⟨o',z,d⟩:=I.fr b hb;exact⟨o',⟨z.1,z.2.1,cT (fun y=>by subst y;have z:=z.1;rw[ha.1]at z;cases z;exact d vs hda) z.2.2.1,z.2.2.2⟩,d⟩⟩
  refine nL (c:=true) (w:=⟨gD w.F a o,w.O,w.m,w.s⟩) (qs:=[.exc C,v]) F S hr (fun _=>hn) hf H' ok hl.symm (.cons (.exc t bg X4 hda) (.cons (r.mono (cx ha.2.2.1) (.inr fun _ _ e=>e)) .nil)) hbd fun cd s1 _ nw y J gr=>?_;obtain⟨h1,t1,rfl,kp,m,ns,lk⟩:=gr;have px:ps[0]? =some x/\ps[1]? =some y':=by rw[<- S.pre,hl];exact⟨by rw[aej ⋯];exact hx,by rw[aej ⋯];exact hy⟩
  rw[hb];refine afc (aft ((lk 1 _ _ px.2 rfl).nm ns J.ok ((lk 0 _ _ px.1 rfl).nm ns J.ok ?_ hd VL) Vt Z9) (hs _));have ho:h1.get? a=some o:=kp _ _ ha.1;have I0:W.InstAt h1 a o Ca none:=⟨ho,X4,by unfold W.notCls;rw[hda],by rw[hdi];exact True.intro⟩
  refine W.set_plain J.Qs I0 c.sa (IN (s:={ w.s with heap:=h1,toks:=t1+1 }) J.Qs I0 hdi c.v c.no fun h' ns' sb=>aew ?_);obtain⟨od,es,ep,e1,e2,e3,e4,e5⟩:=ns';have ne:a≠h1.objs.size:=aeF (ad2 ho)
  have hk:∀b q,b≠a->h1.get? b=some q->h'.get? b=some q:=fun b q hb z=>by rw[sb.2 b (aeF (ad2 z))];unfold jx;rw[afh _ _ _ _ hb];exact ady _ z
  refine q h' _ h1.objs.size od (fun b q hb z=>hk b q hb (kp b q z)) ?_ ?_ e1 ⟨es,ep,e2,e3,e4,fun n=>?_⟩
  .rw[sb.2 a ne];unfold jx;refine ae4 _ (ady _ ho) ?_;have fr:=(ahk.mp ho).2;obtain⟨oc,od,odt,W9⟩:=o
   cases odt<;>first|rfl|exact fr
  .cases z:w.s.heap.get? h1.objs.size with
   |none=>rfl
   |some o=>have:=kp _ _ z;rw[aU]at this;cases this
  .rw[e5 n]
   by_cases z:n=f
   .simp[z,List.lookup]
   .have:(n==f)=false:=by simpa using z
    simp[z,List.lookup,this]
structure ZI(X:Cx)(C:Nat)(x:Str):Prop where
 ex:∃Ca fI fd ps,X.T C=some Ca/\X.mg x=some (.ref Ca)/\FnX X.toSC fI fd ps (V0 C)/\Xk X.K Ca fI (V0 C)/\hX X.K fd ps []
def IM{Ca fI:Addr}{fd:FuncData}{ps:Zl}{v:PV}(t:X.T C=some Ca)(F:FnX X.toSC fI fd ps (V0 C))(c:Xk X.K Ca fI (V0 C))(hb:hX X.K fd ps [])(hr:dP 2 X.A)(hd:X.A.handled=none)(I:Inv X w ρ h)(r:aP X.toSC w.F w.m v u)
  (q:∀h' tk a dx od tt,Nw X w ⟨gD w.F dx od,w.O,w.m,{ w.s with heap:=h',toks:=tk }⟩ h->w.s.heap.get? a=none->dx≠a->h'.get? a=some ⟨.ref Ca,some dx,.fields #[.ref tt,.none,.none,.none,.bool false,.none], #[]⟩->Wi od [(V0 C,u)]->Q (.ref a) { w.s with heap:=h',toks:=tk }):Wp X (call (.ref Ca) [u]) Q E w.s:=by
 obtain⟨Tc,M6,Bn,inN,Yj,B,nid,SJ,Fn,Xf,FB,lz⟩:∃Tc M6 Bn inN Yj B nid SJ,ExcBaseFacts Bn M6 inN Yj/\Tc.contains (.type Bn)=true/\ExcBaseFacts B nid SJ Tc/\ph X.K Ca Tc M6=true:=by
  rcases c.lies with l|l
  .exact⟨_,_,_,_,_,_,_,_,af3,by decide+kernel,af3,l⟩
  .exact⟨_,_,_,_,_,_,_,_,agc,by decide+kernel,agc,l⟩
 obtain⟨bm,N,nm,q0,bs,SQ,sn,sub,ab,Vx,dd,k0,k1,k2,k3,k5,hC,T⟩:=tU I.Qs lz;have L:∀h',(∀b o,w.s.heap.get? b=some o->h'.get? b=some o)->W.Looks (model X.prog X.w) h' (typeLookup (.ref Ca) "__init__") (some (.ref fI)):=fun h' k=>agP (I.Qs.keeps k) c.init
 obtain⟨oI,fo,fc⟩:∃oI,w.s.heap.get? fI=some oI/\oI.cls=.type "function":=by obtain⟨oI,h1,h2⟩:=aeE.mp (show(X.K.lookup fI).map (·.cls)=some (.type "function")from beq_iff_eq.mp c.fn);exact⟨oI,I.Qs _ _ h1,h2⟩
 have kp:∀b o,w.s.heap.get? b=some o->(iF w.s.heap Ca [u]).get? b=some o:=fun b o e=>ig e;have n:=Nw.also (X:=X) (s':={ w.s with heap:=iF w.s.heap Ca [u] }) I.toHR kp;have I1:=I.on n
 have na:w.s.heap.get? (w.s.heap.objs.size+1)=none:=by
  cases q:w.s.heap.get? (w.s.heap.objs.size+1)with
  |none=>rfl
  |some o=>exact absurd (ad2 q) (ahF (agi _))
 refine Gf (h:=w.s.heap) (g:=w.s.gens) (d:=w.s.drawn) (t:=w.s.toks) (os:=w.s.os) Fn Xf FB T hC L fo fc (by show 1<=sizeLine;decide) ?_;have bd:=hb { w.s with heap:=iF w.s.heap Ca [u] } [.ref (w.s.heap.objs.size+1),u] I1.Qs (by rw[adU,F.len];rfl);rw[adU]at bd;refine ae7 (afV (F.run (w:={ w with s:={ w.s with heap:=iF w.s.heap Ca [u] } }) (args:=⟨[.ref (w.s.heap.objs.size+1),u],[]⟩) (Q:=fun v s=>v=.none/\Q (.ref (w.s.heap.objs.size+1)) s) (E:=fun _ _=>False) rfl (hr.make Ca [u] []) hd (by first|exact I.ok.frames|(simpa[Around.under,Code.envs,Code.isFrame,pushEnvs]using I.ok.frames)) I1.toWd I1.ok t c ⟨mN,I.toHR.free na⟩ rfl rfl rfl r bd fun h' tk dx od k ha nd hdx ns=>⟨rfl,?_⟩) fun r s' hq=>?_)
 .have nd':w.s.heap.get? dx=none:=by
   cases z:w.s.heap.get? dx with
   |none=>rfl
   |some o=>rw[kp _ _ z]at nd;cases nd
  exact q h' tk _ dx od _ (Nw.lay I.toHR nd' (fun b o e=>k b o (fun z=>by rw[z,na]at e;cases e) (kp b o e)) hdx) na (fun z=>by rw[z,mN]at nd;cases nd) ha ns
 .cases r with
  |error e=>exact hq.elim
  |ok fl=>
   cases fl with
   |ret u=>exact hq
   |_=>exact False.elim hq
def yU{e:Expr}(c:ZI X C x)(hr:dP k X.A)(hg:Gl X x)(ha:RA X [e] fs)(hc:X.calm=true:=by rfl)(htr:X.tr=true:=by rfl)(Qt:nD0 x:=by decide)(he:starEach [e] X.env= [(false,eval e X.env)]:=by rfl)(S_:(backTo S6 (starEach [] X.env)).any (·.1)=false:=by rfl):
  RS X (.Raise (some (.Call (.Name x np) [e] [] S6)) none pos) (jb (Nat.ble 2 k) C fs):=⟨fun{w ρ h Q E} I p=>by
 unfold jb at p
 split at p
 .rename_i hz;obtain⟨Ca,fI,fd,ps,t,hm,F,c,hb⟩:=c.ex
  obtain⟨Tc,M6,ZQ,lz⟩:∃(Tc:Z3)(M6:String),Tc.contains (.type "BaseException")=true/\ph X.K Ca Tc M6=true:=by
   rcases c.lies with l|l
   .exact⟨_,_,by decide+kernel,l⟩
   .exact⟨_,_,by decide+kernel,l⟩
  obtain⟨bm,N,nm,q0,bs,SQ,sn,sub,ab,Vx,dd,k0,k1,k2,k3,k5,hC,T⟩:=tU I.ok.Rd lz;rw[arm_exec_Raise];refine adq (afE (vZ (I.ok.hd hc) (adq (ad8 (Q:=Xp0 E) (ad9 (I.Vu hg hm (afg (h₀:=X.base) I.ok.Rd c.kp (ha.r S6 I ?_) he S_) Qt)) (fun v s1 z=>adq (afE (adB z))) fun _ _ z=>z))))
  have p:bp X w Q E (eY (fs ρ h) fun qs h1=>sO C (.ok qs h1)):=by
   have p:bp X w Q E (sO C (fs ρ h)):=p
   cases z:fs ρ h<;>rw[z]at p<;>exact p
  refine bp.e p I fun w2 h2 qs us y I2 r p=>⟨I2.Qs,?_⟩
  unfold sO at p
  split at p
  .rename_i z
   cases z
   cases r with
   |cons r t'=>
    cases t'
    refine IM t F c hb (hr.mono (afv hz)) (I.ok.hd hc) I2 r fun h' tk a dx od tt n na ne ea ns=>?_;have I3:=I2.on n;have ha:Has ⟨gD w2.F dx od,w2.O,w2.m,{ w2.s with heap:=h',toks:=tk }⟩ a ⟨.ref Ca,some dx,.fields #[.ref tt,.none,.none,.none,.bool false,.none], #[]⟩:=⟨ea,(I2.toHR.free na).1,cT (afW ne) (I2.toHR.free na).2.1,(I2.toHR.free na).2.2⟩
    exact⟨a,Ca,N,tt,_,_,nm,q0,bs,bm,SQ,sn,sub,ab,Vx,dd,k0,k1,k2,k3,k5,_,rfl,I3.bk hC,T.hasType ZQ,ea,p.2 _ _ ρ n.s I3 ⟨a,_,_,rfl,zL I3.ok I3.toWd n.s htr na ha rfl rfl rfl,Ca,dx,od,_,_,t,rfl,rfl,bg,ns,by simp[List.lookup],n.1.rep r⟩⟩
  .rename_i z;cases z
  .exact p.elim
 .exact p.elim⟩
end
noncomputable def zO:PV->Option (Nat×PV)
 |.cls C=>some (C,.exc C)
 |.TY C v=>some (C,.TY C v)
 |_=>none
def lY(cat:Nat->Bool)(g:Sx)(i:Nat)(gs:Sx):Sx:=fun ρ h=>match g ρ h with
 |.exc e h1=>match zO e with
  |some (C,p)=>if cat C=true then(match gs (ρ.set i (some p)) h1 with
   |.rt v h2=>.rt v h2
   |_=>.bad)else .bad
  |none=>.bad
 |r=>r
section
variable{w w3:Wo}
def Jm{o:Expr}{ok:Nat->Bool}(hx:∀C Ca,ok C=true->X.T C=some Ca->V0 C=f/\∃fI,Xk X.K Ca fI f)(ho:RE X o fo)(hb:attributeBase o f X.env (eval o X.env)=eval o X.env:=by rfl):RE X (.Attribute o f apos) (c1 (Xy ok) fo):=⟨fun I p=>Attribute_any_ (ho.r I (p.bind fun w1 h1 q u y r p=>by
 unfold Xy at p
 split at p
 .split at p
  .cases r with
   |TY c e oc d Wu e2 n l r=>
    obtain⟨xe,fI,xi⟩:=hx _ _ ‹_› c;rw[xe]at l;have I1:=I.on y;have J:W.InstAt w1.s.heap _ _ _ (some _):=⟨y.2.at e,oc,by unfold W.notCls;rw[d],by rw[Wu];exact y.2.at e2⟩
    refine CG xi.x I1.Qs J.type (W.looks_find I1.Qs J (W.findObj_own xi.hd xi.no rfl (by rw[rA n,l]))) (BJ r) (p.now y.2 r)
  .exact p.elim
 .exact p.elim)) (by rw[ahf,hb])⟩
abbrev Cx.tried(X:Cx):Cx:={ X with tr:=false,Ep:=fun _=>True }
abbrev Cx.suite(X:Cx)(a:Addr):Cx:={ X with A:=X.A.mark (some (.ref a)),calm:=false,tr:=false,Ep:=fun _=>True }
theorem Inv.tried(I:Inv X w ρ h):Inv X.tried w ρ h:=⟨⟨I.toHR,I.ba,I.bs,I.fr⟩,⟨I.ok.Rd,I.ok.gl,I.ok.bl,I.ok.nl,I.ok.kind,I.ok.glob,I.ok.blt,I.ok.inj,I.ok.has,I.ok.hd,I.ok.frames,I.ok.nd,I.ok.sf⟩,I.loc,I.T_,I.ln⟩
theorem Inv.suite(I:Inv X w ρ h):Inv (X.suite a) w ρ h:=⟨⟨I.toHR,I.ba,I.bs,I.fr⟩,⟨I.ok.Rd,I.ok.gl,I.ok.bl,I.ok.nl,I.ok.kind,I.ok.glob,I.ok.blt,I.ok.inj,I.ok.has,fun z=>(nomatch z),I.ok.frames,I.ok.nd,I.ok.sf⟩,I.loc,I.T_,I.ln⟩
def Inv.UL(ok:X.Ok)(I:Inv (X.suite a) w ρ h):Inv X w ρ h:=⟨⟨I.toHR,I.ba,I.bs,I.fr⟩,ok,I.loc,I.T_,I.ln⟩
def Inv.lost{h9:Heap}{m9:Str->Option Value}{t:Nat}(I:Inv X w ρ h)(ns:h9.Ns X.L m9)(sb:Heap.SameBut X.L w.s.heap h9):RZ X w { w with s:={ w.s with heap:=h9,toks:=t } }/\Inv X { w with s:={ w.s with heap:=h9,toks:=t } } (List.replicate X.N.length none) h:=by
 obtain⟨m,oL,n,hl,_⟩:=I.loc;obtain⟨o9,es,ep,e9,d9,_⟩:=id ns;have on:∀b o,b≠X.L->w.s.heap.get? b=some o->h9.get? b=some o:=fun b o z e=>(sb.2 b z).trans e;have h9L:Has { w with s:={ w.s with heap:=h9,toks:=t } } X.L o9:=⟨e9,hl.2⟩
 have st:RZ X w { w with s:={ w.s with heap:=h9,toks:=t } }:=⟨rfl,id,fun _ _ e=>e,fun _ _ e=>e,⟨[],by simp⟩,fun b o e=>by
  by_cases z:b=X.L
  .exact⟨o9,z▸e9⟩
  .exact⟨o,on b o z e⟩,fun b o q nw=>⟨o.slots,⟨on b o (fun z=>nw (.inl z)) q.1,q.2⟩,.inr rfl⟩⟩
 refine⟨st,I.toWd.on st (fun b hb _=>?_) (I.toHR.on fun b o e z=>on b o (fun y=>z (y▸hl.2)) e),I.ok,⟨m9,o9,ns,h9L,fun i p e=>?_⟩,fun y c e=>?_,by simp⟩
 .obtain⟨o,q,d⟩:=I.fr b hb
  by_cases z:b=X.L
  .exact⟨o9,z▸h9L,fun vs z=>by rw[d9]at z;cases z⟩
  .exact⟨o,⟨on b o z q.1,q.2⟩,d⟩
 .rw[aeU]at e;split at e<;>cases e
 .obtain⟨v,o,⟨o',ho,hd⟩,q⟩:=I.T_ y c e
  have z:c≠X.L:=fun z=>by obtain⟨o2,es,ep,XM,Vt,_⟩:=n;rw[z,XM]at ho;cases ho;rw[Vt]at hd;cases hd
  exact⟨v,o,⟨o',on c o' z ho,hd⟩,on c o z q.1,q.2⟩
theorem Nw.freeze(n:Nw X w w1 h)(na:w.s.heap.get? a=none)(ha:Has w1 a o):Nw X w ⟨gD w1.F a o,w1.O,w1.m,w1.s⟩ h:=⟨⟨n.1.os,n.1.ba,fun b o' e=>cx ha.2.2.1 _ _ (n.1.fz b o' e),n.1.ow,n.1.pre,n.1.dom,fun b o' q z=>let⟨sl,q',z⟩:=n.1.keep b o' q z;⟨sl,⟨q'.1,q'.2.1,cT (fun y=>by have q:=q.1;rw[y,na]at q;cases q) q'.2.2.1,q'.2.2.2⟩,z⟩⟩,n.2.freeze ha⟩
theorem CX{b:Stmt}{suite:List Stmt}{fe:Ex}{t n:Str}{Uv:Pos}(rr:Bool)(Uw:∀C Ca,cat C=true->X.T C=some Ca->W.exmOne X.K (.ref Ca) (.ref Ta)=some true)
  (hb:∀{w:Wo}{ρ:Ev}{h:Y3}{Q:Flow->Shared->Prop}{E:Yf},Inv X.tried w ρ h->bu X.tried (RV X.toSC) w (fun u=>Q (bif rr then .ret u else .next)) E (fe ρ h)->Wp X.tried (exec b X.env) Q E w.s) (hs:∀a,Tw (X.suite a) (b0::suite) gs) (hi:X.N[i]? =some n) (hn:X.env.scope.names.lookup n=some .local) (hg:Gl X t) (hm:X.mg t=some (.ref Ta)) (Vi:X.stack=X.env::outer) (hf:X.env.frame=some X.env.locals) (Qt:(t==("__debug__":Str))=false):
  RS X (.Try [b] [.ExceptHandler (some (.Name t tp)) (some n) (b0::suite) Uv] [] [] pos) (lY cat (bif rr then aN fe else bS fe) i gs):=⟨fun{w ρ h Q E} I p=>by
 refine wpAny_Try_except (afc (hb I.tried ?_));have e0:(bif rr then aN fe else bS fe) ρ h=df (fe ρ h) (fun v h=>bif rr then .rt v h else .nx ρ h):=by cases rr<;>rfl
 unfold lY at p;rw[e0]at p;unfold df eY at p
 cases z:fe ρ h with
 |ok v h1=>
  rw[z]at p
  cases rr
  .exact⟨trivial,fun w' x y r=>aew (aew (p.2 w' y.s (I.on y)))⟩
  .exact⟨trivial,fun w' x y r=>p.2 w' x ρ y.s (I.on y) r⟩
 |bad=>rw[z]at p;exact p
 |exc e h1=>
  rw[z]at p;refine⟨trivial,fun w' u y r=>?_⟩;dsimp only at p
  split at p
  .rename_i C pe ev
   split at p
   .rename_i hC;have I1:=I.on (X:=X) y;obtain⟨a,cls,dx,rfl,⟨⟨a0,B,fl,c1,c2⟩,d⟩,m⟩:=r;rcases fl with fl|⟨z,_⟩
    case inr=>cases z
    obtain⟨Ca,t1,rfl⟩:∃Ca,X.T C=some Ca/\cls=.ref Ca:=by
     unfold zO at ev
     split at ev<;>cases ev
     .obtain⟨Ca,h1,h2,_⟩:=m;exact⟨Ca,h1,h2⟩
     .obtain⟨Ca,_,_,_,_,h1,h2,_⟩:=m;exact⟨Ca,h1,h2⟩
    have fa:S8 w' a:=agf fun z=>by obtain⟨o',q⟩:=c2 a z;have:=fl.2.1;rw[q]at this;cases this
    have na:w.s.heap.get? a=none:=by
     cases z:w.s.heap.get? a with
     |none=>rfl
     |some o'=>
      by_cases hb:a∈X.fs
      .obtain⟨o1,q,dd⟩:=I1.fr a hb;obtain⟨oe,vs,q1,_,q3,_⟩:=fl.first;have q:=q.1;rw[q1]at q;cases q;exact absurd q3 (dd vs)
      .obtain⟨o2,q⟩:=c1 a o' z hb;have:=fl.2.1;rw[q]at this;cases this
    have lands:∀h5,Heap.FlyingW B X.stack a (.ref Ca) a0 h5->w'.s.heap.UpToSlots h5->(∃o,h5.get? a=some o/\o.dict=dx)->Nw X w { w' with s:={ w'.s with heap:=h5 } } h1/\∃o vs,h5.get? a=some o/\o.cls=.ref Ca/\o.data=.fields vs/\o.dict=dx:=fun h5 Va up d5=>by refine⟨BN (Y:=X) y.1 I1.toWd c1 c2 fl.1 Va.1 up,?_⟩;obtain⟨oe,vs,q1,q2,q3,_⟩:=Va.first;obtain⟨o',y1,y2⟩:=d5;rw[q1]at y1;cases y1;exact⟨oe,vs,q1,q2,q3,y2⟩
    have Z2:X.A.frames=some (X.env::outer):=Vi▸I.ok.frames;have Yb:=fl;rw[Vi]at Yb;refine nX (jh _ _) d (wpAny_looks_onW Z2 hf Yb fun h4 held Xq d4=>nX (fH _ _) d4 (wpAny_landsW held fun h5 Va Xp d5=>?_));rw[<- Vi]at Va;obtain⟨n5,o5,vs5,q1,q2,q3,q4⟩:=lands h5 Va (Xq.trans Xp) d5;have I5:=I.on n5;refine agZ (agG ((I5.suite (a:=a)).Vu hg hm ?_ Qt)) (by intro z;cases z);have LT:W.Looks (model X.prog X.w) h5 (typeOf (.ref a)) (.ref Ca):=q2▸(ahX q1).andThen .now;refine ahs (s:={ w'.s with heap:=h5 }) (W.exm_one (K:=X.K) I5.Qs LT (Uw C Ca hC t1)) (agb ?_);refine nX (fH _ _) d5 (lands_againW Va fun h6 fl6 Y4 d6=>?_);obtain⟨n6,o6,vs6,q1,q2,q3,q4⟩:=lands h6 fl6 ((Xq.trans Xp).trans Y4) d6;have n7:=n6.freeze na ⟨q1,fa⟩;have I6:=(I.on n7).suite (a:=a)
    have re:aP X.toSC (gD w'.F a o6) w'.m pe (.ref a):=by
     unfold zO at ev
     split at ev<;>cases ev
     .exact .exc t1 bg q2 q3
     .obtain⟨_,dd,od,fs,yy,g1,_,g3,g4,g5,g6,g7⟩:=m;exact .TY t1 bg q2 q3 (q4.trans g3) (cx fa.2.1 _ _ g4) g5 g6 (g7.mono (cx fa.2.1) (.inr fun _ _ e=>e))
    refine I6.store (X:=X.suite a) hi (.inl hn) re fun w7 y7 I7=>(hs a).r I7 ?_
    split at p
    .rename_i e8;rw[e8];refine⟨trivial,fun w8 u8 ρ8 y8 I8 r8=>?_⟩;have J8:=Inv.UL I.ok I8;obtain⟨m8,_,Zi,_⟩:=id J8.loc;refine wpAny_nameGoes hn Zi (by rw[I.ok.kind];rfl) fun h9 m9 Zh sb=>?_;obtain⟨s9,I9⟩:=J8.lost (t:=w8.s.toks+1) Zh sb;exact p.2 _ _ _ (n7.s.trans (K8.trans y7 (K8.trans y8 s9))) I9 r8
    .exact p.elim
   .exact p.elim
  .exact p.elim⟩
def CV{e:Expr}{suite:List Stmt}{fe:Ex}{t n:Str}{Uv Vw:Pos}(Uw:∀C Ca,cat C=true->X.T C=some Ca->W.exmOne X.K (.ref Ca) (.ref Ta)=some true)
  (hb:RE X.tried e fe) (hs:∀a,Tw (X.suite a) (b0::suite) gs) (hi:X.N[i]? =some n) (hn:X.env.scope.names.lookup n=some .local) (hg:Gl X t) (hm:X.mg t=some (.ref Ta)) (Vi:X.stack=X.env::outer:=by rfl) (hf:X.env.frame=some X.env.locals:=by rfl) (Qt:(t==("__debug__":Str))=false:=by decide) (Vs:swapsWith e none Vw.line X.env=pure false:=by rfl):
  RS X (.Try [.Expr e Vw] [.ExceptHandler (some (.Name t tp)) (some n) (b0::suite) Uv] [] [] pos) (lY cat (bS fe) i gs):=CX false Uw (fun I p=>wpAny_Expr_any (hb.r I p) I.quiet Vs) hs hi hn hg hm Vi hf Qt
end
def JL(h:Y3)(p:PV):Option Nat:=match p with
 |.str l=>if l.length<=sizeLine then some l.length else none
 |p=>match R_ h p with
  |some kvs=>some kvs.length
  |none=>match Wq h p with
   |some xs=>some xs.length
   |none=>none
def gB(ps:Y2)(h:Y3):Res PV:=match ps with
 |[p]=>match JL h p with
  |some n=>.ok (.int n) h
  |none=>.bad
 |_=>.bad
noncomputable def pC(h:Y3):PV->Option String
 |.non=>some "NoneType"
 |.bl _=>some "bool"
 |.int _=>some "int"
 |.str _=>some "str"
 |.tup _=>some "tuple"
 |p=>match R_ h p with
  |some _=>some "dict"
  |none=>match Tt h p with
   |some _=>some "list"
   |none=>none
noncomputable def nV(t c:String):Bool:=(t==c)||(t=="bool"&&c=="int")
noncomputable def qm:List String:=["str","int","bool","list","tuple","dict"]
def aw(ps:Y2)(h:Y3):Res PV:=match ps with
 |[p,.ty c]=>if qm.contains c=true then match pC h p with
   |some t=>.ok (.bl (nV t c)) h
   |none=>.bad
  else .bad
 |_=>.bad
noncomputable def pG(i:Int):Y1:=(Str.ofString (toString i)).cps.toList
def uD(ps:Y2)(h:Y3):Res PV:=match ps with
 |[.int i]=>if i.natAbs.log2<1920 then .ok (.str (pG i)) h else .bad
 |_=>.bad
noncomputable def jd(ps:Y2)(h:Y3):Res PV:=match ps with
 |[.int i]=>.ok (.int i) h
 |[.bl b]=>.ok (.int (if b then 1 else 0)) h
 |_=>.bad
noncomputable def AW(ps:Y2)(h:Y3):Res PV:=match ps with
 |[.int i]=>.ok (.int (if i<0 then -i else i)) h
 |_=>.bad
noncomputable def AU(ps:Y2)(h:Y3):Res PV:=match ps with
 |[.int i,.int j]=>.ok (.int (if j>i then j else i)) h
 |_=>.bad
def nc(ps:Y2)(h:Y3):Res PV:=match ps with
 |[p]=>match Wq h p with
  |some xs=>.ok (.tup xs) h
  |none=>.bad
 |_=>.bad
noncomputable def iw:Y2->Option (List Bool)
 |[]=>some []
 |.bl b::r=>(iw r).map (b:: ·)
 |_::_=>none
def AV(ps:Y2)(h:Y3):Res PV:=match ps with
 |[p]=>match Tt h p with
  |some xs=>match iw xs with
   |some bs=>.ok (.bl (bs.all id)) h
   |none=>.bad
  |none=>.bad
 |_=>.bad
section
variable{w:Wo}
def ay.one{F:Fz}{m:Zs}(r:ay G F m [p] us):∃u,us= [u]/\aP G F m p u:=by cases r with|cons r t=>cases t;exact⟨_,rfl,r⟩
def ay.two{F:Fz}{m:Zs}{q:PV}(r:ay G F m [p,q] us):∃u v,us= [u,v]/\aP G F m p u/\aP G F m q v:=by cases r with|cons r t=>obtain⟨v,rfl,r'⟩:=t.one;exact⟨_,v,rfl,r,r'⟩
def Wd.Qs(I:Wd X w h)(ok:X.Ok):X.K.In w.s.heap:=ok.Rd.keeps fun _ _ e=>I.bk e
def Jy:Uk X (.builtin "len") gB:=fun ok {w h p u Q E} I rs k=>by
 have l:sizeLine=16777216:=ae8;unfold gB at k
 split at k
 .obtain⟨u,rfl,r1⟩:=rs.one;show Wp X (call (.builtin "len") [u]) Q E w.s
  split at k
  .rename_i e;unfold JL at e
   split at e
   .split at e<;>cases e
    obtain⟨_,rfl⟩:=r1.vs;exact len_str (by rw[fN];lia) (by rw[fN];exact k.now I.toHR (.int _ _))
   .split at e
    .cases e
     obtain⟨a,kvs,rfl,y,d,r⟩:=I.dc r1 ‹_›;exact call_len_dict y d (by have:=r.1;lia) (by rw[r.len];exact k.now I.toHR (.int _ _))
    .split at e<;>cases e
     obtain⟨t,e,ht⟩:=vR ‹_›;obtain⟨a,j6,rfl,y,z,r⟩:=I.sq r1 e;rcases ht with rfl|rfl
     .exact len_tuple y.tup ⋯ (k.now I.toHR (by rw[r.len];exact .int _ _))
     .exact Calls.call_len_list y.pl.isList ⋯ (k.now I.toHR (by rw[r.len];exact .int _ _))
  .exact k.elim
 .exact k.elim
def rC(K:W.Frag){t c:String}(ht:t∈ ["NoneType","bool","int","str","tuple","dict","list"])(hc:qm.contains c=true):W.kitOne K (.type t) (.type c)=some (nV t c):=by
 have Xe:c∈qm:=by simpa using hc
 simp only[qm,adD,aeb,or_false]at Xe ht;rcases ht with rfl|rfl|rfl|rfl|rfl|rfl|rfl<;>rcases Xe with rfl|rfl|rfl|rfl|rfl|rfl<;>rfl
def Bd:Uk X (.builtin "isinstance") aw:=fun ok {w h p u Q E} I rs k=>by
 unfold aw at k
 split at k
 .obtain⟨u,v,rfl,r,r2⟩:=rs.two;obtain rfl:=r2.vt;show Wp X (call (.builtin "isinstance") [u,_]) Q E w.s
  split at k
  .rename_i hc
   split at k
   .rename_i t e;have fin:∀tk,Q (.bool (nV t _)) { w.s with toks:=tk }:=fun tk=>k.now I.toHR (.bl _);have hh:=fun tt=>rC (t:=tt) X.K (hc:=hc);have KI:=I.Qs ok;unfold pC at e
    split at e
    .cases e;obtain rfl:=r.vn;exact af0 W.kitx_none KI True.intro (hh _ (by simp)) (fun z=>nomatch z) fin
    .cases e;obtain rfl:=r.vb;exact af0 W.kitx_bool KI True.intro (hh _ (by simp)) (fun z=>nomatch z) fin
    .cases e;obtain⟨_,rfl⟩:=r.vi;exact af0 W.kitx_int KI True.intro (hh _ (by simp)) (fun z=>nomatch z) fin
    .cases e;obtain⟨_,rfl⟩:=r.vs;exact af0 W.kitx_str KI True.intro (hh _ (by simp)) (fun z=>nomatch z) fin
    .cases e
     replace r:=I.sq r rfl
     obtain⟨a,j6,rfl,⟨n,y⟩,z,r⟩:=r;exact af0 W.kitx_tuple KI ⟨_,y,rfl⟩ (hh _ (by simp)) (fun z=>nomatch z) fin
    .split at e
     .cases e
      obtain⟨a,kvs,rfl,_,⟨o,es,ep,h1,h2,_⟩,_⟩:=I.dc r ‹_›;exact af0 W.kitx_dict KI ⟨o,h1,h2.1⟩ (hh _ (by simp)) (fun z=>nomatch z) fin
     .split at e<;>cases e
      replace r:=I.sq r (iB ‹_›)
      obtain⟨a,j6,rfl,⟨n,y⟩,z,r⟩:=r;exact af0 W.kitx_list KI ⟨_,y,rfl⟩ (hh _ (by simp)) (fun z=>nomatch z) fin
   .exact k.elim
  .exact k.elim
 .exact k.elim
def Ju:Uk X (.type "str") uD:=fun ok {w h p u Q E} I rs k=>by
 unfold uD at k
 split at k
 .obtain⟨u,rfl,r⟩:=rs.one;obtain⟨_,rfl⟩:=r.vi
  split at k
  .exact PySem.P.str_of_int ‹_› (k.now I.toHR (by have:= @aP.str X.toSC w.F w.m (pG ‹_›) w.s.toks;rw[pG,NK]at this;exact this))
  .exact k.elim
 .exact k.elim
def JA:Uk X (.type "int") jd:=fun ok {w h p u Q E} I rs k=>by
 unfold jd at k
 split at k
 .obtain⟨u,rfl,r⟩:=rs.one;obtain⟨_,rfl⟩:=r.vi;exact call_int_int (k.here I.toHR (.int _ _))
 .obtain⟨u,rfl,r⟩:=rs.one;obtain rfl:=r.vb;exact call_int_bool (k.now I.toHR (.int _ _))
 .exact k.elim
def JG:Uk X (.builtin "abs") AW:=fun ok {w h p u Q E} I rs k=>by
 unfold AW at k
 split at k
 .obtain⟨u,rfl,r⟩:=rs.one;obtain⟨_,rfl⟩:=r.vi;exact call_abs_int fun u tk=>k.now I.toHR (.int _ _)
 .exact k.elim
def Jx(hc:X.calm=true):Uk X (.builtin "max") AU:=fun ok {w h p u Q E} I rs k=>by
 unfold AU at k
 split at k
 .obtain⟨u,v,rfl,r,r2⟩:=rs.two
  cases r;obtain⟨_,rfl⟩:=r2.vi
  refine max_two_ints (ok.hd hc) fun h' tk kp=>?_;have n:=Nw.also (X:=X) (s':={ w.s with heap:=h',toks:=tk }) I.toHR kp;refine k.2 _ _ n ?_
  split
  .exact .int _ _
  .exact .int _ _
 .exact k.elim
end
def lS:plainId "dict.update.loop"=true:=by decide+kernel
def tZ:entryFor table "dict.update.loop"=some Builtin.«dict.update.loop» :=entryFor_of_tree (by kernel_rfl)
section
variable{w:World}{κ:Type} [DecidableEq κ] {knd:KeyKind prog w κ}   
inductive WY(knd:KeyKind prog w κ)(h:Heap):Z3->List (κ×Value)->Prop where
 |nil:WY knd h [] []
 |cons {a:Addr} {k' v:Value} {k:κ} {us:Z3} {kvs:List (κ×Value)} (t:IsTup h a #[k',v]) (kk:knd.is k k'=true) (r:WY knd h us kvs):WY knd h (.ref a::us) ((k,v)::kvs)
def yJ{s:Shared}{x y:Value}{Q:Z3->Shared->Prop}(t:IsTup s.heap a #[x,y])(q:Q [x,y] s):wpAny (model prog w) A (Builtin.Dict.pairItems (.ref a)) Q E s:=by
 obtain⟨o,ho,hc,n,hd⟩:=t;have ty:s.TypeIs (.ref a) "tuple":=⟨o,ho,hc⟩
 unfold Builtin.Dict.pairItems;refine adq (afT ty ?_)
 wp_walk
 rw[hd];exact adB (adB q)
theorem wi{h0:Heap}{D I:Addr}(hh:A.handled=none)(hD:h0.objs.size<=D)(hI:h0.objs.size<=I)(ne:D≠I)(hl:h0.IsList l us.toArray):
  ∀(rest:Z3)(kvs:List (κ×Value))(i:Nat)(s:Shared)(V7:List (κ×Value)),us.drop i=rest->WY knd h0 rest kvs->(∀b o,h0.get? b=some o->s.heap.get? b=some o)->s.heap.IsListIter I l i->s.heap.DictOf knd D V7->V7.length+rest.length<=sizeLine->
   (∀h' tk,(∀b o,h0.get? b=some o->h'.get? b=some o)->h'.DictOf knd D (merged V7 kvs)->R (.ok (.ret .none)) { s with heap:=h',toks:=tk })->
   codeAny (model prog w) A (.builtin "dict.update.loop" ⟨[.ref D,.ref I,rawInt i,.none],[]⟩) R s:=by
 have nI:∀b o,h0.get? b=some o->b≠I:=fun b o q z=>ae0 _ (aeI (ad2 q) (z▸hI));have nD:∀b o,h0.get? b=some o->b≠D:=fun b o q z=>ae0 _ (aeI (ad2 q) (z▸hD));intro rest
 induction rest with
 |nil=>
  intro kvs i s V7 e p kp it d z hR
  cases p
  refine codeAny_builtin tZ ?_;rw[agX lS _];unfold Builtin.«dict.update.loop»;dsimp only;refine adq (wpAny_pyNext_list_end hh it (hl.at fun o q=>kp _ o q) ?_ fun h' x=>?_)
  .rw[agL];have:=congrArg List.length e;rw[aeT]at this;exact aeK (by simp at this;lia)
  .have kd:∀b o,h0.get? b=some o->h'.get? b=some o:=fun b o q=>x b o (nI b o q) (kp b o q);exact adq (adB (adB (hR h' s.toks kd (d.extBut x ne))))
 |cons u rest ih=>
  intro kvs i s V7 e p kp it d z hR
  cases p with
  |@cons a k' v k _ kvs t kk r=>
   refine codeAny_builtin tZ ?_;rw[agX lS _];unfold Builtin.«dict.update.loop»;dsimp only;refine adq (wpAny_pyNext_list_item it (hl.at fun o q=>kp _ o q) (x:=.ref a) ?_ fun h' it' sb=>?_)
   .rw[agL,<- afM,e];rfl
   .have k1:∀b o,h0.get? b=some o->h'.get? b=some o:=fun b o q=>(sb.2 b (nI b o q)).trans (kp b o q);refine adq (aeA (adq (wpAny_tryCatch (yJ (t.keeps k1) ?_))));rw[adu]at z;refine aeA (wpAny_dictSet_pairs (hsz:=by lia) kk (d.sameBut sb ne) fun h2 d2 s2=>?_);have k2:∀b o,h0.get? b=some o->h2.get? b=some o:=fun b o q=>(s2.2 b (nD b o q)).trans (k1 b o q);refine adB ⟨plainId_quiet lS _,?_⟩
    have ln:(stored V7 k v).length<=V7.length+1:=by have:=merged_length_le V7 [(k,v)];exact this
    have e':us.drop (i+1)=rest:=by rw[<- af7,e];rfl
    exact ih kvs (i+1) _ (stored V7 k v) e' r k2 (it'.at fun o q=>(s2.2 I ne.symm).trans q) d2 ⋯ fun h3 tk k3 d3=>hR h3 tk k3 d3
def wA:typeLookup (.type "list") "keys"=pure none:=by rw[typeLookup_type,builtinLookup_eq_fast];kernel_rfl
def zx{s:Shared}{c:Nat}{sl:Array (Option Value)}{u:Tok}(hh:A.handled=none)(hl:s.heap.get? l=some { cls:=.type "list",dict:=none,data:=.seq xs c,slots:=sl })
  (h:∀h' tk e,Heap.NewAttrErr s.heap h' e (.ref l) "keys"->R (.error (.ref e)) { s with heap:=h',toks:=tk }):codeAny (model prog w) A (.call (.builtin "list.__getattribute__") ⟨[.ref l,.str "keys" u],[]⟩) R s:=
 ae9 aez.plain am_entry_list_getattribute (aez.check _ _ _ _ _ _ _ _ ⟨_,hl,rfl⟩ (PySem.F.args_list_getattribute_2 _ _) (meets_getattribute_miss_list l xs c sl "keys" u wA (by decide+kernel) (by size_fits) prog w A R s ⟨hl,hh,h⟩))
def DV{s:Shared}{c:Nat}{Q:Option Value->Shared->Prop}(hh:A.handled=none)(hl:s.heap.get? l=some o)(hc:o.cls=.type "list")(hd:o.data=.seq xs c)(hn:o.dict=none)
  (hQ:∀h' tk,(∀b o,s.heap.get? b=some o->h'.get? b=some o)->Q none { s with heap:=h',toks:=tk }):wpAny (model prog w) A (getAttr? (.ref l) "keys") Q E s:=by
 obtain⟨c0,dct,dat,sl⟩:=o;simp only at hc hd hn;subst hc hd hn;obtain⟨hp,g,d,tk,os⟩:=s;have ty:∀tk',(⟨hp,g,d,tk',os⟩:Shared).TypeIs (.ref l) "list":=fun _=>⟨_,hl,rfl⟩
 have t1:=ty (tk+1);have f1:=sub_AttributeError;have f3:=aez.lookup;have f4:=aez.bind (.ref l);have f5:=am_list_getattr_none;unfold getAttr? getAttrBy? getAttrBy getAttrByItsOwn
 wp_walk
 refine zx hh hl fun h2 t2 e x=>?_;obtain⟨t3,u3,he⟩:=x.there;dsimp only;unfold getattributeRaised
 wp_walk
 exact hQ h2 t2 x.keeps
def xj{s:Shared}{c:Nat}{kvs:List (κ×Value)}(hh:A.handled=none)(hl:s.heap.get? l=some o)(hc:o.cls=.type "list")(hd:o.data=.seq us.toArray c)(hn:o.dict=none)(p:WY knd s.heap us kvs)(hz:us.length<=sizeLine)
  (hQ:∀h' tk,(∀b o,s.heap.get? b=some o->h'.get? b=some o)->h'.DictOf knd s.heap.objs.size (merged [] kvs)->Q (.ref s.heap.objs.size) { s with heap:=h',toks:=tk }):
  wpAny (model prog w) A (call (.type "dict") [.ref l]) Q E s:=by
 refine callType_codes (Q₁:=fun v t=>v=.ref s.heap.objs.size/\t= { s with heap:=s.heap.push { cls:=.type "dict",data:=.dict #[] } }) PySem.F.kt_called_dict (PySem.F.kt_typeCall_dict_1 _) PySem.F.entry_dict_init (kt_code_dict_new _ ⟨rfl,rfl⟩) ?_
 rintro v t ⟨rfl,rfl⟩
 have new:(s.heap.push { cls:=.type "dict",data:=.dict #[] }).DictOf knd s.heap.objs.size []:=afP s.heap;refine⟨new.typeIs,PySem.F.args_dict_init_2 _ _,?_⟩;have kp:∀b q,s.heap.get? b=some q->(s.heap.push { cls:=.type "dict",data:=.dict #[] }).get? b=some q:=fun b q e=>ady _ e;have ty:({ s with heap:=s.heap.push { cls:=.type "dict",data:=.dict #[] } }:Shared).TypeIs (.ref l) "list":=⟨o,kp _ _ hl,hc⟩
 unfold Builtin.«dict.__init__» Builtin.Dict.selfAndRest;refine adq (adq (afu new.typeIs ?_));dsimp only;refine adq (adB (adB ?_));unfold Builtin.Dict.updateCommon Builtin.Dict.updateFrom;dsimp only;refine adq (afT ty ?_);refine wpAny_ite_true ⋯ (adq (DV (A:=A.in1.in1) hh (kp _ _ hl) hc hd hn fun h1 t1 k1=>?_));refine wpAny_ite_true rfl (adq (ahV ?_));have k2:∀b q,s.heap.get? b=some q->h1.get? b=some q:=fun b q e=>k1 b q (kp b q e);have l1:h1.IsList l us.toArray:=⟨o,k2 _ _ hl,hc,c,hd⟩
 have XD:h1.DictOf knd s.heap.objs.size []:=by obtain⟨q,es,ep,hq,rest⟩:=new;exact⟨q,es,ep,k1 _ _ hq,rest⟩
 have lt:s.heap.objs.size<h1.objs.size:=by obtain⟨q,es,ep,hq,rest⟩:=XD;exact ad2 hq
 refine adq (afo (s:={ s with heap:=h1,toks:=t1 }) l1 ?_);refine adB ⟨plainId_quiet lS _,?_⟩;refine wi (A:=A.in1) (h0:=s.heap) (I:=h1.objs.size) hh (adp _) (agy lt) (aeF lt) ⟨o,hl,hc,c,hd⟩ us kvs 0 _ [] rfl p (fun b q e=>ady _ (k2 b q e)) ⟨_,adK _ rfl,rfl,rfl⟩ (XD.push _) (by simpa using hz) fun h3 t3 k3 d3=>?_;exact⟨rfl,hQ h3 t3 k3 d3⟩
end
noncomputable def aK(kvs:List (PK×PV))(k:PK)(v:PV):List (PK×PV):=
 if(kvs.any fun kv=>decide (kv.1=k))=true then kvs.map (fun kv=>if kv.1=k then(kv.1,v)else kv)else kvs++ [(k,v)]
def Xa(ps:List (PK×PV)):List (PK×PV):=ps.foldl (fun acc kv=>aK acc kv.1 kv.2) []
def jr:List (Ex×Ex)->Ev->Y3->Res (List (PK×PV))
 |[],_,h=>.ok [] h
 |(a,b)::r,ρ,h=>(a ρ h).bind fun x h1=>(b ρ h1).bind fun y h2=>match iM x with
  |some k=>(jr r ρ h2).bind fun ps h3=>.ok ((k,y)::ps) h3
  |none=>.bad
def eQ(fs:List (Ex×Ex)):Ex:=fun ρ h=>(jr fs ρ h).bind fun ps h1=>.ok (.dct (Xa ps)) h1
def gF(fs:List (Ex×Ex)):Ex:=fun ρ h=>(jr fs ρ h).bind fun ps h1=>.ok (.ref h1.length) (h1++ [.dct (Xa ps)])
noncomputable def vz:Ex:=fun _ h=>.ok (.ref h.length) (h++ [.dct []])
def pV(ps:Y2)(h:Y3):Res PV:=match ps with
 |[p]=>match R_ h p with
  |some H8=>.ok (.ref h.length) (h++ [.dct H8])
  |none=>.bad
 |_=>.bad
def pS:Y2->Option (List (PK×PV))
 |[]=>some []
 |.tup [k,v]::r=>match iM k,pS r with
  |some kk,some l=>some ((kk,v)::l)
  |_,_=>none
 |_=>none
def sQ(ps:Y2)(h:Y3):Res PV:=match ps with
 |[p]=>match Tt h p with
  |some xs=>match pS xs with
   |some l=>.ok (.ref h.length) (h++ [.dct (Xa l)])
   |none=>.bad
  |none=>.bad
 |_=>.bad
section
variable{F:Fz}{m:Zs}
def RK(G:SC)(F:Fz)(m:Zs)(H8:List (PK×PV))(kvs:List (PK×Value)):Prop:=kvs.map (·.1)=H8.map (·.1)/\ay G F m (H8.map (·.2)) (kvs.map (·.2))
theorem RK.length(r:RK G F m H8 kvs):kvs.length=H8.length:=by have:=congrArg List.length r.1;simpa using this
theorem RK.mono{F':Fz}{m':Zs}(r:RK G F m H8 kvs)(hF:∀a o,F a=some o->F' a=some o)(hm:Sub m m'):RK G F' m' H8 kvs:=⟨r.1,r.2.mono hF (.inr hm)⟩
theorem RK.any(k:PK):∀{H8:List (PK×PV)}{kvs:List (PK×Value)},kvs.map (·.1)=H8.map (·.1)->(kvs.any fun kv=>decide (kv.1=k))=H8.any fun kv=>decide (kv.1=k)
 |[],[],_=>rfl
 |[],_::_,h=>by simp at h
 |_::_,[],h=>by simp at h
 |a::r,b::t,h=>by simp only[adE,afN]at h;simp only[ae1,h.1,RK.any k h.2]
theorem RK.repl{k:PK}{p:PV}{v:Value}(r:aP G F m p v):∀{H8:List (PK×PV)}{kvs:List (PK×Value)},RK G F m H8 kvs->RK G F m (H8.map fun kv=>if kv.1=k then(kv.1,p)else kv) (kvs.map fun kv=>if kv.1=k then(kv.1,v)else kv)
 |[],[],h=>h
 |[],_::_,h=>by have:=h.1;simp at this
 |_::_,[],h=>by have:=h.1;simp at this
 |(k1,a)::t,(k2,b)::t',⟨h1,h2⟩=>by
  simp only[adE,afN]at h1;obtain⟨rfl,h1⟩:=h1
  cases h2 with
  |cons x y=>
   obtain⟨i1,i2⟩:=RK.repl r ⟨h1,y⟩;simp only[adE]
   by_cases z:k2=k
   .simp only[z,if_true];exact⟨by simp[i1],.cons r i2⟩
   .simp only[z,if_false];exact⟨by simp[i1],.cons x i2⟩
def RK.put{k:PK}(h:RK G F m H8 kvs)(r:aP G F m p v):RK G F m (aK H8 k p) (stored kvs k v):=by
 unfold aK stored;rw[RK.any k h.1]
 split
 .exact h.repl r
 .exact⟨by rw[adV,adV,h.1];rfl,by rw[adV,adV];exact h.2.app (.cons r .nil)⟩
theorem RK.merge:∀{more:List (PK×PV)}{mv:List (PK×Value)}{H8:List (PK×PV)}{kvs:List (PK×Value)},RK G F m more mv->RK G F m H8 kvs->RK G F m (more.foldl (fun acc kv=>aK acc kv.1 kv.2) H8) (merged kvs mv)
 |[],[],_,_,_,h=>h
 |[],_::_,_,_,h,_=>by have:=h.1;simp at this
 |_::_,[],_,_,h,_=>by have:=h.1;simp at this
 |(k1,p1)::more,(k2,v2)::mv,H8,kvs,⟨h1,h2⟩,h=>by
  simp only[adE,afN]at h1 h2;obtain⟨rfl,h1⟩:=h1
  cases h2 with
  |cons a b=>show RK G F m (more.foldl _ (aK H8 k2 p1)) (merged (stored kvs k2 v2) mv);exact RK.merge ⟨h1,b⟩ (h.put a)
def lq(k:PK)(v:Value):(stored kvs k v).length<=kvs.length+1:=by unfold stored;split<;>simp
theorem lI:∀(mv:List (PK×Value))(kvs:List (PK×Value)),(merged kvs mv).length<=kvs.length+mv.length
 |[],_=>adA _
 |(k,v)::mv,kvs=>by have:=lI mv (stored kvs k v);have:=lq (kvs:=kvs) k v;show(merged (stored kvs k v) mv).length<=_;simp;lia
end
section
variable{w:Wo}
def Wd.big(I:Wd X w h)(ok:X.Ok):(w.s.heap.objs.size==sysModules)=false:=by obtain⟨o,es,ep,e,_⟩:=ok.gl;have:=ad2 (I.bk e);exact beq_eq_false_iff_ne.mpr fun z=>absurd (z▸this) ⋯
def bu.dm(p:bu X (RV X.toSC) w Q E (.ok (.ref h.length) (h++ [.dct H8])))(I:Wd X w h)(ok:X.Ok)(k:∀b o,w.s.heap.get? b=some o->s'.heap.get? b=some o)(d:s'.heap.DictOf (pk X.prog X.w) w.s.heap.objs.size kvs)(z:kvs.length<=sizeLine)(r:RK X.toSC w.F w.m H8 kvs)(ho:s'.os=w.s.os:=by rfl)(hg:s'.gens=w.s.gens:=by rfl):Q (.ref w.s.heap.objs.size) s':=by
 obtain⟨o,es,ep,e1,e2,e3⟩:=d;have sb:Sub w.m (w.m++ [w.s.heap.objs.size]):=fun i b e=>by rw[adC (adv.mp e).1];exact e
 exact p.2 _ _ (Nw.mk I.toHR (aU _) k ⟨(I.toHR.free (aU _)).2.1,o,kvs,e1,⟨e2,es,ep,e3⟩,I.big ok,z,r.1,(r.mono (fun _ _ e=>e) sb).2⟩ (fun _ _ e=>e) (fun _ _ e=>.inl e) ho hg) (.ref (by rw[I.len];simp))
def Nw.priv{o2:Obj}(n:Nw X w w1 h)(na:w.s.heap.get? a=none)(ha:Has w1 a o2)(sb:Heap.SameBut a w1.s.heap s'.heap)(e:s'.heap.get? a=some o)(ho:s'.os=w1.s.os:=by rfl)(hg:s'.gens=w1.s.gens:=by rfl):Nw X w { w1 with s:=s' } h/\Has { w1 with s:=s' } a o:=by
 have on:∀b o,b≠a->w1.s.heap.get? b=some o->s'.heap.get? b=some o:=fun b o z e=>(sb.2 b z).trans e;have ne:∀{b o},w.s.heap.get? b=some o->b≠a:=fun q z=>by rw[z,na]at q;cases q
 refine⟨⟨⟨ho.trans n.1.os,fun q=>hg▸n.1.ba q,n.1.fz,n.1.ow,n.1.pre,fun b o e=>let⟨o',q⟩:=n.1.dom b o e;⟨o',on b o' (ne e) q⟩,fun b o q z=>let⟨sl,q',z⟩:=n.1.keep b o q z;⟨sl,⟨on b _ (ne q.1) q'.1,q'.2⟩,z⟩⟩,n.2.on fun b o e z=>on b o (fun y=>z (y▸ha.2)) e⟩,e,ha.2⟩
def Nw.track{po:PO}(n:Nw X w w1 h)(na:w.s.heap.get? a=none)(ha:Has w1 a o)(q:qP X.toSC w1.F (w1.m++ [a]) w1.O w1.s.heap a po):Nw X w ⟨w1.F,w1.O,w1.m++ [a],w1.s⟩ (h++ [po]):=by
 have H:=n.2;have ne:∀{b o},w.s.heap.get? b=some o->b≠a:=fun q z=>by rw[z,na]at q;cases q
 have sb:Sub w1.m (w1.m++ [a]):=fun i b e=>by rw[adC (adv.mp e).1];exact e
 refine⟨⟨n.1.os,n.1.ba,n.1.fz,n.1.ow,let⟨t,e⟩:=n.1.pre;⟨t++ [a],by rw[e,adN]⟩,n.1.dom,fun b o q z=>let⟨sl,q',z⟩:=n.1.keep b o q z;⟨sl,⟨q'.1,fun y=>(adS.mp y).elim q'.2.1 fun y=>ne q.1 (by simpa using y),q'.2.2⟩,z⟩⟩,H.sub,fun d b e=>let⟨x,z,y⟩:=H.own d b e;⟨x,fun q'=>(adS.mp q').elim z fun q'=>(by simp at q';rw[q',ha.2.2.2]at e;cases e),y⟩,by simp[H.len],aeO.mpr ⟨H.nd,by simp,fun x hx y hy z=>ha.2.1 (by simp at hy;rw[<- hy,<- z];exact hx)⟩,fun i ob b e1 e2=>?_⟩;rcases aeN i h.length with l|l
 .rw[adC l]at e1;rw[adC (H.len▸l)]at e2;exact(H.obj i ob b e1 e2).on (fun _ _ e=>e) (fun _ e=>e) sb (fun _ _ e _=>e) id
 .rw[adL l]at e1;rw[adL (H.len▸l),<- H.len]at e2
  cases z:i - h.length with
  |zero=>rw[z]at e1 e2;cases e1;cases e2;exact q
  |succ _=>rw[z]at e1;simp at e1
def Dm:RE X (.Dict [] [] pos) vz:=⟨fun{w ρ h Q E} I p=>wpAny_Dict_empty (bu.dm p I.toWd I.ok (fun _ _ e=>ady _ e) (afP _) (aex _) ⟨rfl,.nil⟩)⟩
def AI:RE X (.Dict [] [] pos) (cK (.dct [])):=⟨fun{w ρ h Q E} I p=>wpAny_Dict_empty (by obtain⟨o,es,ep,e1,e2,e3⟩:(w.s.heap.push { cls:=.type "dict",data:=.dict #[] }).DictOf (pk X.prog X.w) w.s.heap.objs.size []:=afP _;exact p.2 _ _ (Nw.lay (s':={ w.s with heap:=w.s.heap.push { cls:=.type "dict",data:=.dict #[] } }) I.toHR (aU _) (fun _ _ e=>ady _ e) e1) (.dct (kvs:=[]) bg ⟨e2,es,ep,e3⟩ (I.big I.ok) (aex _) rfl .nil))⟩
def DR:Uk X (.type "dict") pV:=fun ok {w h p u Q E} I rs k=>by
 unfold pV at k
 split at k
 .obtain⟨u,rfl,r⟩:=rs.one
  split at k
  .replace r:=I.dc r ‹_›
   obtain⟨a,kvs,rfl,y,d,r⟩:=r;exact kt_call_dict y d r.1 fun h' Yg hs=>bu.dm k I ok (fun b q hq=>(hs.2 b (aeF (ad2 hq))).trans (ady _ hq)) Yg r.1 r.2
  .exact k.elim
 .exact k.elim
theorem pR(H:HR X.toSC w h):∀{xs:Y2}{us:Z3}{l:List (PK×PV)},ay X.toSC w.F w.m xs us->pS xs=some l->∃kvs,WY (pk X.prog X.w) w.s.heap us kvs/\RK X.toSC w.F w.m l kvs
 |[],_,_,.nil,e=>by cases e;exact⟨[],.nil,rfl,.nil⟩
 |x::r,_,l,.cons r1 t,e=>by
  unfold pS at e
  split at e
  .rename_i q;cases q
  .rename_i q
   cases q
   split at e<;>cases e
   obtain⟨kvs,p,rk⟩:=pR H t ‹_›;obtain⟨a,j6,rfl,y,z,rr⟩:=H.sq r1 rfl;obtain⟨u,v,e,ru,rv⟩:=rr.two;have:j6= #[u,v]:=by cases j6;cases e;rfl
   subst this;exact⟨_::kvs,.cons y.tup (jP ru ‹_›) p,by simp[rk.1],.cons rv rk.2⟩
  .cases e
theorem eR(p:WY (pk X.prog X.w) w.s.heap us kvs):kvs.length=us.length:=by
 induction p with
 |nil=>rfl
 |cons _ _ _ ih=>simp[ih]
def DQ(hc:X.calm=true):Uk X (.type "dict") sQ:=fun ok {w h p u Q E} I rs k=>by
 unfold sQ at k
 split at k
 .obtain⟨u,rfl,r⟩:=rs.one
  split at k
  .split at k
   .replace r:=I.sq r (iB ‹_›)
    obtain⟨a,j6,rfl,⟨n,y⟩,z,r⟩:=r;obtain⟨kvs,pm,rk⟩:=pR I.toHR r ‹_›;have l2:=eR pm;refine xj (us:=j6.toList) (ok.hd hc) y rfl rfl rfl pm z fun h' tk kp d=>bu.dm k I ok kp d ?_ (RK.merge rk ⟨rfl,.nil⟩);exact adR (lI _ _) (by simp;rw[l2];exact z)
   .exact k.elim
  .exact k.elim
 .exact k.elim
structure WX(X:Cx)(pos:Pos)(keys:List (Option Expr))(values:List Expr)(fs:List (Ex×Ex)):Prop where
 r:∀{w:Wo}{ρ:Ev}{h:Y3}{Q:List (Value×Value)->Shared->Prop}{E:Yf},Inv X w ρ h->bu X (fun w ps vs=>∃kvs,Carries (pk X.prog X.w) vs kvs/\RK X.toSC w.F w.m ps kvs/\kvs.length=keys.length) w Q E (jr fs ρ h)->Wp X (evalPairs (pairTrees keys values X.env pos)) Q E w.s
def Dd:WX X pos [] [] []:=⟨fun I p=>pairTrees_nil_walk (p.here I.toHR ⟨[],trivial,⟨rfl,.nil⟩,rfl⟩)⟩
def AB{k v:Expr}{fs:List (Ex×Ex)}(hk:RE X k fa)(hv:RE X v fb)(hr:WX X pos keys values fs):WX X pos (some k::keys) (v::values) ((fa,fb)::fs):=⟨fun I p=>pairTrees_cons_walk (hk.r I (p.bind fun _ _ x _ y1 r1 p=>hv.r (I.on y1) (p.bind fun _ _ _ _ y2 r2 p=>by
 split at p
 .refine hr.r ((I.on y1).on y2) (p.bind (by rintro _ _ _ _ y3 ⟨kvs,c,rk,l⟩ p;exact p.here y3.2 ⟨(_,_)::kvs,⟨jP (y2.1.rep r1) ‹_›,rfl,c⟩,⟨by simp[rk.1],.cons (y3.1.rep r2) rk.2⟩,by simp[l]⟩))
 .exact p.elim)))⟩
theorem KW{fs:List (Ex×Ex)}{k:List (PK×PV)->Y3->Res PV}(hr:WX X pos keys values fs)(Ux:keys.all (·.isSome)=true)(hl:keys.length=values.length)(h0:keys≠ [])(X7:keys.length<=15)
  (go:∀{w w2:Wo}{h2:Y3}{a:Addr}{ps:List (PK×PV)}{kvs:List (PK×Value)}{o:Obj}{Q:Yf}{E:Yf},Nw X w w2 h2->w.s.heap.get? a=none->(a==sysModules)=false->Has w2 a o->DO X.toSC o kvs->kvs.length<=sizeLine->RK X.toSC w2.F w2.m (Xa ps) kvs->bu X (RV X.toSC) w Q E (k ps h2)->Q (.ref a) w2.s):RE X (.Dict keys values pos) (fun ρ h=>(jr fs ρ h).bind k):=⟨fun{w ρ h Q E} I p=>wpAny_Dict_walk (knd:=pk X.prog X.w) Ux hl h0 X7 (by
 have n1:=Nw.also (X:=X) (s':={ w.s with heap:=w.s.heap.push { cls:=.type "dict",data:=.dict #[] } }) I.toHR fun _ _ e=>ady _ e;refine hr.r (I.on n1) ?_
 cases e:jr fs ρ h with
 |bad=>rw[e]at p;exact p
 |exc _ _=>rw[e]at p;exact⟨p.1,fun w' u y r=>p.2 w' u (n1.trans y) (r.back n1.1)⟩
 |ok ps h2=>
  rw[e]at p;refine⟨p.ep,?_⟩;rintro w2 vs y ⟨kvs,c,rk,l⟩;have na:=aU w.s.heap;have z:w.s.heap.objs.size∉X.fs:=fun z=>by obtain⟨o,q,_⟩:=I.fr _ z;have q:=q.1;rw[na]at q;cases q
  obtain⟨sl,ha,zz⟩:=y.1.keep w.s.heap.objs.size _ ⟨adK _ rfl,I.toHR.free na⟩ fun z=>z
  cases zz.resolve_left z
  obtain⟨o,es,ep,e1,e2⟩:(w.s.heap.push { cls:=.type "dict",data:=.dict #[] }).DictOf (pk X.prog X.w) w.s.heap.objs.size []:=afP _;rw[adK _ rfl]at e1
  cases e1
  refine⟨kvs,c,⟨_,es,ep,ha.1,e2⟩,?_⟩;rintro h' ⟨o',T8,YG,g1,g2⟩ sb;obtain⟨n3,ha3⟩:=Nw.priv (s':={ w2.s with heap:=h',toks:=w2.s.toks+vs.length }) (n1.trans y) na ha sb g1;exact go n3 na (I.big I.ok) ha3 ⟨g2.1,T8,YG,g2.2⟩ (adR (lI _ _) (by rw[ae8];simp;lia)) (RK.merge rk ⟨rfl,.nil⟩) p)⟩
def Dr{fs:List (Ex×Ex)}(hr:WX X pos keys values fs)(Ux:keys.all (·.isSome)=true:=by rfl)(hl:keys.length=values.length:=by rfl)(h0:keys≠ []:=by intro z;cases z)(X7:keys.length<=15:=by decide):RE X (.Dict keys values pos) (eQ fs):=KW hr Ux hl h0 X7 fun{w w2 h2 a ps kvs o Q E} n na sm ha d z r p=>p.2 ⟨gD w2.F a o,w2.O,w2.m,w2.s⟩ _ (n.freeze na ha) (.dct bg d sm z r.1 (r.mono (cx ha.2.2.1) fun _ _ e=>e).2)
def AH{fs:List (Ex×Ex)}(hr:WX X pos keys values fs)(Ux:keys.all (·.isSome)=true:=by rfl)(hl:keys.length=values.length:=by rfl)(h0:keys≠ []:=by intro z;cases z)(X7:keys.length<=15:=by decide):RE X (.Dict keys values pos) (gF fs):=KW hr Ux hl h0 X7 fun{w w2 h2 a ps kvs o Q E} n na sm ha d z r p=>by
 have sb:Sub w2.m (w2.m++ [a]):=fun i b e=>by rw[adC (adv.mp e).1];exact e
 exact p.2 ⟨w2.F,w2.O,w2.m++ [a],w2.s⟩ _ (n.track na ha ⟨ha.2.2.1,o,kvs,ha.1,d,sm,z,r.1,(r.mono (fun _ _ e=>e) sb).2⟩) (.ref (by rw[n.2.len];simp))
end
noncomputable def jv(h:Y3):PV->Option (Nat×Y2)
 |.ref i=>match h[i]? with
  |some (.lst xs)=>some (i,xs)
  |_=>none
 |_=>none
noncomputable def eM(h:Y3):PV->Option (Nat×List (PK×PV))
 |.ref i=>match h[i]? with
  |some (.dct kvs)=>some (i,kvs)
  |_=>none
 |_=>none
def lu(v o i:PV)(ρ:Ev)(h:Y3):SR:=match jv h o,i with
 |some (n,xs),.int k=>match Vq xs.length k with
  |some j=>.nx ρ (h.set n (.lst (xs.set j v)))
  |none=>.bad
 |_,_=>.bad
def mS(fo fi fv:Ex):Sx:=fun ρ h=>df (fv ρ h) fun v h1=>df (fo ρ h1) fun o h2=>df (fi ρ h2) fun i h3=>lu v o i ρ h3
def eO(v o i:PV)(ρ:Ev)(h:Y3):SR:=match eM h o,iM i with
 |some (n,H8),some k=>if H8.length<sizeLine then .nx ρ (h.set n (.dct (aK H8 k v)))else .bad
 |_,_=>.bad
def fO(fo fi fv:Ex):Sx:=fun ρ h=>df (fv ρ h) fun v h1=>df (fo ρ h1) fun o h2=>df (fi ρ h2) fun i h3=>eO v o i ρ h3
def Xg(h:Y3)(p:PV):Option (PV×Y3):=match eM h p with
 |some (i,kvs)=>if bP kvs=true then some (.dct kvs,h.set i (.s8 (.dct kvs)))else none
 |none=>ei h p
def Vv(p:PV)(h:Y3):Res PV:=match Xg h p with
 |some (q,h2)=>.ok q h2
 |none=>.bad
def V9(f:Ex):Ex:=fun ρ h=>(f ρ h).bind Vv
def cM(recv:Y3->PV->Bool)(g:PV->Y2->Y3->Res PV)(o:Ex)(as:Ax):Ex:=fun ρ h=>(o ρ h).bind fun p h1=>if recv h1 p=true then(as ρ h1).bind fun ps h2=>g p ps h2 else .bad
def aV(p:PV)(ps:Y2)(h:Y3):Res PV:=match ps with
 |[q]=>match jv h p with
  |some (i,xs)=>if xs.length<sizeLine then .ok .non (h.set i (.lst (xs++ [q])))else .bad
  |none=>.bad
 |_=>.bad
section
variable{w:Wo}{ps:Y2}
inductive Ll0(G:SC)(w:Wo)(i:Nat)(u:Value)(ps:Y2):Prop where
 |mk (a:Addr) (j6:Array Value) (n:Nat) (_:u=.ref a) (_:w.m[i]? =some a) (_:w.F a=none) (_:w.s.heap.get? a=some { cls:=.type "list",data:=.seq j6 n }) (_:j6.size<=sizeLine) (_:ay G w.F w.m ps j6.toList)
def HR.ll(H:HR G w h)(r:aP G w.F w.m p u)(k:jv h p=some (i,ps)):Ll0 G w i u ps:=by
 unfold jv at k
 split at k
 .split at k<;>cases k
  rename_i q
  cases r with
  |ref e=>obtain⟨f,j6,n,g,z,r⟩:=H.obj _ _ _ q e;exact⟨_,j6,n,rfl,e,f,g,z,r⟩
 .cases k
inductive Ld0(G:SC)(w:Wo)(i:Nat)(u:Value)(H8:List (PK×PV)):Prop where
 |mk (a:Addr) (o:Obj) (kvs:List (PK×Value)) (_:u=.ref a) (_:w.m[i]? =some a) (_:w.F a=none) (_:(a==sysModules)=false) (_:w.s.heap.get? a=some o) (_:DO G o kvs) (_:kvs.length<=sizeLine) (_:RK G w.F w.m H8 kvs)
def HR.ld(H:HR G w h)(r:aP G w.F w.m p u)(k:eM h p=some (i,H8)):Ld0 G w i u H8:=by
 unfold eM at k
 split at k
 .split at k<;>cases k
  rename_i q
  cases r with
  |ref e=>obtain⟨f,o,kvs,g,d,y,z,c,r⟩:=H.obj _ _ _ q e;exact⟨_,o,kvs,rfl,e,f,y,g,d,z,c,r⟩
 .cases k
theorem ay.set{F:Fz}{m:Zs}{x:PV}{u:Value}(r:aP G F m x u):∀{xs:Y2}{us:Z3}(i:Nat),ay G F m xs us->ay G F m (xs.set i x) (us.set i u)
 |_,_,_,.nil=>.nil
 |_,_,0,.cons _ t=>.cons r t
 |_,_,i+1,.cons q t=>.cons q (ay.set r i t)
def Nw.XF{f:Obj->Obj}{OJ:Array Value}{n' tk:Nat}(H:HR X.toSC w h)(em:w.m[i]? =some a)(hf:w.F a=none)(e:w.s.heap.get? a=some o)(ef:f o= { cls:=.type "list",data:=.seq OJ n' })(z:OJ.size<=sizeLine)(r:ay X.toSC w.F w.m ps OJ.toList):Nw X w { w with s:={ w.s with heap:=w.s.heap.update a f,toks:=tk } } (h.set i (.lst ps)):=by
 have eu:(w.s.heap.update a f).get? a=some { cls:=.type "list",data:=.seq OJ n' }:=ef▸ae4 _ e (by rw[ef];rfl)
 exact Nw.upd (s':={ w.s with heap:=w.s.heap.update a f,toks:=tk }) H em hf (fun b o' e=>by
  by_cases z:b=a
  .exact .inl z
  .exact .inr (.inr ((afh _ _ _ _ z).trans e))) (fun b o' e=>by
  by_cases z:b=a
  .exact⟨{ cls:=.type "list",data:=.seq OJ n' },by subst z;exact eu⟩
  .exact⟨o',(afh _ _ _ _ z).trans e⟩) ⟨hf,OJ,n',eu,z,r⟩
variable{oe ie ve:Expr}{fi fv:Ex}{px:Pos}
def Az(ho:RE X oe fo)(hi:RE X ie fi)(hv:RE X ve fv)
  (hs:swapsWith ve (some (.Subscript oe ie px)) pos.line X.env=pure false:=by rfl):RS X (.Assign [.Subscript oe ie px] ve pos) (mS fo fi fv):=⟨fun{w ρ h Q E} I p=>agt (hv.r I (bp.e p I fun w1 h1 pv v y1 I1 rv p=>ho.r I1 (bp.e p I1 fun w2 h2 po u y2 I2 ro p=>hi.r I2 (bp.e p I2 fun w3 h3 pi iv y3 I3 ri p=>by
 unfold lu at p
 split at p
 .rename_i el
  split at p
  .rename_i j hj;obtain⟨a,j6,n,rfl,em,hf,e,z,r⟩:=I3.toHR.ll (y3.1.rep ro) el;obtain⟨_,rfl⟩:=ri.vi;obtain⟨h1,h2,h3,h4⟩:=xY hj;have hl:=r.len;have sl:=ae8;have hz:∀t,Nw X w3 { w3 with s:={ w3.s with heap:=w3.s.heap.update a (Obj.mapSeq (·.setIfInBounds j v)),toks:=t } } _:=fun t=>Nw.XF (OJ:=j6.setIfInBounds j v) (n':=n) I3.toHR em hf e (by simp[Obj.mapSeq]) (by simpa using z) (by simpa using r.set (y3.1.rep (y2.1.rep rv)) j);rename_i k _ _
   by_cases h0:0<=k
   .have hk:k.toNat=j:=by rw[ahN h0 h4]at h1;exact aed h1
    exact W.ki_setAt e h0 ⋯ (by rw[<- hl];exact h4) (by rw[hk];exact p.2 _ (hz _).s (I3.on (hz _)))
   .have hk:(k+(j6.size:Int)).toNat=j:=by rw[ahq ⋯ h3]at h1;rw[<- hl];exact aed h1
    exact W.ki_setBack e ⋯ (by rw[<- hl];exact h3) ⋯ (by rw[hk];exact p.2 _ (hz _).s (I3.on (hz _)))
  .exact p.elim
 .exact p.elim)))) hs⟩
def CZ(ho:RE X oe fo)(hi:RE X ie fi)(hv:RE X ve fv)
  (hs:swapsWith ve (some (.Subscript oe ie px)) pos.line X.env=pure false:=by rfl):RS X (.Assign [.Subscript oe ie px] ve pos) (fO fo fi fv):=⟨fun{w ρ h Q E} I p=>agt (hv.r I (bp.e p I fun w1 h1 pv v y1 I1 rv p=>ho.r I1 (bp.e p I1 fun w2 h2 po u y2 I2 ro p=>hi.r I2 (bp.e p I2 fun w3 h3 pi iv y3 I3 ri p=>by
 unfold eO at p
 split at p
 .rename_i el ek
  split at p
  .rename_i hz;obtain⟨a,o,kvs,rfl,em,hf,sm,e,d,z,r⟩:=I3.toHR.ld (y3.1.rep ro) el;refine wpAny_setItem_pairs (hsz:=z) (jP ri ek) (d.of e) fun h' Yg sb=>?_;obtain⟨o',es,ep,e1,e2,e3⟩:=Yg;have r':=r.put (k:= ‹PK›) (y3.1.rep (y2.1.rep rv))
   have y4:=Nw.upd (X:=X) (s':={ w3.s with heap:=h',toks:=w3.s.toks+1 }) I3.toHR em hf (fun b o e=>by
     by_cases z:b=a
     .exact .inl z
     .exact .inr (.inr ((sb.2 b z).trans e))) (fun b o e=>by
     by_cases z:b=a
     .exact⟨o',by subst z;exact e1⟩
     .exact⟨o,(sb.2 b z).trans e⟩) (po:=.dct _) ⟨hf,o',_,e1,⟨e2,es,ep,e3⟩,sm,adR (lq _ _) (by rw[r.length];exact hz),r'.1,r'.2⟩
   exact p.2 _ y4.s (I3.on y4)
  .exact p.elim
 .exact p.elim)))) hs⟩
def Jk{ae:Expr}(ha:RE X ae fa):RE X ae (V9 fa):=⟨fun I p=>ha.r I (p.bind fun w1 h1 q u y r p=>by
 unfold Vv Xg at p
 split at p
 .rename_i e
  split at e
  .split at e<;>cases e
   rename_i hp;obtain⟨a,o,kvs,rfl,em,hf,sm,e,d,z,r'⟩:=y.2.ld r ‹_›;have rr:aP X.toSC (gD w1.F a o) w1.m (.dct _) (.ref a):=.dct bg d sm z r'.1 (r'.2.mono (cx hf) (.inr fun _ _ e=>e));exact p.2 ⟨gD w1.F a o,w1.O,w1.m,w1.s⟩ _ (y.2.fix em hf e rr (by simpa[PV.pure]using hp)) rr
  .obtain⟨F',n,r',_⟩:=y.2.X8 (X:=X) r e;exact p.2 ⟨F',w1.O,w1.m,w1.s⟩ _ n r'
 .exact p.elim)⟩
end
noncomputable def isStr(_:Y3)(p:PV):Bool:=match p with
 |.str _=>true
 |_=>false
def bY(h:Y3)(p:PV):Bool:=(Tt h p).isSome
noncomputable def lh:Y2->Option Ya
 |[]=>some []
 |.str l::r=>(lh r).map (l:: ·)
 |_::_=>none
noncomputable def gw(sep:Y1):Ya->Y1
 |[]=>[]
 |[x]=>x
 |x::rest=>x++sep++gw sep rest
def eK(p:PV)(ps:Y2)(h:Y3):Res PV:=match p,ps with
 |.str sep,[q]=>match Tt h q with
  |some xs=>match lh xs with
   |some ls=>if(ls.map (·.length)).sum+ls.length * sep.length<=16777216 then .ok (.str (gw sep ls)) h else .bad
   |none=>.bad
  |none=>.bad
 |_,_=>.bad
section
variable{w:Wo}{ps:Y2}{h':Heap}
def Xm(X:Cx)(id:String)(g:PV->Y2->Y3->Res PV):Prop:=
 ∀{w h p u ps us Q E},Wd X w h->aP X.toSC w.F w.m p u->ay X.toSC w.F w.m ps us->bu X (RV X.toSC) w Q E (g p ps h)->Wp X (call (.builtin id) (u::us)) Q E w.s
def TyM(X:Cx)(Ty:String)(recv:Y3->PV->Bool):Prop:=∀{w h p u},HR X.toSC w h->aP X.toSC w.F w.m p u->recv h p=true->w.s.TypeIs u Ty/\∀a,u=.ref a->∃ob,w.s.heap.get? a=some ob/\ob.dict=none
def uA{Ty:String}{recv:Y3->PV->Bool}{id:String}{g:PV->Y2->Y3->Res PV}{oe e:Expr}{fs:Ax}{S6:Pos}(ty:TyM X Ty recv)(pa:PlainAttrs Ty)(slot:Slot Ty name id)(ZQ:typeOf (.builtin id)=pure (.type "method_descriptor"))(hm:Xm X id g)
  (ho:RE X oe fo) (ha:RA X (e::es) fs)
  (X6:attributeBase oe name X.env (eval oe X.env)=eval oe X.env:=by rfl)
  (Z4:((backTo S6 (starEach (e::es) X.env)).all (fun x=>!x.1)&&(backToKw S6 (keywordEach [] X.env)).all (fun x=>x.1.isSome)
   &&decide ((e::es).length+([]:List Keyword).length+(if([]:List Keyword).isEmpty then 0 else 1)<30))=true:=by rfl)
  (hline:(apos.endLine==S6.line)=true:=by rfl)(hs:sE0 X e es:=by rfl) (Wz:(backTo S6 (starEach es X.env)).any (·.1)=false:=by rfl):
  RE X (.Call (.Attribute oe name apos) (e::es) [] S6) (cM recv g fo fs):=⟨fun I p=>wpAny_Call_method_late X6 Z4 hline rfl (ho.r I (p.bind fun w1 h1 q u y r p=>by
 split at p
 .obtain⟨t1,t2⟩:=ty y.2 r ‹_›;refine⟨Ty,id,pa,slot,ZQ,t1,t2,?_⟩;have hA:=ha.r S6 (I.on y) (p.bind (G:=fun us s=>Wp X (call (.builtin id) (u::us)) _ _ s) fun w2 h2 qs us y2 r2 p=>hm ((I.on y).on y2).toWd (y2.1.rep r) r2 p);rw[hs]at hA |-;exact Calls.callWith_builtin (by show(false||(backTo S6 (starEach es X.env)).any (·.1))=false;rw[Wz]<;>rfl) (Calls.evalArgs_plain hA)
 .exact p.elim))⟩
def Ac:TyM X "str" isStr:=fun H r e=>by
 unfold isStr at e
 split at e
 .cases r;exact⟨af2 _ _ _,fun _ e=>nomatch e⟩
 .cases e
def Gn:TyM X "list" bY:=fun H r e=>by obtain⟨xs,ex⟩:=ad4.mp e;obtain⟨a,j6,rfl,⟨n,y⟩,_⟩:=H.sq r (iB ex);exact⟨⟨_,y,rfl⟩,fun _ e=>by cases e;exact⟨_,y,rfl⟩⟩
def zw:Xm X "list.append" aV:=fun{w h p u ps us Q E} I r rs k=>by
 unfold aV at k
 split at k
 .split at k
  .split at k
   .obtain⟨v,rfl,rv⟩:=rs.one
    replace r:=I.toHR.ll r ‹_›
    obtain⟨a,j6,n,rfl,em,hf,e,z,r⟩:=r;refine afy F.slot_list_append ⟨_,e,rfl⟩ F.entry_list_append (F.args_list_append_2 _ _) (PySem.list_append a j6 n v z) ⟨e,?_⟩;exact k.2 _ _ (Nw.XF (f:=Obj.mapSeq (·.push v)) (OJ:=j6.push v) (tk:=w.s.toks) I.toHR em hf e (by simp[Obj.mapSeq];rfl) (by have:=r.len;simp;lia) (by simpa using r.app (.cons rv .nil))) .non
   .exact k.elim
  .exact k.elim
 .exact k.elim
theorem pF{F:Fz}{m:Zs}:∀{ps:Y2}{us:Z3}{ls:Ya},lh ps=some ls->ay G F m ps us->StrsAre us (ls.map S)
 |[],_,_,e,.nil=>by cases e;exact .nil
 |p::r,_,ls,e,.cons rp t=>by
  cases p with
  |str l=>simp only[lh,aeE]at e;obtain⟨ls',e1,rfl⟩:=e;obtain⟨_,rfl⟩:=rp.vs;exact .cons _ _ (pF e1 t)
  |_=>simp[lh]at e
def Gb(a b:Y1):S a++S b=S (a++b):=by show(⟨(S a).cps++(S b).cps⟩:Str)=_;simp[S]
def IG(sep:Y1)(xs:Ya):Txt.join (S sep) (xs.map S)=S (gw sep xs):=by
 have go:∀xs:Ya,Str.join (S sep) (xs.map S)=S (gw sep xs):=by
  intro xs
  induction xs with
  |nil=>rfl
  |cons x r ih=>
   cases r with
   |nil=>rfl
   |cons y r=>have e:gw sep (x::y::r)=x++sep++gw sep (y::r):=rfl;rw[e,<- Gb,<- Gb,<- ih];rfl
 show Builtin.Str.glued _ _=_;rw[StrLaws.glued_eq_join];exact go xs
def DW:Xm X "str.join" eK:=fun{w h p u ps us Q E} I r rs k=>by
 unfold eK at k
 split at k
 .split at k
  .split at k
   .split at k
    .rename_i el hz;obtain⟨_,rfl⟩:=r.vs;obtain⟨v,rfl,rv⟩:=rs.one;obtain⟨a,j6,rfl,y,_,r⟩:=I.sq rv (iB ‹_›);refine join_list y.pl.isList (pF ‹_› r) ?_ fun t' k'=>by rw[IG];exact k.now I.toHR (.str _ _)
     rw[aen,adJ,fN,show((fun x:Str=>x.length)∘S)=(·.length)from funext fN];exact hz
    .exact k.elim
   .exact k.elim
  .exact k.elim
 .exact k.elim
end
noncomputable def bC(y x:Y1)(lo:Nat):Option Nat:=(List.range (x.length+1)).find? fun i=>decide (lo<=i)&&y.isPrefixOf (x.drop i)
noncomputable def mB(o:Option Nat):Int:=match o with
 |some i=>(i:Int)
 |none=> -1
def rG(y x:Y1):Bool:=(bC y x 0).isSome
def mi(p:PV)(ps:Y2)(h:Y3):Res PV:=match p,ps with
 |.str x,[.str y]=>.ok (.int (mB (bC y x 0))) h
 |_,_=>.bad
def DE(p q:PV)(h:Y3):Option Bool:=match q with
 |.str b=>match p with
  |.str a=>some (rG a b)
  |_=>none
 |q=>match R_ h q with
  |some kvs=>match iM p with
   |some k=>some (bj kvs k).isSome
   |none=>none
  |none=>match Wq h q with
   |some xs=>if R5 [] p=true/\xs.all (R5 [])=true then some (xs.any fun y=>PyData.eqv (toD y) (toD p))else none
   |none=>none
def Wt(p q:PV)(h:Y3):Res PV:=match DE p q h with
 |some b=>.ok (.bl b) h
 |none=>.bad
def jE(p q:PV)(h:Y3):Res PV:=match DE p q h with
 |some b=>.ok (.bl (!b)) h
 |none=>.bad
def qY(x y:Y1)(i:Nat)(hi:i+y.length<=x.length):Builtin.Str.subAt (S x) (S y) i=y.isPrefixOf (x.drop i):=by
 unfold Builtin.Str.subAt;rw[fN];rw[afQ,beq_iff_eq,aer]
 have e:(S x).cps.extract i (i+y.length)=((x.drop i).take y.length).toArray:=by apply ahM.mp;simp[S,List.extract_eq_drop_take]
 rw[e];show((x.drop i).take y.length).toArray=(S y).cps↔_;constructor
 .intro h;have h':(x.drop i).take y.length=y:=by simpa[S]using congrArg Array.toList h
  refine⟨(x.drop i).drop y.length,?_⟩;have q:=List.take_append_drop y.length (x.drop i);rw[h']at q;exact q
 .rintro⟨t,ht⟩
  rw[<- ht,List.take_left];rfl
def xn(x y:Y1)(i:Nat):StrLaws.At (S x) (S y) (S x).length i↔i<=x.length/\y.isPrefixOf (x.drop i)=true:=by
 unfold StrLaws.At;rw[fN,fN];constructor
 .rintro⟨h1,h2⟩
  rw[qY x y i h1]at h2;exact⟨by lia,h2⟩
 .rintro⟨h1,h2⟩
  have:i+y.length<=x.length:=by
   have:=(aer.mp h2).length_le;rw[aeT]at this
   lia
  exact⟨this,by rw[qY x y i this];exact h2⟩
def pW(x y:Y1)(lo:Nat):Builtin.Str.occurrences (S x) (S y) lo (S x).length 1=(bC y x lo).toList:=by
 have SN:=StrLaws.occ_length_le (S x) (S y) lo (S x).length 1;rcases StrLaws.occ_head_from (S x) (S y) lo 1 (adA _)with⟨h0,hn⟩|⟨i,r,h0,hl,ha,hn⟩
 .rw[h0]
  have:bC y x lo=none:=by unfold bC;rw[ahj];intro i hi hc;simp only[adI,decide_eq_true_eq]at hc;exact hn i hc.1 ((xn x y i).mpr ⟨by have:=ad3.mp hi;lia,hc.2⟩)
  rw[this];rfl
 .rw[h0]at SN |-
  have hr:r= []:=by cases r with
   |nil=>rfl
   |cons _ _=>simp at SN
  subst hr;obtain⟨a1,a2⟩:=(xn x y i).mp ha
  have:bC y x lo=some i:=by
   unfold bC;rw[List.find?_range_eq_some];refine⟨by simp[hl,a2],by simp;lia,fun j hj=>?_⟩;simp only[agj,Bool.and_eq_false_iff,decide_eq_false_iff_not];rcases aeN j lo with q|q
   .exact .inl ⋯
   .right
    cases z:y.isPrefixOf (x.drop j)with
    |false=>rfl
    |true=>exact absurd ((xn x y j).mpr ⟨by lia,z⟩) (hn j q hj)
  rw[this];rfl
def IH(x y:Y1):Txt.find (S x) (S y)=mB (bC y x 0):=by
 unfold Txt.find;rw[pW]
 cases bC y x 0<;>rfl
def NL(x y:Y1):(!(Builtin.Str.occurrences (S x) (S y) 0 (S x).length 1).isEmpty)=rG y x:=by
 rw[pW];unfold rG
 cases bC y x 0<;>rfl
noncomputable def qA(h:Heap)(d:PyData)(y:Value):Bool:=open Classical in if q:∃e as,Reads h y e as/\e.canLay0=true then PyData.eqv q.choose d else false
def yk{h:Heap}{d e:PyData}{y:Value}{as:Zs}(r:Reads h y e as)(c:e.canLay0=true):qA h d y=PyData.eqv e d:=by
 have q:∃e as,Reads h y e as/\e.canLay0=true:=⟨e,as,r,c⟩
 unfold qA;rw[dif_pos q];obtain⟨as',r',c'⟩:=q.choose_spec;rw[SeqAt.Reads.unique _ _ _ _ _ c r r']
theorem uJ{A:Around}{s:Shared}{d:PyData}{v:Value}{bs:Zs}(rv:Reads s.heap v d bs)(cd:d.canLay0=true)(hu:A.units+d.depth<cLine):
  ∀{us:Z3}{ds:List PyData}{as:Zs},ReadsAll s.heap us ds as->ds.all PyData.canLay0=true->∀u∈us,SeqAt.EqAt A s u v (qA s.heap d u)
 |_,_,_,.nil,_=>fun u hu=>by cases hu
 |_,_,_,.cons r t,c=>fun u Xb=>by
  simp only[ae2,adI]at c;rcases adD.mp Xb with rfl|Xb
  .rw[yk r c.1];exact SeqAt.eqAt_reads _ _ A s _ _ _ _ r rv c.1 cd (by have:=ahG (PyData.depth ‹PyData›) d.depth;lia)
  .exact uJ rv cd hu t c.2 u Xb
theorem vD{h:Heap}{d:PyData}:∀{us:Z3}{ds:List PyData}{as:Zs},ReadsAll h us ds as->ds.all PyData.canLay0=true->us.any (qA h d)=ds.any fun e=>PyData.eqv e d
 |_,_,_,.nil,_=>rfl
 |_,_,_,.cons r t,c=>by simp only[ae2,adI]at c;rw[ae1,ae1,yk r c.1,vD t c.2]
theorem hV:∀l:List PyData,PyData.canLayAll0 l=l.all PyData.canLay0
 |[]=>by simp[PyData.canLayAll0]
 |x::r=>by simp[PyData.canLayAll0,hV r]
theorem pD:∀l:Y2,iI l=l.map toD
 |[]=>by simp[iI]
 |x::r=>by simp[iI,pD r]
def yw(p:PV):QV [] p=toD p:=by
 unfold QV
 split
 .simp[toD]
 .rfl
section
variable{w:World}
def vj(l:Addr)(es:Array DictEntry)(n:Nat)(dd:Option Addr)(sl:Array (Option Value))(z:Str)(u:Tok):
  Meets (Builtin.«dict.__eq__» ⟨[.ref l,.str z u],[]⟩) (fun _ R s=>s.heap.get? l=some { cls:=.type "dict",dict:=dd,data:=.dict es n,slots:=sl }/\R (.ok (.ret .notImplemented)) s):=
 .of_wp fun prog w A R s h=>by
  obtain⟨hp,g,d,tk,os⟩:=s;obtain⟨hl,h⟩:=h;have f1:=agR
  wp_walk using afz hl
  exact⟨_,rfl,h⟩
def ud(l:Addr)(es:Array DictEntry)(n:Nat)(dd:Option Addr)(sl:Array (Option Value))(z:Str)(u:Tok):
  Meets (Builtin.«str.__eq__» ⟨[.str z u,.ref l],[]⟩) (fun _ R s=>s.heap.get? l=some { cls:=.type "dict",dict:=dd,data:=.dict es n,slots:=sl }/\R (.ok (.ret .notImplemented)) s):=
 .of_wp fun prog w A R s h=>by
  obtain⟨hp,g,d,tk,os⟩:=s;obtain⟨hl,h⟩:=h
  wp_walk using afz hl,wpAny_load hl
  exact⟨_,rfl,h⟩
end
section
variable{w:Wo}{a b c:Expr}{fc:Ex}
def DX:Xm X "str.find" mi:=fun{w h p u ps us Q E} I r rs k=>by
 unfold mi at k
 split at k
 .obtain⟨_,rfl⟩:=r.vs;obtain⟨v,rfl,rv⟩:=rs.one;obtain⟨_,rfl⟩:=rv.vs;exact SC.find (by rw[IH];exact k.now I.toHR (.int _ _))
 .exact k.elim
def inB{q:PV}{k:Bool}{op:CmpOp}{neg:Bool}(ho:op= .In/\neg=false\/op= .NotIn/\neg=true)(hu:X.A.units+64<cLine)(I:Wd X w h)(rp:aP X.toSC w.F w.m p u)(rq:aP X.toSC w.F w.m q v)(e:DE p q h=some k)(fin:∀t,Q (.bool (if neg then !k else k)) { w.s with toks:=t }):Wp X (compareOp op u v) Q E w.s:=by
 unfold DE at e
 split at e
 .split at e<;>cases e
  cases rp;obtain⟨_,rfl⟩:=rq.vs
  rw[<- NL]at fin;rcases ho with⟨rfl,rfl⟩|⟨rfl,rfl⟩
  .exact in_str (fin w.s.toks)
  .exact notIn_str (fin w.s.toks)
 .split at e
  .split at e<;>cases e
   rename_i kk ek;obtain⟨a,kvs,rfl,sm,d,rr⟩:=I.dc rq ‹_›
   have:(bj ‹_› kk).isSome=(valueAt kvs kk).isSome:=by
    rcases kq rr.2.1 rr.2.2 kk with⟨p1,v1,h1,h2,_⟩|⟨h1,h2⟩
    .rw[h1,h2];rfl
    .rw[h1,h2];rfl
   rw[this]at fin;rcases ho with⟨rfl,rfl⟩|⟨rfl,rfl⟩
   .exact wpAny_in_of (jP rp ek) sm d.mapOf (fin _)
   .exact wpAny_notIn_of (jP rp ek) sm d.mapOf (fin _)
  .split at e
   .split at e
    .rename_i hc
     cases e
     rename_i xs es
     have h1:(toD p).canLay0=true/\(toD p).depth<=60:=by have:=hc.1;unfold R5 at this;simpa[yw]using this
     have h2:PyData.canLayAll0 (iI xs)=true:=by rw[hV,pD,agz];rw[adX]at hc |-;intro z hz;have:=hc.2 z hz;unfold R5 at this;rw[yw,adI]at this;exact this.1
     have h3:(iI xs).all PyData.canLay0=true:=by rw[<- hV];exact h2
     obtain⟨t,e,ht⟩:=vR es;obtain⟨a,j6,rfl,y,z,r⟩:=I.sq rq e;obtain⟨as,ra⟩:=aP.reads I.toHR rp h1.1;obtain⟨bs,rb⟩:=ay.reads I.toHR r h2
     have en:(xs.any fun y=>PyData.eqv (toD y) (toD p))=j6.any (qA w.s.heap (toD p)):=by rw[show j6.any (qA w.s.heap (toD p))=j6.toList.any (qA w.s.heap (toD p)) by simp,vD rb h3,pD,ah1];rfl
     rw[en]at fin;have me:=fun{B:Around}(hB:B.units+(toD p).depth<cLine)(x:Value)(hx:x∈j6)=>uJ (A:=B) ra h1.1 hB rb h3 x (by simpa using hx);have hb:X.A.in1.units+(toD p).depth<cLine:=by show X.A.units+1+_<_;lia
     rcases ht with rfl|rfl<;>rcases ho with⟨rfl,rfl⟩|⟨rfl,rfl⟩
     .exact SeqAt.in_tupleAt (qA w.s.heap (toD p)) y.tup (fun x hx=>me hb x hx) (fin _)
     .exact SeqAt.notIn_tupleAt (qA w.s.heap (toD p)) y.tup (fun x hx=>me hb x hx) (fin _)
     .exact SeqAt.in_listAt (qA w.s.heap (toD p)) y.pl.isList (fun x hx=>me hb x hx) (fin _)
     .exact SeqAt.notIn_listAt (qA w.s.heap (toD p)) y.pl.isList (fun x hx=>me hb x hx) (fin _)
    .cases e
   .cases e
def Mn(hu:X.A.units+64<cLine):R3 X (compareOp .In) Wt:=fun{w h p q u v Q E} I rp rq k=>by
 unfold Wt at k
 split at k
 .exact inB (.inl ⟨rfl,rfl⟩) hu I rp rq ‹_› fun t=>k.now I.toHR (.bl _)
 .exact k.elim
def xQ(hu:X.A.units+64<cLine):R3 X (compareOp .NotIn) jE:=fun{w h p q u v Q E} I rp rq k=>by
 unfold jE at k
 split at k
 .exact inB (.inr ⟨rfl,rfl⟩) hu I rp rq ‹_› fun t=>k.now I.toHR (.bl _)
 .exact k.elim
def JD(hu:X.A.units+64<cLine):R3 X (compareOp .Eq) zi:=fun{w h p q u v Q E} I rp rq k=>by
 unfold zi at k
 split at k
 .rename_i e;unfold ltL at e
  split at e
  .obtain⟨a,j6,rfl,⟨n,y⟩,z,r⟩:=I.sq rp (jM ‹_›);obtain⟨a2,ZJ,rfl,⟨n2,y2⟩,z2,r2⟩:=I.sq rq (jM ‹_›);have l1:=r.len;have l2:=r2.len;exact SeqAt.RcAt.lists_lengths (items:=j6) (items2:=ZJ) ⟨_,y,rfl,_,rfl⟩ ⟨_,y2,rfl,_,rfl⟩ (by rw[<- l1,<- l2];simpa using of_decide_eq_true e) ⋯ _ _ _ _ (k.here I.toHR (.bl _))
  .cases e
 .exact DP hu I rp rq k
def JC(hu:X.A.units+64<cLine):R3 X (compareOp .Eq) or:=fun{w h p q u v Q E} I rp rq k=>by
 unfold or at k
 split at k
 .split at k
  .obtain⟨_,rfl⟩:=rq.vs;rename_i z t;obtain⟨a,kvs,rfl,sm,⟨o,es,ep,h1,h2,h3,_⟩,_⟩:=I.dc rp rfl;obtain⟨oc,od,odt,W9⟩:=o;have hc:oc=.type "dict":=h2.1;dsimp only at h3;subst hc h3;show wpAny _ _ (richCompare .Eq _ _) _ _ _
   exact SeqAt.rc_eq_decline_or (k:=false) ⟨_,h1,rfl⟩ (af2 w.s _ t) ⋯ agR afa agl
    (fun _ hq=>afy afa ⟨_,h1,rfl⟩ agJ (agx _ _) (vj a _ _ _ _ _ t) ⟨h1,hq⟩)
    (fun _ hq=>afy agl (af2 w.s _ t) PySem.F.entry_str_eq (PySem.F.args_str_eq_2 _ _) (ud a _ _ _ _ _ t) ⟨h1,hq⟩)
    (fun _ hq=>wpAny_of_eq (rfl:isSame (.ref a) (.str _ t)=pure false) hq) (.inr ⋯) (k.here I.toHR (.bl _))
  .exact k.elim
 .exact DP hu I rp rq k
end
section
variable{w:Wo}{a b c:Expr}{fc:Ex}{op Y_:CmpOp}{g g':PV->PV->Y3->Res PV}
theorem uz(o:R3 X (compareOp op) g)(o':R3 X (compareOp Y_) g')(ha:RE X a fa)(hb:RE X b fb)(hc:RE X c fc)(hm:lastMarks [op,Y_] [b,c]=false:=by with_unfolding_all rfl):RE X (.Compare a [op,Y_] [b,c] pos) (tH g g' fa fb fc):=⟨fun I p=>Compare_chain (ha.r I (p.bind fun _ _ _ _ y1 r1 p=>chain_link (hb.r (I.on y1) (p.bind fun _ _ _ _ y2 r2 p=>o ((I.on y1).on y2).toWd (y2.1.rep r1) r2 (p.bind fun _ _ z _ y3 r3 p=>by
 cases r3 with
 |bl k=>
  refine aeB ?_
  cases k with
  |false=>exact ite_ff (p.here y3.2 (.bl false))
  |true=>exact ite_tt (chain_last (hc.r (((I.on y1).on y2).on y3) (p.bind fun _ _ _ _ y4 r4 p=>o' ((((I.on y1).on y2).on y3).on y4).toWd (y4.1.rep (y3.1.rep r2)) r4 p)))
 |_=>exact p.elim))))) hm⟩
end
section
variable{w:Wo}
def bu.Xw{pv:PV}{t:String}{ps:Y2}{j6:Array Value}(p:bu X (RV X.toSC) w Q E (.ok pv h))(H:HR X.toSC w h)(na:w.s.heap.get? a=none)(kp:∀b o,w.s.heap.get? b=some o->s'.heap.get? b=some o)(e:s'.heap.get? a=some { cls:=.type t,data:=.seq j6 n })(k:W5 pv=some (t,ps))(r:ay X.toSC w.F w.m ps j6.toList)(z:j6.size<=sizeLine)(ho:s'.os=w.s.os:=by rfl)(hg:s'.gens=w.s.gens:=by rfl):Q (.ref a) s':=
 have y:=Nw.lay (X:=X) H na kp e ho hg
 p.2 _ _ y (.sq k bg z (y.1.reps r))
def DI:Uk X (.type "tuple") nc:=fun ok {w h p u Q E} I rs k=>by
 unfold nc at k
 split at k
 .obtain⟨u,rfl,r1⟩:=rs.one;show Wp X (call (.type "tuple") [u]) Q E w.s
  split at k
  .rename_i e;have sl:=ae8;unfold Wq at e
   split at e
   .cases e
    obtain⟨a,j6,rfl,y,z,r⟩:=I.sq r1 rfl;exact call_tuple_same y.tup (k.here I.toHR r1)
   .obtain⟨a,j6,rfl,y,z,r⟩:=I.sq r1 (iB e);refine call_tuple_list y.pl.isList (fun h' kp=>?_) ⋯
    have na:w.s.heap.get? h'.objs.size=none:=by
     cases q:w.s.heap.get? h'.objs.size with
     |none=>rfl
     |some o=>have:=kp _ _ q;rw[aU]at this;cases this
    exact k.Xw I.toHR na (fun b o e=>ady _ (kp b o e)) (adK _ rfl) rfl r z
  .exact k.elim
 .exact k.elim
end
section
variable{w:Wo}{a:Expr}{p1 p2 p3:Pos}
theorem oh{F:Fz}{m:Zs}:∀{ps:Y2}{us:Z3}{bs:List Bool},iw ps=some bs->ay G F m ps us->LSm.BoolsAre us bs
 |[],_,_,e,.nil=>by cases e;exact .nil
 |p::r,_,bs,e,.cons rp t=>by
  cases p with
  |bl b=>simp only[iw,aeE]at e;obtain⟨bs',e1,rfl⟩:=e;obtain rfl:=rp.vb;exact .cons _ (oh e1 t)
  |_=>simp[iw]at e
def JE(hc:X.calm=true):Uk X (.builtin "all") AV:=fun ok {w h p u Q E} I rs k=>by
 unfold AV at k
 split at k
 .obtain⟨u,rfl,r1⟩:=rs.one
  split at k
  .split at k
   .obtain⟨a,j6,rfl,y,z,r⟩:=I.sq r1 (iB ‹_›);have hb:=oh ‹_› r;have hl:=y.pl.isList;have Xc:a<w.s.heap.objs.size:=by obtain⟨_,e,_⟩:=hl;exact ad2 e
    show Wp X (call (.builtin "all") [.ref a]) Q E w.s;rename_i bs _
    refine call_all_walk (afo hl ⟨w.s.heap.objs.size,[w.s.heap.objs.size,a],[w.s.heap.objs.size],j6.size,_,_,fun i=>(bs[i]?).getD true,rfl,ahh (A:=X.A.in1) (ok.hd hc) _ a (aeF Xc) j6,
     ⟨⟨_,adK _ rfl,rfl,rfl⟩,hl.push _⟩,fun i v s' Q' E' hP hQ=>?_,fun h' tk hk=>?_⟩)
    .obtain⟨b,e,rfl⟩:=hb.get i v (by simpa using hP);simp only[e,afA]at hQ;exact aeB hQ
    .have e:((List.range j6.size).all fun i=>(bs[i]?).getD true)=bs.all id:=by rw[show j6.size=bs.length from hb.length];exact LSm.range_all bs
     rw[e];have n:=Nw.also (X:=X) (s':={ w.s with heap:=h',toks:=tk }) I.toHR (LSm.kept_iter hk);exact k.2 _ _ n (.bl _)
   .exact k.elim
  .exact k.elim
 .exact k.elim
end
section
variable{w:World}{s:Shared}{it t:Addr}{items:Array Value}
def uE(hit:s.heap.IsTupleIter it t i)
  (go:wpAny (model prog w) A.in1 (Builtin.«tuple_iterator.__next__» ⟨[.ref it],[]⟩) (fun fin s'=>∃v,fin=.done (.ret v)/\Q v s') E s):wpAny (model prog w) A (Builtin.SmallTypes.nextOf (.ref it)) Q E s:=by
 have ty:=hit.typeIs;have c:=afn (E:=E) (name:="__next__") (Q:=fun r s'=>∃v,r=some v/\Q v s') ty F.slot_tuple_iterator_next (afd F.slot_tuple_iterator_next ty F.entry_tuple_iterator_next (ad8 go ((by rintro fin s' ⟨v,e,q⟩;exact ⟨v,e,v,rfl,q⟩)) fun _ _ z=>z) (F.args_tuple_iterator_next_1 _));unfold Builtin.SmallTypes.nextOf;exact adq (ad8 c ((by rintro r s' ⟨v,e,q⟩;subst e;exact adB q)) fun _ _ z=>z)
def yV{x:Value}(hit:s.heap.IsTupleIter it t i)(ht:s.heap.IsTuple t items)(hx:items[i]? =some x)(hQ:∀h',h'.IsTupleIter it t (i+1)->Heap.SameBut it s.heap h'->Q x { s with heap:=h' }):
  wpAny (model prog w) A (Builtin.«tuple_iterator.__next__» ⟨[.ref it],[]⟩) (fun fin s'=>∃v,fin=.done (.ret v)/\Q v s') E s:=by
 obtain⟨o,ho,hc,hd⟩:=id hit;obtain⟨p,hp,_,n,Z5⟩:=ht;have nn:¬ ((Value.ref t==Value.none)=true):=aeX;refine(show wpAny (model prog w) A (field (.ref it) 0 >>= _) _ E s from adq (afm ho hd (x:=.ref t) rfl ?_));refine(show wpAny (model prog w) A (if(Value.ref t==Value.none)=true then _ else _) _ E s from ?_);rw[if_neg nn];refine(show wpAny (model prog w) A (field (.ref it) 1 >>= _) _ E s from adq (afm ho hd (x:=.int i 0) rfl ?_));refine(show wpAny (model prog w) A (seqItems? (.ref t) >>= _) _ E s from adq (wpAny_seqItems hp Z5 ?_));simp only[aeR,hx];have st:∀f,(o.mapFields f).data=.fields (f #[.ref t,.int i 0]):=fun f=>af4 hd f;refine adq (wpAny_setField ho hd (by simp) (adB ⟨x,rfl,hQ _ ⟨_,ae4 _ ho (Obj.isFreed_of_fields (af4 hd _)),?_,?_⟩ (ag7 ..)⟩))
 .rw[Obj.cls_mapFields];exact hc
 .rw[af4 hd];simp[rawInt]
def AE{Q:Fin->Shared->Prop}(hh:A.handled=none)(hit:s.heap.IsTupleIter it t i)(ht:s.heap.IsTuple t items)(hx:items[i]? =none)
  (hE:∀h' e,Heap.ExtBut it s.heap h'->(∃o,h'.get? e=some o/\o.cls=.type "StopIteration")->E (.ref e) { s with heap:=h' }):
  wpAny (model prog w) A (Builtin.«tuple_iterator.__next__» ⟨[.ref it],[]⟩) Q E s:=by
 obtain⟨o,ho,hc,hd⟩:=id hit;obtain⟨p,hp,_,n,Z5⟩:=ht;have nn:¬ ((Value.ref t==Value.none)=true):=aeX;refine(show wpAny (model prog w) A (field (.ref it) 0 >>= _) _ E s from adq (afm ho hd (x:=.ref t) rfl ?_));refine(show wpAny (model prog w) A (if(Value.ref t==Value.none)=true then _ else _) _ E s from ?_);rw[if_neg nn];refine(show wpAny (model prog w) A (field (.ref it) 1 >>= _) _ E s from adq (afm ho hd (x:=.int i 0) rfl ?_));refine(show wpAny (model prog w) A (seqItems? (.ref t) >>= _) _ E s from adq (wpAny_seqItems hp Z5 ?_));simp only[aeR,hx];refine adq (ahV (adq (wpAny_setField ho hd (by simp) (adq ?_))));simp only[newExc,newTuple];refine adq (aeo (adq (m:=firstArgMember _ _) (wpAny_of_eq (a:=Value.none) (by first|rfl|(simp only[firstArgMember];rfl)) (aeo ?_ (by size_fits)))) (by size_fits));simp only[raiseNew];refine adq (wpAny_handled ?_);rw[hh];exact adq (adB (wpAny_throw (hE _ _ (((ag7 ..).extBut.push _).push _) ⟨_,adK _ rfl,rfl⟩)))
def Ix(hh:A.handled=none)(ne:t≠it):Draws prog w A.in1 it [it,t] items.size (fun j v=>items[j]? =some v) (fun j h=>h.IsTupleIter it t j/\h.IsTuple t items) where
 live:=fun j h st=>by obtain⟨o,ho,_⟩:=st.1;exact⟨o,ho⟩
 frame:=fun j h h' st k=>by obtain⟨⟨o,ho,r⟩,⟨p,hp,q⟩⟩:=st;exact⟨⟨o,k _ (by simp) o ho,r⟩,⟨p,k _ (by simp) p hp,q⟩⟩
 item:=fun j s Q E hj st hQ=>uE st.1 (yV st.1 st.2 (x:=items[j]) (by simp[hj]) fun h' Wn sb=>hQ _ h' s.toks (by simp[hj]) ⟨Wn,st.2.extBut sb.extBut ne⟩ sb)
 done:=fun s Q E st hE=>uE st.1 (AE (A:=A.in1.in1) hh st.1 st.2 (by simp) hE)
noncomputable def ym(a:Addr):Obj:={ cls:=.type "enumerate",data:=.fields #[.none,.bool false,.ref a,rawInt 0,.none,.none] }
noncomputable def vL(a:Addr):Obj:={ cls:=.type "tuple_iterator",data:=.fields #[.ref a,.int 0 0] }
def zq(a:Addr)(xs:Array Value)(o:Obj)(hc:o.cls=.type "tuple")(n:Nat)(hd:o.data=.seq xs n):Meets (Builtin.«enumerate.__new__» ⟨[.type "enumerate",.ref a],[]⟩) (fun _ R s=>s.heap.get? a=some o/\
   R (.ok (.ret (.ref (s.heap.push (vL a)).objs.size))) { s with heap:=(s.heap.push (vL a)).push (ym s.heap.objs.size) }):=
 .of_wp fun P1 w1 A1 R s ⟨hl,h⟩=>by
  cases s with
  |mk hp gs dd tk os=>
  have sub:=sub_enumerate;have tt:Heap.IsTuple hp a xs:=⟨o,hl,hc,n,hd⟩
  wp_walk using ad7 hl
  refine wpAny_stack_any fun st=>adB ?_
  split
  .rename_i c _ _ _ _ _
   by_cases e:(c==Value.type "enumerate")=true
   .rw[e];wp_walk using ad7 hl,afj tt;exact⟨_,rfl,h⟩
   .rw[Bool.not_eq_true]at e;rw[e];wp_walk using ad7 hl,afj tt;exact⟨_,rfl,h⟩
  .wp_walk using ad7 hl,afj tt;exact⟨_,rfl,h⟩
def xk(ht:s.heap.IsTuple t items)(h:Q (.ref (s.heap.objs.size+1)) { s with heap:=(s.heap.push (vL t)).push (ym s.heap.objs.size) }):wpAny (model prog w) A (call (.type "enumerate") [.ref t]) Q E s:=by obtain⟨o,ho,hc,n,hd⟩:=ht;have z:(s.heap.push (vL t)).objs.size=s.heap.objs.size+1:=afs ..;have g:=adK (s.heap.push (vL t)) (o:=ym s.heap.objs.size) rfl;refine callType_new F.called_enumerate ⋯ (F.typeCall_enumerate_1 _) (F.newCall_enumerate_1 _) (fun obj=>F.args_object_init_2 obj _) F.entry_enumerate_new (zq t items o hc n hd) ⟨ho,?_⟩;exact⟨⟨_,g,rfl⟩,by rw[z];exact h⟩
end
structure Zap(z ti to i1 i2:Addr)(f1 f2:Zs):Prop where
 a1:ti≠z
 a2:to≠z
 a3:i1≠z
 a4:i2≠z
 a5:ti≠to
 a6:ti≠i1
 a7:ti≠i2
 a8:to≠i1
 a9:to≠i2
 z1:z∉f1
 z2:z∉f2
 t1:to∉f1
 t2:to∉f2
 o1:i2∉f1
 o2:i1∉f2
noncomputable def Uj:Nat->Y2->Y2
 |_,[]=>[]
 |n,x::r=>.tup [.int n,x]::Uj (n+1) r
def EJ(ps:Y2)(h:Y3):Res Y2:=match ps with
 |[.tup xs]=>.ok (Uj 0 xs) h
 |[.lst xs]=>.ok (Uj 0 xs) h
 |_=>.bad
def Cv(f:Ax):Ax:=fun ρ h=>(f ρ h).bind EJ
section
variable{w w0:Wo}{fp:Zs}{b e it:Addr}{j6 jts:Array Value}{xs ys:Y2}{J:Nat->Heap->Prop}{elts:List Expr}{p1:Pos}
theorem yq:∀{xs:Y2}{n i:Nat}{p:PV},(Uj n xs)[i]? =some p->∃x,xs[i]? =some x/\p=.tup [.int ((n+i:Nat):Int),x]
 |[],_,_,_,e=>by simp[Uj]at e
 |x::r,n,0,p,e=>by cases e;exact⟨x,rfl,rfl⟩
 |x::r,n,i+1,p,e=>by obtain⟨y,e1,rfl⟩:=yq (xs:=r) (n:=n+1) (i:=i) e;exact⟨y,e1,by rw[show n+1+i=n+(i+1) by lia]⟩
theorem yn:∀(xs:Y2)(n:Nat),(Uj n xs).length=xs.length
 |[],_=>rfl
 |x::r,n=>by simp[Uj,yn r]
def xy(H:HR G w h)(f:∀b∈fp,∃o,Has w b o)(k:∀b o,b∉fp->w.s.heap.get? b=some o->s'.heap.get? b=some o)(ho:s'.os=w.s.os:=by rfl)(hg:s'.gens=w.s.gens:=by rfl):Pv fp w { w with s:=s' }/\HR G { w with s:=s' } h:=
 ⟨⟨ho,fun q=>hg▸q,fun _ _ e=>e,fun _ _ e=>e,⟨[],by simp⟩,fun b o n e=>⟨o,k b o n e⟩,fun b o n q=>⟨k b o n q.1,q.2⟩⟩,H.on fun b o e z=>k b o (fun q=>let⟨_,r⟩:=f b q;z r.2) e⟩
def CK(H:HR G w h)(f:∀b∈fp,∃o,Has w b o)(n:w.s.heap.get? a=none)(k:∀b o,b∉fp->w.s.heap.get? b=some o->s'.heap.get? b=some o)(e:s'.heap.get? a=some o)(ho:s'.os=w.s.os:=by rfl)(hg:s'.gens=w.s.gens:=by rfl):Pv fp w ⟨gD w.F a o,w.O,w.m,s'⟩/\HR G ⟨gD w.F a o,w.O,w.m,s'⟩ h:=by
 obtain⟨x,y⟩:=xy H f k ho hg;have na:∀{b o},w.s.heap.get? b=some o->b≠a:=fun q z=>by rw[z,n]at q;cases q
 have hF:=(H.free n).2.1;exact⟨⟨ho,fun q=>hg▸q,cx hF,fun _ _ e=>e,⟨[],by simp⟩,x.dom,fun b o n q=>let⟨q1,q2⟩:=x.keep b o n q;⟨q1,q2.1,cT (na q.1) q2.2.1,q2.2.2⟩⟩,y.freeze ⟨e,H.free n⟩⟩
structure Sq(G:SC)(w0:Wo)(a it:Addr)(j6:Array Value)(J:Nat->Heap->Prop):Prop where
 keep:∀j g g',J j g->(∀o,g.get? it=some o->g'.get? it=some o)->J j g'
 ob:∀j g,J j g->∃o,g.get? it=some o
 dr:∀{A:Around}{w:Wo}{h:Y3},A.handled=none->T5 w0 w->HR G w h->∃S,Draws G.prog G.w A.in1 it [it,a] j6.size (fun j v=>j6[j]? =some v) S/\(∀j,J j w.s.heap->S j w.s.heap)/\∀j g,S j g->J j g
def Gp(ne:a≠it)(e:w0.F a=some { cls:=.type "tuple",data:=.seq j6 n }):Sq G w0 a it j6 (fun j g=>g.IsTupleIter it a j) where
 keep:=(by rintro j g g' ⟨o,ho,r⟩ k;exact ⟨o,k o ho,r⟩)
 ob:=(by rintro j g ⟨o,ho,_⟩;exact ⟨o,ho⟩)
 dr hh l H:=⟨_,Ix hh ne,fun j q=>⟨q,⟨_,H.at (l.1 _ _ e),rfl,_,rfl⟩⟩,fun j g q=>q.1⟩
def Gq(ne:a≠it)(e:w0.F a=some { cls:=.type "list",data:=.seq j6 n }):Sq G w0 a it j6 (fun j g=>g.IsListIter it a j) where
 keep:=(by rintro j g g' ⟨o,ho,r⟩ k;exact ⟨o,k o ho,r⟩)
 ob:=(by rintro j g ⟨o,ho,_⟩;exact ⟨o,ho⟩)
 dr {A w h} hh l H:=⟨_,Draws.list (A:=A.in1) hh it a ne j6,fun j q=>⟨q,⟨_,H.at (l.1 _ _ e),rfl,_,rfl⟩⟩,fun j g q=>q.1⟩
def Ej(S:Sq G w0 a it j6 J)(r:ay G w0.F w0.m xs j6.toList)(ne:e≠it)(n1:a≠e):CD G w0 (.Tuple elts k pos) (Uj 0 xs) e [e,it] (fun i g=>(∃old,IsEnum g e it i old)/\J i g) where
 keep l1 H1 l2 H2 st q:=by obtain⟨⟨old,he⟩,hi⟩:=st;exact⟨⟨old,q e (by simp) _ he⟩,S.keep _ _ _ hi fun o ho=>q it (by simp) _ ho⟩
 item {A w h i p Q E} hh l H st hx f q:=by
  obtain⟨⟨old,he⟩,hi⟩:=st;obtain⟨x,ex,rfl⟩:=yq hx;obtain⟨u,hu,ru⟩:=r.get ex;obtain⟨St,D,t1,t2⟩:=S.dr hh l H;have Xc:i<j6.size:=(adv.mp hu).1;refine wpAny_pyNext_enum_itemD D he (t1 _ hi) Xc ne (by simp[ne,afW n1]) fun u' h' tk Xb ho Wc ht hsz hk=>⟨_,rfl,?_⟩
  have:u'=u:=by rw[agO]at hu;rw[hu]at Xb;cases Xb;rfl
  subst this;refine wpAny_letOwnedTupleGo_enum ho fun h2 he2 sb=>?_;have lt:e<w.s.heap.objs.size:=ad2 he
  have kk:∀b o,b∉ [e,it]->w.s.heap.get? b=some o->h2.get? b=some o:=fun b o nb q=>by simp only[adD,aeb,or_false,not_or]at nb;exact(sb.2 b nb.1).trans (hk b o nb.1 nb.2 q)
  have ht2:h2.get? w.s.heap.objs.size=some { cls:=.type "tuple",data:=.seq #[.int i tk,u'] }:=(sb.2 _ (Nat.ne_of_gt lt)).trans ht;obtain⟨a1,a2⟩:=CK (s':={ w.s with heap:=h2,toks:=tk+1 }) H f (aU _) kk ht2;have YD:J (i+1) h2:=S.keep _ _ _ (t2 _ _ Wc) fun o q=>(sb.2 it (afW ne)).trans q
  have fr:∀b∈ [e,it],∃o,Has ⟨gD w.F w.s.heap.objs.size { cls:=.type "tuple",data:=.seq #[.int i tk,u'] },w.O,w.m,{ w.s with heap:=h2,toks:=tk+1 }⟩ b o:=fun b hb=>by
   obtain⟨o,q⟩:=f b hb;have nb:b≠w.s.heap.objs.size:=fun z=>by have q:=q.1;rw[z,aU]at q;cases q
   have:∃o,h2.get? b=some o:=by
    simp only[adD,aeb,or_false]at hb;rcases hb with rfl|rfl
    .exact⟨_,he2⟩
    .exact S.ob _ _ YD
   obtain⟨o',q'⟩:=this;exact⟨o',q',q.2.1,cT nb q.2.2.1,q.2.2.2⟩
  refine q _ _ a1 a2 ⟨⟨u',by simpa using he2⟩,YD⟩ fr ?_;exact .tup bg (by show 2<=sizeLine;decide) (.cons (by simpa using .int i tk) (.cons ((ru.mono l.1 (.inr l.2)).mono (cx (H.free (aU _)).2.1) (.inr fun _ _ e=>e)) .nil))
 done {A w h i Q E} hh l H st hx f q:=by
  obtain⟨⟨old,he⟩,hi⟩:=st;obtain⟨St,D,t1,t2⟩:=S.dr hh l H;rw[yn,r.len]at hx;subst hx;refine wpAny_pyNext_enum_endD D he (t1 _ hi) fun h' eb=>⟨rfl,?_⟩
  obtain⟨a1,a2⟩:=xy (fp:=[e,it]) (s':={ w.s with heap:=h' }) H f fun b o nb q=>eb b o (by simp only[adD,aeb,or_false,not_or]at nb;exact nb.2) q;exact q _ a1 a2
 self hh st q:=by obtain⟨⟨old,he⟩,hi⟩:=st;exact agg he q
variable{f:Ax}{ae be:Expr}
theorem Ul.of{tn:Nat->Heap->Prop}{h':Heap}{tk:Nat}(I:Inv X w ρ h)(y:K8 X.fs Tg w0 w)(kp:∀b o,w.s.heap.get? b=some o->h'.get? b=some o)(T:CD X.toSC w tg xs it fp tn)(t:tn 0 h')(fr:∀b∈fp,w.s.heap.objs.size<=b/\∃o,h'.get? b=some o)(p:bu X (Ul X tg w0) w Q E (.ok xs h)):Q (.ref it) { w.s with heap:=h',toks:=tk }:=by
 have n:=Nw.also (X:=X) (s':={ w.s with heap:=h',toks:=tk }) I.toHR kp;refine p.2 _ _ n ⟨_,fp,tn,rfl,⟨T.keep,T.item,T.done,T.self⟩,t,fun b hb=>?_⟩;obtain⟨l,o,q⟩:=fr b hb
 have nb:w.s.heap.get? b=none:=by
  cases q:w.s.heap.get? b with
  |none=>rfl
  |some o=>exact absurd (aeI (ad2 q) l) (ae0 _)
 refine⟨⟨o,q,I.toHR.free nb⟩,I.out nb,?_⟩
 cases q:w0.s.heap.get? b with
 |none=>rfl
 |some o=>obtain⟨o',q'⟩:=y.dom _ _ q;rw[nb]at q';cases q'
def Dj(hg:Gl X "enumerate")(hm:X.mg "enumerate"=none)(ha:RA X [ae] f)(hs:starEach [ae] X.env= [(false,eval ae X.env)]:=by rfl):RI X (.Tuple elts k pos) (.Call (.Name "enumerate" p0) [ae] [] p1) (Cv f):=⟨fun{w0 ρ h Q E} I p=>Call_ (I.blt hg hm (show bootBuiltins "enumerate"=some (.type "enumerate") by decide+kernel) (PyProof.Rows.callWith_type1 (ha.r p1 I (p.bind fun w1 h1 ps us y r p=>by
 have fin:∀{a:Addr}{j6:Array Value}{J:Nat->Heap->Prop}{xs:Y2}{h':Heap},Sq X.toSC w1 a w1.s.heap.objs.size j6 J->ay X.toSC w1.F w1.m xs j6.toList->a<w1.s.heap.objs.size->(∀b o,w1.s.heap.get? b=some o->h'.get? b=some o)->IsEnum h' (w1.s.heap.objs.size+1) w1.s.heap.objs.size 0 .none->J 0 h'->bu X (Ul X (.Tuple elts k pos) w0) w1 Q E (.ok (Uj 0 xs) h1)->Q (.ref (w1.s.heap.objs.size+1)) { w1.s with heap:=h',toks:=w1.s.toks }:=fun{a j6 J xs h'} S rr la kk hE hJ p=>Ul.of (tk:=w1.s.toks) (I.on y) y.1 kk (Ej (elts:=elts) (k:=k) (pos:=pos) S rr (Nat.succ_ne_self _) (aeF (afp la))) ⟨⟨_,hE⟩,hJ⟩ (fun b hb=>by
  simp only[adD,aeb,or_false]at hb;rcases hb with rfl|rfl
  .exact⟨agi _,_,hE⟩
  .exact⟨adA _,S.ob _ _ hJ⟩) p
 unfold EJ at p
 split at p
 .obtain⟨u,rfl,r1⟩:=r.one
  cases r1 with
  |tup e z rr=>rename_i a j6 n;have t:=y.2.at e;have la:=ad2 t;refine xk (t:=a) (items:=j6) ⟨_,t,rfl,_,rfl⟩ ?_;have zz:(w1.s.heap.push (vL a)).objs.size=w1.s.heap.objs.size+1:=afs ..;have g:=adK (w1.s.heap.push (vL a)) (o:=ym w1.s.heap.objs.size) rfl;rw[zz]at g;exact agg (it:=w1.s.heap.objs.size) (i:=0) (old:=.none) g (fin (Gp (aeF la) e) rr la (fun b o e=>ady _ (ady _ e)) g ⟨_,ady _ (adK _ rfl),rfl,rfl⟩ p)
 .obtain⟨u,rfl,r1⟩:=r.one
  cases r1 with
  |lst e z rr=>rename_i a j6 n;have t:=y.2.at e;have la:=ad2 t;exact call_enumerate_list (items:=j6) ⟨_,t,rfl,_,rfl⟩ fun h2 hE hI hsz kk=>agg hE (fin (Gq (aeF la) e) rr la kk hE hI p)
 .exact p.elim)) hs rfl))⟩
end
section
variable{w:Wo}
def ur{elt:Expr}{it:Ax}{te:Ex}{M vs:Zl}{g:Gx}{py Sg:Pos}{y:Str}(m6:Y1)(hc:X.calm=true)(S:fZ X.N X.env.scope scope m6 vs M)(hi:RI X tg iter it)(hg:∀cl C,RG (bJ X M scope cl C) tg g)(ht:∀cl C,VB (bJ X M scope cl C) ifs tt)(he:∀cl C,RE (bJ X M scope cl C) elt te)
  (gm:∀q cp ρ1,g q (List.replicate vs.length none++cp)=some ρ1->∃l,l.length=vs.length/\ρ1=l++cp) (hy:X.N[iy]? =some y) (WL:X.env.scope.names.lookup y=some .local) (Vs:swapsWith (.ListComp elt [⟨tg,iter,ifs,0⟩] scope pos) (some (.Name y py)) Sg.line X.env=pure true)
  (hs:∀y,foldedSetIterable iter X.env y=pure y:=by intro _;rfl):RS X (.Assign [.Name y py] (.ListComp elt [⟨tg,iter,ifs,0⟩] scope pos) Sg) (aA iy (cN ia (eU vs.length g m6 it tt te))):=⟨fun{w0 ρ h Q E} I p=>by
 rw[agF _ _ _ _ Vs];refine adq<|afE<|adq ?_
 show wpAny _ X.A (comprehension (.ListComp elt [⟨tg,iter,ifs,0⟩] scope pos) scope X.env _ (newList []) false (eval iter X.env) (some (assign (.Name y py) X.env)) >>= fun _=>pure ()) _ _ w0.s;refine adq<|ad8 (afi (use:=some (assign (.Name y py) X.env)) (Q:=fun _ s'=>Q .next s') rfl hs (iD fun n hn=>I.ok.has n (S.free _ hn rfl)) S.kind S.names ?_) (fun _ _ z=>adB (adB z)) fun _ _ z=>z
 have p:bp X w0 Q E (eY (it ρ h) fun xs h1=>eY (if xs.length<sizeLine then(ew g tt te (List.replicate vs.length none++cU m6 ρ) xs h1).calm else .bad) fun ps h2=>eY (ia ps h2) fun v h3=>.nx (ρ.set iy (some v)) h3):=by
  unfold aA df cN eU at p
  cases e:it ρ h with
  |ok xs h1=>
   rw[e]at p
   revert p
   show bp X w0 Q E (eY (((if xs.length<sizeLine then(ew g tt te (List.replicate vs.length none++cU m6 ρ) xs h1).calm else .bad):Res Y2).bind ia) _)->bp X w0 Q E (eY (if xs.length<sizeLine then(ew g tt te (List.replicate vs.length none++cU m6 ρ) xs h1).calm else .bad) _);generalize(if xs.length<sizeLine then(ew g tt te (List.replicate vs.length none++cU m6 ρ) xs h1).calm else .bad:Res Y2)=rr
   cases rr<;>exact id
  |exc _ _=>rw[e]at p;exact p
  |bad=>rw[e]at p;exact p
 refine hi.r I (bp.e0 p I fun w h1 xs v y0 I1 rr p=>?_)
 split at p
 .rename_i hz
  refine nJ (use:=some (assign (.Name y py) X.env)) (Q:=fun _ s=>Q .next s) (K:=fun ps h=>bp X w0 Q E (eY (ia ps h) fun v h3=>.nx (ρ.set iy (some v)) h3)) m6 hc S hg ht he gm I y0 rr hz (by
   revert p
   cases ew g tt te (List.replicate vs.length none++cU m6 ρ) xs h1<;>first|exact id|exact fun z=>bp.ep z |>.elim) fun{w2 h2 ps j6 D C oC m} y2 H2 nD nC DC hl n l f ra z k=>?_
  obtain⟨nn,e1⟩:=l;have sb:Sub w2.m (w2.m++ [D]):=fun i b e=>by rw[adC (adv.mp e).1];exact e
  have n3:=Nw.track (X:=X) (w:=w0) (w1:=w2) ⟨y2,H2⟩ nD ⟨e1,f⟩ (po:=.lst ps) ⟨f.2.1,j6,nn,e1,z,ra.mono (fun _ _ e=>e) (.inr sb)⟩;have I3:=I.on n3;have aC:=I.out nC;show wpAny _ X.A (assign (.Name y py) X.env (.ref D)) _ _ w2.s;refine agh (I3.store (w:=⟨w2.F,w2.O,w2.m++ [D],w2.s⟩) hy (.inl WL) (p:=.ref h2.length) (.ref (by rw[H2.len];simp)) fun w4 y4 I4=>?_);obtain⟨sl,hC,zz⟩:=y4.keep C oC ⟨hl.1,fun z=>(adS.mp z).elim hl.2.1 fun z=>DC (by simp at z;exact z.symm),hl.2.2⟩ aC.w;refine⟨m,pX n fun o e=>by rw[hl.1]at e;cases e;exact⟨sl,hC.1⟩,fun h' Xx=>?_⟩;obtain⟨a1,a2⟩:=jz (s':={ w4.s with heap:=h' }) I4.toHR hC fun b o z e=>(Xx.2 b z).trans e;exact k.2 _ ((n3.s.trans y4).priv a1 (by simp;exact nC)) (I4.priv a1 a2 (by simp;exact aC))
 .exact p.elim⟩
end
section
open PySem.Builtin
end
section
open PySem.W PySem.Calls
theorem oz{P:Params}{h:Heap}:∀(ns:List Int)(vs:Z3),WellAll P h vs (ns.map WData.int)->IntsAre vs ns:=by
 intro ns
 induction ns with
 |nil=>
  intro vs w;rw[afq]at w
  cases w
  exact .nil
 |cons n ns ih=>
  intro vs w;rw[adE]at w
  cases w with
  |cons a b=>
   cases a
   exact .cons _ _ (ih _ b)
theorem yT{l:OpenLaw}(hn:l.most=some n){P:Params}{h:Heap}{args:List WData}{Wk:Z3}
  (V6:l.row.toRowW.claim.pre args=true) (ZP:WellAll P h Wk args):
  ∃a vs ns,Wk= [Value.ref a]/\args= [WData.list (ns.map WData.int)]/\h.get? a=some { cls:=.type "list",data:=.seq vs.toArray }/\IntsAre vs ns/\ns.length<=n:=by
 have ZR:WShape.hasAll [] args [.list .int]=true:=(pre_splitW V6).1;have hc:l.pre.holds [] { args:=args }=true:=(pre_splitW V6).2;obtain⟨d,r,rfl,h1,h2⟩:=hasAllW_cons ZR;obtain rfl:=hasAllW_nil h2;obtain⟨xs,rfl,h3⟩:=hasW_list h1;obtain⟨ns,rfl⟩:=items_int h3
 have SN:ns.length<=n:=by
  unfold OpenLaw.pre at hc
  have h4:(WTm.not (.lt (.lit (.int (n:Int))) (.len (.arg 0)))).holds [] { args:=[.list (ns.map .int)] }=true:=by have h4:=(holds_andW hc).1;rw[hn]at h4;exact h4
  have h5:=condW_of h4 (w_not (w_lt w_lit (w_len_list (w_arg rfl))));rw[adJ]at h5;refine Nat.le_of_not_lt fun q=>?_;have q':(n:Int)<((ns.length:Nat):Int):=by lia
  first
   |(rw[decide_eq_true q']at h5;exact absurd h5 ⋯)
   |(simp at h5;lia)
 cases ZP with
 |cons w1 w2=>
  cases w2
  cases w1 with
  |list ho Ux=>exact⟨_,_,ns,rfl,rfl,ho,oz ns _ Ux,SN⟩
def za(l:OpenLaw)(args:List WData):l.row.toRowW.claim.post args (.bool true) args=true:=
 postW_of (r:=l.row.toRowW) (X:=(true==true))
  (show WShape.has [] (.bool true) .bool=true by first|rfl|decide|simp[WShape.has,WShape.arms,WShape.armsAll])
  (show(WTm.eq .res (.lit (.bool true))).value [] { args:=args,res:=some (.bool true),after:=args }=some (.bool (true==true))from w_eq_bool (w_res rfl) w_lit) rfl
def Ua{l:OpenLaw}{q:Program}{d:DefRec}
  (hn:l.most=some n) (Z6:d.params.defaults= [])
  (call:∀(w:World)(s₀ s₁:Shared)(mg mb:Str->Option Value)(fa:Addr)(o:Obj)(pm cd doc:Value)(a:Addr)(vs:Z3)(ns:List Int),
   Ground q loose [] XP w s₀ mg mb s₁.heap->YP w s₁.heap->
   s₁.heap.get? fa=some o->o.data=.func (docDef d.name d.params d.body d.scope pm cd doc)->s₁.heap.CodeRec cd d.name->mg d.name=some (.ref fa)->
   s₁.heap.get? a=some { cls:=.type "list",data:=.seq vs.toArray }->IntsAre vs ns->ns.length<=n->s₁.gens= #[]->
   codeAny (model l.prog w) callerA (.call (.ref fa) ⟨[.ref a],[]⟩) (fun r s'=>r=.ok (.ret (.bool true))/\OldK s₁.heap s'.heap/\s'.os=s₁.os/\AllBare s'.gens) s₁):
  WalkO q loose XP YP l.row.toRowW d [] (fun f vs=>PySem.call f vs):=by
 intro w s₀ s₁ mg mb G Y fa o pm cd doc dV kV ho hd VL hD XR hg args Wk as V6 acX hrd ZP hlo;obtain rfl:dV=.none:=Dflts.none hD Z6;obtain rfl:kV=.none:=Dflts.noKw hD;obtain⟨a,vs,ns,rfl,rfl,WK,hints,SN⟩:=yT hn V6 ZP;refine enter_call (afV (call w s₀ s₁ mg mb fa o pm cd doc a vs ns G Y ho (fd_plain hd) VL XR WK hints SN hg) fun r s' hq=>?_);obtain⟨rfl,h2,h3,h4⟩:=hq;exact⟨.inl ⟨.bool true,.bool true,[],rfl,fun _=>rfl,.bool true,za l _,fun _=>⟨List.Pairwise.nil,fun _ hm=>(nomatch hm)⟩⟩,h2,h3,h4⟩
end
def cx0(G:SC):Cx:={ G with A:=callerA,N:=[],env:=envOfC "" { kind:=.function,names:=[],isGenerator:=false,isCoroutine:=false } 0 0 .none,stack:=[],fn:=fun _=>true,calm:=true,tr:=true,Ep:=fun _=>True }
theorem rg{G:SC}{F:Fz}{m:Zs}:∀{vs:Z3}{ns:List Int},IntsAre vs ns->ay G F m (ns.map PV.int) vs
 |_,_,.nil=>.nil
 |_,_,.cons i t r=>.cons (.int i t) (rg r)
def Bv{P:Program}{w:World}{K:PySem.W.Frag}{mg mb:Str->Option Value}{T:Nat->Option Addr}{fa:Addr}{fd:FuncData}{fn:Y2->Z.Out}{s₁:Shared}{vs:Z3}{ns:List Int}
  (KX:K.In s₁.heap) (XQ:s₁.heap.Ns mainGlobals mg) (hb:s₁.heap.Ns builtinsNs mb) (hbb:∀x:Str,x≠"__name__"->mb x=bootBuiltins x) (ZW:s₁.heap.NoLimit) (hg:s₁.gens= #[])
  (ha:s₁.heap.get? a=some { cls:=.type "list",data:=.seq vs.toArray }) (hi:IntsAre vs ns) (hl:ns.length<=sizeLine) (hr:dP k callerA)
  (F:Vb ⟨P,w,K,mg,s₁.heap,T⟩ k fa fd [x] fn) (X5:∀(s:Shared)(u:Value),BindsTo s fd ⟨[u],[]⟩ [(x,u)]) (hsp:fn [.Uh (ns.map PV.int)]=.ok (.bl true)):
  codeAny (model P w) callerA (.call (.ref fa) ⟨[.ref a],[]⟩) (fun r s'=>r=.ok (.ret (.bool true))/\OldK s₁.heap s'.heap/\s'.os=s₁.os/\AllBare s'.gens) s₁:=by
 have ok:(cx0 ⟨P,w,K,mg,s₁.heap,T⟩).Ok:=⟨KX,XQ,⟨mb,hb,hbb⟩,ZW,rfl,rfl,rfl,fun x y c e=>(nomatch e),fun x e=>(by rcases e with e|e<;>cases e),fun _=>rfl,rfl,.nil,fun e he=>(nomatch he)⟩
 have W:Wd (cx0 ⟨P,w,K,mg,s₁.heap,T⟩) ⟨fun b=>s₁.heap.get? b,fun _=>none,[],s₁⟩ []:=⟨⟨fun _ _ e=>e,fun _ _ e=>(nomatch e),rfl,.nil,fun _ _ _ e=>(nomatch e)⟩,.of_eq hg,fun _ _ e=>e,fun b hb=>(nomatch hb)⟩
 refine afV (F.run (X:=cx0 ⟨P,w,K,mg,s₁.heap,T⟩) (w:=⟨fun b=>s₁.heap.get? b,fun _=>none,[],s₁⟩) (h:=[]) (us:=[.ref a]) (Q:=fun v s'=>v=.bool true/\OldK s₁.heap s'.heap/\s'.os=s₁.os/\AllBare s'.gens) (E:=fun _ _=>False) rfl hr rfl rfl W ok (.cons (.Uh ha (by simpa[hi.length]using hl) (by simpa using rg hi)) .nil) hsp (X5 s₁ (.ref a)) fun F' s' u n r=>?_) fun r s' h=>?_
 .cases r
  exact⟨rfl,OldK.of_keep fun b o e=>n.2.sub b o (n.1.fz b o e),n.1.os,n.1.ba (.of_eq hg)⟩
 .cases r with
  |error e=>exact h.elim
  |ok fl=>
   cases fl with
   |ret u=>obtain⟨rfl,z⟩:=h;exact⟨rfl,z⟩
   |_=>exact False.elim h
def Bq{l:W.OpenLaw}{q:Program}{d:DefRec}{K:Params->W.Frag}{fn:Y2->Z.Out}(hn:l.most=some 63)(Z6:d.params.defaults= [])(hr:dP k callerA)
  (hY:∀(w:World)(h:Heap),YP w h->(K w.params).In h) (law:∀ns:List Int,ns.length<=63->fn [.Uh (ns.map PV.int)]=.ok (.bl true))
  (F:∀(w:World)(mg:Str->Option Value)(fa:Addr)(h:Heap),(K w.params).In h->h.Ns mainGlobals mg->mg d.name=some (.ref fa)->
   ∃(fd:FuncData)(T:Nat->Option Addr),(∀(s:Shared)(u:Value),BindsTo s fd ⟨[u],[]⟩ [(x,u)])/\Vb ⟨l.prog,w,K w.params,mg,h,T⟩ k fa fd [x] fn):
  W.WalkO q loose XP YP l.row.toRowW d [] (fun f vs=>PySem.call f vs):=by
 refine Z.Ua hn Z6 fun w s₀ s₁ mg mb fa o pm cd doc a vs ns G Y ho hd VL XR WK hints SN hg=>?_;have KX:=hY w _ Y;obtain⟨fd,T,hb,hF⟩:=F w mg fa _ KX G.T.g XR;exact Bv KX G.T.g G.T.b G.T.builtins G.T.nolimit hg WK hints (adR SN ⋯) hr hF hb (law ns SN)
def MG:PK->PyData
 |.inl i=>.int i
 |.inr l=>.str (S l)
mutual
noncomputable def Iy:PV->Bool
 |.bl _=>true
 |.int _=>true
 |.str _=>true
 |.lst xs=>FS xs
 |.dct kvs=>FT kvs
 |_=>false
noncomputable def FS:Y2->Bool
 |[]=>true
 |x::r=>Iy x&&FS r
noncomputable def FT:List (PK×PV)->Bool
 |[]=>true
 |(_,x)::r=>Iy x&&FT r
end
mutual
noncomputable def Xu:PV->PyData
 |.bl b=>.bool b
 |.int i=>.int i
 |.str l=>.str (S l)
 |.lst xs=>.list (IV xs)
 |.dct kvs=>.dict (IW kvs)
 |_=>.none
noncomputable def IV:Y2->List PyData
 |[]=>[]
 |x::r=>Xu x::IV r
noncomputable def IW:List (PK×PV)->List (PyData×PyData)
 |[]=>[]
 |(k,x)::r=>(MG k,Xu x)::IW r
end
def Yt(p:PV):Bool:=Iy p&&decide ((Xu p).depth<=60)&&(Xu p).showable&&decide ((Xu p).shown.length<=sizeLine)
def cg(tt:Tx)(te:Ex)(cp:Ev):Y2->Y3->Res Y2
 |[],h=>.ok [] h
 |p::r,h=>(tt (some p::cp) h).bind fun b h1=>if b=true then(te (some p::cp) h1).bind fun v h2=>(cg tt te cp r h2).bind fun vs h3=>.ok (v::vs) h3 else cg tt te cp r h1
def bT(m6:Y1)(it:Ax)(tt:Tx)(te:Ex):Ax:=fun ρ h=>(it ρ h).bind fun xs h1=>if xs.length<sizeLine then(cg tt te (cU m6 ρ) xs h1).calm else .bad
theorem qF(tt:Tx)(te:Ex)(cp:Ev):∀xs h,ew (z7 0) tt te (List.replicate 1 none++cp) xs h=cg tt te cp xs h
 |[],h=>rfl
 |p::r,h=>by simp only[cg,<- qF tt te cp r];rfl
abbrev g2:Gx:=Ui 2 (bI (z7 0) (bI (z7 1) gK))
section
variable{e a b elt:Expr}{f te:Ex}{fs it:Ax}{p1:Pos}{y:Str}{M:Zl}{m6:Y1}
def GV(ha:RE X a fa)(hb:RE X b fb):RE X (.BinOp a .Mult b pos) (c2 gX fa fb):=pN (fun{w h p q u v Q E} I rp rq k=>Jv I rp rq (by
 unfold AT
 split
 .exact k.elim
 .exact k)) ha hb
def Ds(S:fZ X.N X.env.scope scope m6 [x] M)(hi:RI X (.Name x tp) iter it)(ht:∀cl C,VB (bJ X M scope cl C) ifs tt)(he:∀cl C,RE (bJ X M scope cl C) elt te)(hc:X.calm=true:=by rfl)(hg:∀cl C,RG (bJ X M scope cl C) (.Name x tp) (z7 0):=by exact fun _ _=>lZ)
  (hs:∀y,foldedSetIterable iter X.env y=pure y:=by intro _;rfl):RE X (.ListComp elt [⟨.Name x tp,iter,ifs,0⟩] scope pos) (cN Ss (bT m6 it tt te)):=by
 have q:=Ld (pos:=pos) m6 hc S hi hg ht he EO Eu hs;have z:eU 1 (z7 0) m6 it tt te=bT m6 it tt te:=by funext ρ h;simp only[eU,bT,qF]
 exact z▸q
def AJ(S:fZ X.N X.env.scope scope m6 [x] M)(hi:RI X (.Name x tp) iter it)(ht:∀cl C,VB (bJ X M scope cl C) ifs tt)(he:∀cl C,RE (bJ X M scope cl C) elt te)(hc:X.calm=true:=by rfl)(hg:∀cl C,RG (bJ X M scope cl C) (.Name x tp) (z7 0):=by exact fun _ _=>lZ)
  (hs:∀y,foldedSetIterable iter X.env y=pure y:=by intro _;rfl):RE X (.ListComp elt [⟨.Name x tp,iter,ifs,0⟩] scope pos) (cN ia (bT m6 it tt te)):=by
 have q:=Ld (pos:=pos) m6 hc S hi hg ht he Ci Eu hs;have z:eU 1 (z7 0) m6 it tt te=bT m6 it tt te:=by funext ρ h;simp only[eU,bT,qF]
 exact z▸q
def ut{py Sg:Pos}(S:fZ X.N X.env.scope scope m6 [x] M)(hi:RI X (.Name x tp) iter it)(ht:∀cl C,VB (bJ X M scope cl C) ifs tt)(he:∀cl C,RE (bJ X M scope cl C) elt te)(hy:X.N[iy]? =some y)(WL:X.env.scope.names.lookup y=some .local)(Vs:swapsWith (.ListComp elt [⟨.Name x tp,iter,ifs,0⟩] scope pos) (some (.Name y py)) Sg.line X.env=pure true)(hc:X.calm=true:=by rfl)(hg:∀cl C,RG (bJ X M scope cl C) (.Name x tp) (z7 0):=by exact fun _ _=>lZ)
  (hs:∀y,foldedSetIterable iter X.env y=pure y:=by intro _;rfl):RS X (.Assign [.Name y py] (.ListComp elt [⟨.Name x tp,iter,ifs,0⟩] scope pos) Sg) (aA iy (cN ia (bT m6 it tt te))):=by
 have q:=ur (pos:=pos) (py:=py) m6 hc S hi hg ht he Eu hy WL Vs hs;have z:eU 1 (z7 0) m6 it tt te=bT m6 it tt te:=by funext ρ h;simp only[eU,bT,qF]
 exact z▸q
def rst{l:Y1}{j}(e:x=S l:=by kernel_rfl):RE X (.Constant (.str x) j pos) (cK (.str l)):=GN l e
def ra1(ha:RE X e f)(hs:starEach [e] X.env=(false,eval e X.env)::starEach [] X.env:=by rfl):RA X [e] (aa f ai):=oK ha wb hs
def req(hu:X.A.units+64<cLine)(ha:RE X a fa)(hb:RE X b fb):RE X (.Compare a [.Eq] [b] pos) (c2 z_ fa fb):=mU (DP hu) (wo _) ha hb
def rte(hu:X.A.units+64<cLine)(ha:RE X a fa)(hb:RE X b fb):RT X (.Compare a [.Eq] [b] pos) (aH (c2 z_ fa fb)):=eT (DP hu) (wo _) ha hb
def zr(ha:RE X e f):Tw X [.Return (some e) pos] (aN f):=xI (GA ha)
def Mh{pos':Pos}(ha:RE X a fa)(hi:X.N[i]? =some x:=by rfl)(hx:X.env.kindOf x=some .local\/(X.env.kindOf x=some .cell/\X.fn x=true):=by first|exact .inl rfl|exact .inr ⟨rfl,rfl⟩)(hs:swapsWith a (some (.Name x pos')) pos.line X.env=pure false:=by rfl):RS X (.Assign [.Name x pos'] a pos) (aA i fa):=Gz hi hx ha hs
def zf{g:Gx}{fb:Sx}(hi:RI X tg iter it)(hg:RG X tg g)(hb:Tw X body fb)(hp:∀E,X.Ep E->PassesOwn X.M X.A X.env E:=by exact fun _ h=>h)(hc:X.calm=true:=by rfl)(hs:∀x,foldedSetIterable iter X.env x=pure x:=by intro _;rfl):RS X (.For tg iter body [] pos) (fS it g fb):=GB hp hc hi hg hb hs
structure J2(X:Cx)(e:Expr)(es:List Expr)(pos:Pos):Prop where
 a:starEach (e::es) X.env=(false,eval e X.env)::starEach es X.env
 b:(backTo pos (starEach es X.env)).any (·.1)=false
structure J3(X:Cx)(x:Str)(v:Value):Prop where
 a:bootBuiltins x=some v
 b:Gl X x
 c:x≠"__name__"
 d:(x==("__debug__":Str))=false
def zb{id:String}(o:Uk X (.builtin id) g)(hm:X.mg x=none)(ha:RA X (e::es) fs)(k:J3 X x (.builtin id):=by exact⟨by decide+kernel,rfl,by decide,by decide⟩)(j:J2 X e es pos:=by exact⟨rfl,rfl⟩):RE X (.Call (.Name x p0) (e::es) [] pos) (cN g fs):=AN o k.b hm k.a ha k.c k.d j.a j.b
def zt{id:String}(o:Uk X (.type id) g)(hm:X.mg x=none)(ha:RA X (e::es) fs)(k:J3 X x (.type id):=by exact⟨by decide+kernel,rfl,by decide,by decide⟩)(j:J2 X e es pos:=by exact⟨rfl,rfl⟩):RE X (.Call (.Name x p0) (e::es) [] pos) (cN g fs):=yZ o k.b hm k.a ha k.c k.d j.a j.b
def YW{n:String}(hm:X.mg x=none)(k:J3 X x (.type n):=by exact⟨by decide+kernel,rfl,by decide,by decide⟩):RE X (.Name x pos) (cK (.ty n)):=GJ k.b hm k.a k.c k.d
def W4{n:String}(hi:X.mg "isinstance"=none)(hm:X.mg x=none)(ha:RE X e f)(k:J3 X x (.type n)/\Gl X "isinstance"/\starEach [.Name x p1] X.env=(false,eval (.Name x p1) X.env)::starEach [] X.env:=by exact⟨⟨by decide+kernel,rfl,by decide,by decide⟩,rfl,rfl⟩)(j:J2 X e [.Name x p1] pos:=by exact⟨rfl,rfl⟩):RE X (.Call (.Name "isinstance" p0) [e,.Name x p1] [] pos) (cN aw (aa f (aa (cK (.ty n)) ai))):=zb Bd hi (oK ha (oK (YW hm k.1) wb k.2.2) j.a) ⟨by decide+kernel,k.2.1,by decide,by decide⟩ j
def zl(hm:X.mg "len"=none)(ha:RE X e f)(hg:Gl X "len":=by rfl)(j:J2 X e [] pos:=by exact⟨rfl,rfl⟩):RE X (.Call (.Name "len" p0) [e] [] pos) (cN gB (aa f ai)):=zb Jy hm (ra1 ha j.a) ⟨by decide+kernel,hg,by decide,by decide⟩ j
def Wf{l:Y1}(h:∃t,X.mg x=some (.str (S l) t))(hg:Gl X x:=by rfl)(hd:nD0 x:=by decide):RE X (.Name x pos) (cK (.str l)):=let⟨_,h⟩:=h;xM hg h (fun _ _ _=>.str _ _) hd
def glI{i:Int}(h:∃t,X.mg x=some (.int i t))(hg:Gl X x:=by rfl)(hd:nD0 x:=by decide):RE X (.Name x pos) (cK (.int i)):=let⟨_,h⟩:=h;xM hg h (fun _ _ _=>.int _ _) hd
def GT(S:SC)(x:Str)(ls:Ya):Prop:=∃a j6 n,S.mg x=some (.ref a)/\S.base.get? a=some { cls:=.type "tuple",data:=.seq j6 n }/\j6.size<=sizeLine/\StrsAre j6.toList (ls.map Z.S)
theorem Vb.bad{G:SC}{k:Nat}{f:Addr}{fd:FuncData}{ps:Zl}:Vb G k f fd ps fun _=>.bad:=⟨fun _ _ h=>(nomatch h),fun _ _ _ _ _ _ _ h=>(nomatch h)⟩
theorem Uc.bad{G:SC}{c:Bool}{k:Nat}{f:Addr}{fd:FuncData}{ps:Zl}:Uc G c k f fd ps fun _ _=>.bad:=⟨fun _ _ h=>absurd rfl h,fun _ _ _ _ _ _ _ _ h=>h.elim⟩
end
section
variable{w w2:Wo}
abbrev NO(w:Wo)(a:Addr)(o:Obj):Wo:=⟨gD w.F a o,fun _=>none,[],w.s⟩
end
noncomputable def Wa(z:Str):Value->Bool
 |.str y _=>y==z
 |_=>false
section
variable{w:Wo}
def uq{elt:Expr}{it:Ax}{te:Ex}{M vs:Zl}{g:Gx}{py Sg:Pos}{y:Str}(m6:Y1)(hc:X.calm=true)(S:fZ X.N X.env.scope scope m6 vs M)(hi:RI X tg iter it)(hg:∀cl C,RG (bJ X M scope cl C) tg g)(ht:∀cl C,VB (bJ X M scope cl C) ifs tt)(he:∀cl C,RE (bJ X M scope cl C) elt te)
  (gm:∀q cp ρ1,g q (List.replicate vs.length none++cp)=some ρ1->∃l,l.length=vs.length/\ρ1=l++cp) (hy:X.N[iy]? =some y) (WL:X.env.scope.names.lookup y=some .local) (Vs:swapsWith (.ListComp elt [⟨tg,iter,ifs,0⟩] scope pos) (some (.Name y py)) Sg.line X.env=pure true)
  (hs:∀y,foldedSetIterable iter X.env y=pure y:=by intro _;rfl):RS X (.Assign [.Name y py] (.ListComp elt [⟨tg,iter,ifs,0⟩] scope pos) Sg) (aA iy (cN Ss (eU vs.length g m6 it tt te))):=⟨fun{w0 ρ h Q E} I p=>by
 rw[agF _ _ _ _ Vs];refine adq<|afE<|adq ?_
 show wpAny _ X.A (comprehension (.ListComp elt [⟨tg,iter,ifs,0⟩] scope pos) scope X.env _ (newList []) false (eval iter X.env) (some (assign (.Name y py) X.env)) >>= fun _=>pure ()) _ _ w0.s;refine adq<|ad8 (afi (use:=some (assign (.Name y py) X.env)) (Q:=fun _ s'=>Q .next s') rfl hs (iD fun n hn=>I.ok.has n (S.free _ hn rfl)) S.kind S.names ?_) (fun _ _ z=>adB (adB z)) fun _ _ z=>z
 have p:bp X w0 Q E (eY (it ρ h) fun xs h1=>eY (if xs.length<sizeLine then(ew g tt te (List.replicate vs.length none++cU m6 ρ) xs h1).calm else .bad) fun ps h2=>eY (Ss ps h2) fun v h3=>.nx (ρ.set iy (some v)) h3):=by
  unfold aA df cN eU at p
  cases e:it ρ h with
  |ok xs h1=>
   rw[e]at p
   revert p
   show bp X w0 Q E (eY (((if xs.length<sizeLine then(ew g tt te (List.replicate vs.length none++cU m6 ρ) xs h1).calm else .bad):Res Y2).bind Ss) _)->bp X w0 Q E (eY (if xs.length<sizeLine then(ew g tt te (List.replicate vs.length none++cU m6 ρ) xs h1).calm else .bad) _);generalize(if xs.length<sizeLine then(ew g tt te (List.replicate vs.length none++cU m6 ρ) xs h1).calm else .bad:Res Y2)=rr
   cases rr<;>exact id
  |exc _ _=>rw[e]at p;exact p
  |bad=>rw[e]at p;exact p
 refine hi.r I (bp.e0 p I fun w h1 xs v y0 I1 rr p=>?_)
 split at p
 .rename_i hz
  refine nJ (use:=some (assign (.Name y py) X.env)) (Q:=fun _ s=>Q .next s) (K:=fun ps h=>bp X w0 Q E (eY (Ss ps h) fun v h3=>.nx (ρ.set iy (some v)) h3)) m6 hc S hg ht he gm I y0 rr hz (by
   revert p
   cases ew g tt te (List.replicate vs.length none++cU m6 ρ) xs h1<;>first|exact id|exact fun z=>bp.ep z |>.elim) fun{w2 h2 ps j6 D C oC m} y2 H2 nD nC DC hl n l f ra z k=>?_
  obtain⟨nn,e1⟩:=l;have fz:=cx (o:={ cls:=.type "list",data:=.seq j6 nn }) f.2.1;have n3:=Nw.freeze (X:=X) (w:=w0) (w1:=w2) ⟨y2,H2⟩ nD ⟨e1,f⟩;have I3:=I.on n3;have aC:=I.out nC;show wpAny _ X.A (assign (.Name y py) X.env (.ref D)) _ _ w2.s;refine agh (I3.store (w:=⟨gD w2.F D { cls:=.type "list",data:=.seq j6 nn },w2.O,w2.m,w2.s⟩) hy (.inl WL) (p:=.lst ps) (.lst bg z (ra.mono fz (.inr fun _ _ e=>e))) fun w4 y4 I4=>?_);obtain⟨sl,hC,zz⟩:=y4.keep C oC ⟨hl.1,hl.2.1,cT (afW DC) hl.2.2.1,hl.2.2.2⟩ aC.w;refine⟨m,pX n fun o e=>by rw[hl.1]at e;cases e;exact⟨sl,hC.1⟩,fun h' Xx=>?_⟩;obtain⟨a1,a2⟩:=jz (s':={ w4.s with heap:=h' }) I4.toHR hC fun b o z e=>(Xx.2 b z).trans e;exact k.2 _ ((n3.s.trans y4).priv a1 (by simp;exact nC)) (I4.priv a1 a2 (by simp;exact aC))
 .exact p.elim⟩
end
section
variable{e a b elt:Expr}{f te:Ex}{fs it:Ax}{p1:Pos}{y:Str}{M:Zl}{m6:Y1}
def uu{py Sg:Pos}(S:fZ X.N X.env.scope scope m6 [x] M)(hi:RI X (.Name x tp) iter it)(ht:∀cl C,VB (bJ X M scope cl C) ifs tt)(he:∀cl C,RE (bJ X M scope cl C) elt te)(hy:X.N[iy]? =some y)(WL:X.env.scope.names.lookup y=some .local)(Vs:swapsWith (.ListComp elt [⟨.Name x tp,iter,ifs,0⟩] scope pos) (some (.Name y py)) Sg.line X.env=pure true)(hc:X.calm=true:=by rfl)(hg:∀cl C,RG (bJ X M scope cl C) (.Name x tp) (z7 0):=by exact fun _ _=>lZ)
  (hs:∀y,foldedSetIterable iter X.env y=pure y:=by intro _;rfl):RS X (.Assign [.Name y py] (.ListComp elt [⟨.Name x tp,iter,ifs,0⟩] scope pos) Sg) (aA iy (cN Ss (bT m6 it tt te))):=by
 have q:=uq (pos:=pos) (py:=py) m6 hc S hi hg ht he Eu hy WL Vs hs;have z:eU 1 (z7 0) m6 it tt te=bT m6 it tt te:=by funext ρ h;simp only[eU,bT,qF]
 exact z▸q
end
def qq(h:Y3)(p:PV):Bool:=(R_ h p).isSome
def DF(p:PV)(ps:Y2)(h:Y3):Res PV:=match ps with
 |[q,z]=>match R_ h p,iM q with
  |some kvs,some k=>.ok (match bj kvs k with|some v=>aj h v|none=>z) h
  |_,_=>.bad
 |_=>.bad
def im(p q:PV)(h:Y3):Res PV:=match S9 h p,S9 h q with
 |some a,some b=>if a.length+b.length<=sizeLine then .ok (.ref h.length) (h++ [.lst (a++b)])else .bad
 |_,_=>.bad
section
variable{a b:Expr}
def Ae:TyM X "dict" qq:=fun H r e=>by obtain⟨xs,ex⟩:=ad4.mp e;obtain⟨a,kvs,rfl,_,d,_⟩:=H.dc r ex;exact⟨d.typeIs,fun _ e=>by cases e;exact let⟨o,es,ep,e,x,_⟩:=d;⟨o,e,x.2.1⟩⟩
def Hn:Xm X "dict.get" DF:=fun{w h p u ps us Q E} I r rs k=>by
 unfold DF at k
 split at k
 .obtain⟨v1,v2,rfl,r1,r2⟩:=rs.two
  split at k
  .rename_i kk e1 e2;obtain⟨a,kvs,rfl,sm,d,rr⟩:=I.dc r e1;refine call_meetsIn agI d.typeIs PySem.F.entry_dict_get (PySem.F.args_dict_get_3 _ _ _) (meets_dict_get_default (pk X.prog X.w) a (jP r1 e2) sm v2) ⟨_,d.mapOf,?_⟩;rcases kq rr.2.1 rr.2.2 kk with⟨p3,v,z1,z2,z3⟩|⟨z1,z2⟩
   .rw[z1]at k;show Q ((valueAt kvs kk).getD v2) _;rw[z2];exact k.now I.toHR (I.S5 z3)
   .rw[z1]at k;show Q ((valueAt kvs kk).getD v2) _;rw[z2];exact k.now I.toHR r2
  .exact k.elim
 .exact k.elim
def Du(ha:RE X a fa)(hb:RE X b fb):RE X (.BinOp a .Add b pos) (c2 im fa fb):=pN (fun{w h p q u v Q E} I rp rq k=>by
 unfold im at k
 split at k
 .rename_i xs ys e1 e2
  split at k
  .obtain⟨a,j6,rfl,⟨_,x⟩,z,r⟩:=I.sq rp (jM e1);obtain⟨b,OJ,rfl,⟨_,y⟩,_,r'⟩:=I.sq rq (jM e2);have l:=r.len;have l':=r'.len;exact ahD x y (k.lm I.toHR (by simpa using r.app r') (by simp;lia)) ⋯
  .exact k.elim
 .exact k.elim) ha hb
end
noncomputable def Dz(ps:Y2)(h:Y3):Res PV:=match ps with
 |[.int a,.int b]=>.ok (.int (if b<a then b else a)) h
 |_=>.bad
def Jw(hc:X.calm=true):Uk X (.builtin "min") Dz:=fun ok {w h p u Q E} I rs k=>by
 unfold Dz at k
 split at k
 .obtain⟨u,v,rfl,r,r2⟩:=rs.two
  cases r;cases r2
  refine min_two_ints (ok.hd hc) fun h' tk kp=>?_;have n:=Nw.also (X:=X) (s':={ w.s with heap:=h',toks:=tk }) I.toHR kp;refine k.2 _ _ n ?_
  split
  .exact .int _ _
  .exact .int _ _
 .exact k.elim
noncomputable def BY:PV->Bool
 |.int _=>true
 |.str _=>true
 |.bl _=>true
 |.non=>true
 |_=>false
section
variable{F F':Fz}{m m':Zs}
def uY(r:aP G F m p u)(h:BY p=true):aP G F' m' p u:=by
 cases p<;>first|(cases h;done)|skip
 all_goals cases r
 .exact .non
 .exact .bl _
 .exact .int _ _
 .exact .str _ _
end
noncomputable def cQ{α β:Type}(f:α->Option β):List α->Option (List β)
 |[]=>some []
 |x::r=>match f x,cQ f r with
  |some y,some l=>some (y::l)
  |_,_=>none
noncomputable def eh(f:PV->Option PV):List (PK×PV)->Option (List (PK×PV))
 |[]=>some []
 |x::r=>match f x.2,eh f r with
  |some y,some l=>some ((x.1,y)::l)
  |_,_=>none
def aJ(h:Y3):Nat->PV->Option PV
 |0,_=>none
 |n+1,p=>match p with
  |.ref i=>match h[i]? with
   |some (.lst xs)=>(cQ (aJ h n) xs).map .lst
   |some (.dct H8)=>(eh (aJ h n) H8).map .dct
   |some (.s8 q)=>some q
   |_=>none
  |.tup xs=>(cQ (aJ h n) xs).map .tup
  |.lst xs=>(cQ (aJ h n) xs).map .lst
  |p=>if p.pure=true then some p else none
noncomputable def V5(h:Y3)(i:Nat):Bool:=match h[i]? with
 |some (.obj _ _)=>true
 |_=>false
def mG(fn:Y2->Out)(ps:Y2)(h:Y3):Res PV:=match cQ (aJ h 100) ps with
 |some qs=>match fn qs with
  |.ok v=>if BY v=true then .ok v h else .bad
  |.bad=>.bad
 |none=>.bad
def qL(fn:Y2->Out)(as:Ax):Ex:=fun ρ h=>(as ρ h).bind (mG fn)
section
variable{w:Wo}{f:Addr}{fd:FuncData}{ps:Zl}{fn:Y2->Z.Out}
def Nw.V_{F':Fz}(I:Wd X w h)(su:∀a o,F' a=some o->w.s.heap.get? a=some o)(y:K8 X.fs Tg ⟨F',fun _=>none,[],w.s⟩ w1)(H:HR X.toSC w1 h1)(fF:∀a o,w.F a=some o->F' a=some o):Nw X w ⟨w.F,w.O,w.m,w1.s⟩ h:=by
 have k:∀b o,w.s.heap.get? b=some o->∃sl,w1.s.heap.get? b=some { o with slots:=sl }/\(b∈X.fs\/sl=o.slots):=fun b o e=>by
  cases q:F' b with
  |some x=>
   obtain rfl:x=o:=by have:=su b x q;rw[e]at this;cases this;rfl
   exact⟨_,H.sub b _ (y.fz _ _ q),.inr rfl⟩
  |none=>obtain⟨sl,q',z⟩:=y.keep b o ⟨e,by simp,q,rfl⟩ fun z=>z;exact⟨sl,q'.1,z⟩
 have nf:∀{b},¬ S8 w b->b∉X.fs:=fun n z=>let⟨_,q,_⟩:=I.fr _ z;n q.2
 have k':∀b o,w.s.heap.get? b=some o->¬ S8 w b->w1.s.heap.get? b=some o:=fun b o e n=>by
  obtain⟨sl,q,z⟩:=k b o e;rcases z with z|rfl
  .exact absurd z (nf n)
  .exact q
 refine⟨⟨y.os,y.ba,fun _ _ e=>e,fun _ _ e=>e,⟨[],by simp⟩,y.dom,fun b o q _=>?_⟩,fun a o e=>?_,fun d a e=>?_,I.len,I.nd,fun i po a e1 e2=>?_⟩
 .obtain⟨sl,q',z⟩:=k b o q.1;exact⟨sl,⟨q',q.2⟩,z⟩
 .exact H.sub _ _ (y.fz _ _ (fF _ _ e))
 .obtain⟨⟨o,q⟩,z,n⟩:=I.own d a e;exact⟨y.dom d o q,z,n⟩
 .refine(I.obj i po a e1 e2).on (fun _ _ e=>e) (fun _ e=>e) (fun _ _ e=>e) (fun b o e z=>?_) fun n=>n;exact k' b o e fun y=>z.elim (fun z=>y.1 (z▸adF e2)) fun z=>by rw[y.2.2]at z;cases z
noncomputable def iA(w:Wo)(h:Y3):Fz:=fun a=>match w.F a with
 |some o=>some o
 |none=>open Classical in if∃i,w.m[i]? =some a/\V5 h i=false then w.s.heap.get? a else none
def fD(e:w.F a=some o):iA w h a=some o:=by unfold iA;rw[e]
def jI(H:HR X.toSC w h)(e:iA w h a=some o):w.s.heap.get? a=some o:=by
 unfold iA at e
 split at e
 .cases e;exact H.sub _ _ ‹_›
 .split at e
  .exact e
  .cases e
def sU(e:w.m[i]? =some a)(n:V5 h i=false)(f:w.F a=none):iA w h a=w.s.heap.get? a:=by unfold iA;rw[f];exact if_pos ⟨i,e,n⟩
def oP{b:Addr}(n:b∉w.m)(f:w.F b=none):iA w h b=none:=by unfold iA;rw[f];exact if_neg (by rintro ⟨_,e,_⟩;exact n (adF e))
theorem nH{f:PV->Option PV}(hf:∀p u q,aP X.toSC w.F w.m p u->f p=some q->aP X.toSC (iA w h) [] q u/\q.pure=true):∀{ps qs:Y2}{us:Z3},ay X.toSC w.F w.m ps us->cQ f ps=some qs->ay X.toSC (iA w h) [] qs us/\aq qs=true
 |[],_,_,.nil,k=>by cases k;exact⟨.nil,rfl⟩
 |p::ps,qs,_,.cons r t,k=>by
  unfold cQ at k
  split at k
  .rename_i e1 e2
   cases k
   obtain⟨a,b⟩:=hf _ _ _ r e1;obtain⟨c,d⟩:=nH hf t e2;exact⟨.cons a c,by show(_&&_)=true;rw[b,d];rfl⟩
  .cases k
theorem xT{f:PV->Option PV}:∀{H8 Zn:List (PK×PV)},eh f H8=some Zn->Zn.map (·.1)=H8.map (·.1)/\cQ f (H8.map (·.2))=some (Zn.map (·.2))
 |[],_,k=>by cases k;exact⟨rfl,rfl⟩
 |x::r,_,k=>by
  unfold eh at k
  split at k
  .rename_i e1 e2
   cases k
   obtain⟨a,b⟩:=xT e2;refine⟨by simp[a],?_⟩;show cQ f (x.2::r.map (·.2))=_;unfold cQ;rw[e1,b];rfl
  .cases k
theorem jV(H:HR X.toSC w h):∀(n:Nat)(p:PV)(u:Value)(q:PV),aP X.toSC w.F w.m p u->aJ h n p=some q->aP X.toSC (iA w h) [] q u/\q.pure=true
 |0,_,_,_,_,k=>by cases k
 |n+1,p,u,q,r,k=>by
  have ih:∀{ps qs:Y2}{us:Z3},ay X.toSC w.F w.m ps us->cQ (aJ h n) ps=some qs->ay X.toSC (iA w h) [] qs us/\aq qs=true:=fun a b=>nH (X:=X) (w:=w) (jV H n) a b;unfold aJ at k
  split at k
  .rename_i i
   cases r with
   |@ref _ a e=>
    split at k
    .rename_i xs e1;obtain⟨ff,j6,m,g,z,rr⟩:=H.obj _ _ _ e1 e
     cases q':cQ (aJ h n) xs with
     |none=>rw[q']at k;cases k
     |some ys=>rw[q']at k;cases k;obtain⟨a1,a2⟩:=ih rr q';exact⟨.lst ((sU e (by unfold V5;rw[e1]) ff).trans g) z a1,a2⟩
    .rename_i H8 e1;obtain⟨ff,o,kvs,g,d,y,z,c,rr⟩:=H.obj _ _ _ e1 e
     cases q':eh (aJ h n) H8 with
     |none=>rw[q']at k;cases k
     |some ys=>rw[q']at k;cases k;obtain⟨b1,b2⟩:=xT q';obtain⟨a1,a2⟩:=ih rr b2;exact⟨.dct ((sU e (by unfold V5;rw[e1]) ff).trans g) d y z (c.trans b1.symm) a1,by simpa[PV.pure,dC]using a2⟩
    .rename_i e1
     cases k
     obtain⟨r',pu,o,fo⟩:=H.obj _ _ _ e1 e;exact⟨r'.mono (fun _ _ e=>fD e) (.inl pu),pu⟩
    .cases k
  .cases r with
   |tup e z rr=>
    rename_i xs _ _ _
    cases q':cQ (aJ h n) xs with
    |none=>rw[q']at k;cases k
    |some ys=>rw[q']at k;cases k;obtain⟨a1,a2⟩:=ih rr q';exact⟨.tup (fD e) z a1,a2⟩
  .cases r with
   |lst e z rr=>
    rename_i xs _ _ _
    cases q':cQ (aJ h n) xs with
    |none=>rw[q']at k;cases k
    |some ys=>rw[q']at k;cases k;obtain⟨a1,a2⟩:=ih rr q';exact⟨.lst (fD e) z a1,a2⟩
  .split at k
   .rename_i pu
    cases k
    exact⟨r.mono (fun _ _ e=>fD e) (.inl pu),pu⟩
   .cases k
def jY(F:Vb X.toSC k f fd ps fn)(hr:dP k X.A)(hc:X.calm=true)(hb:hX X.K fd ps [])(I:Inv X w ρ h)(r:ay X.toSC w.F w.m qs us)(p:bu X (RV X.toSC) w Q E (mG fn qs h)):Wp X (call (.ref f) us) Q E w.s:=by
 unfold Z.mG at p
 split at p
 .rename_i e1
  split at p
  .rename_i qs' v e2
   split at p
   .rename_i fl;obtain⟨r',_⟩:=nH (jV I.toHR 100) r e1;have J:Wd X ⟨iA w h,fun _=>none,[],w.s⟩ []:=⟨⟨fun _ _ e=>jI (w:=w) I.toHR e,fun _ _ e=>(nomatch e),rfl,af6,fun _ _ _ e=>(nomatch e)⟩,I.ba,fun b o e=>fD (I.bs b o e),fun b hb=>let⟨o,q,d⟩:=I.fr b hb;⟨o,⟨q.1,by simp,oP q.2.1 q.2.2.1,rfl⟩,d⟩⟩
    refine ae7 (F.run (w:=⟨iA w h,fun _=>none,[],w.s⟩) rfl hr (I.ok.hd hc) I.ok.frames J I.ok r' e2 (by simpa using hb w.s us I.Qs (by rw[adU,<- r'.length];exact F.len _ _ e2)) fun F2 s2 u n2 r2=>?_);exact p.2 ⟨w.F,w.O,w.m,s2⟩ _ (Nw.V_ I.toWd (fun _ _ e=>jI (w:=w) I.toHR e) n2.1 n2.2 fun _ _ e=>fD e) (uY r2 fl)
   .exact p.elim
  .exact p.elim
 .exact p.elim
variable{e:Expr}{fs:Ax}
def AK(c:ZC X x fn)(hg:Gl X x)(ha:RA X (e::es) fs)(hc:X.calm=true)(Qt:(x==("__debug__":Str))=false)(he:starEach (e::es) X.env=(false,eval e X.env)::starEach es X.env)(S_:(backTo pos (starEach es X.env)).any (·.1)=false):RE X (.Call (.Name x p0) (e::es) [] pos) (qL fn fs):=⟨fun I p=>by obtain⟨k,f,fd,ps,F,hr,hm,hk,hb⟩:=c.ex;exact ad9 (I.Vu hg hm (afg (h₀:=X.base) I.ok.Rd hk (ha.r pos I (p.bind fun _ _ _ _ y r p=>⟨(I.on y).Qs,jY F hr hc hb (I.on y) r p⟩)) he S_) Qt)⟩
end
open Classical in
noncomputable def gJ(j:Nat)(xs:Y2)(g:Gx)(body:Sx):Y2->Sx
 |[],ρ,h=>if h[j]? =some (.lst xs)then .nx ρ h else .bad
 |p::r,ρ,h=>if h[j]? =some (.lst xs)then match g p ρ with
  |some ρ1=>match body ρ1 h with
   |.nx ρ2 h2=>gJ j xs g body r ρ2 h2
   |.ct ρ2 h2=>gJ j xs g body r ρ2 h2
   |.bk ρ2 h2=>.nx ρ2 h2
   |.rt v h2=>.rt v h2
   |.exc v h2=>.exc v h2
   |.bad=>.bad
  |none=>.bad
  else .bad
noncomputable def um(fa:Ex)(g:Gx)(body:Sx):Sx:=fun ρ h=>df (fa ρ h) fun p h1=>match p with
 |.ref j=>match h1[j]? with
  |some (.lst xs)=>gJ j xs g body xs ρ h1
  |_=>.bad
 |_=>.bad
section
variable{w w0:Wo}{a:Expr}{g:Gx}{f:Sx}{xs:Y2}
def zA{it:Addr}(hh:A.handled=none)(H:HR G w h)(hj:h[j]? =some (.lst xs))(em:w.m[j]? =some l)(st:w.s.heap.IsListIter it l i)(hx:xs[i]? =some p)(f:∃o,Has w it o)
  (q:∀u w',Pv [it] w w'->HR G w' h->w'.s.heap.IsListIter it l (i+1)->(∃o,Has w' it o)->aP G w'.F w'.m p u->Q u w'.s):
  wpAny (model G.prog G.w) A (pyNext (.ref it)) (fun r s=>∃u,r=some u/\wpAny (model G.prog G.w) A (letOwnedTupleGo tg (.ref it) u) (fun _ s=>Q u s) E s) E w.s:=by
 obtain⟨ff,j6,m,e,z,rr⟩:=H.obj _ _ _ hj em;obtain⟨o,ho⟩:=f;have ne:l≠it:=fun z=>ho.2.1 (z▸adF em);obtain⟨u,e2,r'⟩:=rr.get hx;have YH:j6[i]? =some u:=by simpa using e2
 refine(ahh (prog:=G.prog) (w:=G.w) hh it l ne j6).item i _ _ _ (Array.getElem?_eq_some_iff.mp YH).1 ⟨st,_,e,rfl,m,rfl⟩ fun v h' tk hv Wn k=>⟨v,rfl,?_⟩
 have hv:j6[i]? =some v:=hv;rw[YH]at hv;cases hv;obtain⟨o',e',c,d⟩:=Wn.1;obtain⟨a1,a2⟩:=jz (s':={ w.s with heap:=h',toks:=tk }) H ho fun b o hb e=>k b o (by simpa using hb) e;exact FP (s:={ w.s with heap:=h',toks:=tk }) e' c d ⋯ (q _ _ a1 a2 Wn.1 ⟨o',e',ho.2⟩ (r'.mono (fun _ _ e=>e) (.inr fun _ _ e=>e)))
def zB{it:Addr}{Q:Shared->Prop}(hh:A.handled=none)(H:HR G w h)(hj:h[j]? =some (.lst xs))(em:w.m[j]? =some l)(st:w.s.heap.IsListIter it l i)(hx:xs.length=i)(f:∃o,Has w it o)
  (q:∀w',Pv [it] w w'->HR G w' h->Q w'.s):wpAny (model G.prog G.w) A (pyNext (.ref it)) (fun r s=>r=none/\Q s) E w.s:=by
 obtain⟨ff,j6,m,e,z,rr⟩:=H.obj _ _ _ hj em;obtain⟨o,ho⟩:=f;have ne:l≠it:=fun z=>ho.2.1 (z▸adF em);have hs:i=j6.size:=by rw[<- hx,<- rr.len]
 subst hs;refine(ahh (prog:=G.prog) (w:=G.w) hh it l ne j6).done _ _ _ ⟨st,_,e,rfl,m,rfl⟩ fun h' tk k=>⟨rfl,?_⟩
 obtain⟨a1,a2⟩:=jz (s':={ w.s with heap:=h',toks:=tk }) H ho fun b o hb e=>k b o (by simpa using hb) e;exact q _ a1 a2
inductive Lc0(X:Cx)(w0 w:Wo)(j:Nat)(l it:Addr)(xs:Y2)(Q:Flow->Shared->Prop)(E:Yf)(g:Gx)(f:Sx)(n:Nat)(s:Shared):Prop where
 |mk (w1:Wo) (ρ1:Ev) (h1:Y3) (ys:Y2) (_:w1.s=s) (_:RZ X w0 w1) (_:T5 w w1) (_:Inv X w1 ρ1 h1) (_:ys.length=n) (_:ys=xs.drop (xs.length - n)) (_:n<=xs.length) (_:w1.s.heap.IsListIter it l (xs.length - n)) (_:∃o,Has w1 it o) (_:bp X w0 Q E (gJ j xs g f ys ρ1 h1))
def Db(hp:∀E,X.Ep E->PassesOwn X.M X.A X.env E)(hc:X.calm=true)(ha:RE X a fa)(hg:RG X tg g)(hb:Tw X body f)(hs:∀x,foldedSetIterable a X.env x=pure x:=by intro _;rfl):RS X (.For tg a body [] pos) (um fa g f) where
 r {w0 ρ h Q E} I0 p:=by
  have hp:=hp E p.ep;refine wpAny_For (ha.r I0 (p.e0 I0 fun w h1 pv v y0 I r p=>?_)) hs
  split at p
  .rename_i j
   split at p
   .rename_i xs hj
    cases r with
    |@ref _ l em=>
    obtain⟨ff,j6,m,e,z,rr⟩:=I.obj _ _ _ hj em;refine afo (items:=j6) ⟨_,e,rfl,m,rfl⟩ ?_;have nI:=Nw.also (X:=X) (s':={ w.s with heap:=w.s.heap.push { cls:=.type "list_iterator",data:=.fields #[.ref l,.int 0 0] } }) I.toHR fun b o e=>ady _ e;have I2:=I.on nI;have fre:S8 w w.s.heap.objs.size:=I.toHR.free (aU _);have Xi:Vc X w.s.heap.objs.size:=I.out (aU _)
    have n0:w0.s.heap.get? w.s.heap.objs.size=none:=by
     cases q:w0.s.heap.get? w.s.heap.objs.size with
     |none=>rfl
     |some o=>obtain⟨o',q'⟩:=y0.1.dom _ _ q;rw[aU]at q';cases q'
    have no:∀b∈ [w.s.heap.objs.size],Vc X b:=by simpa using Xi
    have nf:∀b∈ [w.s.heap.objs.size],w0.s.heap.get? b=none:=by simpa using n0
    have g0:(w.s.heap.push { cls:=.type "list_iterator",data:=.fields #[.ref l,.int 0 0] }).get? w.s.heap.objs.size=some { cls:=.type "list_iterator",data:=.fields #[.ref l,.int 0 0] }:=adK _ rfl;refine ag1 (Lc0 X w0 w j l w.s.heap.objs.size xs Q E g f) ?_ xs.length ⟨_,ρ,h1,xs,rfl,y0.s.trans (Nw.s nI),nI.1.lat,I2,rfl,by simp,adA _,by simpa using⟨_,g0,rfl,rfl⟩,⟨_,g0,fre⟩,p⟩
    rintro n s ⟨w1,ρ1,h1',ys,rfl,y1,l1,I1,ln,dr,le,t1,f1,p1⟩
    have em1:w1.m[j]? =some l:=l1.2 _ _ em
    cases ys with
    |nil=>
     cases ln
     unfold gJ at p1
     split at p1
     .rename_i hj1;exact aeZ hp (ad8 (zB (I1.ok.hd hc) I1.toHR hj1 em1 t1 (by simp) f1 (Q:=fun s=>wpAny X.M X.A (execs [] X.env) Q (notedBy X.M X.A X.env (cameBackBy X.M X.A X.env E)) s) fun w2 y2 H2=>aew (p1.2 w2 (y1.priv y2 nf) (I1.priv y2 H2 no))) (fun r s q=>by obtain⟨rfl,q⟩:=q;exact q) fun _ _ z=>z)
     .exact p1.elim
    |cons q ys=>
     have ln':ys.length+1=n:=ln;have eq:xs[xs.length - n]? =some q:=by rw[<- afM,<- dr];rfl
     unfold gJ at p1
     split at p1
     .rename_i hj1
      split at p1
      .rename_i ρ2 e2;refine ad8 (zA (I1.ok.hd hc) I1.toHR hj1 em1 t1 eq f1 (Q:=fun u s=>wpAny (model X.prog X.w) X.A (assign tg X.env u) ?R ?N s) ?c) (fun r s q=>by obtain⟨u,rfl,q⟩:=q;exact q) fun _ _ z=>z;intro u w2 y2 H2 t2 f2 r2;refine aeZ hp (hg.r (I1.priv y2 H2 no) r2 e2 fun w3 y3 I3=>aeZ hp (hb.r I3 ?_));have Xn:=(y1.priv y2 nf).trans y3;have l2:T5 w w2:=l1.trans ⟨y2.fz,y2.sub⟩
       have t3:∀w4 h4,HR X.toSC w4 h4->RZ X w3 w4->w4.s.heap.IsListIter w.s.heap.objs.size l (xs.length - ys.length)/\∃o,Has w4 w.s.heap.objs.size o:=fun w4 h4 H4 y4=>by
        have k:∀o,Has w2 w.s.heap.objs.size o->Has w4 w.s.heap.objs.size o:=fun o q=>by
         obtain⟨sl,q',z⟩:=(y3.trans y4).keep _ o q Xi.w;rcases z with z|rfl
         .exact absurd z Xi.2.1
         .exact q'
        obtain⟨o,q⟩:=f2;refine⟨?_,⟨o,k o q⟩⟩;rw[show xs.length - ys.length=xs.length - n+1 by lia];obtain⟨o',e',c,d⟩:=t2;exact⟨o',(k o' ⟨e',q.2⟩).1,c,d⟩
       have dy:ys=xs.drop (xs.length - ys.length):=by rw[show xs.length - ys.length=xs.length - n+1 by lia,<- af7,<- dr];rfl
       have go:∀ ρ4 h4,bp X w0 Q E (gJ j xs g f ys ρ4 h4)->∀w4,RZ X w3 w4->Inv X w4 ρ4 h4->∃m,m<n/\Lc0 X w0 w j l w.s.heap.objs.size xs Q E g f m w4.s:=fun ρ4 h4 p4 w4 y4 I4=>⟨ys.length,by lia,w4,ρ4,h4,ys,rfl,Xn.trans y4,l2.trans (y3.trans y4).lat,I4,rfl,dy,by lia,(t3 w4 h4 I4.toHR y4).1,(t3 w4 h4 I4.toHR y4).2,p4⟩
       split at p1<;>rename_i e3<;>rw[e3]
       .exact⟨p1.ep,go _ _ p1⟩
       .exact⟨p1.ep,go _ _ p1⟩
       all_goals exact p1.step Xn
      .exact p1.elim
     .exact p1.elim
   .exact p.elim
  .exact p.elim
end
def ik(p:PV)(ps:Y2)(h:Y3):Res PV:=match ps with
 |[q,z]=>match eM h p,iM q with
  |some (n,H8),some k=>match bj H8 k with
   |some v=>.ok (aj h v) h
   |none=>if H8.length<sizeLine then .ok z (h.set n (.dct (aK H8 k z)))else .bad
  |_,_=>.bad
 |_=>.bad
def zv:Xm X "dict.setdefault" ik:=fun{w h p u ps us Q E} I r rs k=>by
 unfold ik at k
 split at k
 .obtain⟨v1,v2,rfl,r1,r2⟩:=rs.two
  split at k
  .rename_i n H8 kk e1 e2;obtain⟨a,o,kvs,rfl,em,hf,sm,e,d,z,rr⟩:=I.toHR.ld r e1;refine call_meetsIn afL (d.of e).typeIs PySem.F.entry_dict_setdefault (PySem.F.args_dict_setdefault_3 _ _ _) (kt_meets_setdefault (pk X.prog X.w) a (jP r1 e2) sm v2) ⟨_,d.of e,z,?_,?_⟩
   .intro v hv;rcases kq rr.1 rr.2 kk with⟨p3,v',z1,z2,z3⟩|⟨z1,z2⟩
    .rw[z1]at k;rw[z2]at hv;cases hv;exact k.now I.toHR (I.S5 z3)
    .rw[z2]at hv;cases hv
   .intro hn h' Yg sb;rcases kq rr.1 rr.2 kk with⟨p3,v',z1,z2,z3⟩|⟨z1,z2⟩
    .rw[z2]at hn;cases hn
    rw[z1]at k;dsimp only at k
    split at k
    .rename_i hz;obtain⟨o',es,ep,e1',YH,e3'⟩:=Yg;have r':=RK.put (k:=kk) rr r2
     have y4:=Nw.upd (X:=X) (s':={ w.s with heap:=h',toks:=w.s.toks+1 }) I.toHR em hf (fun b o e=>by
       by_cases z:b=a
       .exact .inl z
       .exact .inr (.inr ((sb.2 b z).trans e))) (fun b o e=>by
       by_cases z:b=a
       .exact⟨o',by subst z;exact e1'⟩
       .exact⟨o,(sb.2 b z).trans e⟩) (po:=.dct _) ⟨hf,o',_,e1',⟨YH,es,ep,e3'⟩,sm,adR (lq _ _) (by rw[rr.length];exact hz),r'.1,r'.2⟩
     exact k.2 _ _ y4 (r2.mono (fun _ _ e=>e) (.inr fun _ _ e=>e))
    .exact k.elim
  .exact k.elim
 .exact k.elim
section
open PySem.Builtin PySem.Builtin.Str
end
noncomputable def bo(f:Sx)(np n:Nat)(ps:Y2)(h:Y3):Res PV:=if ps.length=np then match f (ps.map some++List.replicate (n - ps.length) none) h with
  |.nx _ h1=>.ok .non h1
  |.rt v h1=>.ok v h1
  |.exc e h1=>.exc e h1
  |_=>.bad
 else .bad
section
variable{g:Sx}
def KR{np N:Nat}(qs:Y2)(h:Y3)(z:bo g np N qs h≠.bad):qs.length=np/\F0 h.length (g (st0 N qs) h) (bo g np N qs h):=by
 unfold bo at z |-
 split at z
 .rename_i l;rw[if_pos l];refine⟨l,?_⟩;unfold st0
  split at z<;>rename_i e<;>(try rw[e])
  .exact .al
  .exact .ra
  .exact .xa
  .exact absurd rfl z
 .exact absurd rfl z
end
def qV(h:Y3)(i:Nat):Option PO:=match h[i]? with
 |some (.obj C ps)=>some (.obj C ps)
 |_=>(aJ h 100 (.ref i)).map PO.s8
def iC(h:Y3):Option Y3:=cQ (qV h) (List.range h.length)
def xm(f:Ex):Ex:=fun ρ h=>match iC h with
 |some h1=>f ρ h1
 |none=>.bad
def rO(f:PV->PV->Y3->Res PV)(p q:PV)(h:Y3):Res PV:=match aJ h 100 p,aJ h 100 q with
 |some a,some b=>match f a b []with
  |.ok (.bl x) _=>.ok (.bl x) h
  |_=>.bad
 |_,_=>.bad
section
variable{w:Wo}
theorem xS{α β:Type}{f:α->Option β}:∀{l:List α}{r:List β},cQ f l=some r->r.length=l.length/\∀(i:Nat)(y:β),r[i]? =some y->∃x,l[i]? =some x/\f x=some y
 |[],_,k=>by cases k;exact⟨rfl,fun i y e=>by simp at e⟩
 |a::l,_,k=>by
  unfold cQ at k
  split at k
  .rename_i e1 e2
   cases k
   obtain⟨p,q⟩:=xS e2;refine⟨by simp[p],fun i y e=>?_⟩
   cases i with
   |zero=>cases e;exact⟨a,rfl,e1⟩
   |succ i=>exact q i y e
  .cases k
def HR.fzA(H:HR X.toSC w h)(k:iC h=some h1):Nw X w ⟨iA w h,w.O,w.m,w.s⟩ h1:=by
 obtain⟨l,at_⟩:=xS k;refine⟨⟨rfl,id,fun _ _ e=>fD e,fun _ _ e=>e,⟨[],by simp⟩,fun b o e=>⟨o,e⟩,fun b o q _=>⟨o.slots,⟨q.1,q.2.1,oP q.2.1 q.2.2.1,q.2.2.2⟩,.inr rfl⟩⟩,fun _ _ e=>jI (w:=w) H e,fun d a e=>?_,by simp[l,H.len],H.nd,fun i po a e1 e2=>?_⟩
 .obtain⟨o,n,z⟩:=H.own d a e;exact⟨o,n,oP n z⟩
 .obtain⟨x,y1,y2⟩:=at_ i po e1
  obtain rfl:x=i:=by obtain⟨_,e5⟩:=adv.mp y1;rw[aeW]at e5;exact e5.symm
  unfold qV at y2
  split at y2
  .rename_i C ps e3
   cases y2
   refine(H.obj x _ a e3 e2).on (fun _ _ e=>fD e) (fun _ e=>e) (fun _ _ e=>e) (fun _ _ e _=>e) fun f=>?_;show iA w h a=none;unfold iA;rw[f];refine if_neg ?_;rintro ⟨j,ej,nj⟩;obtain⟨l1,q1⟩:=adv.mp ej;obtain⟨l2,q2⟩:=adv.mp e2;obtain rfl:=(aeH H.nd).mp (q1.trans q2.symm);unfold V5 at nj;rw[e3]at nj;cases nj
  .rename_i nO
   cases e3:aJ h 100 (.ref x)with
   |none=>rw[e3]at y2;cases y2
   |some v=>
    rw[e3]at y2;cases y2;obtain⟨r,pu⟩:=jV H 100 _ _ _ (.ref e2) e3;refine⟨r.mono (fun _ _ e=>e) (.inl pu),pu,?_⟩;show∃o,iA w h a=some o;have iO:V5 h x=false:=by unfold V5;split;exact absurd ‹_› (nO _ _);rfl
    cases f:w.F a with
    |some o=>exact⟨o,fD f⟩
    |none=>rw[sU (w:=w) e2 iO f];exact H.there (adF e2)
def GZ{ae:Expr}(ha:RE X ae fa):RE X ae (xm fa):=⟨fun{w ρ h Q E} I p=>by
 unfold xm at p
 split at p
 .rename_i h1 e;have n:=I.toHR.fzA (X:=X) e;have p':bu X (RV X.toSC) w Q E (fa ρ h1):=p;exact ha.r (w:=⟨iA w h,w.O,w.m,w.s⟩) (I.on n) (p'.step n)
 .exact p.elim⟩
def DS{op:Value->Value->Sem Value}{g:PV->PV->Y3->Res PV}(o:R3 X op g):R3 X op (rO g):=fun{w h p q u v Q E} I rp rq k=>by
 unfold rO at k
 split at k
 .rename_i e1 e2
  split at k
  .rename_i b h1 e3;obtain⟨r1,_⟩:=jV I.toHR 100 _ _ _ rp e1;obtain⟨r2,_⟩:=jV I.toHR 100 _ _ _ rq e2;have J:Wd X ⟨iA w h,fun _=>none,[],w.s⟩ []:=⟨⟨fun _ _ e=>jI (w:=w) I.toHR e,fun _ _ e=>(nomatch e),rfl,af6,fun _ _ _ e=>(nomatch e)⟩,I.ba,fun b o e=>fD (I.bs b o e),fun b hb=>let⟨o,q,d⟩:=I.fr b hb;⟨o,⟨q.1,by simp,oP q.2.1 q.2.2.1,rfl⟩,d⟩⟩
   refine o (w:=⟨iA w h,fun _=>none,[],w.s⟩) J r1 r2 ?_;rw[e3];exact⟨k.1,fun w1 u1 n r=>k.2 ⟨w.F,w.O,w.m,w1.s⟩ u1 (Nw.V_ I (fun _ _ e=>jI (w:=w) I.toHR e) n.1 n.2 fun _ _ e=>fD e) (uY r rfl)⟩
  .exact k.elim
 .exact k.elim
end
section
variable{w w3:Wo}
def Inv.UJ(ok:X.Ok)(I:Inv X.tried w ρ h):Inv X w ρ h:=⟨⟨I.toHR,I.ba,I.bs,I.fr⟩,ok,I.loc,I.T_,I.ln⟩
theorem bu.mono{α β:Type}{R:Wo->α->β->Prop}{Q G:β->Shared->Prop}{r:Res α}(p:bu X R w G E r)(k:∀u s,G u s->Q u s):bu X R w Q E r:=match r with
 |.ok _ _=>⟨p.1,fun w' x y r=>k _ _ (p.2 w' x y r)⟩
 |.exc _ _=>p
 |.bad=>p
inductive Jt(X:Cx)(w:Wo)(ρ:Ev)(Q:Flow->Shared->Prop)(E:Yf)(kb:PV->Ev->Y3->SR)(u:Value)(s:Shared):Prop where
 |mk (w1:Wo) (h1:Y3) (v:PV) (_:w1.s=s) (_:RZ X w w1) (_:Inv X.tried w1 ρ h1) (_:aP X.toSC w1.F w1.m v u) (_:bp X.tried w Q E (kb v ρ h1))
theorem CW{b:Stmt}{suite:List Stmt}{fe:Ex}{fb:Sx}{t n:Str}{Uv:Pos}(kb:PV->Ev->Y3->SR)(e0:∀ ρ h,fb ρ h=df (fe ρ h) fun v h=>kb v ρ h)(hk:∀v ρ h,(∃ ρ',kb v ρ h=.nx ρ' h)\/∃v',kb v ρ h=.rt v' h)(Uw:∀C Ca,cat C=true->X.T C=some Ca->W.exmOne X.K (.ref Ca) (.ref Ta)=some true)
  (hb:∀{w:Wo}{ρ:Ev}{h:Y3}{Q:Flow->Shared->Prop}{E:Yf},Inv X.tried w ρ h->bu X.tried (RV X.toSC) w (Jt X w ρ Q E kb) E (fe ρ h)->Wp X.tried (exec b X.env) Q E w.s) (hs:∀a,Tw (X.suite a) (b0::suite) gs) (hi:X.N[i]? =some n) (hn:X.env.scope.names.lookup n=some .local) (hg:Gl X t) (hm:X.mg t=some (.ref Ta)) (Vi:X.stack=X.env::outer) (hf:X.env.frame=some X.env.locals) (Qt:(t==("__debug__":Str))=false):
  RS X (.Try [b] [.ExceptHandler (some (.Name t tp)) (some n) (b0::suite) Uv] [] [] pos) (lY cat fb i gs):=⟨fun{w ρ h Q E} I p=>by
 refine wpAny_Try_except (afc (hb I.tried ?_));unfold lY at p;rw[e0]at p;unfold df eY at p
 cases z:fe ρ h with
 |ok v h1=>
  rw[z]at p;refine⟨trivial,fun w' x y r=>⟨w',h1,v,rfl,y.s,I.tried.on y,r,?_⟩⟩;dsimp only at p;rcases hk v ρ h1 with⟨ρ',e⟩|⟨v',e⟩<;>rw[e]at p |-
  .exact⟨trivial,fun w8 y8 I8=>aew (aew (p.2 w8 y8 (I8.UJ I.ok)))⟩
  .exact⟨trivial,fun w8 u8 ρ8 y8 I8 r8=>p.2 w8 u8 ρ8 y8 (I8.UJ I.ok) r8⟩
 |bad=>rw[z]at p;exact p
 |exc e h1=>
  rw[z]at p;refine⟨trivial,fun w' u y r=>?_⟩;dsimp only at p
  split at p
  .rename_i C pe ev
   split at p
   .rename_i hC;have I1:=I.on (X:=X) y;obtain⟨a,cls,dx,rfl,⟨⟨a0,B,fl,c1,c2⟩,d⟩,m⟩:=r;rcases fl with fl|⟨z,_⟩
    case inr=>cases z
    obtain⟨Ca,t1,rfl⟩:∃Ca,X.T C=some Ca/\cls=.ref Ca:=by
     unfold zO at ev
     split at ev<;>cases ev
     .obtain⟨Ca,h1,h2,_⟩:=m;exact⟨Ca,h1,h2⟩
     .obtain⟨Ca,_,_,_,_,h1,h2,_⟩:=m;exact⟨Ca,h1,h2⟩
    have fa:S8 w' a:=agf fun z=>by obtain⟨o',q⟩:=c2 a z;have:=fl.2.1;rw[q]at this;cases this
    have na:w.s.heap.get? a=none:=by
     cases z:w.s.heap.get? a with
     |none=>rfl
     |some o'=>
      by_cases hb:a∈X.fs
      .obtain⟨o1,q,dd⟩:=I1.fr a hb;obtain⟨oe,vs,q1,_,q3,_⟩:=fl.first;have q:=q.1;rw[q1]at q;cases q;exact absurd q3 (dd vs)
      .obtain⟨o2,q⟩:=c1 a o' z hb;have:=fl.2.1;rw[q]at this;cases this
    have lands:∀h5,Heap.FlyingW B X.stack a (.ref Ca) a0 h5->w'.s.heap.UpToSlots h5->(∃o,h5.get? a=some o/\o.dict=dx)->Nw X w { w' with s:={ w'.s with heap:=h5 } } h1/\∃o vs,h5.get? a=some o/\o.cls=.ref Ca/\o.data=.fields vs/\o.dict=dx:=fun h5 Va up d5=>by refine⟨BN (Y:=X) y.1 I1.toWd c1 c2 fl.1 Va.1 up,?_⟩;obtain⟨oe,vs,q1,q2,q3,_⟩:=Va.first;obtain⟨o',y1,y2⟩:=d5;rw[q1]at y1;cases y1;exact⟨oe,vs,q1,q2,q3,y2⟩
    have Z2:X.A.frames=some (X.env::outer):=Vi▸I.ok.frames;have Yb:=fl;rw[Vi]at Yb;refine nX (jh _ _) d (wpAny_looks_onW Z2 hf Yb fun h4 held Xq d4=>nX (fH _ _) d4 (wpAny_landsW held fun h5 Va Xp d5=>?_));rw[<- Vi]at Va;obtain⟨n5,o5,vs5,q1,q2,q3,q4⟩:=lands h5 Va (Xq.trans Xp) d5;have I5:=I.on n5;refine agZ (agG ((I5.suite (a:=a)).Vu hg hm ?_ Qt)) (by intro z;cases z);have LT:W.Looks (model X.prog X.w) h5 (typeOf (.ref a)) (.ref Ca):=q2▸(ahX q1).andThen .now;refine ahs (s:={ w'.s with heap:=h5 }) (W.exm_one (K:=X.K) I5.Qs LT (Uw C Ca hC t1)) (agb ?_);refine nX (fH _ _) d5 (lands_againW Va fun h6 fl6 Y4 d6=>?_);obtain⟨n6,o6,vs6,q1,q2,q3,q4⟩:=lands h6 fl6 ((Xq.trans Xp).trans Y4) d6;have n7:=n6.freeze na ⟨q1,fa⟩;have I6:=(I.on n7).suite (a:=a)
    have re:aP X.toSC (gD w'.F a o6) w'.m pe (.ref a):=by
     unfold zO at ev
     split at ev<;>cases ev
     .exact .exc t1 bg q2 q3
     .obtain⟨_,dd,od,fs,yy,g1,_,g3,g4,g5,g6,g7⟩:=m;exact .TY t1 bg q2 q3 (q4.trans g3) (cx fa.2.1 _ _ g4) g5 g6 (g7.mono (cx fa.2.1) (.inr fun _ _ e=>e))
    refine I6.store (X:=X.suite a) hi (.inl hn) re fun w7 y7 I7=>(hs a).r I7 ?_
    split at p
    .rename_i e8;rw[e8];refine⟨trivial,fun w8 u8 ρ8 y8 I8 r8=>?_⟩;have J8:=Inv.UL I.ok I8;obtain⟨m8,_,Zi,_⟩:=id J8.loc;refine wpAny_nameGoes hn Zi (by rw[I.ok.kind];rfl) fun h9 m9 Zh sb=>?_;obtain⟨s9,I9⟩:=J8.lost (t:=w8.s.toks+1) Zh sb;exact p.2 _ _ _ (n7.s.trans (K8.trans y7 (K8.trans y8 s9))) I9 r8
    .exact p.elim
   .exact p.elim
  .exact p.elim⟩
def CY{e:Expr}{suite:List Stmt}{fe:Ex}{t n:Str}{Uv Vw pos':Pos}(Uw:∀C Ca,cat C=true->X.T C=some Ca->W.exmOne X.K (.ref Ca) (.ref Ta)=some true)
  (hb:RE X.tried e fe) (hs:∀a,Tw (X.suite a) (b0::suite) gs) (hi:X.N[i]? =some n) (hn:X.env.scope.names.lookup n=some .local) (hg:Gl X t) (hm:X.mg t=some (.ref Ta)) (Vi:X.stack=X.env::outer:=by rfl) (hf:X.env.frame=some X.env.locals:=by rfl) (Qt:(t==("__debug__":Str))=false:=by decide) (hj:X.N[j]? =some x:=by rfl) (hx:X.env.kindOf x=some .local\/(X.env.kindOf x=some .cell/\X.fn x=true):=by first|exact .inl rfl|exact .inr ⟨rfl,rfl⟩) (Vs:swapsWith e (some (.Name x pos')) Vw.line X.env=pure false:=by rfl):
  RS X (.Try [.Assign [.Name x pos'] e Vw] [.ExceptHandler (some (.Name t tp)) (some n) (b0::suite) Uv] [] [] pos) (lY cat (aA j fe) i gs):=CW (fun v ρ h=>.nx (ρ.set j (some v)) h) (fun _ _=>rfl) (fun _ _ _=>.inl ⟨_,rfl⟩) Uw (fun{w ρ h Q E} I p=>aho (hb.r I (p.mono fun u s q=>by obtain⟨w1,h1,v,rfl,y,I1,r,p1⟩:=q;exact I1.store (X:=X.tried) hj hx r fun w' y' I'=>p1.2 w' (K8.trans y y') I')) Vs) hs hi hn hg hm Vi hf Qt
def zfL{g:Gx}{fb:Sx}(ha:RE X iter fa)(hg:RG X tg g)(hb:Tw X body fb)(hp:∀E,X.Ep E->PassesOwn X.M X.A X.env E:=by exact fun _ h=>h)(hc:X.calm=true:=by rfl)(hs:∀x,foldedSetIterable iter X.env x=pure x:=by intro _;rfl):RS X (.For tg iter body [] pos) (um fa g fb):=Db hp hc ha hg hb hs
end
noncomputable def xx:Y2->Option (List String)
 |[]=>some []
 |.ty c::r=>match xx r with
  |some l=>some (c::l)
  |none=>none
 |_::_=>none
def jF(ps:Y2)(h:Y3):Res PV:=match ps with
 |[p,.tup ts]=>match xx ts with
  |some cs=>if cs.all qm.contains=true then match pC h p with
    |some t=>.ok (.bl (cs.any (nV t))) h
    |none=>.bad
   else .bad
  |none=>.bad
 |_=>.bad
noncomputable def IA:Ex:=fun _ _=>.bad
section
variable{w:Wo}
theorem rD(K:W.Frag){t:String}(ht:t∈ ["NoneType","bool","int","str","tuple","dict","list"]):∀{cs:List String},cs.all qm.contains=true->W.kitAny K (.type t) (cs.map Value.type)=some (cs.any (nV t))
 |[],_=>rfl
 |c::r,h=>by
  rw[ae2,adI]at h;rw[adE,W.kitAny,rC K ht h.1,ae1]
  cases nV t c with
  |true=>rfl
  |false=>exact rD K ht h.2
theorem qX{G:SC}{F:Fz}{m:Zs}:∀{ps:Y2}{cs:List String}{us:Z3},xx ps=some cs->ay G F m ps us->us=cs.map Value.type
 |[],_,_,e,.nil=>by cases e;rfl
 |p::r,cs,_,e,.cons r1 r2=>by
  cases r1 with
  |ty c=>
   unfold xx at e
   split at e
   .rename_i l z
    cases e
    rw[qX z r2];rfl
   .cases e
  |_=>cases e
def DM:Uk X (.builtin "isinstance") jF:=fun ok {w h p u Q E} I rs k=>by
 unfold jF at k
 split at k
 .rename_i p ts;obtain⟨u,v,rfl,r,r2⟩:=rs.two
  split at k
  .rename_i cs ec
   split at k
   .rename_i hc
    split at k
    .rename_i t e
     obtain⟨a2,n2,rfl,g⟩:∃a n,v=.ref a/\w.s.heap.get? a=some { cls:=.type "tuple",data:=.seq (cs.map Value.type).toArray n }:=by
      cases r2 with
      |@tup _ a j6 n e z r=>
       obtain rfl:j6=(cs.map Value.type).toArray:=by rw[<- qX ec r]
       exact⟨a,n,rfl,I.toHR.at e⟩
     show Wp X (call (.builtin "isinstance") [u,.ref a2]) Q E w.s;have fin:∀tk,Q (.bool (cs.any (nV t))) { w.s with toks:=tk }:=fun tk=>k.now I.toHR (.bl _);have hh:=fun(tt:String) ht=>rD X.K (t:=tt) ht hc;have KI:=I.Qs ok;unfold pC at e
     split at e
     .cases e;obtain rfl:=r.vn;exact afZ W.kitx_none KI True.intro g (hh _ (by simp)) (fun z=>nomatch z) fin
     .cases e;obtain rfl:=r.vb;exact afZ W.kitx_bool KI True.intro g (hh _ (by simp)) (fun z=>nomatch z) fin
     .cases e;obtain⟨_,rfl⟩:=r.vi;exact afZ W.kitx_int KI True.intro g (hh _ (by simp)) (fun z=>nomatch z) fin
     .cases e;obtain⟨_,rfl⟩:=r.vs;exact afZ W.kitx_str KI True.intro g (hh _ (by simp)) (fun z=>nomatch z) fin
     .cases e
      replace r:=I.sq r rfl
      obtain⟨a,j6,rfl,⟨n,y⟩,z,r⟩:=r;exact afZ W.kitx_tuple KI ⟨_,y,rfl⟩ g (hh _ (by simp)) (fun z=>nomatch z) fin
     .split at e
      .cases e
       obtain⟨a,kvs,rfl,_,⟨o,es,ep,h1,h2,_⟩,_⟩:=I.dc r ‹_›;exact afZ W.kitx_dict KI ⟨o,h1,h2.1⟩ g (hh _ (by simp)) (fun z=>nomatch z) fin
      .split at e<;>cases e
       replace r:=I.sq r (iB ‹_›)
       obtain⟨a,j6,rfl,⟨n,y⟩,z,r⟩:=r;exact afZ W.kitx_list KI ⟨_,y,rfl⟩ g (hh _ (by simp)) (fun z=>nomatch z) fin
    .exact k.elim
   .exact k.elim
  .exact k.elim
 .exact k.elim
def Hb{e:Expr}:RE X e IA:=⟨fun _ p=>p.elim⟩
end
noncomputable def wj(p y:PV)(h:Y3):Res PV:=match p,y with
 |.str l,.int 2=>if((Builtin.Str.strSliceIndices none none 2 l.length).filterMap (l[·]?)).length<=sizeLine then .ok (.str ((Builtin.Str.strSliceIndices none none 2 l.length).filterMap (l[·]?))) h else .bad
 |_,_=>.bad
def Dl{a st:Expr}{fs:Ex}{p2:Pos}(ha:RE X a fa)(hs:RE X st fs):RE X (.Subscript a (.Slice none none (some st) p2) pos) (c2 wj fa fs):=⟨fun I k=>ahY (ha.r I (k.bind fun _ _ p u y r k=>wpAny_Slice (by
 rw[aha];refine adB (adB ?_);rw[evalPart_some]
 exact hs.r (I.on y) (k.bind fun w h q v y2 r2 k=>by
  cases r with
  |str x t1=>
   cases r2 with
   |int i t=>
    unfold wj at k
    split at k
    .rename_i e1 e2
     cases e1;cases e2
     split at k
     .rename_i hz;have n:=Nw.also (X:=X) (s':={ w.s with heap:=w.s.heap.push { cls:=.type "slice",data:=.fields #[.none,.none,.int 2 t] } }) y2.2 fun b o e=>ady _ e;have I4:=((I.on y).on y2).on n;refine tail_any (ops:=[.str (S _) t1,.ref w.s.heap.objs.size]) (af2 _ _ _) F.slot_str_getitem.lookup ?_ (by with_unfolding_all rfl);have k4:=k.step n;refine aeC (l:=none) (u:=none) (st:=some (2,t)) (ahl ..) rfl ?_
      have e:sliceMade (S x) t1 none none (some (2,t))=.str (S ((Builtin.Str.strSliceIndices none none 2 x.length).filterMap (x[·]?))):=by unfold sliceMade slicePicked;rw[if_neg (by simp),fN];unfold S;simp
      rw[e];refine⟨?_,k4.now I4.toHR (.str _ _)⟩;rw[fN];exact hz
     .exact k.elim
    .exact k.elim
   |_=>exact k.elim
  |_=>exact k.elim))))⟩
noncomputable def lX(f:PV->PV->Bool):Y2->Y2->Bool
 |[],[]=>true
 |x::r,y::t=>f x y&&lX f r t
 |_,_=>false
def fy:Nat->PV->PV->Bool
 |0,_,_=>false
 |n+1,p,q=>match p,q with
  |.non,.non=>true
  |.bl a,.bl b=>a==b
  |.int a,.int b=>a==b
  |.str a,.str b=>a==b
  |.tup xs,.tup ys=>lX (fy n) xs ys
  |.lst xs,.lst ys=>lX (fy n) xs ys
  |.dct a,.dct b=>decide (a.map (·.1)=b.map (·.1))&&((a.all fun x=>x.1.isRight)&&lX (fy n) (a.map (·.2)) (b.map (·.2)))
  |_,_=>false
def xG(b:Bool)(p q:PV)(h:Y3):Res PV:=match p,q with
 |.dct _,.dct _=>if fy 60 p q=true then .ok (.bl b) h else .bad
 |_,_=>.bad
abbrev DG:=xG true
abbrev Js:=xG false
section
variable{w0:World}{s:Shared}{es:Array DictEntry}{d:Addr}{ep:Nat}
def wO{t:Tok}{ZR:Int}{Q:Option Nat->Shared->Prop}(ho:s.heap.get? d=some o)(hd:o.data=.dict es ep)(hk:∀e∈es,∃y u,e.key=.str y u)(hj:es.findIdx? (·.key.isStr x)=some j)(h:Q (some j) s):wpAny (model prog w0) A (dictFind d (.str x t) ZR) Q E s:=by
 obtain⟨l,q,_⟩:=afl.mp hj
 obtain⟨u,e⟩:∃u,es[j].key=.str x u:=by obtain⟨y,u,e⟩:=hk es[j] (ahB l);rw[e]at q;exact⟨u,by rw[e];congr 1;exact afe q⟩
 unfold dictFind;refine aeA (adq (ae6 ho hd ?_));dsimp only
 rw[if_pos (by refine Array.all_eq_true.mpr fun i hi=>?_;obtain⟨y,u,e⟩:=hk es[i] (ahB hi);rw[e];rfl)]
 unfold foundByValue;rw[hj];dsimp only;rw[aeL l];dsimp only;refine adq (afI ho hd (adq ?_));rw[e];refine wpAny_eqBool_str (adq (afI ho hd ?_));rw[if_neg (by simp),decide_eq_true rfl];exact adq (ahV (adB h))
def vS{nm:String}{b:Addr}{oa ob:Obj}{T8:Array DictEntry}{YG:Nat}{Q:Bool->Shared->Prop}(na:(a==sysModules)=false)(nb:(b==sysModules)=false)(ha:s.heap.get? a=some oa)(hb:s.heap.get? b=some ob)(da:oa.data=.dict es ep)(db:ob.data=.dict T8 YG)(kb:∀e∈T8,∃y u,e.key=.str y u)(hz:es.size=T8.size)
  (al:∀i (hi:i<es.size),∃x t j f,es[i].key=.str x t/\T8.findIdx? (·.key.isStr x)=some j/\T8[j]? =some f/\SeqAt.EqAt A s es[i].val f.val true) (h:Q true s):wpAny (model prog w0) A (Builtin.Dict.samePairs nm a b) Q E s:=by
 have sh:∀{c:Addr}{G:Unit->Shared->Prop},(c==sysModules)=false->G () s->wpAny (model prog w0) A (Builtin.Dict.showsAll c) G E s:=fun n q=>by unfold Builtin.Dict.showsAll;rw[if_neg (by rw[n];decide)];exact adB q
 unfold Builtin.Dict.samePairs;refine adq (sh na (adq (sh nb (adq (ae6 ha da (adq (ae6 hb db ?_)))))));rw[if_neg (by simp[hz])];refine adq (afI ha da (adq ?_));rw[Std.Legacy.Range.forIn_eq_forIn_range'];refine wpAny_forIn_list _ (fun l q s'=>s'=s/\q=(none,())/\∀i∈l,i<es.size) _ ?turn ?last _ _ ⟨rfl,rfl,fun i hi=>by simp[Std.Legacy.Range.size]at hi;lia⟩
 case last=>rintro q s' ⟨rfl,rfl,_⟩;exact adB h
 case turn=>
  rintro i l q s' ⟨rfl,rfl,hl⟩
  have hi:=hl i (by simp);obtain⟨x,t,j,f,e1,e2,e3,e4⟩:=al i hi;refine adq (ae6 ha da ?_);rw[aeL hi];refine adq (aeA (adq ?_));rw[e1];refine wO hb db kb e2 (adq (ae6 hb db ?_));rw[e3];refine aeA (e4 _ _ _ _ ?_);dsimp only;rw[if_neg ⋯];refine adq (afI ha da ?_);rw[if_neg (by simp)];exact adB ⟨rfl,rfl,fun i hi=>hl i (by simp[hi])⟩
end
section
variable{w:Wo}
theorem mR{A:Around}{f:PV->PV->Bool}(hf:∀p q u v,f p q=true->aP X.toSC w.F w.m p u->aP X.toSC w.F w.m q v->SeqAt.EqAt A w.s u v true):∀{ps qs:Y2}{us vs:Z3},lX f ps qs=true->ay X.toSC w.F w.m ps us->ay X.toSC w.F w.m qs vs->us.length=vs.length/\∀(j:Nat)(u v:Value),us[j]? =some u->vs[j]? =some v->SeqAt.EqAt A w.s u v true
 |[],[],_,_,_,.nil,.nil=>⟨rfl,fun j u v e _=>by simp at e⟩
 |p::ps,q::qs,_,_,k,.cons r t,.cons r' t'=>by
  unfold lX at k;rw[adI]at k;obtain⟨a,b⟩:=mR hf k.2 t t';refine⟨by simp[a],fun j u v e e'=>?_⟩
  cases j with
  |zero=>cases e;cases e';exact hf _ _ _ _ k.1 r r'
  |succ j=>exact b j u v e e'
 |[],_::_,_,_,k,_,_=>by cases k
 |_::_,[],_,_,k,_,_=>by cases k
def qB{es:Array DictEntry}(hp:Pairs (pk G.prog G.w) es.toList kvs)(hr:∀x∈kvs,x.1.isRight=true):es.size=kvs.length/\∀i (hi:i<es.size),∃x t v,kvs[i]? =some (.inr x,v)/\es[i].key=.str (S x) t/\es[i].val=v:=by
 have l:es.size=kvs.length:=by rw[<- hp.length];simp
 refine⟨l,fun i hi=>?_⟩;obtain⟨⟨k,v⟩,e⟩:∃z,kvs[i]? =some z:=⟨_,adx ⋯⟩
 obtain⟨a,b⟩:=hp.get? (i:=i) (e:=es[i]) (k:=k) (v:=v) (by rw[agO];exact aeL hi) e;have r:=hr _ (adF e);rcases eH a with⟨_,_,rfl,_⟩|⟨x,t,rfl,q⟩
 .cases r
 .exact⟨x,t,v,e,q,b⟩
def zM{es:Array DictEntry}(hp:Pairs (pk G.prog G.w) es.toList kvs)(hr:∀x∈kvs,x.1.isRight=true)(nd:(kvs.map (·.1)).Nodup){x:Y1}(e:kvs[i]? =some (.inr x,v)):es.findIdx? (·.key.isStr (S x))=some i:=by
 obtain⟨l,at_⟩:=qB hp hr;have hi:i<es.size:=by have:=(adv.mp e).1;lia
 refine afl.mpr ⟨hi,?_,fun j hj=>?_⟩
 .obtain⟨y,t,v',e1,e2,_⟩:=at_ i hi;rw[e]at e1;cases e1;rw[e2];exact beq_self_eq_true _
 .obtain⟨y,t,v',e1,e2,_⟩:=at_ j ⋯;rw[e2];intro z;have z:S y=S x:=afe z;have hj':j<(kvs.map (·.1)).length:=by simp;lia
  have Wc:i<(kvs.map (·.1)).length:=by simp;lia
  have:=(aeH nd (h₀:=hj') (h₁:=Wc)).mp (by
   have q1:(kvs.map (·.1))[j]? =some (Sum.inr y):=by simp[e1]
   have q2:(kvs.map (·.1))[i]? =some (Sum.inr x):=by simp[e]
   rw[adx hj']at q1;rw[adx Wc]at q2;rw[aed q1,aed q2,yC z])
  lia
def vT{nm:String}{l':Addr}{o':Obj}{ka kb:List (PK×Value)}(e:w.s.heap.get? l=some o)(e':w.s.heap.get? l'=some o')(d:DO X.toSC o ka)(d':DO X.toSC o' kb)(sm:(l==sysModules)=false)(Wr:(l'==sysModules)=false)(ek:ka.map (·.1)=kb.map (·.1))(hr:∀x∈ka,x.1.isRight=true)(q:∀(j:Nat)(u v:Value),(ka.map (·.2))[j]? =some u->(kb.map (·.2))[j]? =some v->SeqAt.EqAt A w.s u v true)(prog:Program)(w0:World)(E:Yf)(Q:Bool->Shared->Prop)(h:Q true w.s):wpAny (model prog w0) A (Builtin.Dict.samePairs nm l l') Q E w.s:=by
 obtain⟨_,es,ep,da,_,pa,_⟩:=d;obtain⟨_,T8,YG,db,_,pb,nb⟩:=d';have len:ka.length=kb.length:=by simpa using congrArg List.length ek
 have hr':∀x∈kb,x.1.isRight=true:=fun x hx=>by
  have:x.1∈ka.map (·.1):=by rw[ek];exact adT.mpr ⟨x,hx,rfl⟩
  obtain⟨y,hy,ey⟩:=adT.mp this;rw[<- ey];exact hr y hy
 obtain⟨l1,Yk⟩:=qB pa hr;obtain⟨l2,at2⟩:=qB pb hr';refine vS sm Wr e e' da db (fun z hz=>?_) ⋯ (fun i hi=>?_) h
 .obtain⟨i,hi,rfl⟩:=Array.mem_iff_getElem.mp hz;obtain⟨x,t,_,_,k,_⟩:=at2 i hi;exact⟨_,_,k⟩
 .obtain⟨x,t,v,a1,a2,a3⟩:=Yk i hi;obtain⟨x',t',v',b1,b2,b3⟩:=at2 i ⋯
  have ex:(Sum.inr x:PK)=.inr x':=by have:=congrArg (·[i]?) ek;simp only[adZ,a1,b1,ahP]at this;exact aed this
  cases ex
  refine⟨_,t,i,T8[i],a2,zM pb hr' nb b1,aeL ⋯,?_⟩;rw[a3,b3];exact q i v v' (by simp[a1]) (by simp[b1])
def vk(b:Bool)(H:HR X.toSC w h)(ih:∀(p q:PV)(u v:Value)(A:Around),fy n p q=true->aP X.toSC w.F w.m p u->aP X.toSC w.F w.m q v->A.units+n<cLine->SeqAt.EqAt A w.s u v true){x y:List (PK×PV)}{l':Addr}{o':Obj}{ka kb:List (PK×Value)}(k:fy (n+1) (.dct x) (.dct y)=true)
  (e:w.F l=some o) (d:DO X.toSC o ka) (sm:(l==sysModules)=false) (kk:ka.map (·.1)=x.map (·.1)) (rr:ay X.toSC w.F w.m (x.map (·.2)) (ka.map (·.2))) (e':w.F l'=some o') (d':DO X.toSC o' kb) (Wr:(l'==sysModules)=false) (XH:kb.map (·.1)=y.map (·.1)) (Vj:ay X.toSC w.F w.m (y.map (·.2)) (kb.map (·.2))) (hu:A.units+(n+1)<cLine) (prog:Program) (w0:World) (E:Yf) (Q:Yf) (hq:Q (.bool b) w.s):wpAny (model prog w0) A (richCompare (bif b then .Eq else .NotEq) (.ref l) (.ref l')) Q E w.s:=by
 unfold fy at k;simp only[adI,decide_eq_true_eq]at k;obtain⟨k1,k2,k3⟩:=k;obtain⟨e1,e2⟩:=mR (A:=A.in1) (fun p q u v c r r'=>ih p q u v A.in1 c r r' (by show A.units+1+n<cLine;lia)) k3 rr Vj
 have hr:∀z∈ka,z.1.isRight=true:=fun z hz=>by
  have:z.1∈x.map (·.1):=by rw[<- kk];exact adT.mpr ⟨z,hz,rfl⟩
  obtain⟨c,hc,ec⟩:=adT.mp this;rw[<- ec];exact adX.mp k2 c hc
 have go:=fun nm=>vT (nm:=nm) (A:=A.in1) (H.at e) (H.at e') d d' sm Wr (kk.trans (k1.trans XH.symm)) hr e2 prog w0;have t1:w.s.TypeIs (.ref l) "dict":=⟨o,H.at e,d.1.1⟩
 have t2:w.s.TypeIs (.ref l') "dict":=⟨o',H.at e',d'.1.1⟩
 cases b
 .refine afU (op:=.NotEq) t1 t2 agS (afd agS t1 PySem.F.entry_dict_ne ?_ (PySem.F.args_dict_ne_2 _ _)) ⋯;refine adq (adq (afu t1 (adB (adq (wpAny_isInstance (T:="dict") t2 agH ?_)))));rw[if_neg ⋯];refine adq (adB (adq (adB (adq (go _ _ _ (adB ⟨_,rfl,(fun x=>nomatch x),hq⟩))))))
 .refine afU (op:=.Eq) t1 t2 afa (afd afa t1 agJ ?_ (agx _ _)) ⋯;refine adq (adq (afu t1 (adB (adq (wpAny_isInstance (T:="dict") t2 agH ?_)))));rw[if_neg ⋯];refine adq (adB (adq (adB (adq (go _ _ _ (adB ⟨_,rfl,(fun x=>nomatch x),hq⟩))))))
theorem sI(H:HR X.toSC w h):∀(n:Nat)(p q:PV)(u v:Value)(A:Around),fy n p q=true->aP X.toSC w.F w.m p u->aP X.toSC w.F w.m q v->A.units+n<cLine->SeqAt.EqAt A w.s u v true
 |0,_,_,_,_,_,k,_,_,_=>by cases k
 |n+1,p,q,u,v,A,k,r,r',hu=>by
  have lists:∀{l l':Addr}{j6 OJ:Array Value}{xs ys:Y2}{t:String}{c c':Nat},(t="tuple"\/t="list")->w.F l=some { cls:=.type t,data:=.seq j6 c }->w.F l'=some { cls:=.type t,data:=.seq OJ c' }->ay X.toSC w.F w.m xs j6.toList->ay X.toSC w.F w.m ys OJ.toList->lX (fy n) xs ys=true->SeqAt.EqAt A w.s (.ref l) (.ref l') true:=fun{l l' j6 OJ xs ys t c c'} ht e e' rr Vj k=>by
   obtain⟨e1,e2⟩:=mR (A:=A.in1) (fun p q u v c r r'=>sI H n p q u v A.in1 c r r' (by show A.units+1+n<cLine;lia)) k rr Vj;have e1:j6.size=OJ.size:=by simpa using e1
   by_cases z:l=l'
   .subst z;exact afK _
   .refine ahi z ?_;have he:∀j (h1:j<j6.size) (h2:j<OJ.size),SeqAt.EqAt A.in1 w.s j6[j] OJ[j] true:=fun j h1 h2=>e2 j _ _ (by simp[h1]) (by simp[h2]);rcases ht with rfl|rfl
    .have:=SeqAt.RcAt.tuples (A:=A) (s:=w.s) (e:=fun _=>true) ⟨_,H.at e,rfl,_,rfl⟩ ⟨_,H.at e',rfl,_,rfl⟩ ⋯ he;have e2:((List.range (min j6.size OJ.size)).all fun _=>true)=true:=by simp
     rw[e2,e1,beq_self_eq_true]at this;exact this
    .have:=SeqAt.RcAt.lists (A:=A) (s:=w.s) (e:=fun _=>true) ⟨_,H.at e,rfl,_,rfl⟩ ⟨_,H.at e',rfl,_,rfl⟩ e1 ⋯ he;have e2:((List.range j6.size).all fun _=>true)=true:=by simp
     rw[e2]at this;exact this
  have k0:=k;unfold fy at k
  split at k
  .obtain rfl:=r.vn;obtain rfl:=r'.vn;exact afK _
  .obtain rfl:=r.vb;obtain rfl:=r'.vb;obtain rfl:=afe k;exact afK _
  .obtain⟨t,rfl⟩:=r.vi;obtain⟨t',rfl⟩:=r'.vi;obtain rfl:=afe k;have z:=SeqAt.EqAt.int_int (A:=A) (s:=w.s) ‹Int› t ‹Int› t';rw[beq_self_eq_true]at z;exact z
  .obtain⟨t,rfl⟩:=r.vs;obtain⟨t',rfl⟩:=r'.vs;obtain rfl:=afe k;have z:=SeqAt.EqAt.str_str (A:=A) (s:=w.s) (S ‹Y1›) t (S ‹Y1›) t';rw[beq_self_eq_true]at z;exact z
  .cases r with
   |tup e _ rr=>cases r' with
    |tup e' _ Vj=>exact lists (.inl rfl) e e' rr Vj k
  .cases r with
   |lst e _ rr=>cases r' with
    |lst e' _ Vj=>exact lists (.inr rfl) e e' rr Vj k
  .cases r with
   |@dct _ l o ka e d sm z kk rr=>cases r' with
    |@dct _ l' o' kb e' d' Wr z' XH Vj=>
     by_cases z:l=l'
     .subst z;exact afK _
     .exact ahi z fun prog w' E Q hq=>vk true H (sI H n) k0 e d sm kk rr e' d' Wr XH Vj ⋯ prog w' E Q hq
  .cases k
def Bc{op:CmpOp}(b:Bool)(hu:X.A.units+64<cLine)(ho:compareOp op=richCompare (bif b then .Eq else .NotEq)):R3 X (compareOp op) (xG b):=fun{w h p q u v Q E} I rp rq k=>by
 unfold xG at k
 split at k
 .split at k
  .rename_i c
   cases rp with
   |dct e d sm z kk rr=>cases rq with
    |dct e' d' Wr z' XH Vj=>rw[ho];exact vk b I.toHR (fun p q u v A=>sI I.toHR 59 p q u v A) c e d sm kk rr e' d' Wr XH Vj ⋯ _ _ _ _ (k.here I.toHR (.bl _))
  .exact k.elim
 .exact k.elim
end
noncomputable def isB(k:Bool):Value->Bool
 |.bool b=>b==k
 |_=>false
end Z
noncomputable section
namespace T6
open PySem PySem.Spec PyProof.Rows Z
variable{us:Z3}
def top(i:Nat):Stmt:=PySem.Challenge.pw_formsmith_k13_flat_forms_filled.main.body.getD i (.Pass ⟨0,0,0,0⟩)
noncomputable def cu:Y1:=[48,49,50,51,52,53,54,55,56,57,65,66,67,68,69,70,71,72,73,74,75,76,77,78,79,80,81,82,83,84,85,86,87,88,89,90,97,98,99,100,101,102,103,104,105,106,107,108,109,110,111,112,113,114,115,116,117,118,119,120,121,122]
noncomputable def bE:Y1:=[97,98,99,100,101,102,103,104,105,106,107,108,109,110,111,112,113,114,115,116,117,118,119,120,121,122,65,66,67,68,69,70,71,72,73,74,75,76,77,78,79,80,81,82,83,84,85,86,87,88,89,90,48,49,50,51,52,53,54,55,56,57]
noncomputable def cj:Y1:=[97,98,99,100,101,102,103,104,105,106,107,108,109,110,111,112,113,114,115,116,117,118,119,120,121,122]
noncomputable def fC:Y1:=[10,32,33,34,35,36,38,39,40,41,42,43,44,45,46,47,48,49,50,51,52,53,54,55,56,57,58,59,60,61,62,63,64,65,66,67,68,69,70,71,72,73,74,75,76,77,78,79,80,81,82,83,84,85,86,87,88,89,90,91,92,93,94,95,96]
noncomputable def fB:Y1:=[97,98,99,100,101,102,103,104,105,106,107,108,109,110,111,112,113,114,115,116,117,118,119,120,121,122,123,124,125,126]
noncomputable def br:Y1:=[10,32,33,34,35,36,38,39,40,41,42,43,44,45,46,47,48,49,50,51,52,53,54,55,56,57,58,59,60,61,62,63,64,65,66,67,68,69,70,71,72,73,74,75,76,77,78,79,80,81,82,83,84,85,86,87,88,89,90,91,92,93,94,95,96,97,98,99,100,101,102,103,104,105,106,107,108,109,110,111,112,113,114,115,116,117,118,119,120,121,122,123,124,125,126]
set_option genSizeOf false in
inductive Fn where
 |law|J4|K4|G8|Rr|Qq|O1|filled|O2|N_|v5|spelt|Rt|N8|t_|Rq|v8|C_|Rp|Pa|E_|M9|Pb|PB|u9|j_|G7|j7|i_|N7|H9|QF|Qp|I_|Px|R0|QG|s7|G3|g_|J0|w6|g8|O6|Tv|d8|G6|u6|v7|D_|H7|n_|j5|j8|J1|p8|n8|m_|p7|q8|k_|found|J9|K9|K7|escaped
abbrev CC:=Fn->Y2->Z.Out
abbrev DD:=Fn->Y2->Y3->Res PV
def mQ:Fn->Stmt
 |.law=>top 81
 |.J4=>top 53
 |.K4=>top 78
 |.G8=>top 73
 |.Rr=>top 80
 |.Qq=>top 66
 |.O1=>top 71
 |.filled=>top 47
 |.O2=>top 75
 |.N_=>top 72
 |.v5=>top 46
 |.spelt=>top 50
 |.Rt=>top 76
 |.N8=>top 77
 |.t_=>top 79
 |.Rq=>top 56
 |.v8=>top 65
 |.C_=>top 54
 |.Rp=>top 59
 |.Pa=>top 60
 |.E_=>top 55
 |.M9=>top 69
 |.Pb=>top 70
 |.PB=>top 68
 |.u9=>top 48
 |.j_=>bQ (top 40) 0
 |.G7=>top 41
 |.j7=>bQ (top 40) 8
 |.i_=>bQ (top 40) 9
 |.N7=>top 51
 |.H9=>top 74
 |.QF=>top 57
 |.Qp=>top 62
 |.I_=>top 64
 |.Px=>top 63
 |.R0=>top 58
 |.QG=>top 67
 |.s7=>bQ (top 40) 1
 |.G3=>bQ (top 40) 5
 |.g_=>bQ (top 40) 7
 |.J0=>top 43
 |.w6=>top 49
 |.g8=>bQ (top 26) 0
 |.O6=>top 32
 |.Tv=>top 61
 |.d8=>bQ (top 40) 4
 |.G6=>bQ (top 27) 0
 |.u6=>bQ (top 28) 0
 |.v7=>bQ (top 29) 0
 |.D_=>bQ (top 30) 0
 |.H7=>bQ (top 31) 0
 |.n_=>bQ (top 39) 0
 |.j5=>bQ (top 40) 6
 |.j8=>bQ (top 40) 3
 |.J1=>top 44
 |.p8=>bQ (top 27) 1
 |.n8=>bQ (top 28) 1
 |.m_=>bQ (top 29) 1
 |.p7=>bQ (top 30) 1
 |.q8=>bQ (top 31) 1
 |.k_=>bQ (top 40) 2
 |.found=>top 12
 |.J9=>top 7
 |.K9=>top 8
 |.K7=>top 11
 |.escaped=>top 35
def sS:Fn->Zl
 |.H9=> ["_law_way_here","_law_value_here","_law_some","_law_good","_law_told","_law_found_here","_law_sign","_law_at"]
 |f=>((aR (mQ f)).names.filter fun x=>match x.2 with|.local|.cell=>true|_=>false).map (·.1)
def lH(f:Fn):Str:=match mQ f with|.FunctionDef n _ _ _ _ _ _ _ _ _=>n|_=>""
def wc:Fn->Str
 |.j_=>"Pen.__init__"
 |.j7=>"Pen.outcome_written"
 |.i_=>"Pen.outcome_refused"
 |.s7=>"Pen.write"
 |.G3=>"Pen.put"
 |.g_=>"Pen.truth_wanted"
 |.g8=>"Way.coded"
 |.d8=>"Pen.thing_wanted"
 |.G6=>"Word.fits"
 |.u6=>"Number.fits"
 |.v7=>"Quoted.fits"
 |.D_=>"Plain.fits"
 |.H7=>"Line.fits"
 |.n_=>"Refused.__init__"
 |.j5=>"Pen.list_wanted"
 |.j8=>"Pen.begin_round"
 |.p8=>"Word.spelling"
 |.n8=>"Number.spelling"
 |.m_=>"Quoted.spelling"
 |.p7=>"Plain.spelling"
 |.q8=>"Line.spelling"
 |.k_=>"Pen.count_one"
 |f=>lH f
def zD:Fn->Bool
 |.j_|.j7|.i_|.s7|.G3|.g_|.g8|.d8|.G6|.u6|.v7|.D_|.H7|.n_|.j5|.j8|.p8|.n8|.m_|.p7|.q8|.k_=>false
 |_=>true
set_option genSizeOf false in
inductive Nt where
 |abs|all|bool|dict|enumerate|int|isinstance|len|list|max|min|range|str|tuple
def Hh:Nt->Str
 |.abs=>"abs"
 |.all=>"all"
 |.bool=>"bool"
 |.dict=>"dict"
 |.enumerate=>"enumerate"
 |.int=>"int"
 |.isinstance=>"isinstance"
 |.len=>"len"
 |.list=>"list"
 |.max=>"max"
 |.min=>"min"
 |.range=>"range"
 |.str=>"str"
 |.tuple=>"tuple"
def lF(f:Fn):Zl:=(oV (mQ f)).args.map (·.arg)
abbrev aac:=cK (.str [116,101,120,116])
abbrev aad:=cK (.int 1)
abbrev aae:=cK (.int 0)
abbrev aaf:=cK (.int 2)
abbrev aag:=aa (af 1) ai
abbrev aah:=cK (.str [119,111,114,100])
abbrev aa0:=cK (.str [119,114,105,116,116,101,110])
abbrev abW:=c2 f9 (af 7) aac
abbrev aa7:=cK (.str [102,105,108,108,101,100])
abbrev abF:=aa (af 8) ai
abbrev aaj:=cN bn (aa (cN aM (aa aa0 (aa abW ai))) (aa (cN aM (aa aa7 abF)) ai))
abbrev aaT:=cK (.str [116])
abbrev abg:=cK (.bl true)
abbrev aaS:=cK (.str [120])
abbrev abn:=cN bn ai
abbrev aak:=aa (eQ [(aaT,abg)]) (aa (eQ [(aaT,abg),(aaS,abn)]) (aa (eQ [(aaT,aad),(aaS,(af 2))]) ai))
abbrev aal:=cK (.int 3)
abbrev aao:=cK (.str [])
abbrev aaH:=cK (.int 7)
abbrev abY:=c2 aZ (af 6) aaH
abbrev aaL:=cK (.int 4)
abbrev aam:=aa (c2 f9 (cN bn (aa aao (aa (c2 aG (af 13) (cK (.str [44,32]))) (aa (c2 aG (af 15) (af 13)) (aa (af 15) ai))))) (c2 aO abY aaL)) ai
abbrev aaq:=cK (.int 5)
abbrev abw:=cK (.str [116,119,110])
abbrev aa4:=cK (.str [98])
abbrev aaW:=c2 f9 (af 1) aae
abbrev abV:=cK (.int 24)
abbrev aar:=c2 f9 (cN bn (aa aao (aa abw (aa abw (aa (cK (.str [108,109])) (aa (cK (.str [108,109])) (aa aa4 (aa aa4 ai)))))))) (c2 aO (af 6) (c2 f9 (cN bn (aa aaH (aa aal ai))) (cN jd (aa (YQ (c2 U8 (af 3) aad) (c2 Tp aaW abV)) ai))))
abbrev aas:=cK (.str [108,111,111,112])
abbrev aaD:=cK .non
abbrev aa1:=cK (.str [114,101,102,117,115,101,100])
abbrev aat:=G4 (aH (c2 U9 (af 8) aaD)) (aA 9 (cN bn (aa (cN aM (aa aa1 (aa (c2 f9 (af 7) aah) (aa abW ai)))) (aa (cN aM (aa aa1 (aa (c2 f9 (af 7) aah) ai))) ai)))) bv
abbrev aaN:=cK (.str [112,108,97,99,101])
abbrev aav:=cK (.str [112,108,97,105,110])
abbrev aaR:=cK (.str [110,117,109,98,101,114])
abbrev acK:=c2 aO (c2 aZ (af 0) aaq) aal
abbrev aau:=cN aM (aa aaN (aa (cN aM (aa aa4 (aa aaS ai))) (aa (c2 f9 (cN bn (aa aah (aa aav (aa aaR ai)))) acK) ai)))
abbrev aaw:=cK (.str [109,97,110,121])
abbrev abJ:=cK (.str [97])
abbrev abE:=cK (.str [102])
abbrev aax:=cN aM (aa aas (aa aa4 (aa (cN aM (aa abJ (aa abE ai))) (aa (cN aM aag) (aa (c2 f9 (cN bn (aa aao (aa (cK (.str [44,32])) ai))) (c2 aO (c2 aZ (af 0) (cK (.int 15))) aaf)) ai)))))
abbrev acH:=cK (.str [99])
abbrev acd:=aa (af 12) ai
abbrev aay:=aN (cN aM (aa (cN aM (aa (cN aM (aa aas (aa abJ (aa (cN aM (aa acH ai)) (aa (cN aM acd) (aa (cK (.str [10])) ai)))))) ai)) (aa (gF [(acH,(af 6))]) ai)))
abbrev abq:=cK (.int 12)
abbrev aaU:=c2 aZ (af 6) abq
abbrev abU:=cK (.int 94)
abbrev aaB:=cK (.int 95)
abbrev aaz:=c2 aO (c2 aG (c2 aG aaU aad) (c2 aO (af 14) abU)) aaB
abbrev aaA:=cK (.str [99,104,111,105,99,101])
abbrev aaC:=aa (af 3) ai
abbrev abL:=cK (.int 6)
abbrev aaE:=aa (af 1) (aa (af 2) (aa (af 6) (aa (c2 z_ (c2 aO (c2 aZ (af 3) abL) aaf) aad) ai)))
abbrev aaF:=G4 (bF (af 9)) (aA 12 (c2 aG (cN bn (aa (cN aM (aa aac (aa (af 13) ai))) ai)) (af 12))) bv
abbrev aaG:=c2 aG (c2 aG (cK (.int 1990)) (c2 aO (c2 aZ (af 0) (cK (.int 60))) abq)) (c2 gX (cK (.int 1000)) (cN jd (aa (c2 z_ (c2 aO (c2 aZ (af 0) (cK (.int 720))) aal) aae) ai)))
abbrev aaI:=cK (.str [113,117,111,116,101,100])
abbrev aaJ:=aa (af 2) ai
abbrev aaK:=cN aM (aa (cN aM (aa aac (aa abJ ai))) ai)
abbrev aaM:=cK (.str [108,105,110,101])
abbrev aaO:=aa (af 0) ai
abbrev aaP:=aa (af 0) aag
abbrev aaQ:=c2 f9 (c2 aG (af 8) (cN bn (aa (cN aM (aa aaD (aa aao ai))) ai))) (c2 aO abY (cN AU (aa aad (aa (cN gB abF) ai))))
abbrev aaV:=cN eJ ai
abbrev aaX:=c2 f9 (af 0) aae
abbrev aaY:=c2 aG aad (c2 aO (c2 aZ (af 6) (cK (.int 1140))) abU)
abbrev aaZ:=Ui 2 (bI (z7 4) (bI (z7 5) gK))
abbrev abo:=c2 f9 (af 2) aaf
abbrev aa2:=G4 (ju (eX (bF abo)) (aH (c2 z_ (c2 aO (c2 aZ (af 5) aaq) aaf) aad))) (aN (cN bn abF)) bv
abbrev aa3:=aN (cK (.bl false))
abbrev aa5:=bA (aa aaf ai)
abbrev aa6:=aa (af 0) (aa (af 1) (aa (cN aM (aa (V9 (af 11)) (aa (af 8) (aa (af 9) ai)))) (aa (c2 ng (af 5) aad) ai)))
abbrev ach:=cK (.int 10)
abbrev aa8:=c2 wk ach (cK (.int 30))
abbrev aa9:=G4 (ju (eX (bF (af 9))) (aH (c2 z_ (c2 aO (c2 aZ (af 6) aaq) aaf) aad))) (aN (cN bn (aa (af 16) ai))) bv
abbrev adb:=aa (cK (.str [109])) ai
abbrev aa_:=cN bn (aa (cN aM (aa (cN aM (aa (af 10) (aa (c2 f9 (af 8) aaH) ai))) adb)) ai)
abbrev abb:=cK (.int 40)
abbrev abd:=c2 f9 (af 4) aae
abbrev abe:=c2 f9 (cN bn (aa aaH (aa aaS ai))) (cN jd (aa (c2 U8 acK aaf) ai))
abbrev abh:=aa (af 10) ai
abbrev acD:=cK (.str [119])
abbrev abf:=bS (cM bY aV (af 11) (aa (cN aM (aa (cN aM abh) (aa acD ai))) ai))
abbrev ac8:=cN aM ai
abbrev abj:=aA 1 (cN aM (aa aaA (aa (cN aM (aa aa4 (aa aaT ai))) (aa (cN aM aag) (aa ac8 ai)))))
abbrev abk:=aH (c2 z_ (c2 aO (af 3) (cK (.int 16))) aaq)
abbrev abl:=aa (af 9) (aa (af 10) (aa abo (aa (c2 aZ (af 6) (cK (.int 49))) ai)))
abbrev acO:=cK (.str [109,111,114,101])
abbrev aci:=aa aad ai
abbrev abm:=bS (cM qq ik (af 5) (aa acO (aa (cN bn aci) ai)))
abbrev abp:=xm (gF [(aac,aao),(aaw,aae),(aah,aaD)])
abbrev abr:=aa (c2 Tp (c2 aO (af 3) aal) aae) ai
abbrev abt:=aa (af 5) ai
abbrev abu:=aa (af 4) ai
abbrev abv:=aa (af 4) (aa (af 5) (aa (af 7) ai))
abbrev acu:=c2 aZ (af 1) abb
abbrev abx:=cN jd (aa (c2 z_ (c2 aO acu abL) aad) ai)
abbrev ac1:=cK (.int 400)
abbrev aby:=aa (af 1) (aa ac1 ai)
abbrev abz:=c2 f9 (af 4) aad
abbrev abA:=c2 f9 (af 2) aae
abbrev abB:=c2 f9 (af 0) aaf
abbrev abC:=aa (af 0) (aa (af 1) (aa (af 2) (aa (af 9) (aa (af 10) aaC))))
abbrev abD:=Ui 2 (bI (z7 4) (bI (z7 6) gK))
abbrev abG:=c2 f9 (af 1) (af 0)
abbrev abH:=mS (af 7) (c2 aO (c2 aZ (af 5) (cK (.int 285))) aaf) abn
abbrev abK:=cK (.int 9)
abbrev abM:=cK (.str [108,111,110,103])
abbrev adn:=c1 (pU 600 0) (af 0)
abbrev abN:=aa (cM isStr eK aao (aa adn ai)) ai
abbrev abO:=aa (c2 f9 (af 2) (af 0)) ai
abbrev abP:=cK (.str [116,119,110,98])
abbrev abQ:=bA (aa (c2 aG (cK (.int 36)) (c2 aO (af 0) aaq)) ai)
abbrev abR:=c2 aG aaf (c2 aO (c2 aZ (af 0) (cK (.int 30))) aaf)
abbrev abS:=aN (c2 DG (af 10) (af 5))
abbrev abT:=aa (af 0) (aa (af 1) (aa (af 2) (aa (af 9) aaC)))
abbrev abX:=c2 f9 (af 0) aaL
abbrev abZ:=aa (c2 f9 (af 7) aae) ai
abbrev ab0:=aa (c2 f9 (af 7) aad) ai
abbrev ab1:=iV (af 0)
abbrev ab2:=cN gB aaO
abbrev ab3:=aH (c2 z_ (c2 aO (c2 aZ (af 5) aaB) aal) aad)
abbrev ab4:=aH (c2 z_ (c2 aO (c2 aZ (af 3) abq) aaf) aad)
abbrev ab5:=Ui 3 (bI (z7 7) (bI (z7 8) (bI (z7 9) gK)))
abbrev ab6:=cK (.str [34])
abbrev ab7:=aa (af 0) (aa aae ai)
abbrev ab8:=c2 aO (c2 aZ (af 0) (cK (.int 2160))) aal
abbrev ab9:=aa (af 4) abh
abbrev ab_:=aa (af 2) aaC
abbrev ace:=qJ (af 0) (iL aaf) (iL (cK (.int 34)))
abbrev acf:=iV (af 1)
abbrev acg:=cN gB aag
abbrev acj:=aH (c2 z_ abd aac)
abbrev acn:=aH (c2 z_ aaX aaN)
abbrev aco:=aa (c2 aZ (af 3) (cK (.int 16))) ai
abbrev acp:=aH (c2 z_ (af 4) (cK (.str [108])))
abbrev acq:=c2 f9 (af 4) aal
abbrev acr:=c2 f9 (af 0) aal
abbrev acs:=c2 f9 (af 0) aad
abbrev acv:=c2 aO (af 0) aal
abbrev acw:=Ui 2 (bI (z7 9) (bI (z7 10) gK))
abbrev acz:=cK (.str [116,114,117,116,104])
abbrev acA:=cK (.str [102,105,101,108,100])
abbrev acB:=c2 f9 (af 8) (c2 aO (af 6) abq)
abbrev acC:=cK (.str [126])
abbrev acE:=cK (.str [118,97,108,117,101])
abbrev acF:=aN aaD
abbrev acG:=c2 aO (c2 aG aaU (af 14)) aaB
abbrev acI:=cK (.int 2000)
abbrev acJ:=c2 aO (c2 aZ (af 1) aaq) aaf
abbrev acL:=c2 aO (c2 aG (af 6) aaf) aaB
abbrev acM:=bA (aa aaL ai)
abbrev acN:=rY (af 0)
abbrev acP:=cK (.str [108,105,115,116])
abbrev acQ:=cK (.str [10,38,60,62,124])
abbrev acR:=c1 wm aad
abbrev acS:=bF (af 2)
abbrev acT:=aa aav (aa aaI (aa aaM ai))
abbrev acU:=aN (af 4)
abbrev acV:=aN (af 3)
abbrev acW:=cN eJ (aa aae (aa abV ai))
abbrev acY:=cN aM (aa aa7 (aa abn ai))
abbrev acZ:=cN aM (aa aa0 (aa abJ ai))
abbrev ac0:=cK (.str [10,10,10,10,10])
abbrev ac2:=c2 aO aaU aaB
abbrev ac3:=aa (af 1) aaJ
abbrev ac4:=aa (af 1) aaC
abbrev ac5:=aA 2 (c2 f9 (af 2) (af 3))
abbrev ac6:=aa (c2 f9 (af 12) aad) ai
abbrev ac7:=aa (af 0) (aa (af 1) ab_)
abbrev ac9:=aa (c2 f9 (af 1) aad) ai
abbrev ac_:=aa (af 6) ai
abbrev ada:=aH (c2 jE (af 3) (af 2))
abbrev ade:=cK (.int 8)
abbrev adf:=aH (c2 z_ (af 10) aa4)
abbrev adg:=aH (c2 Wt (af 10) abw)
abbrev adh:=qJ (af 0) (iL aad) mj
abbrev adi:=aH (c2 z_ (af 3) aal)
abbrev adk:=aH (c2 U9 (af 9) aaD)
abbrev adl:=c1 (pU 600 1) (af 0)
def mF(C:CC):Nat->Option (Y2->Z.Out)
 |0=>some (C .g8)
 |1=>some (C .g8)
 |2=>some (C .g8)
 |3=>some (C .g8)
 |4=>some (C .g8)
 |_=>none
def qD(C:CC):Nat->Option (Y2->Z.Out)
 |0=>some (C .G6)
 |1=>some (C .u6)
 |2=>some (C .v7)
 |3=>some (C .D_)
 |4=>some (C .H7)
 |_=>none
def jo(C:CC):Nat->Option (Y2->Z.Out)
 |0=>some (C .p8)
 |1=>some (C .n8)
 |2=>some (C .m_)
 |3=>some (C .p7)
 |4=>some (C .q8)
 |_=>none
def fj:Nat->Bool
 |500=>true
 |_=>false
def kx:Nat->Bool
 |500=>true
 |_=>false
def dl:Nat->Nat
 |0=>0
 |k+1=>dl k+2
def dJ(C:CC):Sx:=(au (aA 7 (c2 aG (af 7) (af 3)))
  (au (aA 11 (tH W8 U8 (af 5) (af 7) (c2 aG (af 5) (af 3))))
  (bS (cM bY aV (af 9) (aa (mH (bF (af 11)) (af 4) (eQ [(aaT,abg),(aaS,(af 2))])) ai)))))
def gc(C:CC):Sx:=(au (aA 7 (c2 aG (af 7) aaf))
  (au (bS (cM bY aV (af 6) (aa (gF [(abE,aaV)]) ai)))
  (au (aA 9 (c2 f9 (c2 f9 (af 6) (af 8)) abE))
  (fS (bA (aa (c2 aG (c2 f9 (cN bn (aa (cK (.int 23)) (aa (cK (.int 15)) ai))) (c2 ng (af 3) aaf)) (c2 aO (c2 aG (af 8) (af 0)) aaL)) ai)) (z7 10) (dJ C)))))
def iE(C:CC):Sx:=
 (au (aA 1 aau)
  (au (aA 2 abe)
  (au (aA 3 abR)
  (au (G4 adi abj bv)
  (au (aA 4 (c2 f9 (cN bn aak) ab8))
  (au (aA 5 aaG)
  (au (aA 6 aaV)
  (au (aA 7 aad)
  (au (fS abQ (z7 8) (gc C))
  (au (aA 12 aax)
  aay))))))))))
def gV(C:CC)(D:DD):Sx:=(fO (af 4) (c2 f9 (af 2) (af 5)) (aI (C .PB) (aa (c2 f9 abP (af 5)) (aa (bx (D .C_) aaP) aaC))))
def fx(C:CC)(D:DD)(Z:DD):Sx:=(au (aA 6 (cB (Z .M9) ac7))
  (au (fO (af 6) (c2 f9 (af 2) aaH) (bx (D .Pb) (aa (af 0) ac4)))
  (bS (cM bY aV (c2 f9 (af 4) (c2 f9 (af 2) aaq)) ac_))))
def kS(C:CC)(D:DD)(Z:DD):Sx:=
 (au (aA 4 (cB (Z .M9) (aa (af 0) (aa (af 1) (aa (af 2) (aa (cK (.bl false)) ai))))))
  (au (fS acM (z7 5) (gV C D))
  (au (fO (af 4) (c2 f9 (af 2) aaL) (cB (Z .M9) ac7))
  (au (fO (af 4) (c2 f9 (af 2) aaq) aaV)
  (au (fS (bA (aa (c2 aO (c2 aZ (bx (D .C_) aaP) aaq) aaL) ai)) (z7 5) (fx C D Z))
  (au (fO (af 4) (c2 f9 (af 2) abL) (bx (D .Pb) (aa (af 0) ac4)))
  acU))))))
def lR(C:CC)(Z:DD):Sx:=
 (au (lY fj (aA 2 (cB (Z .u9) (aa (af 0) (aa (cN aM (aa (aI (C .G7) aag) (aa aaD ai))) (aa (Ck 600 (Z .j_) ai) ai))))) 3 (aN (cN aM (aa aa1 (aa (c1 (Xy kx) (af 3)) ai)))))
  (aN (cN aM (aa aa7 aaJ))))
def bW(C:CC)(Z:DD):Sx:=(G4 (bF (cN aw (aa (af 1) (aa (cK (.ty "list")) ai)))) (bS (cB (Z .O2) aag)) (G4 (bF (cN aw (aa (af 1) (aa (cK (.ty "tuple")) ai)))) (bS (cB (Z .O2) ac9)) bv))
def kU(C:CC)(Z:DD):Sx:=
 (au (um (af 0) (z7 1) (bW C Z))
  (bS (cM bY aV (af 0) (aa acO ai))))
def dg(C:CC)(D:DD):Sx:=(au (aA 6 (bx (D .C_) aaP))
  (G4 (kZ (eX (bF (af 3))) (aH (c2 Tp (c2 aO (c2 aZ (af 6) aal) (cK (.int 31))) aae))) (fO (af 4) (c2 f9 (af 2) (af 5)) (aI (C .PB) (aa (c2 f9 abP (af 5)) (aa (af 6) aaC)))) bv))
def kW(C:CC)(D:DD):Sx:=
 (au (aA 4 vz)
  (au (fS acM (z7 5) (dg C D))
  acU))
def aS(C:CC)(Z:DD):Sx:=(G4 acj (bS (cZ 600 (Z .s7) (af 2) (aa abz ai))) (G4 (aH (c2 z_ abd aaN)) (bS (cM bY aV (af 3) (aa (cZ 600 (Z .G3) (af 2) (aa (aI (C .J0) (aa abz aag)) (aa (c2 f9 (af 4) aaf) ai))) ai))) (G4 (aH (c2 z_ abd aas)) (bS (cM bY aV (af 3) (aa (cB (Z .w6) (aa (af 4) ac3)) ai))) (au (aA 5 (cZ 600 (Z .g_) (af 2) (aa (aI (C .J0) (aa abz aag)) ai)))
  (bS (cM bY aV (af 3) (aa (cN aM (aa (af 5) (aa (cB (Z .u9) (aa (mH (bF (af 5)) (c2 f9 (af 4) aaf) acq) ac3)) ai))) ai)))))))
def kj(C:CC)(Z:DD):Sx:=
 (au (aA 3 aaV)
  (au (fS ab1 (z7 4) (aS C Z))
  acV))
def gU(C:CC):Sx:=
 (au (uo 600 0 (af 0) aaV)
  (uo 600 1 (af 0) aae))
def dM(C:CC):Sx:=
 (aN (cN aM (aa aa0 abN)))
def dO(C:CC):Sx:=
 (aN (cN aM (aa aa1 (aa (af 1) abN))))
def jy(C:CC):Sx:=
 (bS (cM bY aV adn aag))
def fP(C:CC)(Z:DD)(z:Bool):Sx:=
 (au (aA 3 (cZ 600 (Z .d8) (af 0) aag))
  (au (aA 4 (aI (C .O6) aaJ))
  (au (G4 (eX (bF (qK (qD C) (af 4) aaC))) (jb z 500 (aa acE ai)) bv)
  (au (bS (cZ 600 (Z .s7) (af 0) (aa (qK (mF C) (af 4) aaC) ai)))
  acV))))
def bG(C:CC)(Z:DD)(z:Bool):Sx:=
 (au (aA 2 (cZ 600 (Z .d8) (af 0) aag))
  (au (G4 (eX (bF (cN aw (aa (af 2) (aa (cK (.ty "bool")) ai))))) (jb z 500 (aa acz ai)) bv)
  (aN (af 2))))
def bq(C:CC)(Z:DD):Sx:=(au (bS (cZ 600 (Z .j8) (af 2) (aa (af 4) (aa abX ai))))
  (bS (cM bY aV (af 3) (aa (cB (Z .u9) (aa acr (aa (aI (C .J1) (aa acs (aa (cN aM abt) aag))) aaJ))) ai))))
def cO(C:CC)(Z:DD):Sx:=
 (au (aA 3 aaV)
  (au (fS (Cv (aa (cZ 600 (Z .j5) (af 2) (aa (aI (C .J0) (aa abB aag)) ai)) ai)) aaZ (bq C Z))
  acV))
def bH(C:CC)(Z:DD)(z:Bool):Sx:=
 (au (bS (cZ 600 (Z .k_) (af 0) ai))
  (au (aA 2 (aI (C .found) (aa aaW (aa (qJ (af 1) (iL aad) mj) ai))))
  (au (G4 (eX acS) (jb z 500 (aa acA ai)) bv)
  (aN abA))))
def bL(C:CC)(Z:DD)(z:Bool):Sx:=
 (au (aA 2 (cZ 600 (Z .d8) (af 0) aag))
  (au (G4 (eX (bF (cN aw (aa (af 2) (aa (cK (.ty "list")) ai))))) (jb z 500 (aa acP ai)) bv)
  (aN (af 2))))
def bZ(C:CC)(Z:DD):Sx:=
 (au (bS (cZ 600 (Z .k_) (af 0) ai))
  (G4 (aH (c2 Tp (af 1) aae)) (bS (cZ 600 (Z .s7) (af 0) aaJ)) bv))
def dD(C:CC)(z:Bool):Sx:=
 (au (uo 600 1 (af 0) (c2 aG adl aad))
  (G4 (aH (c2 Tp adl acI)) (jb z 500 (aa abM ai)) bv))
def iY(C:CC)(Z:DD):Sx:=(au (aA 12 (cB (Z .filled) ab9))
  (au (G4 (kZ (eX (bF (aI (C .N_) (aa (aI (C .v5) ab9) (aa (c2 f9 (af 9) aae) ai))))) (kZ (eX (bF (qL (C .N_) (aa (af 12) (aa (c2 f9 (af 9) aad) ai))))) (aH (c2 Js (af 10) (af 5))))) aa3 bv)
  (au (G4 (aH (c2 lG (af 8) aaD)) (au (G4 (kZ (aH (c2 Rc (qL (C .spelt) (aa (af 4) ac6)) abW)) (aH (c2 Rc (aI (C .spelt) (aa (af 4) (aa (aI (C .G8) abF) ai))) abW))) aa3 bv)
  (bS (cB (Z .O2) ac6))) bv)
  (G4 (kZ (aH (c2 Rc (aI (C .v5) (aa aaK (aa (cK (.dct [])) ai))) acZ)) (aH (c2 (rO Rc) (cB (Z .filled) (aa aaK (aa (cK (.dct [])) ai))) acY))) aa3 bv))))
def vA(C:CC)(D:DD)(Z:DD):Sx:=
 (au (aA 1 ace)
  (au (aA 2 acW)
  (au (aA 3 (aI (C .J4) (aa (af 0) aci)))
  (au (G4 abk (pK aaZ (cB (Z .Rr) aco)) (au (pK abD (bx (D .Qq) (aa (af 1) (aa (af 2) (aa (aI (C .J4) ab7) abr)))))
  (aA 5 (cB (Z .O1) aaE))))
  (au (G4 ab4 abm bv)
  (au (aA 7 abp)
  (au (aA 8 (bx (D .K4) abv))
  (au (aA 9 aaj)
  (au aat
  (au (aA 10 (aI (C .G8) abt))
  (au (fS aa5 (z7 11) (iY C Z))
  abS)))))))))))
def iz(C:CC):Sx:=
 (au (G4 (aH (c2 U8 (af 1) ab2)) (aN (c2 f9 (af 0) (af 1))) bv)
  (aN aae))
def dA(C:CC)(D:DD):Sx:=(G4 acj (fO (af 2) aac (c2 aG (c2 f9 (af 2) aac) abz)) (au (aA 5 (aI (C .Rt) (aa (c2 f9 (af 4) (c2 aG aad (cN jd (aa (c2 z_ abd aas) ai)))) aag)))
  (au (fO (af 2) aah (bx (D .N8) (aa (af 4) (aa (af 5) aaJ))))
  (au (G4 (aH (c2 lG (c2 f9 (af 2) aah) aaD)) acF bv)
  (au (aA 6 (bx (D .t_) (aa (af 4) (aa (c2 f9 (af 5) aae) ac3))))
  (au (G4 (aH (c2 U9 (af 6) aaD)) acF bv)
  (bS (cM bY aV (af 3) (aa (c2 f9 (af 6) aae) ai)))))))))
def mJ(C:CC)(D:DD):Sx:=
 (au (aA 3 aaV)
  (au (fS ab1 (z7 4) (dA C D))
  acV))
def gM(C:CC):Ex:=(aI (C .G8) aaO)
def gL(C:CC):Ex:=(aI (C .G8) aaO)
def fK(C:CC):Ex:=(cN aM (aa (af 0) (aa (aI (C .G8) (aa abG ai)) ai)))
def de(C:CC):Sx:=
 (au (G4 (bF (cN aw (aa (af 0) (aa (cK (.ty "list")) ai)))) (aN (cN Ss (bT [] acN bK (gM C)))) bv)
  (au (G4 (bF (cN aw (aa (af 0) (aa (cK (.ty "tuple")) ai)))) (aN (cN nc (aa (cN Ss (bT [] acN bK (gL C))) ai))) bv)
  (au (G4 (bF (cN aw (aa (af 0) (aa (cK (.ty "dict")) ai)))) (aN (V9 (cN sQ (aa (cN Ss (bT [0] acN bK (fK C))) ai)))) bv)
  (aN (af 0)))))
def iZ(C:CC):Sx:=(au (aA 9 (cN bn (aa (aI (C .Pa) (aa (c2 aG (cN bn (aa (cN aM (aa aac (aa (c2 f9 (aI (C .E_) ai) (c2 aO (c2 aG (c2 aZ (af 7) (cK (.int 189))) (af 8)) abU)) ai))) ai)) (af 6)) ai)) (aa ac8 ai))))
  (au (aA 10 (c2 aO (c2 aO (c2 aG (af 7) (c2 gX (af 8) (af 8))) aal) aaf))
  (au (aA 11 (c2 f9 (cN bn (aa (cN aM (aa acq ai)) (aa (cN aM (aa (c2 f9 (af 4) aaL) (aa acq ai))) ai))) (c2 aO (af 8) aaf)))
  (aA 6 (cN bn (aa (cN aM (aa aaA (aa (af 11) (aa (c2 f9 (af 9) (af 10)) (aa (c2 f9 (af 9) (c2 ng aad (af 10))) ai))))) (aa (cN aM (aa aac (aa acC ai))) ai)))))))
def mK(C:CC)(D:DD):Sx:=
 (au (aA 4 (aI (C .Rq) aaJ))
  (au (aA 5 (cN aM (aa (aI (C .Rp) abu) (aa (af 4) aaC))))
  (au (aA 6 (bx (D .v8) (aa (af 0) (aa (af 1) (aa (af 5) (aa aal ai))))))
  (au (aA 7 (bx (D .C_) aaP))
  (au (fS (bA (aa (c2 gX (c2 aO (c2 aZ (af 7) abK) (cK (.int 21))) (cN jd (aa (c2 z_ (c2 aO (af 7) abK) aad) ai))) ai)) (z7 8) (iZ C))
  (aN (cN aM (aa (aI (C .Pa) ac_) abu))))))))
def jm(C:CC):Ex:=(aI (C .N_) (aa abG abO))
def wV(C:CC):Ex:=(aI (C .N_) (aa abG abO))
def gx(C:CC):Sx:=
 (au (G4 (bF (cN jF (aa (af 1) (aa (cN aM (aa (cK (.ty "list")) (aa (cK (.ty "tuple")) ai))) ai)))) (au (G4 (kZ (aH (c2 Rc (cN aw (aa (af 0) (aa (cK (.ty "list")) ai))) (cN aw (aa (af 1) (aa (cK (.ty "list")) ai))))) (aH (c2 Rc (cN aw (aa (af 0) (aa (cK (.ty "tuple")) ai))) (cN aw (aa (af 1) (aa (cK (.ty "tuple")) ai)))))) aa3 bv)
  (aN (qM (c2 z_ ab2 acg) (cN AV (aa (cN Ss (bT [0,1] (bA (aa acg ai)) bK (jm C))) ai))))) bv)
  (au (G4 (bF (cN aw (aa (af 1) (aa (cK (.ty "dict")) ai)))) (au (G4 (kZ (eX (bF (cN aw (aa (af 0) (aa (cK (.ty "dict")) ai))))) (aH (c2 Rc IA IA))) aa3 bv)
  (aN (cN AV (aa (cN Ss (bT [0,1] acf bK (wV C))) ai)))) bv)
  (aN (qM (c2 z_ (cN aw (aa (af 0) (aa (cK (.ty "bool")) ai))) (cN aw (aa (af 1) (aa (cK (.ty "bool")) ai)))) (c2 z_ (af 0) (af 1))))))
def fM(C:CC)(Z:DD):Sx:=
 (au (aA 2 (Ck 600 (Z .j_) ai))
  (au (lY fj (bS (cB (Z .u9) (aa (af 0) (aa (cN aM (aa (aI (C .G7) aag) (aa aaD ai))) aaJ)))) 3 (aN (cZ 600 (Z .i_) (af 2) (aa (c1 (Xy kx) (af 3)) ai))))
  (aN (cZ 600 (Z .j7) (af 2) ai))))
def iG(C:CC):Sx:=(G4 acj (bS (cM bY aV (af 2) (aa abz ai))) (au (bS (cM bY aV (af 2) (aa (aI (C .N7) (aa (af 4) (aa (c2 f9 (af 1) (af 3)) ai))) ai)))
  (aA 3 (c2 aG (af 3) aad))))
def tI(C:CC):Sx:=
 (au (aA 2 aaV)
  (au (aA 3 aae)
  (au (fS ab1 (z7 4) (iG C))
  (aN (cM isStr eK aao aaJ)))))
def gj(C:CC):Sx:=(au (G4 (kZ (eX (bF (cN aw (aa (af 2) (aa (cK (.ty "dict")) ai))))) ada) (aN abn) bv)
  ac5)
def kH(C:CC):Sx:=
 (au (aA 2 (c2 f9 (af 1) aaX))
  (au (fS (iV adh) (z7 3) (gj C))
  (aN (cN bn aaJ))))
def dz(C:CC):Sx:=
 (au (G4 (aH (c2 z_ (c2 f9 (af 2) aaw) acI)) (aN abM) bv)
  (au (fO (af 2) aaw (c2 aG (c2 f9 (af 2) aaw) aad))
  (au (G4 (aH (c2 zi (af 1) abn)) (aN acA) bv)
  (au (G4 acn (aN (mH (aH (c2 U9 (aI (C .H9) (aa abB (aa aaW ai))) aaD)) acE aaD)) bv)
  (au (G4 (aH (c2 z_ aaX aas)) (aN (mH (bF (cN aw (aa aaW (aa (cK (.ty "list")) ai)))) aaD acP)) bv)
  (aN (mH (bF (cN aw (aa aaW (aa (cK (.ty "bool")) ai)))) aaD acz)))))))
def ci(C:CC)(D:DD):Sx:=(au (G4 (aH (c2 z_ (c2 f9 (af 3) aaw) acI)) (au (fO (af 3) aah abM)
  acF) bv)
  (au (fO (af 3) aaw (c2 aG (c2 f9 (af 3) aaw) aad))
  (au (fO (af 3) aac (c2 aG (c2 f9 (af 3) aac) (c2 gX abX (cN Dz (aa (af 6) aci)))))
  (au (aA 7 (cN pV aaJ))
  (au (fO (af 7) acs (c2 f9 (af 1) (af 6)))
  (au (bS (cM bY aV (af 5) (aa (bx (D .K4) (aa acr (aa (V9 (af 7)) aaC))) ai)))
  (G4 (aH (c2 U9 (c2 f9 (af 5) acR) aaD)) acF bv)))))))
def bU(C:CC)(D:DD):Sx:=
 (au (G4 acn (au (fO (af 3) aac (c2 aG (c2 f9 (af 3) aac) (aI (C .H9) (aa abB aag))))
  (aN (cN bn aag))) bv)
  (au (G4 (aH (c2 z_ aaX aaA)) (au (aA 4 (bx (D .K4) (aa (c2 f9 (af 0) (c2 aG aaf (cN jd (aa (ER (af 1)) ai)))) ab_)))
  (aN (mH (aH (c2 U9 (af 4) aaD)) aaD (cN bn (aa (cN aM (aa (af 1) abu)) ai))))) bv)
  (au (aA 5 aaV)
  (au (fS (bA (aa acg ai)) (z7 6) (ci C D))
  (aN (cN bn (aa (V9 (af 5)) ai)))))))
def jU(C:CC):Ex:=(c2 f9 (af 1) (c2 aO (c2 aG (c2 aZ (af 2) (cK (.int 192))) (c2 gX aaq (af 0))) (cK (.int 26))))
def dR(C:CC):Sx:=(au (aA 6 (c2 f9 (af 1) (c2 aO (c2 aG (c2 aG (c2 aZ (af 0) (cK (.int 192))) (c2 gX aaH (af 5))) aad) (cK (.int 26)))))
  (bS (cM bY aV (af 4) (aa (c2 f9 (cN bn (aa (c2 aG (qJ (af 2) mj (iL aad)) (cN uD abt)) (aa (c2 aG (c2 aG (qJ (af 2) mj (iL (af 3))) (af 6)) (qJ (af 2) (iL (c2 aG (af 3) aad)) mj)) (aa (qJ (c2 aG (af 6) (af 2)) mj (iL (c2 aG aad (c2 aO (c2 aZ (af 0) aal) ade)))) ai)))) acv) ai))))
def nP(C:CC):Sx:=
 (au (aA 1 (cK (.str cj)))
  (au (aA 2 (cM isStr eK aao (aa (cN Ss (bT [1,0] (bA (aa ade ai)) bK (jU C))) ai)))
  (au (aA 3 (c2 aO (c2 aZ (af 0) abV) ade))
  (au (aA 4 aaV)
  (au (fS (bA (aa abq ai)) (z7 5) (dR C))
  acU)))))
def eW(C:CC):Tx:=(ju (aH (c2 Wt acs (af 1))) (aH (c2 Rc (af 1) aao)))
def iu(C:CC):Ex:=(af 0)
def gi(C:CC)(D:DD):Sx:=(au (aA 6 (bx (D .C_) aaP))
  (au (aA 7 aar)
  (au (aA 8 (cN Ss (bT [7] (iV abA) (eW C) (iu C))))
  (au (pK acw aaQ)
  (G4 adk (bS (cM bY aV (af 4) (aa (cN aM (aa aac (aa (aI (C .QF) (aa abY ai)) ai))) ai))) (G4 adg (aA 4 (c2 im (af 4) (aI (C .Qp) abl))) (G4 adf (aA 4 (c2 im (af 4) (bx (D .I_) abT))) (aA 4 (c2 im (af 4) (bx (D .Px) abC))))))))))
def kF(C:CC)(D:DD):Sx:=
 (au (aA 4 aaV)
  (au (fS (bA (aa (c2 aG aad (c2 aO (c2 aZ (bx (D .C_) aaP) aaq) aaL)) ai)) (z7 5) (gi C D))
  acU))
def kf(C:CC):Sx:=
 (au (mS (af 1) aae (c2 aG aaW aad))
  (au (aA 2 aaW)
  (au (aA 3 (c2 aG (c2 gX (c2 gX (cK (.int 31)) (af 2)) (af 2)) (c2 gX (cK (.int 7919)) (af 2))))
  (au (G4 (aH (c2 Tp ab2 aae)) (aA 3 (c2 aG (af 3) (c2 gX (c2 f9 (af 0) (c2 aO (af 2) ab2)) (c2 aG aad (c2 aZ (af 2) ab2))))) bv)
  (aN (c2 aZ (c2 aO (c2 gX (af 3) (cK (.int 48271))) (cK (.int 2147483647))) aaH))))))
def nN(C:CC):Sx:=
 (aN (c2 aG (c2 aG (aI (C .R0) (aa ac8 aaO)) (aI (C .R0) (aa (cN aM (aa abX ai)) aaO))) (cN bn (aa (cN aM (aa (cN aM (aa (c2 f9 (af 0) aaq) ai)) (aa (cK (.str [108])) ai))) (aa (cN aM (aa (cN aM (aa (c2 f9 (af 0) abL) ai)) adb)) ai)))))
def eV(C:CC):Sx:=(G4 (ju (aH (c2 z_ abA aac)) (ju (aH (c2 Rc (af 1) abn)) (aH (c2 z_ (c2 f9 (c2 f9 (af 1) acR) aae) aac)))) (mS (af 1) acR (cN aM (aa aac (aa (c2 aG (c2 f9 (c2 f9 (af 1) acR) aad) (c2 f9 (af 2) aad)) ai)))) (bS (cM bY aV (af 1) aaJ)))
def tK(C:CC):Sx:=
 (au (aA 1 aaV)
  (au (fS ab1 (z7 2) (eV C))
  (aN (cN nc aag))))
def nQ(C:CC):Sx:=
 (au (aA 0 (cK (.str fC)))
  (aN (c2 aG (af 0) (cK (.str fB)))))
def jR(C:CC)(D:DD):Ex:=(aI (C .PB) (aa acD (aa (bx (D .C_) ab_) aag)))
def nM(C:CC)(D:DD):Sx:=
 (aN (cN Ss (bT [2,0,1] (bA (aa (c2 aO (c2 aZ (bx (D .C_) aaP) aaq) aaL) ai)) bK (jR C D))))
def jT(C:CC):Ex:=(c2 f9 (af 1) (c2 aO (c2 aG (c2 aZ (af 2) (cK (.int 240))) (c2 gX (af 0) (c2 aG aad (c2 aO (c2 aZ (af 2) abK) (cK (.int 61)))))) (cK (.int 62))))
def jS(C:CC):Ex:=(c2 f9 (aI (C .E_) ai) (c2 aO (c2 aG (c2 aZ (af 1) (cK (.int 240))) (c2 gX (af 0) (c2 aG aad (c2 aO (c2 aZ (af 1) abK) abU)))) aaB))
def gS(C:CC):Sx:=
 (au (G4 (ju acS (aH (c2 z_ (c2 aO (c2 aZ (af 1) (cK (.int 11))) (cK (.int 23))) aad))) (aN (c2 f9 (cN bn (aa aaq (aa aao (aa abg (aa abn (aa (cK (.dct [])) (aa (cK (.str [97,32,98])) (aa (cN bn (aa aaS ai)) (aa (c2 wk ach (cK (.int 29))) (aa aae aci)))))))))) (c2 aO (c2 aZ (af 1) (cK (.int 253))) ach))) bv)
  (au (G4 (aH (c2 z_ (af 0) (cK (.str [110])))) (aN (aI (C .QG) aag)) bv)
  (au (G4 (aH (c2 z_ (af 0) aa4)) (aN (mH (ju acS (aH (c2 z_ (c2 aO (c2 aZ (af 1) aaH) abK) aad))) (cN jd (aa acJ ai)) (c2 z_ acJ aad))) bv)
  (au (G4 (aH (c2 z_ (af 0) acD)) (au (aA 3 (cK (.str bE)))
  (au (aA 4 (c2 f9 (cN bn (aa (c2 aG aad (c2 aO (af 1) abL)) (aa (c2 aG aad (c2 aO (af 1) abb)) (aa abb ai)))) (c2 aG abx (cN jd (aa (c2 z_ (c2 aO acu abV) aad) ai)))))
  (aN (cM isStr eK aao (aa (cN Ss (bT [3,1] (bA abu) bK (jT C))) ai))))) bv)
  (au (aA 4 (c2 f9 (cN bn (aa (c2 aO (af 1) aaH) (aa (c2 aO (af 1) abb) (aa (c2 ng ac1 (c2 aO (af 1) aal)) ai)))) (c2 aG abx (cN jd (aa (c2 z_ (c2 aO acu (cK (.int 36))) aad) ai)))))
  (aN (cM isStr eK aao (aa (cN Ss (bT [1] (bA abu) bK (jS C))) ai))))))))
def dQ(C:CC):Sx:=(fO (af 1) (af 2) (cN aM (aa (c2 f9 (af 0) (af 2)) ai)))
def gH(C:CC):Sx:=
 (au (aA 1 vz)
  (au (fS acN (z7 2) (dQ C))
  (aN (V9 (af 1)))))
def fJ(C:CC):Ex:=(aI (C .spelt) (aa (c2 f9 (af 1) aal) aaO))
def cV(C:CC):Sx:=
 (au (G4 acn (aN (qK (mF C) (aI (C .O6) (aa abB ai)) aag)) bv)
  (au (G4 (aH (c2 z_ aaX aas)) (aN (cM isStr eK abX (aa (cN Ss (bT [0] acf bK (fJ C))) ai))) bv)
  (aN (aI (C .spelt) (aa (mH (bF aaW) abB acr) ac9)))))
def jB(C:CC):Tx:=(aH (c2 jE (af 0) (af 1)))
def nZ(C:CC):Ex:=(af 0)
def gn(C:CC):Sx:=(au (aA 7 (cM isStr mi (c2 wj (af 4) aaf) ac_))
  (aA 5 (c2 aG (af 5) (mH (aH (c2 U8 (af 7) aae)) (af 6) (c2 aG abd (c2 f9 (af 4) (c2 aG (c2 gX aaf (af 7)) aad)))))))
def bh(C:CC):Sx:=
 (au (G4 (aH (c2 z_ (af 0) aaR)) (au (G4 (kZ (eX (bF (cN aw (aa (af 1) (aa (cK (.ty "int")) ai))))) (kZ (bF (cN aw (aa (af 1) (aa (cK (.ty "bool")) ai)))) (aH (c2 pGe (cN AW aag) aa8)))) acF bv)
  (aN (cN uD aag))) bv)
  (au (G4 (kZ (eX (bF (cN aw (aa (af 1) (aa (cK (.ty "str")) ai))))) (aH (c2 Tp acg ac1))) acF bv)
  (au (G4 (aH (c2 z_ (af 0) aah)) (au (aA 2 (cK (.str bE)))
  (au (aA 3 (qM (tH W8 W8 aad acg abb) (c2 z_ (cN Ss (bT [2] acf (jB C) (nZ C))) abn)))
  (aN (mH (bF (af 3)) (af 1) aaD)))) bv)
  (au (aA 4 (c2 f9 (eQ [(aaI,(cK (.str [94,94,34,113,10,110]))),(aav,(cK (.str [126,126,60,108,62,103,38,97,124,98,10,110]))),(aaM,(cK (.str [126,126,10,110])))]) (af 0)))
  (au (aA 5 aao)
  (au (fS acf (z7 6) (gn C))
  (aN (mH (aH (c2 z_ (af 0) aaI)) (c2 aG (c2 aG ab6 (af 5)) ab6) (af 5)))))))))
def jk(C:CC):Ex:=(c2 f9 (aI (C .E_) ai) (c2 aO (c2 aG (c2 aZ (af 1) aal) (c2 gX (af 0) (c2 aG aad (c2 aO (c2 aZ (af 1) (cK (.int 300))) abU)))) aaB))
def qO(C:CC):Sx:=
 (aN (cM isStr eK aao (aa (cN Ss (bT [0] (bA (aa (c2 aG aad acv) ai)) bK (jk C))) ai)))
def iU(C:CC):Sx:=
 (au (aA 4 (aI (C .Tv) ac4))
  (au (aA 5 (cN aM (aa aaN (aa (af 0) abu))))
  (au (G4 (ju (eX acS) (aH (c2 Tp (c2 aO (c2 aZ (af 3) aaq) aal) aae))) (aN (cN bn abt)) bv)
  (au (aA 6 (c2 f9 (cM qq DF (eQ [(aav,acQ),(aaM,ac0)]) (aa (af 4) (aa (cK (.str [32,46,59,60,10])) ai))) (c2 aO (c2 aZ (af 3) (cK (.int 576))) aaq)))
  (aN (cN bn (aa (af 5) (aa (cN aM (aa aac (aa (c2 aG (af 6) (aI (C .QF) (aa (c2 aZ (af 3) aaH) ai))) ai))) ai))))))))
def cz(C:CC)(D:DD):Ex:=(bx (D .v8) (aa (af 1) (aa (af 2) (aa (af 3) (aa (c2 ng (af 4) aad) ai)))))
def cy(C:CC):Ex:=(c2 aG (cN bn (aa (cN aM (aa aac (aa (c2 f9 (aI (C .E_) ai) (c2 aO (c2 aG (af 2) (af 0)) aaB)) ai))) ai)) abG)
def jt(C:CC)(D:DD):Sx:=
 (au (aA 5 (bx (D .C_) aaP))
  (au (aA 6 (c2 aO (af 5) aaB))
  (au (aA 7 (cN ia (bT [0,1,2,4] aa5 bK (cz C D))))
  (au (G4 (bF abo) (aA 7 (cN ia (bT [7,6] aa5 bK (cy C)))) bv)
  (au (G4 ab3 abH bv)
  (au (aA 8 (cN aM (aa aaA (aa (af 3) (aa (aI (C .Pa) abZ) (aa (aI (C .Pa) ab0) ai))))))
  (au aa2
  (aN (cN bn (aa (af 8) (aa (cN aM (aa aac (aa (c2 f9 (aI (C .E_) ai) acL) ai))) ai)))))))))))
def fR(C:CC):Tx:=(aH (c2 Rc (c2 f9 aaX aae) (af 1)))
def hS(C:CC):Ex:=(af 0)
def mI(C:CC)(D:DD):Sx:=
 (au (aA 6 (bx (D .C_) aaP))
  (au (pK ab5 (af 2))
  (au (aA 10 acB)
  (au (aA 11 (cN ia (bT [10] (iV (af 7)) (fR C) (hS C))))
  (au (G4 acp (aA 11 (c2 im (c2 aG (af 11) (aI (C .R0) (aa (cN aM abh) abF))) aa_)) abf)
  (au (aA 12 (bx (D .v8) aa6))
  (au (aA 13 (c2 f9 (aI (C .E_) ai) ac2))
  (au (aA 14 aaY)
  (au (aA 15 (c2 f9 (aI (C .E_) ai) aaz))
  (au aaF
  (au (aA 16 (cN aM (aa aas (aa (af 10) (aa (af 3) (aa (aI (C .Pa) acd) aam))))))
  (au aa9
  (aN (cN bn (aa (af 16) (aa (cN aM (aa aac (aa (c2 f9 (aI (C .E_) ai) acG) ai))) ai))))))))))))))))
def nF(C:CC):Ex:=(cN aM (aa (c2 aG (af 1) (cN aM abO)) (aa (c2 f9 abP (af 0)) ai)))
def tJ(C:CC):Sx:=
 (aN (cN Ss (bT [0,1] acM bK (nF C))))
def lP(C:CC):Sx:=
 (aN (c2 f9 (cN bn (aa (c2 ng (c2 aO (af 0) (cK (.int 21))) ach) (aa (c2 aO (af 0) (cK (.int 100000))) (aa (c2 ng aae (c2 aO (af 0) (cK (.int 1000000007)))) (aa (c2 aO (c2 gX (af 0) (c2 wk (cK (.int 48271)) aaL)) aa8) (aa (c2 ng (c2 ng aa8 aad) acv) (aa aae ai))))))) (c2 aO (c2 aZ (af 0) aaH) abL)))
def kc(C:CC):Sx:=
 (aN (c2 aG (c2 f9 aaW aaX) adh))
def kh(C:CC):Sx:=
 (au (G4 (eX (bF (qK (qD C) (af 0) aag))) sJ bv)
  (aN (qK (jo C) (af 0) aag)))
def eF(C:CC):Sx:=
 (au (G4 (aH (c2 or (af 0) aah)) (aN (jZ 0)) bv)
  (au (G4 (aH (c2 or (af 0) aaR)) (aN (jZ 1)) bv)
  (au (G4 (aH (c2 or (af 0) aaI)) (aN (jZ 2)) bv)
  (au (G4 (aH (c2 or (af 0) aav)) (aN (jZ 3)) bv)
  (au (G4 (aH (c2 or (af 0) aaM)) (aN (jZ 4)) bv)
  sJ)))))
def kE(C:CC):Sx:=
 (au (G4 (aH (c2 z_ (c2 aO (c2 aZ (af 1) (cK (.int 64))) abK) aad)) (aN (c2 f9 (cN bn (aa aah (aa aaR (aa aaI (aa aav (aa aaM ai)))))) (c2 aO (af 1) aaq))) bv)
  (aN (c2 f9 (cN bn (aa aaR (aa (c2 f9 (cN bn acT) (c2 aO (af 1) aal)) (aa (c2 f9 (cN bn (aa aah acT)) (c2 aO (af 1) aaL)) ai)))) (cM isStr mi (cK (.str [110,116,119])) aaO))))
def bO(C:CC):Sx:=
 (aN (qM (aI (C .J9) (aa (af 1) (aa abb ai))) (qM (c2 Rc (af 1) aao) (aI (C .K9) (aa (af 1) (aa (cK (.str cu)) ai))))))
def aQ(C:CC):Sx:=
 (aN (qM (cN aw (aa (af 1) (aa (cK (.ty "int")) ai))) (qM (ER (cN aw (aa (af 1) (aa (cK (.ty "bool")) ai)))) (aI (C .K7) aag))))
def bV(C:CC):Sx:=
 (aN (aI (C .J9) aby))
def cC(C:CC):Sx:=
 (aN (aI (C .J9) aby))
def cY(C:CC):Sx:=
 (aN (aI (C .J9) aby))
def gG(C:CC):Sx:=
 (au (aA 3 (cN pV (aa abA ai)))
  (au (fO (af 3) (af 0) (af 1))
  (aN (cN aM (aa (V9 (af 3)) (aa (c2 f9 (af 2) aad) ai))))))
def dH(C:CC):Sx:=
 (aN (af 1))
def cX(C:CC):Sx:=
 (aN (cN uD aag))
def cW(C:CC):Sx:=
 (aN (c2 aG (c2 aG ab6 (aI (C .escaped) (aa (af 1) (aa (cK (.str [94])) (aa (cK (.str [94,34,10])) (aa (cK (.str [94,113,110])) ai)))))) ab6))
def du(C:CC):Sx:=
 (aN (aI (C .escaped) (aa (af 1) (aa acC (aa (cK (.str [126,60,62,38,124,10])) (aa (cK (.str [126,108,103,97,98,110])) ai))))))
def dI(C:CC):Sx:=
 (aN (aI (C .escaped) (aa (af 1) (aa acC (aa (cK (.str [126,10])) (aa (cK (.str [126,110])) ai))))))
def iH(C:CC):Sx:=(au (G4 (kZ (eX (bF (cN aw (aa (af 2) (aa (cK (.ty "dict")) ai))))) ada) (aN ac8) bv)
  ac5)
def oX(C:CC):Sx:=
 (au (aA 2 (af 0))
  (au (fS acf (z7 3) (iH C))
  (aN (cN aM aaJ))))
def cL(C:CC):Sx:=
 (aN (qM (cN aw (aa (af 0) (aa (cK (.ty "str")) ai))) (qM (c2 W8 ab2 (af 1)) (aI (C .K9) (aa (af 0) (aa (cK (.str br)) ai))))))
def dT(C:CC):Sx:=(G4 (aH (c2 jE (af 2) (af 1))) aa3 bv)
def gQ(C:CC):Sx:=
 (au (fS ab1 (z7 2) (dT C))
  (aN abg))
def fL(C:CC):Sx:=
 (aN (c2 U8 (cN AW aaO) aa8))
def gq(C:CC):Sx:=(au (aA 6 (cM isStr mi (af 2) abt))
  (bS (cM bY aV (af 4) (aa (mH (aH (c2 U8 (af 6) aae)) (af 5) (c2 aG (af 1) (c2 f9 (af 3) (af 6)))) ai))))
def nR(C:CC):Sx:=
 (au (aA 4 aaV)
  (au (fS ab1 (z7 5) (gq C))
  (aN (cM isStr eK aao abu))))
def FL:Nat->CC×DD×DD
 |0=>(fun _ _=>.bad,fun _ _ _=>.bad,fun _ _ _=>.bad)
 |k+1=>(fun f ps=>match f with
  |.law=>ar (vA (FL k).1 (FL k).2.1 (FL k).2.2) 1 13 ps
  |.J4=>ar (iz (FL k).1) 2 2 ps
  |.G8=>ar (de (FL k).1) 1 1 ps
  |.N_=>ar (gx (FL k).1) 2 2 ps
  |.v5=>ar (fM (FL k).1 (FL k).2.2) 2 4 ps
  |.spelt=>ar (tI (FL k).1) 2 5 ps
  |.Rt=>ar (kH (FL k).1) 2 4 ps
  |.Rq=>ar (nP (FL k).1) 1 7 ps
  |.Rp=>ar (nN (FL k).1) 1 1 ps
  |.Pa=>ar (tK (FL k).1) 1 3 ps
  |.E_=>ar (nQ (FL k).1) 0 1 ps
  |.PB=>ar (gS (FL k).1) 3 5 ps
  |.G7=>ar (gH (FL k).1) 1 3 ps
  |.N7=>ar (cV (FL k).1) 2 2 ps
  |.H9=>ar (bh (FL k).1) 2 8 ps
  |.QF=>ar (qO (FL k).1) 1 1 ps
  |.Qp=>ar (iU (FL k).1) 4 7 ps
  |.R0=>ar (tJ (FL k).1) 2 2 ps
  |.QG=>ar (lP (FL k).1) 1 1 ps
  |.J0=>ar (kc (FL k).1) 2 2 ps
  |.g8=>ar (kh (FL k).1) 2 2 ps
  |.O6=>ar (eF (FL k).1) 1 1 ps
  |.Tv=>ar (kE (FL k).1) 2 2 ps
  |.G6=>ar (bO (FL k).1) 2 2 ps
  |.u6=>ar (aQ (FL k).1) 2 2 ps
  |.v7=>ar (bV (FL k).1) 2 2 ps
  |.D_=>ar (cC (FL k).1) 2 2 ps
  |.H7=>ar (cY (FL k).1) 2 2 ps
  |.J1=>ar (gG (FL k).1) 3 4 ps
  |.p8=>ar (dH (FL k).1) 2 2 ps
  |.n8=>ar (cX (FL k).1) 2 2 ps
  |.m_=>ar (cW (FL k).1) 2 2 ps
  |.p7=>ar (du (FL k).1) 2 2 ps
  |.q8=>ar (dI (FL k).1) 2 2 ps
  |.found=>ar (oX (FL k).1) 2 4 ps
  |.J9=>ar (cL (FL k).1) 2 2 ps
  |.K9=>ar (gQ (FL k).1) 2 3 ps
  |.K7=>ar (fL (FL k).1) 1 1 ps
  |.escaped=>ar (nR (FL k).1) 4 7 ps
  |_=>.bad,fun f ps h=>match f with
  |.K4=>cP (mJ (FL k).1 (FL k).2.1) 3 7 ps h
  |.Qq=>cP (mK (FL k).1 (FL k).2.1) 4 12 ps h
  |.N8=>cP (dz (FL k).1) 3 3 ps h
  |.t_=>cP (bU (FL k).1 (FL k).2.1) 4 8 ps h
  |.v8=>cP (kF (FL k).1 (FL k).2.1) 4 11 ps h
  |.C_=>cP (kf (FL k).1) 2 4 ps h
  |.Pb=>cP (nM (FL k).1 (FL k).2.1) 3 3 ps h
  |.I_=>cP (jt (FL k).1 (FL k).2.1) 5 9 ps h
  |.Px=>cP (mI (FL k).1 (FL k).2.1) 6 17 ps h
  |_=>.bad,fun f ps h=>match f with
  |.Rr=>bo (iE (FL k).1) 1 13 ps h
  |.O1=>bo (kS (FL k).1 (FL k).2.1 (FL k).2.2) 4 7 ps h
  |.filled=>bo (lR (FL k).1 (FL k).2.2) 2 4 ps h
  |.O2=>bo (kU (FL k).1 (FL k).2.2) 1 2 ps h
  |.M9=>bo (kW (FL k).1 (FL k).2.1) 4 7 ps h
  |.u9=>bo (kj (FL k).1 (FL k).2.2) 3 6 ps h
  |.j_=>vU (gU (FL k).1) 1 1 ps h
  |.j7=>bo (dM (FL k).1) 1 1 ps h
  |.i_=>bo (dO (FL k).1) 2 2 ps h
  |.s7=>bo (jy (FL k).1) 2 2 ps h
  |.G3=>bo (fP (FL k).1 (FL k).2.2 (Nat.ble 2 (dl k))) 3 5 ps h
  |.g_=>bo (bG (FL k).1 (FL k).2.2 (Nat.ble 2 (dl k))) 2 3 ps h
  |.w6=>bo (cO (FL k).1 (FL k).2.2) 3 6 ps h
  |.d8=>bo (bH (FL k).1 (FL k).2.2 (Nat.ble 2 (dl k))) 2 3 ps h
  |.j5=>bo (bL (FL k).1 (FL k).2.2 (Nat.ble 2 (dl k))) 2 3 ps h
  |.j8=>bo (bZ (FL k).1 (FL k).2.2) 3 3 ps h
  |.k_=>bo (dD (FL k).1 (Nat.ble 2 (dl k))) 1 1 ps h
  |_=>.bad)
abbrev X_(k:Nat):DD:=(FL k).2.2
abbrev F(k:Nat):CC:=(FL k).1
abbrev L(k:Nat):DD:=(FL k).2.1
set_option genSizeOf false in
structure Sys(G:SC) where
 adr:Fn->Addr
 fd:Fn->FuncData
 K6:Nat->Addr
 ok:∀f,W3 G.K (lH f) (wc f) (mQ f) (adr f) (fd f)
 bi:∀f,hX G.K (fd f) (lF f) []
 m:∀f,zD f=true->G.mg (lH f)=some (.ref (adr f))
 n:∀i,G.mg (Hh i)=none
 H6:∃t,G.mg "LINE_LETTERS"=some (.str (S [126,110]) t)
 K3:∃t,G.mg "LINE_SIGNS"=some (.str (S [126,10]) t)
 G_:∃t,G.mg "MOST_COUNTED"=some (.int 2000 t)
 K1:∃t,G.mg "MOST_SIGNS"=some (.int 400 t)
 v9:∃t,G.mg "MOST_WORD_SIGNS"=some (.int 40 t)
 G5:∃t,G.mg "PLAIN_LETTERS"=some (.str (S [126,108,103,97,98,110]) t)
 J5:∃t,G.mg "PLAIN_SIGNS"=some (.str (S [126,60,62,38,124,10]) t)
 A_:∃t,G.mg "QUOTED_LETTERS"=some (.str (S [94,113,110]) t)
 G9:∃t,G.mg "QUOTED_SIGNS"=some (.str (S [94,34,10]) t)
 QT:∃t,G.mg "SIGNS"=some (.str (S br) t)
 J_:∃t,G.mg "WORD_SIGNS"=some (.str (S cu) t)
 Rg:G.T 0=some (K6 0)
 UW:G.mg "Word"=some (.ref (K6 0))
 Qd:G.T 1=some (K6 1)
 Tr:G.mg "Number"=some (.ref (K6 1))
 Qc:G.T 2=some (K6 2)
 Tq:G.mg "Quoted"=some (.ref (K6 2))
 Qy:G.T 3=some (K6 3)
 T9:G.mg "Plain"=some (.ref (K6 3))
 Rh:G.T 4=some (K6 4)
 U0:G.mg "Line"=some (.ref (K6 4))
 Qk:G.T 500=some (K6 500)
 Qo:G.mg "Refused"=some (.ref (K6 500))
 O7:G.T 600=some (K6 600)
 Vn:G.mg "Pen"=some (.ref (K6 600))
 PJ:Cls G.K (K6 0)
 R7:W.makesIn G.K (K6 0)=true/\W.findIn G.K (.ref (K6 0)) "__init__"=some (some (.builtin "object.__init__"))/\W.keepIn G.K (.ref (K6 0))=true
 QX:cD G.K (K6 0) "coded" (adr .g8)
 Rm:cD G.K (K6 0) "fits" (adr .G6)
 Qe:cD G.K (K6 0) "spelling" (adr .p8)
 M4:Cls G.K (K6 1)
 QS:W.makesIn G.K (K6 1)=true/\W.findIn G.K (.ref (K6 1)) "__init__"=some (some (.builtin "object.__init__"))/\W.keepIn G.K (.ref (K6 1))=true
 Qv:cD G.K (K6 1) "coded" (adr .g8)
 QD:cD G.K (K6 1) "fits" (adr .u6)
 Pu:cD G.K (K6 1) "spelling" (adr .n8)
 L_:Cls G.K (K6 2)
 QM:W.makesIn G.K (K6 2)=true/\W.findIn G.K (.ref (K6 2)) "__init__"=some (some (.builtin "object.__init__"))/\W.keepIn G.K (.ref (K6 2))=true
 Qu:cD G.K (K6 2) "coded" (adr .g8)
 QB:cD G.K (K6 2) "fits" (adr .v7)
 Pn:cD G.K (K6 2) "spelling" (adr .m_)
 O3:Cls G.K (K6 3)
 Rk:W.makesIn G.K (K6 3)=true/\W.findIn G.K (.ref (K6 3)) "__init__"=some (some (.builtin "object.__init__"))/\W.keepIn G.K (.ref (K6 3))=true
 QC:cD G.K (K6 3) "coded" (adr .g8)
 QZ:cD G.K (K6 3) "fits" (adr .D_)
 Pz:cD G.K (K6 3) "spelling" (adr .p7)
 PL:Cls G.K (K6 4)
 R8:W.makesIn G.K (K6 4)=true/\W.findIn G.K (.ref (K6 4)) "__init__"=some (some (.builtin "object.__init__"))/\W.keepIn G.K (.ref (K6 4))=true
 Q0:cD G.K (K6 4) "coded" (adr .g8)
 Ro:cD G.K (K6 4) "fits" (adr .H7)
 Qg:cD G.K (K6 4) "spelling" (adr .q8)
 K_:Cls G.K (K6 600)
 Vl:∀f∈Uy 600,tQ G.K (K6 600) f
 Vm:Mk G.K (K6 600) (adr .j_)
 M7:cD G.K (K6 600) "outcome_written" (adr .j7)
 M8:cD G.K (K6 600) "outcome_refused" (adr .i_)
 Rn:cD G.K (K6 600) "write" (adr .s7)
 Sw:cD G.K (K6 600) "put" (adr .G3)
 O9:cD G.K (K6 600) "truth_wanted" (adr .g_)
 O_:cD G.K (K6 600) "thing_wanted" (adr .d8)
 Pq:cD G.K (K6 600) "list_wanted" (adr .j5)
 Pr:cD G.K (K6 600) "begin_round" (adr .j8)
 Qf:cD G.K (K6 600) "count_one" (adr .k_)
 u_:W.exmOne G.K (.ref (K6 500)) (.ref (K6 500))=some true
 Q5:Xk G.K (K6 500) (adr .n_) "word"
section
variable{S:SC}{k:Nat}{X:Cx}
def kP(Y:Sys S):∀C Ca,fj C=true->S.T C=some Ca->W.exmOne S.K (.ref Ca) (.ref (Y.K6 500))=some true:=by
 intro C Ca h ha;unfold fj at h;split at h
 .cases Y.Qk.symm.trans ha;exact Y.u_
 .cases h
def zk(Y:Sys S):∀C Ca,kx C=true->S.T C=some Ca->V0 C="word"/\∃fI,Xk S.K Ca fI "word":=by
 intro C Ca h ha;unfold kx at h;split at h
 .cases Y.Qk.symm.trans ha;exact⟨rfl,_,Y.Q5⟩
 .cases h
def Bb(Y:Sys S)(h1:X.toSC=S:=by rfl):OC X 600:=by subst h1;exact⟨_,Y.O7,Y.K_,Y.Vl⟩
def CE(Y:Sys S)(h1:X.toSC=S:=by rfl):ZN X 0 "Word":=by subst h1;exact⟨_,Y.Rg,Y.R7.1,Y.R7.2.1,Y.R7.2.2,Y.UW⟩
def yH(Y:Sys S)(h1:X.toSC=S:=by rfl):ZN X 1 "Number":=by subst h1;exact⟨_,Y.Qd,Y.QS.1,Y.QS.2.1,Y.QS.2.2,Y.Tr⟩
def yG(Y:Sys S)(h1:X.toSC=S:=by rfl):ZN X 2 "Quoted":=by subst h1;exact⟨_,Y.Qc,Y.QM.1,Y.QM.2.1,Y.QM.2.2,Y.Tq⟩
def zS(Y:Sys S)(h1:X.toSC=S:=by rfl):ZN X 3 "Plain":=by subst h1;exact⟨_,Y.Qy,Y.Rk.1,Y.Rk.2.1,Y.Rk.2.2,Y.T9⟩
def CF(Y:Sys S)(h1:X.toSC=S:=by rfl):ZN X 4 "Line":=by subst h1;exact⟨_,Y.Rh,Y.R8.1,Y.R8.2.1,Y.R8.2.2,Y.U0⟩
def sc:∀f,kI (sS f) (lF f) (aR (mQ f)):=fun f=>by cases f<;>exact⟨rfl,rfl,rfl,by decide+kernel,rfl,by decide+kernel,by decide+kernel⟩
def vH(Y:Sys S)(h1:X.toSC=S:=by rfl):ZI X 500 "Refused":=by subst h1;exact⟨_,_,_,_,Y.Qk,Y.Qo,BX (Y.ok .n_) (sc .n_) rfl rfl rfl rfl,Y.Q5,Y.bi .n_⟩
def WM:Fn->Nat
 |.j7=>600
 |.i_=>600
 |.s7=>600
 |.G3=>600
 |.g_=>600
 |.d8=>600
 |.j5=>600
 |.j8=>600
 |.k_=>600
 |.j_=>600
 |_=>0
def Ek:Fn->Bool
 |.j7=>true
 |.i_=>true
 |.s7=>true
 |.G3=>true
 |.g_=>true
 |.d8=>true
 |.j5=>true
 |.j8=>true
 |.k_=>true
 |_=>false
def Ke:Fn->Bool
 |.j_=>true
 |_=>false
def Kf:Fn->Bool
 |.i_=>true
 |_=>false
def clN:Fn->Str
 |.j_=>"Pen"
 |_=>""
structure Tb(Y:Sys S)(k:Nat):Prop where
 p:∀f,Vb S (dl k) (Y.adr f) (Y.fd f) (lF f) (F k f)
 l:∀f,Uc S true (dl k) (Y.adr f) (Y.fd f) (lF f) (L k f)
 x:∀f,Uc S true (dl k) (Y.adr f) (Y.fd f) (lF f) (X_ k f)
 h:∀f,Kf f=true->Uc S false (dl k) (Y.adr f) (Y.fd f) (lF f) (X_ k f)
structure Bu(Y:Sys S)(k:Nat)(A:Around):Prop extends Tb Y k where
 hr:dP (dl k+1) A
variable{Y:Sys S}{A:Around}{e o:Expr}{es:List Expr}{fo:Ex}{fs:Ax}{pos p0 apos:Pos}{x m:Str}{pl:Sem Bool}
def Bu.r(B:Bu Y k A):dP (dl k) A:=B.hr.mono (agi _)
theorem om(Y:Sys S)(f:Fn)(h:Ek f=true):∃Ca,S.T (WM f)=some Ca/\Cls S.K Ca/\cD S.K Ca (lH f) (Y.adr f)/\lH f∉Uy (WM f):=by
 cases f with
 |j7=>exact⟨_,Y.O7,Y.K_,Y.M7,by decide⟩
 |i_=>exact⟨_,Y.O7,Y.K_,Y.M8,by decide⟩
 |s7=>exact⟨_,Y.O7,Y.K_,Y.Rn,by decide⟩
 |G3=>exact⟨_,Y.O7,Y.K_,Y.Sw,by decide⟩
 |g_=>exact⟨_,Y.O7,Y.K_,Y.O9,by decide⟩
 |d8=>exact⟨_,Y.O7,Y.K_,Y.O_,by decide⟩
 |j5=>exact⟨_,Y.O7,Y.K_,Y.Pq,by decide⟩
 |j8=>exact⟨_,Y.O7,Y.K_,Y.Pr,by decide⟩
 |k_=>exact⟨_,Y.O7,Y.K_,Y.Qf,by decide⟩
 |_=>cases h
theorem oi(Y:Sys S)(f:Fn)(h:Ke f=true):∃Ca,S.T (WM f)=some Ca/\Mk S.K Ca (Y.adr f)/\S.mg (clN f)=some (.ref Ca):=by
 cases f with
 |j_=>exact⟨_,Y.O7,Y.Vm,Y.Vn⟩
 |_=>cases h
structure Ja(S:SC)(X:Cx)(A:Around)(n x:Str)(y:Bool):Prop where
 a:X.toSC=S
 b:X.A=A
 c:n=x
 d:y=true
 e:Gl X x
 f:X.calm=true
 g:(x==("__debug__":Str))=false
structure Jo(S:SC)(X:Cx)(A:Around)(n x:Str)(y:Bool):Prop where
 a:X.toSC=S
 b:X.A=A
 c:n=x
 d:y=true
 e:X.calm=true
def zc(B:Bu Y k A)(f:Fn)(ha:RA X (e::es) fs)(h:Ja S X A (lH f) x (zD f):=by exact⟨rfl,rfl,rfl,rfl,rfl,rfl,by decide⟩)(j:J2 X e es pos:=by exact⟨rfl,rfl⟩):RE X (.Call (.Name x p0) (e::es) [] pos) (aI (F k f) fs):=by obtain⟨rfl,rfl,rfl,hp,hg,hc,Qt⟩:=h;exact Dt ⟨_,_,_,_,B.p f,B.r,Y.m f hp,(Y.ok f).kp,Y.bi f⟩ hg ha hc Qt j.a j.b
def zc0(B:Bu Y k A)(f:Fn)(h:Ja S X A (lH f) x (zD f):=by exact⟨rfl,rfl,rfl,rfl,rfl,rfl,by decide⟩):RE X (.Call (.Name x p0) [] [] pos) (aI (F k f) ai):=by obtain⟨rfl,rfl,rfl,hp,hg,hc,Qt⟩:=h;exact AO ⟨_,_,_,_,B.p f,B.r,Y.m f hp,(Y.ok f).kp,Y.bi f⟩ hg hc Qt
def zT(B:Bu Y k A)(f:Fn)(ha:RA X (e::es) fs)(h1:X.toSC=S:=by rfl)(h2:X.A=A:=by rfl)(hx:lH f=x:=by rfl)(hp:zD f=true:=by rfl)(hg:Gl X x:=by rfl)(hc:X.calm=true:=by rfl)(Qt:nD0 x:=by decide)(he:sE0 X e es:=by rfl)(S_:sP0 X es pos:=by rfl):RE X (.Call (.Name x p0) (e::es) [] pos) (qL (F k f) fs):=by subst h1 h2 hx;exact AK ⟨_,_,_,_,B.p f,B.r,Y.m f hp,(Y.ok f).kp,Y.bi f⟩ hg ha hc Qt he S_
def zd(B:Bu Y k A)(f:Fn)(ha:RA X (e::es) fs)(h:Ja S X A (lH f) x (zD f):=by exact⟨rfl,rfl,rfl,rfl,rfl,rfl,by decide⟩)(j:J2 X e es pos:=by exact⟨rfl,rfl⟩):RE X (.Call (.Name x p0) (e::es) [] pos) (bx (L k f) fs):=by obtain⟨rfl,rfl,rfl,hp,hg,hc,Qt⟩:=h;exact AL ⟨_,_,_,_,_,B.l f,B.r,fun _=>hc,Y.m f hp,(Y.ok f).kp,Y.bi f⟩ hg ha Qt j.a j.b
def zh(B:Bu Y k A)(f:Fn)(ha:RA X (e::es) fs)(h:Ja S X A (lH f) x (zD f):=by exact⟨rfl,rfl,rfl,rfl,rfl,rfl,by decide⟩)(j:J2 X e es pos:=by exact⟨rfl,rfl⟩):RE X (.Call (.Name x p0) (e::es) [] pos) (cB (X_ k f) fs):=by obtain⟨rfl,rfl,rfl,hp,hg,hc,Qt⟩:=h;exact AM ⟨_,_,_,_,_,B.x f,B.r,fun _=>hc,Y.m f hp,(Y.ok f).kp,Y.bi f⟩ hg ha Qt j.a j.b
def zo(B:Bu Y k A)(f:Fn)(ho:RE X o fo)(ha:RA X (e::es) fs)(h:Jo S X A (lH f) m (Ek f):=by exact⟨rfl,rfl,rfl,rfl,rfl⟩)(j:J2 X e es pos:=by exact⟨rfl,rfl⟩)(ht:eval (.Call (.Attribute o m apos) (e::es) [] pos) X.env=(do
   let ov <- eval o X.env
   standAt apos.atName
   let(f,first) <- holding [ov] (getMethod ov m pl)
   callWith pos f first (backTo pos (starEach (e::es) X.env)) (backToKw pos (keywordEach [] X.env))):=by rfl):RE X (.Call (.Attribute o m apos) (e::es) [] pos) (cZ (WM f) (X_ k f) fo fs):=by
 obtain⟨rfl,rfl,rfl,hp,hc⟩:=h;obtain⟨_,a,b,c,d⟩:=om Y f hp;exact uy (pl:=pl) ⟨_,_,_,_,_,_,a,b,c,d,B.x f,B.r,fun _=>hc,Y.bi f⟩ ho ha j.a j.b ht
def zo0(B:Bu Y k A)(f:Fn)(ho:RE X o fo)(h:Jo S X A (lH f) m (Ek f):=by exact⟨rfl,rfl,rfl,rfl,rfl⟩)(ht:eval (.Call (.Attribute o m apos) [] [] pos) X.env=(do
   let ov <- eval o X.env
   standAt apos.atName
   let(f,first) <- holding [ov] (getMethod ov m pl)
   callWith pos f first (backTo pos (starEach [] X.env)) (backToKw pos (keywordEach [] X.env))):=by rfl):RE X (.Call (.Attribute o m apos) [] [] pos) (cZ (WM f) (X_ k f) fo ai):=by
 obtain⟨rfl,rfl,rfl,hp,hc⟩:=h;obtain⟨_,a,b,c,d⟩:=om Y f hp;exact yY (pl:=pl) ⟨_,_,_,_,_,_,a,b,c,d,B.x f,B.r,fun _=>hc,Y.bi f⟩ ho ht
def zoH{v:Option Value}(B:Bu Y k A)(f:Fn)(ho:RE X o fo)(ha:RA X (e::es) fs)(h1:X.toSC=S:=by rfl)(h2:X.A=A.mark v:=by rfl)(hx:lH f=m:=by rfl)(hp:Ek f=true:=by rfl)(hh:Kf f=true:=by rfl)(he:sE0 X e es:=by rfl)(S_:sP0 X es pos:=by rfl)(ht:eval (.Call (.Attribute o m apos) (e::es) [] pos) X.env=(do
   let ov <- eval o X.env
   standAt apos.atName
   let(f,first) <- holding [ov] (getMethod ov m pl)
   callWith pos f first (backTo pos (starEach (e::es) X.env)) (backToKw pos (keywordEach [] X.env))):=by rfl):RE X (.Call (.Attribute o m apos) (e::es) [] pos) (cZ (WM f) (X_ k f) fo fs):=by
 subst h1 hx;obtain⟨_,a,b,c,d⟩:=om Y f hp;exact uy (pl:=pl) ⟨_,_,_,_,_,_,a,b,c,d,B.h f hh,h2▸⟨B.r.dp,B.r.un,B.r.gd⟩,fun z=>(nomatch z),Y.bi f⟩ ho ha he S_ ht
def zk0(B:Bu Y k A)(f:Fn)(h:Ja S X A (clN f) x (Ke f):=by exact⟨rfl,rfl,rfl,rfl,rfl,rfl,by decide⟩):RE X (.Call (.Name x p0) [] [] pos) (Ck (WM f) (X_ k f) ai):=by obtain⟨rfl,rfl,rfl,hp,hg,hc,Qt⟩:=h;obtain⟨_,a,b,c⟩:=oi Y f hp;exact Dn ⟨_,_,_,_,_,_,a,b,B.x f,B.hr,fun _=>hc,c,Y.bi f⟩ hg Qt
def CA(B:Bu Y k A)(h1:X.toSC=S:=by rfl)(h2:X.A=A:=by rfl):ZM X "coded" (mF (F k)):=by
 subst h1 h2;refine⟨fun C fn h=>?_⟩;unfold mF at h
 split at h
 .cases h;exact⟨_,_,_,_,_,Y.Rg,Y.PJ,Y.QX,B.p .g8,B.r,Y.bi .g8⟩
 .cases h;exact⟨_,_,_,_,_,Y.Qd,Y.M4,Y.Qv,B.p .g8,B.r,Y.bi .g8⟩
 .cases h;exact⟨_,_,_,_,_,Y.Qc,Y.L_,Y.Qu,B.p .g8,B.r,Y.bi .g8⟩
 .cases h;exact⟨_,_,_,_,_,Y.Qy,Y.O3,Y.QC,B.p .g8,B.r,Y.bi .g8⟩
 .cases h;exact⟨_,_,_,_,_,Y.Rh,Y.PL,Y.Q0,B.p .g8,B.r,Y.bi .g8⟩
 .cases h
def EW(B:Bu Y k A)(h1:X.toSC=S:=by rfl)(h2:X.A=A:=by rfl):ZM X "fits" (qD (F k)):=by
 subst h1 h2;refine⟨fun C fn h=>?_⟩;unfold qD at h
 split at h
 .cases h;exact⟨_,_,_,_,_,Y.Rg,Y.PJ,Y.Rm,B.p .G6,B.r,Y.bi .G6⟩
 .cases h;exact⟨_,_,_,_,_,Y.Qd,Y.M4,Y.QD,B.p .u6,B.r,Y.bi .u6⟩
 .cases h;exact⟨_,_,_,_,_,Y.Qc,Y.L_,Y.QB,B.p .v7,B.r,Y.bi .v7⟩
 .cases h;exact⟨_,_,_,_,_,Y.Qy,Y.O3,Y.QZ,B.p .D_,B.r,Y.bi .D_⟩
 .cases h;exact⟨_,_,_,_,_,Y.Rh,Y.PL,Y.Ro,B.p .H7,B.r,Y.bi .H7⟩
 .cases h
def vE(B:Bu Y k A)(h1:X.toSC=S:=by rfl)(h2:X.A=A:=by rfl):ZM X "spelling" (jo (F k)):=by
 subst h1 h2;refine⟨fun C fn h=>?_⟩;unfold jo at h
 split at h
 .cases h;exact⟨_,_,_,_,_,Y.Rg,Y.PJ,Y.Qe,B.p .p8,B.r,Y.bi .p8⟩
 .cases h;exact⟨_,_,_,_,_,Y.Qd,Y.M4,Y.Pu,B.p .n8,B.r,Y.bi .n8⟩
 .cases h;exact⟨_,_,_,_,_,Y.Qc,Y.L_,Y.Pn,B.p .m_,B.r,Y.bi .m_⟩
 .cases h;exact⟨_,_,_,_,_,Y.Qy,Y.O3,Y.Pz,B.p .p7,B.r,Y.bi .p7⟩
 .cases h;exact⟨_,_,_,_,_,Y.Rh,Y.PL,Y.Qg,B.p .q8,B.r,Y.bi .q8⟩
 .cases h
end
def ck{N:Zl}{Vk scope:Scope}{m6:Y1}{vs M:Zl}(_:M=vs++m6.map fun i=>N.getD i "")(h:tE N Vk scope m6 vs M=true):fZ N Vk scope m6 vs M:=fZ.of h
def RR{S:SC}(Y:Sys S)(c:Bool)(k:Nat)(f:Fn)(b:Sx):Prop:=∀(X:Cx)(cd:Value)(A:Around)(s:Shared),X.toSC=S->dP (dl k+1) (A.deeper (envOfC (wc f) (aR (mQ f)) s.heap.objs.size (Y.adr f) cd))->Tw (jp c X (sS f) (wc f) (aR (mQ f)) (Y.adr f) cd A s) (gN (mQ f)) b
section
variable{S:SC}{Y:Sys S}{c:Bool}{k:Nat}{f:Fn}{b:Sx}
def rz(T:Tb Y k)(h:∀(X:Cx)(Y:Sys X.toSC)(cd:Value)(A:Around)(s:Shared),Bu Y k (jp c X (sS f) (wc f) (aR (mQ f)) (Y.adr f) cd A s).A->(jp c X (sS f) (wc f) (aR (mQ f)) (Y.adr f) cd A s).A.units+64<cLine->(∀i,X.mg (Hh i)=none)->Tw (jp c X (sS f) (wc f) (aR (mQ f)) (Y.adr f) cd A s) (gN (mQ f)) b):RR Y c k f b:=fun X cd A s e hr=>by subst e;exact h X Y cd A s ⟨T,hr⟩ (hr.mono (agi _)).units Y.n
def fp(h:RR Y true k f b):Vb S (dl (k+1)) (Y.adr f) (Y.fd f) (lF f) (ar b (lF f).length (sS f).length):=EB (Y.ok f) (sc f) h
def fl(h:RR Y c k f b):Uc S c (dl (k+1)) (Y.adr f) (Y.fd f) (lF f) (cP b (lF f).length (sS f).length):=tv (Y.ok f) (sc f) h KO
def fi(h:RR Y c k f b):Uc S c (dl (k+1)) (Y.adr f) (Y.fd f) (lF f) (vU b (lF f).length (sS f).length):=tv (Y.ok f) (sc f) h KP
def fe(h:RR Y c k f b):Uc S c (dl (k+1)) (Y.adr f) (Y.fd f) (lF f) (bo b (lF f).length (sS f).length):=tv (Y.ok f) (sc f) h KR
end
section
variable{S:SC}{Y:Sys S}{k:Nat}(T:Tb Y k)
include T
set_option maxHeartbeats 0 in
theorem Cq:Tb Y (k+1):=by
 refine⟨fun f=>?_,fun f=>?_,fun f=>?_,fun f h=>?_⟩<;>cases f<;>(first|exact .bad|(cases h;done)|refine fp (rz T fun X Y _ _ _ B hu n=>?_)|refine fl (rz T fun X Y _ _ _ B hu n=>?_)|refine fe (rz T fun X Y _ _ _ B hu n=>?_)|refine fg (rz T fun X Y _ _ _ B hu n=>?_)|refine fi (rz T fun X Y _ _ _ B hu n=>?_)|refine fh (rz T fun X Y _ _ _ B hu n=>?_))<;>
  (repeat' first
   |(refine(?_:Tw _ _ _);first|refine zr ?_|refine xI ?_|exact CU|refine Ay ?_ ?_)
   |(refine(?_:RS _ _ _);first|refine Mh ?_|refine Jf ?_ ?_ ?_|refine Dc ?_|refine zf ?_ ?_ ?_|refine CZ ?_ ?_ ?_|refine yU (vH Y) B.r rfl ?_|refine GD ?_ ?_|refine GC (Bb Y) rfl ?_ ?_|refine Az ?_ ?_ ?_|exact AA|refine CY (kP Y) ?_ (fun _=>?_) rfl rfl rfl Y.Qo|refine zfL ?_ ?_ ?_|refine CV (kP Y) ?_ (fun _=>?_) rfl rfl rfl Y.Qo|refine uu (ck (by rfl) (by kernel_rfl)) ?_ (fun _ _=>?_) (fun _ _=>?_) rfl rfl (by with_unfolding_all rfl)|refine ut (ck (by rfl) (by kernel_rfl)) ?_ (fun _ _=>?_) (fun _ _=>?_) rfl rfl (by with_unfolding_all rfl))
   |(refine(?_:RE _ _ _);first|(refine(?_:RE _ (.Name _ _) _);first|exact rv _|exact glI Y.K1|exact glI Y.G_|exact YW (n .list)|exact YW (n .tuple)|exact glI Y.v9|exact Wf Y.J_|exact Wf Y.G9|exact Wf Y.A_|exact Wf Y.J5|exact Wf Y.G5|exact Wf Y.K3|exact Wf Y.H6|exact Wf Y.QT)|(refine(?_:RE _ (.Constant _ _ _) _);first|exact GY|exact rst|exact GS|exact Jl)|(refine(?_:RE _ (.Call (.Attribute _ _ _) _ _ _) _);first|refine uA Gn PySem.F.plainAttrs_list PySem.F.slot_list_append PySem.F.type_list_append zw ?_ ?_|refine uA Ac agw PySem.F.slot_str_join PySem.F.type_str_join DW ?_ ?_|refine zo B .s7 ?_ ?_|refine zo B .d8 ?_ ?_|refine uA Ac agw PySem.F.slot_str_find PySem.F.type_str_find DX ?_ ?_|refine zo0 B .k_ ?_|refine zo B .G3 ?_ ?_|refine zo B .g_ ?_ ?_|refine zo B .j5 ?_ ?_|refine zo B .j8 ?_ ?_|refine uA Ae agp afL PySem.F.type_dict_setdefault zv ?_ ?_|refine zoH B .i_ ?_ ?_|refine zo0 B .j7 ?_|refine uA Ae agp agI PySem.F.type_dict_get Hn ?_ ?_)|(refine(?_:RE _ (.Call _ _ _ _) _);first|refine zc B _ ?_|refine zd B _ ?_|refine zh B _ ?_|refine zl (n .len) ?_|refine zt JA (n .int) ?_|refine W4 (n .isinstance) (n .list) ?_|refine W4 (n .isinstance) (n .bool) ?_|refine W4 (n .isinstance) (n .dict) ?_|refine W4 (n .isinstance) (n .tuple) ?_|refine zt Ju (n .str) ?_|exact zk0 B .j_|refine zt DI (n .tuple) ?_|refine zb (JE rfl) (n .all) ?_|refine zt DR (n .dict) ?_|refine W4 (n .isinstance) (n .int) ?_|refine zb JG (n .abs) ?_|refine W4 (n .isinstance) (n .str) ?_|refine zT B .N_ ?_|refine zT B .spelt ?_|refine zt (DQ rfl) (n .dict) ?_|refine zb DM (n .isinstance) ?_|refine zb (Jw rfl) (n .min) ?_|refine zb (Jx rfl) (n .max) ?_|exact zc0 B _)|(refine(?_:RE _ (.Subscript _ _ _) _);first|refine Jj ?_ ?_|refine yX ?_ ?_ ?_)|(refine(?_:RE _ (.BinOp _ _ _ _) _);first|refine GW ?_ ?_|refine Dw ?_ ?_|refine Dq ?_ ?_|refine GV ?_ ?_|refine GL ?_ ?_)|refine GK ?_|refine GX ?_|refine Do ?_|refine req hu ?_ ?_|refine Ds (ck (by rfl) (by kernel_rfl)) ?_ (fun _ _=>?_) (fun _ _=>?_)|refine AG ?_ ?_ ?_|refine Hc ?_ ?_|refine GP ?_|refine Dr ?_|refine Jk ?_|refine GO ?_ ?_|refine Ha (Bb Y) rfl ?_|refine GU ?_|refine Du ?_ ?_|refine mU Hg ?_ ?_ ?_|refine AH ?_|exact AI|refine Jm (zk Y) ?_|exact Dm|refine sN (EW B) ?_ ?_|refine sN (CA B) ?_ ?_|refine mU JB ?_ ?_ ?_|exact Hb|refine GQ ?_|refine AJ (ck (by rfl) (by kernel_rfl)) ?_ (fun _ _=>?_) (fun _ _=>?_)|refine uz DL Hg ?_ ?_ ?_|refine GZ ?_|refine mU (Bc true hu rfl) ?_ ?_ ?_|refine Ji ?_ ?_|refine uz DL DL ?_ ?_ ?_|refine Dl ?_ ?_|refine sN (vE B) ?_ ?_|exact jD (CE Y) rfl|exact jD (yH Y) rfl|exact jD (yG Y) rfl|exact jD (zS Y) rfl|exact jD (CF Y) rfl|refine mU (DJ hu) ?_ ?_ ?_|refine mU DL ?_ ?_ ?_)
   |(refine(?_:RA _ _ _);first|refine ra1 ?_|refine oK ?_ ?_|exact wb)
   |(refine(?_:RT _ _ _);first|refine Gw ?_|refine rte hu ?_ ?_|refine Gy ?_|refine eT (DJ hu) ?_ ?_ ?_|refine eT JB ?_ ?_ ?_|refine eT Jz ?_ ?_ ?_|refine eT (JC hu) ?_ ?_ ?_|refine eT Hg ?_ ?_ ?_|refine eT (xQ hu) (by with_unfolding_all rfl) ?_ ?_|refine eT Hf ?_ ?_ ?_|refine eT (Mn (by exact hu)) (by with_unfolding_all rfl) ?_ ?_|refine eT (DJ (by exact hu)) ?_ ?_ ?_|refine eT (Bc false hu rfl) ?_ ?_ ?_|refine eT (DS (DJ hu)) ?_ ?_ ?_|refine eT (JD hu) ?_ ?_ ?_|refine eT Mo ?_ ?_ ?_|refine eT (xQ (by exact hu)) (by with_unfolding_all rfl) ?_ ?_|refine RW.rt (Av ?_ ?_)|refine RW.rt (EZ ?_ ?_))
   |(refine(?_:RW _ _ _);first|refine Av ?_ ?_|refine EZ ?_ ?_|refine Gv ?_|refine CT ?_)
   |(refine(?_:RG _ _ _);first|exact lZ|refine GG rfl ?_)
   |(refine(?_:Xl _ _ _);first|refine AF ?_ ?_|exact Dk)
   |(refine(?_:RO _ _ _);first|refine Dg ?_|exact Dh)
   |(refine(?_:RI _ _ _ _);first|refine yW rfl (n .range) ?_|refine GF ?_|refine Di ?_|refine Dj rfl (n .enumerate) ?_)
   |(refine(?_:VB _ _ _);first|exact GI|refine GH ?_)
   |(refine(?_:WX _ _ _ _ _);first|refine AB ?_ ?_ ?_|exact Dd)
   |exact wo _)
end
theorem tO{S:SC}(Y:Sys S):∀k,Tb Y k
 |0=>⟨fun _=>.bad,fun _=>.bad,fun _=>.bad,fun _ _=>.bad⟩
 |k+1=>Cq (tO Y k)
def adP(K:W.Frag)(C:Nat->Addr):Fn->Addr->Prop
 |.j_,a=>cD K (C 600) "__init__" a
 |.j7,a=>cD K (C 600) "outcome_written" a
 |.i_,a=>cD K (C 600) "outcome_refused" a
 |.s7,a=>cD K (C 600) "write" a
 |.G3,a=>cD K (C 600) "put" a
 |.g_,a=>cD K (C 600) "truth_wanted" a
 |.g8,a=>W.findIn K (.ref (C 0)) "coded"=some (some (.ref a))/\W.findIn K (.ref (C 1)) "coded"=some (some (.ref a))/\W.findIn K (.ref (C 2)) "coded"=some (some (.ref a))/\W.findIn K (.ref (C 3)) "coded"=some (some (.ref a))/\W.findIn K (.ref (C 4)) "coded"=some (some (.ref a))/\W.isFn K (.ref a)=true/\W.keepIn K (.ref a)=true
 |.d8,a=>cD K (C 600) "thing_wanted" a
 |.G6,a=>cD K (C 0) "fits" a
 |.u6,a=>cD K (C 1) "fits" a
 |.v7,a=>cD K (C 2) "fits" a
 |.D_,a=>cD K (C 3) "fits" a
 |.H7,a=>cD K (C 4) "fits" a
 |.n_,a=>cD K (C 500) "__init__" a
 |.j5,a=>cD K (C 600) "list_wanted" a
 |.j8,a=>cD K (C 600) "begin_round" a
 |.p8,a=>cD K (C 0) "spelling" a
 |.n8,a=>cD K (C 1) "spelling" a
 |.m_,a=>cD K (C 2) "spelling" a
 |.p7,a=>cD K (C 3) "spelling" a
 |.q8,a=>cD K (C 4) "spelling" a
 |.k_,a=>cD K (C 600) "count_one" a
 |f,a=>W.nsIn K mainGlobals (lH f)=some (some (.ref a))
def us0(h:us.length=0):us= []:=List.eq_nil_of_length_eq_zero h
theorem Wl{n:Nat}(h:us.length=n+1):∃a r,us=a::r/\r.length=n:=by
 cases us with
 |nil=>cases h
 |cons a r=>exact⟨a,r,rfl,by simpa using h⟩
def us1(h:us.length=1):∃a,us= [a]:=by obtain⟨a,r,rfl,z⟩:=Wl h;obtain rfl:=us0 z;exact⟨a,rfl⟩
def us2(h:us.length=2):∃a b,us= [a,b]:=by obtain⟨a,r,rfl,z⟩:=Wl h;obtain⟨b,rfl⟩:=us1 z;exact⟨a,b,rfl⟩
def us3(h:us.length=3):∃a b c,us= [a,b,c]:=by obtain⟨a,r,rfl,z⟩:=Wl h;obtain⟨b,c,rfl⟩:=us2 z;exact⟨a,b,c,rfl⟩
def us4(h:us.length=4):∃a b c d,us= [a,b,c,d]:=by obtain⟨a,r,rfl,z⟩:=Wl h;obtain⟨b,c,d,rfl⟩:=us3 z;exact⟨a,b,c,d,rfl⟩
def us5(h:us.length=5):∃a b c d e,us= [a,b,c,d,e]:=by obtain⟨a,r,rfl,z⟩:=Wl h;obtain⟨b,c,d,e,rfl⟩:=us4 z;exact⟨a,b,c,d,e,rfl⟩
def us6(h:us.length=6):∃a b c d e f,us= [a,b,c,d,e,f]:=by obtain⟨a,r,rfl,z⟩:=Wl h;obtain⟨b,c,d,e,f,rfl⟩:=us5 z;exact⟨a,b,c,d,e,f,rfl⟩
def us7(h:us.length=7):∃a b c d e f g,us= [a,b,c,d,e,f,g]:=by obtain⟨a,r,rfl,z⟩:=Wl h;obtain⟨b,c,d,e,f,g,rfl⟩:=us6 z;exact⟨a,b,c,d,e,f,g,rfl⟩
def fq{K:W.Frag}{Ad:Addr->Prop}{nm ql:Str}{st:Stmt}{ps:Zl}{f:Addr}{od an:Option Addr}{sl:Array (Option Value)}{oc kV dc pm cd ct:Value}(a:Ad f)(l:K.lookup f=some ⟨oc,od,.func (W.fnOf nm ql (oV st) (gN st) (aR st) .none kV dc pm an cd ct),sl⟩)(c:W.codeIn K cd ql=true)(k:W.keepIn K (.ref f)=true)(b:∀(kV doc pm:Value)(an:Option Addr)(WQ ct:Value)(us:Z3),us.length=ps.length->bindArgs (W.fnOf nm ql (oV st) (gN st) (aR st) .none kV doc pm an WQ ct) ⟨us,[]⟩=pure (ps.zip us)):∃a fd,Ad a/\W3 K nm ql st a fd/\hX K fd ps []:=⟨f,_,a,⟨⟨_,_,_,_,_,_,_,_,_,rfl,l,c⟩,k⟩,fun s us _ h=>by rw[adU]at h |-;exact .of_eq (b _ _ _ _ _ _ us h)⟩
def ID{l:W.OpenLaw}{w:World}{K:W.Frag}{h:Heap}{mg:Str->Option Value}{fa:Addr}(X:K.In h)(G:h.Ns mainGlobals mg)(hfa:mg "law"=some (.ref fa))
  {QJ:Addr}
  {O5:Addr}
  {O4:Addr}
  {PX:Addr}
  {QK:Addr}
  {Rw:Addr}
  {B_:Addr}
  {Pj:Tok}
  {Qm:Tok}
  {Qz:Tok}
  {Ri:Tok}
  {Py:Tok}
  {O8:Tok}
  {P0:Tok}
  {N6:Tok}
  {Ph:Tok}
  {Tz:Tok}
  {Ql:Tok}
  (T3:W.nsIn K mainGlobals "Word"=some (some (.ref QJ)))
  (PJ:Cls K QJ)
  (TF:W.makesIn K QJ=true)
  (TQ:W.findIn K (.ref QJ) "__init__"=some (some (.builtin "object.__init__")))
  (TJ:W.keepIn K (.ref QJ)=true)
  (RX:W.nsIn K mainGlobals "Number"=some (some (.ref O5)))
  (M4:Cls K O5)
  (RD:W.makesIn K O5=true)
  (RN:W.findIn K (.ref O5) "__init__"=some (some (.builtin "object.__init__")))
  (RL:W.keepIn K (.ref O5)=true)
  (RQ:W.nsIn K mainGlobals "Quoted"=some (some (.ref O4)))
  (L_:Cls K O4)
  (RB:W.makesIn K O4=true)
  (RM:W.findIn K (.ref O4) "__init__"=some (some (.builtin "object.__init__")))
  (RJ:W.keepIn K (.ref O4)=true)
  (S7:W.nsIn K mainGlobals "Plain"=some (some (.ref PX)))
  (O3:Cls K PX)
  (Sv:W.makesIn K PX=true)
  (SM:W.findIn K (.ref PX) "__init__"=some (some (.builtin "object.__init__")))
  (Sy:W.keepIn K (.ref PX)=true)
  (T4:W.nsIn K mainGlobals "Line"=some (some (.ref QK)))
  (PL:Cls K QK)
  (TG:W.makesIn K QK=true)
  (TV:W.findIn K (.ref QK) "__init__"=some (some (.builtin "object.__init__")))
  (TP:W.keepIn K (.ref QK)=true)
  (UG:W.nsIn K mainGlobals "Pen"=some (some (.ref Rw)))
  (K_:Cls K Rw)
  (Us:W.makesIn K Rw=true)
  (Ut:W.keepIn K (.ref Rw)=true)
  (Qn:W.findIn K (.ref Rw) "parts"=some none)
  (Pk:W.findIn K (.ref Rw) "counted"=some none)
  (Rf:W.nsIn K mainGlobals "Refused"=some (some (.ref B_)))
  (Q6:Cw K B_)
  (u_:W.exmOne K (.ref B_) (.ref B_)=some true)
  (Rb:ph K B_ [.type "Exception",.type "BaseException",.type "object"] "Exception.__new__"=true)
  (Ra:W.keepIn K (.ref B_)=true)
  (Q_:Gm K B_=true)
  (Q9:W.findIn K (.ref B_) "__setattr__"=some (some (.builtin "object.__setattr__")))
  (Q8:W.findIn K (.ref B_) "word"=some none)
  (Q7:W.hasDictIn K B_=true)
  (hf:∀f:Fn,∃a fd,adP K (fun i=>match i with|0=>QJ|1=>O5|2=>O4|3=>PX|4=>QK|600=>Rw|500=>B_|_=>0) f a/\W3 K (lH f) (wc f) (mQ f) a fd/\hX K fd (lF f) [])
  (H6:W.nsIn K mainGlobals "LINE_LETTERS"=some (some (.str "~n" Pj)))
  (K3:W.nsIn K mainGlobals "LINE_SIGNS"=some (some (.str "~\n" Qm)))
  (G_:W.nsIn K mainGlobals "MOST_COUNTED"=some (some (.int 2000 Qz)))
  (K1:W.nsIn K mainGlobals "MOST_SIGNS"=some (some (.int 400 Ri)))
  (v9:W.nsIn K mainGlobals "MOST_WORD_SIGNS"=some (some (.int 40 Py)))
  (G5:W.nsIn K mainGlobals "PLAIN_LETTERS"=some (some (.str "~lgabn" O8)))
  (J5:W.nsIn K mainGlobals "PLAIN_SIGNS"=some (some (.str "~<>&|\n" P0)))
  (A_:W.nsIn K mainGlobals "QUOTED_LETTERS"=some (some (.str "^qn" N6)))
  (G9:W.nsIn K mainGlobals "QUOTED_SIGNS"=some (some (.str "^\"\n" Ph)))
  (QT:W.nsIn K mainGlobals "SIGNS"=some (some (.str "\n !\"#$&'()*+,-./0123456789:;<=>?@ABCDEFGHIJKLMNOPQRSTUVWXYZ[\\]^_`abcdefghijklmnopqrstuvwxyz{|}~" Tz)))
  (J_:W.nsIn K mainGlobals "WORD_SIGNS"=some (some (.str "0123456789ABCDEFGHIJKLMNOPQRSTUVWXYZabcdefghijklmnopqrstuvwxyz" Ql)))
  (hn:∀i:Nt,W.nsIn K mainGlobals (Hh i)=some none):
  ∃(fd:FuncData)(T:Nat->Option Addr),(∀(s:Shared)(u:Value),BindsTo s fd ⟨[u],[]⟩ [("_law_script",u)])/\Vb ⟨l.prog,w,K,mg,h,T⟩ (dl 100) fa fd ["_law_script"] (F 100 .law):=by
 let Y:Sys ⟨l.prog,w,K,mg,h,fun i=>match i with|0=>some QJ|1=>some O5|2=>some O4|3=>some PX|4=>some QK|500=>some B_|600=>some Rw|_=>none⟩:={
  adr:=fun f=>(hf f).choose
  fd:=fun f=>(hf f).choose_spec.choose
  ok:=fun f=>(hf f).choose_spec.choose_spec.2.1
  bi:=fun f=>(hf f).choose_spec.choose_spec.2.2
  m:=fun f hp=>aeJ X G (by have q:=(hf f).choose_spec.choose_spec.1;cases f<;>first|exact q|cases hp)
  n:=fun i=>W.mg_none_of X G (hn i)
  K6:=fun i=>match i with|0=>QJ|1=>O5|2=>O4|3=>PX|4=>QK|500=>B_|600=>Rw|_=>0
  Rg:=rfl
  UW:=aeJ X G T3
  Qd:=rfl
  Tr:=aeJ X G RX
  Qc:=rfl
  Tq:=aeJ X G RQ
  Qy:=rfl
  T9:=aeJ X G S7
  Rh:=rfl
  U0:=aeJ X G T4
  Qk:=rfl
  Qo:=aeJ X G Rf
  O7:=rfl
  Vn:=aeJ X G UG
  u_:=u_
  Q5:=⟨.inr Rb,(hf .n_).choose_spec.choose_spec.1.1,(hf .n_).choose_spec.choose_spec.1.2,Ra,Q_,Q9,Q8,Q7,Q6⟩
  H6:=⟨Pj,(aeJ X G H6).trans (congrArg (fun z=>some (Value.str z Pj)) (by kernel_rfl))⟩
  K3:=⟨Qm,(aeJ X G K3).trans (congrArg (fun z=>some (Value.str z Qm)) (by kernel_rfl))⟩
  G_:=⟨Qz,(aeJ X G G_).trans (rfl)⟩
  K1:=⟨Ri,(aeJ X G K1).trans (rfl)⟩
  v9:=⟨Py,(aeJ X G v9).trans (rfl)⟩
  G5:=⟨O8,(aeJ X G G5).trans (congrArg (fun z=>some (Value.str z O8)) (by kernel_rfl))⟩
  J5:=⟨P0,(aeJ X G J5).trans (congrArg (fun z=>some (Value.str z P0)) (by kernel_rfl))⟩
  A_:=⟨N6,(aeJ X G A_).trans (congrArg (fun z=>some (Value.str z N6)) (by kernel_rfl))⟩
  G9:=⟨Ph,(aeJ X G G9).trans (congrArg (fun z=>some (Value.str z Ph)) (by kernel_rfl))⟩
  QT:=⟨Tz,(aeJ X G QT).trans (congrArg (fun z=>some (Value.str z Tz)) (by kernel_rfl))⟩
  J_:=⟨Ql,(aeJ X G J_).trans (congrArg (fun z=>some (Value.str z Ql)) (by kernel_rfl))⟩
  K_:=K_
  Vl:=fun f hf=>by
   simp only[Uy,adD,aeb,or_false]at hf;rcases hf with rfl|rfl
   .exact Qn
   .exact Pk
  Vm:=⟨Us,(hf .j_).choose_spec.choose_spec.1.1,(hf .j_).choose_spec.choose_spec.1.2,Ut⟩
  M7:=(hf .j7).choose_spec.choose_spec.1
  M8:=(hf .i_).choose_spec.choose_spec.1
  Rn:=(hf .s7).choose_spec.choose_spec.1
  Sw:=(hf .G3).choose_spec.choose_spec.1
  O9:=(hf .g_).choose_spec.choose_spec.1
  O_:=(hf .d8).choose_spec.choose_spec.1
  Pq:=(hf .j5).choose_spec.choose_spec.1
  Pr:=(hf .j8).choose_spec.choose_spec.1
  Qf:=(hf .k_).choose_spec.choose_spec.1
  PJ:=PJ
  R7:=⟨TF,TQ,TJ⟩
  QX:=⟨(hf .g8).choose_spec.choose_spec.1.1,(hf .g8).choose_spec.choose_spec.1.2.2.2.2.2.1,(hf .g8).choose_spec.choose_spec.1.2.2.2.2.2.2⟩
  Rm:=(hf .G6).choose_spec.choose_spec.1
  Qe:=(hf .p8).choose_spec.choose_spec.1
  M4:=M4
  QS:=⟨RD,RN,RL⟩
  Qv:=⟨(hf .g8).choose_spec.choose_spec.1.2.1,(hf .g8).choose_spec.choose_spec.1.2.2.2.2.2.1,(hf .g8).choose_spec.choose_spec.1.2.2.2.2.2.2⟩
  QD:=(hf .u6).choose_spec.choose_spec.1
  Pu:=(hf .n8).choose_spec.choose_spec.1
  L_:=L_
  QM:=⟨RB,RM,RJ⟩
  Qu:=⟨(hf .g8).choose_spec.choose_spec.1.2.2.1,(hf .g8).choose_spec.choose_spec.1.2.2.2.2.2.1,(hf .g8).choose_spec.choose_spec.1.2.2.2.2.2.2⟩
  QB:=(hf .v7).choose_spec.choose_spec.1
  Pn:=(hf .m_).choose_spec.choose_spec.1
  O3:=O3
  Rk:=⟨Sv,SM,Sy⟩
  QC:=⟨(hf .g8).choose_spec.choose_spec.1.2.2.2.1,(hf .g8).choose_spec.choose_spec.1.2.2.2.2.2.1,(hf .g8).choose_spec.choose_spec.1.2.2.2.2.2.2⟩
  QZ:=(hf .D_).choose_spec.choose_spec.1
  Pz:=(hf .p7).choose_spec.choose_spec.1
  PL:=PL
  R8:=⟨TG,TV,TP⟩
  Q0:=⟨(hf .g8).choose_spec.choose_spec.1.2.2.2.2.1,(hf .g8).choose_spec.choose_spec.1.2.2.2.2.2.1,(hf .g8).choose_spec.choose_spec.1.2.2.2.2.2.2⟩
  Ro:=(hf .H7).choose_spec.choose_spec.1
  Qg:=(hf .q8).choose_spec.choose_spec.1 }
 have e:=(Y.m .law rfl).symm.trans hfa;obtain rfl:Y.adr .law=fa:=by injection e with e1;injection e1
 exact⟨Y.fd .law,_,fun s v=>by obtain⟨_,_,_,_,_,_,_,_,_,e,_⟩:=(Y.ok .law).ex;rw[e];exact .of_eq rfl,(tO Y 100).p .law⟩
end T6
namespace Z
open PySem PySem.Spec PyProof.Rows
variable{h:Y3}{ls:Ya}{α:Type}
theorem Res.M_{β:Type}(a:α)(h:Y3)(k:α->Y3->Res β):(Res.ok a h).bind k=k a h:=rfl
theorem LR(a:α)(h:Y3):(Res.ok a h).calm=.ok a h:=rfl
def iQ(c:Nat)(x:Y1):rG [c] x=x.contains c:=by
 unfold rG bC;rw[afQ,List.find?_isSome];simp only[ad3,ado,decide_eq_true_eq,aex,true_and,afx];constructor
 .rintro⟨i,hi,hp⟩
  obtain⟨t,ht⟩:=aer.mp hp;have:c∈x.drop i:=by rw[<- ht];simp
  exact agU this
 .intro h;obtain⟨i,hi⟩:=List.mem_iff_getElem?.mp h
  have Xc:i<x.length:=by
   rcases aeN i x.length with q|q
   .exact q
   .rw[aeK q]at hi;cases hi
  refine⟨i,by lia,aer.mpr ⟨x.drop (i+1),?_⟩⟩;rw[adx Xc,ahu]at hi;rw[<- hi,ae3,<- List.drop_eq_getElem_cons Xc]
theorem yO(ls:Ya):lh (ls.map PV.str)=some ls:=by
 induction ls with
 |nil=>rfl
 |cons l r ih=>simp[lh,ih]
def eG{xs:List α}{j:Int}{v:α}(h0:0<=j)(h:xs[j.toNat]? =some v):PN xs j=some v:=by have:=(adv.mp h).1;simp only[PN,Vq,if_pos h0,if_pos (show j<xs.length by lia)];exact h
def yA(xs:List α)(v:α):PN (xs++ [v]) (-1)=some v:=by
 have e:(-1+((xs.length+1:Nat):Int)).toNat=xs.length:=by lia
 unfold PN Vq;rw[if_neg ⋯,if_pos (by simp only[adt,adH];lia),adt,adH,e];simp
section
variable(ρ:Ev)(h:Y3)
theorem Iw(v:PV):cK v ρ h=.ok v h:=rfl
theorem Iv:ai ρ h=.ok [] h:=rfl
theorem KS:mj ρ h=.ok none h:=rfl
theorem LP(res:Nat->Option (Y2->Out))(o:Ex)(as:Ax):qK res o as ρ h=(o ρ h).bind fun p h1=>match p with|.ins C []=>(match res C with|some fn=>(as ρ h1).bind fun ps h2=>aX fn (.ins C []::ps) h2|none=>.bad)|_=>.bad:=rfl
theorem LN:bv ρ h=.nx ρ h:=rfl
theorem IL:sJ ρ h=.bad:=rfl
theorem KU(g:Gx)(body:Sx):bf g body [] ρ h=.nx ρ h:=rfl
theorem wT(i:Nat)(p:PV):z7 i p ρ=some (ρ.set i (some p)):=rfl
end
section
variable(h:Y3)
theorem NC(i:Int):aj h (.int i)=.int i:=rfl
theorem Oq(i:Bool):aj h (.bl i)=.bl i:=rfl
theorem Ny(i:Y1):aj h (.str i)=.str i:=rfl
theorem Nz:aj h .non=.non:=rfl
theorem Nx(i:Y2):aj h (.tup i)=.tup i:=rfl
theorem NB(i:Y2):aj h (.lst i)=.lst i:=rfl
theorem NF(i:List (PK×PV)):aj h (.dct i)=.dct i:=rfl
theorem ND(c:Nat)(i:List (Str×PV)):aj h (.ins c i)=.ins c i:=rfl
theorem yt(xs:Y2)(r:Y3):aj (.lst xs::r) (.ref 0)=.ref 0:=rfl
theorem LZ(i j:Int):ng (.int i) (.int j) h=.ok (.int (i - j)) h:=rfl
theorem Hm(i j:Int):gX (.int i) (.int j) h=if jg i j=true then .ok (.int (i * j)) h else .bad:=rfl
theorem NR(C:Int->Int->Bool)(g:Int->Int->Int)(i j:Int):pI C g (.int i) (.int j) h=if C i j=true then .ok (.int (g i j)) h else .bad:=rfl
theorem NS(i:Int):wm (.int i) h=.ok (.int (-i)) h:=rfl
theorem NH(g:Int->Int->Bool)(i j:Int):wn g (.int i) (.int j) h=.ok (.bl (g i j)) h:=rfl
theorem OH(p:PV):U9 p .non h=.ok (.bl (mw p)) h:=rfl
theorem Oi(l:Y1)(i:Int):f9 (.str l) (.int i) h=match PN l i with|some c=>if l.length<=sizeLine then .ok (.str [c]) h else .bad|none=>.bad:=rfl
theorem NU(l:Y1):gB [.str l] h=match(if l.length<=sizeLine then some l.length else none)with|some n=>.ok (.int n) h|none=>.bad:=rfl
theorem NT(l:Y2):gB [.tup l] h=.ok (.int l.length) h:=rfl
theorem Fj(l:Y2):gB [.lst l] h=.ok (.int l.length) h:=rfl
@[simp] theorem JK(l:Y2):gB [.Uh l] h=.ok (.int l.length) h:=rfl
theorem My(ps:Y2):bn ps h=if ps.length<=sizeLine then .ok (.lst ps) h else .bad:=rfl
theorem Lu(ps:Y2):eJ ps h=if ps.length<=sizeLine then .ok (.ref h.length) (h++ [.lst ps])else .bad:=rfl
theorem LW(ps:Y2):aM ps h=if ps.length<=sizeLine then .ok (.tup ps) h else .bad:=rfl
theorem Mi(ps:Y2):Ss ps h=.ok (.lst ps) h:=rfl
theorem Lq(ps:Y2):ia ps h=.ok (.ref h.length) (h++ [.lst ps]):=rfl
theorem Ol(b:Bool):jd [.bl b] h=.ok (.int (if b then 1 else 0)) h:=rfl
theorem Ou(i:Int):AW [.int i] h=.ok (.int (if i<0 then -i else i)) h:=rfl
theorem NN(i:Int):uD [.int i] h=if i.natAbs.log2<1920 then .ok (.str (pG i)) h else .bad:=rfl
theorem Lk(l:Y1):lV (.str l) h=.ok (l.map fun c=>PV.str [c]) h:=rfl
theorem Lj(l:Y2):lV (.tup l) h=.ok l h:=rfl
theorem Ll(l:Y2):lV (.lst l) h=.ok l h:=rfl
theorem LM(x y:Y1):mi (.str x) [.str y] h=.ok (.int (mB (bC y x 0))) h:=rfl
theorem LH(x:Y1):isStr h (.str x)=true:=rfl
theorem LK(i:Int):ei h (.int i)=some (.int i,h):=by simp[ei,PV.pure]
theorem Nu(i:Bool):ei h (.bl i)=some (.bl i,h):=by simp[ei,PV.pure]
theorem LJ:ei h .non=some (.non,h):=by simp[ei,PV.pure]
theorem LI(i:Y1):ei h (.str i)=some (.str i,h):=by simp[ei,PV.pure]
theorem LL(c:Nat):ei h (.ins c [])=some (.ins c [],h):=by simp[ei,PV.pure,wg]
theorem KG:RP [] h=some ([],h):=rfl
theorem IK(p:PV)(r:Y2):RP (p::r) h=match ei h p with|some (q,h1)=>(match RP r h1 with|some (qs,h2)=>some (q::qs,h2)|none=>none)|none=>none:=rfl
theorem JI(a b:Y1):jE (.str a) (.str b) h=.ok (.bl (!rG a b)) h:=rfl
theorem NM(b:Bool):sC h (.bl b)=some b:=rfl
theorem Hu(l:Y1):aw [.str l,.ty "str"] h=.ok (.bl true) h:=rfl
theorem Hv(l:Y1):aw [.str l,.ty "int"] h=.ok (.bl false) h:=rfl
theorem Ft(l:Y1):aw [.str l,.ty "bool"] h=.ok (.bl false) h:=rfl
theorem Fs(l:Y1):aw [.str l,.ty "list"] h=.ok (.bl false) h:=rfl
theorem Hy(l:Int):aw [.int l,.ty "str"] h=.ok (.bl false) h:=rfl
theorem Hz(l:Int):aw [.int l,.ty "int"] h=.ok (.bl true) h:=rfl
theorem Fw(l:Int):aw [.int l,.ty "bool"] h=.ok (.bl false) h:=rfl
theorem HD(l:Bool):aw [.bl l,.ty "str"] h=.ok (.bl false) h:=rfl
theorem HE(l:Bool):aw [.bl l,.ty "int"] h=.ok (.bl true) h:=rfl
theorem FC(l:Bool):aw [.bl l,.ty "bool"] h=.ok (.bl true) h:=rfl
theorem Hw(l:Y2):aw [.lst l,.ty "str"] h=.ok (.bl false) h:=rfl
theorem Hx(l:Y2):aw [.lst l,.ty "int"] h=.ok (.bl false) h:=rfl
theorem Fv(l:Y2):aw [.lst l,.ty "bool"] h=.ok (.bl false) h:=rfl
theorem Fu(l:Y2):aw [.lst l,.ty "list"] h=.ok (.bl true) h:=rfl
theorem HA(l:List (PK×PV)):aw [.dct l,.ty "str"] h=.ok (.bl false) h:=rfl
theorem HC(l:List (PK×PV)):aw [.dct l,.ty "int"] h=.ok (.bl false) h:=rfl
theorem FA(l:List (PK×PV)):aw [.dct l,.ty "bool"] h=.ok (.bl false) h:=rfl
theorem Fx(l:List (PK×PV)):aw [.dct l,.ty "list"] h=.ok (.bl false) h:=rfl
theorem Fy(l:List (PK×PV)):aw [.dct l,.ty "dict"] h=.ok (.bl true) h:=rfl
end
def szl:(sizeLine:Nat)=16777216:=by decide
theorem cJ(fn:Y2->Out)(ps:Y2)(h:Y3):aX fn ps h=match RP ps h with|some (qs,h2)=>(match fn qs with|.ok v=>.ok v h2|.bad=>.bad)|none=>.bad:=rfl
def jK{i j:Int}(h:QW 18446744073709551616 j=true):jg i j=true:=by unfold jg;rw[h,ah2,ahA]
def sX{i j:Int}(h:QW 18446744073709551616 i=true):jg i j=true:=by unfold jg;rw[h,ah2]
def jG(a b:Y1)(h:Y3)(ha:∀c∈a,c<1114112)(hb:∀c∈b,c<1114112):z_ (.str a) (.str b) h=.ok (.bl (decide (a=b))) h:=by
 have ok:∀l:Y1,(∀c∈l,c<1114112)->R5 h (.str l)=true:=by intro l hl;unfold R5 QV;simp only[toD,PyData.canLay0,PyData.depth];simp[PyData.strOk,S];exact hl
 unfold z_;rw[if_pos ⟨ok a ha,ok b hb⟩]
 have e:PyData.eqv (QV h (.str a)) (QV h (.str b))=decide (a=b):=by
  show PyData.eqv (toD (.str a)) (toD (.str b))=_;simp only[toD,PyData.eqv]
  by_cases q:a=b
  .subst q;simp
  .have:¬ S a=S b:=fun z=>q (yC z);simp[q,this]
 rw[e]
def vB{xs:List α}{i:Int}(d:α)(h0:0<=i)(h1:i<(xs.length:Int)):PN xs i=some (xs.getD i.toNat d):=by refine eG h0 ?_;rw[adM,adx ⋯];rfl
def uT{xs:List α}{n:Nat}{d:α}(h:n<xs.length):xs.getD n d∈xs:=by rw[adM,adx h];exact aeh h
theorem gR:∀ls:Ya,gw [] ls=ls.flatten
 |[]=>rfl
 |[x]=>by simp[gw]
 |x::y::r=>by show x++ []++gw [] (y::r)=_;rw[gR (y::r),adU];rfl
def iK{sep:Y1}{q:PV}(e:Tt h q=some (ls.map PV.str))(hz:(ls.map (fun l=>l.length)).sum+ls.length * sep.length<=16777216):eK (.str sep) [q] h=.ok (.str (gw sep ls)) h:=by unfold eK;simp only[e,yO,hz,if_true]
def DB(hz:(ls.map (fun l=>l.length)).sum<=16777216):eK (.str []) [.lst (ls.map PV.str)] h=.ok (.str ls.flatten) h:=by rw[iK (ls:=ls) rfl (by simpa using hz),gR]
theorem IC(xs:Y2)(r:Y3)(p:PV):aV (.ref 0) [p] (.lst xs::r)=if xs.length<sizeLine then .ok .non (.lst (xs++ [p])::r)else .bad:=rfl
theorem BC(xs:Y2)(r:Y3):bY (.lst xs::r) (.ref 0)=true:=rfl
def bX(a b:Int)(h:Y3):z_ (.int a) (.int b) h=.ok (.bl (decide (a=b))) h:=by
 have ok:∀l:Int,R5 h (.int l)=true:=fun l=>by unfold R5 QV;simp[toD,PyData.canLay0,PyData.depth]
 unfold z_;rw[if_pos ⟨ok a,ok b⟩]
 have e:PyData.eqv (QV h (.int a)) (QV h (.int b))=decide (a=b):=by
  show PyData.eqv (toD (.int a)) (toD (.int b))=_;simp only[toD,PyData.eqv]
  by_cases q:a=b<;>simp[q]
 rw[e]
def sP(a b:Y1)(h:Y3)(ha:∀c∈a,c<1114112)(hb:∀c∈b,c<1114112):Rc (.str a) (.str b) h=.ok (.bl (!decide (a=b))) h:=by
 have e:=jG a b h ha hb;unfold z_ at e;unfold Rc
 split at e
 .rename_i hc;rw[if_pos hc];injection e with e1 e2
  injection e1 with e1
  rw[e1]
 .cases e
theorem Ai(f:α->Y1)(n:Nat)(h:∀x,(f x).length<=n)(l:List α):((l.map f).map (fun l=>l.length)).sum<=l.length * n:=by
 induction l with
 |nil=>simp
 |cons a r ih=>
  rw[adE,adE,agn,adu,ahv];have:=h a
  lia
variable{m:Nat}{raw h_:Y1}
section
open PySem.NumText (digitsVal AllDigits)
def He{l:Y1}(h:Y3)(hl:∀c∈l,c<1114112):R5 h (.str l)=true:=by unfold R5 QV;simp only[toD,PyData.canLay0,PyData.depth];simp[PyData.strOk,S];exact hl
theorem tO:∀{ls:Ya},(∀l∈ls,∀c∈l,c<1114112)->(ls.map PV.str).all (R5 [])=true
 |[],_=>rfl
 |l::r,h=>by rw[adE,ae2,He [] (h l (by simp)),tO fun z hz=>h z (adG _ hz)];rfl
section
variable(ρ:Ev)(h:Y3)
theorem NE(C:Nat)(v:PV):aj h (.TY C v)= .TY C v:=rfl
end
section
variable(ρ:Ev)(h:Y3)
theorem LO:vz ρ h=.ok (.ref h.length) (h++ [.dct []]):=rfl
theorem NV(l:List (PK×PV)):gB [.dct l] h=.ok (.int l.length) h:=rfl
theorem LQ(l:List (PK×PV)):pV [.dct l] h=.ok (.ref h.length) (h++ [.dct l]):=rfl
theorem Oj(l:List (PK×PV))(x:Y1):f9 (.dct l) (.str x) h=match bj l (.inr x)with|some v=>.ok (aj h v) h|none=>.bad:=rfl
theorem Om(l:List (PK×PV))(x:Y1):jE (.str x) (.dct l) h=.ok (.bl (!(bj l (.inr x)).isSome)) h:=rfl
theorem LU(i j:Int):aG (.int i) (.int j) h=.ok (.int (i+j)) h:=rfl
theorem LS(a b:Y1):aG (.str a) (.str b) h=if a.length+b.length<=sizeLine then .ok (.str (a++b)) h else .bad:=rfl
theorem Op(l:List (PK×PV))(r:Y3):aj (.dct l::r) (.ref 0)=.ref 0:=rfl
theorem BR{l:List (PK×PV)}(r:Y3)(hp:bP l=true):Vv (.ref 0) (.dct l::r)=.ok (.dct l) (.s8 (.dct l)::r):=by simp[Vv,Xg,eM,hp]
theorem eP{p:PV}(hp:p.pure=true):ei h p=some (p,h):=by cases p<;>first|(simp[PV.pure]at hp;done)|simp[ei,hp]
theorem ak{p:PV}(hp:p.pure=true):aj h p=p:=by cases p<;>first|(simp[PV.pure]at hp;done)|rfl
theorem Mg(v:PV)(l:List (PK×PV))(r:Y3)(x:Y1):eO v (.ref 0) (.str x) ρ (.dct l::r)=if l.length<sizeLine then .nx ρ (.dct (aK l (.inr x) v)::r)else .bad:=rfl
end
section
variable{ρ:Ev}
theorem Oo(n:Nat)(gs:VR)(ps:Y2):Ui n gs (.tup ps) ρ=if ps.length=n then gs ps ρ else none:=rfl
theorem OI:gK [] ρ=some ρ:=rfl
theorem Cd(xs:Y2):EJ [.lst xs] h=.ok (Uj 0 xs) h:=rfl
theorem Jc(l:Y1)(lo hi:Zp):pT (.str l) lo hi h=if l.length<=sizeLine then .ok (.str (cut l lo hi)) h else .bad:=rfl
theorem Mw(i j:Int):AU [.int i,.int j] h=.ok (.int (if j>i then j else i)) h:=rfl
end
section
variable(ρ:Ev)(h:Y3)
theorem Ot(ok:Nat->Bool)(C:Nat)(v:PV):Xy ok (.TY C v) h=if ok C=true then .ok v h else .bad:=rfl
end
section
variable(ρ:Ev)(h:Y3)(a K xa:PV)(b:Ev)(c d e f g i j k l m n o p q r s t u v y:Option PV)(w:Nat)(x I O:Ex)(z A:Sx)(B:PV->Y3->Res PV)(C:Y2->Y3->Res PV)(D:Ax)(E:Y2->Out)(G:Y2->Res PV)(H N:PV->PV->Y3->Res PV)(J:Y2)(L:Bool)(M W:Tx)(P Q:Ox)(R:PV->Zp->Zp->Y3->Res PV)(S:Zp)(T:Int)(U:Y3->PV->Bool)(V:PV->Y2->Y3->Res PV)(X:Y1)(Y:Gx)(Z:PV->PV->PV->Ev->Y3->SR)(xb:VR)
theorem kv0:af 0 (some a::b) h=.ok (aj h a) h:=rfl
theorem kv1:af 1 (c::some a::b) h=.ok (aj h a) h:=rfl
theorem kv2:af 2 (c::d::some a::b) h=.ok (aj h a) h:=rfl
theorem kv3:af 3 (c::d::e::some a::b) h=.ok (aj h a) h:=rfl
theorem kv4:af 4 (c::d::e::f::some a::b) h=.ok (aj h a) h:=rfl
theorem kv5:af 5 (c::d::e::f::g::some a::b) h=.ok (aj h a) h:=rfl
theorem kv6:af 6 (c::d::e::f::g::i::some a::b) h=.ok (aj h a) h:=rfl
theorem kv7:af 7 (c::d::e::f::g::i::j::some a::b) h=.ok (aj h a) h:=rfl
theorem kv8:af 8 (c::d::e::f::g::i::j::k::some a::b) h=.ok (aj h a) h:=rfl
theorem kv9:af 9 (c::d::e::f::g::i::j::k::l::some a::b) h=.ok (aj h a) h:=rfl
theorem Oz:af 10 (c::d::e::f::g::i::j::k::l::m::some a::b) h=.ok (aj h a) h:=rfl
theorem Oy:af 11 (c::d::e::f::g::i::j::k::l::m::n::some a::b) h=.ok (aj h a) h:=rfl
theorem Ow:af 12 (c::d::e::f::g::i::j::k::l::m::n::o::some a::b) h=.ok (aj h a) h:=rfl
theorem Ov:af 13 (c::d::e::f::g::i::j::k::l::m::n::o::p::some a::b) h=.ok (aj h a) h:=rfl
def Uu(i:Nat)(ρ:Ev)(r:Res PV):SR:=df r fun v h1=>.nx (ρ.set i (some v)) h1
theorem LA:aA w x ρ h=Uu w ρ (x ρ h):=rfl
theorem ks0:Uu 0 (c::b) (.ok a h)=.nx (some a::b) h:=rfl
theorem ks1:Uu 1 (c::d::b) (.ok a h)=.nx (c::some a::b) h:=rfl
theorem ks2:Uu 2 (c::d::e::b) (.ok a h)=.nx (c::d::some a::b) h:=rfl
theorem ks3:Uu 3 (c::d::e::f::b) (.ok a h)=.nx (c::d::e::some a::b) h:=rfl
theorem ks4:Uu 4 (c::d::e::f::g::b) (.ok a h)=.nx (c::d::e::f::some a::b) h:=rfl
theorem ks5:Uu 5 (c::d::e::f::g::i::b) (.ok a h)=.nx (c::d::e::f::g::some a::b) h:=rfl
theorem ks6:Uu 6 (c::d::e::f::g::i::j::b) (.ok a h)=.nx (c::d::e::f::g::i::some a::b) h:=rfl
theorem ks7:Uu 7 (c::d::e::f::g::i::j::k::b) (.ok a h)=.nx (c::d::e::f::g::i::j::some a::b) h:=rfl
theorem ks8:Uu 8 (c::d::e::f::g::i::j::k::l::b) (.ok a h)=.nx (c::d::e::f::g::i::j::k::some a::b) h:=rfl
theorem ks9:Uu 9 (c::d::e::f::g::i::j::k::l::m::b) (.ok a h)=.nx (c::d::e::f::g::i::j::k::l::some a::b) h:=rfl
theorem OD:Uu 10 (c::d::e::f::g::i::j::k::l::m::n::b) (.ok a h)=.nx (c::d::e::f::g::i::j::k::l::m::some a::b) h:=rfl
theorem OB:Uu 11 (c::d::e::f::g::i::j::k::l::m::n::o::b) (.ok a h)=.nx (c::d::e::f::g::i::j::k::l::m::n::some a::b) h:=rfl
theorem OA:Uu 12 (c::d::e::f::g::i::j::k::l::m::n::o::p::b) (.ok a h)=.nx (c::d::e::f::g::i::j::k::l::m::n::o::some a::b) h:=rfl
theorem qg:Uu w ρ (.exc a h)=.exc a h:=rfl
def xH(g:Sx)(r:SR):SR:=match r with
 |.nx ρ1 h1=>g ρ1 h1
 |.rt v h1=>.rt v h1
 |.bk ρ1 h1=>.bk ρ1 h1
 |.ct ρ1 h1=>.ct ρ1 h1
 |.exc v h1=>.exc v h1
 |.bad=>.bad
theorem LB:au z A ρ h=xH A (z ρ h):=rfl
theorem NQ:xH z (.nx ρ h)=z ρ h:=rfl
theorem NP:xH z (.rt a h)=.rt a h:=rfl
theorem Mf:xH z (.exc a h)=.exc a h:=rfl
def kg{α β:Type}(f:α->Y3->Res β)(r:Res α):Res β:=r.bind f
theorem xV{β:Type}(f:α->Y3->Res β)(a:α):kg f (.ok a h)=f a h:=rfl
theorem Oa:c1 B x ρ h=kg B (x ρ h):=rfl
theorem Fo:cN C D ρ h=kg C (D ρ h):=rfl
theorem LF:aI E D ρ h=kg (aX E) (D ρ h):=rfl
theorem JS:bx C D ρ h=kg (z6 C) (D ρ h):=rfl
theorem Eg:iV x ρ h=kg lV (x ρ h):=rfl
theorem JU:Cv D ρ h=kg EJ (D ρ h):=rfl
theorem NY:V9 x ρ h=kg Vv (x ρ h):=rfl
theorem JT:rY x ρ h=kg lw (x ρ h):=rfl
def k2(g:PV->PV->Y3->Res PV)(b:Ex)(ρ:Ev)(r:Res PV):Res PV:=r.bind fun x h1=>kg (g x) (b ρ h1)
theorem Bw:c2 H x I ρ h=k2 H I ρ (x ρ h):=rfl
theorem By:k2 H x ρ (.ok a h)=kg (H a) (x ρ h):=rfl
def ZD(x:PV)(r:Res Y2):Res Y2:=r.bind fun xs h2=>.ok (x::xs) h2
def kC(r:Ax)(ρ:Ev)(x:Res PV):Res Y2:=x.bind fun x h1=>ZD x (r ρ h1)
theorem Ef:aa x D ρ h=kC D ρ (x ρ h):=rfl
theorem JY:kC D ρ (.ok a h)=ZD a (D ρ h):=rfl
theorem Ht:ZD a (.ok J h)=.ok (a::J) h:=rfl
def JZ(g:Ex)(ρ:Ev)(r:Res PV):Res PV:=r.bind fun p h1=>match p with|.bl b=>if b=true then g ρ h1 else .ok (.bl false) h1|_=>.bad
theorem MF:qM x I ρ h=JZ I ρ (x ρ h):=rfl
theorem MZ:JZ x ρ (.ok (.bl L) h)=if L=true then x ρ h else .ok (.bl false) h:=rfl
def JX(r:Res PV):Res PV:=r.bind fun p h1=>match p with|.bl b=>.ok (.bl (!b)) h1|_=>.bad
theorem MC:ER x ρ h=JX (x ρ h):=rfl
theorem MP:JX (.ok (.bl L) h)=.ok (.bl (!L)) h:=rfl
def kIe(f g:Ex)(ρ:Ev)(r:Res Bool):Res PV:=r.bind fun b h1=>if b=true then f ρ h1 else g ρ h1
theorem MD:mH M x I ρ h=kIe x I ρ (M ρ h):=rfl
theorem MT:kIe x I ρ (.ok L h)=if L=true then x ρ h else I ρ h:=rfl
def Zx(g':PV->PV->Y3->Res PV)(c:Ex)(ρ:Ev)(y:PV)(r:Res PV):Res PV:=r.bind fun z h3=>match z with|.bl false=>.ok (.bl false) h3|.bl true=>kg (g' y) (c ρ h3)|_=>.bad
def Zy(g g':PV->PV->Y3->Res PV)(c:Ex)(ρ:Ev)(x:PV)(r:Res PV):Res PV:=r.bind fun y h2=>Zx g' c ρ y (g x y h2)
def kH1(g g':PV->PV->Y3->Res PV)(b c:Ex)(ρ:Ev)(r:Res PV):Res PV:=r.bind fun x h1=>Zy g g' c ρ x (b ρ h1)
theorem JR:tH H N x I O ρ h=kH1 H N I O ρ (x ρ h):=rfl
theorem MV:kH1 H N x I ρ (.ok a h)=Zy H N I ρ a (x ρ h):=rfl
theorem MU:Zy H N x ρ a (.ok K h)=Zx N x ρ K (H a K h):=rfl
theorem Of:Zx H x ρ a (.ok (.bl L) h)=if L=true then kg (H a) (x ρ h)else .ok (.bl false) h:=by cases L<;>rfl
def Zu(f:PV->Zp->Zp->Y3->Res PV)(hi:Ox)(ρ:Ev)(p:PV)(r:Res Zp):Res PV:=r.bind fun l h2=>kg (f p l) (hi ρ h2)
def kL1(f:PV->Zp->Zp->Y3->Res PV)(lo hi:Ox)(ρ:Ev)(r:Res PV):Res PV:=r.bind fun p h1=>Zu f hi ρ p (lo ρ h1)
theorem MA:qJ x P Q ρ h=kL1 pT P Q ρ (x ρ h):=rfl
theorem MR:kL1 R P Q ρ (.ok a h)=Zu R Q ρ a (P ρ h):=rfl
theorem MQ:Zu R P ρ a (.ok S h)=kg (R a S) (P ρ h):=rfl
def kO(r:Res PV):Res Zp:=r.bind fun p h1=>match p with|.int i=>.ok (some i) h1|_=>.bad
theorem JQ:iL x ρ h=kO (x ρ h):=rfl
theorem OF:kO (.ok (.int T) h)=.ok (some T) h:=rfl
def kM(recv:Y3->PV->Bool)(g:PV->Y2->Y3->Res PV)(as:Ax)(ρ:Ev)(r:Res PV):Res PV:=r.bind fun p h1=>if recv h1 p=true then kg (g p) (as ρ h1)else .bad
theorem NZ:cM U V x D ρ h=kM U V D ρ (x ρ h):=rfl
theorem Od:kM U V D ρ (.ok a h)=if U h a=true then kg (V a) (D ρ h)else .bad:=rfl
def Zt(h:Y3)(o:Option Bool):Res Bool:=match o with|some b=>.ok b h|none=>.bad
def kTr(r:Res PV):Res Bool:=r.bind fun p h1=>Zt h1 (sC h1 p)
theorem Lv:bF x ρ h=kTr (x ρ h):=rfl
theorem ML:kTr (.ok a h)=Zt h (sC h a):=rfl
theorem Ob:Zt h (some L)=.ok L h:=rfl
def kCm(r:Res PV):Res Bool:=r.bind fun p h1=>match p with|.bl b=>.ok b h1|_=>.bad
theorem Lx:aH x ρ h=kCm (x ρ h):=rfl
theorem Og:kCm (.ok (.bl L) h)=.ok L h:=rfl
def kNt(r:Res Bool):Res Bool:=r.bind fun b h1=>.ok (!b) h1
theorem Lw:eX M ρ h=kNt (M ρ h):=rfl
theorem MO:kNt (.ok L h)=.ok (!L) h:=rfl
def kTa(g:Tx)(ρ:Ev)(r:Res Bool):Res Bool:=r.bind fun b h1=>if b=true then g ρ h1 else .ok false h1
theorem Ly:ju M W ρ h=kTa W ρ (M ρ h):=rfl
theorem MM:kTa M ρ (.ok L h)=if L=true then M ρ h else .ok false h:=rfl
def kTu(g:Tx)(ρ:Ev)(r:Res Bool):Res Bool:=r.bind fun b h1=>if b=true then .ok true h1 else g ρ h1
theorem Mz:kZ M W ρ h=kTu W ρ (M ρ h):=rfl
theorem MK:kTu M ρ (.ok L h)=if L=true then .ok true h else M ρ h:=rfl
def kR1(ps:Y2)(h1:Y3):Res Y2:=match ps with|[.int j]=>if QW 4611686018427387904 j=true then .ok ((List.range j.toNat).map fun i=>PV.int (0+(i:Nat))) h1 else .bad|_=>.bad
theorem IJ:bA D ρ h=kg kR1 (D ρ h):=rfl
theorem Oc(j:Int):kR1 [.int j] h=if QW 4611686018427387904 j=true then .ok ((List.range j.toNat).map fun i=>PV.int (0+(i:Nat))) h else .bad:=rfl
def kCo(m6:Y1)(tt:Tx)(te:Ex)(ρ:Ev)(r:Res Y2):Res Y2:=r.bind fun xs h1=>if xs.length<sizeLine then(cg tt te (cU m6 ρ) xs h1).calm else .bad
theorem Bx:bT X D M x ρ h=kCo X M x ρ (D ρ h):=rfl
theorem Hr:kCo X M x ρ (.ok J h)=if J.length<sizeLine then(cg M x (cU X ρ) J h).calm else .bad:=rfl
def kRt(r:Res PV):SR:=df r fun v h1=>.rt v h1
theorem LC:aN x ρ h=kRt (x ρ h):=rfl
theorem MN(v:PV):kRt (.ok v h)=.rt v h:=rfl
def Zz(ρ:Ev)(r:Res PV):SR:=df r fun _ h1=>.nx ρ h1
theorem JP:bS x ρ h=Zz ρ (x ρ h):=rfl
theorem MX:Zz ρ (.ok a h)=.nx ρ h:=rfl
theorem LG:Zz ρ (.exc a h)=.exc a h:=rfl
def kIf(f g:Sx)(ρ:Ev)(r:Res Bool):SR:=FX r fun b h1=>if b=true then f ρ h1 else g ρ h1
theorem MB:G4 M z A ρ h=kIf z A ρ (M ρ h):=rfl
theorem MS:kIf z A ρ (.ok L h)=if L=true then z ρ h else A ρ h:=rfl
def kFo(g:Gx)(body:Sx)(ρ:Ev)(r:Res Y2):SR:=Fm r fun xs h1=>bf g body xs ρ h1
theorem LD:fS D Y z ρ h=kFo Y z ρ (D ρ h):=rfl
theorem MW:kFo Y z ρ (.ok J h)=bf Y z J ρ h:=rfl
def Zo(s:PV->PV->PV->Ev->Y3->SR)(ρ:Ev)(v o:PV)(r:Res PV):SR:=df r fun i h3=>s v o i ρ h3
def Zq(s:PV->PV->PV->Ev->Y3->SR)(fi:Ex)(ρ:Ev)(v:PV)(r:Res PV):SR:=df r fun o h2=>Zo s ρ v o (fi ρ h2)
def Zr(s:PV->PV->PV->Ev->Y3->SR)(fo fi:Ex)(ρ:Ev)(r:Res PV):SR:=df r fun v h1=>Zq s fi ρ v (fo ρ h1)
theorem JO:mS x I O ρ h=Zr lu x I ρ (O ρ h):=rfl
theorem Lz:fO x I O ρ h=Zr eO x I ρ (O ρ h):=rfl
theorem MJ:Zr Z x I ρ (.ok a h)=Zq Z I ρ a (x ρ h):=rfl
theorem MI:Zq Z x ρ a (.ok K h)=Zo Z ρ a K (x ρ h):=rfl
theorem MH:Zo Z ρ a K (.ok xa h)=Z a K xa ρ h:=rfl
def ZF(h:Y3)(o:Option Ev):SR:=match o with|some ρ1=>.nx ρ1 h|none=>.bad
def kAs(g:Gx)(ρ:Ev)(r:Res PV):SR:=df r fun v h1=>ZF h1 (g v ρ)
theorem ME:pK Y x ρ h=kAs Y ρ (x ρ h):=rfl
theorem MY:kAs Y ρ (.ok a h)=ZF h (Y a ρ):=rfl
theorem Oh:ZF h (some ρ)=.nx ρ h:=rfl
def kG(gs:VR)(r:Y2)(o:Option Ev):Option Ev:=match o with|some ρ1=>gs r ρ1|none=>none
theorem OE:bI Y xb (a::J) ρ=kG xb J (Y a ρ):=rfl
theorem OG:kG xb J (some ρ)=xb J ρ:=rfl
def Zv(h:Y3)(o:Option PV):Res PV:=match o with|some v=>.ok (aj h v) h|none=>.bad
theorem Oe:Zv h (some a)=.ok (aj h a) h:=rfl
theorem NW:f9 (.tup J) (.int T) h=Zv h (PN J T):=rfl
theorem NX:f9 (.lst J) (.int T) h=Zv h (PN J T):=rfl
end
section
variable(ρ:Ev)(h:Y3)(a b:PV)(w j:Nat)(x y:Ex)(z g:Sx)(C:Y2->Y3->Res PV)(D:Ax)(J:Y2)(o:Option (Nat×Y2))(f:Nat->Bool)(i:Nat)
theorem JH:cB C D ρ h=kg C (D ρ h):=rfl
def Yu(C:Y2->Y3->Res PV)(p:PV)(r:Res Y2):Res PV:=r.bind fun ps h2=>C (p::ps) h2
def Zm(w:Nat)(C:Y2->Y3->Res PV)(D:Ax)(ρ:Ev)(r:Res PV):Res PV:=r.bind fun p h1=>if(je w h1 p).isSome=true then Yu C p (D ρ h1)else .bad
theorem Lp:cZ w C x D ρ h=Zm w C D ρ (x ρ h):=by
 unfold cZ Zm
 cases x ρ h with
 |ok p h1=>
  show(match je w h1 p with|some _=>_|none=>_)=_
  cases q:je w h1 p with
  |none=>simp[Res.bind,q]
  |some _=>simp[Res.bind,q,Yu]
 |exc _ _=>rfl
 |bad=>rfl
theorem Mt:Zm w C D ρ (.ok a h)=if(je w h a).isSome=true then Yu C a (D ρ h)else .bad:=rfl
theorem Mu:Yu C a (.ok J h)=C (a::J) h:=rfl
theorem Mp:Ck w C D ρ h=kg (Wx w C) (D ρ h):=rfl
def Hl(w j:Nat)(ρ:Ev)(v:PV)(r:Res PV):SR:=df r fun o h2=>qS w j v o ρ h2
def JJ(w j:Nat)(fo:Ex)(ρ:Ev)(r:Res PV):SR:=df r fun v h1=>Hl w j ρ v (fo ρ h1)
theorem Lo:uo w j x y ρ h=JJ w j x ρ (y ρ h):=rfl
theorem Ls:JJ w j x ρ (.ok a h)=Hl w j ρ a (x ρ h):=rfl
theorem Lr:Hl w j ρ a (.ok b h)=qS w j a b ρ h:=rfl
def Zk(f:Nat->Bool)(i:Nat)(gs:Sx)(ρ:Ev)(r:SR):SR:=match r with
 |.exc e h1=>match zO e with
  |some (C,p)=>if f C=true then(match gs (ρ.set i (some p)) h1 with
   |.rt v h2=>.rt v h2
   |_=>.bad)else .bad
  |none=>.bad
 |r=>r
theorem Lm:lY f z i g ρ h=Zk f i g ρ (z ρ h):=rfl
theorem Bj(ρ1:Ev):Zk f i g ρ (.nx ρ1 h)=.nx ρ1 h:=rfl
end
end
section
open PySem.NumText (digitsVal AllDigits)
section
variable(ρ:Ev)(h:Y3)
def dig(n:Nat):Y1:=(Nat.toDigits 10 n).map Char.toNat
def jj(mark raw h_:Y1)(c:Nat):Y1:=match bC [c] raw 0 with
 |some i=>mark++ [h_.getD i 0]
 |none=> [c]
def mD(mark raw h_ l:Y1):Y1:=(l.map (jj mark raw h_)).flatten
theorem gg(g:Gx)(body:Sx)(p:PV)(r:Y2)(ρ:Ev)(h:Y3):bf g body (p::r) ρ h=match g p ρ with
  |some ρ1=>(match body ρ1 h with
   |.nx ρ2 h2=>bf g body r ρ2 h2
   |.ct ρ2 h2=>bf g body r ρ2 h2
   |.bk ρ2 h2=>.nx ρ2 h2
   |.rt v h2=>.rt v h2
   |.exc v h2=>.exc v h2
   |.bad=>.bad)
  |none=>.bad:=rfl
@[simp] theorem IE(a b:Y2):zj (.tup a) (.tup b) h=if a.isEmpty=false/\a.length+b.length<=sizeLine then .ok (.tup (a++b)) h else .bad:=rfl
theorem tu{l:Y2}(q:aq l=true):ei h (.tup l)=some (.tup l,h):=by simp[ei,PV.pure,q]
theorem DA{r:Y3}(hz:(ls.map (fun l=>l.length)).sum<=16777216):eK (.str []) [.ref 0] (.lst (ls.map PV.str)::r)=.ok (.str ls.flatten) (.lst (ls.map PV.str)::r):=by rw[iK (ls:=ls) rfl (by simpa using hz),gR]
theorem yu(n:Nat):∀c∈dig n,48<=c/\c<=57:=by intro c hc;obtain⟨ch,h1,rfl⟩:=adT.mp hc;exact PyProof.Rows.digit_range (Nat.isDigit_of_mem_toDigits ⋯ ⋯ h1)
theorem CO(i:Int):pG i=if 0<=i then dig i.toNat else 45::dig (-i).toNat:=by
 unfold pG dig;rw[PyProof.Rows.signs_ofString,Int.toString_eq_repr,Int.repr_eq_if]
 split
 .rw[ahQ]
 .rw[String.toList_append,adV,ahQ];rfl
theorem yj(l:Y1)(q:PV):or (.str l) q h=z_ (.str l) q h:=rfl
end
end
end Z
open PySem Z
local macro_rules | `(tactic| simp $c:optConfig $[$d:discharger]? [EV,$xs,*] $[$l:location]?)=>do let z:=fun(s:String)=>s.splitOn.map fun n=>`Z++n.toName;let r:=fun(s:String)=>s.splitOn.map (·.toName);let a<-((z "Res.M_ LR Iw Iv KS LP LN IL KU wT NC Oq Ny Nz Nx NB NF ND yt LZ Hm NR NS NH OH Oi NU NT Fj My Lu LW Mi Lq Ol Ou NN Lk Lj Ll LM LH LK Nu LJ LI LL KG IK JI NM Hu Hv Ft Fs Hy Hz Fw HD HE FC Hw Hx Fv Fu HA HC FA Fx Fy szl NE LO NV LQ Oj Om LU LS Op Mg Oo OI Cd Mw Ot kv0 kv1 kv2 kv3 kv4 kv5 kv6 kv7 kv8 kv9 Oz Oy Ow Ov LA ks0 ks1 ks2 ks3 ks4 ks5 ks6 ks7 ks8 ks9 OD OB OA qg LB NQ NP Mf xV Oa Fo LF JS Eg JU NY JT Bw By Ef JY Ht MF MZ MC MP MD MT JR MV MU Of MA MR MQ JQ OF NZ Od Lv ML Ob Lx Og Lw MO Ly MM Mz MK IJ Oc Bx Hr LC MN JP MX LG MB MS LD MW JO Lz MJ MI MH ME MY Oh OE OG Oe NW NX JH Lp Mt Mu Mp Lo Ls Lr Lm Bj")++(r "List.getElem?_cons_zero List.getElem?_cons_succ List.set_cons_zero List.set_cons_succ List.map_cons List.map_nil List.append_nil List.nil_append List.cons_append if_true if_false reduceIte Bool.not_true Bool.not_false Bool.true_and Bool.false_and Bool.and_true Bool.and_false Bool.true_or Bool.false_or Bool.or_true Bool.or_false eq_self_iff_true true_and and_true Bool.false_eq_true reduceCtorEq List.length_cons List.length_nil List.replicate Nat.sub_self Nat.zero_add Option.isSome_some Option.isSome_none Nat.reduceAdd Nat.reduceLeDiff Int.reduceLT Int.reduceLE decide_true decide_false Int.reduceNeg Int.reducePow Nat.reducePow Int.reduceAdd Int.reduceMul Int.reduceSub Nat.reduceSub and_self Nat.reduceMul Nat.reduceEqDiff")).toArray.mapM fun n=>`(Lean.Parser.Tactic.simpLemma| $(Lean.mkIdent n):term);`(tactic| simp $c:optConfig $[$d:discharger]? only [$a,*,$xs,*] $[$l:location]?)
namespace T6
open PySem Z
variable{B f ls:Ya}{a t:Y1}{b:Sx}{d d2 d3 q:List (PK×PV)}{es:List (List (PK×PV))}{fn:Y2->Y3->Res PV}{h h1:Y3}{i j n nn:Nat}{p v:PV}{ws xs ys:Y2}{α:Type}{ρ:Ev}
noncomputable def sg(l:Y1):Bool:=l.all fun c=>decide (c<1114112)
def Jd{l:Y1}(h:sg l=true):∀c∈l,c<1114112:=fun c hc=>of_decide_eq_true (adX.mp h c hc)
def Y7(l:Ya):Bool:=l.all sg
theorem jw:mw .non=true:=rfl
theorem yh:∀{l:Y2}(h:Y3),aq l=true->RP l h=some (l,h)
 |[],_,_=>rfl
 |p::r,h,e=>by rw[aq,adI]at e;rw[RP,eP h e.1];dsimp only;rw[yh h e.2]
def aL{fn:Y2->Out}{ps:Y2}(h:Y3)(hp:aq ps=true)(e:fn ps=.ok v):aX fn ps h=.ok v h:=by rw[cJ,yh h hp];dsimp only;rw[e]
def oF(x:PV)(r:Y2)(h:Y3):pT (.tup (x::r)) (some 1) none h=.ok (.tup r) h:=by
 have e1:Z.K5 (x::r).length 0 (some 1)=1:=by
  have:=Z.V2 (x::r).length 0 1;rw[show((1:Nat):Int)=1 from rfl]at this;rw[this,adu]
  lia
 have e2:Z.K5 (x::r).length (x::r).length none=(x::r).length:=rfl;unfold pT;dsimp only;rw[if_neg (by rw[e1];intro z;cases z.1)];unfold cut;rw[e1,e2];simp
def at0(a:α)(l:List α):PN (a::l) 0=some a:=eG ⋯ rfl
def Yk(a b:α)(l:List α):PN (a::b::l) 1=some b:=eG ⋯ rfl
def at2(a b c:α)(l:List α):PN (a::b::c::l) 2=some c:=eG ⋯ rfl
theorem LX(x:PV)(h:Y3):sC h (.tup [x])=some true:=rfl
theorem LY(h:Y3):sC h (.tup [])=some false:=rfl
theorem bl2(k:Nat):Nat.ble 2 (dl (k+1))=true:=rfl
def er(h:Y3)(p:v.pure=true):aT v h=.ok v:=by unfold aT;rw[eP h p]
noncomputable def xf(w:Y1):PV:=.TY 500 (.str w)
noncomputable def wW:Y1:=[119,111,114,100]
noncomputable def wN:Y1:=[110,117,109,98,101,114]
theorem ry(C:Fn->Y2->Out)(t:PV)(al:Y1)(h:Y3):∀(l:Y1)(o:Option PV),∃o',bf (z7 2) (dT C) (l.map fun c=>PV.str [c]) [some t,some (.str al),o] h=if l.all al.contains=true then .nx [some t,some (.str al),o'] h else .rt (.bl false) h
 |[],o=>⟨o,rfl⟩
 |c::r,o=>by
  obtain⟨o',e⟩:=ry C t al h r (some (.str [c]));refine⟨o',?_⟩;rw[adE,gg,ae2]
  cases hc:al.contains c with
  |true=>simp[EV,dT,iQ,hc];simpa only[dT,aeS]using e
  |false=>simp[EV,dT,iQ,hc]
theorem Ho(k:Nat)(l al:Y1):F (k+1) .K9 [.str l,.str al]=.ok (.bl (l.all al.contains)):=by
 obtain⟨o',e⟩:=ry (F k) (.str l) al [] l none;show ar (gQ (F k)) 2 3 [.str l,.str al]=_
 cases q:l.all al.contains with
 |true=>simp[EV,ar,gQ,e,q,aT]
 |false=>simp[EV,ar,gQ,e,q,aT]
theorem nz(k:Nat)(l:Y1)(n:Int)(hl:l.length<=16777216):F (k+2) .J9 [.str l,.int n]=.ok (.bl (decide ((l.length:Int)<=n)&&l.all br.contains)):=by
 have e:=Ho k l br;show ar (cL (F (k+1))) 2 2 [.str l,.int n]=_
 cases q:decide ((l.length:Int)<=n)with
 |true=>simp[EV,ar,cL,cJ,hl,q,e,aT]
 |false=>simp[EV,ar,cL,cJ,hl,q,e,aT]
def kQ:∀c∈br,c<1114112:=by decide+kernel
def EI(a b:Y1)(r:Bool)(ha:∀c∈a,c<1114112)(hb:∀c∈b,c<1114112)(hr:decide (a=b)=r)(h:Y3):z_ (.str a) (.str b) h=.ok (.bl r) h:=by rw[jG a b h ha hb,hr]
def IP(k:Nat):F (k+1) .O6 [.str wW]=.ok (.ins 0 []):=by show ar (eF (F k)) 1 1 [.str wW]=_;have e:∀h,or (.str wW) (.str [119,111,114,100]) h=.ok (.bl true) h:=fun h=>(yj _ _ _).trans (EI _ _ _ ⋯ ⋯ ⋯ h);simp[EV,ar,eF,jZ,e,aT]
def IT(k:Nat):F (k+1) .O6 [.str wN]=.ok (.ins 1 []):=by show ar (eF (F k)) 1 1 [.str wN]=_;have e1:∀h,or (.str wN) (.str [119,111,114,100]) h=.ok (.bl false) h:=fun h=>(yj _ _ _).trans (EI _ _ _ ⋯ ⋯ ⋯ h);have e2:∀h,or (.str wN) (.str [110,117,109,98,101,114]) h=.ok (.bl true) h:=fun h=>(yj _ _ _).trans (EI _ _ _ ⋯ ⋯ ⋯ h);simp[EV,ar,eF,jZ,e1,e2,aT]
def ny{v:Int}(h1: -1000000000000000000000000000000<v)(h2:v<1000000000000000000000000000000):v.natAbs.log2<1920:=by
 have:v.natAbs<2 ^ 100:=by
  have:(1000000000000000000000000000000:Nat)<2 ^ 100:=by decide
  lia
 by_cases q:v.natAbs=0
 .rw[q];decide
 .have:=(Nat.log2_lt q).mpr this
  lia
abbrev QE:Y1->Y1:=mD [94] [94,34,10] [94,113,110]
abbrev PEs:Y1->Y1:=mD [126] [126,60,62,38,124,10] [126,108,103,97,98,110]
abbrev LE:Y1->Y1:=mD [126] [126,10] [126,110]
noncomputable def wQ:Y1:=[113,117,111,116,101,100]
noncomputable def wP:Y1:=[112,108,97,105,110]
noncomputable def wL:Y1:=[108,105,110,101]
def Ve(a b:Y1)(r:Bool)(e:(a.all (fun c=>decide (c<1114112))&&b.all (fun c=>decide (c<1114112))&&(decide (a=b)==r))=true)(h:Y3):or (.str a) (.str b) h=.ok (.bl r) h:=by simp only[adI,adX,decide_eq_true_eq,beq_iff_eq]at e;exact(yj _ _ _).trans (EI a b r e.1.1 e.1.2 e.2 h)
def IQ(k:Nat):F (k+1) .O6 [.str wQ]=.ok (.ins 2 []):=by show ar (eF (F k)) 1 1 [.str wQ]=_;have e1:=Ve wQ [119,111,114,100] false ⋯;have e2:=Ve wQ [110,117,109,98,101,114] false ⋯;have e3:=Ve wQ [113,117,111,116,101,100] true ⋯;simp[EV,ar,eF,jZ,e1,e2,e3,aT]
def IS(k:Nat):F (k+1) .O6 [.str wP]=.ok (.ins 3 []):=by show ar (eF (F k)) 1 1 [.str wP]=_;have e1:=Ve wP [119,111,114,100] false ⋯;have e2:=Ve wP [110,117,109,98,101,114] false ⋯;have e3:=Ve wP [113,117,111,116,101,100] false ⋯;have e4:=Ve wP [112,108,97,105,110] true ⋯;simp[EV,ar,eF,jZ,e1,e2,e3,e4,aT]
def IU(k:Nat):F (k+1) .O6 [.str wL]=.ok (.ins 4 []):=by show ar (eF (F k)) 1 1 [.str wL]=_;have e1:=Ve wL [119,111,114,100] false ⋯;have e2:=Ve wL [110,117,109,98,101,114] false ⋯;have e3:=Ve wL [113,117,111,116,101,100] false ⋯;have e4:=Ve wL [112,108,97,105,110] false ⋯;have e5:=Ve wL [108,105,110,101] true ⋯;simp[EV,ar,eF,jZ,e1,e2,e3,e4,e5,aT]
def dE:Nat->Y1
 |0=>wW
 |1=>wN
 |2=>wQ
 |3=>wP
 |_=>wL
def xt(k i:Nat)(hi:i<5):F (k+1) .O6 [.str (dE i)]=.ok (.ins i []):=by
 rcases(show i=0\/i=1\/i=2\/i=3\/i=4 by lia)with rfl|rfl|rfl|rfl|rfl
 .exact IP k
 .exact IT k
 .exact IQ k
 .exact IS k
 .exact IU k
noncomputable def lM:Nat->Fn
 |0=>.G6
 |1=>.u6
 |2=>.v7
 |3=>.D_
 |_=>.H7
noncomputable def CP:Nat->Fn
 |0=>.p8
 |1=>.n8
 |2=>.m_
 |3=>.p7
 |_=>.q8
def Ce(C:CC)(i:Nat)(hi:i<5):qD C i=some (C (lM i)):=by rcases(show i=0\/i=1\/i=2\/i=3\/i=4 by lia)with rfl|rfl|rfl|rfl|rfl<;>rfl
def KZ(C:CC)(i:Nat)(hi:i<5):jo C i=some (C (CP i)):=by rcases(show i=0\/i=1\/i=2\/i=3\/i=4 by lia)with rfl|rfl|rfl|rfl|rfl<;>rfl
def FU(C:CC)(i:Nat)(hi:i<5):mF C i=some (C .g8):=by rcases(show i=0\/i=1\/i=2\/i=3\/i=4 by lia)with rfl|rfl|rfl|rfl|rfl<;>rfl
inductive Dv:PV->Prop
 |str (l:Y1) (h:l.length<=4000) (hc:∀c∈l,c<1114112):Dv (.str l)
 |int (i:Int):Dv (.int i)
 |bl (b:Bool):Dv (.bl b)
 |lst (xs:Y2) (p:aq xs=true):Dv (.lst xs)
 |dct (l:List (PK×PV)) (p:bP l=true):Dv (.dct l)
theorem Dv.pure{v:PV}(h:Dv v):v.pure=true:=by
 cases h with
 |str=>rfl
 |int=>rfl
 |bl=>rfl
 |lst xs p=>rw[PV.pure];exact p
 |dct l p=>rw[PV.pure];exact p
theorem sB(hv:Dv v)(n:Int):∃b:Bool,(∀k,F (k+2) .J9 [v,.int n]=.ok (.bl b))/\(b=true->∃l,v=.str l/\(l.length:Int)<=n/\∀c∈l,c∈br):=by
 cases hv with
 |str l h hc=>refine⟨_,fun k=>nz k l n ⋯,fun e=>⟨l,rfl,?_⟩⟩;rw[adI,decide_eq_true_eq,adX]at e;exact⟨e.1,fun c hc=>by simpa using e.2 c hc⟩
 |int i=>refine⟨false,fun k=>?_,fun e=>by cases e⟩;show ar (cL (F (k+1))) 2 2 [.int i,.int n]=_;simp[EV,ar,cL,aT]
 |bl b=>refine⟨false,fun k=>?_,fun e=>by cases e⟩;show ar (cL (F (k+1))) 2 2 [.bl b,.int n]=_;simp[EV,ar,cL,aT]
 |lst xs p=>refine⟨false,fun k=>?_,fun e=>by cases e⟩;show ar (cL (F (k+1))) 2 2 [.lst xs,.int n]=_;simp[EV,ar,cL,aT]
 |dct l p=>refine⟨false,fun k=>?_,fun e=>by cases e⟩;show ar (cL (F (k+1))) 2 2 [.dct l,.int n]=_;simp[EV,ar,cL,aT]
def uZ{c:Nat}{raw:Y1}(h:bC [c] raw 0=some i):i<raw.length:=by
 unfold bC at h;have h2:=ahS h;have h1:=agd h;simp only[adI]at h2;have:=(aer.mp h2.2).length_le;simp only[adu,adQ,aeT]at this
 lia
theorem Cc(C:Fn->Y2->Out)(t:PV)(mark raw h_:Y1)(hl:raw.length<=h_.length)(hz:h_.length<=1000)(hm:mark.length<=1000)(c:Nat)(o2:Option PV)(xs:Y2)(hx:xs.length<16777216):∃o2',
  gq C [some t,some (.str mark),some (.str raw),some (.str h_),some (.ref 0),some (.str [c]),o2] [.lst xs]=.nx [some t,some (.str mark),some (.str raw),some (.str h_),some (.ref 0),some (.str [c]),o2'] [.lst (xs++ [.str (jj mark raw h_ c)])]:=by
 refine⟨some (.int (mB (bC [c] raw 0))),?_⟩;unfold jj
 cases q:bC [c] raw 0 with
 |none=>
  have d:decide ((-1:Int)<0)=true:=by decide
  simp[EV,gq,q,mB,d,yt,IC,BC,hx]
 |some i=>
  have hi:=uZ q;have d:decide ((i:Int)<0)=false:=decide_eq_false ⋯
  have e:PN h_ (i:Int)=some (h_.getD i 0):=by have:=vB (xs:=h_) (i:=(i:Int)) 0 ⋯ ⋯;simpa using this
  have z1:h_.length<=16777216:=by lia
  have z2:mark.length+1<=16777216:=by lia
  simp[EV,gq,q,mB,d,e,z1,z2,yt,IC,BC,hx]
theorem vh(C:Fn->Y2->Out)(t:PV)(mark raw h_:Y1)(hl:raw.length<=h_.length)(hz:h_.length<=1000)(hm:mark.length<=1000):∀(l:Y1)(o1 o2:Option PV)(xs:Y2),xs.length+l.length<16777216->∃o1' o2',
  bf (z7 5) (gq C) (l.map fun c=>PV.str [c]) [some t,some (.str mark),some (.str raw),some (.str h_),some (.ref 0),o1,o2] [.lst xs]=.nx [some t,some (.str mark),some (.str raw),some (.str h_),some (.ref 0),o1',o2'] [.lst (xs++l.map fun c=>.str (jj mark raw h_ c))]
 |[],o1,o2,xs,_=>⟨o1,o2,by simp[EV,if_true]⟩
 |c::r,o1,o2,xs,hx=>by simp only[adu]at hx;obtain⟨o3,t1⟩:=Cc C t mark raw h_ hl hz hm c o2 xs ⋯;obtain⟨p,q,e⟩:=vh C t mark raw h_ hl hz hm r (some (.str [c])) o3 (xs++ [.str (jj mark raw h_ c)]) (by simp;lia);refine⟨p,q,?_⟩;rw[adE,gg];simp only[wT,aeV,aec,t1];rw[e];simp
def qz(mark raw h_:Y1)(c:Nat):(jj mark raw h_ c).length<=mark.length+1:=by
 unfold jj
 split
 .simp
 .simp
def fW(k:Nat)(l mark raw h_:Y1)(hl:raw.length<=h_.length)(hz:h_.length<=1000)(hm:mark.length<=1000)(hn:l.length<=4000):F (k+1) .escaped [.str l,.str mark,.str raw,.str h_]=.ok (.str (mD mark raw h_ l)):=by
 show ar (nR (F k)) 4 7 [.str l,.str mark,.str raw,.str h_]=_;obtain⟨p,q,lp⟩:=vh (F k) (.str l) mark raw h_ hl hz hm l none none [] (by simp;lia);have mp:(l.map fun c=>PV.str (jj mark raw h_ c))=(l.map (jj mark raw h_)).map PV.str:=by simp[ahz]
 have jn:∀r,eK (.str []) [.ref 0] (.lst ((l.map (jj mark raw h_)).map PV.str)::r)=.ok (.str (l.map (jj mark raw h_)).flatten) (.lst ((l.map (jj mark raw h_)).map PV.str)::r):=fun r=>DA (by
  have:=Ai (jj mark raw h_) (mark.length+1) (qz mark raw h_) l;have:l.length * (mark.length+1)<=4000 * 1001:=Nat.mul_le_mul hn ⋯
  lia)
 rw[ad1,mp]at lp;simp[EV,ar,nR,aT,lp,jn,mD]
def mC(mark raw h_ l:Y1):(mD mark raw h_ l).length<=l.length * (mark.length+1):=by unfold mD;rw[afS];exact Ai (jj mark raw h_) (mark.length+1) (qz mark raw h_) l
def but(l:Y1):Y1:=br.filter fun c=>!l.contains c
def EG{mark raw h_ l A:Y1}{P:Nat->Prop}(h:∀c∈l,c∈A)(ha:∀c∈A,∀x∈jj mark raw h_ c,P x):∀x∈mD mark raw h_ l,P x:=by intro x hx;unfold mD at hx;obtain⟨e,he,hxe⟩:=ahI.mp hx;obtain⟨c,hc,rfl⟩:=adT.mp he;exact ha c (h c hc) x hxe
def Aj{v:Int}(h1: -1000000000000000000000000000000<v)(h2:v<1000000000000000000000000000000):(pG v).length<=1921:=by have:=PyProof.Rows.int_text_len_1921 (ny h1 h2);unfold pG;rw[ag8];exact this
def CN(i:Int):∀c∈pG i,c<1114112:=fun c hc=>by
 rw[CO]at hc
 split at hc
 .have:=yu _ c hc;lia
 .rcases adD.mp hc with rfl|q
  .decide
  .have:=yu _ c q;lia
def wU(m:Nat)(raw h_ l:Y1)(hm:m<1114112)(h:∀c∈l,c∈br)(hl:∀c∈h_,c<1114112):∀x∈mD [m] raw h_ l,x<1114112:=by
 refine EG (A:=br) h fun c hc x hx=>?_;unfold jj at hx
 split at hx
 .rcases adS.mp hx with q|q
  .rw[adw.mp q];exact hm
  .rename_i j _
   cases e:h_[j]? with
   |none=>simp[e]at q;try lia
   |some y=>simp[e]at q;subst q;exact hl _ (adF e)
 .rw[adw.mp hx];exact kQ c hc
def tR(i:Nat)(v:PV)(b:Bool)(s:Y1):Prop:=(∀k,F (k+3) (lM i) [.ins i [],v]=.ok (.bl b))/\(b=true->(∀k,F (k+2) (CP i) [.ins i [],v]=.ok (.str s))/\s.length<=2000/\∀c∈s,c<1114112)
def qZ(k:Nat)(i:Int):F (k+1) .K7 [.int i]=.ok (.bl (decide ((if i<0 then -i else i)<1000000000000000000000000000000))):=by show ar (fL (F k)) 1 1 [.int i]=_;have p1:decide (Int.natAbs 10<18446744073709551616)=true:=rfl;simp[EV,ar,fL,aT,p1,Int.reduceToNat]
theorem KH(hv:Dv v):∃b s,tR 0 v b s:=by
 have pv:=hv.pure;obtain⟨b1,t1,t2⟩:=sB hv 40;have z:∀k h,aX (F (k+2) .J9) [v,.int 40] h=.ok (.bl b1) h:=fun k h=>aL h (by simp only[aq,pv];rfl) (t1 k)
 cases b1 with
 |false=>refine⟨false,[],fun k=>?_,fun e=>by cases e⟩;show ar (bO (F (k+2))) 2 2 [.ins 0 [],v]=_;simp[EV,ar,bO,ak _ pv,z,aT]
 |true=>
  obtain⟨l,rfl,hl,hs⟩:=t2 rfl;have lt:∀c∈l,c<1114112:=fun c hc=>kQ c (hs c hc);have e3:∀h,Rc (.str l) (.str []) h=.ok (.bl (!decide (l= []))) h:=fun h=>sP _ _ _ lt (by simp);have e4:∀k h,aX (F (k+2) .K9) [.str l,.str cu] h=.ok (.bl (l.all cu.contains)) h:=fun k h=>aL h rfl (Ho (k+1) l cu);refine⟨!decide (l= [])&&l.all cu.contains,l,fun k=>?_,fun e=>⟨fun k=>?_,by lia,lt⟩⟩
  .show ar (bO (F (k+2))) 2 2 [.ins 0 [],.str l]=_
   cases q:decide (l= [])with
   |true=>simp[EV,ar,bO,z,e3,q,aT]
   |false=>simp[EV,ar,bO,z,e3,e4,q,aT]
  .show ar (dH (F (k+1))) 2 2 [.ins 0 [],.str l]=_;simp[EV,ar,dH,aT]
theorem KL(hv:Dv v):∃b s,tR 1 v b s:=by
 cases hv with
 |int i=>
  refine⟨decide ((if i<0 then -i else i)<1000000000000000000000000000000),pG i,fun k=>?_,fun e=>?_⟩
  .show ar (aQ (F (k+2))) 2 2 [.ins 1 [],.int i]=_;have e:=qZ (k+1) i;simp[EV,ar,aQ,cJ,e,aT]
  .have e:=of_decide_eq_true e;have h1: -1000000000000000000000000000000<i:=by split at e<;>lia
   have h2:i<1000000000000000000000000000000:=by split at e<;>lia
   have lg:=ny h1 h2;refine⟨fun k=>?_,adR (Aj h1 h2) ⋯,CN i⟩;show ar (cX (F (k+1))) 2 2 [.ins 1 [],.int i]=_;simp[EV,ar,cX,lg,aT]
 |bl b=>refine⟨false,[],fun k=>?_,fun e=>by cases e⟩;show ar (aQ (F (k+2))) 2 2 [.ins 1 [],.bl b]=_;simp[EV,ar,aQ,aT]
 |str l h hc=>refine⟨false,[],fun k=>?_,fun e=>by cases e⟩;show ar (aQ (F (k+2))) 2 2 [.ins 1 [],.str l]=_;simp[EV,ar,aQ,aT]
 |lst l p=>refine⟨false,[],fun k=>?_,fun e=>by cases e⟩;show ar (aQ (F (k+2))) 2 2 [.ins 1 [],.lst l]=_;simp[EV,ar,aQ,aT]
 |dct l p=>refine⟨false,[],fun k=>?_,fun e=>by cases e⟩;show ar (aQ (F (k+2))) 2 2 [.ins 1 [],.dct l]=_;simp[EV,ar,aQ,aT]
theorem KJ(i:Nat)(h2:2<=i)(h5:i<5)(hv:Dv v):∃b s,tR i v b s:=by
 have pv:=hv.pure;obtain⟨b,t1,t2⟩:=sB hv 400;have z:∀k h,aX (F (k+2) .J9) [v,.int 400] h=.ok (.bl b) h:=fun k h=>aL h (by simp only[aq,pv];rfl) (t1 k)
 have ft:∀k,F (k+3) (lM i) [.ins i [],v]=.ok (.bl b):=fun k=>by
  rcases(show i=2\/i=3\/i=4 by lia)with rfl|rfl|rfl
  .show ar (bV (F (k+2))) 2 2 [.ins 2 [],v]=_;simp[EV,ar,bV,ak _ pv,z,aT]
  .show ar (cC (F (k+2))) 2 2 [.ins 3 [],v]=_;simp[EV,ar,cC,ak _ pv,z,aT]
  .show ar (cY (F (k+2))) 2 2 [.ins 4 [],v]=_;simp[EV,ar,cY,ak _ pv,z,aT]
 cases b with
 |false=>exact⟨false,[],ft,fun e=>by cases e⟩
 |true=>
  obtain⟨l,rfl,hl,hs⟩:=t2 rfl;have hl:l.length<=400:=by lia
  rcases(show i=2\/i=3\/i=4 by lia)with rfl|rfl|rfl
  .have q:=fun k=>fW k l [94] [94,34,10] [94,113,110] ⋯ ⋯ ⋯ ⋯;have le:=mC [94] [94,34,10] [94,113,110] l;have lt:=wU 94 [94,34,10] [94,113,110] l ⋯ hs ⋯;have le:(QE l).length<=800:=adR le (by simp only[adu,adQ];lia);refine⟨true,34::(QE l++ [34]),ft,fun _=>⟨fun k=>?_,by simp only[adu,adt,adQ];lia,fun c hc=>?_⟩⟩
   .show ar (cW (F (k+1))) 2 2 [.ins 2 [],.str l]=_;have a1:1+(QE l).length<=16777216:=by lia
    have a2:(QE l).length+1+1<=16777216:=by lia
    simp[EV,ar,cW,cJ,q k,a1,aT,adu,a2]
   .rcases adD.mp hc with rfl|hc
    .decide
    .rcases adS.mp hc with hc|hc
     .exact lt c hc
     .rw[adw.mp hc];decide
  .have q:=fun k=>fW k l [126] [126,60,62,38,124,10] [126,108,103,97,98,110] ⋯ ⋯ ⋯ ⋯;have le:=mC [126] [126,60,62,38,124,10] [126,108,103,97,98,110] l;refine⟨true,PEs l,ft,fun _=>⟨fun k=>?_,adR le (by simp only[adu,adQ];lia),wU 126 _ _ l ⋯ hs ⋯⟩⟩;show ar (du (F (k+1))) 2 2 [.ins 3 [],.str l]=_;simp[EV,ar,du,cJ,q k,aT]
  .have q:=fun k=>fW k l [126] [126,10] [126,110] ⋯ ⋯ ⋯ ⋯;have le:=mC [126] [126,10] [126,110] l;refine⟨true,LE l,ft,fun _=>⟨fun k=>?_,adR le (by simp only[adu,adQ];lia),wU 126 _ _ l ⋯ hs ⋯⟩⟩;show ar (dI (F (k+1))) 2 2 [.ins 4 [],.str l]=_;simp[EV,ar,dI,cJ,q k,aT]
noncomputable def Ws(d:List (PK×PV))(b:PV):PV:=.tup [.dct d,b]
def tW(d:List (PK×PV))(k k':PK)(v:PV):bj (aK d k v) k'=if k'=k then some v else bj d k':=by
 have hit:∀l:List (PK×PV),(l.any fun kv=>decide (kv.1=k))=true->bj (l.map fun kv=>if kv.1=k then(kv.1,v)else kv) k'=if k'=k then some v else bj l k':=by
  intro l
  induction l with
  |nil=>intro h;cases h
  |cons a r ih=>
   intro h
   by_cases e:a.1=k
   .by_cases e2:k'=k
    .rw[if_pos e2];unfold bj;rw[adE,if_pos e,aea (by simp[e,e2])];rfl
    .rw[if_neg e2]
     have miss:∀t:List (PK×PV),bj (t.map fun kv=>if kv.1=k then(kv.1,v)else kv) k'=bj t k':=by
      intro t
      induction t with
      |nil=>rfl
      |cons b t it=>
       unfold bj at it |-;rw[adE]
       by_cases f:b.1=k
       .rw[if_pos f,ad6 (by simp[f];exact fun z=>e2 z.symm),ad6 (by simp[f];exact fun z=>e2 z.symm)];exact it
       .rw[if_neg f]
        by_cases g:b.1=k'
        .rw[aea (by simp[g]),aea (by simp[g])]
        .rw[ad6 (by simp[g]),ad6 (by simp[g])];exact it
     exact miss (a::r)
   .have h':(r.any fun kv=>decide (kv.1=k))=true:=by simpa[ae1,e]using h
    have i2:=ih h';unfold bj at i2 |-;rw[adE,if_neg e]
    by_cases g:a.1=k'
    .have:k'≠k:=fun z=>e (g.trans z);rw[if_neg this,aea (by simp[g]),aea (by simp[g])]
    .rw[ad6 (by simp[g]),ad6 (by simp[g])];exact i2
 unfold aK
 split
 .rename_i h;exact hit d h
 .rename_i h;unfold bj;rw[List.find?_append];have XC:∀x∈d,x.1≠k:=fun x hx z=>h (afD.mpr ⟨x,hx,by simp[z]⟩)
  by_cases e:k'=k
  .rw[if_pos e];have:d.find? (fun kv=>decide (kv.1=k'))=none:=ahj.mpr fun x hx=>by simp[e];exact XC x hx
   rw[this,e];simp
  .rw[if_neg e];have: [(k,v)].find? (fun kv=>decide (kv.1=k'))=none:=by simp;exact fun z=>e z.symm
   rw[this,Option.or_none]
def IY(k:Nat)(x:Y1)(r:Y2)(a:PV)(ref:Y2)(d:List (PK×PV))(b:PV)(e:bj d (.inr x)=some (.tup (a::ref)))(hd:(PV.dct d).pure=true)(hr:aq r=true)(hf:aq (a::ref)=true)(hl:ref.length+r.length<=1000):F (k+1) .J0 [.tup (.str x::r),Ws d b]=.ok (.tup (a::ref++r)):=by
 show ar (kc (F k)) 2 2 [.tup (.str x::r),.tup [.dct d,b]]=_;have q:(PV.tup (a::ref)).pure=true:=by simpa[PV.pure]using hf
 have ad:aG (.tup (a::ref)) (.tup r) []=.ok (.tup (a::ref++r)) []:=by show(if(a::ref).isEmpty=false/\(a::ref).length+r.length<=sizeLine then Res.ok (PV.tup (a::ref++r)) []else .bad)=_;rw[if_pos ⟨rfl,adR (by rw[adu];lia:(a::ref).length+r.length<=1001) ⋯⟩]
 simp[EV,ar,kc,at0,oF,ak _ hd,e,ak _ q,ad];refine er _ ?_;rw[PV.pure]
 have pa:∀(l m:Y2),aq l=true->aq m=true->aq (l++m)=true:=fun l m hl hm=>by
  induction l with
  |nil=>exact hm
  |cons x t ih=>rw[aq,adI]at hl;rw[aei,aq,hl.1,ih hl.2];rfl
 exact pa _ _ hf hr
section
variable(b T:List α)(x y z:α)
theorem ga:(b++x::y::T)[b.length]? =some x:=by simp
theorem gb:(b++x::y::T)[b.length+1]? =some y:=by rw[adL ⋯];simp
theorem gT(k:Nat):(b++x::y::T)[b.length+2+k]? =T[k]? :=by rw[adL ⋯,show b.length+2+k - b.length=k+2 by lia];rfl
theorem sa:(b++x::y::T).set b.length z=b++z::y::T:=by rw[adW _ _ ⋯,aee];rfl
theorem sb:(b++x::y::T).set (b.length+1) z=b++x::z::T:=by rw[adW _ _ ⋯,Nat.add_sub_cancel_left];rfl
theorem sT(k:Nat):(b++x::y::T).set (b.length+2+k) z=b++x::y::T.set k z:=by rw[adW _ _ ⋯,show b.length+2+k - b.length=k+2 by lia];rfl
end
noncomputable def HP(b:Y3)(n:Int)(ps:Ya)(T:Y3):Y3:=b++.obj 600 [.ref (b.length+1),.int n]::.lst (ps.map PV.str)::T
noncomputable def gu:Y1:=[108,111,110,103]
noncomputable def xu:Y1:=[108,105,115,116]
noncomputable def sA:Y1:=[116,114,117,116,104]
noncomputable def fQ:Y1:=[102,105,101,108,100]
noncomputable def mO:Y1:=[118,97,108,117,101]
section
variable(b T:Y3)(n m:Int)(ps qs:Ya)(ρ:Ev)
theorem Kr:(HP b n ps T)[b.length]? =some (.obj 600 [.ref (b.length+1),.int n]):=ga ..
theorem En:(HP b n ps T)[b.length+1]? =some (.lst (ps.map PV.str)):=gb ..
theorem HL(k:Nat):(HP b n ps T)[b.length+2+k]? =T[k]? :=gT ..
theorem wH:(HP b n ps T).length=b.length+2+T.length:=by unfold HP;simp;lia
theorem Te:aj (HP b n ps T) (.ref b.length)=.ref b.length:=by unfold aj;dsimp only;rw[Kr]
theorem d_q:aj (HP b n ps T) (.ref (b.length+1))=.ref (b.length+1):=by unfold aj;dsimp only;rw[En]
theorem DN:je 600 (HP b n ps T) (.ref b.length)=some (b.length,[.ref (b.length+1),.int n]):=by unfold je;dsimp only;rw[Kr];rfl
theorem BZ:pU 600 0 (.ref b.length) (HP b n ps T)=.ok (.ref (b.length+1)) (HP b n ps T):=by unfold pU;rw[DN];show Res.ok (aj _ (.ref (b.length+1))) _=_;rw[d_q]
theorem FQ:pU 600 1 (.ref b.length) (HP b n ps T)=.ok (.int n) (HP b n ps T):=by unfold pU;rw[DN];rfl
theorem EY:qS 600 1 (.int m) (.ref b.length) ρ (HP b n ps T)=.nx ρ (HP b m ps T):=by unfold qS;rw[DN];unfold HP;show SR.nx ρ (List.set _ _ _)=_;rw[sa];rfl
theorem Ud:(je 600 (HP b n ps T) (.ref b.length)).isSome=true:=by rw[DN];rfl
theorem Mx:jv (HP b n ps T) (.ref (b.length+1))=some (b.length+1,ps.map PV.str):=by unfold jv;dsimp only;rw[En]
theorem l_q:bY (HP b n ps T) (.ref (b.length+1))=true:=by unfold bY Tt S9;dsimp only;rw[En];rfl
theorem a_q{t:PV}(hl:ps.length<16777216):aV (.ref (b.length+1)) [t] (HP b n ps T)=.ok .non (b++.obj 600 [.ref (b.length+1),.int n]::.lst (ps.map PV.str++ [t])::T):=by unfold aV;simp only[Mx];rw[if_pos (by rw[adJ,szl];exact hl)];unfold HP;rw[sb]
theorem NJ(hl:ps.length<16777216):aV (.ref (b.length+1)) [.str t] (HP b n ps T)=.ok .non (HP b n (ps++ [t]) T):=by rw[a_q b T n ps hl];unfold HP;rw[adV];rfl
variable(k:Nat)
theorem mY(hl:ps.length<16777216)(t:Y1):X_ (k+1) .s7 [.ref b.length,.str t] (HP b n ps T)=.ok .non (HP b n (ps++ [t]) T):=by show bo (jy (F k)) 2 2 [.ref b.length,.str t] (HP b n ps T)=_;simp[EV,bo,jy,BZ,l_q,NJ _ _ _ _ hl,Te]
theorem mZ(h0:n<2000):X_ (k+1) .k_ [.ref b.length] (HP b n ps T)=.ok .non (HP b (n+1) ps T):=by show bo (dD (F k) _) 1 1 [.ref b.length] (HP b n ps T)=_;have e:(decide (n+1>2000))=false:=decide_eq_false ⋯;simp[EV,bo,dD,FQ,EY,Te,Tp,e]
theorem uC(h0:n=2000):X_ (k+2) .k_ [.ref b.length] (HP b n ps T)=.exc (xf gu) (HP b (n+1) ps T):=by show bo (dD (F (k+1)) (Nat.ble 2 (dl (k+1)))) 1 1 [.ref b.length] (HP b n ps T)=_;have e:(decide (n+1>2000))=true:=decide_eq_true ⋯;simp[EV,bo,dD,FQ,EY,Te,Tp,e,bl2];rfl
theorem zg(i:Nat)(t:Y1)(h0:n<2000)(hl:ps.length<16777216):X_ (k+2) .j8 [.ref b.length,.int i,.str t] (HP b n ps T)=.ok .non (HP b (n+1) (if i=0 then ps else ps++ [t]) T):=by
 have c:=mZ b T n ps k h0;have w:=mY b T (n+1) ps k hl t;show bo (bZ (F (k+1)) (X_ (k+1))) 3 3 [.ref b.length,.int i,.str t] (HP b n ps T)=_
 by_cases e:i=0
 .have e':decide ((i:Int)>0)=false:=decide_eq_false ⋯;simp[EV,bo,bZ,Te,Ud,c,w,Tp,e'];rw[if_pos e]
 .have e':decide ((i:Int)>0)=true:=decide_eq_true ⋯;simp[EV,bo,bZ,Te,Ud,c,w,Tp,e'];rw[if_neg e]
theorem vX(i:Int)(t:Y1)(h0:n=2000):X_ (k+3) .j8 [.ref b.length,.int i,.str t] (HP b n ps T)=.exc (xf gu) (HP b (n+1) ps T):=by have c:=uC b T n ps k h0;show bo (bZ (F (k+2)) (X_ (k+2))) 3 3 [.ref b.length,.int i,.str t] (HP b n ps T)=_;simp[EV,bo,bZ,Te,Ud,c,qg]
variable(r:Y2)(x y:PV)
theorem rm(h0:n<2000)(e:F (k+1) .found [x,.tup r]=.ok (.tup [y]))(hx:x.pure=true)(hr:aq r=true)(hy:y.pure=true):X_ (k+2) .d8 [.ref b.length,.tup (x::r)] (HP b n ps T)=.ok y (HP b (n+1) ps T):=by
 have c:=mZ b T n ps k h0;show bo (bH (F (k+1)) (X_ (k+1)) _) 2 3 [.ref b.length,.tup (x::r)] (HP b n ps T)=_;have z1:∀h,pT (.tup (x::r)) (some 1) none h=.ok (.tup r) h:=oF x r;have z2:∀h,aX (F (k+1) .found) [x,.tup r] h=.ok (.tup [y]) h:=fun h=>aL h (by simp[aq,PV.pure,hx,hr]) e;have n0:∀h,f9 (.tup [y]) (.int 0) h=.ok y h:=fun h=>by show Res.ok (aj h y) h=_;rw[ak h hy]
 simp[EV,bo,bH,Te,Ud,c,at0,ak _ hx,z1,z2,n0,LX]
theorem uB(h0:n<2000)(e:F (k+1) .found [x,.tup r]=.ok (.tup []))(hx:x.pure=true)(hr:aq r=true):X_ (k+2) .d8 [.ref b.length,.tup (x::r)] (HP b n ps T)=.exc (xf fQ) (HP b (n+1) ps T):=by have c:=mZ b T n ps k h0;show bo (bH (F (k+1)) (X_ (k+1)) (Nat.ble 2 (dl (k+1)))) 2 3 [.ref b.length,.tup (x::r)] (HP b n ps T)=_;have z2:∀h,aX (F (k+1) .found) [x,.tup r] h=.ok (.tup []) h:=fun h=>aL h (by simp[aq,PV.pure,hx,hr]) e;simp[EV,bo,bH,Te,Ud,c,at0,ak _ hx,oF,z2,LY,bl2];rfl
theorem vN(h0:n=2000):X_ (k+3) .d8 [.ref b.length,.tup r] (HP b n ps T)=.exc (xf gu) (HP b (n+1) ps T):=by have c:=uC b T n ps k h0;show bo (bH (F (k+2)) (X_ (k+2)) (Nat.ble 2 (dl (k+2)))) 2 3 [.ref b.length,.tup r] (HP b n ps T)=_;simp[EV,bo,bH,Te,Ud,c,qg]
variable(n2:Int)
section
variable(w:Y1)(c:X_ (k+1) .d8 [.ref b.length,.tup r] (HP b n ps T)=.exc (xf w) (HP b n2 ps T))
include c
theorem Fb(p:Y1):X_ (k+2) .G3 [.ref b.length,.tup r,.str p] (HP b n ps T)=.exc (xf w) (HP b n2 ps T):=by show bo (fP (F (k+1)) (X_ (k+1)) _) 3 5 [.ref b.length,.tup r,.str p] (HP b n ps T)=_;simp[EV,bo,fP,Te,Ud,c,qg]
theorem Bp:X_ (k+2) .j5 [.ref b.length,.tup r] (HP b n ps T)=.exc (xf w) (HP b n2 ps T):=by show bo (bL (F (k+1)) (X_ (k+1)) _) 2 3 [.ref b.length,.tup r] (HP b n ps T)=_;simp[EV,bo,bL,Te,Ud,c,qg]
theorem xz:X_ (k+2) .g_ [.ref b.length,.tup r] (HP b n ps T)=.exc (xf w) (HP b n2 ps T):=by show bo (bG (F (k+1)) (X_ (k+1)) _) 2 3 [.ref b.length,.tup r] (HP b n ps T)=_;simp[EV,bo,bG,Te,Ud,c,qg]
end
variable(v:PV)(pv:v.pure=true)(c:X_ (k+1) .d8 [.ref b.length,.tup r] (HP b n ps T)=.ok v (HP b n2 ps T))
include c pv
theorem oR(q:∀h,aw [v,.ty "list"] h=.ok (.bl false) h):X_ (k+2) .j5 [.ref b.length,.tup r] (HP b n ps T)=.exc (xf xu) (HP b n2 ps T):=by show bo (bL (F (k+1)) (X_ (k+1)) (Nat.ble 2 (dl (k+1)))) 2 3 [.ref b.length,.tup r] (HP b n ps T)=_;simp[EV,bo,bL,Te,Ud,c,ak _ pv,q,bl2];rfl
theorem lU(q:∀h,aw [v,.ty "bool"] h=.ok (.bl false) h):X_ (k+2) .g_ [.ref b.length,.tup r] (HP b n ps T)=.exc (xf sA) (HP b n2 ps T):=by show bo (bG (F (k+1)) (X_ (k+1)) (Nat.ble 2 (dl (k+1)))) 2 3 [.ref b.length,.tup r] (HP b n ps T)=_;simp[EV,bo,bG,Te,Ud,c,ak _ pv,q,bl2];rfl
theorem Ec(q:∀h,aw [v,.ty "list"] h=.ok (.bl true) h):X_ (k+2) .j5 [.ref b.length,.tup r] (HP b n ps T)=.ok v (HP b n2 ps T):=by show bo (bL (F (k+1)) (X_ (k+1)) (Nat.ble 2 (dl (k+1)))) 2 3 [.ref b.length,.tup r] (HP b n ps T)=_;simp[EV,bo,bL,Te,Ud,c,ak _ pv,q,bl2]
theorem Ah(q:∀h,aw [v,.ty "bool"] h=.ok (.bl true) h):X_ (k+2) .g_ [.ref b.length,.tup r] (HP b n ps T)=.ok v (HP b n2 ps T):=by show bo (bG (F (k+1)) (X_ (k+1)) (Nat.ble 2 (dl (k+1)))) 2 3 [.ref b.length,.tup r] (HP b n ps T)=_;simp[EV,bo,bG,Te,Ud,c,ak _ pv,q,bl2]
end
def ED(i:Nat)(hi:i<5)(hv:Dv v):∃b s,tR i v b s:=by
 rcases(show i=0\/i=1\/2<=i by lia)with rfl|rfl|h
 .exact KH hv
 .exact KL hv
 .exact KJ i h hi hv
def yx(hi:i<5)(pv:v.pure=true){s:Y1}(f:tR i v true s)(k:Nat):F (k+4) .g8 [.ins i [],v]=.ok (.str s):=by have pi:(PV.ins i []).pure=true:=rfl;have z1:∀h,aX (F (k+3) (lM i)) [.ins i [],v] h=.ok (.bl true) h:=fun h=>aL h (by simp only[aq,pv,pi];rfl) (f.1 k);have z2:∀h,aX (F (k+3) (CP i)) [.ins i [],v] h=.ok (.str s) h:=fun h=>aL h (by simp only[aq,pv,pi];rfl) ((f.2 rfl).1 (k+1));show ar (kh (F (k+3))) 2 2 [.ins i [],v]=_;simp[EV,ar,kh,Ce _ i hi,KZ _ i hi,ak _ pv,z1,z2,aT]
def Jr(b:Bool)(v:PV)(s:Y1)(b0:Y3)(n:Int)(ps:Ya)(T:Y3):Res PV:=match b with
 |true=>.ok v (HP b0 (n+1) (ps++ [s]) T)
 |false=>.exc (xf mO) (HP b0 (n+1) ps T)
theorem xN(b0 T:Y3)(k:Nat)(n:Int)(ps:Ya)(r:Y2)(x:PV)(h0:n<2000)(hl:ps.length<16777216)(hx:x.pure=true)(hr:aq r=true)(hi:i<5)(pv:v.pure=true){b:Bool}{s:Y1}(f:tR i v b s)(e:F (k+4) .found [x,.tup r]=.ok (.tup [v])):
  X_ (k+6) .G3 [.ref b0.length,.tup (x::r),.str (dE i)] (HP b0 n ps T)=Jr b v s b0 n ps T:=by
 have c:=rm b0 T n ps (k+3) r x v h0 e hx hr pv;have y:∀h,aX (F (k+5) .O6) [.str (dE i)] h=.ok (.ins i []) h:=fun h=>aL h rfl (xt (k+4) i hi);have pi:(PV.ins i []).pure=true:=rfl;have g:∀h,aX (F (k+5) (lM i)) [.ins i [],v] h=.ok (.bl b) h:=fun h=>aL h (by simp only[aq,pv,pi];rfl) (f.1 (k+2))
 cases b with
 |true=>have w:=mY b0 T (n+1) ps (k+4) hl s;have q:∀h,aX (F (k+5) .g8) [.ins i [],v] h=.ok (.str s) h:=fun h=>aL h (by simp only[aq,pv,pi];rfl) (yx hi pv f (k+1));show bo (fP (F (k+5)) (X_ (k+5)) _) 3 5 [.ref b0.length,.tup (x::r),.str (dE i)] (HP b0 n ps T)=_;simp[EV,bo,fP,Te,Ud,c,w,y,g,q,Ce _ i hi,FU _ i hi,ak _ pv];rfl
 |false=>show bo (fP (F (k+5)) (X_ (k+5)) (Nat.ble 2 (dl (k+5)))) 3 5 [.ref b0.length,.tup (x::r),.str (dE i)] (HP b0 n ps T)=_;have b2:Nat.ble 2 (dl (k+5))=true:=rfl;simp[EV,bo,fP,Te,Ud,c,y,g,Ce _ i hi,ak _ pv,b2];rfl
theorem Ma(h:Y3):wj (.str [94,94,34,113,10,110]) (.int 2) h=.ok (.str [94,34,10]) h:=rfl
theorem Mb(h:Y3):wj (.str [126,126,60,108,62,103,38,97,124,98,10,110]) (.int 2) h=.ok (.str [126,60,62,38,124,10]) h:=rfl
theorem Mc(h:Y3):wj (.str [126,126,10,110]) (.int 2) h=.ok (.str [126,10]) h:=rfl
section
variable(C:Fn->Y2->Out)(w v:Option PV)(o2 o3:Option PV)(mk:Nat)(told raw h_:Y1)(hs:∀h,wj (.str told) (.int 2) h=.ok (.str raw) h)(h0:PN told 0=some mk)(hT:∀i,i<raw.length->PN told (2 * (i:Int)+1)=some (h_.getD i 0))(ht:told.length<=100)
include hs h0 hT ht
theorem Ed(c:Nat)(o7:Option PV)(acc:Y1)(ha:acc.length<=5000)(h:Y3):∃o7',gn C [w,v,o2,o3,some (.str told),some (.str acc),some (.str [c]),o7] h=.nx [w,v,o2,o3,some (.str told),some (.str (acc++jj [mk] raw h_ c)),some (.str [c]),o7'] h:=by
 refine⟨some (.int (mB (bC [c] raw 0))),?_⟩;unfold jj
 cases q:bC [c] raw 0 with
 |none=>
  have d:decide ((-1:Int)<0)=true:=by decide
  have z:acc.length+1<=16777216:=by lia
  simp[EV,gn,hs,q,mB,d,z]
 |some i=>
  have hi:=uZ q;have d:decide ((i:Int)<0)=false:=decide_eq_false ⋯;have e:=hT i hi;have z1:told.length<=16777216:=by lia
  have z2:acc.length+(1+1)<=16777216:=by lia
  have m2:jg 2 (i:Int)=true:=rfl;simp[EV,gn,hs,q,mB,d,e,h0,z1,z2,m2]
theorem oS(hr:raw.length<=h_.length)(h:Y3):∀(l:Y1)(o6 o7:Option PV)(acc:Y1),acc.length+2 * l.length<=5000->∃U_ o7',bf (z7 6) (gn C) (l.map fun c=>PV.str [c]) [w,v,o2,o3,some (.str told),some (.str acc),o6,o7] h=.nx [w,v,o2,o3,some (.str told),some (.str (acc++mD [mk] raw h_ l)),U_,o7'] h
 |[],o6,o7,acc,_=>⟨o6,o7,by simp[bf,mD]⟩
 |c::r,o6,o7,acc,ha=>by simp only[adu]at ha;obtain⟨p,t1⟩:=Ed C w v o2 o3 mk told raw h_ hs h0 hT ht c o7 acc ⋯ h;have l1:=qz [mk] raw h_ c;obtain⟨a,b,e⟩:=oS hr h r (some (.str [c])) p (acc++jj [mk] raw h_ c) (by simp at l1 |-;lia);refine⟨a,b,?_⟩;rw[adE,gg];simp only[wT,aeV,aec,t1];rw[e];simp[mD]
end
abbrev tT:Y1:=[116,101,120,116]
abbrev tP:Y1:=[112,108,97,99,101]
abbrev tL:Y1:=[108,111,111,112]
abbrev tC:Y1:=[99,104,111,105,99,101]
set_option genInjectivity true in
inductive Nd where
 |text (s:Y1)
 |place (a:Y1) (f:Ya) (w:Nat)
 |loop (x:Y1) (a:Y1) (f:Ya) (ns:List Nd) (b:Y1)
 |choice (a:Y1) (f:Ya) (y n:List Nd)
variable{l:List Nd}
noncomputable def q_(a:Y1)(f:Ya):PV:=.tup (.str a::f.map PV.str)
mutual
noncomputable def nd:Nd->PV
 |.text s=>.tup [.str tT,.str s]
 |.place a f w=>.tup [.str tP,q_ a f,.str (dE w)]
 |.loop x a f ns b=>.tup [.str tL,.str x,q_ a f,.tup (b_ ns),.str b]
 |.choice a f y n=>.tup [.str tC,q_ a f,.tup (b_ y),.tup (b_ n)]
noncomputable def b_:List Nd->Y2
 |[]=>[]
 |n::r=>nd n::b_ r
end
theorem bz:∀l:Ya,aq (l.map PV.str)=true
 |[]=>rfl
 |a::r=>by rw[adE,aq,bz r];rfl
def dX(a:Y1)(f:Ya):(q_ a f).pure=true:=by unfold q_;rw[PV.pure,aq,bz];rfl
mutual
theorem kz:∀n:Nd,(nd n).pure=true
 |.text s=>by rw[nd];rfl
 |.place a f w=>by rw[nd];simp[PV.pure,aq,dX]
 |.loop x a f ns b=>by rw[nd];simp[PV.pure,aq,dX,bB ns]
 |.choice a f y n=>by rw[nd];simp[PV.pure,aq,dX,bB y,bB n]
theorem bB:∀l:List Nd,aq (b_ l)=true
 |[]=>by rw[b_];rfl
 |n::r=>by rw[b_,aq,kz n,bB r];rfl
end
theorem io:∀l:List Nd,b_ l=l.map nd
 |[]=>by rw[b_];rfl
 |n::r=>by rw[b_,io r];rfl
noncomputable def Pg:PV->Ya->Option PV
 |v,[]=>some v
 |.dct l,f::r=>match bj l (.inr f)with
  |some w=>Pg w r
  |none=>none
 |_,_::_=>none
inductive Fl where
 |sc (v:PV)
 |lst (l:List Fl)
 |tup (b:Bool) (l:List Fl)
mutual
def N5:Fl->PV
 |.sc v=>v
 |.lst l=>.lst (aW l)
 |.tup b l=>.tup [.bl b,.lst (aW l)]
def aW:List Fl->Y2
 |[]=>[]
 |x::r=>N5 x::aW r
end
inductive GR where
 |ok (vs:List Fl) (m:Nat) (ps:Ya)
 |no (w:Y1) (m:Nat) (ps:Ya)
variable{k:PV->GR}
noncomputable def GR.ps:GR->Ya
 |.ok _ _ ps=>ps
 |.no _ _ ps=>ps
def eS(sc:List (PK×PV))(a:Y1)(f:Ya)(m:Nat)(ps:Ya)(k:PV->GR):GR:=if m=2000 then .no gu m ps else match(bj sc (.inr a)).bind fun v=>Pg v f with
 |some v=>k v
 |none=>.no fQ (m+1) ps
def bN(f:PV->Nat->Ya->GR)(b:Y1):Nat->Y2->Nat->Ya->GR
 |_,[],m,ps=>.ok [] m ps
 |i,t::r,m,ps=>if m=2000 then .no gu m ps else match f t (m+1) (if i=0 then ps else ps++ [b])with
  |.ok vs m1 p1=>match bN f b (i+1) r m1 p1 with
   |.ok ws m2 p2=>.ok (.lst vs::ws) m2 p2
   |.no w m2 p2=>.no w m2 p2
  |.no w m1 p1=>.no w m1 p1
def Yn(v:PV):Prop:=(∃l,v=.str l)\/∃i,v=.int i
noncomputable def Ry(w:Nat)(v:PV):Option Y1:=open Classical in if h:Yn v/\∃s,tR w v true s then some h.2.choose else none
mutual
noncomputable def goN(sc:List (PK×PV)):Nd->Nat->Ya->GR
 |.text s,m,ps=>.ok [] m (ps++ [s])
 |.place a f w,m,ps=>eS sc a f m ps fun v=>match Ry w v with
  |some s=>.ok [.sc v] (m+1) (ps++ [s])
  |none=>.no mO (m+1) ps
 |.loop x a f ns b,m,ps=>eS sc a f m ps fun v=>match v with
  |.lst ts=>match bN (fun t m ps=>aE (aK sc (.inr x) t) ns m ps) b 0 ts (m+1) ps with
   |.ok vs m' p'=>.ok [.lst vs] m' p'
   |.no w m' p'=>.no w m' p'
  |_=>.no xu (m+1) ps
 |.choice a f y n,m,ps=>eS sc a f m ps fun v=>match v with
  |.bl true=>match aE sc y (m+1) ps with
   |.ok vs m' p'=>.ok [.tup true vs] m' p'
   |.no w m' p'=>.no w m' p'
  |.bl false=>match aE sc n (m+1) ps with
   |.ok vs m' p'=>.ok [.tup false vs] m' p'
   |.no w m' p'=>.no w m' p'
  |_=>.no sA (m+1) ps
noncomputable def aE(sc:List (PK×PV)):List Nd->Nat->Ya->GR
 |[],m,ps=>.ok [] m ps
 |n::r,m,ps=>match goN sc n m ps with
  |.ok v m1 p1=>match aE sc r m1 p1 with
   |.ok vs m2 p2=>.ok (v++vs) m2 p2
   |.no w m2 p2=>.no w m2 p2
  |.no w m1 p1=>.no w m1 p1
end
def pz{sc:List (PK×PV)}{m:Nat}{ps:Ya}(h:∀v,∃t,(k v).ps=ps++t):∃t,(eS sc a f m ps k).ps=ps++t:=by
 unfold eS
 split
 .exact⟨[],by simp[GR.ps]⟩
 .split
  .exact h _
  .exact⟨[],by simp[GR.ps]⟩
theorem jC{f:PV->Nat->Ya->GR}(h:∀v m ps,∃t,(f v m ps).ps=ps++t)(b:Y1):∀(ts:Y2)(i m:Nat)(ps:Ya),∃t,(bN f b i ts m ps).ps=ps++t
 |[],i,m,ps=>⟨[],by simp[bN,GR.ps]⟩
 |v::r,i,m,ps=>by
  unfold bN
  split
  .exact⟨[],by simp[GR.ps]⟩
  .obtain⟨t,e⟩:=h v (m+1) (if i=0 then ps else ps++ [b]);obtain⟨t0,e0⟩:∃t0,(if i=0 then ps else ps++ [b])=ps++t0:=by split;exact⟨[],by simp⟩;exact⟨[b],rfl⟩
   split
   .rename_i vs m1 p1 q;rw[q]at e;have e:p1=_++t:=e;obtain⟨t2,e2⟩:=jC h b r (i+1) m1 p1
    split<;>rename_i z<;>rw[z]at e2<;>exact⟨t0++(t++t2),(show _=p1++t2 from e2).trans (by rw[e,e0];simp)⟩
   .rename_i w m1 p1 q;rw[q]at e;have e:p1=_++t:=e;exact⟨t0++t,by show p1=_;rw[e,e0];simp⟩
mutual
theorem yg(sc:List (PK×PV)):∀(n:Nd)(m:Nat)(ps:Ya),∃t,(goN sc n m ps).ps=ps++t
 |.text s,m,ps=>⟨[s],by rw[goN];rfl⟩
 |.place a f w,m,ps=>by
  rw[goN];refine pz fun v=>?_
  split
  .exact⟨_,rfl⟩
  .exact⟨[],by simp[GR.ps]⟩
 |.loop x a f ns b,m,ps=>by
  rw[goN];refine pz fun v=>?_
  split
  .rename_i ts;obtain⟨t,e⟩:=jC (fun v m ps=>dG (aK sc (.inr x) v) ns m ps) b ts 0 (m+1) ps
   split<;>rename_i z<;>rw[z]at e<;>exact⟨t,e⟩
  .exact⟨[],by simp[GR.ps]⟩
 |.choice a f y n,m,ps=>by
  rw[goN];refine pz fun v=>?_
  split
  .obtain⟨t,e⟩:=dG sc y (m+1) ps
   split<;>rename_i z<;>rw[z]at e<;>exact⟨t,e⟩
  .obtain⟨t,e⟩:=dG sc n (m+1) ps
   split<;>rename_i z<;>rw[z]at e<;>exact⟨t,e⟩
  .exact⟨[],by simp[GR.ps]⟩
theorem dG(sc:List (PK×PV)):∀(l:List Nd)(m:Nat)(ps:Ya),∃t,(aE sc l m ps).ps=ps++t
 |[],m,ps=>⟨[],by rw[aE];simp[GR.ps]⟩
 |n::r,m,ps=>by
  rw[aE];obtain⟨t,e⟩:=yg sc n m ps
  split
  .rename_i v m1 p1 z;rw[z]at e;obtain⟨t2,e2⟩:=dG sc r m1 p1;have e:p1=ps++t:=e
   split<;>rename_i y<;>rw[y]at e2<;>exact⟨t++t2,by rw[e,adN]at e2;exact e2⟩
  .rename_i z;rw[z]at e;exact⟨t,e⟩
end
theorem Af(hv:Dv v)(n:∀l,v≠.str l)(m:Int)(k:Nat)(h:Y3):aX (F (k+2) .J9) [v,.int m] h=.ok (.bl false) h:=by
 obtain⟨b,t1,t2⟩:=sB hv m
 cases b with
 |false=>exact aL h (by simp only[aq,hv.pure];rfl) (t1 k)
 |true=>obtain⟨l,e,_⟩:=t2 rfl;exact absurd e (n l)
def Ir{w:Nat}(hw:w<5)(hv:Dv v)(n:∀l,v≠.str l)(m:∀i,v≠.int i):F 3 (lM w) [.ins w [],v]=.ok (.bl false):=by
 have pv:=hv.pure;have z:=fun(j:Int) h=>Af hv n j 0 h;rcases(show w=0\/w=1\/w=2\/w=3\/w=4 by lia)with rfl|rfl|rfl|rfl|rfl
 .show ar (bO (F 2)) 2 2 [.ins 0 [],v]=_;simp[EV,ar,bO,ak _ pv,z,aT]
 .show ar (aQ (F 2)) 2 2 [.ins 1 [],v]=_
  cases hv with
  |str l=>exact absurd rfl (n l)
  |int i=>exact absurd rfl (m i)
  |bl b=>simp[EV,ar,aQ,aT]
  |lst l p=>simp[EV,ar,aQ,aT]
  |dct l p=>simp[EV,ar,aQ,aT]
 .show ar (bV (F 2)) 2 2 [.ins 2 [],v]=_;simp[EV,ar,bV,ak _ pv,z,aT]
 .show ar (cC (F 2)) 2 2 [.ins 3 [],v]=_;simp[EV,ar,cC,ak _ pv,z,aT]
 .show ar (cY (F 2)) 2 2 [.ins 4 [],v]=_;simp[EV,ar,cY,ak _ pv,z,aT]
def hU{w:Nat}{s:Y1}(e:Ry w v=some s):tR w v true s:=by
 unfold Ry at e
 split at e
 .rename_i h;cases e;exact h.2.choose_spec
 .cases e
def qG{w:Nat}{s:Y1}(e:Ry w v=some s):Yn v:=by
 unfold Ry at e
 split at e
 .rename_i h;exact h.1
 .cases e
theorem vo{w:Nat}(hw:w<5)(hv:Dv v)(e:Ry w v=none):∃s,tR w v false s:=by
 obtain⟨b,s,f⟩:=ED w hw hv
 cases b with
 |false=>exact⟨s,f⟩
 |true=>
  unfold Ry at e
  split at e
  .cases e
  .rename_i h
   by_cases q:Yn v
   .exact absurd ⟨q,s,f⟩ h
   .have:=Ir hw hv (fun l z=>q (.inl ⟨l,z⟩)) fun i z=>q (.inr ⟨i,z⟩);rw[f.1 0]at this;cases this
mutual
def VN:Fl->Prop
 |.sc v=>Yn v
 |.lst l=>cH l
 |.tup _ l=>cH l
def cH:List Fl->Prop
 |[]=>True
 |x::r=>VN x/\cH r
end
theorem BO:∀{a b:List Fl},cH a->cH b->cH (a++b)
 |[],b,_,h=>h
 |x::r,b,h,k=>by rw[cH]at h;show cH (x::(r++b));rw[cH];exact⟨h.1,BO h.2 k⟩
def GR.gd:GR->Prop
 |.ok vs _ _=>cH vs
 |.no _ _ _=>True
def sx{sc:List (PK×PV)}{m:Nat}{ps:Ya}(h:∀v,(k v).gd):(eS sc a f m ps k).gd:=by
 unfold eS
 split
 .trivial
 .split
  .exact h _
  .trivial
theorem oJ{f:PV->Nat->Ya->GR}(h:∀v m ps,(f v m ps).gd)(b:Y1):∀(ts:Y2)(i m:Nat)(ps:Ya),(bN f b i ts m ps).gd
 |[],i,m,ps=>by rw[bN];show cH [];rw[cH];trivial
 |v::r,i,m,ps=>by
  unfold bN
  split
  .trivial
  .have:=h v (m+1) (if i=0 then ps else ps++ [b])
   split
   .rename_i vs m1 p1 q;rw[q]at this;have t:=oJ h b r (i+1) m1 p1
    split<;>rename_i z<;>rw[z]at t
    .show cH (_::_);rw[cH,VN];exact⟨this,t⟩
    .trivial
   .trivial
mutual
theorem wK(sc:List (PK×PV)):∀(n:Nd)(m:Nat)(ps:Ya),(goN sc n m ps).gd
 |.text s,m,ps=>by rw[goN];show cH [];rw[cH];trivial
 |.place a f w,m,ps=>by
  rw[goN];refine sx fun v=>?_
  split
  .rename_i e;show cH [_];rw[cH,VN,cH];exact⟨qG e,trivial⟩
  .trivial
 |.loop x a f ns b,m,ps=>by
  rw[goN];refine sx fun v=>?_
  split
  .rename_i ts;have t:=oJ (fun v m ps=>eI (aK sc (.inr x) v) ns m ps) b ts 0 (m+1) ps
   split<;>rename_i z<;>rw[z]at t
   .show cH [_];rw[cH,VN,cH];exact⟨t,trivial⟩
   .trivial
  .trivial
 |.choice a f y n,m,ps=>by
  rw[goN];refine sx fun v=>?_
  split
  .have t:=eI sc y (m+1) ps
   split<;>rename_i z<;>rw[z]at t
   .show cH [_];rw[cH,VN,cH];exact⟨t,trivial⟩
   .trivial
  .have t:=eI sc n (m+1) ps
   split<;>rename_i z<;>rw[z]at t
   .show cH [_];rw[cH,VN,cH];exact⟨t,trivial⟩
   .trivial
  .trivial
theorem eI(sc:List (PK×PV)):∀(l:List Nd)(m:Nat)(ps:Ya),(aE sc l m ps).gd
 |[],m,ps=>by rw[aE];show cH [];rw[cH];trivial
 |n::r,m,ps=>by
  rw[aE];have a:=wK sc n m ps
  split
  .rename_i v m1 p1 z;rw[z]at a;have t:=eI sc r m1 p1
   split<;>rename_i y<;>rw[y]at t
   .exact BO a t
   .trivial
  .trivial
end
mutual
theorem qx:∀{x:Fl},VN x->(N5 x).pure=true
 |.sc v,h=>by rw[VN]at h;rw[N5];rcases h with⟨l,rfl⟩|⟨i,rfl⟩<;>rfl
 |.lst l,h=>by rw[VN]at h;rw[N5,PV.pure];exact cI h
 |.tup b l,h=>by rw[VN]at h;rw[N5];simp[PV.pure,aq,cI h]
theorem cI:∀{xs:List Fl},cH xs->aq (aW xs)=true
 |[],_=>by rw[aW];rfl
 |x::r,h=>by rw[cH]at h;rw[aW,aq,qx h.1,cI h.2];rfl
end
inductive VV:Nat->PV->Prop
 |str (n:Nat) (l:Y1) (h:l.length<=400) (hc:∀c∈l,c∈br):VV n (.str l)
 |int (n:Nat) (i:Int):VV n (.int i)
 |bl (n:Nat) (b:Bool):VV n (.bl b)
 |lst (n:Nat) (xs:Y2) (h:∀x∈xs,VV n x) (l:xs.length<=1000):VV (n+1) (.lst xs)
 |dct (n:Nat) (l:List (PK×PV)) (h:∀x∈l,VV n x.2) (nd:(l.map (·.1)).Nodup) (ln:l.length<=1000) (kr:∀x∈l,x.1.isRight=true):VV (n+1) (.dct l)
theorem dW:∀{l:Y2},(∀x∈l,x.pure=true)->aq l=true
 |[],_=>rfl
 |a::r,h=>by rw[aq,h a (by simp),dW fun x hx=>h x (by simp[hx])];rfl
theorem VV.pure:∀{n:Nat}{v:PV},VV n v->v.pure=true
 |_,_,.str .. =>rfl
 |_,_,.int .. =>rfl
 |_,_,.bl .. =>rfl
 |_,_,.lst n xs h l=>by rw[PV.pure];exact dW fun x hx=>(h x hx).pure
 |_,_,.dct n l h _ _ _=>by rw[PV.pure,dC];exact dW fun x hx=>by obtain⟨y,hy,rfl⟩:=adT.mp hx;exact(h y hy).pure
theorem VV.dv(h:VV n v):Dv v:=by
 have p:=h.pure
 cases h with
 |str _ l h hc=>exact .str _ ⋯ fun c hx=>kQ c (hc c hx)
 |int _ i=>exact .int _
 |bl _ b=>exact .bl _
 |lst n xs h l=>exact .lst _ (by rw[PV.pure]at p;exact p)
 |dct n l h _ _ _=>exact .dct _ (by rw[PV.pure]at p;exact p)
theorem dU{l:List (PK×PV)}{k:PK}(e:bj l k=some v):(k,v)∈l:=by
 unfold bj at e
 cases q:l.find? (fun kv=>decide (kv.1=k))with
 |none=>rw[q]at e;cases e
 |some x=>rw[q]at e;cases e;have:=agd q;have h:=of_decide_eq_true (ahS (p:=fun kv:PK×PV=>decide (kv.1=k)) q);rw[<- h];exact this
theorem VV.get{l:List (PK×PV)}(h:VV n (.dct l)){k:PK}(e:bj l k=some v):∃m,m<n/\VV m v:=by
 cases h with
 |dct n l h nd ln kr=>exact⟨n,by lia,h _ (dU e)⟩
theorem fV:∀(f:Ya){n:Nat}{v w:PV},VV n v->Pg v f=some w->∃m,m<=n/\VV m w
 |[],n,v,w,h,e=>by cases v<;>(cases e;exact⟨n,adA _,h⟩)
 |x::f,n,v,w,h,e=>by
  cases v with
  |dct l=>
   unfold Pg at e
   split at e
   .rename_i z q;obtain⟨m,hm,hz⟩:=h.get q;obtain⟨m',Vd,hw⟩:=fV f hz e;exact⟨m',by lia,hw⟩
   .cases e
  |_=>cases e
noncomputable def gY(o:Option PV):Y2:=match o with
 |some v=> [v]
 |none=> []
theorem BA(hv:Dv v)(h:∀l,v≠.dct l)(hp:Y3):aw [v,.ty "dict"] hp=.ok (.bl false) hp:=by
 cases hv with
 |dct l p=>exact absurd rfl (h l)
 |_=>rfl
theorem uX(C:Fn->Y2->Out)(o:Option PV)(a:Option PV)(h:Y3):∀(f:Ya){n:Nat}{v:PV}(x:Option PV),VV n v->∃x',bf (z7 3) (iH C) (f.map PV.str) [o,a,some v,x] h=match Pg v f with
  |some w=>.nx [o,a,some w,x'] h
  |none=>.rt (.tup []) h
 |[],n,v,x,hv=>⟨x,by cases v<;>rfl⟩
 |y::f,n,v,x,hv=>by
  rw[adE,gg]
  by_cases q:∃l,v=.dct l
  .obtain⟨l,rfl⟩:=q
   cases e:bj l (.inr y)with
   |none=>refine⟨none,?_⟩;simp[EV,iH,e,Pg]
   |some w=>obtain⟨m,_,hw⟩:=hv.get e;obtain⟨x',i⟩:=uX C o a h f (some (.str y)) hw;refine⟨x',?_⟩;simp[EV,iH,e,Pg,ak _ hw.pure];exact i
  .refine⟨none,?_⟩;have z:=BA hv.dv (fun l e=>q ⟨l,e⟩) h;have nf:Pg v (y::f)=none:=by cases v<;>first|rfl|exact absurd ⟨_,rfl⟩ q
   rw[nf];simp[EV,iH,ak _ hv.pure,z]
theorem uW(k:Nat)(hv:VV n v)(f:Ya):F (k+1) .found [v,.tup (f.map PV.str)]=.ok (.tup (gY (Pg v f))):=by
 obtain⟨x',e⟩:=uX (F k) (some v) (some (.tup (f.map PV.str))) [] f none hv;show ar (oX (F k)) 2 4 [v,.tup (f.map PV.str)]=_
 cases q:Pg v f with
 |none=>rw[q]at e;simp[EV,ar,oX,ak _ hv.pure,e,gY];rfl
 |some w=>rw[q]at e;obtain⟨m,_,hw⟩:=fV f hv q;simp[EV,ar,oX,ak _ hv.pure,e,gY,ak _ hw.pure];exact er _ (by simp[PV.pure,aq,hw.pure])
def lC:∀(d:List (PK×PV))(k:PK)(v:PV),bP d=true->v.pure=true->bP (aK d k v)=true:=by
 intro d k v hd hv
 have mp:∀l:List (PK×PV),bP l=true->bP (l.map fun kv=>if kv.1=k then(kv.1,v)else kv)=true:=by
  intro l
  induction l with
  |nil=>intro _;rfl
  |cons a r ih=>
   intro h;obtain⟨a1,a2⟩:=a;rw[bP,adI]at h;rw[adE]
   by_cases e:a1=k
   .rw[if_pos e,bP,hv,ih h.2];rfl
   .rw[if_neg e,bP,h.1,ih h.2];rfl
 have ap:∀l:List (PK×PV),bP l=true->bP (l++ [(k,v)])=true:=by
  intro l
  induction l with
  |nil=>intro _;show bP [(k,v)]=true;rw[bP,hv];rfl
  |cons a r ih=>intro h;obtain⟨a1,a2⟩:=a;rw[bP,adI]at h;rw[aei,bP,h.1,ih h.2];rfl
 unfold aK
 split
 .exact mp d hd
 .exact ap d hd
def AQ(hd:(PV.dct d).pure=true)(k:PK)(hv:v.pure=true):(PV.dct (aK d k v)).pure=true:=by rw[PV.pure]at hd |-;exact lC d k v hd hv
def El(k:Nat)(x:Y1)(m:Y2)(d:List (PK×PV))(b:PV)(hd:(PV.dct d).pure=true)(hb:b.pure=true)(hm:aq m=true)(hl:d.length<=1000):F (k+1) .J1 [.str x,.tup m,Ws d b]=.ok (Ws (aK d (.inr x) (.tup m)) b):=by
 have q:(PV.tup m).pure=true:=by simpa[PV.pure]using hm
 have l2:d.length<16777216:=Nat.lt_of_le_of_lt hl ⋯;show ar (gG (F k)) 3 4 [.str x,.tup m,.tup [.dct d,b]]=_;simp[EV,ar,gG,at0,Yk,ak _ hd,ak _ q,ak _ hb,l2,BR _ (show bP (aK d (.inr x) (.tup m))=true from lC d _ _ (by rw[PV.pure]at hd;exact hd) q)];refine er _ ?_;rw[PV.pure,aq,aq,hb,AQ hd _ q];rfl
def cR{g:Gx}{r:Y2}{ρ1 ρ2:Ev}{h2:Y3}(hg:g p ρ=some ρ1)(hb:b ρ1 h=.nx ρ2 h2):bf g b (p::r) ρ h=bf g b r ρ2 h2:=by simp only[bf,hg,hb]
noncomputable def Qx(sc:List (PK×PV)):List (PK×PV):=sc.map fun x=>(x.1,.tup [x.2])
theorem zZ(sc:List (PK×PV))(k:PK):bj (Qx sc) k=(bj sc k).map fun v=>.tup [v]:=by
 unfold Qx bj
 induction sc with
 |nil=>rfl
 |cons x r ih=>
  rw[adE]
  by_cases e:x.1=k
  .rw[aea (by simp[e]),aea (by simp[e])];rfl
  .rw[ad6 (by simp[e]),ad6 (by simp[e])];exact ih
def xR(sc:List (PK×PV))(k:PK)(v:PV):aK (Qx sc) k (.tup [v])=Qx (aK sc k v):=by
 unfold aK Qx;rw[ah1];rw[show((fun kv:PK×PV=>decide (kv.1=k))∘fun x:PK×PV=>(x.1,PV.tup [x.2]))=fun kv=>decide (kv.1=k)from rfl]
 split
 .rw[aen,aen];refine ag4 fun x _=>?_;show(if x.1=k then(x.1,PV.tup [v])else(x.1,PV.tup [x.2]))=_
  by_cases e:x.1=k
  .rw[if_pos e];simp[e]
  .rw[if_neg e];simp[e]
 .rw[adV];rfl
def dZ{sc:List (PK×PV)}(h:∀x∈sc,VV n x.2):(PV.dct (Qx sc)).pure=true:=by rw[PV.pure,dC];refine dW fun x hx=>?_;obtain⟨y,hy,rfl⟩:=adT.mp hx;obtain⟨z,hz,rfl⟩:=adT.mp hy;simp[PV.pure,aq,(h z hz).pure]
def cw{sc:List (PK×PV)}(h:∀x∈sc,VV n x.2):(PV.dct sc).pure=true:=by rw[PV.pure,dC];refine dW fun x hx=>?_;obtain⟨y,hy,rfl⟩:=adT.mp hx;exact(h y hy).pure
def mh{sc:List (PK×PV)}{k:PK}{x:PK×PV}(h:x∈aK sc k v):x∈sc\/x=(k,v):=by
 unfold aK at h
 split at h
 .obtain⟨y,hy,e⟩:=adT.mp h
  split at e
  .rename_i q;exact .inr (by rw[<- e,q])
  .exact .inl (e▸hy)
 .rcases adS.mp h with q|q
  .exact .inl q
  .exact .inr (by simpa using q)
def ij(sc:List (PK×PV))(k:PK)(v:PV):(aK sc k v).length<=sc.length+1:=by
 unfold aK
 split<;>simp
section
variable(k:Nat){sc:List (PK×PV)}(hs:∀x∈sc,VV n x.2)
include hs
theorem pH(a:Y1)(f:Ya)(e:bj sc (.inr a)=some v)(hf:f.length<=900):F (k+1) .J0 [q_ a f,Ws (Qx sc) .non]=.ok (.tup (v::f.map PV.str)):=by have hv:=hs _ (dU e);exact IY k a (f.map PV.str) v [] (Qx sc) .non (by rw[zZ,e];rfl) (dZ hs) (bz f) (by simp[aq,hv.pure]) (by simp;lia)
theorem wF(x:Y1)(v:PV)(hv:v.pure=true)(hl:sc.length<=1000):F (k+1) .J1 [.str x,.tup [v],Ws (Qx sc) .non]=.ok (Ws (Qx (aK sc (.inr x) v)) .non):=by rw[El k x [v] (Qx sc) .non (dZ hs) rfl (by simp[aq,hv]) (by unfold Qx;simpa using hl),xR]
end
def Fc(a:Y1)(f:Ya)(h:Y3):f9 (q_ a f) (.int 0) h=.ok (.str a) h:=by show(match PN (PV.str a::f.map PV.str) 0 with|some v=>Res.ok (aj h v) h|none=>.bad)=_;rw[at0];rfl
theorem rB(C:Fn->Y2->Out)(o a:Option PV)(h:Y3):∀(f:Ya){n:Nat}{v:PV}(x:Option PV),VV n v->∃x',bf (z7 3) (gj C) (f.map PV.str) [o,a,some v,x] h=match Pg v f with
  |some w=>.nx [o,a,some w,x'] h
  |none=>.rt (.lst []) h
 |[],n,v,x,hv=>⟨x,by cases v<;>rfl⟩
 |y::f,n,v,x,hv=>by
  rw[adE,gg]
  by_cases q:∃l,v=.dct l
  .obtain⟨l,rfl⟩:=q
   cases e:bj l (.inr y)with
   |none=>refine⟨none,?_⟩;simp[EV,gj,e,Pg]
   |some w=>obtain⟨m,_,hw⟩:=hv.get e;obtain⟨x',i⟩:=rB C o a h f (some (.str y)) hw;refine⟨x',?_⟩;simp[EV,gj,e,Pg,ak _ hw.pure];exact i
  .refine⟨none,?_⟩;have z:=BA hv.dv (fun l e=>q ⟨l,e⟩) h;have nf:Pg v (y::f)=none:=by cases v<;>first|rfl|exact absurd ⟨_,rfl⟩ q
   rw[nf];simp[EV,gj,ak _ hv.pure,z]
theorem wC(k:Nat){sc:List (PK×PV)}(h:∀x∈sc,VV n x.2)(a:Y1)(f:Ya)(e:bj sc (.inr a)=some v):F (k+1) .Rt [q_ a f,.dct sc]=.ok (.lst (gY (Pg v f))):=by
 have hv:=h _ (dU e);have pu:=cw h;obtain⟨x',lp⟩:=rB (F k) (some (q_ a f)) (some (.dct sc)) [] f none hv;have z1:∀h,pT (q_ a f) (some 1) none h=.ok (.tup (f.map PV.str)) h:=oF _ _;have z0:∀h,f9 (q_ a f) (.int 0) h=.ok (.str a) h:=fun h=>Fc a f h;have dp:∀h,aj h (q_ a f)=q_ a f:=fun h=>rfl;show ar (kH (F k)) 2 4 [q_ a f,.dct sc]=_
 cases q:Pg v f with
 |none=>rw[q]at lp;simp[EV,ar,kH,dp,ak _ pu,z0,z1,e,ak _ hv.pure,lp,gY];rfl
 |some w=>rw[q]at lp;obtain⟨m,_,hw⟩:=fV f hv q;simp[EV,ar,kH,dp,ak _ pu,z0,z1,e,ak _ hv.pure,lp,gY,ak _ hw.pure];exact er _ (by simp[PV.pure,aq,hw.pure])
mutual
def Sd(B:Ya):Nd->Prop
 |.text _=>True
 |.place a f w=>a∈B/\f.length<=900/\w<5
 |.loop x a f ns _=>a∈B/\f.length<=900/\ns.length<=1000/\Td (x::B) ns
 |.choice a f y n=>a∈B/\f.length<=900/\y.length<=1000/\n.length<=1000/\Td B y/\Td B n
def Td(B:Ya):List Nd->Prop
 |[]=>True
 |n::r=>Sd B n/\Td B r
end
mutual
noncomputable def dN:Nd->Nat
 |.text _=>0
 |.place _ _ _=>0
 |.loop _ _ _ ns _=>J7 ns+1
 |.choice _ _ y n=>max (J7 y) (J7 n)+1
noncomputable def J7:List Nd->Nat
 |[]=>0
 |n::r=>max (dN n) (J7 r)
end
mutual
def Dp(c:Nat->Option PO)(lo hi:Nat):Fl->PV->Prop
 |.sc v,p=>p=v/\lo<=hi/\((∃l,v=.str l)\/∃i,v=.int i)
 |.lst l,p=>∃i ys,p=.ref i/\lo<=i/\i<hi/\c i=some (.lst ys)/\M5 c (i+1) hi l ys
 |.tup b l,p=>∃i ys,p=.tup [.bl b,.ref i]/\lo<=i/\i<hi/\c i=some (.lst ys)/\M5 c (i+1) hi l ys
def M5(c:Nat->Option PO)(lo hi:Nat):List Fl->Y2->Prop
 |[],ys=>ys= []/\lo<=hi
 |x::xs,ys=>∃y r mid,ys=y::r/\Dp c lo mid x y/\M5 c mid hi xs r
end
mutual
theorem Dp.le{c:Nat->Option PO}:∀{x:Fl}{lo hi:Nat}{p:PV},Dp c lo hi x p->lo<=hi
 |.sc v,lo,hi,p,h=>by rw[Dp]at h;exact h.2.1
 |.lst l,lo,hi,p,h=>by rw[Dp]at h;obtain⟨i,ys,_,a,b,_⟩:=h;lia
 |.tup b l,lo,hi,p,h=>by rw[Dp]at h;obtain⟨i,ys,_,a,b,_⟩:=h;lia
theorem M5.le{c:Nat->Option PO}:∀{xs:List Fl}{lo hi:Nat}{ps:Y2},M5 c lo hi xs ps->lo<=hi
 |[],lo,hi,ps,h=>by rw[M5]at h;exact h.2
 |x::xs,lo,hi,ps,h=>by
  rw[M5]at h;obtain⟨y,r,mid,_,a,b⟩:=h;have:=a.le;have:=M5.le b
  lia
end
mutual
theorem Dp.on{c c':Nat->Option PO}:∀{x:Fl}{lo hi:Nat}{p:PV},Dp c lo hi x p->(∀i,lo<=i->i<hi->c' i=c i)->Dp c' lo hi x p
 |.sc v,lo,hi,p,h,_=>by rw[Dp]at h |-;exact h
 |.lst l,lo,hi,p,h,k=>by rw[Dp]at h |-;obtain⟨i,ys,e,a,b,q,r⟩:=h;exact⟨i,ys,e,a,b,by rw[k i a b,q],r.on fun j j1 j2=>k j ⋯ j2⟩
 |.tup d l,lo,hi,p,h,k=>by rw[Dp]at h |-;obtain⟨i,ys,e,a,b,q,r⟩:=h;exact⟨i,ys,e,a,b,by rw[k i a b,q],r.on fun j j1 j2=>k j ⋯ j2⟩
theorem M5.on{c c':Nat->Option PO}:∀{xs:List Fl}{lo hi:Nat}{ps:Y2},M5 c lo hi xs ps->(∀i,lo<=i->i<hi->c' i=c i)->M5 c' lo hi xs ps
 |[],lo,hi,ps,h,_=>by rw[M5]at h |-;exact h
 |x::xs,lo,hi,ps,h,k=>by rw[M5]at h |-;obtain⟨y,r,mid,e,a,b⟩:=h;have l1:=a.le;have l2:=b.le;exact⟨y,r,mid,e,a.on fun j j1 j2=>k j j1 ⋯,b.on fun j j1 j2=>k j ⋯ j2⟩
end
theorem M5.app{c:Nat->Option PO}:∀{xs zs:List Fl}{lo mid hi:Nat}{ps qs:Y2},M5 c lo mid xs ps->M5 c mid hi zs qs->M5 c lo hi (xs++zs) (ps++qs)
 |[],zs,lo,mid,hi,ps,qs,h,k=>by
  rw[M5]at h;obtain⟨rfl,l⟩:=h
  cases zs with
  |nil=>rw[M5]at k;obtain⟨rfl,l2⟩:=k;show M5 c lo hi [] [];rw[M5];exact⟨rfl,by lia⟩
  |cons z zs=>
   rw[M5]at k;obtain⟨y,r,m,rfl,a,b⟩:=k;show M5 c lo hi (z::zs) (y::r);rw[M5];refine⟨y,r,m,rfl,?_,b⟩
   cases z with
   |sc v=>rw[Dp]at a |-;exact⟨a.1,by lia,a.2.2⟩
   |lst l=>rw[Dp]at a |-;obtain⟨i,ys,e1,e2,e3⟩:=a;exact⟨i,ys,e1,by lia,e3⟩
   |tup d l=>rw[Dp]at a |-;obtain⟨i,ys,e1,e2,e3⟩:=a;exact⟨i,ys,e1,by lia,e3⟩
 |x::xs,zs,lo,mid,hi,ps,qs,h,k=>by rw[M5]at h;obtain⟨y,r,m,rfl,a,b⟩:=h;show M5 c lo hi (x::(xs++zs)) (y::(r++qs));rw[M5];exact⟨y,r++qs,m,rfl,a,b.app k⟩
def HQ(b:Y3)(n:Int)(ps:Ya)(T:Y3)(xs:Y2)(U:Y3):Y3:=HP b n ps (T++.lst xs::U)
section
variable(b T U:Y3)(n:Int)(ps:Ya)(xs:Y2)
theorem HK:(HQ b n ps T xs U)[b.length+2+T.length]? =some (.lst xs):=by unfold HQ;rw[HL];simp
theorem qr(j:Nat):(HQ b n ps T xs U)[b.length+2+T.length+1+j]? =U[j]? :=by unfold HQ;rw[show b.length+2+T.length+1+j=b.length+2+(T.length+1+j) by lia,HL,adL ⋯,show T.length+1+j - T.length=j+1 by lia];rfl
theorem nG:aj (HQ b n ps T xs U) (.ref (b.length+2+T.length))=.ref (b.length+2+T.length):=by unfold aj;dsimp only;rw[HK]
theorem qT:bY (HQ b n ps T xs U) (.ref (b.length+2+T.length))=true:=by unfold bY Tt S9;dsimp only;rw[HK];rfl
theorem ES(hl:xs.length<16777216):aV (.ref (b.length+2+T.length)) [v] (HQ b n ps T xs U)=.ok .non (HQ b n ps T (xs++ [v]) U):=by
 have e:jv (HQ b n ps T xs U) (.ref (b.length+2+T.length))=some (b.length+2+T.length,xs):=by unfold jv;dsimp only;rw[HK]
 unfold aV;simp only[e];rw[if_pos (by rw[szl];exact hl)];unfold HQ HP;rw[sT,adW _ _ (adA _),aee];rfl
end
section
variable(k:Nat)(b T:Y3){m:Nat}(hm:m<=2000)(ps:Ya)(hv:VV nn v)(f:Ya)
include hv hm
theorem kY:(m=2000/\X_ (k+5) .d8 [.ref b.length,.tup (v::f.map PV.str)] (HP b m ps T)=.exc (xf gu) (HP b ((m:Int)+1) ps T))\/
  (m<2000/\Pg v f=none/\X_ (k+5) .d8 [.ref b.length,.tup (v::f.map PV.str)] (HP b m ps T)=.exc (xf fQ) (HP b ((m+1:Nat):Int) ps T))\/
  (m<2000/\∃w,Pg v f=some w/\X_ (k+5) .d8 [.ref b.length,.tup (v::f.map PV.str)] (HP b m ps T)=.ok w (HP b ((m+1:Nat):Int) ps T)):=by
 have fe:=uW (k+3) hv f
 by_cases e:m=2000
 .exact .inl ⟨e,vN b T m ps (k+2) (v::f.map PV.str) ⋯⟩
 .have lt:(m:Int)<2000:=by lia
  cases q:Pg v f with
  |none=>rw[q]at fe;exact .inr (.inl ⟨by lia,rfl,by have:=uB b T m ps (k+3) (f.map PV.str) v lt fe hv.pure (bz f);simpa using this⟩)
  |some w=>rw[q]at fe;obtain⟨_,_,hw⟩:=fV f hv q;exact .inr (.inr ⟨by lia,w,rfl,by have:=rm b T m ps (k+3) (f.map PV.str) v w lt fe hv.pure (bz f) hw.pure;simpa using this⟩)
theorem AP{w:Nat}(hw:w<5)(hl:ps.length<16777216):match(if m=2000 then .no gu m ps else match Pg v f with
   |some x=>(match Ry w x with
    |some s=>GR.ok [.sc x] (m+1) (ps++ [s])
    |none=>.no mO (m+1) ps)
   |none=>.no fQ (m+1) ps:GR)with
  |.ok vs m' p'=>∃x,vs= [.sc x]/\((∃l,x=.str l)\/∃i,x=.int i)/\m'<=2000/\X_ (k+6) .G3 [.ref b.length,.tup (v::f.map PV.str),.str (dE w)] (HP b m ps T)=.ok x (HP b m' p' T)
  |.no z _ p'=>∃n':Int,X_ (k+6) .G3 [.ref b.length,.tup (v::f.map PV.str),.str (dE w)] (HP b m ps T)=.exc (xf z) (HP b n' p' T):=by
 rcases kY k b T hm ps hv f with⟨e,c⟩|⟨e,q,c⟩|⟨e,x,q,c⟩
 .rw[if_pos e];exact⟨_,Fb b T m ps (k+4) _ _ gu c _⟩
 .rw[if_neg ⋯,q];exact⟨_,Fb b T m ps (k+4) _ _ fQ c _⟩
 .rw[if_neg ⋯,q];obtain⟨_,_,hx⟩:=fV f hv q;have fe:=uW (k+3) hv f;rw[q]at fe;dsimp only
  cases z:Ry w x with
  |none=>obtain⟨s,fc⟩:=vo hw hx.dv z;have:=xN b T k m ps (f.map PV.str) v ⋯ hl hv.pure (bz f) hw hx.pure fc fe;exact⟨_,this⟩
  |some s=>have fc:=hU z;have:=xN b T k m ps (f.map PV.str) v ⋯ hl hv.pure (bz f) hw hx.pure fc fe;exact⟨x,rfl,qG z,by lia,by simpa[Jr]using this⟩
theorem zC:match(if m=2000 then .no gu m ps else match Pg v f with
   |some (.lst ts)=>GR.ok [.sc (.lst ts)] (m+1) ps
   |some _=>.no xu (m+1) ps
   |none=>.no fQ (m+1) ps:GR)with
  |.ok vs m' p'=>∃ts,vs= [.sc (.lst ts)]/\Pg v f=some (.lst ts)/\m'=m+1/\m<2000/\p'=ps/\X_ (k+6) .j5 [.ref b.length,.tup (v::f.map PV.str)] (HP b m ps T)=.ok (.lst ts) (HP b m' p' T)
  |.no z _ p'=>∃n':Int,X_ (k+6) .j5 [.ref b.length,.tup (v::f.map PV.str)] (HP b m ps T)=.exc (xf z) (HP b n' p' T):=by
 rcases kY k b T hm ps hv f with⟨e,c⟩|⟨e,q,c⟩|⟨e,x,q,c⟩
 .rw[if_pos e];exact⟨_,Bp b T m ps (k+4) _ _ gu c⟩
 .rw[if_neg ⋯,q];exact⟨_,Bp b T m ps (k+4) _ _ fQ c⟩
 .rw[if_neg ⋯,q];obtain⟨_,_,hx⟩:=fV f hv q
  cases hx with
  |lst n ts h l=>exact⟨ts,rfl,rfl,rfl,e,rfl,Ec b T m ps (k+4) _ _ _ (VV.lst n ts h l).pure c fun _=>rfl⟩
  |str n l h hc=>exact⟨_,oR b T m ps (k+4) _ _ _ rfl c fun _=>rfl⟩
  |int n i=>exact⟨_,oR b T m ps (k+4) _ _ _ rfl c fun _=>rfl⟩
  |bl n i=>exact⟨_,oR b T m ps (k+4) _ _ _ rfl c fun _=>rfl⟩
  |dct n l h nd ln kr=>exact⟨_,oR b T m ps (k+4) _ _ _ (VV.dct n l h nd ln kr).pure c fun _=>rfl⟩
theorem vM:match(if m=2000 then .no gu m ps else match Pg v f with
   |some (.bl t)=>GR.ok [.sc (.bl t)] (m+1) ps
   |some _=>.no sA (m+1) ps
   |none=>.no fQ (m+1) ps:GR)with
  |.ok vs m' p'=>∃t,vs= [.sc (.bl t)]/\Pg v f=some (.bl t)/\m'=m+1/\m<2000/\p'=ps/\X_ (k+6) .g_ [.ref b.length,.tup (v::f.map PV.str)] (HP b m ps T)=.ok (.bl t) (HP b m' p' T)
  |.no z _ p'=>∃n':Int,X_ (k+6) .g_ [.ref b.length,.tup (v::f.map PV.str)] (HP b m ps T)=.exc (xf z) (HP b n' p' T):=by
 rcases kY k b T hm ps hv f with⟨e,c⟩|⟨e,q,c⟩|⟨e,x,q,c⟩
 .rw[if_pos e];exact⟨_,xz b T m ps (k+4) _ _ gu c⟩
 .rw[if_neg ⋯,q];exact⟨_,xz b T m ps (k+4) _ _ fQ c⟩
 .rw[if_neg ⋯,q];obtain⟨_,_,hx⟩:=fV f hv q
  cases hx with
  |bl n i=>exact⟨i,rfl,rfl,rfl,e,rfl,Ah b T m ps (k+4) _ _ _ rfl c fun _=>rfl⟩
  |lst n ts h l=>exact⟨_,lU b T m ps (k+4) _ _ _ (VV.lst n ts h l).pure c fun _=>rfl⟩
  |str n l h hc=>exact⟨_,lU b T m ps (k+4) _ _ _ rfl c fun _=>rfl⟩
  |int n i=>exact⟨_,lU b T m ps (k+4) _ _ _ rfl c fun _=>rfl⟩
  |dct n l h nd ln kr=>exact⟨_,lU b T m ps (k+4) _ _ _ (VV.dct n l h nd ln kr).pure c fun _=>rfl⟩
end
abbrev Qa(sc:List (PK×PV)):PV:=Ws (Qx sc) .non
abbrev rq(b T:Y3):Nat:=b.length+2+T.length
def gI(k:Nat)(sc:List (PK×PV))(l:List Nd):Prop:=∀(b:Y3)(m:Nat)(ps:Ya)(T:Y3),m<=2000->(aE sc l m ps).ps.length<=16000000->match aE sc l m ps with
 |.ok vs m' p'=>∃xs U,X_ k .u9 [.tup (b_ l),Qa sc,.ref b.length] (HP b m ps T)=.ok (.ref (rq b T)) (HQ b m' p' T xs U)/\m'<=2000/\M5 (fun i=>(HQ b m' p' T xs U)[i]?) (rq b T+1) (rq b T+1+U.length) vs xs
 |.no w _ p'=>∃(n':Int)(T':Y3),X_ k .u9 [.tup (b_ l),Qa sc,.ref b.length] (HP b m ps T)=.exc (xf w) (HP b n' p' T')
def ki(k:Nat)(sc:List (PK×PV))(n:Nd):Prop:=∀(b:Y3)(m:Nat)(ps:Ya)(T:Y3)(xs:Y2)(U:Y3)(nv o5:Option PV),m<=2000->(goN sc n m ps).ps.length<=16000000->xs.length<=1000000->match goN sc n m ps with
 |.ok vs m' p'=>∃ys V R6,aS (F k) (X_ k) [nv,some (Qa sc),some (.ref b.length),some (.ref (rq b T)),some (nd n),o5] (HQ b m ps T xs U)=.nx [nv,some (Qa sc),some (.ref b.length),some (.ref (rq b T)),some (nd n),R6] (HQ b m' p' T (xs++ys) (U++V))/\m'<=2000/\ys.length<=1/\M5 (fun i=>(HQ b m' p' T (xs++ys) (U++V))[i]?) (rq b T+1+U.length) (rq b T+1+U.length+V.length) vs ys
 |.no w _ p'=>∃(n':Int)(T':Y3),aS (F k) (X_ k) [nv,some (Qa sc),some (.ref b.length),some (.ref (rq b T)),some (nd n),o5] (HQ b m ps T xs U)=.exc (xf w) (HP b n' p' T')
def BF(b T U V:Y3)(n n2:Int)(ps p2:Ya)(xs ys:Y2)(i:Nat)(h1:rq b T+1<=i)(h2:i<rq b T+1+U.length):(HQ b n2 p2 T ys (U++V))[i]? =(HQ b n ps T xs U)[i]? :=by
 obtain⟨j,rfl⟩:∃j,i=rq b T+1+j:=⟨i - (rq b T+1),by lia⟩
 rw[qr,qr,adC ⋯]
theorem rN(k:Nat)(sc:List (PK×PV))(b T:Y3)(nv:Option PV):∀(l:List Nd),(∀n∈l,ki k sc n)->∀(m:Nat)(ps:Ya)(xs:Y2)(U:Y3)(o4 o5:Option PV),m<=2000->(aE sc l m ps).ps.length<=16000000->xs.length+l.length<=1000000->(match aE sc l m ps with
 |.ok vs m' p'=>∃ys V Ue R6,bf (z7 4) (aS (F k) (X_ k)) (b_ l) [nv,some (Qa sc),some (.ref b.length),some (.ref (rq b T)),o4,o5] (HQ b m ps T xs U)=.nx [nv,some (Qa sc),some (.ref b.length),some (.ref (rq b T)),Ue,R6] (HQ b m' p' T (xs++ys) (U++V))/\m'<=2000/\M5 (fun i=>(HQ b m' p' T (xs++ys) (U++V))[i]?) (rq b T+1+U.length) (rq b T+1+U.length+V.length) vs ys
 |.no w _ p'=>∃(n':Int)(T':Y3),bf (z7 4) (aS (F k) (X_ k)) (b_ l) [nv,some (Qa sc),some (.ref b.length),some (.ref (rq b T)),o4,o5] (HQ b m ps T xs U)=.exc (xf w) (HP b n' p' T'))
 |[],_,m,ps,xs,U,o4,o5,hm,_,_=>by rw[aE];exact⟨[],[],o4,o5,by rw[b_,adU,adU];rfl,hm,by rw[M5];exact⟨rfl,by simp⟩⟩
 |n::r,ok,m,ps,xs,U,o4,o5,hm,hz,hl=>by
  have N:=ok n (by simp) b m ps T xs U nv o5 hm;rw[aE]at hz |-;rw[b_,gg];simp only[wT,aeV,aec];rw[adu]at hl
  cases e1:goN sc n m ps with
  |no w m1 p1=>rw[e1]at hz N;obtain⟨n',T',e⟩:=N hz ⋯;exact⟨n',T',by rw[e]⟩
  |ok v m1 p1=>
   rw[e1]at hz N;dsimp only at hz N |-;obtain⟨t,et⟩:=dG sc r m1 p1
   have Vr:p1.length<=16000000:=by
    have TX:(aE sc r m1 p1).ps.length<=16000000:=by revert hz;cases aE sc r m1 p1<;>exact id
    rw[et,adt]at TX;lia
   obtain⟨ys,V,R6,e,QH,hy,D⟩:=N Vr ⋯;rw[e];have R:=rN k sc b T nv r (fun x hx=>ok x (by simp[hx])) m1 p1 (xs++ys) (U++V) (some (nd n)) R6 QH;dsimp only
   cases e2:aE sc r m1 p1 with
   |no w m2 p2=>rw[e2]at hz R;obtain⟨n',T',e'⟩:=R hz (by rw[adt];lia);exact⟨n',T',e'⟩
   |ok vs m2 p2=>
    rw[e2]at hz R;obtain⟨zs,W,Ze,Zd,e',Wb,D2⟩:=R hz (by rw[adt];lia);refine⟨ys++zs,V++W,Ze,Zd,?_,Wb,?_⟩
    .rw[e',adN,adN]
    .rw[<- adN,<- adN];have l1:rq b T+1+U.length+V.length=rq b T+1+(U++V).length:=by rw[adt];lia
     rw[show rq b T+1+U.length+(V++W).length=rq b T+1+(U++V).length+W.length by simp only[adt];lia];refine M5.app (mid:=rq b T+1+(U++V).length) ?_ D2;rw[l1]at D;exact D.on fun i h1 h2=>BF b T (U++V) W _ _ _ _ _ _ i ⋯ h2
theorem u9(k:Nat)(sc:List (PK×PV))(pu:(PV.dct (Qx sc)).pure=true)(l:List Nd)(ok:∀n∈l,ki k sc n)(hl:l.length<=1000000):gI (k+1) sc l:=by
 intro b m ps T hm hz;have ru:∀h,X_ (k+1) .u9 [.tup (b_ l),Qa sc,.ref b.length] h=bo (kj (F k) (X_ k)) 3 6 [.tup (b_ l),Qa sc,.ref b.length] h:=fun _=>rfl;have hq:HP b m ps T++ [PO.lst []]=HQ b m ps T [] []:=by unfold HQ HP;simp
 have hn:(HP b m ps T).length=rq b T:=wH ..;have L:=rN k sc b T (some (.tup (b_ l))) l ok m ps [] [] none none hm hz (by simpa using hl);have ds:∀h,aj h (Qa sc)=Qa sc:=fun _=>rfl;rw[ru]
 cases e:aE sc l m ps with
 |no w m1 p1=>rw[e]at L;obtain⟨n',T',e'⟩:=L;refine⟨n',T',?_⟩;simp[EV,bo,kj,hq,hn,e']
 |ok vs m1 p1=>rw[e]at L;obtain⟨ys,V,o4,o5,e',Vd,D⟩:=L;refine⟨ys,V,?_,Vd,D⟩;have d:aj (HQ b m1 p1 T ys V) (.ref (rq b T))=.ref (rq b T):=nG b T V m1 p1 ys;simp only[ad1]at e' |-;simp[EV,bo,kj,hq,hn,e',d]
def Qj{b:Y1}(c:Bool)(e:(match z_ (.str a) (.str b) []with|.ok (.bl d) _=>d==c|_=>false)=true:=by kernel_rfl)(h:Y3):z_ (.str a) (.str b) h=.ok (.bl c) h:=by
 unfold z_ at e |-
 split at e
 .rename_i d h' z
  split at z
  .rename_i ok
   cases z
   have:R5 h (.str a)=true/\R5 h (.str b)=true:=ok;rw[if_pos this];have q:=afe e;rw[show QV h (.str a)=QV [] (.str a)from rfl,show QV h (.str b)=QV [] (.str b)from rfl,q]
  .cases z
 .cases e
abbrev qE(a b:Y1)(c:Bool)(h:Y3):Prop:=z_ (.str a) (.str b) h=.ok (.bl c) h
def Tn(h:Y3):qE tT tT true h/\qE tP tT false h/\qE tP tP true h/\qE tL tT false h/\qE tL tP false h/\qE tL tL true h/\qE tC tT false h/\qE tC tP false h/\qE tC tL false h/\qE tP tL false h/\qE tC tC true h:=⟨Qj _ (h:=h),Qj _ (h:=h),Qj _ (h:=h),Qj _ (h:=h),Qj _ (h:=h),Qj _ (h:=h),Qj _ (h:=h),Qj _ (h:=h),Qj _ (h:=h),Qj _ (h:=h),Qj _ (h:=h)⟩
def bc(h:Y3)(n:Nd):aj h (nd n)=nd n:=ak (h:=h) (kz n)
section
variable(h:Y3)
theorem xW(s:Y1):f9 (nd (.text s)) (.int 0) h=.ok (.str tT) h/\f9 (nd (.text s)) (.int 1) h=.ok (.str s) h:=by rw[nd];exact⟨rfl,rfl⟩
theorem qj(a:Y1)(f:Ya)(w:Nat):f9 (nd (.place a f w)) (.int 0) h=.ok (.str tP) h/\f9 (nd (.place a f w)) (.int 1) h=.ok (q_ a f) h/\f9 (nd (.place a f w)) (.int 2) h=.ok (.str (dE w)) h:=by rw[nd];exact⟨rfl,rfl,rfl⟩
theorem ms(x a:Y1)(f:Ya)(ns:List Nd)(b:Y1):f9 (nd (.loop x a f ns b)) (.int 0) h=.ok (.str tL) h/\f9 (nd (.loop x a f ns b)) (.int 1) h=.ok (.str x) h/\f9 (nd (.loop x a f ns b)) (.int 2) h=.ok (q_ a f) h/\f9 (nd (.loop x a f ns b)) (.int 3) h=.ok (.tup (b_ ns)) h/\f9 (nd (.loop x a f ns b)) (.int 4) h=.ok (.str b) h:=by rw[nd];exact⟨rfl,rfl,rfl,rfl,rfl⟩
theorem qk(a:Y1)(f:Ya)(y n:List Nd):f9 (nd (.choice a f y n)) (.int 0) h=.ok (.str tC) h/\f9 (nd (.choice a f y n)) (.int 1) h=.ok (q_ a f) h/\f9 (nd (.choice a f y n)) (.int 2) h=.ok (.tup (b_ y)) h/\f9 (nd (.choice a f y n)) (.int 3) h=.ok (.tup (b_ n)) h:=by rw[nd];exact⟨rfl,rfl,rfl,rfl⟩
end
section
variable(b T U:Y3)(n:Int)(ps:Ya)(xs:Y2)
theorem kJ:aj (HQ b n ps T xs U) (.ref b.length)=.ref b.length:=Te ..
theorem nh:(je 600 (HQ b n ps T xs U) (.ref b.length)).isSome=true:=Ud ..
theorem rH(ys:Y2)(V:Y3):HQ b n ps (T++.lst xs::U) ys V=HQ b n ps T xs (U++.lst ys::V):=by unfold HQ;rw[adN];rfl
theorem rd:rq b (T++.lst xs::U)=rq b T+1+U.length:=by unfold rq;simp;lia
end
def zm(k:Nat)(sc:List (PK×PV))(s:Y1):ki (k+1) sc (.text s):=by intro b m ps T xs U nv o5 hm hz hx;rw[goN]at hz |-;have hz:(ps++ [s]).length<=16000000:=hz;rw[adt]at hz;have w:X_ (k+1) .s7 [.ref b.length,.str s] (HQ b m ps T xs U)=.ok .non (HQ b m (ps++ [s]) T xs U):=mY b _ m ps k ⋯ s;have i:=fun h=>xW h s;refine⟨[],[],o5,?_,hm,by simp,by rw[M5];exact⟨rfl,by simp⟩⟩;simp[EV,aS,bc,(i _).1,(i _).2,(Tn _).1,kJ,nh,w]
theorem wt(k:Nat){sc:List (PK×PV)}(hs:∀x∈sc,VV nn x.2)(a:Y1)(f:Ya)(w:Nat)(e:bj sc (.inr a)=some v)(hf:f.length<=900)(hw:w<5):ki (k+6) sc (.place a f w):=by
 intro b m ps T xs U nv o5 hm hz hx;have hv:VV nn v:=hs _ (dU e);have st:∀h,aX (F (k+6) .J0) [q_ a f,Qa sc] h=.ok (.tup (v::f.map PV.str)) h:=fun h=>aL h (by simp only[aq,dX,aeS,aek];show(PV.tup [.dct (Qx sc),.non]).pure=true;rw[PV.pure,aq,dZ hs];rfl) (pH (k+5) hs a f e hf);have hz':ps.length<=16000000:=by obtain⟨t,et⟩:=yg sc (.place a f w) m ps;rw[et,adt]at hz;lia
 have P:=AP k b (T++.lst xs::U) hm ps hv f hw ⋯;have i:=fun h=>qj h a f w;have ds:∀h,aj h (Qa sc)=Qa sc:=fun _=>rfl;have dp:∀h,aj h (q_ a f)=q_ a f:=fun _=>rfl
 have g:goN sc (.place a f w) m ps=(if m=2000 then .no gu m ps else match Pg v f with
   |some x=>(match Ry w x with
    |some s=>GR.ok [.sc x] (m+1) (ps++ [s])
    |none=>.no mO (m+1) ps)
   |none=>.no fQ (m+1) ps:GR):=by
  rw[goN];unfold eS;rw[e];rfl
 rw[g]
 revert P
 cases(if m=2000 then .no gu m ps else match Pg v f with
   |some x=>(match Ry w x with
    |some s=>GR.ok [.sc x] (m+1) (ps++ [s])
    |none=>.no mO (m+1) ps)
   |none=>.no fQ (m+1) ps:GR)with
 |no z m1 p1=>
  rintro⟨n',c⟩
  have c:X_ (k+6) .G3 [.ref b.length,.tup (v::f.map PV.str),.str (dE w)] (HQ b m ps T xs U)=.exc (xf z) (HP b n' p1 (T++.lst xs::U)):=c;refine⟨n',T++.lst xs::U,?_⟩;simp[EV,aS,bc,(i _).1,(i _).2.1,(i _).2.2,(Tn _).2.1,(Tn _).2.2.1,kJ,nG,qT,nh,st,ds,dp,c];rfl
 |ok vs m1 p1=>
  rintro⟨x,rfl,hx',QH,c⟩
  have c:X_ (k+6) .G3 [.ref b.length,.tup (v::f.map PV.str),.str (dE w)] (HQ b m ps T xs U)=.ok x (HQ b m1 p1 T xs U):=c;have ap:=ES b T U m1 p1 xs (v:=x) ⋯;refine⟨[x],[],o5,?_,QH,by simp,?_⟩
  .simp[EV,aS,bc,(i _).1,(i _).2.1,(i _).2.2,(Tn _).2.1,(Tn _).2.2.1,kJ,nG,qT,nh,st,ds,dp,c,ap]
  .rw[M5];exact⟨x,[],_,rfl,by rw[Dp];exact⟨rfl,adA _,hx'⟩,by rw[M5];exact⟨rfl,by simp⟩⟩
def uH(k:Nat){sc:List (PK×PV)}(hs:∀x∈sc,VV nn x.2)(a:Y1)(f:Ya)(y n:List Nd)(e:bj sc (.inr a)=some v)(hf:f.length<=900)(ky:gI (k+6) sc y)(kn:gI (k+6) sc n):ki (k+6) sc (.choice a f y n):=by
 intro b m ps T xs U nv o5 hm hz hx;have hv:VV nn v:=hs _ (dU e);have st:∀h,aX (F (k+6) .J0) [q_ a f,Qa sc] h=.ok (.tup (v::f.map PV.str)) h:=fun h=>aL h (by simp only[aq,dX,aeS,aek];show(PV.tup [.dct (Qx sc),.non]).pure=true;rw[PV.pure,aq,dZ hs];rfl) (pH (k+5) hs a f e hf);have P:=vM k b (T++.lst xs::U) hm ps hv f;have i:=fun h=>qk h a f y n;have ds:∀h,aj h (Qa sc)=Qa sc:=fun _=>rfl;have dp:∀h,aj h (q_ a f)=q_ a f:=fun _=>rfl;rw[goN]at hz |-;unfold eS at hz |-;rw[e]at hz |-;simp only[aeG]at hz |-
 have stop:∀(z:Y1)(n':Int)(p1:Ya),X_ (k+6) .g_ [.ref b.length,.tup (v::f.map PV.str)] (HP b m ps (T++.lst xs::U))=.exc (xf z) (HP b n' p1 (T++.lst xs::U))->∃(n':Int)(T':Y3),aS (F (k+6)) (X_ (k+6)) [nv,some (Qa sc),some (.ref b.length),some (.ref (rq b T)),some (nd (.choice a f y n)),o5] (HQ b m ps T xs U)=.exc (xf z) (HP b n' p1 T'):=fun z n' p1 c=>by have c:X_ (k+6) .g_ [.ref b.length,.tup (v::f.map PV.str)] (HQ b m ps T xs U)=.exc (xf z) (HP b n' p1 (T++.lst xs::U)):=c;refine⟨n',T++.lst xs::U,?_⟩;have tg:=Tn;simp[EV,aS,bc,(i _).1,(i _).2.1,(tg _).2.2.2.2.2.2.1,(tg _).2.2.2.2.2.2.2.1,(tg _).2.2.2.2.2.2.2.2.1,kJ,nh,st,ds,dp,c]
 have side:∀(t:Bool)(l:List Nd),(if t then y else n)=l->gI (k+6) sc l->m<2000->X_ (k+6) .g_ [.ref b.length,.tup (v::f.map PV.str)] (HP b m ps (T++.lst xs::U))=.ok (.bl t) (HP b ((m+1:Nat):Int) ps (T++.lst xs::U))->(aE sc l (m+1) ps).ps.length<=16000000->(match(match aE sc l (m+1) ps with
   |.ok vs m' p'=>GR.ok [.tup t vs] m' p'
   |.no w m' p'=>.no w m' p')with
  |.ok vs m' p'=>∃ys V R6,aS (F (k+6)) (X_ (k+6)) [nv,some (Qa sc),some (.ref b.length),some (.ref (rq b T)),some (nd (.choice a f y n)),o5] (HQ b m ps T xs U)=.nx [nv,some (Qa sc),some (.ref b.length),some (.ref (rq b T)),some (nd (.choice a f y n)),R6] (HQ b m' p' T (xs++ys) (U++V))/\m'<=2000/\ys.length<=1/\M5 (fun i=>(HQ b m' p' T (xs++ys) (U++V))[i]?) (rq b T+1+U.length) (rq b T+1+U.length+V.length) vs ys
  |.no w _ p'=>∃(n':Int)(T':Y3),aS (F (k+6)) (X_ (k+6)) [nv,some (Qa sc),some (.ref b.length),some (.ref (rq b T)),some (nd (.choice a f y n)),o5] (HQ b m ps T xs U)=.exc (xf w) (HP b n' p' T')):=fun t l hl kl Wb c TX=>by
  have c:X_ (k+6) .g_ [.ref b.length,.tup (v::f.map PV.str)] (HQ b m ps T xs U)=.ok (.bl t) (HQ b ((m+1:Nat):Int) ps T xs U):=c;have K:=kl b (m+1) ps (T++.lst xs::U) ⋯ TX;have tg:=Tn
  cases e1:aE sc l (m+1) ps with
  |no w m1 p1=>
   rw[e1]at K;obtain⟨n',T',q⟩:=K;have q:X_ (k+6) .u9 [.tup (b_ l),Qa sc,.ref b.length] (HQ b ((m+1:Nat):Int) ps T xs U)=.exc (xf w) (HP b n' p1 T'):=q;refine⟨n',T',?_⟩
   cases t<;>(simp only[if_true,aeY,if_false]at hl)<;>subst hl<;>simp[EV,aS,bc,(i _).1,(i _).2.1,(i _).2.2.1,(i _).2.2.2,(tg _).2.2.2.2.2.2.1,(tg _).2.2.2.2.2.2.2.1,(tg _).2.2.2.2.2.2.2.2.1,kJ,nh,nG,qT,st,ds,dp,c,q]<;>rfl
  |ok vs m1 p1=>
   rw[e1]at K;obtain⟨ys,V,q,Vd,D⟩:=K;rw[rH,rd]at q;have q:X_ (k+6) .u9 [.tup (b_ l),Qa sc,.ref b.length] (HQ b ((m+1:Nat):Int) ps T xs U)=.ok (.ref (rq b T+1+U.length)) (HQ b m1 p1 T xs (U++.lst ys::V)):=q;have ap:=ES b T (U++.lst ys::V) m1 p1 xs (v:=.tup [.bl t,.ref (rq b T+1+U.length)]) ⋯;refine⟨[.tup [.bl t,.ref (rq b T+1+U.length)]],.lst ys::V,some (.bl t),?_,Vd,by simp,?_⟩
   .cases t<;>(simp only[if_true,aeY,if_false]at hl)<;>subst hl<;>simp[EV,aS,bc,(i _).1,(i _).2.1,(i _).2.2.1,(i _).2.2.2,(tg _).2.2.2.2.2.2.1,(tg _).2.2.2.2.2.2.2.1,(tg _).2.2.2.2.2.2.2.2.1,kJ,nh,nG,qT,st,ds,dp,c,q,ap]
   .rw[M5];refine⟨_,[],rq b T+1+U.length+(PO.lst ys::V).length,rfl,?_,by rw[M5];exact⟨rfl,adA _⟩⟩;rw[Dp];rw[rd]at D;refine⟨_,ys,rfl,adA _,by simp,?_,?_⟩
    .show(HQ b m1 p1 T _ _)[rq b T+1+U.length]? =_;rw[qr];simp
    .rw[adu,show rq b T+1+U.length+(V.length+1)=rq b T+1+U.length+1+V.length by lia];refine D.on fun j h1 h2=>?_;obtain⟨z,rfl⟩:∃z,j=rq b T+1+z:=⟨j - (rq b T+1),by lia⟩
     show(HQ b m1 p1 T _ _)[_]? =(HQ b m1 p1 _ _ _)[_]?;rw[rH,qr,qr]
 by_cases m0:m=2000
 .rw[if_pos m0]at hz P |-;obtain⟨n',c⟩:=P;exact stop _ _ _ c
 .rw[if_neg m0]at hz P |-
  cases q:Pg v f with
  |none=>rw[q]at hz P;obtain⟨n',c⟩:=P;exact stop _ _ _ c
  |some x=>
   rw[q]at hz P
   cases x with
   |bl t=>
    obtain⟨t',e1,e2,e3,e4,e5,c⟩:=P
    cases e1
    cases t
    .refine side false n rfl kn e4 c ?_
     revert hz;dsimp only;cases aE sc n (m+1) ps<;>exact id
    .refine side true y rfl ky e4 c ?_
     revert hz;dsimp only;cases aE sc y (m+1) ps<;>exact id
   |_=>obtain⟨n',c⟩:=P;exact stop _ _ _ c
def yD(k:Nat)(sc:List (PK×PV))(x:Y1)(ns:List Nd)(bb:Y1)(nv:PV)(b T:Y3)(i:Nat)(ts:Y2)(m:Nat)(ps:Ya)(xs:Y2)(U:Y3)(o4 o5:Option PV):GR->Prop
 |.ok vs m' p'=>∃ys V Ue R6,bf aaZ (bq (F k) (X_ k)) (Uj i ts) [some nv,some (Qa sc),some (.ref b.length),some (.ref (rq b T)),o4,o5] (HQ b m ps T xs U)=.nx [some nv,some (Qa sc),some (.ref b.length),some (.ref (rq b T)),Ue,R6] (HQ b m' p' T (xs++ys) (U++V))/\m'<=2000/\M5 (fun i=>(HQ b m' p' T (xs++ys) (U++V))[i]?) (rq b T+1+U.length) (rq b T+1+U.length+V.length) vs ys
 |.no w _ p'=>∃(n':Int)(T':Y3),bf aaZ (bq (F k) (X_ k)) (Uj i ts) [some nv,some (Qa sc),some (.ref b.length),some (.ref (rq b T)),o4,o5] (HQ b m ps T xs U)=.exc (xf w) (HP b n' p' T')
theorem nW(k:Nat){nn:Nat}{sc:List (PK×PV)}(hs:∀x∈sc,VV nn x.2)(hl:sc.length<=1000)(x a:Y1)(f:Ya)(ns:List Nd)(bb:Y1)(b T:Y3):∀(ts:Y2),(∀t∈ts,t.pure=true/\gI (k+3) (aK sc (.inr x) t) ns)->∀(i m:Nat)(ps:Ya)(xs:Y2)(U:Y3)(o4 o5:Option PV),m<=2000->(bN (fun t m ps=>aE (aK sc (.inr x) t) ns m ps) bb i ts m ps).ps.length<=16000000->xs.length+ts.length<=1000000->
  yD (k+3) sc x ns bb (nd (.loop x a f ns bb)) b T i ts m ps xs U o4 o5 (bN (fun t m ps=>aE (aK sc (.inr x) t) ns m ps) bb i ts m ps)
 |[],_,i,m,ps,xs,U,o4,o5,hm,_,_=>by rw[bN];exact⟨[],[],o4,o5,by rw[adU,adU];rfl,hm,by rw[M5];exact⟨rfl,by simp⟩⟩
 |t::r,ok,i,m,ps,xs,U,o4,o5,hm,hz,hx=>by
  obtain⟨pt,kt⟩:=ok t (by simp);have ix:=fun h=>ms h x a f ns bb;have ds:∀h,aj h (Qa sc)=Qa sc:=fun _=>rfl;have il:∀h,aX (F (k+3) .J1) [.str x,.tup [t],Qa sc] h=.ok (Qa (aK sc (.inr x) t)) h:=fun h=>aL h (by simp only[aq,PV.pure,pt,aeS,aek];show(PV.tup [.dct (Qx sc),.non]).pure=true;rw[PV.pure,aq,dZ hs];rfl) (wF (k+2) hs x t pt hl);have tp:(PV.tup [t]).pure=true:=by simp[PV.pure,aq,pt]
  rw[bN]at hz |-;rw[adu]at hx;show yD _ _ _ _ _ _ _ _ _ _ _ _ _ _ _ _ _
  by_cases m0:m=2000
  .rw[if_pos m0];have c:X_ (k+3) .j8 [.ref b.length,.int i,.str bb] (HQ b m ps T xs U)=.exc (xf gu) (HP b ((m:Int)+1) ps (T++.lst xs::U)):=vX b _ m ps k i bb ⋯;refine⟨(m:Int)+1,T++.lst xs::U,?_⟩;rw[Uj,gg];simp[EV,bq,bc,(ix _).2.2.2.2,kJ,nh,c]
  .rw[if_neg m0]at hz |-
   have pl:ps.length<=15999999\/i=0/\ps.length<=16000000:=by
    obtain⟨t1,et⟩:=dG (aK sc (.inr x) t) ns (m+1) (if i=0 then ps else ps++ [bb])
    have h1:(if i=0 then ps else ps++ [bb]).length<=16000000:=by
     cases e1:aE (aK sc (.inr x) t) ns (m+1) (if i=0 then ps else ps++ [bb])with
     |no w m1 p1=>rw[e1]at hz et;have et:p1=_++t1:=et;have hz:p1.length<=16000000:=hz;rw[et,adt]at hz;lia
     |ok vs m1 p1=>
      rw[e1]at hz et;have et:p1=_++t1:=et;obtain⟨t2,Yc⟩:=jC (fun v m ps=>dG (aK sc (.inr x) v) ns m ps) bb r (i+1) m1 p1;dsimp only at hz;have TX:(bN (fun t m ps=>aE (aK sc (.inr x) t) ns m ps) bb (i+1) r m1 p1).ps.length<=16000000:=by revert hz;cases bN (fun t m ps=>aE (aK sc (.inr x) t) ns m ps) bb (i+1) r m1 p1<;>exact id
      rw[Yc,adt,et,adt]at TX
      lia
    split at h1
    .exact .inr ⟨‹_›,h1⟩
    .rw[adt,adH]at h1;exact .inl ⋯
   have c:X_ (k+3) .j8 [.ref b.length,.int i,.str bb] (HQ b m ps T xs U)=.ok .non (HQ b ((m+1:Nat):Int) (if i=0 then ps else ps++ [bb]) T xs U):=by have:=zg b (T++.lst xs::U) m ps (k+1) i bb ⋯ ⋯;simpa[HQ]using this
   have K:=kt b (m+1) (if i=0 then ps else ps++ [bb]) (T++.lst xs::U) ⋯;generalize hP:(if i=0 then ps else ps++ [bb])=p0 at*
   cases e1:aE (aK sc (.inr x) t) ns (m+1) p0 with
   |no w m1 p1=>rw[e1]at hz K;obtain⟨n',T',q⟩:=K hz;have q:X_ (k+3) .u9 [.tup (b_ ns),Qa (aK sc (.inr x) t),.ref b.length] (HQ b ((m+1:Nat):Int) p0 T xs U)=.exc (xf w) (HP b n' p1 T'):=q;refine⟨n',T',?_⟩;rw[Uj,gg];simp[EV,bq,bc,(ix _).2.1,(ix _).2.2.2.1,(ix _).2.2.2.2,kJ,nh,nG,qT,c,il,ds,ak _ pt,ak _ tp,q];rfl
   |ok vs m1 p1=>
    rw[e1]at hz K;dsimp only at hz |-;have TX:(bN (fun t m ps=>aE (aK sc (.inr x) t) ns m ps) bb (i+1) r m1 p1).ps.length<=16000000:=by revert hz;cases bN (fun t m ps=>aE (aK sc (.inr x) t) ns m ps) bb (i+1) r m1 p1<;>exact id
    obtain⟨t2,Yc⟩:=jC (fun v m ps=>dG (aK sc (.inr x) v) ns m ps) bb r (i+1) m1 p1;have Vr:p1.length<=16000000:=by rw[Yc,adt]at TX;lia
    obtain⟨ys,V,q,Vd,D⟩:=K Vr;rw[rH,rd]at q;rw[rd]at D;have q:X_ (k+3) .u9 [.tup (b_ ns),Qa (aK sc (.inr x) t),.ref b.length] (HQ b ((m+1:Nat):Int) p0 T xs U)=.ok (.ref (rq b T+1+U.length)) (HQ b m1 p1 T xs (U++.lst ys::V)):=q;have ap:=ES b T (U++.lst ys::V) m1 p1 xs (v:=.ref (rq b T+1+U.length)) ⋯
    have D1:M5 (fun i=>(HQ b m1 p1 T (xs++ [.ref (rq b T+1+U.length)]) (U++.lst ys::V))[i]?) (rq b T+1+U.length) (rq b T+1+(U++.lst ys::V).length) [.lst vs] [.ref (rq b T+1+U.length)]:=by
     rw[M5];refine⟨_,[],rq b T+1+(U++.lst ys::V).length,rfl,?_,by rw[M5];exact⟨rfl,adA _⟩⟩;rw[Dp];refine⟨_,ys,rfl,adA _,by simp,?_,?_⟩
     .show(HQ b m1 p1 T _ _)[rq b T+1+U.length]? =_;rw[qr];simp
     .rw[show rq b T+1+(U++.lst ys::V).length=rq b T+1+U.length+1+V.length by simp;lia];refine D.on fun j h1 h2=>?_;obtain⟨z,rfl⟩:∃z,j=rq b T+1+z:=⟨j - (rq b T+1),by lia⟩
      show(HQ b m1 p1 T _ _)[_]? =(HQ b m1 p1 _ _ _)[_]?;rw[rH,qr,qr]
    have R:=nW k hs hl x a f ns bb b T r (fun z hz=>ok z (by simp[hz])) (i+1) m1 p1 (xs++ [.ref (rq b T+1+U.length)]) (U++.lst ys::V) (some (.int i)) (some t) Vd TX (by rw[adt,adH];lia)
    cases e2:bN (fun t m ps=>aE (aK sc (.inr x) t) ns m ps) bb (i+1) r m1 p1 with
    |no w m2 p2=>rw[e2]at R;obtain⟨n',T',e'⟩:=R;refine⟨n',T',?_⟩;rw[Uj,gg];simp[EV,bq,bc,(ix _).2.1,(ix _).2.2.2.1,(ix _).2.2.2.2,kJ,nh,nG,qT,c,il,ds,ak _ pt,ak _ tp,q,ap];exact e'
    |ok ws m2 p2=>
     rw[e2]at R;obtain⟨zs,W,Ue,R6,e',Wb,D2⟩:=R;refine⟨[.ref (rq b T+1+U.length)]++zs,.lst ys::V++W,Ue,R6,?_,Wb,?_⟩
     .rw[Uj,gg];simp[EV,bq,bc,(ix _).2.1,(ix _).2.2.2.1,(ix _).2.2.2.2,kJ,nh,nG,qT,c,il,ds,ak _ pt,ak _ tp,q,ap];rw[adN,adN]at e';exact e'
     .rw[<- adN,<- adN];rw[show rq b T+1+U.length+(.lst ys::V++W).length=rq b T+1+(U++.lst ys::V).length+W.length by simp;lia];refine M5.app (xs:=[.lst vs]) (mid:=rq b T+1+(U++.lst ys::V).length) ?_ D2;exact D1.on fun i h1 h2=>BF b T (U++.lst ys::V) W _ _ _ _ _ _ i ⋯ h2
theorem VV.mono:∀{n m:Nat}{v:PV},VV n v->n<=m->VV m v
 |_,m,_,.str n l h hc,_=>.str m l h hc
 |_,m,_,.int n i,_=>.int m i
 |_,m,_,.bl n b,_=>.bl m b
 |_,m,_,.lst n xs h l,le=>by
  obtain⟨m',rfl⟩:∃m',m=m'+1:=⟨m - 1,by lia⟩
  exact .lst m' xs (fun x hx=>(h x hx).mono ⋯) l
 |_,m,_,.dct n l h nd ln kr,le=>by
  obtain⟨m',rfl⟩:∃m',m=m'+1:=⟨m - 1,by lia⟩
  exact .dct m' l (fun x hx=>(h x hx).mono ⋯) nd ln kr
def zn(k:Nat){sc:List (PK×PV)}(hs:∀x∈sc,VV nn x.2)(SN:sc.length<=1000)(x a:Y1)(f:Ya)(ns:List Nd)(bb:Y1)(e:bj sc (.inr a)=some v)(hf:f.length<=900)(kt:∀t,VV nn t->gI (k+6) (aK sc (.inr x) t) ns):ki (k+7) sc (.loop x a f ns bb):=by
 intro b m ps T xs U nv o5 hm hz hx;have hv:VV nn v:=hs _ (dU e);have st:∀h,aX (F (k+6) .J0) [q_ a f,Qa sc] h=.ok (.tup (v::f.map PV.str)) h:=fun h=>aL h (by simp only[aq,dX,aeS,aek];show(PV.tup [.dct (Qx sc),.non]).pure=true;rw[PV.pure,aq,dZ hs];rfl) (pH (k+5) hs a f e hf);have P:=zC k b (T++.lst xs::U++ [.lst []]) hm ps hv f;have ix:=fun h=>ms h x a f ns bb;have ds:∀h,aj h (Qa sc)=Qa sc:=fun _=>rfl;have dp:∀h,aj h (q_ a f)=q_ a f:=fun _=>rfl;have tg:=Tn;rw[goN]at hz |-;unfold eS at hz |-;rw[e]at hz |-;simp only[aeG]at hz |-;have ru:∀h,X_ (k+7) .w6 [nd (.loop x a f ns bb),Qa sc,.ref b.length] h=bo (cO (F (k+6)) (X_ (k+6))) 3 6 [nd (.loop x a f ns bb),Qa sc,.ref b.length] h:=fun _=>rfl;have hq:HQ b m ps T xs U++ [PO.lst []]=HQ b m ps (T++.lst xs::U) [] []:=by unfold HQ HP;simp
 have hn:(HQ b m ps T xs U).length=rq b (T++.lst xs::U):=wH ..;have hPQ:HP b m ps (T++.lst xs::U++ [.lst []])=HQ b m ps (T++.lst xs::U) [] []:=rfl
 have stop:∀(z:Y1)(n':Int)(p1:Ya),X_ (k+6) .j5 [.ref b.length,.tup (v::f.map PV.str)] (HP b m ps (T++.lst xs::U++ [.lst []]))=.exc (xf z) (HP b n' p1 (T++.lst xs::U++ [.lst []]))->∃(n':Int)(T':Y3),aS (F (k+7)) (X_ (k+7)) [nv,some (Qa sc),some (.ref b.length),some (.ref (rq b T)),some (nd (.loop x a f ns bb)),o5] (HQ b m ps T xs U)=.exc (xf z) (HP b n' p1 T'):=fun z n' p1 c=>by
  rw[hPQ]at c
  have q:X_ (k+7) .w6 [nd (.loop x a f ns bb),Qa sc,.ref b.length] (HQ b m ps T xs U)=.exc (xf z) (HP b n' p1 (T++.lst xs::U++ [.lst []])):=by rw[ru];simp[EV,bo,cO,hq,hn,bc,(ix _).2.2.1,kJ,nh,st,ds,dp,c];rfl
  refine⟨n',T++.lst xs::U++ [.lst []],?_⟩;simp[EV,aS,bc,(ix _).1,(tg _).2.2.2.1,(tg _).2.2.2.2.1,(tg _).2.2.2.2.2.1,kJ,nG,qT,ds,q];rfl
 by_cases m0:m=2000
 .rw[if_pos m0]at hz P |-;obtain⟨n',c⟩:=P;exact stop _ _ _ c
 .rw[if_neg m0]at hz P |-
  cases q:Pg v f with
  |none=>rw[q]at hz P;obtain⟨n',c⟩:=P;exact stop _ _ _ c
  |some y=>
   rw[q]at hz P;obtain⟨_,_,hy⟩:=fV f hv q
   cases y with
   |lst ts=>
    obtain⟨t',e1,e2,e3,e4,e5,c⟩:=P
    cases e1
    rw[hPQ]at c;have c:X_ (k+6) .j5 [.ref b.length,.tup (v::f.map PV.str)] (HQ b m ps (T++.lst xs::U) [] [])=.ok (.lst ts) (HQ b ((m+1:Nat):Int) ps (T++.lst xs::U) [] []):=c
    have XJ:ts.length<=1000/\∀t∈ts,VV nn t:=by
     cases hy with
     |lst n xs h l=>exact⟨l,fun t ht=>(h t ht).mono ⋯⟩
    dsimp only at hz |-;have TX:(bN (fun t m ps=>aE (aK sc (.inr x) t) ns m ps) bb 0 ts (m+1) ps).ps.length<=16000000:=by revert hz;cases bN (fun t m ps=>aE (aK sc (.inr x) t) ns m ps) bb 0 ts (m+1) ps<;>exact id
    have R:=nW (k+3) hs SN x a f ns bb b (T++.lst xs::U) ts (fun t ht=>⟨(XJ.2 t ht).pure,kt t (XJ.2 t ht)⟩) 0 (m+1) ps [] [] none none ⋯ TX (by simp;lia);have pt:∀h,aj h (.lst ts)=.lst ts:=fun _=>rfl
    cases e1:bN (fun t m ps=>aE (aK sc (.inr x) t) ns m ps) bb 0 ts (m+1) ps with
    |no w m1 p1=>
     rw[e1]at R;obtain⟨n',T',r⟩:=R
     have q:X_ (k+7) .w6 [nd (.loop x a f ns bb),Qa sc,.ref b.length] (HQ b m ps T xs U)=.exc (xf w) (HP b n' p1 T'):=by rw[ru];simp[EV,bo,cO,hq,hn,bc,(ix _).2.2.1,kJ,nh,st,ds,dp,c,Cd,r]
     refine⟨n',T',?_⟩;simp[EV,aS,bc,(ix _).1,(tg _).2.2.2.1,(tg _).2.2.2.2.1,(tg _).2.2.2.2.2.1,kJ,nG,qT,ds,q];rfl
    |ok vs m1 p1=>
     rw[e1]at R;obtain⟨ys,V,Ue,R6,r,QH,D⟩:=R;simp only[ad1]at r D;have d:aj (HQ b m1 p1 (T++.lst xs::U) ys V) (.ref (rq b (T++.lst xs::U)))=.ref (rq b (T++.lst xs::U)):=nG b _ V m1 p1 ys
     have q:X_ (k+7) .w6 [nd (.loop x a f ns bb),Qa sc,.ref b.length] (HQ b m ps T xs U)=.ok (.ref (rq b (T++.lst xs::U))) (HQ b m1 p1 (T++.lst xs::U) ys V):=by rw[ru];simp[EV,bo,cO,hq,hn,bc,(ix _).2.2.1,kJ,nh,st,ds,dp,c,Cd,r,d]
     rw[rH,rd]at q;rw[rd]at D;have ap:=ES b T (U++.lst ys::V) m1 p1 xs (v:=.ref (rq b T+1+U.length)) ⋯;refine⟨[.ref (rq b T+1+U.length)],.lst ys::V,o5,?_,QH,by simp,?_⟩
     .simp[EV,aS,bc,(ix _).1,(tg _).2.2.2.1,(tg _).2.2.2.2.1,(tg _).2.2.2.2.2.1,kJ,nG,qT,ds,q,ap]
     .rw[M5];refine⟨_,[],rq b T+1+U.length+(PO.lst ys::V).length,rfl,?_,by rw[M5];exact⟨rfl,adA _⟩⟩;rw[Dp];refine⟨_,ys,rfl,adA _,by simp,?_,?_⟩
      .show(HQ b m1 p1 T _ _)[rq b T+1+U.length]? =_;rw[qr];simp
      .rw[adu,show rq b T+1+U.length+(V.length+1)=rq b T+1+U.length+1+V.length by lia];simp only[adQ,Nat.add_zero]at D;refine D.on fun j h1 h2=>?_;obtain⟨z,rfl⟩:∃z,j=rq b T+1+z:=⟨j - (rq b T+1),by lia⟩
       show(HQ b m1 p1 T _ _)[_]? =(HQ b m1 p1 _ _ _)[_]?;rw[rH,qr,qr]
   |_=>obtain⟨n',c⟩:=P;exact stop _ _ _ c
def cG{sc:List (PK×PV)}{k k':PK}(h:k'=k\/(bj sc k').isSome):(bj (aK sc k v) k').isSome:=by
 rw[tW]
 split
 .rfl
 .rename_i n;exact h.resolve_left n
mutual
theorem DU:∀(n:Nd){B:Ya}{nn:Nat}{sc:List (PK×PV)}(K:Nat),Sd B n->(∀x∈sc,VV nn x.2)->sc.length+dN n<=900->(∀a∈B,(bj sc (.inr a)).isSome)->2 * dN n+8<=K->ki K sc n
 |.text s,B,nn,sc,K,w,hs,hl,hb,hK=>by
  obtain⟨k,rfl⟩:∃k,K=k+1:=⟨K - 1,by lia⟩
  exact zm k sc s
 |.place a f w,B,nn,sc,K,wl,hs,hl,hb,hK=>by
  obtain⟨k,rfl⟩:∃k,K=k+6:=⟨K - 6,by lia⟩
  rw[Sd]at wl;obtain⟨v,e⟩:=ad4.mp (hb a wl.1);exact wt k hs a f w e wl.2.1 wl.2.2
 |.loop x a f ns b,B,nn,sc,K,wl,hs,hl,hb,hK=>by
  rw[Sd]at wl;rw[dN]at hl hK;obtain⟨k,rfl⟩:∃k,K=k+7:=⟨K - 7,by lia⟩
  obtain⟨v,e⟩:=ad4.mp (hb a wl.1);refine zn k hs ⋯ x a f ns b e wl.2.1 fun t ht=>?_
  have h2:∀z∈aK sc (.inr x) t,VV nn z.2:=fun z hz=>by
   rcases mh hz with q|q
   .exact hs z q
   .rw[q];exact ht
  refine u9 (k+5) _ (dZ h2) ns (jJ ns (B:=x::B) (k+5) wl.2.2.2 h2 ?_ (fun y hy=>?_) ⋯) ⋯
  .have:=ij sc (.inr x) t;lia
  .refine cG ?_;rcases adD.mp hy with q|q
   .exact .inl (by rw[q])
   .exact .inr (hb y q)
 |.choice a f y n,B,nn,sc,K,wl,hs,hl,hb,hK=>by
  rw[Sd]at wl;rw[dN]at hl hK;obtain⟨k,rfl⟩:∃k,K=k+6:=⟨K - 6,by lia⟩
  obtain⟨v,e⟩:=ad4.mp (hb a wl.1);have m1:=ael (J7 y) (J7 n);have m2:=aef (J7 y) (J7 n);exact uH k hs a f y n e wl.2.1 (u9 (k+5) _ (dZ hs) y (jJ y (k+5) wl.2.2.2.2.1 hs ⋯ hb ⋯) ⋯) (u9 (k+5) _ (dZ hs) n (jJ n (k+5) wl.2.2.2.2.2 hs ⋯ hb ⋯) ⋯)
theorem jJ:∀(l:List Nd){B:Ya}{nn:Nat}{sc:List (PK×PV)}(K:Nat),Td B l->(∀x∈sc,VV nn x.2)->sc.length+J7 l<=900->(∀a∈B,(bj sc (.inr a)).isSome)->2 * J7 l+8<=K->∀n∈l,ki K sc n
 |[],_,_,_,_,_,_,_,_,_,n,h=>by cases h
 |x::r,B,nn,sc,K,wl,hs,hl,hb,hK,n,h=>by
  rw[Td]at wl;rw[J7]at hl hK;have m1:=ael (dN x) (J7 r);have m2:=aef (dN x) (J7 r);rcases adD.mp h with q|q
  .rw[q];exact DU x K wl.1 hs ⋯ hb ⋯
  .exact jJ r K wl.2 hs ⋯ hb ⋯ n q
end
def tz(l:List Nd){sc:List (PK×PV)}(K:Nat)(wl:Td B l)(hs:∀x∈sc,VV nn x.2)(hl:sc.length+J7 l<=900)(hb:∀a∈B,(bj sc (.inr a)).isSome)(hK:2 * J7 l+9<=K)(ll:l.length<=1000000):gI K sc l:=by
 obtain⟨k,rfl⟩:∃k,K=k+1:=⟨K - 1,by lia⟩
 exact u9 k sc (dZ hs) l (jJ l k wl hs hl hb ⋯) ll
section
variable{acc:Y2}
def oB(e:h[i]? =some (.lst acc)):aj h (.ref i)=.ref i:=by show(match h[i]? with|some (.s8 q)=>q|_=>PV.ref i)=_;rw[e]
def uP(e:h[i]? =some (.lst acc)):bY h (.ref i)=true:=by unfold bY;simp[Tt,S9,e]
def vC(e:h[i]? =some (.lst acc))(x:PV)(hl:acc.length<16000000):aV (.ref i) [x] h=.ok .non (h.set i (.lst (acc++ [x]))):=by
 have e2:jv h (.ref i)=some (i,acc):=by unfold jv;simp only[e]
 unfold aV;rw[e2];dsimp only;rw[if_pos (Nat.lt_trans hl ⋯)]
def IF(e:h[i]? =some (.lst acc))(ys:Y2)(hl:acc.length+ys.length<=16000000):aG (.ref i) (.lst ys) h=.ok (.lst (acc++ys)) h:=by show zj (.ref i) (.lst ys) h=_;unfold zj;simp only[S9,e];rw[if_pos (adR hl ⋯)]
end
def fd(d:Nat)(p:PV):Prop:=(toD p).canLay0=true/\(toD p).depth<=d/\p.pure=true
def fds(d:Nat)(l:Y2):Prop:=PyData.canLayAll0 (iI l)=true/\PyData.depthAll (iI l)<=d/\aq l=true
def ir(d:Nat):fds d []:=⟨by simp[iI,PyData.canLayAll0],by simp[iI,PyData.depthAll],by simp[aq]⟩
def bM{d:Nat}{l:Y2}(h:fd d p)(t:fds d l):fds d (p::l):=by
 refine⟨?_,?_,?_⟩
 .simp only[iI,PyData.canLayAll0,h.1,t.1,ah0]
 .simp only[iI,PyData.depthAll];exact ahZ.mpr ⟨h.2.1,t.2.1⟩
 .simp only[aq,h.2.2,t.2.2,ah0]
def jQ{d:Nat}{l:Y2}(h:fds d l):fd (d+1) (.tup l):=by
 refine⟨?_,?_,?_⟩
 .simp only[toD,PyData.canLay0,h.1]
 .simp only[toD,PyData.depth];have:=h.2.1;lia
 .simpa[PV.pure]using h.2.2
def ji{d e:Nat}(h:fd d p)(le:d<=e):fd e p:=⟨h.1,adR h.2.1 le,h.2.2⟩
def EH{l:Y2}(hl:fds 59 l)(h:Y3):z_ (.lst l) (.lst []) h=.ok (.bl l.isEmpty) h:=by
 have ok:R5 h (.lst l)=true:=by
  unfold R5 QV;have:=hl.2.1;simp only[toD,PyData.canLay0,PyData.depth,hl.1,aeS,decide_eq_true_eq]
  lia
 unfold z_;rw[if_pos ⟨ok,rfl⟩]
 cases l<;>rfl
def hM{d:Nat}{l:Y1}(h:sg l=true):fd d (.str l):=⟨by simp only[toD,PyData.canLay0];simp[PyData.strOk,S];exact fun c hc=>Jd h c hc,by simp[toD,PyData.depth],by simp[PV.pure]⟩
theorem vg{d:Nat}:∀{l:Ya},Y7 l=true->fds d (l.map PV.str)
 |[],_=>ir d
 |a::r,h=>by rw[Y7,ae2,adI]at h;exact bM (hM h.1) (vg h.2)
theorem wR{α:Type}{tt:Tx}{te:Ex}{cp:Ev}{h:Y3}(f:α->PV)(T:α->Bool)(g:α->PV):∀l:List α,(∀x∈l,tt (some (f x)::cp) h=.ok (T x) h)->(∀x∈l,te (some (f x)::cp) h=.ok (g x) h)->cg tt te cp (l.map f) h=.ok ((l.filter T).map g) h
 |[],_,_=>rfl
 |x::r,h1,h2=>by
  have ih:=wR f T g r (fun z hz=>h1 z (adG _ hz)) fun z hz=>h2 z (adG _ hz);rw[adE,cg,h1 x adO];simp only[Res.M_]
  cases e:T x with
  |true=>rw[if_pos rfl,h2 x adO,List.filter_cons_of_pos e];simp only[Res.M_,ih,adE]
  |false=>rw[if_neg ⋯,ih,List.filter_cons_of_neg (by rw[e];decide)]
def qa{te:Ex}{cp:Ev}(f g:α->PV)(l:List α)(h2:∀x∈l,te (some (f x)::cp) h=.ok (g x) h):cg bK te cp (l.map f) h=.ok (l.map g) h:=by rw[wR f (fun _=>true) g l (fun _ _=>rfl) h2,ag5.mpr fun _ _=>rfl]
theorem qH{w:Nat}(hw:w<5)(hv:Dv v){B:Bool}{s:Y1}(h1:F 3 (lM w) [.ins w [],v]=.ok (.bl B))(h2:B=true->F 2 (CP w) [.ins w [],v]=.ok (.str s)):Ry w v=if B=true then some s else none:=by
 cases e:Ry w v with
 |none=>
  obtain⟨t,f⟩:=vo hw hv e;have:=f.1 0;rw[h1]at this
  cases B with
  |true=>cases this
  |false=>rfl
 |some t=>
  have f:=hU e;have:=f.1 0;rw[h1]at this
  cases B with
  |false=>cases this
  |true=>
   have q:=(f.2 rfl).1 0;rw[h2 rfl]at q
   cases q
   rfl
noncomputable def gC:Option Y1->PV
 |some s=>.str s
 |none=>.non
def Lh(c:Nat):bE.contains c=cu.contains c:=by
 have a:∀c∈bE,c∈cu:=by decide+kernel
 have b:∀c∈cu,c∈bE:=by decide+kernel
 rw[afQ,afx,afx];exact⟨a c,b c⟩
def JM(k:Nat)(l:Y1)(hl:l.length<=400)(hc:∀c∈l,c∈br):F (k+1) .H9 [.str wW,.str l]=.ok (gC (Ry 0 (.str l))):=by
 have lt:∀c∈l,c<1114112:=fun c h=>kQ c (hc c h);have dv:Dv (.str l):=.str l ⋯ lt;have all:l.all br.contains=true:=adX.mpr fun c h=>by simpa using hc c h
 have tx:∀h,aX (F 2 .J9) [.str l,.int 40] h=.ok (.bl (decide ((l.length:Int)<=40))) h:=fun h=>aL h rfl (by have:=nz 0 l 40 ⋯;rw[all,aek]at this;exact this);have e3:∀h,Rc (.str l) (.str []) h=.ok (.bl (!decide (l= []))) h:=fun h=>sP _ _ _ lt (by simp);have e4:∀h,aX (F 2 .K9) [.str l,.str cu] h=.ok (.bl (l.all cu.contains)) h:=fun h=>aL h rfl (Ho 1 l cu)
 have h1:F 3 .G6 [.ins 0 [],.str l]=.ok (.bl (decide ((l.length:Int)<=40)&&(!decide (l= [])&&l.all cu.contains))):=by
  show ar (bO (F 2)) 2 2 [.ins 0 [],.str l]=_
  cases q:decide ((l.length:Int)<=40)<;>cases q2:decide (l= [])<;>simp[EV,ar,bO,tx,e3,e4,q,q2,aT]
 have h2:F 2 .p8 [.ins 0 [],.str l]=.ok (.str l):=by show ar (dH (F 1)) 2 2 [.ins 0 [],.str l]=_;simp[EV,ar,dH,aT]
 rw[qH (w:=0) ⋯ dv h1 fun _=>h2];have q1:=Qj (a:=wW) (b:=[110,117,109,98,101,114]) false;have q2:=Qj (a:=wW) (b:=[119,111,114,100]) true;have zl:l.length<=16777216:=by lia
 have g4:decide ((l.length:Int)>400)=false:=decide_eq_false ⋯
 have cm:∀h,cg (jB (F k)) (nZ (F k)) [some (.str bE)] (l.map fun c=>PV.str [c]) h=.ok ((l.filter fun c=>!bE.contains c).map fun c=>PV.str [c]) h:=fun h=>wR _ (fun c=>!bE.contains c) _ l (fun c _=>by simp[EV,jB,iQ]) fun c _=>rfl
 have fl:(l.filter fun c=>!bE.contains c).isEmpty=l.all cu.contains:=by rw[afQ,afC,List.filter_eq_nil_iff,adX];simp only[Lh];exact⟨fun h c hc=>by simpa using h c hc,fun h c hc=>by simpa using h c hc⟩
 have fe:∀h,z_ (.lst ((l.filter fun c=>!bE.contains c).map fun c=>PV.str [c])) (.lst []) h=.ok (.bl (l.all cu.contains)) h:=fun h=>by
  have:=EH (l:=(l.filter fun c=>!bE.contains c).map fun c=>PV.str [c]) (by
   have:=vg (d:=59) (l:=(l.filter fun c=>!bE.contains c).map fun c=> [c]) (by unfold Y7;rw[agz];exact adX.mpr fun c hc=>by show sg [c]=true;unfold sg;simpa using lt c (agD.mp hc).1)
   simpa[aen,ahz]using this) h
  rw[this,List.isEmpty_map,fl]
 have ne:decide (1<=(l.length:Int))=!decide (l= []):=by cases l<;>simp;lia
 have lm:(l.map fun c=>PV.str [c]).length<16777216:=by rw[adJ];lia
 have cp:cU [2] [some (PV.str wW),some (PV.str l),some (PV.str bE),none,none,none,none,none]=[some (.str bE)]:=rfl;show ar (bh (F k)) 2 8 [.str wW,.str l]=_
 cases c1:decide (l= [])<;>cases c2:decide ((l.length:Int)<=40)<;>cases c3:l.all cu.contains<;>rw[c1]at ne<;>rw[c3]at fe<;>
  simp[EV,ar,bh,q1,q2,zl,g4,cm,lm,cp,fe,aT,c2,ne,gC]<;>rfl
theorem Hq(k:Nat)(i:Int):F (k+1) .H9 [.str wN,.int i]=.ok (gC (Ry 1 (.int i))):=by
 have h1:F 3 .u6 [.ins 1 [],.int i]=.ok (.bl (decide ((if i<0 then -i else i)<1000000000000000000000000000000))):=by show ar (aQ (F 2)) 2 2 [.ins 1 [],.int i]=_;have e:=qZ 1 i;simp[EV,ar,aQ,cJ,e,aT]
 have sm:(if i<0 then -i else i)<1000000000000000000000000000000->i.natAbs.log2<1920:=fun e=>ny (by split at e<;>lia) (by split at e<;>lia)
 rw[qH (w:=1) (s:=pG i) ⋯ (.int i) h1 fun b=>by have lg:=sm (of_decide_eq_true b);show ar (cX (F 1)) 2 2 [.ins 1 [],.int i]=_;simp[EV,ar,cX,lg,aT]]
 have q1:=Qj (a:=wN) (b:=[110,117,109,98,101,114]) true;have p1:decide (Int.natAbs 10<18446744073709551616)=true:=rfl;show ar (bh (F k)) 2 8 [.str wN,.int i]=_
 cases q:decide ((if i<0 then -i else i)<1000000000000000000000000000000)with
 |true=>have g:decide ((if i<0 then -i else i)>=1000000000000000000000000000000)=false:=decide_eq_false (by have:=of_decide_eq_true q;lia);have lg:=sm (of_decide_eq_true q);simp[EV,ar,bh,q1,p1,g,lg,aT,gC,Int.reduceToNat]
 |false=>have g:decide ((if i<0 then -i else i)>=1000000000000000000000000000000)=true:=decide_eq_true (by have:=of_decide_eq_false q;lia);simp[EV,ar,bh,q1,p1,g,aT,gC,Int.reduceToNat]
noncomputable def YL:PV:=.dct [(.inr [113,117,111,116,101,100],.str [94,94,34,113,10,110]),(.inr [112,108,97,105,110],.str [126,126,60,108,62,103,38,97,124,98,10,110]),(.inr [108,105,110,101],.str [126,126,10,110])]
theorem wZ(ρ:Ev)(h:Y3):eQ [(cK (.str [113,117,111,116,101,100]),cK (.str [94,94,34,113,10,110])),(cK (.str [112,108,97,105,110]),cK (.str [126,126,60,108,62,103,38,97,124,98,10,110])),(cK (.str [108,105,110,101]),cK (.str [126,126,10,110]))] ρ h=.ok YL h:=rfl
def wY(h:Y3):f9 YL (.str wQ) h=.ok (.str [94,94,34,113,10,110]) h/\f9 YL (.str wP) h=.ok (.str [126,126,60,108,62,103,38,97,124,98,10,110]) h/\f9 YL (.str wL) h=.ok (.str [126,126,10,110]) h:=⟨rfl,rfl,rfl⟩
def Hp(k w:Nat)(hw:2<=w)(h5:w<5)(l:Y1)(hl:l.length<=400)(hc:∀c∈l,c∈br):F (k+1) .H9 [.str (dE w),.str l]=.ok (gC (Ry w (.str l))):=by
 have lt:∀c∈l,c<1114112:=fun c h=>kQ c (hc c h);have dv:Dv (.str l):=.str l ⋯ lt;have all:l.all br.contains=true:=adX.mpr fun c h=>by simpa using hc c h
 have tx:∀h,aX (F 2 .J9) [.str l,.int 400] h=.ok (.bl true) h:=fun h=>aL h rfl (by have:=nz 0 l 400 ⋯;rw[all,aek,decide_eq_true ⋯]at this;exact this);have zl:l.length<=16777216:=by lia
 have lm:l.length<16777216:=by lia
 have g4:decide ((l.length:Int)>400)=false:=decide_eq_false ⋯;rcases(show w=2\/w=3\/w=4 by lia)with rfl|rfl|rfl
 .have ft:F 3 (lM 2) [.ins 2 [],.str l]=.ok (.bl true):=by show ar (bV (F 2)) 2 2 [.ins 2 [],.str l]=_;simp[EV,ar,bV,tx,aT]
  have le:(QE l).length<=800:=adR (mC [94] [94,34,10] [94,113,110] l) (by simp only[adu,adQ];lia);have a1:1+(QE l).length<=16777216:=by lia
  have a2:(QE l).length+1+1<=16777216:=by lia
  rw[qH (s:=34::(QE l++ [34])) ⋯ dv ft fun _=>by have q:=fW 0 l [94] [94,34,10] [94,113,110] ⋯ ⋯ ⋯ ⋯;show ar (cW (F 1)) 2 2 [.ins 2 [],.str l]=_;simp[EV,ar,cW,cJ,q,a1,aT,adu,a2]]
  have q1:=Qj (a:=wQ) (b:=[110,117,109,98,101,114]) false;have q2:=Qj (a:=wQ) (b:=[119,111,114,100]) false;have q3:=Qj (a:=wQ) (b:=[113,117,111,116,101,100]) true;obtain⟨o6,o7,lp⟩:=oS (F k) (some (.str wQ)) (some (.str l)) none none 94 [94,94,34,113,10,110] [94,34,10] [94,113,110] Ma rfl (by intro i hi;have:i<3:=hi;rcases(show i=0\/i=1\/i=2 by lia)with rfl|rfl|rfl<;>rfl) ⋯ ⋯ [] l none none [] (by simp;lia);have a3:1+(mD [94] [94,34,10] [94,113,110] l).length<=16777216:=a1;rw[ad1]at lp;show ar (bh (F k)) 2 8 [.str wQ,.str l]=_;simp[EV,ar,bh,q1,q2,q3,zl,g4,wZ,(wY _).1,lp,aT,gC,a1,a2,a3,adu]
 .have ft:F 3 (lM 3) [.ins 3 [],.str l]=.ok (.bl true):=by show ar (cC (F 2)) 2 2 [.ins 3 [],.str l]=_;simp[EV,ar,cC,tx,aT]
  rw[qH (s:=PEs l) ⋯ dv ft fun _=>by have q:=fW 0 l [126] [126,60,62,38,124,10] [126,108,103,97,98,110] ⋯ ⋯ ⋯ ⋯;show ar (du (F 1)) 2 2 [.ins 3 [],.str l]=_;simp[EV,ar,du,cJ,q,aT]]
  have q1:=Qj (a:=wP) (b:=[110,117,109,98,101,114]) false;have q2:=Qj (a:=wP) (b:=[119,111,114,100]) false;have q3:=Qj (a:=wP) (b:=[113,117,111,116,101,100]) false;obtain⟨o6,o7,lp⟩:=oS (F k) (some (.str wP)) (some (.str l)) none none 126 [126,126,60,108,62,103,38,97,124,98,10,110] [126,60,62,38,124,10] [126,108,103,97,98,110] Mb rfl (by intro i hi;have:i<6:=hi;rcases(show i=0\/i=1\/i=2\/i=3\/i=4\/i=5 by lia)with rfl|rfl|rfl|rfl|rfl|rfl<;>rfl) ⋯ ⋯ [] l none none [] (by simp;lia);rw[ad1]at lp;show ar (bh (F k)) 2 8 [.str wP,.str l]=_;simp[EV,ar,bh,q1,q2,q3,zl,g4,wZ,(wY _).2.1,lp,aT,gC]
 .have ft:F 3 (lM 4) [.ins 4 [],.str l]=.ok (.bl true):=by show ar (cY (F 2)) 2 2 [.ins 4 [],.str l]=_;simp[EV,ar,cY,tx,aT]
  rw[qH (s:=LE l) ⋯ dv ft fun _=>by have q:=fW 0 l [126] [126,10] [126,110] ⋯ ⋯ ⋯ ⋯;show ar (dI (F 1)) 2 2 [.ins 4 [],.str l]=_;simp[EV,ar,dI,cJ,q,aT]]
  have q1:=Qj (a:=wL) (b:=[110,117,109,98,101,114]) false;have q2:=Qj (a:=wL) (b:=[119,111,114,100]) false;have q3:=Qj (a:=wL) (b:=[113,117,111,116,101,100]) false;obtain⟨o6,o7,lp⟩:=oS (F k) (some (.str wL)) (some (.str l)) none none 126 [126,126,10,110] [126,10] [126,110] Mc rfl (by intro i hi;have:i<2:=hi;rcases(show i=0\/i=1 by lia)with rfl|rfl<;>rfl) ⋯ ⋯ [] l none none [] (by simp;lia);rw[ad1]at lp;show ar (bh (F k)) 2 8 [.str wL,.str l]=_;simp[EV,ar,bh,q1,q2,q3,zl,g4,wZ,(wY _).2.2,lp,aT,gC]
def nK{w:Nat}(h:¬ Yn v):Ry w v=none:=by
 unfold Ry
 split
 .rename_i q;exact absurd q.1 h
 .rfl
def H9(k w:Nat)(hw:w<5)(hv:VV n v):F (k+1) .H9 [.str (dE w),v]=.ok (gC (Ry w v)):=by
 have Zj:∀{v:PV},Dv v->w≠1->(∀l,v≠.str l)->Ry w v=none:=fun{v} hv h1 hs=>by
  cases e:Ry w v with
  |none=>rfl
  |some s=>
   have f:=(hU e).1 0;have z:=fun(j:Int) h=>Af hv hs j 0 h;have pv:=hv.pure;exfalso;rcases(show w=0\/w=2\/w=3\/w=4 by lia)with rfl|rfl|rfl|rfl
   .have:F 3 (lM 0) [.ins 0 [],v]=.ok (.bl false):=by show ar (bO (F 2)) 2 2 [.ins 0 [],v]=_;simp[EV,ar,bO,ak _ pv,z,aT]
    rw[f]at this;cases this
   .have:F 3 (lM 2) [.ins 2 [],v]=.ok (.bl false):=by show ar (bV (F 2)) 2 2 [.ins 2 [],v]=_;simp[EV,ar,bV,ak _ pv,z,aT]
    rw[f]at this;cases this
   .have:F 3 (lM 3) [.ins 3 [],v]=.ok (.bl false):=by show ar (cC (F 2)) 2 2 [.ins 3 [],v]=_;simp[EV,ar,cC,ak _ pv,z,aT]
    rw[f]at this;cases this
   .have:F 3 (lM 4) [.ins 4 [],v]=.ok (.bl false):=by show ar (cY (F 2)) 2 2 [.ins 4 [],v]=_;simp[EV,ar,cY,ak _ pv,z,aT]
    rw[f]at this;cases this
 have V3:∀{v:PV},v.pure=true->w≠1->(∀h,aw [v,.ty "str"] h=.ok (.bl false) h)->F (k+1) .H9 [.str (dE w),v]=.ok .non:=fun{v} pv h1 hs=>by
  have q1:∀h,z_ (.str (dE w)) (.str [110,117,109,98,101,114]) h=.ok (.bl false) h:=by rcases(show w=0\/w=2\/w=3\/w=4 by lia)with rfl|rfl|rfl|rfl<;>exact Qj false
  show ar (bh (F k)) 2 8 [.str (dE w),v]=_;simp[EV,ar,bh,q1,ak _ pv,hs,aT]
 by_cases h1:w=1
 .subst h1;have q1:=Qj (a:=wN) (b:=[110,117,109,98,101,114]) true
  cases hv with
  |int n i=>exact Hq k i
  |str n l h hc=>
   have:Ry 1 (.str l)=none:=by
    cases e:Ry 1 (.str l)with
    |none=>rfl
    |some s=>
     have f:=(hU e).1 0
     have:F 3 (lM 1) [.ins 1 [],.str l]=.ok (.bl false):=by show ar (aQ (F 2)) 2 2 [.ins 1 [],.str l]=_;simp[EV,ar,aQ,aT]
     rw[f]at this;cases this
   rw[this];show ar (bh (F k)) 2 8 [.str wN,.str l]=_;simp[EV,ar,bh,q1,aT,gC]
  |bl n b=>rw[nK (by rintro(⟨l,e⟩|⟨i,e⟩)<;>cases e)];show ar (bh (F k)) 2 8 [.str wN,.bl b]=_;simp[EV,ar,bh,q1,aT,gC]
  |lst n xs h l=>rw[nK (by rintro(⟨l,e⟩|⟨i,e⟩)<;>cases e)];show ar (bh (F k)) 2 8 [.str wN,.lst xs]=_;simp[EV,ar,bh,q1,aT,gC]
  |dct n d h nd ln kr=>rw[nK (by rintro(⟨l,e⟩|⟨i,e⟩)<;>cases e)];show ar (bh (F k)) 2 8 [.str wN,.dct d]=_;simp[EV,ar,bh,q1,aT,gC]
 .have pv:=hv.pure
  cases hv with
  |str n l h hc=>
   rcases(show w=0\/2<=w by lia)with rfl|h2
   .exact JM k l h hc
   .exact Hp k w h2 hw l h hc
  |int n i=>rw[Zj (.int i) h1 (fun l e=>by cases e)];exact V3 rfl h1 fun _=>rfl
  |bl n b=>rw[nK (by rintro(⟨l,e⟩|⟨i,e⟩)<;>cases e)];exact V3 rfl h1 fun _=>rfl
  |lst n xs h l=>rw[nK (by rintro(⟨l,e⟩|⟨i,e⟩)<;>cases e)];exact V3 pv h1 fun _=>rfl
  |dct n d h nd ln kr=>rw[nK (by rintro(⟨l,e⟩|⟨i,e⟩)<;>cases e)];exact V3 pv h1 fun _=>rfl
abbrev VJ:Y1:=[116,101,120,116]
abbrev V4:Y1:=[109,97,110,121]
abbrev Wy:Y1:=[119,111,114,100]
noncomputable def J6(m:Nat)(t:Y1)(w:PV):PO:=.dct [(.inr VJ,.str t),(.inr V4,.int m),(.inr Wy,w)]
section
variable(m m':Nat)(t t':Y1)(w w':PV)(ρ:Ev)(r:Y3)
theorem yR:f9 (.ref 0) (.str V4) (J6 m t w::r)=.ok (.int m) (J6 m t w::r):=rfl
theorem Me:f9 (.ref 0) (.str VJ) (J6 m t w::r)=.ok (.str t) (J6 m t w::r):=rfl
theorem Md(hw:w.pure=true):f9 (.ref 0) (.str Wy) (J6 m t w::r)=.ok w (J6 m t w::r):=by show Res.ok (aj _ w) _=_;rw[ak _ hw]
theorem Jq:eO (.int (m':Nat)) (.ref 0) (.str V4) ρ (J6 m t w::r)=.nx ρ (J6 m' t w::r):=rfl
theorem Jp:eO (.str t') (.ref 0) (.str VJ) ρ (J6 m t w::r)=.nx ρ (J6 m t' w::r):=rfl
theorem sD:aj (J6 m t w::r) (.ref 0)=.ref 0:=rfl
theorem yQ(hw:w.pure=true):(J6 m t w).pure=true:=by unfold J6;simp[PO.pure,bP,PV.pure,hw]
end
theorem Ug(l:Y1):mw (.str l)=false:=rfl
def oA(m:Nat)(t:Y1){w:PV}(r:Y3)(hw:w.pure=true)(hv:v.pure=true):lN 1 v (J6 m t w::r)=.ok v [J6 m t w]:=by unfold lN;rw[eP _ hv];show oE 1 v _=_;unfold oE;rw[if_pos (by simp[dY,yQ m t w hw])];rfl
noncomputable def ii(n:Nd)(m:Nat)(o:Option PV):Option Y1:=if m=2000 then some gu else match o with
 |none=>some fQ
 |some v=>match n with
  |.text _=>none
  |.place _ _ w=>match Ry w v with
   |some _=>none
   |none=>some mO
  |.loop .. =>match v with
   |.lst _=>none
   |_=>some xu
  |.choice .. =>match v with
   |.bl _=>none
   |_=>some sA
theorem ne1(pv:v.pure=true)(h:Y3):zi (.lst [v]) (.lst []) h=.ok (.bl false) h:=rfl
theorem ne0(h:Y3):zi (.lst []) (.lst []) h=.ok (.bl true) h:=rfl
def N8(k:Nat)(n:Nd)(nt:∀s,n≠.text s)(nw:∀a f w,n=.place a f w->w<5)(m:Nat)(t:Y1)(w:PV)(hw:w.pure=true)(o:Option PV)(ho:∀v,o=some v->VV nn v):L (k+2) .N8 [nd n,.lst (gY o),.ref 0] [J6 m t w]=.ok (gC (ii n m o)) [J6 (if m=2000 then m else m+1) t w]:=by
 show cP (dz (F (k+1))) 3 3 [nd n,.lst (gY o),.ref 0] [J6 m t w]=_;unfold ii;have lc:=fun(w:Nat)(hw:w<5){v:PV}(hv:VV nn v)(h:Y3)=>(aL h (by simp only[aq,PV.pure,hv.pure];rfl) (H9 k w hw hv):aX (F (k+1) .H9) [.str (dE w),v] h=_)
 by_cases m0:m=2000
 .have q:∀h,z_ (.int m) (.int 2000) h=.ok (.bl true) h:=fun h=>by rw[bX,decide_eq_true ⋯]
  rw[if_pos m0,if_pos m0];simp[EV,Ug,jw,cP,dz,sD,yR,q];exact oA m t [] hw rfl
 .have q:∀h,z_ (.int m) (.int 2000) h=.ok (.bl false) h:=fun h=>by rw[bX,decide_eq_false ⋯]
  have pm:∀ ρ,eO (.int ((m:Int)+1)) (.ref 0) (.str V4) ρ [J6 m t w]=.nx ρ [J6 (m+1) t w]:=fun ρ=>Jq m (m+1) t w ρ [];rw[if_neg m0,if_neg m0]
  cases o with
  |none=>simp[EV,Ug,jw,cP,dz,sD,yR,q,pm,gY,ne0];exact oA _ t [] hw rfl
  |some v=>
   have hv:=ho v rfl;have pv:=hv.pure;have n1:∀h,zi (.lst [v]) (.lst []) h=.ok (.bl false) h:=ne1 pv;have n0:∀h,f9 (.lst [v]) (.int 0) h=.ok v h:=fun h=>by show Res.ok (aj h v) h=_;rw[ak h pv]
   have tg:=Tn;have dl:∀h,aj h (.lst [v])=.lst [v]:=fun _=>rfl
   cases n with
   |text s=>exact absurd rfl (nt s)
   |place a f j=>
    have ix:=fun h=>qj h a f j;have lc:=lc j (nw a f j rfl) hv;dsimp only
    cases c:Ry j v with
    |some s=>rw[c]at lc;simp[EV,Ug,jw,cP,dz,sD,yR,q,pm,gY,n1,n0,bc,(ix _).1,(ix _).2.2,(tg _).2.2.1,lc,gC];exact oA _ t [] hw rfl
    |none=>rw[c]at lc;simp[EV,Ug,jw,cP,dz,sD,yR,q,pm,gY,n1,n0,bc,(ix _).1,(ix _).2.2,(tg _).2.2.1,lc,gC];exact oA _ t [] hw rfl
   |loop x a f ns b=>
    have ix:=fun h=>ms h x a f ns b
    cases hv<;>simp[EV,Ug,jw,cP,dz,sD,yR,q,pm,gY,n1,n0,bc,(ix _).1,(tg _).2.2.2.2.1,(tg _).2.2.2.2.2.1,gC]<;>exact oA _ t [] hw rfl
   |choice a f y z=>
    have ix:=fun h=>qk h a f y z
    cases hv<;>simp[EV,Ug,jw,cP,dz,sD,yR,q,pm,gY,n1,n0,bc,(ix _).1,(tg _).2.2.2.2.2.2.2.1,(tg _).2.2.2.2.2.2.2.2.1,gC]<;>exact oA _ t [] hw rfl
theorem Bm(i n:Nat)(l2:Y2)(h2:aq l2=true):∀(l1:Y2),aq l1=true->T7 (l1++.ref i::l2)=[i]/\VG n (l1++.ref i::l2)=l1++.ref n::l2/\qd (l1++.ref i::l2)=true
 |[],_=>by
  have e:∀(l:Y2),aq l=true->T7 l= []/\(∀n,VG n l=l)/\qd l=true:=fun l hl=>by
   induction l with
   |nil=>exact⟨rfl,fun _=>rfl,rfl⟩
   |cons p r ih=>
    rw[aq,adI]at hl;obtain⟨a,b,c⟩:=ih hl.2;have np:∀i,p≠.ref i:=fun i e=>by have:=hl.1;subst e;simp[PV.pure]at this
    have e:qd (p::r)=(p.pure&&qd r):=by cases p<;>first|rfl|exact(np _ rfl).elim
    refine⟨?_,fun n=>?_,by rw[e,hl.1,c];rfl⟩
    .cases p<;>first|exact a|exact(np _ rfl).elim
    .cases p<;>first|exact congrArg _ (b n)|exact(np _ rfl).elim
  obtain⟨a,b,c⟩:=e l2 h2;refine⟨?_,?_,c⟩
  .show i::T7 l2=_;rw[a]
  .show PV.ref n::VG (n+1) l2=_;rw[b];rfl
 |p::r,h=>by
  rw[aq,adI]at h;obtain⟨a,b,c⟩:=Bm i n l2 h2 r h.2;have np:∀i,p≠.ref i:=fun i e=>by have:=h.1;subst e;simp[PV.pure]at this
  have e:qd (p::(r++.ref i::l2))=(p.pure&&qd (r++.ref i::l2)):=by cases p<;>first|rfl|exact(np _ rfl).elim
  rw[aei];refine⟨?_,?_,by rw[e,h.1,c];rfl⟩
  .cases p<;>first|exact a|exact(np _ rfl).elim
  .cases p<;>first|exact congrArg _ b|exact(np _ rfl).elim
def dn(l1 l2:Y2){o o':PO}(h1:aq l1=true)(h2:aq l2=true)(ho:h[i]? =some o)(oo:o.pure=true)(e:fn (l1++.ref 0::l2) [o]=.ok v [o'])(hv:v.pure=true)(XM:o'.pure=true):
  z6 fn (l1++.ref i::l2) h=.ok v (h.set i o'):=by
 obtain⟨q1,q2,q3⟩:=Bm i 0 l2 h2 l1 h1;have e4:lL h [i]=some [o]:=by simp[lL,ho]
 unfold z6;rw[q1,e4];dsimp only;rw[q3,q2,e];have e5:(true&&dY [o]&&nq [i])=true:=by simp[dY,oo,nq]
 rw[if_pos e5];dsimp only;rw[if_pos ⟨hv,by simp[dY,XM],rfl⟩];rfl
def HG(m:Nat)(t:Y1)(w:PV)(ys:Y2)(T:Y3):Y3:=J6 m t w::.lst ys::T
section
variable(m m':Nat)(t t':Y1)(w w':PV)(ys:Y2)(T:Y3)(ρ:Ev)(d:List (PK×PV))
theorem qt:aj (HG m t w ys T) (.ref 0)=.ref 0:=rfl
theorem xZ:aj (HG m t w ys T) (.ref 1)=.ref 1:=rfl
theorem HS:f9 (.ref 0) (.str V4) (HG m t w ys T)=.ok (.int m) (HG m t w ys T):=rfl
theorem HO:f9 (.ref 0) (.str VJ) (HG m t w ys T)=.ok (.str t) (HG m t w ys T):=rfl
theorem HN(hw:w.pure=true):f9 (.ref 0) (.str Wy) (HG m t w ys T)=.ok w (HG m t w ys T):=Md m t w _ hw
theorem No:eO (.int (m':Nat)) (.ref 0) (.str V4) ρ (HG m t w ys T)=.nx ρ (HG m' t w ys T):=rfl
theorem HI:eO (.str t') (.ref 0) (.str VJ) ρ (HG m t w ys T)=.nx ρ (HG m t' w ys T):=rfl
theorem zF:eO w' (.ref 0) (.str Wy) ρ (HG m t w ys T)=.nx ρ (HG m t w' ys T):=rfl
theorem HU:bY (HG m t w ys T) (.ref 1)=true:=rfl
theorem HW(v:PV)(hl:ys.length<16777216):aV (.ref 1) [v] (HG m t w ys T)=.ok .non (HG m t w (ys++ [v]) T):=by show(if ys.length<sizeLine then Res.ok PV.non _ else Res.bad)=_;rw[if_pos (by rw[szl];exact hl)];rfl
theorem FK:(HG m t w ys T).length=T.length+2:=rfl
theorem FO(x:PO):HG m t w ys T++ [x]=HG m t w ys (T++ [x]):=rfl
theorem HM(x:PO):(HG m t w ys (T++ [x]))[T.length+2]? =some x:=by show(T++ [x])[T.length]? =some x;simp
theorem FJ(x y:PO):(HG m t w ys (T++ [x])).set (T.length+2) y=HG m t w ys (T++ [y]):=by show J6 m t w::.lst ys::(T++ [x]).set T.length y=_;rw[adW _ _ ⋯,aee];rfl
theorem FN:aj (HG m t w ys (T++ [.dct d])) (.ref (T.length+2))=.ref (T.length+2):=by unfold aj;dsimp only;rw[HM]
theorem FI(x:Y1)(v:PV)(hl:d.length<16777216):eO v (.ref (T.length+2)) (.str x) ρ (HG m t w ys (T++ [.dct d]))=.nx ρ (HG m t w ys (T++ [.dct (aK d (.inr x) v)])):=by
 have l:eM (HG m t w ys (T++ [.dct d])) (.ref (T.length+2))=some (T.length+2,d):=by unfold eM;dsimp only;rw[HM]
 unfold eO;rw[l];show(if d.length<sizeLine then SR.nx ρ _ else _)=_;rw[if_pos (by rw[szl];exact hl),FJ]
theorem FM(hp:bP d=true):Vv (.ref (T.length+2)) (HG m t w ys (T++ [.dct d]))=.ok (.dct d) (HG m t w ys (T++ [.s8 (.dct d)])):=by
 have l:eM (HG m t w ys (T++ [.dct d])) (.ref (T.length+2))=some (T.length+2,d):=by unfold eM;dsimp only;rw[HM]
 unfold Vv Xg;rw[l];dsimp only;rw[if_pos hp,FJ]
theorem Ks(v:PV)(hv:v.pure=true):f9 (.ref 1) (.int (-1)) (HG m t w (ys++ [v]) T)=.ok v (HG m t w (ys++ [v]) T):=by show(match PN (ys++ [v]) (-1)with|some q=>Res.ok (aj _ q) _|none=>Res.bad)=_;rw[yA];dsimp only;rw[ak _ hv]
end
def cst(l1:Y2){m m':Nat}{t':Y1}{w w':PV}(r:Y3)(h1:aq l1=true)(hw:w.pure=true)(e:fn (l1++ [.ref 0]) [J6 m t w]=.ok v [J6 m' t' w'])(hv:v.pure=true)(hw':w'.pure=true):z6 fn (l1++ [.ref 0]) (J6 m t w::r)=.ok v (J6 m' t' w'::r):=by have:=dn (fn:=fn) l1 [] (h:=J6 m t w::r) (i:=0) h1 rfl rfl (yQ m t w hw) e hv (yQ m' t' w' hw');exact this
def Nv(m:Nat)(t:Y1){w:PV}(ys:Y2)(T:Y3)(hw:w.pure=true)(hy:aq ys=true):lN 1 (.ref 1) (HG m t w ys T)=.ok (.lst ys) [J6 m t w]:=by
 unfold lN
 have:ei (HG m t w ys T) (.ref 1)=some (.lst ys,J6 m t w::.s8 (.lst ys)::T):=by show(if aq ys=true then _ else _)=_;rw[if_pos hy];rfl
 rw[this];show oE 1 _ _=_;unfold oE;rw[if_pos (by simp[dY,yQ m t w hw])];rfl
def fz1(m:Nat)(t:Y1){w:PV}(ys:Y2)(T:Y3)(hy:aq ys=true):Vv (.ref 1) (HG m t w ys T)=.ok (.lst ys) (J6 m t w::.s8 (.lst ys)::T):=by
 have:ei (HG m t w ys T) (.ref 1)=some (.lst ys,J6 m t w::.s8 (.lst ys)::T):=by show(if aq ys=true then _ else _)=_;rw[if_pos hy];rfl
 unfold Vv Xg;rw[show eM (HG m t w ys T) (.ref 1)=none from rfl];dsimp only;rw[this]
def rZ(k:Nat)(sc:List (PK×PV))(n:Nd):Prop:=∀(m:Nat)(ps:Ya)(xs:Y2)(nv o5 o6:Option PV),m<=2000->(goN sc n m ps).ps.flatten.length<=16000000->xs.length<=1000000->match goN sc n m ps with
 |.ok vs m' p'=>∃R6 U_,dA (F k) (L k) [nv,some (.dct sc),some (.ref 0),some (.ref 1),some (nd n),o5,o6] (HG m ps.flatten .non xs [])=.nx [nv,some (.dct sc),some (.ref 0),some (.ref 1),some (nd n),R6,U_] (HG m' p'.flatten .non (xs++aW vs) [])/\m'<=2000/\vs.length<=1
 |.no w m' p'=>dA (F k) (L k) [nv,some (.dct sc),some (.ref 0),some (.ref 1),some (nd n),o5,o6] (HG m ps.flatten .non xs [])=.rt .non (HG m' p'.flatten (.str w) xs [])
def Im(k:Nat)(sc:List (PK×PV))(pu:(PV.dct sc).pure=true)(s:Y1):rZ k sc (.text s):=by
 intro m ps xs nv o5 o6 hm hz hx;rw[goN]at hz |-;have hz:(ps++ [s]).flatten.length<=16000000:=hz;have fl:(ps++ [s]).flatten=ps.flatten++s:=by simp
 rw[fl,adt]at hz;have i:=fun h=>xW h s;have le:ps.flatten.length+s.length<=16777216:=by lia
 refine⟨o5,o6,?_,hm,by simp⟩;rw[fl,aW,adU];simp[EV,dA,bc,(i _).1,(i _).2,(Tn _).1,qt,HO,HI,le]
noncomputable def Y9:Nd->Option (Y1×Ya)
 |.text _=>none
 |.place a f _=>some (a,f)
 |.loop _ a f _ _=>some (a,f)
 |.choice a f _ _=>some (a,f)
def Es{sc:List (PK×PV)}{n:Nd}(hp:Y9 n=some (a,f))(e:bj sc (.inr a)=some v)(m:Nat)(ps:Ya){w:Y1}(h:ii n m (Pg v f)=some w):goN sc n m ps=.no w (if m=2000 then m else m+1) ps:=by
 unfold ii at h;have go:∀(K:PV->GR),(eS sc a f m ps K=if m=2000 then .no gu m ps else match Pg v f with|some u=>K u|none=>.no fQ (m+1) ps):=fun K=>by unfold eS;rw[e];rfl
 by_cases m0:m=2000
 .rw[if_pos m0]at h |-
  cases h
  cases n<;>cases hp<;>rw[goN,go,if_pos m0]
 .rw[if_neg m0]at h |-
  cases q:Pg v f with
  |none=>
   rw[q]at h
   cases h
   cases n<;>cases hp<;>rw[goN,go,if_neg m0,q]
  |some u=>
   rw[q]at h;dsimp only at h
   cases n with
   |text s=>cases hp
   |place a f j=>
    cases hp
    rw[goN,go,if_neg m0,q];dsimp only at h |-
    cases c:Ry j u<;>rw[c]at h<;>cases h
    rfl
   |loop x a f ns b=>
    cases hp
    rw[goN,go,if_neg m0,q]
    cases u<;>cases h<;>rfl
   |choice a f y z=>
    cases hp
    rw[goN,go,if_neg m0,q]
    cases u<;>cases h<;>rfl
def yF(k:Nat)(sc:List (PK×PV))(n:Nd)(u:PV):Prop:=∀(m:Nat)(ps:Ya),m<2000->ii n m (some u)=none->(goN sc n m ps).ps.flatten.length<=16000000->match goN sc n m ps with
 |.ok vs m' p'=>∃x,vs= [x]/\L k .t_ [nd n,u,.dct sc,.ref 0] [J6 (m+1) ps.flatten .non]=.ok (.lst [N5 x]) [J6 m' p'.flatten .non]/\m'<=2000
 |.no w m' p'=>L k .t_ [nd n,u,.dct sc,.ref 0] [J6 (m+1) ps.flatten .non]=.ok .non [J6 m' p'.flatten (.str w)]
theorem Ei{n:Nd}(hp:Y9 n=some (a,f))(h:Y3):∃t b,f9 (nd n) (.int 0) h=.ok (.str t) h/\z_ (.str t) (.str tT) h=.ok (.bl false) h/\z_ (.str t) (.str tL) h=.ok (.bl b) h/\f9 (nd n) (.int (1+if b=true then 1 else 0)) h=.ok (q_ a f) h:=by
 have tg:=Tn h
 cases n with
 |text s=>cases hp
 |place a f w=>cases hp;have i:=qj h a f w;exact⟨tP,false,i.1,tg.2.1,tg.2.2.2.2.2.2.2.2.2.1,i.2.1⟩
 |loop x a f ns b=>cases hp;have i:=ms h x a f ns b;exact⟨tL,true,i.1,tg.2.2.2.1,tg.2.2.2.2.2.1,i.2.2.1⟩
 |choice a f y z=>cases hp;have i:=qk h a f y z;exact⟨tC,false,i.1,tg.2.2.2.2.2.2.1,tg.2.2.2.2.2.2.2.2.1,i.2.1⟩
def yP{n:Nd}{m:Nat}{o:Option PV}(h:ii n m o=none):m≠2000/\∃u,o=some u:=by
 unfold ii at h
 split at h
 .cases h
 .rename_i m0;refine⟨m0,?_⟩
  cases o with
  |none=>cases h
  |some u=>exact⟨u,rfl⟩
theorem qU(l:Y1)(h:Y3):lG (.str l) .non h=.ok (.bl true) h:=rfl
theorem qo(h:Y3):lG .non .non h=.ok (.bl false) h:=rfl
theorem oy(l:Y2):mw (.lst l)=false:=rfl
theorem qp(l:Y2)(h:Y3):U9 (.lst l) .non h=.ok (.bl false) h:=rfl
theorem qn(h:Y3):U9 .non .non h=.ok (.bl true) h:=rfl
theorem wM(k:Nat){sc:List (PK×PV)}(hs:∀x∈sc,VV nn x.2){n:Nd}(hp:Y9 n=some (a,f))(nw:∀a f w,n=.place a f w->w<5)(e:bj sc (.inr a)=some v)(C:∀u,Pg v f=some u->yF (k+2) sc n u):rZ (k+2) sc n:=by
 intro m ps xs nv o5 o6 hm hz hx;have hv:VV nn v:=hs _ (dU e);have pu:=cw hs;have fe:∀h,aX (F (k+2) .Rt) [q_ a f,.dct sc] h=.ok (.lst (gY (Pg v f))) h:=fun h=>aL h (by simp only[aq,dX,pu];rfl) (wC (k+1) hs a f e)
 have lo:aq (gY (Pg v f))=true/\∀u,Pg v f=some u->VV nn u:=by
  cases q:Pg v f with
  |none=>exact⟨rfl,fun u h=>by cases h⟩
  |some u=>obtain⟨m',Vd,hu⟩:=fV f hv q;exact⟨by simp[gY,aq,hu.pure],fun z h=>by cases h;exact hu.mono Vd⟩
 have nt:∀s,n≠.text s:=fun s z=>by rw[z]at hp;cases hp
 have st:=N8 k n nt nw m ps.flatten .non rfl (Pg v f) lo.2;have sp:(gC (ii n m (Pg v f))).pure=true:=by cases ii n m (Pg v f)<;>rfl
 have st:=cst [nd n,.lst (gY (Pg v f))] [.lst xs] (by simp only[aq,kz,aeS,aek];rw[PV.pure];exact lo.1) rfl st sp rfl;have st:z6 (L (k+2) .N8) [nd n,.lst (gY (Pg v f)),.ref 0] (HG m ps.flatten .non xs [])=.ok (gC (ii n m (Pg v f))) (HG (if m=2000 then m else m+1) ps.flatten .non xs []):=st;have ip:=Ei hp;obtain⟨t,b,i1,i2,i3,i4⟩:=ip (HG m ps.flatten .non xs []);have pc:(q_ a f).pure=true:=dX a f
 cases q:ii n m (Pg v f)with
 |some w=>
  rw[q]at st;rw[Es hp e m ps q];show _=_;have lp:(PV.lst (gY (Pg v f))).pure=true:=by rw[PV.pure];exact lo.1
  simp[EV,Ug,jw,qo,qU,qp,oy,qn,gC,dA,bc,i1,i2,i3,i4,ak _ pu,ak _ lp,fe,st,qt,zF,HN _ _ _ _ _ (show(PV.str w).pure=true from rfl)]
 |none=>
  obtain⟨m0,u,hu⟩:=yP q;rw[q]at st;rw[if_neg m0]at st;rw[hu]at q fe st;have Ys:=(lo.2 u hu).pure;have lp:(PV.lst (gY (some u))).pure=true:=by simp[gY,PV.pure,aq,Ys]
  have n0:∀h,f9 (.lst (gY (some u))) (.int 0) h=.ok u h:=fun h=>by show Res.ok (aj h u) h=_;rw[ak h Ys]
  have K:=C u hu m ps ⋯ q hz
  cases g:goN sc n m ps with
  |no w m1 p1=>rw[g]at K;have K:=cst [nd n,u,.dct sc] [.lst xs] (by simp only[aq,kz,Ys,pu];rfl) rfl K rfl rfl;have K:z6 (L (k+2) .t_) [nd n,u,.dct sc,.ref 0] (HG (m+1) ps.flatten .non xs [])=.ok .non (HG m1 p1.flatten (.str w) xs []):=K;show _=_;simp[EV,Ug,jw,qo,qU,qp,oy,qn,gC,dA,bc,i1,i2,i3,i4,ak _ pu,ak _ lp,n0,fe,st,qt,zF,HN _ _ _ _ _ (show PV.non.pure=true from rfl),K]
  |ok vs m1 p1=>
   rw[g]at K;obtain⟨x,rfl,K,QH⟩:=K;have gd:=wK sc n m ps;rw[g]at gd;have gd:cH [x]:=gd;rw[cH]at gd;have xp:=qx gd.1;have K:=cst [nd n,u,.dct sc] [.lst xs] (by simp only[aq,kz,Ys,pu];rfl) rfl K (by simp[PV.pure,aq,xp]) rfl;have K:z6 (L (k+2) .t_) [nd n,u,.dct sc,.ref 0] (HG (m+1) ps.flatten .non xs [])=.ok (.lst [N5 x]) (HG m1 p1.flatten .non xs []):=K;have l1:(PV.lst [N5 x]).pure=true:=by simp[PV.pure,aq,xp]
   have x0:∀h,f9 (.lst [N5 x]) (.int 0) h=.ok (N5 x) h:=fun h=>by show Res.ok (aj h (N5 x)) h=_;rw[ak h xp]
   have ap:=HW m1 p1.flatten .non xs [] (N5 x) ⋯;refine⟨some (.lst (gY (some u))),some (.lst [N5 x]),?_,QH,adA _⟩;rw[aW,aW];simp[EV,Ug,jw,qo,qU,qp,oy,qn,gC,dA,bc,i1,i2,i3,i4,ak _ pu,ak _ lp,ak _ l1,n0,x0,fe,st,qt,xZ,HU,zF,HN _ _ _ _ _ (show PV.non.pure=true from rfl),K,ap]
def lQ(k:Nat)(sc:List (PK×PV))(l:List Nd):Prop:=∀(m:Nat)(ps:Ya),m<=2000->(aE sc l m ps).ps.flatten.length<=16000000->match aE sc l m ps with
 |.ok vs m' p'=>L k .K4 [.tup (b_ l),.dct sc,.ref 0] [J6 m ps.flatten .non]=.ok (.lst (aW vs)) [J6 m' p'.flatten .non]/\m'<=2000
 |.no w m' p'=>L k .K4 [.tup (b_ l),.dct sc,.ref 0] [J6 m ps.flatten .non]=.ok .non [J6 m' p'.flatten (.str w)]
theorem qw:∀(a b:List Fl),aW (a++b)=aW a++aW b
 |[],b=>by rw[aW];rfl
 |x::r,b=>by rw[aei,aW,aW,qw r b];rfl
theorem mA:∀(a:List Fl),(aW a).length=a.length
 |[]=>by rw[aW];rfl
 |x::r=>by rw[aW,adu,mA r];rfl
def sZ{g:Gx}{r:Y2}{ρ1:Ev}{h2:Y3}(hg:g p ρ=some ρ1)(hb:b ρ1 h=.rt v h2):bf g b (p::r) ρ h=.rt v h2:=by simp only[bf,hg,hb]
theorem rJ(k:Nat)(sc:List (PK×PV)):∀(l:List Nd),(∀n∈l,rZ k sc n)->∀(m:Nat)(ps:Ya)(xs:Y2)(nv o4 o5 o6:Option PV),m<=2000->(aE sc l m ps).ps.flatten.length<=16000000->xs.length+l.length<=1000000->match aE sc l m ps with
  |.ok vs m' p'=>∃Ue R6 U_,bf (z7 4) (dA (F k) (L k)) (b_ l) [nv,some (.dct sc),some (.ref 0),some (.ref 1),o4,o5,o6] (HG m ps.flatten .non xs [])=.nx [nv,some (.dct sc),some (.ref 0),some (.ref 1),Ue,R6,U_] (HG m' p'.flatten .non (xs++aW vs) [])/\m'<=2000
  |.no w m' p'=>∃ys,bf (z7 4) (dA (F k) (L k)) (b_ l) [nv,some (.dct sc),some (.ref 0),some (.ref 1),o4,o5,o6] (HG m ps.flatten .non xs [])=.rt .non (HG m' p'.flatten (.str w) ys [])
 |[],_,m,ps,xs,nv,o4,o5,o6,hm,hz,hx=>by rw[aE];exact⟨o4,o5,o6,by rw[aW,adU,b_];rfl,hm⟩
 |n::r,ok,m,ps,xs,nv,o4,o5,o6,hm,hz,hx=>by
  rw[aE]at hz |-;rw[adu]at hx
  cases e:goN sc n m ps with
  |no w m1 p1=>rw[e]at hz;have K:=ok n (by simp) m ps xs nv o5 o6 hm (by rw[e];exact hz) ⋯;rw[e]at K;refine⟨xs,?_⟩;rw[b_];exact sZ rfl K
  |ok vs m1 p1=>
   rw[e]at hz;dsimp only at hz |-;obtain⟨t2,e2⟩:=dG sc r m1 p1;have TX:(aE sc r m1 p1).ps.flatten.length<=16000000:=by revert hz;cases aE sc r m1 p1<;>exact id
   have Vr:p1.flatten.length<=16000000:=by rw[e2,ad5,adt]at TX;lia
   have K:=ok n (by simp) m ps xs nv o5 o6 hm (by rw[e];exact Vr) ⋯;rw[e]at K;obtain⟨R6,U_,q,QH,lv⟩:=K;have fl:=mA vs;have R:=rJ k sc r (fun z hz=>ok z (by simp[hz])) m1 p1 (xs++aW vs) nv (some (nd n)) R6 U_ QH TX (by rw[adt,fl];lia)
   cases e3:aE sc r m1 p1 with
   |no w m2 p2=>rw[e3]at R;obtain⟨ys,R⟩:=R;refine⟨ys,?_⟩;rw[b_,<- R];exact cR rfl q
   |ok ws m2 p2=>rw[e3]at R;obtain⟨a,b,c,R,Wb⟩:=R;refine⟨a,b,c,?_,Wb⟩;rw[qw,<- adN,b_,<- R];exact cR rfl q
theorem oU(k:Nat)(sc:List (PK×PV))(pu:(PV.dct sc).pure=true)(l:List Nd)(ok:∀n∈l,rZ k sc n)(hl:l.length<=1000000):lQ (k+1) sc l:=by
 intro m ps hm hz;have R:=rJ k sc l ok m ps [] (some (.tup (b_ l))) none none none hm hz (by simpa using hl);have gd:=eI sc l m ps;have np:(PV.tup (b_ l)).pure=true:=by rw[PV.pure];exact bB l
 have hq: [J6 m ps.flatten .non]++[PO.lst []]=HG m ps.flatten .non [] []:=rfl;have ru:L (k+1) .K4 [.tup (b_ l),.dct sc,.ref 0] [J6 m ps.flatten .non]=cP (mJ (F k) (L k)) 3 7 [.tup (b_ l),.dct sc,.ref 0] [J6 m ps.flatten .non]:=rfl
 cases e:aE sc l m ps with
 |no w m1 p1=>rw[e]at R;obtain⟨ys,R⟩:=R;dsimp only;rw[ru];simp[EV,cP,mJ,ak _ np,hq,R];exact oA m1 p1.flatten (w:=.str w) [.lst ys] rfl rfl
 |ok vs m1 p1=>rw[e]at R gd;obtain⟨a,b,c,R,QH⟩:=R;refine⟨?_,QH⟩;have gd:cH vs:=gd;rw[ad1]at R;rw[ru];simp[EV,cP,mJ,ak _ np,hq,R];exact Nv m1 _ _ [] rfl (cI gd)
theorem EQ(k:Nat){sc:List (PK×PV)}(pu:(PV.dct sc).pure=true)(a:Y1)(f:Ya)(w:Nat)(hw:w<5){u:PV}(e:bj sc (.inr a)=some v)(hu:Pg v f=some u)(vu:VV nn u):yF (k+2) sc (.place a f w) u:=by
 intro m ps hm hs hz;have go:∀(K:PV->GR),(eS sc a f m ps K=K u):=fun K=>by unfold eS;rw[e,if_neg ⋯];simp only[aeG];rw[hu]
 rw[goN,go]at hz |-;have pv:=vu.pure;unfold ii at hs;rw[if_neg ⋯]at hs;dsimp only at hs
 cases c:Ry w u with
 |none=>rw[c]at hs;cases hs
 |some s=>
  rw[c]at hz;dsimp only at hz |-;have fl:(ps++ [s]).flatten=ps.flatten++s:=by simp
  have hz:(ps++ [s]).flatten.length<=16000000:=hz;rw[fl,adt]at hz;have le:ps.flatten.length+s.length<=16777216:=by lia
  have lc:=fun h=>(aL h (by simp only[aq,PV.pure,pv];rfl) (H9 k w hw vu):aX (F (k+1) .H9) [.str (dE w),u] h=_)
  rw[c]at lc;have i:=fun h=>qj h a f w;refine⟨.sc u,rfl,?_,by lia⟩;rw[N5,fl];have ru:L (k+2) .t_ [nd (.place a f w),u,.dct sc,.ref 0] [J6 (m+1) ps.flatten .non]=cP (bU (F (k+1)) (L (k+1))) 4 8 [nd (.place a f w),u,.dct sc,.ref 0] [J6 (m+1) ps.flatten .non]:=rfl;rw[ru];simp[EV,cP,bU,bc,(i _).1,(i _).2.2,(Tn _).2.2.1,ak _ pv,lc,sD,Me,Jp,gC,le];exact oA _ _ [] rfl (by simp[PV.pure,aq,pv])
theorem Cj(k:Nat){sc:List (PK×PV)}(pu:(PV.dct sc).pure=true)(a:Y1)(f:Ya)(y z:List Nd){u:PV}(e:bj sc (.inr a)=some v)(hu:Pg v f=some u)(gy:lQ (k+1) sc y)(gz:lQ (k+1) sc z):yF (k+2) sc (.choice a f y z) u:=by
 intro m ps hm hs hz;have go:∀(K:PV->GR),(eS sc a f m ps K=K u):=fun K=>by unfold eS;rw[e,if_neg ⋯];simp only[aeG];rw[hu]
 rw[goN,go]at hz |-;unfold ii at hs;rw[if_neg ⋯]at hs;dsimp only at hs;have i:=fun h=>qk h a f y z
 have side:∀(b:Bool)(l:List Nd),u=.bl b->(∀h,f9 (nd (.choice a f y z)) (.int (2+if(!b)=true then 1 else 0)) h=.ok (.tup (b_ l)) h)->lQ (k+1) sc l->(aE sc l (m+1) ps).ps.flatten.length<=16000000->match(match aE sc l (m+1) ps with
   |.ok vs m' p'=>GR.ok [.tup b vs] m' p'
   |.no w m' p'=>.no w m' p')with
   |.ok vs m' p'=>∃x,vs= [x]/\L (k+2) .t_ [nd (.choice a f y z),u,.dct sc,.ref 0] [J6 (m+1) ps.flatten .non]=.ok (.lst [N5 x]) [J6 m' p'.flatten .non]/\m'<=2000
   |.no w m' p'=>L (k+2) .t_ [nd (.choice a f y z),u,.dct sc,.ref 0] [J6 (m+1) ps.flatten .non]=.ok .non [J6 m' p'.flatten (.str w)]:=fun b l hb hi G Vr=>by
  subst hb;have K:=G (m+1) ps ⋯ Vr;have ru:L (k+2) .t_ [nd (.choice a f y z),.bl b,.dct sc,.ref 0] [J6 (m+1) ps.flatten .non]=cP (bU (F (k+1)) (L (k+1))) 4 8 [nd (.choice a f y z),.bl b,.dct sc,.ref 0] [J6 (m+1) ps.flatten .non]:=rfl;have np:(PV.tup (b_ l)).pure=true:=by rw[PV.pure];exact bB l
  have gd:=eI sc l (m+1) ps;have tg:=Tn;rw[ru]
  cases g:aE sc l (m+1) ps with
  |no w m1 p1=>rw[g]at K;have K:z6 (L (k+1) .K4) [.tup (b_ l),.dct sc,.ref 0] [J6 (m+1) ps.flatten .non]=.ok .non [J6 m1 p1.flatten (.str w)]:=cst [.tup (b_ l),.dct sc] [] (by simp only[aq,np,pu];rfl) rfl K rfl rfl;dsimp only;simp[EV,qo,qU,qp,oy,qn,Ug,jw,cP,bU,bc,(i _).1,hi,ak _ pu,(tg _).2.2.2.2.2.2.2.1,(tg _).2.2.2.2.2.2.2.2.2.2,sD,K];exact oA _ _ [] rfl rfl
  |ok vs m1 p1=>
   rw[g]at K gd;obtain⟨K,QH⟩:=K;have xp:=cI (show cH vs from gd);have xl:(PV.lst (aW vs)).pure=true:=by rw[PV.pure];exact xp
   have K:z6 (L (k+1) .K4) [.tup (b_ l),.dct sc,.ref 0] [J6 (m+1) ps.flatten .non]=.ok (.lst (aW vs)) [J6 m1 p1.flatten .non]:=cst [.tup (b_ l),.dct sc] [] (by simp only[aq,np,pu];rfl) rfl K xl rfl;refine⟨.tup b vs,rfl,?_,QH⟩;rw[N5];simp[EV,qo,qU,qp,oy,qn,Ug,jw,cP,bU,bc,(i _).1,hi,ak _ pu,ak _ xl,(tg _).2.2.2.2.2.2.2.1,(tg _).2.2.2.2.2.2.2.2.2.2,sD,K];exact oA _ _ [] rfl (by simp[PV.pure,aq,xp])
 cases u with
 |bl b=>
  cases b
  .refine side false z rfl (fun h=>(i h).2.2.2) gz ?_
   revert hz;dsimp only;cases aE sc z (m+1) ps<;>exact id
  .refine side true y rfl (fun h=>(i h).2.2.1) gy ?_
   revert hz;dsimp only;cases aE sc y (m+1) ps<;>exact id
 |_=>cases hs
theorem Ff(i:Nat)(h:Y3):Dz [.int (0+(i:Nat)),.int 1] h=.ok (.int (if i=0 then 0 else 1)) h:=by
 show Res.ok (PV.int (if(1:Int)<0+(i:Nat)then 1 else 0+(i:Nat))) h=_
 cases i with
 |zero=>rfl
 |succ j=>
  rw[if_neg (show¬ j+1=0 by lia)]
  by_cases q:(1:Int)<0+((j+1:Nat):Int)
  .rw[if_pos q]
  .rw[if_neg q];have:j=0:=by lia
   subst this;rfl
def Fh(s:Y1)(hs:s.length<=1000000)(i:Nat)(h:Y3):gX (.str s) (.int (if i=0 then 0 else 1)) h=.ok (.str (if i=0 then[]else s)) h:=by
 by_cases q:i=0
 .rw[if_pos q,if_pos q];show(if QW 1048576 0=true/\s.length * 0<=1048576 then Res.ok (PV.str (oq s 0)) h else Res.bad)=_;rw[if_pos ⟨by decide,by lia⟩];rfl
 .rw[if_neg q,if_neg q];show(if QW 1048576 1=true/\s.length * 1<=1048576 then Res.ok (PV.str (oq s 1)) h else Res.bad)=_;rw[if_pos ⟨by decide,by lia⟩];have:oq s 1=s:=by simp[oq]
  rw[this]
mutual
def Vz:Nd->Prop
 |.loop _ _ _ ns b=>b.length<=700000/\U6 ns
 |.choice _ _ y n=>U6 y/\U6 n
 |_=>True
def U6:List Nd->Prop
 |[]=>True
 |n::r=>Vz n/\U6 r
end
def Co(a r:Y2)(t:PV)(ht:t.pure=true)(h:Y3):f9 (.lst (a++t::r)) (.int (0+(a.length:Nat))) h=.ok t h:=by show(match PN (a++t::r) (0+(a.length:Nat))with|some q=>Res.ok (aj h q) h|none=>.bad)=_;rw[eG (v:=t) ⋯ (by rw[show(0+((a.length:Nat):Int)).toNat=a.length by lia];simp)];dsimp only;rw[ak h ht]
noncomputable def Uo(i n:Nat):Y2:=(List.range' i n).map fun i=>PV.int (0+(i:Nat))
def AD(n:Nat):(List.range n).map (fun i:Nat=>PV.int (0+(i:Nat)))=Uo 0 n:=by unfold Uo;rw[List.range_eq_range']
def pL(i n:Nat):Uo i (n+1)=.int (0+(i:Nat))::Uo (i+1) n:=by unfold Uo;rw[List.range'_succ];rfl
def CB(k:Nat)(sc:List (PK×PV))(N:PV)(ts:Y2)(i n m:Nat)(ps:Ya)(xs:Y2)(T:Y3)(o4 o6 o7:Option PV):GR->Prop
 |.ok vs m' p'=>∃U_ o7' T',bf (z7 6) (ci (F k) (L k)) (Uo i n) [some N,some (.lst ts),some (.dct sc),some (.ref 0),o4,some (.ref 1),o6,o7] (HG m ps.flatten .non xs T)=.nx [some N,some (.lst ts),some (.dct sc),some (.ref 0),o4,some (.ref 1),U_,o7'] (HG m' p'.flatten .non (xs++aW vs) T')/\m'<=2000
 |.no w m' p'=>∃ys T',bf (z7 6) (ci (F k) (L k)) (Uo i n) [some N,some (.lst ts),some (.dct sc),some (.ref 0),o4,some (.ref 1),o6,o7] (HG m ps.flatten .non xs T)=.rt .non (HG m' p'.flatten (.str w) ys T')
def flt(ps:Ya)(i:Nat)(bb:Y1):(if i=0 then ps else ps++ [bb]).flatten=ps.flatten++(if i=0 then[]else bb):=by split<;>simp
theorem yf(k:Nat){nn:Nat}{sc:List (PK×PV)}(hs:∀x∈sc,VV nn x.2)(hl:sc.length<=1000)(x a:Y1)(f:Ya)(ns:List Nd)(bb:Y1)(hb:bb.length<=1000000)(o4:Option PV):∀(r done:Y2),(∀t∈done++r,VV nn t/\lQ k (aK sc (.inr x) t) ns)->∀(m:Nat)(ps:Ya)(xs:Y2)(T:Y3)(o6 o7:Option PV),m<=2000->(bN (fun t m ps=>aE (aK sc (.inr x) t) ns m ps) bb done.length r m ps).ps.flatten.length<=16000000->xs.length+r.length<=1000000->
  CB k sc (nd (.loop x a f ns bb)) (done++r) done.length r.length m ps xs T o4 o6 o7 (bN (fun t m ps=>aE (aK sc (.inr x) t) ns m ps) bb done.length r m ps)
 |[],done,_,m,ps,xs,T,o6,o7,hm,_,_=>by rw[bN];exact⟨o6,o7,T,by simp only[aW,adU];rfl,hm⟩
 |t::r,done,ok,m,ps,xs,T,o6,o7,hm,hz,hx=>by
  obtain⟨vt,G⟩:=ok t (by simp);have pt:=vt.pure;have pu:=cw hs;have ix:=fun h=>ms h x a f ns bb;have np:(PV.tup (b_ ns)).pure=true:=by rw[PV.pure];exact bB ns
  have hl2:sc.length<16777216:=by lia
  have tsp:(PV.lst (done++t::r)).pure=true:=by rw[PV.pure];exact dW fun z hz=>(ok z hz).1.pure
  have pk:bP (aK sc (.inr x) t)=true:=lC sc _ _ (by rw[PV.pure]at pu;exact pu) pt;have pk':(PV.dct (aK sc (.inr x) t)).pure=true:=by rw[PV.pure];exact pk
  have am:=Co done r t pt;have d1:∀h,aj h (.int (0+((done.length:Nat):Int)))=.int (0+((done.length:Nat):Int)):=fun _=>rfl;rw[bN]at hz |-;rw[adu]at hx;show CB _ _ _ _ _ (r.length+1) _ _ _ _ _ _ _ _
  by_cases m0:m=2000
  .rw[if_pos m0];have q:∀h,z_ (.int m) (.int 2000) h=.ok (.bl true) h:=fun h=>by rw[bX,decide_eq_true ⋯]
   refine⟨xs,T,?_⟩;rw[pL];refine sZ rfl ?_;simp[EV,qo,qU,qp,oy,qn,Ug,jw,ci,qt,HS,zF,q];rfl
  .rw[if_neg m0]at hz |-;have q:∀h,z_ (.int m) (.int 2000) h=.ok (.bl false) h:=fun h=>by rw[bX,decide_eq_false ⋯]
   have pm:∀t w ys T ρ,eO (.int ((m:Int)+1)) (.ref 0) (.str V4) ρ (HG m t w ys T)=.nx ρ (HG (m+1) t w ys T):=fun t w ys T ρ=>No m (m+1) t w ys T ρ;have fl:=flt ps done.length bb;generalize hP:(if done.length=0 then ps else ps++ [bb])=p0 at*
   have hq0:p0.flatten.length<=16000000/\(aE (aK sc (.inr x) t) ns (m+1) p0).ps.flatten.length<=16000000:=by
    obtain⟨t1,et⟩:=dG (aK sc (.inr x) t) ns (m+1) p0
    cases e1:aE (aK sc (.inr x) t) ns (m+1) p0 with
    |no w m1 p1=>rw[e1]at hz et;have et:p1=_++t1:=et;have hz:p1.flatten.length<=16000000:=hz;refine⟨?_,hz⟩;rw[et,ad5,adt]at hz;lia
    |ok vs m1 p1=>
     rw[e1]at hz et;have et:p1=_++t1:=et;obtain⟨t2,Yc⟩:=jC (fun v m ps=>dG (aK sc (.inr x) v) ns m ps) bb r (done.length+1) m1 p1;dsimp only at hz;have TX:(bN (fun t m ps=>aE (aK sc (.inr x) t) ns m ps) bb (done.length+1) r m1 p1).ps.flatten.length<=16000000:=by revert hz;cases bN (fun t m ps=>aE (aK sc (.inr x) t) ns m ps) bb (done.length+1) r m1 p1<;>exact id
     rw[Yc,ad5,adt]at TX;have hz3:p1.flatten.length<=16000000:=by lia
     refine⟨?_,hz3⟩;rw[et,ad5,adt]at hz3;lia
   have le:ps.flatten.length+(if done.length=0 then[]else bb).length<=16777216:=by have:=hq0.1;rw[fl,adt]at this;lia
   have K:=G (m+1) p0 ⋯ hq0.2
   cases e1:aE (aK sc (.inr x) t) ns (m+1) p0 with
   |no w m1 p1=>
    rw[e1]at K
    have K:∀T,z6 (L k .K4) [.tup (b_ ns),.dct (aK sc (.inr x) t),.ref 0] (HG (m+1) (ps.flatten++if done.length=0 then[]else bb) .non xs T)=.ok .non (HG m1 p1.flatten (.str w) xs T):=fun T=>by rw[<- fl];exact cst [.tup (b_ ns),.dct (aK sc (.inr x) t)] (.lst xs::T) (by simp only[aq,np,pk'];rfl) rfl K rfl rfl
    refine⟨xs++ [.non],T++ [.s8 (.dct (aK sc (.inr x) t))],?_⟩;rw[pL];refine sZ rfl ?_;have ap:=HW m1 p1.flatten (.str w) xs (T++ [.s8 (.dct (aK sc (.inr x) t))]) .non ⋯;have al:=Ks m1 p1.flatten (.str w) xs (T++ [.s8 (.dct (aK sc (.inr x) t))]) .non rfl;simp[EV,qo,qU,qp,oy,qn,Ug,jw,ci,qt,xZ,HS,HO,HI,zF,pm,q,bc,(ix _).2.1,(ix _).2.2.2.1,(ix _).2.2.2.2,Ff,Fh _ hb,le,ak _ pu,ak _ tsp,FK,FO,FN,am,FI _ _ _ _ _ _ _ _ _ hl2,HU,FM _ _ _ _ _ _ pk,K,ap,al]
   |ok vs m1 p1=>
    rw[e1]at hz K;dsimp only at hz |-;obtain⟨K,QH⟩:=K;have gd:=eI (aK sc (.inr x) t) ns (m+1) p0;rw[e1]at gd;have xp:(PV.lst (aW vs)).pure=true:=by rw[PV.pure];exact cI (show cH vs from gd)
    have K:∀T,z6 (L k .K4) [.tup (b_ ns),.dct (aK sc (.inr x) t),.ref 0] (HG (m+1) (ps.flatten++if done.length=0 then[]else bb) .non xs T)=.ok (.lst (aW vs)) (HG m1 p1.flatten .non xs T):=fun T=>by rw[<- fl];exact cst [.tup (b_ ns),.dct (aK sc (.inr x) t)] (.lst xs::T) (by simp only[aq,np,pk'];rfl) rfl K xp rfl
    have ap:=HW m1 p1.flatten .non xs (T++ [.s8 (.dct (aK sc (.inr x) t))]) (.lst (aW vs)) ⋯;have al:=Ks m1 p1.flatten .non xs (T++ [.s8 (.dct (aK sc (.inr x) t))]) (.lst (aW vs)) xp
    have st:∀o7,ci (F k) (L k) [some (nd (.loop x a f ns bb)),some (.lst (done++t::r)),some (.dct sc),some (.ref 0),o4,some (.ref 1),some (.int (0+((done.length:Nat):Int))),o7] (HG m ps.flatten .non xs T)=.nx [some (nd (.loop x a f ns bb)),some (.lst (done++t::r)),some (.dct sc),some (.ref 0),o4,some (.ref 1),some (.int (0+((done.length:Nat):Int))),some (.ref (T.length+2))] (HG m1 p1.flatten .non (xs++ [.lst (aW vs)]) (T++ [.s8 (.dct (aK sc (.inr x) t))])):=fun o7=>by simp[EV,qo,qU,qp,oy,qn,Ug,jw,ci,qt,xZ,HS,HO,HI,zF,pm,q,bc,(ix _).2.1,(ix _).2.2.2.1,(ix _).2.2.2.2,Ff,Fh _ hb,le,ak _ pu,ak _ tsp,FK,FO,FN,am,FI _ _ _ _ _ _ _ _ _ hl2,HU,FM _ _ _ _ _ _ pk,K,ap,al]
    have TX:(bN (fun t m ps=>aE (aK sc (.inr x) t) ns m ps) bb (done.length+1) r m1 p1).ps.flatten.length<=16000000:=by revert hz;cases bN (fun t m ps=>aE (aK sc (.inr x) t) ns m ps) bb (done.length+1) r m1 p1<;>exact id
    have R:=yf k hs hl x a f ns bb hb o4 r (done++ [t]) (fun z hz=>ok z (by simpa using hz)) m1 p1 (xs++ [.lst (aW vs)]) (T++ [.s8 (.dct (aK sc (.inr x) t))]) (some (.int (0+((done.length:Nat):Int)))) (some (.ref (T.length+2))) QH (by simpa using TX) (by rw[adt,adH];lia);rw[show done++ [t]++r=done++t::r by simp,show(done++ [t]).length=done.length+1 by simp]at R
    cases e2:bN (fun t m ps=>aE (aK sc (.inr x) t) ns m ps) bb (done.length+1) r m1 p1 with
    |no w m2 p2=>rw[e2]at R;obtain⟨ys,T',R⟩:=R;refine⟨ys,T',?_⟩;rw[pL,<- R];exact cR rfl (st o7)
    |ok ws m2 p2=>rw[e2]at R;obtain⟨c,d,T',R,Wb⟩:=R;refine⟨c,d,T',?_,Wb⟩;rw[aW,N5,show xs++.lst (aW vs)::aW ws=xs++ [.lst (aW vs)]++aW ws by simp,pL,<- R];exact cR rfl (st o7)
theorem Iz(k:Nat){sc:List (PK×PV)}(hs:∀x∈sc,VV nn x.2)(hl:sc.length<=1000)(x a:Y1)(f:Ya)(ns:List Nd)(bb:Y1)(hb:bb.length<=1000000){u:PV}(e:bj sc (.inr a)=some v)(hu:Pg v f=some u)(vu:VV nn u)(G:∀t,VV nn t->lQ (k+1) (aK sc (.inr x) t) ns):yF (k+2) sc (.loop x a f ns bb) u:=by
 intro m ps hm R9 hz;have go:∀(K:PV->GR),(eS sc a f m ps K=K u):=fun K=>by unfold eS;rw[e,if_neg ⋯];simp only[aeG];rw[hu]
 rw[goN,go]at hz |-;unfold ii at R9;rw[if_neg ⋯]at R9;dsimp only at R9
 cases u with
 |lst ts=>
  dsimp only at hz |-
  have XJ:ts.length<=1000/\∀t∈ts,VV nn t:=by
   cases vu with
   |lst n xs h l=>exact⟨l,fun t ht=>(h t ht).mono ⋯⟩
  have pv:=vu.pure;have pu:=cw hs;have tg:=Tn;have i:=fun h=>ms h x a f ns bb;have TX:(bN (fun t m ps=>aE (aK sc (.inr x) t) ns m ps) bb 0 ts (m+1) ps).ps.flatten.length<=16000000:=by revert hz;cases bN (fun t m ps=>aE (aK sc (.inr x) t) ns m ps) bb 0 ts (m+1) ps<;>exact id
  have R:=yf (k+1) hs hl x a f ns bb hb none ts [] (fun t ht=>⟨XJ.2 t ht,G t (XJ.2 t ht)⟩) (m+1) ps [] [] none none ⋯ TX (by simp;lia);have R:CB (k+1) sc (nd (.loop x a f ns bb)) ts 0 ts.length (m+1) ps [] [] none none none (bN (fun t m ps=>aE (aK sc (.inr x) t) ns m ps) bb 0 ts (m+1) ps):=R;have ru:L (k+2) .t_ [nd (.loop x a f ns bb),.lst ts,.dct sc,.ref 0] [J6 (m+1) ps.flatten .non]=cP (bU (F (k+1)) (L (k+1))) 4 8 [nd (.loop x a f ns bb),.lst ts,.dct sc,.ref 0] [J6 (m+1) ps.flatten .non]:=rfl;have hq: [J6 (m+1) ps.flatten .non]++[PO.lst []]=HG (m+1) ps.flatten .non [] []:=rfl;have be:QW 4611686018427387904 (ts.length:Int)=true:=bD.mpr ⋯;have tn:((ts.length:Int)).toNat=ts.length:=by lia
  cases g:bN (fun t m ps=>aE (aK sc (.inr x) t) ns m ps) bb 0 ts (m+1) ps with
  |no w m1 p1=>rw[g]at R;obtain⟨ys,T',R⟩:=R;dsimp only;rw[ru];simp[EV,qo,qU,qp,oy,qn,Ug,jw,cP,bU,bc,(i _).1,(tg _).2.2.2.2.1,(fun h=>Qj (a:=tL) (b:=tC) false (h:=h)),hq,ak _ pv,be,tn,AD,R];exact oA m1 p1.flatten (w:=.str w) (v:=.non) (.lst ys::T') rfl rfl
  |ok vs m1 p1=>rw[g]at R;have gd:=oJ (fun v m ps=>eI (aK sc (.inr x) v) ns m ps) bb ts 0 (m+1) ps;rw[g]at gd;have xp:=cI (show cH vs from gd);obtain⟨c,d,T',R,QH⟩:=R;refine⟨.lst vs,rfl,?_,QH⟩;rw[ad1]at R;rw[N5,ru];simp[EV,qo,qU,qp,oy,qn,Ug,jw,cP,bU,bc,(i _).1,(tg _).2.2.2.2.1,(fun h=>Qj (a:=tL) (b:=tC) false (h:=h)),hq,ak _ pv,be,tn,AD,R,xZ,fz1 _ _ _ _ xp];exact oA m1 p1.flatten (w:=.non) (v:=.lst [.lst (aW vs)]) (.s8 (.lst (aW vs))::T') rfl (by simp[PV.pure,aq,xp])
 |_=>cases R9
mutual
theorem Nr:∀(n:Nd){B:Ya}{nn:Nat}{sc:List (PK×PV)}(K:Nat),Sd B n->Vz n->(∀x∈sc,VV nn x.2)->sc.length+dN n<=900->(∀a∈B,(bj sc (.inr a)).isSome)->2 * dN n+8<=K->rZ K sc n
 |.text s,B,nn,sc,K,w,bt,hs,hl,hb,hK=>Im K sc (cw hs) s
 |.place a f w,B,nn,sc,K,wl,bt,hs,hl,hb,hK=>by
  obtain⟨k,rfl⟩:∃k,K=k+2:=⟨K - 2,by lia⟩
  rw[Sd]at wl;obtain⟨v,e⟩:=ad4.mp (hb a wl.1);refine wM k hs rfl (fun _ _ _ q=>by cases q;exact wl.2.2) e fun u hu=>?_;obtain⟨m',Vd,vu⟩:=fV f (hs _ (dU e)) hu;exact EQ k (cw hs) a f w wl.2.2 e hu vu
 |.loop x a f ns b,B,nn,sc,K,wl,bt,hs,hl,hb,hK=>by
  rw[Sd]at wl;rw[Vz]at bt;rw[dN]at hl hK;obtain⟨k,rfl⟩:∃k,K=k+3:=⟨K - 3,by lia⟩
  obtain⟨v,e⟩:=ad4.mp (hb a wl.1);refine wM (k+1) hs rfl (fun _ _ _ q=>by cases q) e fun u hu=>?_;obtain⟨m',Vd,vu⟩:=fV f (hs _ (dU e)) hu;refine Iz (k+1) hs ⋯ x a f ns b (by have:=bt.1;lia) e hu (vu.mono Vd) fun t ht=>?_
  have h2:∀z∈aK sc (.inr x) t,VV nn z.2:=fun z hz=>by
   rcases mh hz with q|q
   .exact hs z q
   .rw[q];exact ht
  refine oU (k+1) _ (cw h2) ns (uS ns (B:=x::B) (k+1) wl.2.2.2 bt.2 h2 ?_ (fun y hy=>?_) ⋯) ⋯
  .have:=ij sc (.inr x) t;lia
  .refine cG ?_;rcases adD.mp hy with q|q
   .exact .inl (by rw[q])
   .exact .inr (hb y q)
 |.choice a f y n,B,nn,sc,K,wl,bt,hs,hl,hb,hK=>by
  rw[Sd]at wl;rw[Vz]at bt;rw[dN]at hl hK;obtain⟨k,rfl⟩:∃k,K=k+3:=⟨K - 3,by lia⟩
  obtain⟨v,e⟩:=ad4.mp (hb a wl.1);have m1:=ael (J7 y) (J7 n);have m2:=aef (J7 y) (J7 n);refine wM (k+1) hs rfl (fun _ _ _ q=>by cases q) e fun u hu=>?_;exact Cj (k+1) (cw hs) a f y n e hu (oU (k+1) _ (cw hs) y (uS y (k+1) wl.2.2.2.2.1 bt.1 hs ⋯ hb ⋯) ⋯) (oU (k+1) _ (cw hs) n (uS n (k+1) wl.2.2.2.2.2 bt.2 hs ⋯ hb ⋯) ⋯)
theorem uS:∀(l:List Nd){B:Ya}{nn:Nat}{sc:List (PK×PV)}(K:Nat),Td B l->U6 l->(∀x∈sc,VV nn x.2)->sc.length+J7 l<=900->(∀a∈B,(bj sc (.inr a)).isSome)->2 * J7 l+8<=K->∀n∈l,rZ K sc n
 |[],_,_,_,_,_,_,_,_,_,_,n,h=>by cases h
 |x::r,B,nn,sc,K,wl,bt,hs,hl,hb,hK,n,h=>by
  rw[Td]at wl;rw[U6]at bt;rw[J7]at hl hK;have m1:=ael (dN x) (J7 r);have m2:=aef (dN x) (J7 r);rcases adD.mp h with q|q
  .rw[q];exact Nr x K wl.1 bt.1 hs ⋯ hb ⋯
  .exact uS r K wl.2 bt.2 hs ⋯ hb ⋯ n q
end
def Er(l:List Nd){sc:List (PK×PV)}(K:Nat)(wl:Td B l)(bt:U6 l)(hs:∀x∈sc,VV nn x.2)(hl:sc.length+J7 l<=900)(hb:∀a∈B,(bj sc (.inr a)).isSome)(hK:2 * J7 l+9<=K)(ll:l.length<=1000000):lQ K sc l:=by
 obtain⟨k,rfl⟩:∃k,K=k+1:=⟨K - 1,by lia⟩
 exact oU k sc (cw hs) l (uS l k wl bt hs hl hb ⋯) ll
def GR.le(m:Nat):GR->Prop
 |.ok _ m' _=>m<=m'/\m'<=2000
 |.no .. =>True
theorem GR.le.mono{m:Nat}:∀{r:GR},r.le n->m<=n->r.le m
 |.ok _ _ _,h,l=>⟨adR l h.1,h.2⟩
 |.no ..,_,_=>trivial
def sk{sc:List (PK×PV)}{m:Nat}(hm:m<=2000){ps:Ya}(h:∀v,m<2000->(k v).le (m+1)):(eS sc a f m ps k).le m:=by
 unfold eS
 split
 .trivial
 .split
  .exact(h _ ⋯).mono ⋯
  .trivial
theorem sM{f:PV->Nat->Ya->GR}(h:∀v m ps,m<=2000->(f v m ps).le m)(b:Y1):∀(ts:Y2)(i m:Nat)(ps:Ya),m<=2000->(bN f b i ts m ps).le (m+ts.length)
 |[],i,m,ps,hm=>by rw[bN];exact⟨by simp,hm⟩
 |v::r,i,m,ps,hm=>by
  rw[bN]
  split
  .trivial
  .have q:=h v (m+1) (if i=0 then ps else ps++ [b]) ⋯
   cases e:f v (m+1) (if i=0 then ps else ps++ [b])with
   |no w m1 p1=>trivial
   |ok vs m1 p1=>
    rw[e]at q;have t:=sM h b r (i+1) m1 p1 q.2;dsimp only
    cases e2:bN f b (i+1) r m1 p1 with
    |no w m2 p2=>trivial
    |ok ws m2 p2=>
     rw[e2]at t;refine⟨?_,t.2⟩;have:=t.1;have:=q.1;rw[adu]
     lia
mutual
theorem BM(sc:List (PK×PV)):∀(n:Nd)(m:Nat)(ps:Ya),m<=2000->(goN sc n m ps).le m
 |.text s,m,ps,hm=>by rw[goN];exact⟨adA _,hm⟩
 |.place a f w,m,ps,hm=>by
  rw[goN];refine sk hm fun v h=>?_
  split
  .exact⟨adA _,h⟩
  .trivial
 |.loop x a f ns b,m,ps,hm=>by
  rw[goN];refine sk hm fun v h=>?_
  split
  .rename_i ts;have t:=sM (fun v m ps h=>kA (aK sc (.inr x) v) ns m ps h) b ts 0 (m+1) ps h
   split<;>rename_i z<;>rw[z]at t
   .exact⟨by have:=t.1;lia,t.2⟩
   .trivial
  .trivial
 |.choice a f y n,m,ps,hm=>by
  rw[goN];refine sk hm fun v h=>?_
  split
  .have t:=kA sc y (m+1) ps h
   split<;>rename_i z<;>rw[z]at t
   .exact t
   .trivial
  .have t:=kA sc n (m+1) ps h
   split<;>rename_i z<;>rw[z]at t
   .exact t
   .trivial
  .trivial
theorem kA(sc:List (PK×PV)):∀(l:List Nd)(m:Nat)(ps:Ya),m<=2000->(aE sc l m ps).le m
 |[],m,ps,hm=>by rw[aE];exact⟨adA _,hm⟩
 |n::r,m,ps,hm=>by
  rw[aE];have a:=BM sc n m ps hm
  split
  .rename_i v m1 p1 z;rw[z]at a;have t:=kA sc r m1 p1 a.2
   split<;>rename_i y<;>rw[y]at t
   .exact⟨adR a.1 t.1,t.2⟩
   .trivial
  .trivial
end
theorem mz:∀l:List Fl,aW l=l.map N5
 |[]=>by rw[aW];rfl
 |x::r=>by rw[aW,mz r];rfl
def Lf(a r:Y2)(t:PV)(ht:t.pure=true)(h:Y3):f9 (.lst (a++t::r)) (.int (a.length:Nat)) h=.ok t h:=by
 have:=Co a r t ht h
 rwa [Int.zero_add]at this
theorem qi(s a:Y1):∀r:Ya,gw s (a::r)=a++(r.map (s++ ·)).flatten
 |[]=>by simp[gw]
 |b::r=>by
  rw[gw,qi s b r]
  .simp
  .intro h;cases h
theorem rE(s:Y1):∀r:Ya,(r.map (fun l=>l.length)).sum+r.length * s.length<=(gw s r).length+s.length
 |[]=>by simp
 |[a]=>by simp[gw]
 |a::b::r=>by
  have ih:=rE s (b::r);rw[gw]
  .rw[adE,agn,adu,adt,adt,afG]
   lia
  .intro h;cases h
def WT(k:Nat)(n:Nd):Prop:=∀(sc:List (PK×PV))(m:Nat)(ps:Ya)(vs:List Fl)(m':Nat)(p':Ya),m<=2000->goN sc n m ps=.ok vs m' p'->p'.flatten.length<=16000000->(∃s,n=.text s)\/((∀s,n≠.text s)/\∃x t,vs= [x]/\p'=ps++t/\F k .N7 [nd n,N5 x]=.ok (.str t.flatten))
def WW(k:Nat)(l:List Nd):Prop:=∀(sc:List (PK×PV))(m:Nat)(ps:Ya)(vs:List Fl)(m':Nat)(p':Ya),m<=2000->aE sc l m ps=.ok vs m' p'->p'.flatten.length<=16000000->∃t,p'=ps++t/\F k .spelt [.tup (b_ l),.lst (aW vs)]=.ok (.str t.flatten)
theorem CM{n:Nd}(h:∀s,n≠.text s)(hp:Y3):∃t,f9 (nd n) (.int 0) hp=.ok (.str t) hp/\z_ (.str t) (.str tT) hp=.ok (.bl false) hp:=by
 have tg:=Tn hp
 cases n with
 |text s=>exact absurd rfl (h s)
 |place a f w=>exact⟨tP,(qj hp a f w).1,tg.2.1⟩
 |loop x a f ns b=>exact⟨tL,(ms hp x a f ns b).1,tg.2.2.2.1⟩
 |choice a f y z=>exact⟨tC,(qk hp a f y z).1,tg.2.2.2.2.2.2.1⟩
theorem sE(k:Nat):∀(l:List Nd),(∀n∈l,WT k n)->∀(sc:List (PK×PV))(m:Nat)(ps:Ya)(vs:List Fl)(m':Nat)(p':Ya)(pre:Y2)(acc:Ya)(o0 o4:Option PV),m<=2000->aE sc l m ps=.ok vs m' p'->p'.flatten.length<=16000000->aq (pre++aW vs)=true->acc.length+l.length<=1000000->∃t t' Ue,p'=ps++t/\t'.flatten=t.flatten/\bf (z7 4) (iG (F k)) (b_ l) [o0,some (.lst (pre++aW vs)),some (.ref 0),some (.int (pre.length:Nat)),o4] [.lst (acc.map PV.str)]=.nx [o0,some (.lst (pre++aW vs)),some (.ref 0),some (.int ((pre.length+vs.length:Nat):Int)),Ue] [.lst ((acc++t').map PV.str)]
 |[],_,sc,m,ps,vs,m',p',pre,acc,o0,o4,hm,e,hz,hp,ha=>by
  rw[aE]at e
  cases e
  exact⟨[],[],o4,by simp,rfl,by rw[adU];rfl⟩
 |n::r,ok,sc,m,ps,vs,m',p',pre,acc,o0,o4,hm,e,hz,hp,ha=>by
  rw[aE]at e;rw[adu]at ha
  cases g:goN sc n m ps with
  |no w m1 p1=>rw[g]at e;cases e
  |ok v1 m1 p1=>
   rw[g]at e;dsimp only at e
   cases g2:aE sc r m1 p1 with
   |no w m2 p2=>rw[g2]at e;cases e
   |ok v2 m2 p2=>
    rw[g2]at e
    cases e
    obtain⟨t2,e2⟩:=dG sc r m1 p1;rw[g2]at e2;have e2:p'=p1++t2:=e2;have QH:m1<=2000:=by have:=BM sc n m ps hm;rw[g]at this;exact this.2
    have Vr:p1.flatten.length<=16000000:=by rw[e2,ad5,adt]at hz;lia
    have ac:∀s:Y1,aV (.ref 0) [.str s] [.lst (acc.map PV.str)]=.ok .non [.lst ((acc++ [s]).map PV.str)]:=fun s=>by show(if(acc.map PV.str).length<sizeLine then Res.ok PV.non [PO.lst (acc.map PV.str++ [.str s])]else .bad)=_;rw[if_pos (by rw[adJ,szl];lia),adV];rfl
    have il:bY [.lst (acc.map PV.str)] (.ref 0)=true:=rfl;have d0:aj [.lst (acc.map PV.str)] (.ref 0)=.ref 0:=rfl;have dl:∀h,aj h (.lst (pre++aW (v1++v2)))=.lst (pre++aW (v1++v2)):=fun _=>rfl;rcases ok n (by simp) sc m ps v1 m1 p1 hm g Vr with⟨s,rfl⟩|⟨nt,x,t1,rfl,e1,q⟩
    .rw[goN]at g
     cases g
     have i:=fun h=>xW h s;obtain⟨t,t',Ue,a,b,c⟩:=sE k r (fun z hz=>ok z (by simp[hz])) sc _ _ v2 m' p' pre (acc++ [s]) o0 (some (nd (.text s))) QH g2 hz hp (by rw[adt,adH];lia);refine⟨[s]++t,[s]++t',Ue,by rw[a,adN],by simp[b],?_⟩;rw[b_];rw[adN]at c;rw[ad1,<- c];refine cR rfl ?_;simp[EV,iG,bc,(i _).1,(i _).2,(Tn _).1,il,d0,ac]
    .obtain⟨tg,i1,i2⟩:=CM nt [.lst (acc.map PV.str)];have gd:=wK sc n m ps;rw[g]at gd;have gd:cH [x]:=gd;rw[cH]at gd;have xp:=qx gd.1;have fe:aW ([x]++v2)=N5 x::aW v2:=by rw[qw,aW,aW];rfl
     have am:=Lf pre (aW v2) (N5 x) xp;have q:∀h,aX (F k .N7) [nd n,N5 x] h=.ok (.str t1.flatten) h:=fun h=>aL h (by simp only[aq,kz,xp];rfl) q;obtain⟨t,t',Ue,a,b,c⟩:=sE k r (fun z hz=>ok z (by simp[hz])) sc m1 p1 v2 m' p' (pre++ [N5 x]) (acc++ [t1.flatten]) o0 (some (nd n)) QH g2 hz (by rw[fe]at hp;simpa using hp) (by rw[adt,adH];lia);refine⟨t1++t,[t1.flatten]++t',Ue,by rw[a,e1,adN],by simp[b],?_⟩;rw[fe]at hp |-;rw[b_];simp only[adt,adu,adQ,afX,adN,aei,ad1,<- Nat.add_assoc]at c |-;rw[show pre.length+1+v2.length=pre.length+v2.length+1 by lia]at c;rw[<- c];refine cR rfl ?_;have dl:∀h,aj h (.lst (pre++N5 x::aW v2))=.lst (pre++N5 x::aW v2):=fun _=>rfl;simp[EV,iG,bc,i1,i2,il,d0,dl,am,q,ac];rfl
def pE(l:Ya):(l.map (fun l=>l.length)).sum=l.flatten.length:=by rw[afS]
def xF(k:Nat)(l:List Nd)(ok:∀n∈l,WT k n)(hl:l.length<=1000000):WW (k+1) l:=by
 intro sc m ps vs m' p' hm e hz;have gd:=eI sc l m ps;rw[e]at gd;have xp:=cI (show cH vs from gd);obtain⟨t,t',Ue,a,b,c⟩:=sE k l ok sc m ps vs m' p' [] [] (some (.tup (b_ l))) none hm e hz (by simpa using xp) (by simpa using hl);refine⟨t,a,?_⟩;have np:(PV.tup (b_ l)).pure=true:=by rw[PV.pure];exact bB l
 have vp:(PV.lst (aW vs)).pure=true:=by rw[PV.pure];exact xp
 simp only[ad1]at c;have c:bf (z7 4) (iG (F k)) (b_ l) [some (.tup (b_ l)),some (.lst (aW vs)),some (.ref 0),some (.int 0),none] [.lst []]=.nx [some (.tup (b_ l)),some (.lst (aW vs)),some (.ref 0),some (.int ((([]:Y2).length+vs.length:Nat):Int)),Ue] [.lst (t'.map PV.str)]:=c
 have jn:eK (.str []) [.ref 0] [.lst (t'.map PV.str)]=.ok (.str t.flatten) [.lst (t'.map PV.str)]:=by
  rw[<- b,<- gR];refine iK rfl ?_;have:t.flatten.length<=16000000:=by rw[a,ad5,adt]at hz;lia
  rw[pE,b,adQ,ahw];lia
 have dr:aj [.lst (t'.map PV.str)] (.ref 0)=.ref 0:=rfl;show ar (tI (F k)) 2 5 [.tup (b_ l),.lst (aW vs)]=_;simp[EV,ar,tI,ak _ np,ak _ vp,c,jn,dr];rfl
theorem Fa(k:Nat)(sc:List (PK×PV))(x:Y1)(ns:List Nd)(bb:Y1)(S:WW k ns):∀(ts:Y2)(i m:Nat)(ps:Ya)(vs:List Fl)(m':Nat)(p':Ya),m<=2000->bN (fun t m ps=>aE (aK sc (.inr x) t) ns m ps) bb i ts m ps=.ok vs m' p'->p'.flatten.length<=16000000->∃(tl:List (Fl×Y1))(t:Ya),vs=tl.map (·.1)/\p'=ps++t/\(∀z∈tl,(N5 z.1).pure=true/\F k .spelt [.tup (b_ ns),N5 z.1]=.ok (.str z.2))/\tl.length=ts.length/\t.flatten=(if i=0 then gw bb (tl.map (·.2))else((tl.map (·.2)).map (bb++ ·)).flatten)
 |[],i,m,ps,vs,m',p',hm,e,hz=>by
  rw[bN]at e
  cases e
  exact⟨[],[],rfl,by simp,by simp,rfl,by split<;>rfl⟩
 |t::r,i,m,ps,vs,m',p',hm,e,hz=>by
  rw[bN]at e
  by_cases m0:m=2000
  .rw[if_pos m0]at e;cases e
  .rw[if_neg m0]at e
   cases g:aE (aK sc (.inr x) t) ns (m+1) (if i=0 then ps else ps++ [bb])with
   |no w m1 p1=>rw[g]at e;cases e
   |ok v1 m1 p1=>
    rw[g]at e;dsimp only at e
    cases g2:bN (fun t m ps=>aE (aK sc (.inr x) t) ns m ps) bb (i+1) r m1 p1 with
    |no w m2 p2=>rw[g2]at e;cases e
    |ok v2 m2 p2=>
     rw[g2]at e
     cases e
     have QH:m1<=2000:=by have:=kA (aK sc (.inr x) t) ns (m+1) (if i=0 then ps else ps++ [bb]) ⋯;rw[g]at this;exact this.2
     obtain⟨tl,t2,e1,e2,e3,e5,e4⟩:=Fa k sc x ns bb S r (i+1) m1 p1 v2 m' p' QH g2 hz;have Vr:p1.flatten.length<=16000000:=by rw[e2,ad5,adt]at hz;lia
     obtain⟨t1,q1,q2⟩:=S _ _ _ _ _ _ ⋯ g Vr;have gd:=eI (aK sc (.inr x) t) ns (m+1) (if i=0 then ps else ps++ [bb]);rw[g]at gd;have xp:=cI (show cH v1 from gd);rw[if_neg ⋯]at e4;refine⟨(.lst v1,t1.flatten)::tl,(if i=0 then[]else[bb])++(t1++t2),by rw[e1];rfl,?_,?_,by rw[adu,e5,adu],?_⟩
     .rw[e2,q1];split<;>simp
     .intro z hz;rcases adD.mp hz with q|q
      .subst q;exact⟨by rw[N5,PV.pure];exact xp,by rw[N5];exact q2⟩
      .exact e3 z q
     .rw[ad5,ad5,e4,adE]
      split
      .rw[qi];rfl
      .rw[adE,aes];simp
section
variable(k:Nat)
theorem CS(a:Y1)(f:Ya)(w:Nat)(hw:w<5):WT (k+5) (.place a f w):=by
 intro sc m ps vs m' p' hm e hz;refine .inr ⟨fun s q=>(by cases q),?_⟩;rw[goN]at e;unfold eS at e
 split at e
 .cases e
 .have QH:m+1<=2000:=by lia
  split at e
  .rename_i u hu;dsimp only at e
   cases c:Ry w u with
   |none=>rw[c]at e;cases e
   |some s=>
    rw[c]at e
    cases e
    have f':=hU c;have pv:u.pure=true:=by rcases qG c with⟨l,rfl⟩|⟨j,rfl⟩<;>rfl
    have pi:(PV.ins w []).pure=true:=rfl;have y:∀h,aX (F (k+4) .O6) [.str (dE w)] h=.ok (.ins w []) h:=fun h=>aL h rfl (xt (k+3) w hw);have q:∀h,aX (F (k+4) .g8) [.ins w [],u] h=.ok (.str s) h:=fun h=>aL h (by simp only[aq,pv,pi];rfl) (yx hw pv f' k);have i:=fun h=>qj h a f w;refine⟨.sc u,[s],rfl,rfl,?_⟩;rw[N5];show ar (cV (F (k+4))) 2 2 [nd (.place a f w),u]=_;simp[EV,ar,cV,bc,(i _).1,(i _).2.2,(Tn _).2.2.1,y,q,FU _ w hw,ak _ pv,aT];simp
  .cases e
theorem Au(a:Y1)(f:Ya)(y n:List Nd)(hy:WW k y)(hn:WW k n):WT (k+1) (.choice a f y n):=by
 intro sc m ps vs m' p' hm e hz;refine .inr ⟨fun s q=>(by cases q),?_⟩;have i:=fun h=>qk h a f y n;have tg:=Tn
 have side:∀(b:Bool)(l:List Nd)(v1:List Fl),WW k l->(∀h,f9 (nd (.choice a f y n)) (.int (if b=true then 2 else 3)) h=.ok (.tup (b_ l)) h)->m+1<=2000->aE sc l (m+1) ps=.ok v1 m' p'->∃x t,[Fl.tup b v1]=[x]/\p'=ps++t/\F (k+1) .N7 [nd (.choice a f y n),N5 x]=.ok (.str t.flatten):=fun b l v1 hl hi QH g=>by
  obtain⟨t,e1,q⟩:=hl _ _ _ _ _ _ QH g hz;have gd:=eI sc l (m+1) ps;rw[g]at gd;have xp:=cI (show cH v1 from gd);have lp:(PV.lst (aW v1)).pure=true:=by rw[PV.pure];exact xp
  have tp:(PV.tup [.bl b,.lst (aW v1)]).pure=true:=by simp[PV.pure,aq,xp]
  have np:(PV.tup (b_ l)).pure=true:=by rw[PV.pure];exact bB l
  have i0:∀h,f9 (.tup [.bl b,.lst (aW v1)]) (.int 0) h=.ok (.bl b) h:=fun _=>rfl;have i1:∀h,f9 (.tup [.bl b,.lst (aW v1)]) (.int 1) h=.ok (.lst (aW v1)) h:=fun _=>rfl;have q:∀h,aX (F k .spelt) [.tup (b_ l),.lst (aW v1)] h=.ok (.str t.flatten) h:=fun h=>aL h (by simp only[aq,np,lp];rfl) q;refine⟨.tup b v1,t,rfl,e1,?_⟩;rw[N5];show ar (cV (F k)) 2 2 [nd (.choice a f y n),.tup [.bl b,.lst (aW v1)]]=_
  cases b
  .have hi:∀h,f9 (nd (.choice a f y n)) (.int 3) h=.ok (.tup (b_ l)) h:=hi;simp[EV,ar,cV,bc,(i _).1,hi,i0,i1,(tg _).2.2.2.2.2.2.2.1,(tg _).2.2.2.2.2.2.2.2.1,ak _ tp,q,aT]
  .have hi:∀h,f9 (nd (.choice a f y n)) (.int 2) h=.ok (.tup (b_ l)) h:=hi;simp[EV,ar,cV,bc,(i _).1,hi,i0,i1,(tg _).2.2.2.2.2.2.2.1,(tg _).2.2.2.2.2.2.2.2.1,ak _ tp,q,aT]
 rw[goN]at e;unfold eS at e
 split at e
 .cases e
 .have QH:m+1<=2000:=by lia
  split at e
  .rename_i u hu
   cases u with
   |bl b=>
    cases b
    .cases g:aE sc n (m+1) ps with
     |no w m1 p1=>dsimp only at e;rw[g]at e;cases e
     |ok v1 m1 p1=>dsimp only at e;rw[g]at e;cases e;exact side false n v1 hn (fun h=>(i h).2.2.2) QH g
    .cases g:aE sc y (m+1) ps with
     |no w m1 p1=>dsimp only at e;rw[g]at e;cases e
     |ok v1 m1 p1=>dsimp only at e;rw[g]at e;cases e;exact side true y v1 hy (fun h=>(i h).2.2.1) QH g
   |_=>cases e
  .cases e
theorem Gs(x a:Y1)(f:Ya)(ns:List Nd)(bb:Y1)(hb:bb.length<=700000)(hn:WW k ns):WT (k+1) (.loop x a f ns bb):=by
 intro sc m ps vs m' p' hm e hz;refine .inr ⟨fun s q=>(by cases q),?_⟩;have i:=fun h=>ms h x a f ns bb;have tg:=Tn;rw[goN]at e;unfold eS at e
 split at e
 .cases e
 .have QH:m+1<=2000:=by lia
  split at e
  .rename_i u hu
   cases u with
   |lst ts=>
    dsimp only at e
    cases g:bN (fun t m ps=>aE (aK sc (.inr x) t) ns m ps) bb 0 ts (m+1) ps with
    |no w m1 p1=>rw[g]at e;cases e
    |ok v1 m1 p1=>
     rw[g]at e
     cases e
     obtain⟨tl,t,e1,e2,e3,e5,e4⟩:=Fa k sc x ns bb hn ts 0 (m+1) ps v1 m' p' QH g hz;rw[if_pos rfl]at e4;have gd:=oJ (fun v m ps=>eI (aK sc (.inr x) v) ns m ps) bb ts 0 (m+1) ps;rw[g]at gd;have xp:=cI (show cH v1 from gd);have lp:(PV.lst (aW v1)).pure=true:=by rw[PV.pure];exact xp
     have np:(PV.tup (b_ ns)).pure=true:=by rw[PV.pure];exact bB ns
     have ht:t.flatten.length<=16000000:=by rw[e2,ad5,adt]at hz;lia
     refine⟨.lst v1,t,rfl,e2,?_⟩;rw[N5,mz,e1,aen]
     have ls:tl.length<16777216:=by
      have:=sM (fun v m ps h=>kA (aK sc (.inr x) v) ns m ps h) bb ts 0 (m+1) ps QH;rw[g]at this;have h1:=this.1;have h2:=this.2
      lia
     have cm:∀h,cg bK (fJ (F k)) (cU [0] [some (nd (.loop x a f ns bb)),some (.lst (tl.map (N5∘(·.1))))]) (tl.map (N5∘(·.1))) h=.ok (tl.map (fun z=>PV.str z.2)) h:=fun h=>qa (cp:=[some (nd (.loop x a f ns bb))]) (N5∘(·.1)) (fun z=>PV.str z.2) tl fun z hz=>by obtain⟨zp,q⟩:=e3 z hz;have q:∀h,aX (F k .spelt) [.tup (b_ ns),N5 z.1] h=.ok (.str z.2) h:=fun h=>aL h (by simp only[aq,np,zp];rfl) q;show fJ (F k) [some (N5 z.1),some (nd (.loop x a f ns bb))] h=_;simp[EV,fJ,bc,(i _).2.2.2.1,ak _ zp,q]
     have jn:∀h,eK (.str bb) [.lst (tl.map (fun z=>PV.str z.2))] h=.ok (.str t.flatten) h:=fun h=>by
      rw[e4];refine iK (ls:=tl.map (·.2)) (q:=.lst (tl.map (fun z=>PV.str z.2))) (h:=h) (by rw[aen];rfl) ?_;have:=rE bb (tl.map (·.2));rw[<- e4]at this
      lia
     have dl:∀h,aj h (.lst (tl.map (N5∘(·.1))))=.lst (tl.map (N5∘(·.1))):=fun _=>rfl;show ar (cV (F k)) 2 2 [nd (.loop x a f ns bb),.lst (tl.map (N5∘(·.1)))]=_;simp[EV,ar,cV,bc,(i _).1,(i _).2.2.2.2,(tg _).2.2.2.2.1,(tg _).2.2.2.2.2.1,dl,cm,jn,aT,adJ,ls]
   |_=>cases e
  .cases e
end
mutual
theorem Jb:∀(n:Nd){B:Ya}(K:Nat),Sd B n->Vz n->2 * dN n+8<=K->WT K n
 |.text s,_,_,_,_,_=>fun _ _ _ _ _ _ _ _ _=>.inl ⟨s,rfl⟩
 |.place a f w,B,K,wl,_,hK=>by
  obtain⟨k,rfl⟩:∃k,K=k+5:=⟨K - 5,by lia⟩
  rw[Sd]at wl;exact CS k a f w wl.2.2
 |.loop x a f ns b,B,K,wl,bt,hK=>by
  rw[Sd]at wl;rw[Vz]at bt;rw[dN]at hK;obtain⟨k,rfl⟩:∃k,K=k+2:=⟨K - 2,by lia⟩
  exact Gs (k+1) x a f ns b bt.1 (xF k ns (ug ns k wl.2.2.2 bt.2 ⋯) ⋯)
 |.choice a f y n,B,K,wl,bt,hK=>by
  rw[Sd]at wl;rw[Vz]at bt;rw[dN]at hK;obtain⟨k,rfl⟩:∃k,K=k+2:=⟨K - 2,by lia⟩
  have m1:=ael (J7 y) (J7 n);have m2:=aef (J7 y) (J7 n);exact Au (k+1) a f y n (xF k y (ug y k wl.2.2.2.2.1 bt.1 ⋯) ⋯) (xF k n (ug n k wl.2.2.2.2.2 bt.2 ⋯) ⋯)
theorem ug:∀(l:List Nd){B:Ya}(K:Nat),Td B l->U6 l->2 * J7 l+8<=K->∀n∈l,WT K n
 |[],_,_,_,_,_,n,h=>by cases h
 |x::r,B,K,wl,bt,hK,n,h=>by
  rw[Td]at wl;rw[U6]at bt;rw[J7]at hK;have m1:=ael (dN x) (J7 r);have m2:=aef (dN x) (J7 r);rcases adD.mp h with q|q
  .rw[q];exact Jb x K wl.1 bt.1 ⋯
  .exact ug r K wl.2 bt.2 ⋯ n q
end
def Al(l:List Nd)(K:Nat)(wl:Td B l)(bt:U6 l)(hK:2 * J7 l+9<=K)(ll:l.length<=1000000):WW K l:=by
 obtain⟨k,rfl⟩:∃k,K=k+1:=⟨K - 1,by lia⟩
 exact xF k l (ug l k wl bt ⋯) ll
inductive UV(d:Bool):Nat->PV->Prop
 |str (n:Nat) (l:Y1) (h:∀c∈l,c<1114112):UV d n (.str l)
 |int (n:Nat) (i:Int):UV d n (.int i)
 |bl (n:Nat) (b:Bool):UV d n (.bl b)
 |lst (n:Nat) (xs:Y2) (h:∀x∈xs,UV d n x) (l:xs.length<=1000000):UV d (n+1) (.lst xs)
 |tup (n:Nat) (xs:Y2) (h:∀x∈xs,UV d n x) (l:xs.length<=1000000):UV d (n+1) (.tup xs)
 |dct (n:Nat) (l:List (PK×PV)) (hd:d=true) (h:∀x∈l,UV d n x.2) (nd:(l.map (·.1)).Nodup) (ln:l.length<=1000000) (kr:∀x∈l,x.1.isRight=true):UV d (n+1) (.dct l)
theorem UV.pure{d:Bool}:∀{n:Nat}{v:PV},UV d n v->v.pure=true
 |_,_,.str .. =>rfl
 |_,_,.int .. =>rfl
 |_,_,.bl .. =>rfl
 |_,_,.lst n xs h l=>by rw[PV.pure];exact dW fun x hx=>(h x hx).pure
 |_,_,.tup n xs h l=>by rw[PV.pure];exact dW fun x hx=>(h x hx).pure
 |_,_,.dct n l _ h _ _ _=>by rw[PV.pure,dC];exact dW fun x hx=>by obtain⟨y,hy,rfl⟩:=adT.mp hx;exact(h y hy).pure
theorem VV.uv:∀{n:Nat}{v:PV},VV n v->UV true n v
 |_,_,.str n l h hc=>.str n l fun c h=>kQ c (hc c h)
 |_,_,.int n i=>.int n i
 |_,_,.bl n b=>.bl n b
 |_,_,.lst n xs h l=>.lst n xs (fun x hx=>(h x hx).uv) ⋯
 |_,_,.dct n l h nd ln kr=>.dct n l rfl (fun x hx=>(h x hx).uv) nd ⋯ kr
theorem UV.mono{d:Bool}:∀{n m:Nat}{v:PV},UV d n v->n<=m->UV d m v
 |_,m,_,.str n l h,_=>.str m l h
 |_,m,_,.int n i,_=>.int m i
 |_,m,_,.bl n b,_=>.bl m b
 |_,m,_,.lst n xs h l,le=>by
  obtain⟨m',rfl⟩:∃m',m=m'+1:=⟨m - 1,by lia⟩
  exact .lst m' xs (fun x hx=>(h x hx).mono ⋯) l
 |_,m,_,.tup n xs h l,le=>by
  obtain⟨m',rfl⟩:∃m',m=m'+1:=⟨m - 1,by lia⟩
  exact .tup m' xs (fun x hx=>(h x hx).mono ⋯) l
 |_,m,_,.dct n l hd h nd ln kr,le=>by
  obtain⟨m',rfl⟩:∃m',m=m'+1:=⟨m - 1,by lia⟩
  exact .dct m' l hd (fun x hx=>(h x hx).mono ⋯) nd ln kr
theorem Fi:∀(l acc:List (PK×PV)),((acc++l).map (·.1)).Nodup->l.foldl (fun a kv=>aK a kv.1 kv.2) acc=acc++l
 |[],acc,_=>by simp
 |x::r,acc,nd=>by
  rw[agE]
  have:aK acc x.1 x.2=acc++ [x]:=by unfold aK;rw[if_neg];intro q;obtain⟨y,hy,e⟩:=afD.mp q;have e:=of_decide_eq_true e;rw[adV,aeO]at nd;exact nd.2.2 y.1 (afR hy) x.1 (by simp) e
  rw[this,Fi r (acc++ [x]) (by simpa using nd)];simp
theorem pR:∀(l:List (PK×PV)),(∀x∈l,x.1.isRight=true)->pS (l.map fun z=>.tup [eZ z.1,z.2])=some l
 |[],_=>rfl
 |(k,v)::r,h=>by
  have ih:=pR r fun x hx=>h x (by simp[hx]);have hk:=h (k,v) (by simp)
  cases k with
  |inl i=>cases hk
  |inr s=>rw[adE];show(match iM (.str s),pS (r.map fun z=>PV.tup [eZ z.1,z.2])with|some kk,some l=>some ((kk,v)::l)|_,_=>none)=_;rw[ih];rfl
theorem xw{l:List (PK×PV)}(nd:(l.map (·.1)).Nodup){x:PK×PV}(hx:x∈l):bj l x.1=some x.2:=by
 induction l with
 |nil=>cases hx
 |cons a r ih=>
  rw[adE,aem]at nd;unfold bj;rcases adD.mp hx with rfl|q
  .rw[aea (by simp)];rfl
  .rw[ad6]
   .exact ih nd.2 q
   .simp only[decide_eq_true_eq];intro e;exact nd.1 (e▸afR q)
theorem Ch{d:Bool}:∀(n:Nat){v:PV}(K:Nat),UV d n v->n+1<=K->F K .G8 [v]=.ok v:=by
 intro n
 induction n with
 |zero=>
  intro v K h hK;obtain⟨k,rfl⟩:∃k,K=k+1:=⟨K - 1,by lia⟩
  show ar (de (F k)) 1 1 [v]=_
  cases h<;>simp[EV,ar,de,aT]<;>rfl
 |succ n ih=>
  intro v K h hK;obtain⟨k,rfl⟩:∃k,K=k+1:=⟨K - 1,by lia⟩
  have cl:∀(e:Ex)(C:CC->Ex),True:=fun _ _=>trivial;have pv:=h.pure;have one:∀(x:PV),UV d n x->∀h,aX (F k .G8) [x] h=.ok x h:=fun x hx h=>aL h (by simp only[aq,hx.pure];rfl) (ih k hx ⋯);show ar (de (F k)) 1 1 [v]=_
  cases h with
  |str _ l hl=>simp[EV,ar,de,aT]<;>rfl
  |int _ i=>simp[EV,ar,de,aT]<;>rfl
  |bl _ b=>simp[EV,ar,de,aT]<;>rfl
  |lst _ xs hx l=>
   have i1:∀h,aw [.lst xs,.ty "list"] h=.ok (.bl true) h:=fun _=>rfl;have lm:xs.length<16777216:=by lia
   have cm:∀h,cg bK (gM (F k)) (cU [] [some (.lst xs)]) xs h=.ok xs h:=fun h=>by
    have:=qa (te:=gM (F k)) (cp:=[]) (h:=h) (fun x=>x) (fun x=>x) xs fun x hm=>by simp[EV,gM,ak _ (hx x hm).pure,one x (hx x hm)]
    rw[afY]at this;exact this
   simp[EV,ar,de,ak _ pv,i1,(show∀h,lw (.lst xs) h=.ok xs h from fun _=>rfl),cm,lm,aT,eP _ pv]
  |tup _ xs hx l=>
   have i1:∀h,aw [.tup xs,.ty "list"] h=.ok (.bl false) h:=fun _=>rfl;have i2:∀h,aw [.tup xs,.ty "tuple"] h=.ok (.bl true) h:=fun _=>rfl;have lm:xs.length<16777216:=by lia
   have cm:∀h,cg bK (gL (F k)) (cU [] [some (.tup xs)]) xs h=.ok xs h:=fun h=>by
    have:=qa (te:=gL (F k)) (cp:=[]) (h:=h) (fun x=>x) (fun x=>x) xs fun x hm=>by simp[EV,gL,ak _ (hx x hm).pure,one x (hx x hm)]
    rw[afY]at this;exact this
   simp[EV,ar,de,ak _ pv,i1,i2,(show∀h,lw (.tup xs) h=.ok xs h from fun _=>rfl),(show∀h,nc [.lst xs] h=.ok (.tup xs) h from fun _=>rfl),cm,lm,aT,eP _ pv]
  |dct _ l hd hx nd ln kr=>
   have i1:∀h,aw [.dct l,.ty "list"] h=.ok (.bl false) h:=fun _=>rfl;have i2:∀h,aw [.dct l,.ty "tuple"] h=.ok (.bl false) h:=fun _=>rfl;have i3:∀h,aw [.dct l,.ty "dict"] h=.ok (.bl true) h:=fun _=>rfl;have lm:l.length<16777216:=by lia
   have cm:∀h,cg bK (fK (F k)) (cU [0] [some (.dct l)]) (l.map fun p=>eZ p.1) h=.ok (l.map fun z=>.tup [eZ z.1,z.2]) h:=fun h=>qa (te:=fK (F k)) (cp:=[some (.dct l)]) (h:=h) (fun p:PK×PV=>eZ p.1) (fun z:PK×PV=>.tup [eZ z.1,z.2]) l fun x hm=>by
    obtain⟨⟨⟩|s,u⟩:=x
    .exact absurd (kr _ hm) (by simp)
    .have v1:=xw nd hm;have v1:bj l (.inr s)=some u:=v1;show fK (F k) [some (.str s),some (.dct l)] h=.ok (.tup [.str s,u]) h;have up:=(hx _ hm).pure;have o1:=one u (hx _ hm);simp[EV,fK,ak _ pv,v1,ak _ up,o1]
   have pd:∀h,sQ [.lst (l.map fun z=>.tup [eZ z.1,z.2])] h=.ok (.ref h.length) (h++ [.dct l]):=fun h=>by show(match pS (l.map fun z=>PV.tup [eZ z.1,z.2])with|some l=>Res.ok (PV.ref h.length) (h++ [PO.dct (Xa l)])|none=>.bad)=_;rw[pR l kr];have:Xa l=l:=Fi l [] (by simpa using nd);dsimp only;rw[this]
   simp[EV,ar,de,ak _ pv,i1,i2,i3,(show∀h,lw (.dct l) h=.ok (l.map fun p=>eZ p.1) h from fun _=>rfl),cm,pd,adJ,lm,aT,BR _ (show bP l=true by rw[PV.pure]at pv;exact pv),eP _ pv]
theorem neT(h:Y3):Rc (.bl true) (.bl true) h=.ok (.bl false) h:=rfl
theorem neF(h:Y3):Rc (.bl false) (.bl false) h=.ok (.bl false) h:=rfl
theorem eqT(h:Y3):z_ (.bl true) (.bl true) h=.ok (.bl true) h:=rfl
theorem eqF(h:Y3):z_ (.bl false) (.bl false) h=.ok (.bl true) h:=rfl
def Cp{x:PV}(e:xs[i]? =some x)(hx:x.pure=true)(h:Y3):f9 (.lst xs) (.int (0+(i:Nat))) h=.ok x h:=by show(match PN xs (0+(i:Nat))with|some q=>Res.ok (aj h q) h|none=>.bad)=_;rw[eG (v:=x) ⋯ (by rw[show(0+((i:Nat):Int)).toNat=i by lia];exact e)];dsimp only;rw[ak h hx]
def IB{x:PV}(e:xs[i]? =some x)(hx:x.pure=true)(h:Y3):f9 (.tup xs) (.int (0+(i:Nat))) h=.ok x h:=by show(match PN xs (0+(i:Nat))with|some q=>Res.ok (aj h q) h|none=>.bad)=_;rw[eG (v:=x) ⋯ (by rw[show(0+((i:Nat):Int)).toNat=i by lia];exact e)];dsimp only;rw[ak h hx]
def FY(l:Y1)(h:Y3):AV [.lst (l.map fun _=>.bl true)] h=.ok (.bl true) h:=by
 have:∀l:Y1,iw (l.map fun _=>PV.bl true)=some (l.map fun _=>true):=fun l=>by
  induction l with
  |nil=>rfl
  |cons a r ih=>rw[adE,iw,ih];rfl
 show(match iw (l.map fun _=>PV.bl true)with|some bs=>Res.ok (PV.bl (bs.all id)) h|none=>.bad)=_;rw[this];show Res.ok (PV.bl ((l.map fun _=>true).all id)) h=_;rw[adX.mpr fun b hb=>by obtain⟨_,_,rfl⟩:=adT.mp hb;rfl]
def uk(k:Nat){d:Bool}(hx:∀x∈xs,UV d n x)(one:∀x∈xs,∀h,aX (F k .N_) [x,x] h=.ok (.bl true) h)(v:PV)(pv:v.pure=true)(ix:∀(i:Nat)(x:PV),xs[i]? =some x->x.pure=true->∀h,f9 v (.int (0+(i:Nat))) h=.ok x h)(h:Y3):cg bK (jm (F k)) (cU [0,1] [some v,some v]) ((List.range xs.length).map fun i:Nat=>PV.int (0+(i:Nat))) h=.ok ((List.range xs.length).map fun _=>.bl true) h:=by refine qa (te:=jm (F k)) (cp:=[some v,some v]) (h:=h) (fun i:Nat=>PV.int (0+(i:Nat))) (fun _=>.bl true) (List.range xs.length) fun i hi=>?_;rw[ad3]at hi;have e:xs[i]? =some xs[i]:=adx hi;have hm:xs[i]∈xs:=aeh hi;have q:=ix i _ e (hx _ hm).pure;have o:=one _ hm;simp[EV,jm,ak _ pv,q,o]
theorem As:∀(n:Nat){v:PV}(K:Nat),UV false n v->n+1<=K->F K .N_ [v,v]=.ok (.bl true):=by
 intro n
 induction n with
 |zero=>
  intro v K h hK;obtain⟨k,rfl⟩:∃k,K=k+1:=⟨K - 1,by lia⟩
  show ar (gx (F k)) 2 2 [v,v]=_
  cases h with
  |str _ l hl=>
   have e:∀h,z_ (.str l) (.str l) h=.ok (.bl true) h:=fun h=>by rw[jG l l h hl hl];simp
   simp[EV,ar,gx,(show∀h,jF [.str l,.tup [.ty "list",.ty "tuple"]] h=.ok (.bl false) h from fun _=>rfl),(show∀h,aw [.str l,.ty "dict"] h=.ok (.bl false) h from fun _=>rfl),(show∀h,aw [.str l,.ty "bool"] h=.ok (.bl false) h from fun _=>rfl),eqF,e,aT]
  |int _ i=>
   have e:∀h,z_ (.int i) (.int i) h=.ok (.bl true) h:=fun h=>by rw[bX i i h];simp
   simp[EV,ar,gx,(show∀h,jF [.int i,.tup [.ty "list",.ty "tuple"]] h=.ok (.bl false) h from fun _=>rfl),(show∀h,aw [.int i,.ty "dict"] h=.ok (.bl false) h from fun _=>rfl),(show∀h,aw [.int i,.ty "bool"] h=.ok (.bl false) h from fun _=>rfl),eqF,e,aT]
  |bl _ b=>
   have e:∀h,z_ (.bl b) (.bl b) h=.ok (.bl true) h:=fun h=>by cases b<;>rfl
   simp[EV,ar,gx,(show∀h,jF [.bl b,.tup [.ty "list",.ty "tuple"]] h=.ok (.bl false) h from fun _=>rfl),(show∀h,aw [.bl b,.ty "dict"] h=.ok (.bl false) h from fun _=>rfl),(show∀h,aw [.bl b,.ty "bool"] h=.ok (.bl true) h from fun _=>rfl),eqT,e,aT]
 |succ n ih=>
  intro v K h hK
  by_cases q:UV false n v
  .exact ih K q ⋯
  .obtain⟨k,rfl⟩:∃k,K=k+1:=⟨K - 1,by lia⟩
   have pv:=h.pure;have one:∀(x:PV),UV false n x->∀h,aX (F k .N_) [x,x] h=.ok (.bl true) h:=fun x hx h=>aL h (by simp only[aq,hx.pure];rfl) (ih k hx ⋯);show ar (gx (F k)) 2 2 [v,v]=_
   cases h with
   |str _ l hl=>exact absurd (.str n l hl) q
   |int _ i=>exact absurd (.int n i) q
   |bl _ b=>exact absurd (.bl n b) q
   |dct _ l hd=>cases hd
   |lst _ xs hx l=>
    have be:QW 4611686018427387904 (xs.length:Int)=true:=bD.mpr ⋯;have tn:((xs.length:Int)).toNat=xs.length:=by lia
    have lm:xs.length<16777216:=by lia
    have cm:=uk k hx (fun x hm=>one x (hx x hm)) (.lst xs) pv fun i x e hp=>Cp e hp;have el:∀h,z_ (.int xs.length) (.int xs.length) h=.ok (.bl true) h:=fun h=>by rw[bX];simp
    simp[EV,ar,gx,ak _ pv,(show∀h,jF [.lst xs,.tup [.ty "list",.ty "tuple"]] h=.ok (.bl true) h from fun _=>rfl),(show∀h,aw [.lst xs,.ty "list"] h=.ok (.bl true) h from fun _=>rfl),(show∀h,aw [.lst xs,.ty "tuple"] h=.ok (.bl false) h from fun _=>rfl),neT,neF,el,be,tn,cm,FY,adJ,adY,lm,aT]
   |tup _ xs hx l=>
    have be:QW 4611686018427387904 (xs.length:Int)=true:=bD.mpr ⋯;have tn:((xs.length:Int)).toNat=xs.length:=by lia
    have lm:xs.length<16777216:=by lia
    have cm:=uk k hx (fun x hm=>one x (hx x hm)) (.tup xs) pv fun i x e hp=>IB e hp;have el:∀h,z_ (.int xs.length) (.int xs.length) h=.ok (.bl true) h:=fun h=>by rw[bX];simp
    simp[EV,ar,gx,ak _ pv,(show∀h,jF [.tup xs,.tup [.ty "list",.ty "tuple"]] h=.ok (.bl true) h from fun _=>rfl),(show∀h,aw [.tup xs,.ty "list"] h=.ok (.bl false) h from fun _=>rfl),(show∀h,aw [.tup xs,.ty "tuple"] h=.ok (.bl true) h from fun _=>rfl),neT,neF,el,be,tn,cm,FY,adJ,adY,lm,aT]
def V1(d e:Nat):GR->Prop
 |.ok vs _ _=>(∀x∈vs,UV false d (N5 x))/\vs.length<=e
 |.no .. =>True
def sj{sc:List (PK×PV)}{m d e:Nat}{ps:Ya}(h:∀v u,bj sc (.inr a)=some v->Pg v f=some u->V1 d e (k u)):V1 d e (eS sc a f m ps k):=by
 unfold eS
 split
 .trivial
 .cases q:bj sc (.inr a)with
  |none=>trivial
  |some v=>
   simp only[aeG]
   split
   .rename_i u hu;exact h v u q hu
   .trivial
def pB{d e:Nat}{vs:List Fl}(h:∀x∈vs,UV false d (N5 x))(l:vs.length<=1000000):UV false (d+1) (.lst (aW vs)):=by rw[mz];exact .lst d _ (fun x hx=>by obtain⟨y,hy,rfl⟩:=adT.mp hx;exact h y hy) (by rw[adJ];exact l)
theorem xJ{f:PV->Nat->Ya->GR}{d e:Nat}(he:e<=1000000)(b:Y1):∀(ts:Y2),(∀t∈ts,∀m ps,V1 d e (f t m ps))->∀(i m:Nat)(ps:Ya),V1 (d+1) ts.length (bN f b i ts m ps)
 |[],_,i,m,ps=>by rw[bN];exact⟨fun x hx=>(nomatch hx),adA _⟩
 |v::r,h,i,m,ps=>by
  rw[bN]
  split
  .trivial
  .have q:=h v (by simp) (m+1) (if i=0 then ps else ps++ [b])
   cases e1:f v (m+1) (if i=0 then ps else ps++ [b])with
   |no w m1 p1=>trivial
   |ok vs m1 p1=>
    rw[e1]at q;have t:=xJ he b r (fun t ht=>h t (by simp[ht])) (i+1) m1 p1;dsimp only
    cases e2:bN f b (i+1) r m1 p1 with
    |no w m2 p2=>trivial
    |ok ws m2 p2=>
     rw[e2]at t;refine⟨fun x hx=>?_,by rw[adu,adu];have:=t.2;lia⟩;rcases adD.mp hx with rfl|z
     .rw[N5];exact pB (e:=e) q.1 (by have:=q.2;lia)
     .exact t.1 x z
mutual
theorem Ik:∀(n:Nd){B:Ya}{nn:Nat}{sc:List (PK×PV)}(m:Nat)(ps:Ya),Sd B n->(∀x∈sc,VV nn x.2)->V1 (2 * dN n) 1 (goN sc n m ps)
 |.text s,B,nn,sc,m,ps,_,_=>by rw[goN];exact⟨fun x hx=>(nomatch hx),by simp⟩
 |.place a f w,B,nn,sc,m,ps,wl,hs=>by
  rw[goN];refine sj fun v u hv hu=>?_
  split
  .rename_i s c;obtain⟨m',_,vu⟩:=fV f (hs _ (dU hv)) hu;refine⟨fun x hx=>?_,adA _⟩;rw[adw]at hx;subst hx;rw[N5]
   cases vu with
   |str _ l h hc=>exact .str _ l fun c h=>kQ c (hc c h)
   |int _ i=>exact .int _ i
   |bl _ b=>exact .bl _ b
   |lst _ xs h l=>rcases qG c with⟨_,e⟩|⟨_,e⟩<;>cases e
   |dct _ l h _ _ _=>rcases qG c with⟨_,e⟩|⟨_,e⟩<;>cases e
  .trivial
 |.loop x a f ns b,B,nn,sc,m,ps,wl,hs=>by
  rw[Sd]at wl;rw[goN,dN];refine sj fun v u hv hu=>?_;obtain⟨m',Vd,vu⟩:=fV f (hs _ (dU hv)) hu
  split
  .rename_i ts
   have ht:ts.length<=1000/\∀t∈ts,VV nn t:=by
    cases vu with
    |lst n xs h l=>exact⟨l,fun t ht=>(h t ht).mono ⋯⟩
   have t:=xJ (f:=fun t m ps=>aE (aK sc (.inr x) t) ns m ps) (d:=2 * J7 ns) (e:=ns.length) ⋯ b ts (fun t ht1 m ps=>mx ns m ps wl.2.2.2 fun z hz=>by
    rcases mh hz with q|q
    .exact hs z q
    .rw[q];exact ht.2 t ht1) 0 (m+1) ps
   split<;>rename_i z<;>rw[z]at t
   .refine⟨fun y hy=>?_,adA _⟩;rw[adw]at hy;subst hy;rw[N5];exact(pB (e:=0) t.1 (by have:=t.2;lia)).mono ⋯
   .trivial
  .trivial
 |.choice a f y n,B,nn,sc,m,ps,wl,hs=>by
  rw[Sd]at wl;rw[goN,dN];refine sj fun v u hv hu=>?_;have m1:=ael (J7 y) (J7 n);have m2:=aef (J7 y) (J7 n)
  have side:∀(b:Bool)(l:List Nd),l.length<=1000->J7 l<=max (J7 y) (J7 n)->V1 (2 * J7 l) l.length (aE sc l (m+1) ps)->V1 (2 * (max (J7 y) (J7 n)+1)) 1 (match aE sc l (m+1) ps with|.ok vs m' p'=>GR.ok [.tup b vs] m' p'|.no w m' p'=>.no w m' p'):=fun b l hl hd t=>by
   cases z:aE sc l (m+1) ps with
   |no w m1 p1=>trivial
   |ok vs m1 p1=>
    rw[z]at t;refine⟨fun y hy=>?_,adA _⟩;rw[adw]at hy;subst hy;rw[N5];have q:=pB (e:=0) t.1 (by have:=t.2;lia)
    have q2:UV false (2 * J7 l+1+1) (.tup [.bl b,.lst (aW vs)]):=.tup _ _ (fun x hx=>by
     rcases adD.mp hx with rfl|hx
     .exact .bl _ b
     .rw[adw]at hx;subst hx;exact q) (by simp)
    exact q2.mono ⋯
  split
  .exact side true y wl.2.2.1 m1 (mx y (m+1) ps wl.2.2.2.2.1 hs)
  .exact side false n wl.2.2.2.1 m2 (mx n (m+1) ps wl.2.2.2.2.2 hs)
  .trivial
theorem mx:∀(l:List Nd){B:Ya}{nn:Nat}{sc:List (PK×PV)}(m:Nat)(ps:Ya),Td B l->(∀x∈sc,VV nn x.2)->V1 (2 * J7 l) l.length (aE sc l m ps)
 |[],B,nn,sc,m,ps,_,_=>by rw[aE];exact⟨fun x hx=>(nomatch hx),adA _⟩
 |n::r,B,nn,sc,m,ps,wl,hs=>by
  rw[Td]at wl;rw[aE,J7];have m1:=ael (dN n) (J7 r);have m2:=aef (dN n) (J7 r);have a:=Ik n m ps wl.1 hs
  split
  .rename_i v m1' p1 z;rw[z]at a;have t:=mx r m1' p1 wl.2 hs
   split<;>rename_i y<;>rw[y]at t
   .refine⟨fun x hx=>?_,by rw[adt,adu];have:=a.2;have:=t.2;lia⟩;rcases adS.mp hx with q|q
    .exact(a.1 x q).mono ⋯
    .exact(t.1 x q).mono ⋯
   .trivial
  .trivial
end
section
variable(h:Y3)
mutual
theorem EM:∀(x:Fl){n lo hi d:Nat}{p:PV},Dp (fun i=>h[i]?) lo hi x p->UV false n (N5 x)->n+1<=d->aJ h d p=some (N5 x)
 |.sc v,n,lo,hi,d,p,D,u,hd=>by
  obtain⟨e,rfl⟩:∃e,d=e+1:=⟨d - 1,by lia⟩
  rw[Dp]at D;obtain⟨rfl,_,q⟩:=D;rw[N5];rcases q with⟨l,rfl⟩|⟨i,rfl⟩<;>rfl
 |.lst l,n,lo,hi,d,p,D,u,hd=>by
  rw[Dp]at D;obtain⟨i,ys,rfl,_,_,c,D⟩:=D;rw[N5]at u
  cases u with
  |lst n xs hx _=>
   obtain⟨e,rfl⟩:∃e,d=e+1:=⟨d - 1,by lia⟩
   have:=jX l D hx (by lia:n+1<=e);have c:h[i]? =some (.lst ys):=c;rw[aJ];simp only[c,this,N5];rfl
 |.tup b l,n,lo,hi,d,p,D,u,hd=>by
  rw[Dp]at D;obtain⟨i,ys,rfl,_,_,c,D⟩:=D;rw[N5]at u
  cases u with
  |tup n xs hx _=>
   have u2:=hx (.lst (aW l)) (by simp)
   cases u2 with
   |lst n xs hx2 _=>
    obtain⟨e,rfl⟩:∃e,d=e+2:=⟨d - 2,by lia⟩
    have:=jX l D hx2 (by lia:n+1<=e);have c:h[i]? =some (.lst ys):=c
    have q:aJ h (e+1) (.ref i)=some (.lst (aW l)):=by rw[aJ];simp only[c,this];rfl
    have qb:aJ h (e+1) (.bl b)=some (.bl b):=rfl;rw[aJ,N5];simp only[cQ,q,qb];rfl
theorem jX:∀(xs:List Fl){n lo hi d:Nat}{ys:Y2},M5 (fun i=>h[i]?) lo hi xs ys->(∀x∈aW xs,UV false n x)->n+1<=d->cQ (aJ h d) ys=some (aW xs)
 |[],n,lo,hi,d,ys,D,_,_=>by rw[M5]at D;rw[D.1,aW];rfl
 |x::xs,n,lo,hi,d,ys,D,u,hd=>by rw[M5]at D;obtain⟨y,r,mid,rfl,D1,D2⟩:=D;rw[aW]at u |-;have a:=EM x D1 (u _ (by simp)) hd;have b:=jX xs D2 (fun z hz=>u z (by simp[hz])) hd;simp only[cQ,a,b]
end
theorem kD(d:Nat):∀l:Ya,cQ (aJ h (d+1)) (l.map PV.str)=some (l.map PV.str)
 |[]=>rfl
 |a::r=>by rw[adE,cQ,kD d r];rfl
mutual
theorem EL:∀(n:Nd)(d:Nat),2 * dN n+3<=d->aJ h d (nd n)=some (nd n)
 |.text s,d,hd=>by
  obtain⟨e,rfl⟩:∃e,d=e+2:=⟨d - 2,by lia⟩
  rw[nd];rfl
 |.place a f w,d,hd=>by
  obtain⟨e,rfl⟩:∃e,d=e+3:=⟨d - 3,by lia⟩
  have q:aJ h (e+2) (q_ a f)=some (q_ a f):=by have:=kD h e (a::f);unfold q_;rw[aJ];rw[adE]at this;rw[this];rfl
  have s:∀l,aJ h (e+2) (.str l)=some (.str l):=fun _=>rfl;rw[nd,aJ];simp only[cQ,q,s];rfl
 |.loop x a f ns b,d,hd=>by
  rw[dN]at hd;obtain⟨e,rfl⟩:∃e,d=e+3:=⟨d - 3,by lia⟩
  have q:aJ h (e+2) (q_ a f)=some (q_ a f):=by have:=kD h e (a::f);unfold q_;rw[aJ];rw[adE]at this;rw[this];rfl
  have s:∀l,aJ h (e+2) (.str l)=some (.str l):=fun _=>rfl;have t:aJ h (e+2) (.tup (b_ ns))=some (.tup (b_ ns)):=by rw[aJ,jW ns (e+1) ⋯];rfl
  rw[nd,aJ];simp only[cQ,q,s,t];rfl
 |.choice a f y n,d,hd=>by
  rw[dN]at hd;have m1:=ael (J7 y) (J7 n);have m2:=aef (J7 y) (J7 n);obtain⟨e,rfl⟩:∃e,d=e+3:=⟨d - 3,by lia⟩
  have q:aJ h (e+2) (q_ a f)=some (q_ a f):=by have:=kD h e (a::f);unfold q_;rw[aJ];rw[adE]at this;rw[this];rfl
  have s:∀l,aJ h (e+2) (.str l)=some (.str l):=fun _=>rfl;have t:aJ h (e+2) (.tup (b_ y))=some (.tup (b_ y)):=by rw[aJ,jW y (e+1) ⋯];rfl
  have u:aJ h (e+2) (.tup (b_ n))=some (.tup (b_ n)):=by rw[aJ,jW n (e+1) ⋯];rfl
  rw[nd,aJ];simp only[cQ,q,s,t,u];rfl
theorem jW:∀(l:List Nd)(d:Nat),2 * J7 l+3<=d->cQ (aJ h d) (b_ l)=some (b_ l)
 |[],d,_=>by rw[b_];rfl
 |n::r,d,hd=>by rw[J7]at hd;have m1:=ael (dN n) (J7 r);have m2:=aef (dN n) (J7 r);rw[b_,cQ,EL n d ⋯,jW r d ⋯]
end
end
def Sp(h h':Y3)(lo hi:Nat):Prop:=h'.length=h.length/\∀j,(j<lo\/hi<=j)->h'[j]? =h[j]?
def Sp.refl(h:Y3)(lo hi:Nat):Sp h h lo hi:=⟨rfl,fun _ _=>rfl⟩
theorem Sp.trans{a b c:Y3}{lo hi l2 h2 L H:Nat}(x:Sp a b lo hi)(y:Sp b c l2 h2)(e1:L<=lo)(e2:L<=l2)(e3:hi<=H)(e4:h2<=H):Sp a c L H:=⟨y.1.trans x.1,fun j hj=>(y.2 j ⋯).trans (x.2 j ⋯)⟩
def Kb(e:h[j]? =some (.lst ys)):aw [.ref j,.ty "list"] h=.ok (.bl true) h:=by unfold aw;simp[pC,R_,YK,Tt,S9,e,qm,nV]
def FD(xs:Y2)(h:Y3):aw [.tup xs,.ty "list"] h=.ok (.bl false) h/\aw [.tup xs,.ty "tuple"] h=.ok (.bl true) h:=⟨rfl,rfl⟩
def FE(s:Y1)(h:Y3):aw [.str s,.ty "list"] h=.ok (.bl false) h/\aw [.str s,.ty "tuple"] h=.ok (.bl false) h:=⟨rfl,rfl⟩
def FF(s:Int)(h:Y3):aw [.int s,.ty "list"] h=.ok (.bl false) h/\aw [.int s,.ty "tuple"] h=.ok (.bl false) h:=⟨rfl,rfl⟩
theorem M5.len{c:Nat->Option PO}:∀{xs:List Fl}{lo hi:Nat}{ys:Y2},M5 c lo hi xs ys->ys.length=xs.length
 |[],lo,hi,ys,h=>by rw[M5]at h;rw[h.1];rfl
 |x::xs,lo,hi,ys,h=>by rw[M5]at h;obtain⟨y,r,mid,rfl,a,b⟩:=h;rw[adu,adu,M5.len b]
def sF(k:Nat){hi:Nat}{o:Option PV}(c:h[i]? =some (.lst ys))(ly:ys.length<=1000000)(lo:i+1<=hi)
  (lp:gJ i ys (z7 1) (bW (F k) (X_ k)) ys [some (.ref i),none] h=.nx [some (.ref i),o] h1) (s:Sp h h1 (i+1) hi):∃h',X_ (k+1) .O2 [.ref i] h=.ok .non h'/\Sp h h' i hi:=by
 have c1:h1[i]? =some (.lst ys):=by rw[s.2 i ⋯];exact c
 have d:=oB c;have d1:=oB c1;have il:=uP c1;have ap:=vC c1 (.str [109,111,114,101]) ⋯;refine⟨h1.set i (.lst (ys++ [.str [109,111,114,101]])),?_,?_,?_⟩
 .have ru:X_ (k+1) .O2 [.ref i] h=bo (kU (F k) (X_ k)) 1 2 [.ref i] h:=rfl
  have sl:∀B,um (af 0) (z7 1) B [some (.ref i),none] h=gJ i ys (z7 1) B ys [some (.ref i),none] h:=fun B=>by
   have e:af 0 [some (.ref i),none] h=.ok (.ref i) h:=by show Res.ok (aj h (.ref i)) h=_;rw[d]
   unfold um;rw[e];show(match h[i]? with|some (.lst xs)=>gJ i xs (z7 1) B xs _ h|_=>.bad)=_;rw[c]
  rw[ru];simp[EV,bo,kU,sl,lp,d1,il,ap]
 .rw[List.length_set];exact s.1
 .intro j hj;rw[aeQ ⋯];exact s.2 j ⋯
def Eb{g:Gx}{r:Y2}{ρ1 ρ2:Ev}{h2:Y3}(c:h[j]? =some (.lst xs))(hg:g p ρ=some ρ1)(hb:b ρ1 h=.nx ρ2 h2):gJ j xs g b (p::r) ρ h=gJ j xs g b r ρ2 h2:=by rw[gJ,if_pos c,hg];simp only[hb]
def Ea{g:Gx}(c:h[j]? =some (.lst xs)):gJ j xs g b [] ρ h=.nx ρ h:=by rw[gJ,if_pos c]
mutual
theorem Ak:∀(x:Fl){n lo hi k:Nat}{p:PV}{h:Y3}(r:PV),Dp (fun i=>h[i]?) lo hi x p->UV false n (N5 x)->n+1<=k->∃h',bW (F k) (X_ k) [some r,some p] h=.nx [some r,some p] h'/\Sp h h' lo hi
 |.sc v,n,lo,hi,k,p,h,r,D,u,hk=>by
  rw[Dp]at D;obtain⟨rfl,_,q⟩:=D;refine⟨h,?_,.refl _ _ _⟩;rcases q with⟨l,rfl⟩|⟨i,rfl⟩
  .simp[EV,bW,(FE l _).1,(FE l _).2]
  .simp[EV,bW,(FF i _).1,(FF i _).2]
 |.lst l,n,lo,hi,k,p,h,r,D,u,hk=>by
  rw[Dp]at D;obtain⟨i,ys,rfl,a,b,c,D⟩:=D;have c:h[i]? =some (.lst ys):=c;rw[N5]at u
  cases u with
  |lst n xs hx hl=>
   obtain⟨e,rfl⟩:∃e,k=e+1:=⟨k - 1,by lia⟩
   obtain⟨h1,o,q,s⟩:=ks l i ys none c D hx (by lia:n+1<=e) (adA _);obtain⟨h2,q2,s2⟩:=sF e c (by rw[D.len];rw[mA]at hl;exact hl) ⋯ q s;refine⟨h2,?_,?_⟩
   .have d:=oB c;have i1:=Kb c;simp[EV,bW,d,i1,q2]
   .exact⟨s2.1,fun j hj=>s2.2 j ⋯⟩
 |.tup b l,n,lo,hi,k,p,h,r,D,u,hk=>by
  rw[Dp]at D;obtain⟨i,ys,rfl,a,b',c,D⟩:=D;have c:h[i]? =some (.lst ys):=c;rw[N5]at u
  cases u with
  |tup n xs hx _=>
   have u2:=hx (.lst (aW l)) (by simp)
   cases u2 with
   |lst n xs hx2 hl=>
    obtain⟨e,rfl⟩:∃e,k=e+1:=⟨k - 1,by lia⟩
    obtain⟨h1,o,q,s⟩:=ks l i ys none c D hx2 (by lia:n+1<=e) (adA _);obtain⟨h2,q2,s2⟩:=sF e c (by rw[D.len];rw[mA]at hl;exact hl) ⋯ q s;refine⟨h2,?_,?_⟩
    .have d:=oB c;have ix:f9 (.tup [.bl b,.ref i]) (.int 1) h=.ok (.ref i) h:=by show Res.ok (aj h (.ref i)) h=_;rw[d]
     have dt:aj h (.tup [.bl b,.ref i])=.tup [.bl b,.ref i]:=rfl;simp[EV,bW,dt,(FD [.bl b,.ref i] h).1,(FD [.bl b,.ref i] h).2,ix,q2]
    .exact⟨s2.1,fun j hj=>s2.2 j ⋯⟩
theorem ks:∀(xs:List Fl){n lo hi k:Nat}{rs:Y2}{h:Y3}(i:Nat)(ys:Y2)(o:Option PV),h[i]? =some (.lst ys)->M5 (fun j=>h[j]?) lo hi xs rs->(∀x∈aW xs,UV false n x)->n+1<=k->i+1<=lo->∃h' o',gJ i ys (z7 1) (bW (F k) (X_ k)) rs [some (.ref i),o] h=.nx [some (.ref i),o'] h'/\Sp h h' lo hi
 |[],n,lo,hi,k,rs,h,i,ys,o,c,D,u,hk,YD=>by rw[M5]at D;obtain⟨rfl,_⟩:=D;exact⟨h,o,Ea c,.refl _ _ _⟩
 |x::xs,n,lo,hi,k,rs,h,i,ys,o,c,D,u,hk,YD=>by
  rw[M5]at D;obtain⟨y,r,mid,rfl,D1,D2⟩:=D;rw[aW]at u;have l1:=D1.le;have l2:=D2.le;obtain⟨h1,q1,s1⟩:=Ak x (.ref i) D1 (u _ (by simp)) hk;have c1:h1[i]? =some (.lst ys):=by rw[s1.2 i ⋯];exact c
  obtain⟨h2,o',q2,s2⟩:=ks xs i ys (some y) c1 (D2.on fun j j1 j2=>s1.2 j ⋯) (fun z hz=>u z (by simp[hz])) hk ⋯;refine⟨h2,o',?_,s1.trans s2 (adA _) l1 l2 (adA _)⟩;rw[<- q2];exact Eb c rfl q1
end
def yS(l:List Fl){hi k:Nat}(c:h[i]? =some (.lst ys))(D:M5 (fun j=>h[j]?) (i+1) hi l ys)(u:∀x∈aW l,UV false n x)(hl:l.length<=1000000)(hk:n+2<=k):∃h',X_ k .O2 [.ref i] h=.ok .non h'/\Sp h h' i hi:=by
 obtain⟨e,rfl⟩:∃e,k=e+1:=⟨k - 1,by lia⟩
 have l1:=D.le;obtain⟨h1,o,q,s⟩:=ks l i ys none c D u (by lia:n+1<=e) (adA _);exact sF e c (by rw[D.len];exact hl) l1 q s
theorem rh(k:Nat)(D:List (PK×PV)){nn:Nat}(hD:∀x∈D,VV nn x.2)(nd:(D.map (·.1)).Nodup)(lD:D.length<=900):∀(r done:List (PK×PV))(o:Option PV),D=done++r->∃o',bf (z7 2) (dQ (F k)) (r.map fun p=>eZ p.1) [some (.dct D),some (.ref 0),o] [.dct (Qx done)]=.nx [some (.dct D),some (.ref 0),o'] [.dct (Qx D)]
 |[],done,o,e=>⟨o,by rw[adU]at e;rw[e];rfl⟩
 |(q,v)::r,done,o,e=>by
  have hm:(q,v)∈D:=by rw[e];simp
  have pv:(PV.dct D).pure=true:=cw hD;have vv:=(hD _ hm).pure;have v1:bj D q=some v:=xw nd hm;have ko:iM (eZ q)=some q:=by cases q<;>rfl
  have ix:∀h,f9 (.dct D) (eZ q) h=.ok v h:=fun h=>by
   cases q with
   |inl i=>show(match bj D (.inl i)with|some x=>Res.ok (aj h x) h|none=>.bad)=_;rw[v1];dsimp only;rw[ak h vv]
   |inr s=>show(match bj D (.inr s)with|some x=>Res.ok (aj h x) h|none=>.bad)=_;rw[v1];dsimp only;rw[ak h vv]
  have dk:∀h,aj h (eZ q)=eZ q:=fun h=>by cases q<;>rfl
  have st:∀ ρ,eO (.tup [v]) (.ref 0) (eZ q) ρ [.dct (Qx done)]=.nx ρ [.dct (Qx (done++ [(q,v)]))]:=fun ρ=>by
   unfold eO;rw[show eM [PO.dct (Qx done)] (.ref 0)=some (0,Qx done)from rfl,ko];dsimp only;have ln:(Qx done).length<=900:=by unfold Qx;rw[adJ];rw[e,adt]at lD;lia
   rw[if_pos (by rw[szl];lia),xR];show SR.nx ρ [PO.dct (Qx (aK done q v))]=_
   have:aK done q v=done++ [(q,v)]:=by unfold aK;rw[if_neg];intro z;obtain⟨y,hy,e2⟩:=afD.mp z;have e2:=of_decide_eq_true e2;rw[e,adV,aeO]at nd;exact nd.2.2 y.1 (afR hy) q (by simp) e2
   rw[this]
  obtain⟨o',l⟩:=rh k D hD nd lD r (done++ [(q,v)]) (some (eZ q)) (by rw[e];simp);refine⟨o',?_⟩;rw[adE,<- l];refine cR rfl ?_;simp[EV,dQ,ak _ pv,ix,dk,st]
def xL(k:Nat){D:List (PK×PV)}(hD:∀x∈D,VV nn x.2)(nd:(D.map (·.1)).Nodup)(lD:D.length<=900):F (k+1) .G7 [.dct D]=.ok (.dct (Qx D)):=by obtain⟨o',l⟩:=rh k D hD nd lD D [] none rfl;have pv:(PV.dct D).pure=true:=cw hD;have pm:=dZ hD;have l:bf (z7 2) (dQ (F k)) (D.map fun p=>eZ p.1) [some (.dct D),some (.ref 0),none] [.dct []]=.nx [some (.dct D),some (.ref 0),o'] [.dct (Qx D)]:=l;show ar (gH (F k)) 1 3 [.dct D]=_;simp[EV,ar,gH,ak _ pv,(show∀h,lw (.dct D) h=.ok (D.map fun p=>eZ p.1) h from fun _=>rfl),l,BR _ (show bP (Qx D)=true by rw[PV.pure]at pm;exact pm)];exact er _ pm
def xO(b:Y3)(k:Nat):Wx 600 (X_ (k+1) .j_) [] b=.ok (.ref b.length) (HP b 0 [] []):=by
 have o0:je 600 (b++ [.obj 600 [],.lst []]) (.ref b.length)=some (b.length,[]):=by unfold je;simp
 have o1:je 600 (b++ [.obj 600 [.ref (b.length+1)],.lst []]) (.ref b.length)=some (b.length,[.ref (b.length+1)]):=by unfold je;simp
 have s0:∀ ρ,qS 600 0 (.ref (b.length+1)) (.ref b.length) ρ (b++ [.obj 600 [],.lst []])=.nx ρ (b++ [.obj 600 [.ref (b.length+1)],.lst []]):=fun ρ=>by unfold qS;rw[o0];show SR.nx ρ (List.set _ _ _)=_;rw[adW _ _ ⋯,aee];rfl
 have s1:∀ ρ,qS 600 1 (.int 0) (.ref b.length) ρ (b++ [.obj 600 [.ref (b.length+1)],.lst []])=.nx ρ (HP b 0 [] []):=fun ρ=>by unfold qS;rw[o1];show SR.nx ρ (List.set _ _ _)=_;rw[adW _ _ ⋯,aee];rfl
 have d0:aj (b++ [.obj 600 [],.lst []]) (.ref b.length)=.ref b.length:=by unfold aj;simp
 have d1:aj (b++ [.obj 600 [.ref (b.length+1)],.lst []]) (.ref b.length)=.ref b.length:=by unfold aj;simp
 have ap:b++ [.obj 600 []]++[.lst []]=b++ [.obj 600 [],.lst []]:=by simp
 have ln:(b++ [PO.obj 600 []]).length=b.length+1:=by simp
 have ru:X_ (k+1) .j_ [.ref b.length] (b++ [.obj 600 []])=.ok .non (HP b 0 [] []):=by show vU (gU (F k)) 1 1 [.ref b.length] (b++ [.obj 600 []])=_;simp[EV,vU,gU,ap,ln,d0,d1,s0,s1]
 unfold Wx;rw[ru]
def Ka(b T:Y3)(n:Int)(ps:Ya)(hz:ps.flatten.length<=16000000):eK (.str []) [.ref (b.length+1)] (HP b n ps T)=.ok (.str ps.flatten) (HP b n ps T):=by
 rw[<- gR];refine iK ?_ ?_
 .unfold Tt S9;dsimp only;rw[En]
 .rw[pE,adQ,ahw];lia
theorem Bk(f:Nat->Bool)(i:Nat)(g:Sx)(ρ:Ev)(C:Nat)(v:PV)(h:Y3):Zk f i g ρ (.exc (.TY C v) h)=if f C=true then(match g (ρ.set i (some (.TY C v))) h with|.rt v h2=>.rt v h2|_=>.bad)else .bad:=rfl
abbrev vJ:Y1:=[119,114,105,116,116,101,110]
abbrev oj:Y1:=[114,101,102,117,115,101,100]
abbrev hZ:Y1:=[102,105,108,108,101,100]
def Mj(k:Nat)(b T:Y3)(n:Int)(ps:Ya)(hz:ps.flatten.length<=16000000):X_ (k+1) .j7 [.ref b.length] (HP b n ps T)=.ok (.tup [.str vJ,.str ps.flatten]) (HP b n ps T):=by show bo (dM (F k)) 1 1 [.ref b.length] (HP b n ps T)=_;simp[EV,bo,dM,Te,BZ,Ka b T n ps hz]
def Ml(k:Nat)(b T:Y3)(n:Int)(ps:Ya)(hz:ps.flatten.length<=16000000)(w:Y1):X_ (k+1) .i_ [.ref b.length,.str w] (HP b n ps T)=.ok (.tup [.str oj,.str w,.str ps.flatten]) (HP b n ps T):=by show bo (dO (F k)) 2 2 [.ref b.length,.str w] (HP b n ps T)=_;simp[EV,bo,dO,Te,BZ,Ka b T n ps hz]
def yE(k:Nat)(sc:List (PK×PV))(l:List Nd)(b:Y3):GR->Prop
 |.ok vs m' p'=>∃xs U,X_ k .filled [.tup (b_ l),.dct sc] b=.ok (.tup [.str hZ,.ref (rq b [])]) (HQ b m' p' [] xs U)/\M5 (fun i=>(HQ b m' p' [] xs U)[i]?) (rq b []+1) (rq b []+1+U.length) vs xs
 |.no w _ p'=>∃(n':Int)(T':Y3),X_ k .filled [.tup (b_ l),.dct sc] b=.ok (.tup [.str oj,.str w]) (HP b n' p' T')
theorem rM(k:Nat){sc:List (PK×PV)}(hs:∀x∈sc,VV nn x.2)(nd:(sc.map (·.1)).Nodup)(lD:sc.length<=900)(l:List Nd)(ok:gI (k+1) sc l)(hz:(aE sc l 0 []).ps.length<=16000000)(b:Y3):yE (k+2) sc l b (aE sc l 0 []):=by
 have R:=ok b 0 [] [] ⋯ hz;have re:∀h,aX (F (k+1) .G7) [.dct sc] h=.ok (.dct (Qx sc)) h:=fun h=>aL h (by simp only[aq,cw hs];rfl) (xL k hs nd lD);have np:(PV.tup (b_ l)).pure=true:=by rw[PV.pure];exact bB l
 have sp:=cw hs;have nw:=xO b k;have ru:X_ (k+2) .filled [.tup (b_ l),.dct sc] b=bo (lR (F (k+1)) (X_ (k+1))) 2 4 [.tup (b_ l),.dct sc] b:=rfl;have ca:fj 500=true:=rfl;have Za:kx 500=true:=rfl
 cases g:aE sc l 0 []with
 |no w m1 p1=>rw[g]at R;obtain⟨n',T',R⟩:=R;have R:X_ (k+1) .u9 [.tup (b_ l),.tup [.dct (Qx sc),.non],.ref b.length] (HP b 0 [] [])=.exc (xf w) (HP b n' p1 T'):=R;refine⟨n',T',?_⟩;rw[ru];simp[EV,bo,lR,ak _ np,ak _ sp,re,nw,R,xf,Bk,ca,Za]
 |ok vs m1 p1=>rw[g]at R;obtain⟨xs,U,R,_,D⟩:=R;have R:X_ (k+1) .u9 [.tup (b_ l),.tup [.dct (Qx sc),.non],.ref b.length] (HP b 0 [] [])=.ok (.ref (rq b [])) (HQ b m1 p1 [] xs U):=R;have d:aj (HQ b m1 p1 [] xs U) (.ref (rq b []))=.ref (rq b []):=nG b [] U m1 p1 xs;refine⟨xs,U,?_,D⟩;rw[ru];simp[EV,bo,lR,ak _ np,ak _ sp,re,nw,R,Bj,d]
noncomputable def cF:GR->PV
 |.ok _ _ p'=>.tup [.str vJ,.str p'.flatten]
 |.no w _ p'=>.tup [.str oj,.str w,.str p'.flatten]
theorem yi(k:Nat){sc:List (PK×PV)}(hs:∀x∈sc,VV nn x.2)(nd:(sc.map (·.1)).Nodup)(lD:sc.length<=900)(l:List Nd)(ok:gI (k+1) sc l)(hz:(aE sc l 0 []).ps.length<=16000000)(hf:(aE sc l 0 []).ps.flatten.length<=16000000):F (k+2) .v5 [.tup (b_ l),.dct sc]=.ok (cF (aE sc l 0 [])):=by
 have R:=ok [] 0 [] [] ⋯ hz;have re:∀h,aX (F (k+1) .G7) [.dct sc] h=.ok (.dct (Qx sc)) h:=fun h=>aL h (by simp only[aq,cw hs];rfl) (xL k hs nd lD);have np:(PV.tup (b_ l)).pure=true:=by rw[PV.pure];exact bB l
 have sp:=cw hs;have nw:=xO [] k;have ca:fj 500=true:=rfl;have Za:kx 500=true:=rfl;show ar (fM (F (k+1)) (X_ (k+1))) 2 4 [.tup (b_ l),.dct sc]=_
 cases g:aE sc l 0 []with
 |no w m1 p1=>rw[g]at R hf;obtain⟨n',T',R⟩:=R;have R:X_ (k+1) .u9 [.tup (b_ l),.tup [.dct (Qx sc),.non],.ref 0] (HP [] 0 [] [])=.exc (xf w) (HP [] n' p1 T'):=R;have oc:X_ (k+1) .i_ [.ref 0,.str w] (HP [] n' p1 T')=_:=Ml k [] T' n' p1 hf w;have d1:aj (HP [] n' p1 T') (.ref 0)=.ref 0:=rfl;have d2:aj (HP [] 0 [] []) (.ref 0)=.ref 0:=rfl;have oo:(je 600 (HP [] n' p1 T') (.ref 0)).isSome=true:=rfl;simp[EV,ar,fM,ak _ np,ak _ sp,re,nw,adQ,d1,d2,R,xf,Bk,ca,Za,oo,oc,cF];rfl
 |ok vs m1 p1=>rw[g]at R hf;obtain⟨xs,U,R,_,D⟩:=R;have R:X_ (k+1) .u9 [.tup (b_ l),.tup [.dct (Qx sc),.non],.ref 0] (HP [] 0 [] [])=.ok (.ref (rq [] [])) (HP [] m1 p1 (.lst xs::U)):=R;have oc:X_ (k+1) .j7 [.ref 0] (HP [] m1 p1 (.lst xs::U))=_:=Mj k [] (.lst xs::U) m1 p1 hf;have d1:aj (HP [] m1 p1 (.lst xs::U)) (.ref 0)=.ref 0:=rfl;have d2:aj (HP [] 0 [] []) (.ref 0)=.ref 0:=rfl;have oo:(je 600 (HP [] m1 p1 (.lst xs::U)) (.ref 0)).isSome=true:=rfl;simp[EV,ar,fM,ak _ np,ak _ sp,re,nw,adQ,d1,d2,R,Bj,oo,oc,cF];rfl
abbrev Rz(s:Y1):Prop:=∀c∈s,c<1114112
mutual
def Vy:Nd->Prop
 |.text s=>Rz s
 |.place .. =>True
 |.loop _ _ _ ns b=>Rz b/\VP ns
 |.choice _ _ y n=>VP y/\VP n
def VP:List Nd->Prop
 |[]=>True
 |n::r=>Vy n/\VP r
end
def chG:GR->Prop
 |.ok _ _ ps=>∀p∈ps,Rz p
 |.no w _ ps=>Rz w/\∀p∈ps,Rz p
def sy{sc:List (PK×PV)}{m:Nat}{ps:Ya}(hp:∀p∈ps,Rz p)(h:∀v,chG (k v)):chG (eS sc a f m ps k):=by
 unfold eS
 split
 .exact⟨by decide,hp⟩
 .split
  .exact h _
  .exact⟨by decide,hp⟩
def xo{ps:Ya}{s:Y1}(hp:∀p∈ps,Rz p)(hs:Rz s):∀p∈ps++ [s],Rz p:=fun p h=>by
 rcases adS.mp h with q|q
 .exact hp p q
 .rw[adw]at q;rw[q];exact hs
theorem xK{f:PV->Nat->Ya->GR}{b:Y1}(hb:Rz b)(h:∀t m ps,(∀p∈ps,Rz p)->chG (f t m ps)):∀(ts:Y2)(i m:Nat)(ps:Ya),(∀p∈ps,Rz p)->chG (bN f b i ts m ps)
 |[],i,m,ps,hp=>by rw[bN];exact hp
 |v::r,i,m,ps,hp=>by
  rw[bN]
  split
  .exact⟨by decide,hp⟩
  .have q:=h v (m+1) (if i=0 then ps else ps++ [b]) (by split;exact hp;exact xo hp hb)
   cases e1:f v (m+1) (if i=0 then ps else ps++ [b])with
   |no w m1 p1=>rw[e1]at q;exact q
   |ok vs m1 p1=>
    rw[e1]at q;have t:=xK hb h r (i+1) m1 p1 q;dsimp only
    cases e2:bN f b (i+1) r m1 p1 with
    |no w m2 p2=>rw[e2]at t;exact t
    |ok ws m2 p2=>rw[e2]at t;exact t
mutual
theorem Il:∀(n:Nd)(sc:List (PK×PV))(m:Nat)(ps:Ya),Vy n->(∀p∈ps,Rz p)->chG (goN sc n m ps)
 |.text s,sc,m,ps,c,hp=>by rw[Vy]at c;rw[goN];exact xo hp c
 |.place a f w,sc,m,ps,c,hp=>by
  rw[goN];refine sy hp fun v=>?_
  split
  .rename_i s e;exact xo hp ((hU e).2 rfl).2.2
  .exact⟨by decide,hp⟩
 |.loop x a f ns b,sc,m,ps,c,hp=>by
  rw[Vy]at c;rw[goN];refine sy hp fun v=>?_
  split
  .rename_i ts;have t:=xK (f:=fun t m ps=>aE (aK sc (.inr x) t) ns m ps) c.1 (fun t m ps hp=>my ns _ m ps c.2 hp) ts 0 (m+1) ps hp
   split<;>rename_i z<;>rw[z]at t<;>exact t
  .exact⟨by decide,hp⟩
 |.choice a f y n,sc,m,ps,c,hp=>by
  rw[Vy]at c;rw[goN];refine sy hp fun v=>?_
  split
  .have t:=my y sc (m+1) ps c.1 hp
   split<;>rename_i z<;>rw[z]at t<;>exact t
  .have t:=my n sc (m+1) ps c.2 hp
   split<;>rename_i z<;>rw[z]at t<;>exact t
  .exact⟨by decide,hp⟩
theorem my:∀(l:List Nd)(sc:List (PK×PV))(m:Nat)(ps:Ya),VP l->(∀p∈ps,Rz p)->chG (aE sc l m ps)
 |[],sc,m,ps,c,hp=>by rw[aE];exact hp
 |n::r,sc,m,ps,c,hp=>by
  rw[VP]at c;rw[aE];have a:=Il n sc m ps c.1 hp
  split
  .rename_i v m1 p1 z;rw[z]at a;have t:=my r sc m1 p1 c.2 a
   split<;>rename_i y<;>rw[y]at t<;>exact t
  .rename_i z;rw[z]at a;exact a
end
def tw{ps:Ya}(h:∀p∈ps,Rz p):Rz ps.flatten:=fun c hc=>by obtain⟨p,hp,hc⟩:=ahI.mp hc;exact h p hp c hc
theorem iq{f:PV->Option PV}:∀{l:Y2},(∀x∈l,f x=some x)->cQ f l=some l
 |[],_=>rfl
 |x::r,h=>by rw[cQ,h x (by simp),iq fun y hy=>h y (by simp[hy])]
theorem oW(h:Y3):∀{n:Nat}{v:PV}{d:Nat},UV false n v->n+1<=d->aJ h d v=some v
 |_,_,d,.str n l hl,hd=>by obtain⟨e,rfl⟩:∃e,d=e+1:=⟨d - 1,by lia⟩;rfl
 |_,_,d,.int n i,hd=>by obtain⟨e,rfl⟩:∃e,d=e+1:=⟨d - 1,by lia⟩;rfl
 |_,_,d,.bl n b,hd=>by obtain⟨e,rfl⟩:∃e,d=e+1:=⟨d - 1,by lia⟩;rfl
 |_,_,d,.lst n xs hx l,hd=>by
  obtain⟨e,rfl⟩:∃e,d=e+1:=⟨d - 1,by lia⟩
  rw[aJ,iq fun x hm=>oW h (hx x hm) ⋯];rfl
 |_,_,d,.tup n xs hx l,hd=>by
  obtain⟨e,rfl⟩:∃e,d=e+1:=⟨d - 1,by lia⟩
  rw[aJ,iq fun x hm=>oW h (hx x hm) ⋯];rfl
theorem lB{f:PV->PV->Bool}:∀{l:Y2},(∀x∈l,f x x=true)->lX f l l=true
 |[],_=>rfl
 |x::r,h=>by rw[lX,h x (by simp),lB fun y hy=>h y (by simp[hy])];rfl
theorem ku:∀{n:Nat}{v:PV}{d:Nat},VV n v->n+1<=d->fy d v v=true
 |_,_,d,.str n l hl hc,hd=>by obtain⟨e,rfl⟩:∃e,d=e+1:=⟨d - 1,by lia⟩;simp[fy]
 |_,_,d,.int n i,hd=>by obtain⟨e,rfl⟩:∃e,d=e+1:=⟨d - 1,by lia⟩;simp[fy]
 |_,_,d,.bl n b,hd=>by obtain⟨e,rfl⟩:∃e,d=e+1:=⟨d - 1,by lia⟩;simp[fy]
 |_,_,d,.lst n xs hx l,hd=>by
  obtain⟨e,rfl⟩:∃e,d=e+1:=⟨d - 1,by lia⟩
  rw[fy];exact lB fun x hm=>ku (hx x hm) ⋯
 |_,_,d,.dct n l hx nd ln kr,hd=>by
  obtain⟨e,rfl⟩:∃e,d=e+1:=⟨d - 1,by lia⟩
  rw[fy];have a:(l.all fun x=>x.1.isRight)=true:=adX.mpr kr
  have b:=lB (f:=fy e) (l:=l.map (·.2)) fun x hm=>by obtain⟨y,hy,rfl⟩:=adT.mp hm;exact ku (hx y hy) ⋯
  rw[a,b];simp
def neS{l:List (PK×PV)}(hv:VV n (.dct l))(hn:n<=50)(h:Y3):Js (.dct l) (.dct l) h=.ok (.bl false) h:=by show(if fy 60 (.dct l) (.dct l)=true then Res.ok (PV.bl false) h else .bad)=_;rw[if_pos (ku hv ⋯)]
def eqS{l:List (PK×PV)}(hv:VV n (.dct l))(hn:n<=50)(h:Y3):DG (.dct l) (.dct l) h=.ok (.bl true) h:=by show(if fy 60 (.dct l) (.dct l)=true then Res.ok (PV.bl true) h else .bad)=_;rw[if_pos (ku hv ⋯)]
def Mq{s:Y1}(c:Rz s)(h:Y3):Rc (.str s) (.str s) h=.ok (.bl false) h:=by
 have q:=jG s s h c c;rw[decide_eq_true rfl]at q;unfold z_ at q;unfold Rc
 split at q
 .rename_i ok;rw[if_pos ok];injection q with q
  injection q with q
  rw[q];rfl
 .cases q
structure vG(l:List Nd)(B:Ya)(nn:Nat)(sc:List (PK×PV)):Prop where
 wl:Td B l
 bt:U6 l
 ch:VP l
 hs:∀x∈sc,VV nn x.2
 nn:nn<=40
 nd:(sc.map (·.1)).Nodup
 kr:∀x∈sc,x.1.isRight=true
 ln:sc.length<=500
 dp:J7 l<=25
 hb:∀a∈B,(bj sc (.inr a)).isSome
 ll:l.length<=1000000
 hz:(aE sc l 0 []).ps.length<=16000000
 hf:(aE sc l 0 []).ps.flatten.length<=16000000
def Ag(h0 h:Y3):Prop:=h0.length<=h.length/\∀i,i<h0.length->h[i]? =h0[i]?
def Ag.refl(h:Y3):Ag h h:=⟨adA _,fun _ _=>rfl⟩
theorem Ag.trans{a b c:Y3}(x:Ag a b)(y:Ag b c):Ag a c:=⟨adR x.1 y.1,fun i hi=>(y.2 i (aeI hi x.1)).trans (x.2 i hi)⟩
def Ga(b T:Y3)(n:Int)(ps:Ya):Ag b (HP b n ps T):=⟨by rw[wH];lia,fun i hi=>by unfold HP;rw[adC hi]⟩
def FZ(b T U:Y3)(n:Int)(ps:Ya)(xs:Y2):Ag b (HQ b n ps T xs U):=Ga b _ n ps
def Lg{a b c:Y3}{lo hi:Nat}(x:Ag a b)(s:Sp b c lo hi)(l:a.length<=lo):Ag a c:=⟨by rw[s.1];exact x.1,fun i hi=>(s.2 i ⋯).trans (x.2 i hi)⟩
theorem qy(f:Y2->Out)(as:Ax)(ρ:Ev)(h:Y3):qL f as ρ h=(as ρ h).bind (mG f):=rfl
def jY{f:Y2->Out}{ps qs:Y2}(m:cQ (aJ h 100) ps=some qs)(e:f qs=.ok v)(fl:BY v=true):mG f ps h=.ok v h:=by unfold mG;rw[m];dsimp only;rw[e];dsimp only;rw[if_pos fl]
noncomputable def cS:GR->PV
 |.ok vs _ _=>.lst (aW vs)
 |.no .. =>.non
noncomputable def cb:GR->PV
 |.ok vs _ _=>.tup [.str hZ,.lst (aW vs)]
 |.no w _ _=>.tup [.str oj,.str w]
def Fg:PV.tup (b_ [.text [97]])=.tup [.tup [.str [116,101,120,116],.str [97]]]:=by simp only[b_,nd]
def BL:aE [] [.text [97]] 0 []=.ok [] 0 [[97]]:=by simp only[aE,goN,adU,ad1]
def EK:J7 [.text [97]]=0:=by simp[J7,dN]
def Iu(h:Y3):∃(U:Y3)(xs:Y2),X_ 99 .filled [.tup [.tup [.str [116,101,120,116],.str [97]]],.dct []] h=.ok (.tup [.str hZ,.ref (rq h [])]) (HQ h 0 [[97]] [] xs U)/\xs= []:=by have ok:gI 98 [] [.text [97]]:=tz (B:=[]) (nn:=0) (sc:=[]) [.text [97]] 98 (by simp only[Td,Sd];trivial) (fun x hx=>nomatch hx) (by rw[EK];decide) (fun a ha=>nomatch ha) (by rw[EK];decide) ⋯;have R:=rM 97 (nn:=0) (sc:=[]) (fun x hx=>nomatch hx) (by simp) (by simp) [.text [97]] ok (by rw[BL];decide) h;rw[BL]at R;obtain⟨xs,U,R,D⟩:=R;rw[Fg]at R;refine⟨U,xs,R,?_⟩;rw[M5]at D;exact D.1
def Iq:F 99 .v5 [.tup [.tup [.str [116,101,120,116],.str [97]]],.dct []]=.ok (.tup [.str vJ,.str [97]]):=by have ok:gI 98 [] [.text [97]]:=tz (B:=[]) (nn:=0) (sc:=[]) [.text [97]] 98 (by simp only[Td,Sd];trivial) (fun x hx=>nomatch hx) (by rw[EK];decide) (fun a ha=>nomatch ha) (by rw[EK];decide) ⋯;have R:=yi 97 (nn:=0) (sc:=[]) (fun x hx=>nomatch hx) (by simp) (by simp) [.text [97]] ok (by rw[BL];decide) (by rw[BL];decide);rw[BL,Fg]at R;exact R
section
variable{sc:List (PK×PV)}(g:vG l B nn sc)
include g
theorem BQ:gI 98 sc l:=tz l 98 g.wl g.hs (by have:=g.ln;have:=g.dp;lia) g.hb (by have:=g.dp;lia) g.ll
theorem Io:F 99 .v5 [.tup (b_ l),.dct sc]=.ok (cF (aE sc l 0 [])):=yi 97 g.hs g.nd (by have:=g.ln;lia) l (BQ g) g.hz g.hf
theorem BP(b:Y3):yE 99 sc l b (aE sc l 0 []):=rM 97 g.hs g.nd (by have:=g.ln;lia) l (BQ g) g.hz b
theorem Ip:chG (aE sc l 0 []):=my l sc 0 [] g.ch (by simp)
theorem KD:V1 (2 * J7 l) l.length (aE sc l 0 []):=mx l 0 [] g.wl g.hs
theorem Aa:UV false 1 (cF (aE sc l 0 [])):=by
 have c:=Ip g
 cases e:aE sc l 0 []with
 |ok vs m p=>rw[e]at c;exact .tup 0 _ (fun x hx=>by
   rcases adD.mp hx with rfl|hx
   .exact .str _ _ ⋯
   .rw[adw]at hx;subst hx;exact .str _ _ (tw c)) (by simp)
 |no w m p=>rw[e]at c;exact .tup 0 _ (fun x hx=>by
   rcases adD.mp hx with rfl|hx
   .exact .str _ _ ⋯
   .rcases adD.mp hx with rfl|hx
    .exact .str _ _ c.1
    .rw[adw]at hx;subst hx;exact .str _ _ (tw c.2)) (by simp)
theorem Ab:UV false (2 * J7 l+2) (cb (aE sc l 0 [])):=by
 have c:=Ip g;have u:=KD g
 cases e:aE sc l 0 []with
 |ok vs m p=>
  rw[e]at c u;have q:=pB (e:=0) u.1 (by have:=u.2;have:=g.ll;lia)
  exact .tup _ _ (fun x hx=>by
   rcases adD.mp hx with rfl|hx
   .exact .str _ _ ⋯
   .rw[adw]at hx;subst hx;exact q) (by simp)
 |no w m p=>rw[e]at c;exact .tup _ _ (fun x hx=>by
   rcases adD.mp hx with rfl|hx
   .exact .str _ _ ⋯
   .rw[adw]at hx;subst hx;exact .str _ _ c.1) (by simp)
end
def xX{s m:Nat}{w:PV}(e:h[s]? =some (J6 m t w)):f9 (.ref s) (.str VJ) h=.ok (.str t) h:=by
 have d:R_ h (.ref s)=some [(.inr VJ,.str t),(.inr V4,.int m),(.inr Wy,w)]:=by unfold R_;dsimp only;rw[e];rfl
 unfold f9;dsimp only;rw[d];rfl
def tB{s m:Nat}{w:PV}(e:h[s]? =some (J6 m t w)):aj h (.ref s)=.ref s:=by unfold aj;dsimp only;rw[e];rfl
def mE(e:h[j]? =some (.s8 v)):aj h (.ref j)=v:=by unfold aj;dsimp only;rw[e]
def wX(d:Nat)(e:h[i]? =some (.lst xs))(m:cQ (aJ h d) xs=some ys):aJ h (d+1) (.ref i)=some (.lst ys):=by rw[aJ];simp only[e,m];rfl
def NG(f:PV->PV->Y3->Res PV){q p' q':PV}{b:Bool}(a:aJ h 100 p=some p')(c:aJ h 100 q=some q')(e:f p' q' []=.ok (.bl b) h1):rO f p q h=.ok (.bl b) h:=by unfold rO;rw[a,c];dsimp only;rw[e]
def FH(b T U:Y3)(n:Int)(ps:Ya)(xs:Y2):(HQ b n ps T xs U)[rq b T]? =some (.lst xs):=by have:=HL b (T++.lst xs::U) n ps T.length;rw[show(T++PO.lst xs::U)[T.length]? =some (.lst xs) by simp]at this;exact this
def nek{q:PV}(c:Bool)(h:Y3)(dp:QV h p=QV [] p)(dq:QV h q=QV [] q)(e:(match Rc p q []with|.ok (.bl d) _=>d==c|_=>false)=true):Rc p q h=.ok (.bl c) h:=by
 unfold Rc at e |-;unfold R5 at e |-;rw[dp,dq]
 split at e
 .rename_i d h' z
  split at z
  .rename_i ok
   cases z
   rw[if_pos ok];have:=afe e;rw[this]
  .cases z
 .cases e
def neW(h:Y3):Rc (.tup [.str vJ,.str [97]]) (.tup [.str vJ,.str [97]]) h=.ok (.bl false) h:=nek false h rfl rfl (by kernel_rfl)
def Mr(h:Y3):Rc (.tup [.str hZ,.lst []]) (.tup [.str hZ,.lst []]) h=.ok (.bl false) h:=nek false h rfl rfl (by kernel_rfl)
def xU(ρ:Ev)(h:Y3):∃h',G4 (kZ (aH (c2 Rc (aI (F 99 .v5) (aa aaK (aa (cK (.dct [])) ai))) acZ)) (aH (c2 (rO Rc) (cB (X_ 99 .filled) (aa aaK (aa (cK (.dct [])) ai))) acY))) aa3 bv ρ h=.nx ρ h'/\Ag h h':=by
 obtain⟨U,xs,q,rfl⟩:=Iu h;refine⟨_,?_,FZ h [] U 0 [[97]] []⟩;have fa:∀h,aX (F 99 .v5) [.tup [.tup [.str [116,101,120,116],.str [97]]],.dct []] h=.ok (.tup [.str vJ,.str [97]]) h:=fun h=>aL h rfl Iq;have dr:=wX 98 (FH h [] U 0 [[97]] []) rfl
 have d1:aJ (HQ h 0 [[97]] [] [] U) 100 (.tup [.str hZ,.ref (rq h [])])=some (.tup [.str hZ,.lst []]):=by rw[aJ];simp only[cQ,dr];rfl
 have d2:aJ (HQ h 0 [[97]] [] [] U) 100 (.tup [.str hZ,.lst []])=some (.tup [.str hZ,.lst []]):=rfl;have e:=NG Rc d1 d2 (Mr []);simp[EV,fa,neW,q,e]
def sq{a:Sx}{ρ1:Ev}(e:a ρ h=.nx ρ1 h1):au a b ρ h=b ρ1 h1:=by unfold au;rw[e]
section
variable{sc:List (PK×PV)}(g:vG l B nn sc)
include g
theorem Bt(o0 o1 o2 o3 o6 QL Rj:Option PV)(s j m:Nat)(w:PV)(h:Y3)(R9:h[s]? =some (J6 m (aE sc l 0 []).ps.flatten w))(hj:h[j]? =some (.s8 (.dct sc))):∃h' Wv,iY (F 99) (X_ 99) [o0,o1,o2,o3,some (.tup (b_ l)),some (.ref j),o6,some (.ref s),some (cS (aE sc l 0 [])),some (.lst [cF (aE sc l 0 []),cb (aE sc l 0 [])]),some (.dct sc),QL,Rj] h=.nx [o0,o1,o2,o3,some (.tup (b_ l)),some (.ref j),o6,some (.ref s),some (cS (aE sc l 0 [])),some (.lst [cF (aE sc l 0 []),cb (aE sc l 0 [])]),some (.dct sc),QL,Wv] h'/\Ag h h':=by
 have sp:=cw g.hs;have np:(PV.tup (b_ l)).pure=true:=by rw[PV.pure];exact bB l
 have uf:=Aa g;have ui:=Ab g;have fp:=uf.pure;have ip:=ui.pure;have ff:∀h,aX (F 99 .v5) [.tup (b_ l),.dct sc] h=.ok (cF (aE sc l 0 [])) h:=fun h=>aL h (by simp only[aq,np,sp];rfl) (Io g);have s1:∀h,aX (F 99 .N_) [cF (aE sc l 0 []),cF (aE sc l 0 [])] h=.ok (.bl true) h:=fun h=>aL h (by simp only[aq,fp];rfl) (As 1 99 uf ⋯);have s2:=As _ 99 ui (by have:=g.dp;lia);have YT:(PV.lst [cF (aE sc l 0 []),cb (aE sc l 0 [])]).pure=true:=by simp[PV.pure,aq,fp,ip]
 have i0:∀h,f9 (.lst [cF (aE sc l 0 []),cb (aE sc l 0 [])]) (.int 0) h=.ok (cF (aE sc l 0 [])) h:=fun h=>by show Res.ok (aj h (cF _)) h=_;rw[ak h fp]
 have i1:∀h,f9 (.lst [cF (aE sc l 0 []),cb (aE sc l 0 [])]) (.int 1) h=.ok (cb (aE sc l 0 [])) h:=fun h=>by show Res.ok (aj h (cb _)) h=_;rw[ak h ip]
 have vd:VV (nn+1) (.dct sc):=.dct nn sc g.hs g.nd (by have:=g.ln;lia) g.kr;have ne:=neS vd (by have:=g.nn;lia);have cf:=Ip g;have nsh:=fun(h:Y3)=>jW h l 99 (by have:=g.dp;lia);have FR:=BP g h;have YJ:∀h,aj h (.dct sc)=.dct sc:=fun _=>rfl
 cases e:aE sc l 0 []with
 |no w' m' p'=>
  rw[e]at FR cf R9 ff s1 s2 i0 i1 YT ui fp ip;obtain⟨n',T',FR⟩:=FR;have Xj:=Ga h T' n' p';obtain⟨h2,q2,Yl⟩:=xU [o0,o1,o2,o3,some (.tup (b_ l)),some (.ref j),o6,some (.ref s),some (cS (.no w' m' p')),some (.lst [cF (.no w' m' p'),cb (.no w' m' p')]),some (.dct sc),QL,some (.tup [.str oj,.str w'])] (HP h n' p' T');refine⟨h2,some (.tup [.str oj,.str w']),?_,Xj.trans Yl⟩;have js:j<h.length:=(adv.mp hj).1;have dj:aj (HP h n' p' T') (.ref j)=.dct sc:=mE (by rw[Xj.2 j js];exact hj);have YM:aj (HP h n' p' T') (.tup [.str oj,.str w'])=.tup [.str oj,.str w']:=rfl
  have ct:mG (F 99 .N_) [.tup [.str oj,.str w'],cb (.no w' m' p')] (HP h n' p' T')=.ok (.bl true) (HP h n' p' T'):=jY (qs:=[cb (.no w' m' p'),cb (.no w' m' p')]) (by have a:=oW (HP h n' p' T') ui (d:=100) (by have:=g.dp;lia);show cQ _ [cb (.no w' m' p'),cb (.no w' m' p')]=_;simp only[cQ,a]) s2 rfl
  have Y6:aA 12 (cB (X_ 99 .filled) ab9) [o0,o1,o2,o3,some (.tup (b_ l)),some (.ref j),o6,some (.ref s),some (cS (.no w' m' p')),some (.lst [cF (.no w' m' p'),cb (.no w' m' p')]),some (.dct sc),QL,Rj] h=.nx [o0,o1,o2,o3,some (.tup (b_ l)),some (.ref j),o6,some (.ref s),some (cS (.no w' m' p')),some (.lst [cF (.no w' m' p'),cb (.no w' m' p')]),some (.dct sc),QL,some (.tup [.str oj,.str w'])] (HP h n' p' T'):=by simp[EV,ak _ np,YJ,FR]
  unfold iY;refine(sq Y6).trans ?_;refine(sq (ρ1:=[o0,o1,o2,o3,some (.tup (b_ l)),some (.ref j),o6,some (.ref s),some (cS (.no w' m' p')),some (.lst [cF (.no w' m' p'),cb (.no w' m' p')]),some (.dct sc),QL,some (.tup [.str oj,.str w'])]) (h1:=HP h n' p' T') ?_).trans ?_
  rotate_left
  refine(sq (ρ1:=[o0,o1,o2,o3,some (.tup (b_ l)),some (.ref j),o6,some (.ref s),some (cS (.no w' m' p')),some (.lst [cF (.no w' m' p'),cb (.no w' m' p')]),some (.dct sc),QL,some (.tup [.str oj,.str w'])]) (h1:=HP h n' p' T') ?_).trans q2
  rotate_left
  .simp[EV,ak _ np,YJ,ff,ak _ YT,i0,i1,s1,YM,ct,qy,ne,dj]
  .have gv:cS (.no w' m' p')=.non:=rfl;simp[EV,gv,qo,jw]
 |ok vs m' p'=>
  rw[e]at FR cf R9 ff s1 s2 i0 i1 YT ui fp ip;obtain⟨xs,U,FR,D⟩:=FR;have Xj:=FZ h [] U m' p' xs;have js:j<h.length:=(adv.mp hj).1;have ss:s<h.length:=(adv.mp R9).1;have uv:=KD g;rw[e]at uv;have ux:∀x∈aW vs,UV false (2 * J7 l) x:=fun x hx=>by rw[mz]at hx;obtain⟨y,hy,rfl⟩:=adT.mp hx;exact uv.1 y hy
  have cr:=FH h [] U m' p' xs;have md:=jX (HQ h m' p' [] xs U) vs D ux (d:=99) (by have:=g.dp;lia);have md8:=jX (HQ h m' p' [] xs U) vs D ux (d:=98) (by have:=g.dp;lia);have r9:=wX 99 cr md;have r8:=wX 98 cr md8;obtain⟨h1,q1,sp1⟩:=yS vs (k:=99) cr D ux (by have:=uv.2;have:=g.ll;lia) (by have:=g.dp;lia);have Yl:=Lg Xj sp1 (by unfold rq;simp);obtain⟨h2,q2,ag3⟩:=xU [o0,o1,o2,o3,some (.tup (b_ l)),some (.ref j),o6,some (.ref s),some (cS (.ok vs m' p')),some (.lst [cF (.ok vs m' p'),cb (.ok vs m' p')]),some (.dct sc),QL,some (.tup [.str hZ,.ref (rq h [])])] h1;refine⟨h2,some (.tup [.str hZ,.ref (rq h [])]),?_,Yl.trans ag3⟩;have dj:aj (HQ h m' p' [] xs U) (.ref j)=.dct sc:=mE (by rw[Xj.2 j js];exact hj);have hs1:(HQ h m' p' [] xs U)[s]? =some (J6 m p'.flatten w):=by rw[Xj.2 s ss];exact R9
  have ds:=tB hs1;have it:=xX hs1;have YM:aj (HQ h m' p' [] xs U) (.tup [.str hZ,.ref (rq h [])])=.tup [.str hZ,.ref (rq h [])]:=rfl;have dr:=oB cr;have i12:f9 (.tup [.str hZ,.ref (rq h [])]) (.int 1) (HQ h m' p' [] xs U)=.ok (.ref (rq h [])) (HQ h m' p' [] xs U):=by show Res.ok (aj _ (.ref (rq h []))) _=_;rw[dr]
  have ct:mG (F 99 .N_) [.tup [.str hZ,.ref (rq h [])],cb (.ok vs m' p')] (HQ h m' p' [] xs U)=.ok (.bl true) (HQ h m' p' [] xs U):=jY (qs:=[cb (.ok vs m' p'),cb (.ok vs m' p')]) (by
   have a:=oW (HQ h m' p' [] xs U) ui (d:=100) (by have:=g.dp;lia)
   have b:aJ (HQ h m' p' [] xs U) 100 (.tup [.str hZ,.ref (rq h [])])=some (cb (.ok vs m' p')):=by have sw:aJ (HQ h m' p' [] xs U) 99 (.str hZ)=some (.str hZ):=rfl;rw[aJ];simp only[cQ,sw,r8];rfl
   simp only[cQ,a,b]) s2 rfl
  obtain⟨t,et,sl⟩:=Al l 99 g.wl g.bt (by have:=g.dp;lia) g.ll sc 0 [] vs m' p' ⋯ e (by have:=g.hf;rw[e]at this;exact this);rw[ad1]at et;subst et
  have ct2:mG (F 99 .spelt) [.tup (b_ l),.ref (rq h [])] (HQ h m' p' [] xs U)=.ok (.str p'.flatten) (HQ h m' p' [] xs U):=jY (qs:=[.tup (b_ l),.lst (aW vs)]) (by
   have a:aJ (HQ h m' p' [] xs U) 100 (.tup (b_ l))=some (.tup (b_ l)):=by rw[aJ,nsh];rfl
   simp only[cQ,a,r9]) sl rfl
  have gp:(PV.lst (aW vs)).pure=true:=by rw[PV.pure];exact dW fun x hx=>(ux x hx).pure
  have ul:UV false (2 * J7 l+1) (.lst (aW vs)):=pB (e:=0) uv.1 (by have:=uv.2;have:=g.ll;lia);have cp:∀h,aX (F 99 .G8) [.lst (aW vs)] h=.ok (.lst (aW vs)) h:=fun h=>aL h (by simp only[aq,gp];rfl) (Ch _ 99 ul (by have:=g.dp;lia));have Yq:∀h,aX (F 99 .spelt) [.tup (b_ l),.lst (aW vs)] h=.ok (.str p'.flatten) h:=fun h=>aL h (by simp only[aq,np,gp];rfl) sl;have nt:=Mq (tw cf)
  have Y6:aA 12 (cB (X_ 99 .filled) ab9) [o0,o1,o2,o3,some (.tup (b_ l)),some (.ref j),o6,some (.ref s),some (cS (.ok vs m' p')),some (.lst [cF (.ok vs m' p'),cb (.ok vs m' p')]),some (.dct sc),QL,Rj] h=.nx [o0,o1,o2,o3,some (.tup (b_ l)),some (.ref j),o6,some (.ref s),some (cS (.ok vs m' p')),some (.lst [cF (.ok vs m' p'),cb (.ok vs m' p')]),some (.dct sc),QL,some (.tup [.str hZ,.ref (rq h [])])] (HQ h m' p' [] xs U):=by simp[EV,ak _ np,YJ,FR]
  unfold iY;refine(sq Y6).trans ?_;refine(sq (ρ1:=[o0,o1,o2,o3,some (.tup (b_ l)),some (.ref j),o6,some (.ref s),some (cS (.ok vs m' p')),some (.lst [cF (.ok vs m' p'),cb (.ok vs m' p')]),some (.dct sc),QL,some (.tup [.str hZ,.ref (rq h [])])]) (h1:=HQ h m' p' [] xs U) ?_).trans ?_
  rotate_left
  refine(sq (ρ1:=[o0,o1,o2,o3,some (.tup (b_ l)),some (.ref j),o6,some (.ref s),some (cS (.ok vs m' p')),some (.lst [cF (.ok vs m' p'),cb (.ok vs m' p')]),some (.dct sc),QL,some (.tup [.str hZ,.ref (rq h [])])]) (h1:=h1) ?_).trans q2
  rotate_left
  .simp[EV,ak _ np,YJ,ff,ak _ YT,i0,i1,s1,YM,ct,qy,ne,dj]
  .have gv:cS (.ok vs m' p')=.lst (aW vs):=rfl;have nn1:∀h,lG (.lst (aW vs)) .non h=.ok (.bl true) h:=fun _=>rfl;simp[EV,gv,ak _ gp,nn1,oy,ak _ np,YM,i12,qy,ct2,ds,it,nt,cp,Yq,q1]
end
noncomputable def JN:Sx:=(au (aA 7 abp) (au (aA 8 (bx (L 99 .K4) abv)) (au (aA 9 aaj) (au aat (au (aA 10 (aI (F 99 .G8) abt)) (au (fS aa5 (z7 11) (iY (F 99) (X_ 99))) abS))))))
section
variable{sc:List (PK×PV)}(g:vG l B nn sc)
include g
theorem Fq(o0 o1 o2 o3 o6 Rj:Option PV)(s j m:Nat)(w:PV):∀(r:Y2)(QL Rj:Option PV)(h:Y3),h[s]? =some (J6 m (aE sc l 0 []).ps.flatten w)->h[j]? =some (.s8 (.dct sc))->∃h' Zg Wv,bf (z7 11) (iY (F 99) (X_ 99)) r [o0,o1,o2,o3,some (.tup (b_ l)),some (.ref j),o6,some (.ref s),some (cS (aE sc l 0 [])),some (.lst [cF (aE sc l 0 []),cb (aE sc l 0 [])]),some (.dct sc),QL,Rj] h=.nx [o0,o1,o2,o3,some (.tup (b_ l)),some (.ref j),o6,some (.ref s),some (cS (aE sc l 0 [])),some (.lst [cF (aE sc l 0 []),cb (aE sc l 0 [])]),some (.dct sc),Zg,Wv] h'/\Ag h h'
 |[],QL,Rj,h,_,_=>⟨h,QL,Rj,rfl,.refl h⟩
 |p::r,QL,Rj,h,R9,hj=>by obtain⟨h1,Zf,q,ag⟩:=Bt g o0 o1 o2 o3 o6 (some p) Rj s j m w h R9 hj;have ss:=(adv.mp R9).1;have js:=(adv.mp hj).1;obtain⟨h2,a,b,q2,Yl⟩:=Fq o0 o1 o2 o3 o6 Rj s j m w r (some p) Zf h1 (by rw[ag.2 s ss];exact R9) (by rw[ag.2 j js];exact hj);refine⟨h2,a,b,?_,ag.trans Yl⟩;rw[<- q2];exact cR rfl q
theorem Bs(o0 o1 o2 o3 o6 o7 o8 o9 Uq QL Rj:Option PV)(j:Nat)(h hz:Y3)(fz:iC h=some hz)(hj:hz[j]? =some (.s8 (.dct sc))):∃h',JN [o0,o1,o2,o3,some (.tup (b_ l)),some (.ref j),o6,o7,o8,o9,Uq,QL,Rj] h=.rt (.bl true) h':=by
 have sp:=cw g.hs;have np:(PV.tup (b_ l)).pure=true:=by rw[PV.pure];exact bB l
 have js:j<hz.length:=(adv.mp hj).1;have gk:=Er l 99 g.wl g.bt g.hs (by have:=g.ln;have:=g.dp;lia) g.hb (by have:=g.dp;lia) g.ll 0 [] ⋯ g.hf;have vd:VV (nn+1) (.dct sc):=.dct nn sc g.hs g.nd (by have:=g.ln;lia) g.kr;have eqs:=eqS vd (by have:=g.nn;lia);have cp:∀h,aX (F 99 .G8) [.dct sc] h=.ok (.dct sc) h:=fun h=>aL h (by simp only[aq,sp];rfl) (Ch _ 99 vd.uv (by have:=g.nn;lia));have uf:=(Aa g).pure;have ui:=(Ab g).pure
 have gv:(cS (aE sc l 0 [])).pure=true:=by
  have gd:=eI sc l 0 []
  cases e:aE sc l 0 []with
  |ok vs m p=>rw[e]at gd;show(PV.lst (aW vs)).pure=true;rw[PV.pure];exact cI (show cH vs from gd)
  |no w m p=>rfl
 obtain⟨m1,w1,wp,call⟩:∃(m1:Nat)(w1:PV),w1.pure=true/\L 99 .K4 [.tup (b_ l),.dct sc,.ref 0] [J6 0 [] .non]=.ok (cS (aE sc l 0 [])) [J6 m1 (aE sc l 0 []).ps.flatten w1]/\(∀w m p,aE sc l 0 []=.no w m p->w1=.str w):=by
  cases e:aE sc l 0 []with
  |ok vs m p=>rw[e]at gk;exact⟨m,.non,rfl,gk.1,fun w m p q=>(by cases q)⟩
  |no w m p=>rw[e]at gk;exact⟨m,.str w,rfl,gk,fun w m p q=>(by cases q;rfl)⟩
 have U5:=dn [.tup (b_ l),.dct sc] [] (h:=hz++ [J6 0 [] .non]) (i:=hz.length) (by simp only[aq,np,sp];rfl) rfl (by simp) (yQ 0 [] .non rfl) call.1 gv (yQ m1 _ w1 wp);rw[adW _ _ ⋯,aee]at U5;have U5:z6 (L 99 .K4) [.tup (b_ l),.dct sc,.ref hz.length] (hz++ [J6 0 [] .non])=.ok (cS (aE sc l 0 [])) (hz++ [J6 m1 (aE sc l 0 []).ps.flatten w1]):=U5;generalize hH:hz++ [J6 m1 (aE sc l 0 []).ps.flatten w1]=H at*;have Hs:H[hz.length]? =some (J6 m1 (aE sc l 0 []).ps.flatten w1):=by rw[<- hH];simp
 have Hj:H[j]? =some (.s8 (.dct sc)):=by rw[<- hH,adC js];exact hj
 have hj0:(hz++ [J6 0 [] .non])[j]? =some (.s8 (.dct sc)):=by rw[adC js];exact hj
 have d0:=mE hj0;have dS0:aj (hz++ [J6 0 [] .non]) (.ref hz.length)=.ref hz.length:=tB (m:=0) (t:=[]) (w:=.non) (by simp);have d1:=mE Hj;have dS:=tB Hs;have iT:=xX Hs;obtain⟨h2,a,b,lp,ag⟩:=Fq g o0 o1 o2 o3 o6 Rj hz.length j m1 w1 (Uo 0 2) QL Rj H Hs Hj;have d2:aj h2 (.ref j)=.dct sc:=mE (by rw[ag.2 j (adv.mp Hj).1];exact Hj);have fzA:∀f ρ,xm f ρ h=f ρ hz:=fun f ρ=>by unfold xm;rw[fz]
 have nS:∀ ρ,gF [(aac,aao),(aaw,aae),(aah,aaD)] ρ hz=.ok (.ref hz.length) (hz++ [J6 0 [] .non]):=fun ρ=>rfl;have be:QW 4611686018427387904 2=true:=by decide
 have r2:(List.range (2:Int).toNat).map (fun i:Nat=>PV.int (0+(i:Nat)))=Uo 0 2:=rfl
 have iW:f9 (.ref hz.length) (.str Wy) H=.ok w1 H:=by
  have d:R_ H (.ref hz.length)=some [(.inr VJ,.str (aE sc l 0 []).ps.flatten),(.inr V4,.int m1),(.inr Wy,w1)]:=by unfold R_;dsimp only;rw[Hs];rfl
  unfold f9;dsimp only;rw[d];show Res.ok (aj H w1) H=_;rw[ak H wp]
 refine⟨h2,?_⟩;unfold JN
 have st7:aA 7 abp [o0,o1,o2,o3,some (.tup (b_ l)),some (.ref j),o6,o7,o8,o9,Uq,QL,Rj] h=.nx [o0,o1,o2,o3,some (.tup (b_ l)),some (.ref j),o6,some (.ref hz.length),o8,o9,Uq,QL,Rj] (hz++ [J6 0 [] .non]):=by simp[EV,fzA,nS]
 have st8:aA 8 (bx (L 99 .K4) abv) [o0,o1,o2,o3,some (.tup (b_ l)),some (.ref j),o6,some (.ref hz.length),o8,o9,Uq,QL,Rj] (hz++ [J6 0 [] .non])=.nx [o0,o1,o2,o3,some (.tup (b_ l)),some (.ref j),o6,some (.ref hz.length),some (cS (aE sc l 0 [])),o9,Uq,QL,Rj] H:=by simp[EV,ak _ np,d0,dS0,U5]
 refine(sq st7).trans ?_;refine(sq st8).trans ?_
 have fin:∀(o9:Option PV),(au (aA 10 (aI (F 99 .G8) abt)) (au (fS aa5 (z7 11) (iY (F 99) (X_ 99))) abS)) [o0,o1,o2,o3,some (.tup (b_ l)),some (.ref j),o6,some (.ref hz.length),some (cS (aE sc l 0 [])),some (.lst [cF (aE sc l 0 []),cb (aE sc l 0 [])]),Uq,QL,Rj] H=.rt (.bl true) h2:=fun _=>by simp[EV,d1,cp,be,r2,lp,ak _ sp,d2,eqs]
 cases e:aE sc l 0 []with
 |ok vs m p=>
  rw[e]at fin gv iT uf ui;have gl:cS (.ok vs m p)=.lst (aW vs):=rfl;have pf:(PV.lst [PV.tup [.str [119,114,105,116,116,101,110],.str p.flatten],.tup [.str [102,105,108,108,101,100],.lst (aW vs)]])=.lst [cF (.ok vs m p),cb (.ok vs m p)]:=rfl
  have Y5:aA 9 aaj [o0,o1,o2,o3,some (.tup (b_ l)),some (.ref j),o6,some (.ref hz.length),some (cS (.ok vs m p)),o9,Uq,QL,Rj] H=.nx [o0,o1,o2,o3,some (.tup (b_ l)),some (.ref j),o6,some (.ref hz.length),some (cS (.ok vs m p)),some (.lst [cF (.ok vs m p),cb (.ok vs m p)]),Uq,QL,Rj] H:=by have iT:f9 (.ref hz.length) (.str VJ) H=.ok (.str p.flatten) H:=iT;simp[EV,dS,iT,ak _ gv];rfl
  refine(sq Y5).trans ?_;refine(sq (ρ1:=[o0,o1,o2,o3,some (.tup (b_ l)),some (.ref j),o6,some (.ref hz.length),some (cS (.ok vs m p)),some (.lst [cF (.ok vs m p),cb (.ok vs m p)]),Uq,QL,Rj]) (h1:=H) ?_).trans (fin none);simp[EV,ak _ gv,gl,qp,oy]
 |no w m p=>
  rw[e]at fin gv iT uf ui;have w1e:=call.2 w m p e;subst w1e;have gl:cS (.no w m p)=.non:=rfl;have iT:f9 (.ref hz.length) (.str VJ) H=.ok (.str p.flatten) H:=iT
  have Y5:aA 9 aaj [o0,o1,o2,o3,some (.tup (b_ l)),some (.ref j),o6,some (.ref hz.length),some (cS (.no w m p)),o9,Uq,QL,Rj] H=.nx [o0,o1,o2,o3,some (.tup (b_ l)),some (.ref j),o6,some (.ref hz.length),some (cS (.no w m p)),some (.lst [.tup [.str vJ,.str p.flatten],.tup [.str hZ,.non]]),Uq,QL,Rj] H:=by simp[EV,dS,iT,gl]
  refine(sq Y5).trans ?_;refine(sq (ρ1:=[o0,o1,o2,o3,some (.tup (b_ l)),some (.ref j),o6,some (.ref hz.length),some (cS (.no w m p)),some (.lst [cF (.no w m p),cb (.no w m p)]),Uq,QL,Rj]) (h1:=H) ?_).trans (fin none);simp[EV,dS,iT,iW,gl,qn,jw];rfl
end
noncomputable def cv(cs:List Int):PV:=.lst (cs.map PV.int)
theorem gO(cs:List Int):(cv cs).pure=true:=by
 unfold cv;rw[PV.pure]
 induction cs with
 |nil=>rfl
 |cons a r ih=>rw[adE,aq,ih];rfl
theorem eN(cs:List Int)(h:Y3):aj h (cv cs)=cv cs:=rfl
abbrev j9(n m:Int):PO:=.lst [.int n,.int m]
theorem bR(n m:Int):(j9 n m).pure=true:=rfl
theorem EP(k:Nat)(cs:List Int)(hc:cs.length<=63)(n m:Int)(h0:0<=n)(h1:n<=2000000):∃v,0<=v/\v<400000000/\L (k+1) .C_ [cv cs,.ref 0] [j9 n m]=.ok (.int v) [j9 (n+1) m]:=by
 have Yy:∀i:Int,f9 (.ref 0) (.int 0) [j9 i m]=.ok (.int i) [j9 i m]:=fun m=>rfl;have d0:∀i:Int,aj [j9 i m] (.ref 0)=.ref 0:=fun m=>rfl;have st:∀ ρ,lu (.int (n+1)) (.ref 0) (.int 0) ρ [j9 n m]=.nx ρ [j9 (n+1) m]:=fun ρ=>rfl;have ln:∀h,gB [.lst (cs.map PV.int)] h=.ok (.int cs.length) h:=fun h=>by rw[Fj,adJ]
 have m3:∀x:Int,jg x (n+1)=true:=fun x=>jK (bD.mpr ⟨by lia,by lia⟩);have m4:∀x:Int,jg x 48271=true:=fun x=>jK (bD.mpr ⟨by lia,by lia⟩);have fin:∀b:Int,0<=b * 48271 % 2147483647 / 7/\b * 48271 % 2147483647 / 7<400000000:=fun b=>by lia
 have ct:∀v:Int,lN 1 (.int v) [j9 (n+1) m]=.ok (.int v) [j9 (n+1) m]:=fun v=>rfl
 cases cs with
 |nil=>
  refine⟨_,(fin (31 * (n+1) * (n+1)+7919 * (n+1))).1,(fin _).2,?_⟩;show cP (kf (F k)) 2 4 [.lst [],.ref 0] [j9 n m]=_;have ln0:∀h,gB [.lst []] h=.ok (.int 0) h:=fun h=>rfl;have g0:decide ((0:Int)<0)=false:=by decide
  simp -implicitDefEqProofs[EV,eN,cP,kf,m4,Yy,d0,st,ln0,m3,ct,Int.reduceLT]
 |cons a r=>
  have ZX:(0:Int)<(((a::r).length:Nat):Int):=by rw[adu];lia
  have hl1:(((a::r).length:Nat):Int)<1073741824:=by lia
  have q0:0<=(n+1) % (((a::r).length:Nat):Int):=afO _ ⋯;have q1:(n+1) % (((a::r).length:Nat):Int)<(((a::r).length:Nat):Int):=afk _ ZX
  have ax:PN ((a::r).map PV.int) ((n+1) % (((a::r).length:Nat):Int))=some (.int ((a::r).getD ((n+1) % (((a::r).length:Nat):Int)).toNat 0)):=by refine eG q0 ?_;rw[adZ,adM,adx ⋯];rfl
  have dv0:0<=(n+1) / (((a::r).length:Nat):Int):=Int.ediv_nonneg ⋯ ⋯;have dv1:(n+1) / (((a::r).length:Nat):Int)<=n+1:=Int.ediv_le_self _ ⋯;have m5:∀x:Int,jg x (1+(n+1) / (((a::r).length:Nat):Int))=true:=fun x=>jK (bD.mpr ⟨by lia,by lia⟩);have p3:decide ((0:Int)<(((a::r).length:Nat):Int))=true:=decide_eq_true ZX;have p4:decide ((0:Int)<(((a::r).length:Nat):Int)/\(((a::r).length:Nat):Int)<1073741824)=true:=decide_eq_true ⟨ZX,hl1⟩;unfold cv;generalize hL:(((a::r).length:Nat):Int)=Ln at*;generalize hC:(a::r).map PV.int=cl at*;refine⟨_,(fin (31 * (n+1) * (n+1)+7919 * (n+1)+(a::r).getD ((n+1) % Ln).toNat 0 * (1+(n+1) / Ln))).1,(fin _).2,?_⟩;show cP (kf (F k)) 2 4 [.lst cl,.ref 0] [j9 n m]=_;simp -implicitDefEqProofs[EV,eN,cP,kf,m4,Yy,d0,st,ln,p3,ax,m3,m5,p4,ct]
def aY(x:Int){m:Int}(h:0<m):0<=x % m/\x % m<m:=⟨afO _ ⋯,afk _ h⟩
theorem ww{α:Type}{te:Ex}{cp:Ev}{h:Y3}(f:α->PV)(R:Y1->Prop):∀l:List α,(∀x∈l,∃s,R s/\te (some (f x)::cp) h=.ok (.str s) h)->∃ss:Ya,ss.length=l.length/\(∀s∈ss,R s)/\cg bK te cp (l.map f) h=.ok (ss.map PV.str) h
 |[],_=>⟨[],rfl,by simp,rfl⟩
 |x::r,hx=>by
  obtain⟨s,h1,h2⟩:=hx x adO;obtain⟨ss,g0,g1,g2⟩:=ww f R r fun z hz=>hx z (adG _ hz);refine⟨s::ss,by simp[g0],fun z hz=>?_,?_⟩
  .rcases adD.mp hz with q|q
   .subst q;exact h1
   .exact g1 z q
  .rw[adE,cg];simp only[bK,Res.M_,if_true,h2,g2,adE]
theorem yr{α β:Type}{te:Ex}{cp:Ev}{m:Int}(f:α->PV)(g:β->PV)(R:β->Prop)(c:Int)(hc:0<=c)(hi:Int):∀(l:List α)(n:Int),0<=n->n+c * l.length<=hi->(∀x∈l,∀n,0<=n->n+c<=hi->∃y n',R y/\n<=n'/\n'<=n+c/\te (some (f x)::cp) [j9 n m]=.ok (g y) [j9 n' m])->
  ∃(ys:List β)(n':Int),ys.length=l.length/\(∀y∈ys,R y)/\n<=n'/\n'<=n+c * l.length/\cg bK te cp (l.map f) [j9 n m]=.ok (ys.map g) [j9 n' m]
 |[],n,_,_,_=>⟨[],n,rfl,by simp,agW _,by simp,rfl⟩
 |x::r,n,h0,hn,hx=>by
  have e:c * ((x::r).length:Int)=c * (r.length:Int)+c:=by rw[adu,Int.natCast_add,Int.mul_add];simp
  have hr:0<=c * (r.length:Int):=Int.mul_nonneg hc ⋯;rw[e]at hn;obtain⟨y,n1,y1,y2,y3,y4⟩:=hx x adO n h0 ⋯;obtain⟨ys,n2,z0,z1,z2,z3,z4⟩:=yr f g R c hc hi r n1 ⋯ ⋯ fun z hz=>hx z (adG _ hz);refine⟨y::ys,n2,by simp[z0],fun z hz=>?_,by lia,by rw[e];lia,?_⟩
  .rcases adD.mp hz with q|q
   .subst q;exact y1
   .exact z1 z q
  .rw[adE,cg];simp only[bK,Res.M_,if_true,y4,z4,adE]
def dK(k:Nat)(cs:List Int)(hc:cs.length<=63)(n m:Int)(h0:0<=n)(h1:n<=2000000)(r:Y3):∃v,0<=v/\v<400000000/\z6 (L (k+1) .C_) [cv cs,.ref 0] (j9 n m::r)=.ok (.int v) (j9 (n+1) m::r):=by obtain⟨v,v0,v1,e⟩:=EP k cs hc n m h0 h1;exact⟨v,v0,v1,dn (fn:=L (k+1) .C_) [cv cs] [] (by rw[aq,gO];rfl) rfl rfl (bR _ _) e rfl (bR _ _)⟩
def Bl(k:Nat):F (k+1) .E_ []=.ok (.str (fC++fB)):=by
 have le:(fC).length+(fB).length<=16777216:=by decide
 show ar (nQ (F k)) 0 1 []=_;simp[EV,ar,nQ,le,aT]
def fU(k:Nat)(h:Y3):aX (F (k+1) .E_) [] h=.ok (.str (fC++fB)) h:=aL h rfl (Bl k)
def zy:(fC++fB).all (fun c=>br.contains c)=true:=by decide
def vP(l:Y1)(hl:l.length<=1000)(i:Int)(h0:0<=i)(h1:i<l.length):∃c,c∈l/\∀h,f9 (.str l) (.int i) h=.ok (.str [c]) h:=by
 have hi:i.toNat<l.length:=by lia
 refine⟨l[i.toNat],aeh hi,fun h=>?_⟩;show(match PN l i with|some c=>if l.length<=sizeLine then Res.ok (PV.str [c]) h else .bad|none=>.bad)=_;rw[eG (v:=l[i.toNat]) h0 (adx hi)];dsimp only;rw[if_pos (by rw[szl];lia)]
def sY(i:Int)(h0:0<=i)(h1:i<95):∃c,c∈br/\∀h,f9 (.str (fC++fB)) (.int i) h=.ok (.str [c]) h:=by
 have ln:(fC++fB).length=95:=by decide
 obtain⟨c,hc,e⟩:=vP (fC++fB) (by rw[ln];decide) i h0 (by rw[ln];exact h1);exact⟨c,by simpa using adX.mp zy c hc,e⟩
theorem Bz(ss:Ya)(R:Nat->Prop)(h:∀s∈ss,∃c,R c/\s= [c]):ss.flatten.length=ss.length/\∀c∈ss.flatten,R c:=by
 induction ss with
 |nil=>exact⟨rfl,fun c hc=>by cases hc⟩
 |cons a r ih=>
  obtain⟨i1,i2⟩:=ih fun s hs=>h s (by simp[hs]);obtain⟨c,rc,rfl⟩:=h a (by simp);refine⟨by rw[aes,adt,i1];simp;lia,fun d hd=>?_⟩;rw[aes]at hd;rcases adS.mp hd with q|q
  .rw[adw]at q;rw[q];exact rc
  .exact i2 d q
def Fp{ss:Ya}(hl:ss.flatten.length<=16000000)(h:Y3):eK (.str []) [.lst (ss.map PV.str)] h=.ok (.str ss.flatten) h:=by rw[<- gR];refine iK rfl ?_;rw[pE,adQ,ahw];lia
def xC(k:Nat)(v:Int)(h0:0<=v)(h1:v<400000000):∃s:Y1,s.length<=3/\(∀c∈s,c∈br)/\F (k+2) .QF [.int v]=.ok (.str s):=by
 have r0:=aY v (m:=3) ⋯;have be:QW 4611686018427387904 (1+v % 3)=true:=bD.mpr ⋯;have ne3:((3:Int)==0)=false:=by decide
 obtain⟨ss,g0,g1,g2⟩:=ww (te:=jk (F (k+1))) (cp:=cU [0] [some (.int v)]) (h:=[]) (fun i:Nat=>PV.int (0+(i:Nat))) (fun s=>∃c,c∈br/\s= [c]) (List.range (1+v % 3).toNat) fun i hi=>by rw[ad3]at hi;have b1:=aY (v / 300) (m:=94) ⋯;have q:=aY (v / 3+(0+(i:Int)) * (1+v / 300 % 94)) (m:=95) ⋯;obtain⟨c,hc,e⟩:=sY _ q.1 q.2;have mc:jg (0+(i:Int)) (1+v / 300 % 94)=true:=jK (bD.mpr ⟨by lia,by lia⟩);refine⟨[c],⟨c,hc,rfl⟩,?_⟩;show jk (F (k+1)) [some (.int (0+(i:Nat))),some (.int v)] []=_;simp -implicitDefEqProofs[EV,jk,fU,mc,e]
 obtain⟨j1,j2⟩:=Bz ss _ g1;have lr:(List.range (1+v % 3).toNat).length<16777216:=by rw[adY];lia
 have sl:ss.length<=3:=by rw[g0,adY];lia
 refine⟨ss.flatten,by rw[j1];exact sl,j2,?_⟩;have jn:=fun h=>Fp (ss:=ss) (by rw[j1];lia) h;show ar (qO (F (k+1))) 1 1 [.int v]=_;simp -implicitDefEqProofs[EV,ar,qO,be,g2,jn,adJ,lr,aT]
noncomputable def H_(l:Y1):Bool:=l.all fun c=>decide (c<1114112)
theorem NI(xs:Y2)(p:PV):aV (.ref 0) [p] [.lst xs]=if xs.length<16777216 then .ok .non [.lst (xs++ [p])]else .bad:=rfl
def EE(acc:Y2)(h:aq acc=true):aT (.ref 0) [.lst acc]=.ok (.lst acc):=by unfold aT ei;simp only[ags,h,if_true]
theorem AX(f:Nat->Nat)(m:Nat):(((List.range m).map fun i=> [f i]).flatten)=(List.range m).map f:=by
 induction m with
 |zero=>rfl
 |succ m ih=>rw[agB,adV,ad5,ih,adV];rfl
def wv(n:Int):n % 3=0\/n % 3=1\/n % 3=2:=by lia
def oO{b:Y1}(ha:H_ a=true)(hb:H_ b=true):H_ (a++b)=true:=by unfold H_ at*;rw[List.all_append,ha,hb];rfl
theorem gP{tt:Tx}{te:Ex}{cp:Ev}{h:Y3}{t:PV->Bool}{f:PV->PV}:∀(xs:Y2),(∀p∈xs,tt (some p::cp) h=.ok (t p) h)->(∀p∈xs,te (some p::cp) h=.ok (f p) h)->
  cg tt te cp xs h=.ok ((xs.filter t).map f) h
 |[],_,_=>rfl
 |p::r,h1,h2=>by
  have ih:=gP r (fun q hq=>h1 q (adG _ hq)) (fun q hq=>h2 q (adG _ hq));rw[cg,h1 p adO]
  cases e:t p with
  |true=>simp only[Res.M_,if_true,h2 p adO,ih,ahK,e,adE]
  |false=>simp only[Res.M_,aeY,if_false,ih,ahK,e]
def rP{te:Ex}{cp:Ev}{h:Y3}{f:PV->PV}(xs:Y2)(h2:∀p∈xs,te (some p::cp) h=.ok (f p) h):cg bK te cp xs h=.ok (xs.map f) h:=by have:=gP (tt:=bK) (t:=fun _=>true) xs (fun _ _=>rfl) h2;rw[this,ag5.mpr (fun _ _=>rfl)]
theorem xD:∀(l:Ya),(∀x∈l,x.length=1)->(l.map (fun l=>l.length)).sum=l.length
 |[],_=>rfl
 |x::r,h=>by rw[adE,agn,xD r (fun y hy=>h y (adG _ hy)),h x (adO ..),adu];lia
def xP{l m:Y1}(h:H_ l=true)(hm:∀c∈m,c∈l):H_ m=true:=by unfold H_ at*;rw[adX]at*;exact fun c hc=>h c (hm c hc)
def oN{l:Y1}(h:H_ l=true)(a b:Zp):H_ (cut l a b)=true:=xP h fun c hc=>by unfold cut at hc;exact agU (afb hc)
def jq(l:List α)(a b:Zp):(cut l a b).length<=l.length:=by
 unfold cut;rw[afB,aeT]
 lia
def Xh(i:Int):Nat:=cj.getD (i % 26).toNat 0
def Cn(i:Int):PN cj (i % 26)=some (Xh i):=vB 0 (afO _ ⋯) (by
 have:(cj.length:Int)=26:=by decide
 rw[this];exact afk _ ⋯)
def Cm(i:Int):H_ [Xh i]=true:=by
 have h0:=afO i (by decide:(26:Int)≠0);have h1:=afk i (by decide:(0:Int)<26);have e:cj.length=26:=by decide
 have m:Xh i∈cj:=uT (by rw[e];lia);exact xP (l:=cj) ⋯ (fun c hc=>by rw[adw.mp hc];exact m)
def Le:cj.length<=16777216:=by decide
def vQ(j:Nat):Y1:=match uD [.int (0+(j:Nat))] []with
 |.ok (.str l) _=>l
 |_=> []
def Go(h:Y3):((List.range 12).map fun j=>uD [.int (0+(j:Nat))] h)=(List.range 12).map fun j=>Res.ok (.str (vQ j)) h:=by kernel_rfl
def IZ:((List.range 12).all fun j=>H_ (vQ j)&&decide ((vQ j).length<=2))=true:=by kernel_rfl
def zu(k:Nat)(n:Int)(W:Y1)(hW:H_ W=true)(lW:W.length<=8)(j:Nat)(hj:j<12)(x6:Option PV)(acc:Y2)(ha:acc.length<16777216):∃l Y0,H_ l=true/\
  dR (F k) [some (.int n),some (.str cj),some (.str W),some (.int (n / 24 % 8)),some (.ref 0),some (.int (0+(j:Nat))),x6] [.lst acc]=.nx [some (.int n),some (.str cj),some (.str W),some (.int (n / 24 % 8)),some (.ref 0),some (.int (0+(j:Nat))),Y0] [.lst (acc++ [.str l])]:=by
 have st:=fun h=>List.map_inj_left.mp (Go h) j (ad3.mpr hj);have so:=adX.mp IZ j (ad3.mpr hj);rw[adI]at so;have sl:(vQ j).length<=2:=of_decide_eq_true so.2;have p1:decide ((0:Int)<192/\(192:Int)<1073741824)=true:=by decide
 have p2:decide ((0:Int)<26)=true:=by decide
 have p3:decide ((0:Int)<3)=true:=by decide
 have p4:decide ((0:Int)<3/\(3:Int)<1073741824)=true:=by decide
 have p5:decide ((0:Int)<8)=true:=by decide
 have m7:∀x:Int,jg 7 x=true:=fun x=>sX ⋯;have az:=Cn (n / 192+7 * (0+(j:Nat))+1);have ao:=Cm (n / 192+7 * (0+(j:Nat))+1);generalize Xh (n / 192+7 * (0+(j:Nat))+1)=s at az ao;have zl:=Le;have d0:∀xs:Y2,aj [.lst xs] (.ref 0)=.ref 0:=fun xs=>rfl;have li:∀xs,bY [.lst xs] (.ref 0)=true:=fun _=>rfl;have ap:=NI;have wl:W.length<=16777216:=by lia
 have c1:=jq W none (some 1);have c2:=jq W none (some (n / 24 % 8));have c3:=jq W (some (n / 24 % 8+1)) none;have o1:H_ (cut W none (some 1)++vQ j)=true:=oO (oN hW _ _) so.1;have o2:H_ (cut W none (some (n / 24 % 8))++[s]++cut W (some (n / 24 % 8+1)) none)=true:=oO (oO (oN hW _ _) ao) (oN hW _ _);have o3:H_ (cut ([s]++W) none (some (1+n / 3 % 8)))=true:=oN (oO ao hW) _ _;have l1:(cut W none (some 1)).length+(vQ j).length<=16777216:=by lia
 have l2:(cut W none (some (n / 24 % 8))).length+1<=16777216:=by lia
 have l3:(cut W none (some (n / 24 % 8))).length+1+(cut W (some (n / 24 % 8+1)) none).length<=16777216:=by lia
 have l4:1+W.length<=16777216:=by lia
 have l5:W.length+1<=16777216:=by lia
 have l6:W.length<=16777215:=by lia
 obtain⟨l,ol,al⟩:∃l,H_ l=true/\PN [PV.str (cut W none (some 1)++vQ j),.str (cut W none (some (n / 24 % 8))++[s]++cut W (some (n / 24 % 8+1)) none),.str (cut ([s]++W) none (some (1+n / 3 % 8)))] (n % 3)=some (.str l):=by
  rcases wv n with q|q|q<;>rw[q]
  .exact⟨_,o1,rfl⟩
  .exact⟨_,o2,rfl⟩
  .exact⟨_,o3,rfl⟩
 rw[ae3]at al;refine⟨l,some (.str [s]),ol,?_⟩;simp[EV,Jc,dR,d0,li,p1,p2,p3,p4,p5,m7,az,zl,wl,st,l1,l2,l3,l4,l5,l6,adt,al,ap,ha]
theorem rn(k:Nat)(n:Int)(W:Y1)(hW:H_ W=true)(lW:W.length<=8):∀(js:Y1)(x5 x6:Option PV)(acc:Y2),(∀j∈js,j<12)->acc.length+js.length<16777216->∃(ls:Ya)(y5 y6:Option PV),ls.length=js.length/\(∀l∈ls,H_ l=true)/\
  bf (z7 5) (dR (F k)) (js.map fun j=>PV.int (0+(j:Nat))) [some (.int n),some (.str cj),some (.str W),some (.int (n / 24 % 8)),some (.ref 0),x5,x6] [.lst acc]=.nx [some (.int n),some (.str cj),some (.str W),some (.int (n / 24 % 8)),some (.ref 0),y5,y6] [.lst (acc++ls.map PV.str)]
 |[],x5,x6,acc,_,_=>⟨[],x5,x6,rfl,by simp,by simp[bf]⟩
 |j::r,x5,x6,acc,hj,hl=>by
  rw[adu]at hl;obtain⟨l,Y0,ol,e⟩:=zu k n W hW lW j (hj j (adO ..)) x6 acc ⋯;obtain⟨ls,y5,y6,e1,e2,e3⟩:=rn k n W hW lW r (some (.int (0+(j:Nat)))) Y0 (acc++ [.str l]) (fun i hi=>hj i (adG _ hi)) (by rw[adt,adH];lia);refine⟨l::ls,y5,y6,by rw[adu,adu,e1],fun z hz=>?_,?_⟩
  .rcases adD.mp hz with q|q
   .rw[q];exact ol
   .exact e2 z q
  .rw[adN]at e3;have g:(l::ls).map PV.str= [PV.str l]++ls.map PV.str:=rfl;rw[g,<- e3]
   show(match dR (F k) [some (.int n),some (.str cj),some (.str W),some (.int (n / 24 % 8)),some (.ref 0),some (.int (0+(j:Nat))),x6] [.lst acc]with
    |.nx ρ2 h2=>bf (z7 5) (dR (F k)) (r.map fun j=>PV.int (0+(j:Nat))) ρ2 h2
    |.ct ρ2 h2=>bf (z7 5) (dR (F k)) (r.map fun j=>PV.int (0+(j:Nat))) ρ2 h2
    |.bk ρ2 h2=>.nx ρ2 h2
    |.rt v h2=>.rt v h2
    |.exc v h2=>.exc v h2
    |.bad=>.bad)=_
   rw[e]
def vf(hv:v.pure=true):aT v []=.ok v:=er _ hv
def Ey(h:Y3)(hp:aq xs=true):ei h (.lst xs)=some (.lst xs,h):=eP h (by rw[PV.pure];exact hp)
def tu(h:Y3)(hp:aq xs=true):ei h (.tup xs)=some (.tup xs,h):=eP h (by rw[PV.pure];exact hp)
def Bi(k:Nat)(n:Int):∃ls:Ya,ls.length=12/\(∀l∈ls,H_ l=true)/\F (k+1) .Rq [.int n]=.ok (.lst (ls.map PV.str)):=by
 let f:Nat->Nat:=fun j=>Xh (n / 192+5 * (0+(j:Int)))
 have hW:H_ ((List.range 8).map f)=true:=by unfold H_;rw[adX];intro c hc;obtain⟨j,_,rfl⟩:=adT.mp hc;have:=Cm (n / 192+5 * (0+(j:Int)));unfold H_ at this;exact adX.mp this _ (adw.mpr rfl)
 have lW:((List.range 8).map f).length<=8:=by simp
 obtain⟨ls,y5,y6,e1,e2,e3⟩:=rn k n ((List.range 8).map f) hW lW (List.range 12) none none [] (fun j hj=>ad3.mp hj) (by simp);rw[ad1]at e3;refine⟨ls,by rw[e1,adY],e2,?_⟩;show ar (nP (F k)) 1 7 [.int n]=_;have p1:decide ((0:Int)<192/\(192:Int)<1073741824)=true:=by decide
 have p2:decide ((0:Int)<26)=true:=by decide
 have p3:decide ((0:Int)<24/\(24:Int)<1073741824)=true:=by decide
 have p5:decide ((0:Int)<8)=true:=by decide
 have m5:∀x:Int,jg 5 x=true:=fun x=>sX ⋯;have zl:=Le
 have cm:∀h,cg bK (jU (F k)) [some (.str cj),some (.int n)] ((List.range (Int.toNat 8)).map fun i=>PV.int (0+(i:Nat))) h=.ok (((List.range 8).map fun i=> [f i]).map PV.str) h:=fun h=>by
  rw[rP (f:=fun p=>match p with|.int i=>.str [Xh (n / 192+5 * i)]|_=>.non) _ (fun p hp=>by obtain⟨i,hi,rfl⟩:=adT.mp hp;have Yk:=Cn (n / 192+5 * (0+(i:Int)));simp[EV,jU,p1,p2,m5,Yk,zl]),aen,aen]
  rfl
 have b8:QW 4611686018427387904 8=true:=rfl;have b12:QW 4611686018427387904 12=true:=rfl
 have jn:∀h,eK (.str []) [.lst (((List.range 8).map fun i=> [f i]).map PV.str)] h=.ok (.str ((List.range 8).map fun i=> [f i]).flatten) h:=fun h=>DB (by rw[xD _ (fun x hx=>by obtain⟨c,_,rfl⟩:=adT.mp hx;rfl),adJ,adY];decide)
 have ln:((List.range (Int.toNat 8)).map fun i=>PV.int (0+(i:Nat))).length<16777216:=by decide
 have cp:∀ ρ:Ev,cU [1,0] (some (PV.int n)::some (.str cj)::ρ)=[some (.str cj),some (.int n)]:=fun _=>rfl;have r12:(List.range (Int.toNat 12))=List.range 12:=rfl;have fr:aT (.ref 0) [.lst (ls.map PV.str)]=.ok (.lst (ls.map PV.str)):=EE _ (bz ls);have d0:∀xs:Y2,aj [.lst xs] (.ref 0)=.ref 0:=fun xs=>rfl;have om:=AX f 8;simp[EV,ar,nP,b8,b12,ln,cp,cm,jn,om,p3,p5,r12,e3,d0,fr]
abbrev Si:=Y1×Ya×Nat
noncomputable def it(x:Si):PV:=.tup [.tup ((x.1::x.2.1).map PV.str),.str [x.2.2]]
noncomputable def knd:Y1:=[116,119,110,98,108,109]
def Am(x:Si):Prop:=H_ x.1=true/\(∀l∈x.2.1,H_ l=true)/\x.2.2∈knd
def gW(ps:Ya)(ls:Ya)(j:Nat):Si:=match ps with
 |[]=>(ls.getD j [],[],[116,119,110,98].getD j 0)
 |p::r=>(p,r++ [ls.getD j []],[116,119,110,98].getD j 0)
def Df(ps ls:Ya)(j:Nat):it (gW ps ls j)=.tup [.tup ((ps++ [ls.getD j []]).map PV.str),.str [[116,119,110,98].getD j 0]]:=by cases ps<;>rfl
def gf(h:∀l∈ls,H_ l=true)(j:Nat):H_ (ls.getD j [])=true:=by
 rcases aeN j ls.length with q|q
 .exact h _ (uT q)
 .rw[adM,aeK q];rfl
theorem sK{ps:Ya}(hp:∀l∈ps,H_ l=true)(hl:∀l∈ls,H_ l=true)(j:Nat)(hj:j<4):Am (gW ps ls j):=by
 have k4: [116,119,110,98].getD j 0∈knd:=by rcases(by lia:j=0\/j=1\/j=2\/j=3)with rfl|rfl|rfl|rfl<;>decide
 cases ps with
 |nil=>exact⟨gf hl j,by simp[gW],k4⟩
 |cons p r=>
  refine⟨hp p (adO ..),fun l hm=>?_,k4⟩;rcases adS.mp hm with q|q
  .exact hp l (adG _ q)
  .rw[adw.mp q];exact gf hl j
theorem Cu(ps:Ya)(h4:ps.length<=4)(x:Y1)(h:Y3):aG (.tup (ps.map PV.str)) (.tup [.str x]) h=.ok (.tup ((ps++ [x]).map PV.str)) h:=by
 cases ps with
 |nil=>rfl
 |cons p r=>show zj (.tup (PV.str p::r.map PV.str)) (.tup [.str x]) h=_;rw[adu]at h4;rw[IE,if_pos ⟨rfl,by rw[szl,adu,adJ,adu,adQ];lia⟩];rw[adV];rfl
def vV(k:Nat)(ps ls:Ya)(Qw:ls.length=12)(h4:ps.length<=4):F (k+1) .R0 [.tup (ps.map PV.str),.lst (ls.map PV.str)]=.ok (.lst ((List.range 4).map fun j=>it (gW ps ls j))):=by
 show ar (tJ (F k)) 2 2 [.tup (ps.map PV.str),.lst (ls.map PV.str)]=_;have ad:=Cu ps h4
 have cm:∀h,cg bK (nF (F k)) [some (.tup (ps.map PV.str)),some (.lst (ls.map PV.str))] ((List.range (Int.toNat 4)).map fun i=>PV.int (0+(i:Nat))) h=.ok ((List.range 4).map fun j=>it (gW ps ls j)) h:=fun h=>by
  rw[rP (f:=fun p=>match p with|.int i=>it (gW ps ls i.toNat)|_=>.non) _ (fun p hp=>by
   obtain⟨i,hi,rfl⟩:=adT.mp hp;have hi4:i<4:=ad3.mp hi
   have a1:PN (ls.map PV.str) (0+(i:Int))=some (.str (ls.getD i [])):=eG ⋯ (by rw[adZ,adM,show(0+(i:Int)).toNat=i by lia,adx ⋯];rfl)
   have a2:PN [116,119,110,98] (0+(i:Int))=some ([116,119,110,98].getD i 0):=eG ⋯ (by rw[adM,show(0+(i:Int)).toNat=i by lia,adx (by simpa using hi4)];rfl)
   have e0:(0+(i:Int)).toNat=i:=by lia
   have l4:(4:Nat)<=16777216:=by decide
   simp[EV,nF,ad,a1,a2,e0,Df]),aen]
  rfl
 have b4:QW 4611686018427387904 4=true:=rfl;have ln:((List.range (Int.toNat 4)).map fun i=>PV.int (0+(i:Nat))).length<16777216:=by decide
 have cp:∀a b:Option PV,cU [0,1] [a,b]=[a,b]:=fun a b=>by cases a<;>cases b<;>rfl
 have pu:∀xs:List Si,aq (xs.map it)=true:=fun xs=>by
  induction xs with
  |nil=>rfl
  |cons x r ih=>rw[adE,aq,ih,aek];show aq [PV.tup ((x.1::x.2.1).map PV.str),.str [x.2.2]]=true;simp only[aq,PV.pure,bz,aek]
 have fr:aT (.lst ((List.range 4).map fun j=>it (gW ps ls j))) []=.ok (.lst ((List.range 4).map fun j=>it (gW ps ls j))):=vf (by
  rw[PV.pure];have:=pu ((List.range 4).map fun j=>gW ps ls j)
  rwa [aen]at this)
 simp[EV,ar,tJ,b4,ln,cp,cm,fr]
theorem mu:∀xs:List Si,aq (xs.map it)=true
 |[]=>rfl
 |x::r=>by rw[adE,aq,mu r,aek];show aq [PV.tup ((x.1::x.2.1).map PV.str),.str [x.2.2]]=true;simp only[aq,PV.pure,bz,aek]
def Bg(j:Nat)(h:j<ls.length):PN (ls.map PV.str) (j:Int)=some (.str (ls.getD j [])):=eG ⋯ (by rw[adZ,adM,aeR,adx h];rfl)
noncomputable def b7(ls:Ya):Ya:=(List.range 7).map fun j=>ls.getD j []
def nT(ls:Ya)(j:Nat)(hj:j<7):ls.getD j []∈b7 ls:=adT.mpr ⟨j,ad3.mpr hj,rfl⟩
def Ar(k:Nat)(ls:Ya)(Qw:ls.length=12)(ho:∀l∈ls,H_ l=true):∃sc:List Si,sc.length=10/\(∀x∈sc,Am x/\x.1∈b7 ls/\x.2.1.length<=1)/\F (k+2) .Rp [.lst (ls.map PV.str)]=.ok (.lst (sc.map it)):=by
 have r1:=vV k [] ls Qw (by simp);have r2:=vV k [ls.getD 4 []] ls Qw (by simp);have fl:=fun h=>Ey h (bz ls);have f0:∀h,ei h (.tup [])=some (.tup [],h):=fun h=>tu h rfl;have f1:∀x h,ei h (.tup [.str x])=some (.tup [.str x],h):=fun x h=>tu h rfl;have n4:PN (ls.map PV.str) 4=some (.str (ls.getD 4 [])):=Bg 4 ⋯;have n5:PN (ls.map PV.str) 5=some (.str (ls.getD 5 [])):=Bg 5 ⋯;have n6:PN (ls.map PV.str) 6=some (.str (ls.getD 6 [])):=Bg 6 ⋯
 let sc:List Si:=((List.range 4).map fun j=>gW [] ls j)++((List.range 4).map fun j=>gW [ls.getD 4 []] ls j)++[(ls.getD 5 [],[],108),(ls.getD 6 [],[],109)];have e1:((List.range 4).map fun j=>it (gW [] ls j)).length=4:=by simp
 have e2:((List.range 4).map fun j=>it (gW [ls.getD 4 []] ls j)).length=4:=by simp
 refine⟨sc,by simp[sc],fun x hx=>?_,?_⟩
 .rcases adS.mp hx with q|q
  .rcases adS.mp q with q|q
   .obtain⟨j,hj,rfl⟩:=adT.mp q;have hj:=ad3.mp hj;exact⟨sK (by simp) ho j hj,nT ls j ⋯,aex _⟩
   .obtain⟨j,hj,rfl⟩:=adT.mp q;exact⟨sK (fun l hl=>by rw[adw.mp hl];exact gf ho 4) ho j (ad3.mp hj),nT ls 4 ⋯,adA _⟩
  .rcases adD.mp q with q|q
   .rw[q];exact⟨⟨gf ho 5,by simp,(by decide:108∈knd)⟩,nT ls 5 ⋯,aex _⟩
   .rw[adw.mp q];exact⟨⟨gf ho 6,by simp,(by decide:109∈knd)⟩,nT ls 6 ⋯,aex _⟩
 .have em:sc.map it=((List.range 4).map fun j=>it (gW [] ls j))++((List.range 4).map fun j=>it (gW [ls.getD 4 []] ls j))++[.tup [.tup [.str (ls.getD 5 [])],.str [108]],.tup [.tup [.str (ls.getD 6 [])],.str [109]]]:=by simp only[sc,adV,aen];rfl
  have fr:aT (.lst (sc.map it)) []=.ok (.lst (sc.map it)):=vf (by rw[PV.pure];exact mu sc);rw[em]at fr |-;show ar (nN (F (k+1))) 1 1 [.lst (ls.map PV.str)]=_;rw[afq]at r1;rw[adE,afq]at r2;generalize((List.range 4).map fun j=>it (gW [] ls j))=R1 at*;generalize((List.range 4).map fun j=>it (gW [ls.getD 4 []] ls j))=R2 at*;have l1:R1.length+R2.length<=16777216:=by lia
  have l2:R1.length+R2.length+2<=16777216:=by lia
  have al:∀(a b:Y2)(h:Y3),a.length+b.length<=16777216->aG (.lst a) (.lst b) h=.ok (.lst (a++b)) h:=fun a b h q=>by show(if a.length+b.length<=sizeLine then _ else _)=_;rw[if_pos (by rw[szl];exact q)]
  have a1:=fun h=>al R1 R2 h l1;have a2:=fun h=>al (R1++R2) [.tup [.tup [.str (ls.getD 5 [])],.str [108]],.tup [.tup [.str (ls.getD 6 [])],.str [109]]] h (by rw[adt];simpa using l2);simp[EV,ar,nN,a1,a2,cJ,fl,f0,f1,n4,n5,n6,r1,r2,l1,l2,adt,fr]
section
variable(μ:Y1->Nat)
def M(ps:Ya):Nat:=(ps.map μ).sum
theorem Cz(a b:Ya):M μ (a++b)=M μ a+M μ b:=by unfold M;rw[adV,List.sum_append]
mutual
noncomputable def tN:Nd->Nat
 |.text s=>μ s
 |.place _ _ _=>0
 |.loop _ _ _ _ _=>0
 |.choice _ _ _ _=>0
noncomputable def tS:List Nd->Nat
 |[]=>0
 |n::r=>tN n+tS r
end
mutual
def Vg(W:Nat):Nd->Prop
 |.loop _ _ _ ns b=>tS μ ns+μ b<=W/\Vf W ns
 |.choice _ _ y n=>tS μ y<=W/\tS μ n<=W/\Vf W y/\Vf W n
 |.text _=>True
 |.place _ _ _=>True
def Vf(W:Nat):List Nd->Prop
 |[]=>True
 |n::r=>Vg W n/\Vf W r
end
noncomputable def GR.m:GR->Nat
 |.ok _ m _=>m
 |.no _ m _=>m
def kK(W m t:Nat)(ps:Ya)(r:GR):Prop:=m<=r.m/\M μ r.ps<=M μ ps+t+(r.m - m) * W
theorem Cg{W m m1 t t1:Nat}{ps:Ya}{r:GR}(h:kK μ W m1 t1 ps r)(l:m<=m1)(e:t1<=t+(m1 - m) * W):kK μ W m t ps r:=by
 refine⟨adR l h.1,adR h.2 ?_⟩;have:(r.m - m) * W=(r.m - m1) * W+(m1 - m) * W:=by rw[<- afG];congr 1;have:=h.1;lia
 lia
theorem pA{W:Nat}{sc:List (PK×PV)}{m:Nat}{ps:Ya}(h:∀v,kK μ W (m+1) W ps (k v)):kK μ W m 0 ps (eS sc a f m ps k):=by
 unfold eS
 split
 .exact⟨adA _,by show M μ ps<=_;lia⟩
 .split
  .exact Cg μ (h _) ⋯ (by rw[show m+1 - m=1 by lia];lia)
  .exact⟨by show m<=m+1;lia,by show M μ ps<=_;lia⟩
theorem uw{W:Nat}{f:PV->Nat->Ya->GR}{b:Y1}{t:Nat}(hb:t+μ b<=W)(h:∀v m ps,kK μ W m t ps (f v m ps)):∀(ts:Y2)(i m:Nat)(ps:Ya),kK μ W m 0 ps (bN f b i ts m ps)
 |[],i,m,ps=>by rw[bN];exact⟨adA _,by show M μ ps<=_;lia⟩
 |v::r,i,m,ps=>by
  rw[bN]
  split
  .exact⟨adA _,by show M μ ps<=_;lia⟩
  .have q:=h v (m+1) (if i=0 then ps else ps++ [b])
   have pm:M μ (if i=0 then ps else ps++ [b])<=M μ ps+μ b:=by
    split
    .lia
    .rw[Cz];simp[M]
   cases e1:f v (m+1) (if i=0 then ps else ps++ [b])with
   |no w m1 p1=>
    rw[e1]at q;have q1:m+1<=m1:=q.1;have q2:M μ p1<=M μ (if i=0 then ps else ps++ [b])+t+(m1 - (m+1)) * W:=q.2;refine⟨by show m<=m1;lia,?_⟩;show M μ p1<=M μ ps+0+(m1 - m) * W;have:(m1 - m) * W=(m1 - (m+1)) * W+W:=by rw[show m1 - m=m1 - (m+1)+1 by lia,afG,Nat.one_mul]
    lia
   |ok vs m1 p1=>
    rw[e1]at q;have q1:m+1<=m1:=q.1;have q2:M μ p1<=M μ (if i=0 then ps else ps++ [b])+t+(m1 - (m+1)) * W:=q.2;have R:=uw hb h r (i+1) m1 p1
    have fin:∀r:GR,kK μ W m1 0 p1 r->kK μ W m 0 ps r:=fun r R=>by
     refine⟨by have:=R.1;lia,?_⟩;have r1:=R.1;have r2:=R.2
     have:(r.m - m) * W=(r.m - m1) * W+((m1 - (m+1)) * W+W):=by rw[show r.m - m=(r.m - m1)+((m1 - (m+1))+1) by lia,afG,afG,Nat.one_mul]
     lia
    dsimp only
    cases e2:bN f b (i+1) r m1 p1 with
    |no w m2 p2=>rw[e2]at R;exact fin (.no w m2 p2) R
    |ok ws m2 p2=>rw[e2]at R;exact fin (.ok ws m2 p2) R
mutual
theorem Et{W:Nat}(hW:∀s:Y1,s.length<=2000->μ s<=W):∀(n:Nd)(sc:List (PK×PV))(m:Nat)(ps:Ya),Vg μ W n->kK μ W m (tN μ n) ps (goN sc n m ps)
 |.text s,sc,m,ps,w=>by rw[goN,tN];refine⟨adA _,?_⟩;show M μ (ps++ [s])<=_;rw[Cz];simp[M]
 |.place a f wy,sc,m,ps,w=>by
  rw[goN,tN];refine pA μ fun v=>?_
  split
  .rename_i s e;have:=hW s ((hU e).2 rfl).2.1;refine⟨adA _,?_⟩;show M μ (ps++ [s])<=_;rw[Cz];simp[M]
   lia
  .exact⟨adA _,by show M μ ps<=_;lia⟩
 |.loop x a f ns b,sc,m,ps,w=>by
  rw[Vg]at w;rw[goN,tN];refine pA μ fun v=>?_
  split
  .rename_i ts;have R:=uw μ (f:=fun t m ps=>aE (aK sc (.inr x) t) ns m ps) w.1 (fun v m ps=>iR hW ns _ m ps w.2) ts 0 (m+1) ps;have fin:∀r:GR,kK μ W (m+1) 0 ps r->kK μ W (m+1) W ps r:=fun r R=>⟨R.1,by have:=R.2;lia⟩
   split<;>rename_i z<;>rw[z]at R<;>exact fin _ R
  .exact⟨adA _,by show M μ ps<=_;lia⟩
 |.choice a f y n,sc,m,ps,w=>by
  rw[Vg]at w;rw[goN,tN];refine pA μ fun v=>?_;have fin:∀(t:Nat)(r:GR),t<=W->kK μ W (m+1) t ps r->kK μ W (m+1) W ps r:=fun t r ht R=>⟨R.1,by have:=R.2;lia⟩
  split
  .have R:=iR hW y sc (m+1) ps w.2.2.1
   split<;>rename_i z<;>rw[z]at R<;>exact fin _ _ w.1 R
  .have R:=iR hW n sc (m+1) ps w.2.2.2
   split<;>rename_i z<;>rw[z]at R<;>exact fin _ _ w.2.1 R
  .exact⟨adA _,by show M μ ps<=_;lia⟩
theorem iR{W:Nat}(hW:∀s:Y1,s.length<=2000->μ s<=W):∀(l:List Nd)(sc:List (PK×PV))(m:Nat)(ps:Ya),Vf μ W l->kK μ W m (tS μ l) ps (aE sc l m ps)
 |[],sc,m,ps,_=>by rw[aE,tS];exact⟨adA _,by show M μ ps<=_;lia⟩
 |n::r,sc,m,ps,w=>by
  rw[Vf]at w;rw[aE,tS];have a:=Et hW n sc m ps w.1
  cases e1:goN sc n m ps with
  |no w1 m1 p1=>rw[e1]at a;have a2:M μ p1<=M μ ps+tN μ n+(m1 - m) * W:=a.2;exact⟨a.1,by show M μ p1<=M μ ps+(tN μ n+tS μ r)+(m1 - m) * W;lia⟩
  |ok vs m1 p1=>
   rw[e1]at a;have a1:m<=m1:=a.1;have a2:M μ p1<=M μ ps+tN μ n+(m1 - m) * W:=a.2;have R:=iR hW r sc m1 p1 w.2
   have fin:∀q:GR,kK μ W m1 (tS μ r) p1 q->kK μ W m (tN μ n+tS μ r) ps q:=fun q R=>by
    refine⟨by have:=R.1;lia,?_⟩;have r1:=R.1;have r2:=R.2;have:(q.m - m) * W=(q.m - m1) * W+(m1 - m) * W:=by rw[<- afG];congr 1;lia
    lia
   dsimp only
   cases e2:aE sc r m1 p1 with
   |no w2 m2 p2=>rw[e2]at R;exact fin (.no w2 m2 p2) R
   |ok ws m2 p2=>rw[e2]at R;exact fin (.ok ws m2 p2) R
end
end
def vI{sc:List (PK×PV)}{m:Nat}(hm:m<=2000){ps:Ya}(h:∀v,m<2000->(k v).m<=2000):(eS sc a f m ps k).m<=2000:=by
 unfold eS
 split
 .exact hm
 .split
  .exact h _ ⋯
  .show m+1<=2000;lia
theorem AC{f:PV->Nat->Ya->GR}(h:∀v m ps,m<=2000->(f v m ps).m<=2000)(b:Y1):∀(ts:Y2)(i m:Nat)(ps:Ya),m<=2000->(bN f b i ts m ps).m<=2000
 |[],i,m,ps,hm=>by rw[bN];exact hm
 |v::r,i,m,ps,hm=>by
  rw[bN]
  split
  .exact hm
  .have q:=h v (m+1) (if i=0 then ps else ps++ [b]) ⋯
   cases e:f v (m+1) (if i=0 then ps else ps++ [b])with
   |no w m1 p1=>rw[e]at q;exact q
   |ok vs m1 p1=>
    rw[e]at q;have t:=AC h b r (i+1) m1 p1 q;dsimp only
    cases e2:bN f b (i+1) r m1 p1 with
    |no w m2 p2=>rw[e2]at t;exact t
    |ok ws m2 p2=>rw[e2]at t;exact t
mutual
theorem Kz(sc:List (PK×PV)):∀(n:Nd)(m:Nat)(ps:Ya),m<=2000->(goN sc n m ps).m<=2000
 |.text s,m,ps,hm=>by rw[goN];exact hm
 |.place a f w,m,ps,hm=>by
  rw[goN];refine vI hm fun v h=>?_
  split<;>exact h
 |.loop x a f ns b,m,ps,hm=>by
  rw[goN];refine vI hm fun v h=>?_
  split
  .rename_i ts;have t:=AC (fun v m ps h=>qu (aK sc (.inr x) v) ns m ps h) b ts 0 (m+1) ps h
   split<;>rename_i z<;>rw[z]at t<;>exact t
  .exact h
 |.choice a f y n,m,ps,hm=>by
  rw[goN];refine vI hm fun v h=>?_
  split
  .have t:=qu sc y (m+1) ps h
   split<;>rename_i z<;>rw[z]at t<;>exact t
  .have t:=qu sc n (m+1) ps h
   split<;>rename_i z<;>rw[z]at t<;>exact t
  .exact h
theorem qu(sc:List (PK×PV)):∀(l:List Nd)(m:Nat)(ps:Ya),m<=2000->(aE sc l m ps).m<=2000
 |[],m,ps,hm=>by rw[aE];exact hm
 |n::r,m,ps,hm=>by
  rw[aE];have a:=Kz sc n m ps hm
  split
  .rename_i v m1 p1 z;rw[z]at a;have t:=qu sc r m1 p1 a
   split<;>rename_i y<;>rw[y]at t<;>exact t
  .rename_i z;rw[z]at a;exact a
end
theorem Gd:∀l:Ya,M (fun _=>1) l=l.length
 |[]=>rfl
 |a::r=>by have:=Gd r;unfold M at this |-;rw[adE,agn,this,adu];lia
def BK(sc:List (PK×PV))(h1:Vf List.length 7000 l)(h2:Vf (fun _=>1) 7000 l)(t1:tS List.length l<=100000)(t2:tS (fun _=>1) l<=100000):(aE sc l 0 []).ps.length<=16000000/\(aE sc l 0 []).ps.flatten.length<=16000000:=by
 have m:=qu sc l 0 [] ⋯;have a:=(iR List.length (W:=7000) (fun s h=>by lia) l sc 0 [] h1).2;have b:=(iR (fun _=>1) (W:=7000) (fun s h=>by lia) l sc 0 [] h2).2;have z:((aE sc l 0 []).m - 0) * 7000<=2000 * 7000:=agT _ ⋯;have f:(aE sc l 0 []).ps.flatten.length=M List.length (aE sc l 0 []).ps:=by unfold M;rw[afS]
 have g:(aE sc l 0 []).ps.length=M (fun _=>1) (aE sc l 0 []).ps:=(Gd _).symm;have e1:M List.length []=0:=rfl;have e2:M (fun _=>1) []=0:=rfl;rw[f,g]
 lia
noncomputable def Wa:Nd->Bool
 |.text _=>true
 |_=>false
noncomputable def kT:Nd->Y1
 |.text _=>tT
 |.place .. =>tP
 |.loop .. =>tL
 |.choice .. =>tC
theorem Ms(n:Nd)(h:Y3):f9 (nd n) (.int 0) h=.ok (.str (kT n)) h:=by
 cases n with
 |text s=>exact(xW h s).1
 |place a f w=>exact(qj h a f w).1
 |loop x a f ns b=>exact(ms h x a f ns b).1
 |choice a f y n=>exact(qk h a f y n).1
theorem Eh(n:Nd)(h:Y3):z_ (.str (kT n)) (.str tT) h=.ok (.bl (Wa n)) h:=by
 have tg:=Tn h
 cases n with
 |text s=>exact tg.1
 |place a f w=>exact tg.2.1
 |loop x a f ns b=>exact tg.2.2.2.1
 |choice a f y n=>exact tg.2.2.2.2.2.2.1
theorem mP(μ:Y1->Nat):∀a b:List Nd,tS μ (a++b)=tS μ a+tS μ b
 |[],b=>by rw[tS];simp
 |n::r,b=>by rw[aei,tS,tS,mP μ r b];lia
def Hk{l:Y2}(hl:fds 59 l):Rc (.ref 0) (.lst []) [.lst l]=.ok (.bl (!l.isEmpty)) [.lst l]:=by
 have ok:R5 [.lst l] (.ref 0)=true:=by
  unfold R5 QV;have:=hl.2.1;simp only[ags,PyData.canLay0,PyData.depth,hl.1,aeS,decide_eq_true_eq]
  lia
 unfold Rc;rw[if_pos ⟨ok,rfl⟩]
 cases l<;>rfl
noncomputable def qW(l:List Nd):Nd->List Nd
 |.text s=>match l.getLast? with
  |some (.text t)=>l.dropLast++ [.text (t++s)]
  |_=>l++ [.text s]
 |n=>l++ [n]
def yB{n:Nd}(h:Wa n=false):qW l n=l++ [n]:=by cases n<;>first|rfl|cases h
def Ct(n:Nd):qW [] n= [n]:=by cases n<;>rfl
theorem Cr{m n:Nd}(h:Wa m=false):qW (l++ [m]) n=l++ [m]++[n]:=by
 cases n with
 |text s=>rw[qW,agV];cases m<;>first|rfl|cases h
 |_=>rfl
def Cs(l:List Nd)(u s:Y1):qW (l++ [.text u]) (.text s)=l++ [.text (u++s)]:=by rw[qW,agV,List.dropLast_concat]
theorem ET(acc:List Nd)(n:Nd):qW acc n=acc++ [n]\/∃B u s,acc=B++ [.text u]/\n=.text s/\qW acc n=B++ [.text (u++s)]:=by
 cases t:Wa n with
 |false=>exact .inl (yB t)
 |true=>
  obtain⟨s,rfl⟩:∃s,n=.text s:=by cases n<;>first|exact⟨_,rfl⟩|cases t
  rcases agM acc with rfl|⟨B,m,rfl⟩
  .exact .inl (Ct _)
  .rw[agN]
   cases tm:Wa m with
   |false=>exact .inl (Cr tm)
   |true=>
    obtain⟨u,rfl⟩:∃u,m=.text u:=by cases m<;>first|exact⟨_,rfl⟩|cases tm
    exact .inr ⟨B,u,s,rfl,rfl,Cs ..⟩
theorem AY(k:Nat)(v:PV)(acc:List Nd)(n:Nd)(hf:fds 59 (acc.map nd))(hl:acc.length<16777216)(ht:tS List.length acc+tN List.length n<=1000000):eV (F k) [some v,some (.ref 0),some (nd n)] [.lst (acc.map nd)]=.nx [some v,some (.ref 0),some (nd n)] [.lst ((qW acc n).map nd)]:=by
 have d0:∀xs:Y2,aj [.lst xs] (.ref 0)=.ref 0:=fun xs=>rfl;have li:∀xs,bY [.lst xs] (.ref 0)=true:=fun _=>rfl;have ne:=Hk hf;have k0:=Ms
 have ap:aV (.ref 0) [nd n] [.lst (acc.map nd)]=.ok .non [.lst ((acc++ [n]).map nd)]:=by rw[IC,if_pos (by rw[adJ];exact aeI hl ⋯),adV];rfl
 cases t:Wa n with
 |false=>rw[yB t];simp[EV,eV,bc,k0,Eh,t,d0,li,ap]
 |true=>
  obtain⟨s,rfl⟩:∃s,n=.text s:=by cases n<;>first|exact⟨_,rfl⟩|cases t
  rcases agM acc with rfl|⟨B,m,rfl⟩
  .rw[Ct];have e0:(!(([]:List Nd).map nd).isEmpty)=false:=rfl;rw[e0]at ne;simp only[afq]at ne ap |-;simp[EV,eV,bc,k0,Eh,t,d0,li,ne,ap]
  .rw[agN]at ne ap hl ht |-;have e0:(!((B++ [m]).map nd).isEmpty)=true:=by simp
   rw[e0]at ne
   have ixl:f9 (.ref 0) (.int (-1)) [.lst ((B++ [m]).map nd)]=.ok (nd m) [.lst ((B++ [m]).map nd)]:=by
    show(match PN ((B++ [m]).map nd) (-1)with|some v=>Res.ok (aj [.lst ((B++ [m]).map nd)] v) [.lst ((B++ [m]).map nd)]|none=>.bad)=_;have q:PN ((B++ [m]).map nd) (-1)=some (nd m):=by rw[adV];exact yA _ _
    rw[q];show Res.ok (aj _ (nd m)) _=_;rw[bc]
   cases tm:Wa m with
   |false=>rw[Cr tm];simp[EV,eV,bc,k0,Eh,t,tm,d0,li,ne,ixl,ap]
   |true=>
    obtain⟨u,rfl⟩:∃u,m=.text u:=by cases m<;>first|exact⟨_,rfl⟩|cases tm
    rw[Cs];have al:u.length+s.length<=16777216:=by rw[mP]at ht;simp only[tS,tN]at ht;lia
    have st:∀ ρ v,lu v (.ref 0) (.int (-1)) ρ [.lst ((B++ [Nd.text u]).map nd)]=.nx ρ [.lst (B.map nd++ [v])]:=fun ρ v=>by
     show(match Vq ((B++ [Nd.text u]).map nd).length (-1)with|some j=>SR.nx ρ [.lst (((B++ [Nd.text u]).map nd).set j v)]|none=>.bad)=_;have:Vq ((B++ [Nd.text u]).map nd).length (-1)=some B.length:=by unfold Vq;simp;lia
     rw[this];dsimp only;rw[adV]
     congr 3
     rw[adW _ _ (by simp)];simp
    have i1:∀z h,f9 (nd (.text z)) (.int 1) h=.ok (.str z) h:=fun z h=>by rw[nd];rfl
    have ma:(B++ [Nd.text (u++s)]).map nd=B.map nd++ [.tup [.str tT,.str (u++s)]]:=by simp[nd]
    simp[EV,eV,bc,k0,Eh,t,tm,d0,li,ne,ixl,st,i1,al,ma]
structure U7(B:Ya)(d:Nat)(n:Nd):Prop where
 wl:Sd B n
 bt:Vz n
 ch:Vy n
 dp:dN n<=d
 w1:Vg List.length 7000 n
 w2:Vg (fun _=>1) 7000 n
 fq:fd (2 * d+3) (nd n)
structure Nk(B:Ya)(d c:Nat)(l:List Nd):Prop where
 al:∀n∈l,U7 B d n
 t1:tS List.length l<=c
 ln:l.length<=c
def Nk.app{d c e:Nat}{a b:List Nd}(x:Nk B d c a)(y:Nk B d e b):Nk B d (c+e) (a++b):=⟨fun n h=>by
 rcases adS.mp h with q|q
 .exact x.al n q
 .exact y.al n q,by rw[mP];have:=x.t1;have:=y.t1;lia,by rw[adt];have:=x.ln;have:=y.ln;lia⟩
def U7.mono{d e:Nat}{n:Nd}(x:U7 B d n)(h:d<=e):U7 B e n:=⟨x.wl,x.bt,x.ch,adR x.dp h,x.w1,x.w2,ji x.fq ⋯⟩
theorem Nk.mono{B:Ya}{d e c f:Nat}{l:List Nd}(x:Nk B d c l)(h:d<=e)(k:c<=f):Nk B e f l:=⟨fun n hn=>(x.al n hn).mono h,adR x.t1 k,adR x.ln k⟩
def oQ(B:Ya)(d:Nat){s:Y1}(h:Rz s):U7 B d (.text s):=⟨trivial,trivial,by rw[Vy];exact h,aex _,trivial,trivial,by rw[nd];have sg1:sg s=true:=adX.mpr fun c hc=>decide_eq_true (h c hc);exact ji (jQ (bM (hM (d:=2) ⋯) (bM (hM sg1) (ir 2)))) ⋯⟩
def Nk.nil(B:Ya)(d c:Nat):Nk B d c []:=⟨fun n h=>(nomatch h),by rw[tS];lia,aex _⟩
theorem Nk.text{B:Ya}{d c:Nat}{s:Y1}(h:Rz s)(l:s.length<=c)(c1:1<=c):Nk B d c [.text s]:=⟨fun n hn=>by rw[adw]at hn;rw[hn];exact oQ B d h,by simp only[tS,tN];lia,c1⟩
theorem Nk.fds{B:Ya}{d c:Nat}:∀{l:List Nd},Nk B d c l->T6.fds (2 * d+3) (l.map nd)
 |[],_=>ir _
 |n::r,h=>bM (h.al n (by simp)).fq (Nk.fds (d:=d) (c:=c) (l:=r) ⟨fun m hm=>h.al m (by simp[hm]),by have:=h.t1;rw[tS]at this;lia,by have:=h.ln;rw[adu]at this;lia⟩)
def Hi{d c:Nat}{acc r:List Nd}{n:Nd}(h:Nk B d c (acc++n::r)):Nk B d c (qW acc n++r):=by
 rcases ET acc n with e|⟨C,u,s,rfl,rfl,e⟩<;>rw[e]
 .rw[adN];exact h
 .have hu:=(h.al (.text u) (by simp)).ch;have hs:=(h.al (.text s) (by simp)).ch;rw[Vy]at hu hs;refine⟨fun z hz=>?_,?_,?_⟩
  .rw[adN]at hz;rcases adS.mp hz with q|q
   .exact h.al z (by simp[q])
   .rcases adD.mp q with q|q
    .subst q
     exact oQ B d fun c hc=>by
      rcases adS.mp hc with q|q
      .exact hu c q
      .exact hs c q
    .exact h.al z (by simp[show z∈r from q])
  .have:=h.t1;simp only[mP,tS,tN,adt]at this |-
   lia
  .have:=h.ln;simp only[adt,adu,adQ]at this |-
   lia
theorem uF(k:Nat){B:Ya}{d c:Nat}(hd:d<=28)(hc:c<=1000000)(v:PV):∀(r acc:List Nd)(x2:Option PV),Nk B d c (acc++r)->∃Uz y2,Nk B d c Uz/\bf (z7 2) (eV (F k)) (r.map nd) [some v,some (.ref 0),x2] [.lst (acc.map nd)]=.nx [some v,some (.ref 0),y2] [.lst (Uz.map nd)]
 |[],acc,x2,h=>⟨acc,x2,by rw[adU]at h;exact h,by rw[afq,bf]⟩
 |n::r,acc,x2,h=>by
  have h0:Nk B d c acc:=⟨fun z hz=>h.al z (List.mem_append_left _ hz),by have:=h.t1;rw[mP]at this;lia,by have:=h.ln;rw[adt]at this;lia⟩
  have s1:=AY k v acc n (by have:=h0.fds;exact⟨this.1,by have:=this.2.1;lia,this.2.2⟩) (by have:=h0.ln;lia) (by have:=h.t1;rw[mP,tS]at this;lia);obtain⟨aap,y2,r1,r2⟩:=uF k hd hc v r _ (some (nd n)) (Hi h);refine⟨aap,y2,r1,?_⟩;rw[adE];exact Eq.trans (cR rfl s1) r2
def Hd(k:Nat){d c:Nat}(hd:d<=28)(hc:c<=1000000)(l:List Nd)(h:Nk B d c l):∃l',Nk B d c l'/\F (k+1) .Pa [.lst (b_ l)]=.ok (.tup (b_ l')):=by
 obtain⟨l',y2,r1,r2⟩:=uF k hd hc (.lst (b_ l)) l [] none h;refine⟨l',r1,?_⟩;have lp:(PV.lst (b_ l)).pure=true:=by rw[PV.pure];exact bB l
 have r2:bf (z7 2) (eV (F k)) (b_ l) [some (.lst (b_ l)),some (.ref 0),none] [.lst []]=.nx [some (.lst (b_ l)),some (.ref 0),y2] [.lst (b_ l')]:=by rw[io l,io l'];rw[io l]at r2;exact r2
 have d0:∀xs:Y2,aj [.lst xs] (.ref 0)=.ref 0:=fun xs=>rfl;have tp:nc [.ref 0] [.lst (b_ l')]=.ok (.tup (b_ l')) [.lst (b_ l')]:=rfl;have si:∀h,lV (.lst (b_ l)) h=.ok (b_ l) h:=fun _=>rfl;show ar (tK (F k)) 1 3 [.lst (b_ l)]=_;simp[EV,ar,tK,ak _ lp,si,r2,d0,tp];exact er _ (by rw[PV.pure];exact bB l')
theorem pq{B:Ya}:∀{l:List Nd},(∀n∈l,Sd B n)->Td B l
 |[],_=>by rw[Td];trivial
 |n::r,h=>by rw[Td];exact⟨h n (by simp),pq fun m hm=>h m (by simp[hm])⟩
theorem qN:∀{l:List Nd},(∀n∈l,Vz n)->U6 l
 |[],_=>by rw[U6];trivial
 |n::r,h=>by rw[U6];exact⟨h n (by simp),qN fun m hm=>h m (by simp[hm])⟩
theorem qI:∀{l:List Nd},(∀n∈l,Vy n)->VP l
 |[],_=>by rw[VP];trivial
 |n::r,h=>by rw[VP];exact⟨h n (by simp),qI fun m hm=>h m (by simp[hm])⟩
theorem qC{d:Nat}:∀{l:List Nd},(∀n∈l,dN n<=d)->J7 l<=d
 |[],_=>by rw[J7];lia
 |n::r,h=>by rw[J7];exact ahZ.mpr ⟨h n (by simp),qC fun m hm=>h m (by simp[hm])⟩
theorem iX{μ:Y1->Nat}{W:Nat}:∀{l:List Nd},(∀n∈l,Vg μ W n)->Vf μ W l
 |[],_=>by rw[Vf];trivial
 |n::r,h=>by rw[Vf];exact⟨h n (by simp),iX fun m hm=>h m (by simp[hm])⟩
theorem uc:∀l:List Nd,tS (fun _=>1) l<=l.length
 |[]=>by rw[tS];lia
 |n::r=>by
  have:=uc r;rw[tS,adu];have:tN (fun _=>1) n<=1:=by cases n<;>simp[tN]
  lia
theorem EF{l:Ya}(h:∀s∈l,H_ s=true):fds 1 (l.map PV.str):=by
 induction l with
 |nil=>exact ir 1
 |cons a r ih=>exact bM (hM (h a (by simp))) (ih fun s hs=>h s (by simp[hs]))
def wS(ha:H_ a=true)(hf:∀s∈f,H_ s=true):fd 2 (q_ a f):=jQ (bM (hM ha) (EF hf))
theorem tA{d:Nat}:∀{l:List Nd},(∀n∈l,fd d (nd n))->fds d (b_ l)
 |[],_=>by rw[b_];exact ir d
 |n::r,h=>by rw[b_];exact bM (h n (by simp)) (tA fun m hm=>h m (by simp[hm]))
def Gj:∀w,w<5->sg (dE w)=true:=by decide
def uI(d:Nat){w:Nat}(hB:a∈B)(ha:H_ a=true)(hf:∀s∈f,H_ s=true)(hl:f.length<=900)(hw:w<5):U7 B d (.place a f w):=⟨by rw[Sd];exact⟨hB,hl,hw⟩,trivial,trivial,aex _,trivial,trivial,by rw[nd];exact ji (jQ (bM (hM (d:=2) ⋯) (bM (wS ha hf) (bM (hM (Gj w hw)) (ir 2))))) ⋯⟩
def sV{d c:Nat}{x:Y1}{ns:List Nd}{b:Y1}(h:Nk (x::B) d c ns)(hc:c<=1000)(hB:a∈B)(hx:H_ x=true)(ha:H_ a=true)(hf:∀s∈f,H_ s=true)(hl:f.length<=900)(hb:Rz b)(lb:b.length<=100):U7 B (d+1) (.loop x a f ns b):=⟨by
  rw[Sd];exact⟨hB,hl,adR h.ln hc,pq fun n hn=>(h.al n hn).wl⟩,by
  rw[Vz];exact⟨by lia,qN fun n hn=>(h.al n hn).bt⟩,by
  rw[Vy];exact⟨hb,qI fun n hn=>(h.al n hn).ch⟩,by
  rw[dN];have:=qC fun n hn=>(h.al n hn).dp;lia,by
  rw[Vg];exact⟨by have:=h.t1;lia,iX fun n hn=>(h.al n hn).w1⟩,by
  rw[Vg];exact⟨by have:=uc ns;have:=h.ln;lia,iX fun n hn=>(h.al n hn).w2⟩,by
  rw[nd];have sb:sg b=true:=adX.mpr fun c hc=>decide_eq_true (hb c hc);have q:=jQ (tA fun n hn=>(h.al n hn).fq);exact ji (jQ (bM (hM ⋯) (bM (hM hx) (bM (ji (wS ha hf) ⋯) (bM q (bM (hM sb) (ir _))))))) ⋯⟩
def nu{d c:Nat}{y n:List Nd}(h:Nk B d c y)(k:Nk B d c n)(hc:c<=1000)(hB:a∈B)(ha:H_ a=true)(hf:∀s∈f,H_ s=true)(hl:f.length<=900):U7 B (d+1) (.choice a f y n):=⟨by
  rw[Sd];exact⟨hB,hl,adR h.ln hc,adR k.ln hc,pq fun n hn=>(h.al n hn).wl,pq fun n hn=>(k.al n hn).wl⟩,by
  rw[Vz];exact⟨qN fun n hn=>(h.al n hn).bt,qN fun n hn=>(k.al n hn).bt⟩,by
  rw[Vy];exact⟨qI fun n hn=>(h.al n hn).ch,qI fun n hn=>(k.al n hn).ch⟩,by
  rw[dN];have:=qC fun n hn=>(h.al n hn).dp;have:=qC fun n hn=>(k.al n hn).dp;have:=ahZ.mpr ⟨‹J7 y<=d›, ‹J7 n<=d›⟩;lia,by
  rw[Vg];exact⟨by have:=h.t1;lia,by have:=k.t1;lia,iX fun n hn=>(h.al n hn).w1,iX fun n hn=>(k.al n hn).w1⟩,by
  rw[Vg];exact⟨by have:=uc y;have:=h.ln;lia,by have:=uc n;have:=k.ln;lia,iX fun n hn=>(h.al n hn).w2,iX fun n hn=>(k.al n hn).w2⟩,by
  rw[nd];have q:=jQ (tA fun n hn=>(h.al n hn).fq);have r:=jQ (tA fun n hn=>(k.al n hn).fq);exact ji (jQ (bM (hM ⋯) (bM (ji (wS ha hf) ⋯) (bM q (bM r (ir _)))))) ⋯⟩
def ye{sc:List (PK×PV)}(h:Nk B 25 1000 l)(hs:∀x∈sc,VV nn x.2)(hn:nn<=40)(nd:(sc.map (·.1)).Nodup)(kr:∀x∈sc,x.1.isRight=true)(ln:sc.length<=500)(hb:∀a∈B,(bj sc (.inr a)).isSome):vG l B nn sc:=by have w1:=iX fun n hn=>(h.al n hn).w1;have w2:=iX fun n hn=>(h.al n hn).w2;have z:=BK sc w1 w2 (by have:=h.t1;lia) (by have:=uc l;have:=h.ln;lia);exact⟨pq fun n hn=>(h.al n hn).wl,qN fun n hn=>(h.al n hn).bt,qI fun n hn=>(h.al n hn).ch,hs,hn,nd,kr,ln,qC fun n hn=>(h.al n hn).dp,hb,by have:=h.ln;lia,z.1,z.2⟩
def Gk(k:Nat)(c:Nat)(hc:c=116\/c=119\/c=110)(v:Int):∃w,w<5/\F (k+1) .Tv [.str [c],.int v]=.ok (.str (dE w)):=by
 have p5:=aY v (m:=5) ⋯;have p3:=aY v (m:=3) ⋯;have p4:=aY v (m:=4) ⋯;have ru:F (k+1) .Tv [.str [c],.int v]=ar (kE (F k)) 2 2 [.str [c],.int v]:=rfl
 obtain⟨w5,h5,e5⟩:∃w,w<5/\∀h,f9 (.lst [.str [119,111,114,100],.str [110,117,109,98,101,114],.str [113,117,111,116,101,100],.str [112,108,97,105,110],.str [108,105,110,101]]) (.int (v % 5)) h=.ok (.str (dE w)) h:=by
  rcases(show v % 5=0\/v % 5=1\/v % 5=2\/v % 5=3\/v % 5=4 by lia)with q|q|q|q|q<;>rw[q]
  .exact⟨0,by decide,fun _=>rfl⟩
  .exact⟨1,by decide,fun _=>rfl⟩
  .exact⟨2,by decide,fun _=>rfl⟩
  .exact⟨3,by decide,fun _=>rfl⟩
  .exact⟨4,by decide,fun _=>rfl⟩
 obtain⟨w3,h3,e3⟩:∃w,w<5/\∀h,f9 (.lst [.str [112,108,97,105,110],.str [113,117,111,116,101,100],.str [108,105,110,101]]) (.int (v % 3)) h=.ok (.str (dE w)) h:=by
  rcases(show v % 3=0\/v % 3=1\/v % 3=2 by lia)with q|q|q<;>rw[q]
  .exact⟨3,by decide,fun _=>rfl⟩
  .exact⟨2,by decide,fun _=>rfl⟩
  .exact⟨4,by decide,fun _=>rfl⟩
 obtain⟨w4,h4,e4⟩:∃w,w<5/\∀h,f9 (.lst [.str [119,111,114,100],.str [112,108,97,105,110],.str [113,117,111,116,101,100],.str [108,105,110,101]]) (.int (v % 4)) h=.ok (.str (dE w)) h:=by
  rcases(show v % 4=0\/v % 4=1\/v % 4=2\/v % 4=3 by lia)with q|q|q|q<;>rw[q]
  .exact⟨0,by decide,fun _=>rfl⟩
  .exact⟨3,by decide,fun _=>rfl⟩
  .exact⟨2,by decide,fun _=>rfl⟩
  .exact⟨4,by decide,fun _=>rfl⟩
 rw[ru];have ep:=fun h=>bX (v / 64 % 9) 1 h
 by_cases q:v / 64 % 9=1
 .refine⟨w5,h5,?_⟩;rw[decide_eq_true q]at ep;simp[EV,ar,kE,ep,e5,aT]
 .rw[decide_eq_false q]at ep;rcases hc with rfl|rfl|rfl
  .have ff:∀h,mi (.str [110,116,119]) [.str [116]] h=.ok (.int 1) h:=fun _=>rfl;have ix:∀h,f9 (.lst [.str [110,117,109,98,101,114],.str (dE w3),.str (dE w4)]) (.int 1) h=.ok (.str (dE w3)) h:=fun _=>rfl;refine⟨w3,h3,?_⟩;simp[EV,ar,kE,ep,e3,e4,ff,ix,aT]
  .have ff:∀h,mi (.str [110,116,119]) [.str [119]] h=.ok (.int 2) h:=fun _=>rfl;have ix:∀h,f9 (.lst [.str [110,117,109,98,101,114],.str (dE w3),.str (dE w4)]) (.int 2) h=.ok (.str (dE w4)) h:=fun _=>rfl;refine⟨w4,h4,?_⟩;simp[EV,ar,kE,ep,e3,e4,ff,ix,aT]
  .have ff:∀h,mi (.str [110,116,119]) [.str [110]] h=.ok (.int 0) h:=fun _=>rfl;have ix:∀h,f9 (.lst [.str [110,117,109,98,101,114],.str (dE w3),.str (dE w4)]) (.int 0) h=.ok (.str (dE 1)) h:=fun _=>rfl;refine⟨1,by decide,?_⟩;simp[EV,ar,kE,ep,e3,e4,ff,ix,aT]
noncomputable def dPl:PV:=.dct [(.inr [112,108,97,105,110],.str [10,38,60,62,124]),(.inr [108,105,110,101],.str [10,10,10,10,10])]
theorem Cf(ρ:Ev)(h:Y3):eQ [(aav,acQ),(aaM,ac0)] ρ h=.ok dPl h:=rfl
theorem FV(h:Y3):qq h dPl=true:=rfl
def EN(w:Nat)(hw:w<5):∃s:Y1,s.length=5/\(∀c∈s,c<1114112)/\∀h,DF dPl [.str (dE w),.str [32,46,59,60,10]] h=.ok (.str s) h:=by
 rcases(show w=0\/w=1\/w=2\/w=3\/w=4 by lia)with rfl|rfl|rfl|rfl|rfl
 .exact⟨_,rfl,by decide,fun _=>rfl⟩
 .exact⟨_,rfl,by decide,fun _=>rfl⟩
 .exact⟨_,rfl,by decide,fun _=>rfl⟩
 .exact⟨_,rfl,by decide,fun _=>rfl⟩
 .exact⟨_,rfl,by decide,fun _=>rfl⟩
theorem AR(k:Nat)(d:Nat)(hB:a∈B)(ha:H_ a=true)(hf:∀s∈f,H_ s=true)(hl:f.length<=900)(c:Nat)(hc:c=116\/c=119\/c=110)(b:Bool)(v:Int)(h0:0<=v)(h1:v<400000000):∃ns,Nk B d 5 ns/\F (k+3) .Qp [q_ a f,.str [c],.bl b,.int v]=.ok (.lst (b_ ns)):=by
 obtain⟨w,hw,we⟩:=Gk (k+1) c hc v;have we:∀h,aX (F (k+2) .Tv) [.str [c],.int v] h=.ok (.str (dE w)) h:=fun h=>aL h rfl we;have pl:=uI (w:=w) d hB ha hf hl hw;have d7:0<=v / 7/\v / 7<400000000:=by lia
 obtain⟨s,sl,sc,te⟩:=xC k (v / 7) d7.1 d7.2;have te:∀h,aX (F (k+2) .QF) [.int (v / 7)] h=.ok (.str s) h:=fun h=>aL h rfl te;obtain⟨z,zl,zc,ze⟩:=EN w hw;have p5:=aY (v / 576) (m:=5) ⋯;obtain⟨q,hq,qe⟩:=vP z ⋯ (v / 576 % 5) p5.1 (by rw[zl];exact p5.2);have dp:∀h,aj h (q_ a f)=q_ a f:=fun _=>rfl;have pn:PV.tup [.str [112,108,97,99,101],q_ a f,.str (dE w)]=nd (.place a f w):=by rw[nd]
 have tn:∀s:Y1,PV.tup [.str [116,101,120,116],.str s]=nd (.text s):=fun s=>by rw[nd]
 have gt:=fun h=>(rfl:Tp (.int (v / 5 % 3)) (.int 0) h=.ok (.bl (decide (0<v / 5 % 3))) h)
 have ts:Rz ([q]++s):=fun c hc=>by
  rcases adS.mp hc with x|x
  .rw[adw]at x;rw[x];exact zc q hq
  .exact kQ c (sc c x)
 have N1:Nk B d 5 [.place a f w]:=⟨fun n hn=>by rw[adw]at hn;rw[hn];exact pl,by simp only[tS,tN];lia,by simp⟩
 have N2:Nk B d 5 [.place a f w,.text ([q]++s)]:=⟨fun n hn=>by
  rcases adD.mp hn with rfl|hn
  .exact pl
  .rw[adw]at hn;rw[hn];exact oQ B d ts,by simp only[tS,tN,adt,adH];lia,by simp⟩
 have le:1+s.length<=16777216:=by lia
 have ru:F (k+3) .Qp [q_ a f,.str [c],.bl b,.int v]=ar (iU (F (k+2))) 4 7 [q_ a f,.str [c],.bl b,.int v]:=rfl;have r1:PV.lst [nd (.place a f w)]=.lst (b_ [.place a f w]):=by rw[b_,b_]
 have r2:PV.lst [nd (.place a f w),nd (.text (q::s))]=.lst (b_ [.place a f w,.text ([q]++s)]):=by rw[b_,b_,b_];rfl
 rw[ru]
 cases b with
 |true=>refine⟨_,N2,?_⟩;simp[EV,ar,iU,we,dp,pn,bc,Cf,FV,ze,qe,te,tn,le,adH,ae3,r2];exact er _ (by rw[PV.pure];exact bB _)
 |false=>
  cases g:decide (0<v / 5 % 3)with
  |true=>refine⟨_,N1,?_⟩;simp[EV,ar,iU,we,dp,pn,bc,gt,g,r1];exact er _ (by rw[PV.pure];exact bB _)
  |false=>refine⟨_,N2,?_⟩;simp[EV,ar,iU,we,dp,pn,bc,gt,g,Cf,FV,ze,qe,te,tn,le,adH,ae3,r2];exact er _ (by rw[PV.pure];exact bB _)
def HF(xs:List Int)(j:Int)(h0:0<=j)(h1:j<xs.length):∃i,∀h,f9 (.lst (xs.map PV.int)) (.int j) h=.ok (.int i) h:=by
 have hj:j.toNat<xs.length:=by lia
 refine⟨xs[j.toNat],fun h=>?_⟩;show(match PN (xs.map PV.int) j with|some q=>Res.ok (aj h q) h|none=>.bad)=_;rw[eG (v:=.int xs[j.toNat]) h0 (by rw[adZ,adx hj];rfl)];rfl
def zN(k:Nat)(v:Int)(h0:0<=v)(h1:v<400000000):∃i,F (k+1) .QG [.int v]=.ok (.int i):=by
 have p6:=aY (v / 7) (m:=6) ⋯;obtain⟨i,e⟩:=HF [v % 21 - 10,v % 100000,0 - v % 1000000007,v * 5429316803059692481 % 1000000000000000000000000000000,999999999999999999999999999999 - v % 3,0] (v / 7 % 6) p6.1 (by simpa using p6.2);have e:∀h,f9 (.lst [.int (v % 21 - 10),.int (v % 100000),.int (0 - v % 1000000007),.int (v * 5429316803059692481 % 1000000000000000000000000000000),.int (999999999999999999999999999999 - v % 3),.int 0]) (.int (v / 7 % 6)) h=.ok (.int i) h:=e;refine⟨i,?_⟩;have p1:decide (Int.natAbs 10<18446744073709551616)=true:=rfl;have p2:decide (Int.natAbs 48271<18446744073709551616)=true:=rfl;have mc:jg v 5429316803059692481=true:=sX (bD.mpr ⟨by lia,by lia⟩);have pw:(48271:Int) ^ (Int.toNat 4)=5429316803059692481:=by decide
 have pt:(10:Int) ^ (Int.toNat 30)=1000000000000000000000000000000:=by decide
 show ar (lP (F k)) 1 1 [.int v]=_;simp -implicitDefEqProofs[EV,ar,lP,p1,p2,mc,pw,pt,Int.reduceToNat,Int.reducePow,e,aT]
def Gi:bE.all (fun c=>br.contains c)=true:=by decide
def Gh(i:Int)(h0:0<=i)(h1:i<62):∃c,c∈br/\∀h,f9 (.str bE) (.int i) h=.ok (.str [c]) h:=by
 have ln:(bE).length=62:=by decide
 obtain⟨c,hc,e⟩:=vP bE (by rw[ln];decide) i h0 (by rw[ln];exact h1);exact⟨c,by simpa using adX.mp Gi c hc,e⟩
def Jn(xs:Y2)(j:Int)(h0:0<=j)(h1:j<xs.length)(hp:aq xs=true):∃x,x∈xs/\∀h,f9 (.lst xs) (.int j) h=.ok x h:=by
 have hj:j.toNat<xs.length:=by lia
 have hx:(xs[j.toNat]).pure=true:=by
  have hm:xs[j.toNat]∈xs:=aeh hj
  revert hm
  generalize xs[j.toNat]=y;clear h1 hj
  induction xs with
  |nil=>intro h;cases h
  |cons a r ih=>
   intro h;rw[aq,adI]at hp;rcases adD.mp h with rfl|q
   .exact hp.1
   .exact ih hp.2 q
 refine⟨xs[j.toNat],aeh hj,fun h=>?_⟩;show(match PN xs j with|some q=>Res.ok (aj h q) h|none=>.bad)=_;rw[eG (v:=xs[j.toNat]) h0 (adx hj)];show Res.ok (aj h _) h=_;rw[ak h hx]
noncomputable def odd:Y2:=[.int 5,.str [],.bl true,.lst [],.dct [],.str [97,32,98],.lst [.str [120]],.int 100000000000000000000000000000,.int 0,.int 1]
def Ba:∀x∈odd,VV 1 x:=fun x hx=>by
 have sv:∀l:Y1,l.length<=400->(l.all fun c=>br.contains c)=true->VV 0 (.str l):=fun l h1 h2=>.str 0 l h1 fun c hc=>by simpa using adX.mp h2 c hc
 unfold odd at hx;simp only[adD,aeb,or_false]at hx;rcases hx with rfl|rfl|rfl|rfl|rfl|rfl|rfl|rfl|rfl|rfl
 .exact .int 1 5
 .exact(sv [] ⋯ ⋯).mono ⋯
 .exact .bl 1 true
 .exact .lst 0 [] (fun x hx=>nomatch hx) ⋯
 .exact .dct 0 [] (fun x hx=>nomatch hx) (by simp) ⋯ (fun x hx=>nomatch hx)
 .exact(sv [97,32,98] ⋯ ⋯).mono ⋯
 .exact .lst 0 [.str [120]] (fun x hx=>by rw[adw]at hx;rw[hx];exact sv [120] ⋯ ⋯) ⋯
 .exact .int 1 _
 .exact .int 1 0
 .exact .int 1 1
def CJ{s:Y1}(h:s.length<=400)(hc:∀c∈s,c∈br):VV n (.str s):=.str n s h hc
def uh{te:Ex}{cp:Ev}(m:Int)(h0:0<=m)(h1:m<=400)(hx:∀i:Nat,(i:Int)<m->∃c,c∈br/\te (some (.int (0+(i:Nat)))::cp) []=.ok (.str [c]) []):∃ss:Ya,cg bK te cp ((List.range m.toNat).map fun i:Nat=>PV.int (0+(i:Nat))) []=.ok (ss.map PV.str) []/\(∀h,eK (.str []) [.lst (ss.map PV.str)] h=.ok (.str ss.flatten) h)/\∀n,VV n (.str ss.flatten):=by
 obtain⟨ss,g0,g1,g2⟩:=ww (te:=te) (cp:=cp) (h:=[]) (fun i:Nat=>PV.int (0+(i:Nat))) (fun s=>∃c,c∈br/\s= [c]) (List.range m.toNat) fun i hi=>by rw[ad3]at hi;obtain⟨c,hc,e⟩:=hx i ⋯;exact⟨[c],⟨c,hc,rfl⟩,e⟩
 obtain⟨j1,j2⟩:=Bz ss _ g1;have sl:ss.length<=400:=by rw[g0,adY];lia
 exact⟨ss,g2,fun h=>Fp (by rw[j1];lia) h,fun n=>CJ (by rw[j1];exact sl) j2⟩
def eq1(x:Int):∃b,∀h,z_ (.int x) (.int 1) h=.ok (.bl b) h:=⟨decide (x=1),fun h=>bX x 1 h⟩
def zX(k:Nat)(c:Nat)(hc:c=116\/c=119\/c=110\/c=98)(v:Int)(h0:0<=v)(h1:v<400000000)(b:Bool):∃x,VV 1 x/\F (k+2) .PB [.str [c],.int v,.bl b]=.ok x:=by
 have ru:F (k+2) .PB [.str [c],.int v,.bl b]=ar (gS (F (k+1))) 3 5 [.str [c],.int v,.bl b]:=rfl;rw[ru];obtain⟨b0,q0⟩:=eq1 (v / 11 % 23);obtain⟨b1,q1⟩:=eq1 (v / 7 % 9);obtain⟨b2,q2⟩:=eq1 (v / 5 % 2);obtain⟨b3,q3⟩:=eq1 (v / 40 % 6);obtain⟨b4,q4⟩:=eq1 (v / 40 % 24);obtain⟨b5,q5⟩:=eq1 (v / 40 % 36);have p10:=aY (v / 253) (m:=10) ⋯;have p1:decide (Int.natAbs 10<18446744073709551616)=true:=rfl;obtain⟨i,fe⟩:=zN k v h0 h1;have fe:∀h,aX (F (k+1) .QG) [.int v] h=.ok (.int i) h:=fun h=>aL h rfl fe;obtain⟨o,ho,oe⟩:=Jn odd (v / 253 % 10) p10.1 (by simpa[odd]using p10.2) ⋯;unfold odd at oe
 by_cases hh:b=true/\b0=true
 .obtain⟨rfl,rfl⟩:=hh;refine⟨o,Ba o ho,?_⟩;have op:=(Ba o ho).pure;simp -implicitDefEqProofs[EV,ar,gS,q0,p1,Int.reduceToNat,Int.reducePow,oe];exact er _ op
 .have e0:ar (gS (F (k+1))) 3 5 [.str [c],.int v,.bl b]=match(gS (F (k+1))) [some (.str [c]),some (.int v),some (.bl b),none,none] []with|.nx _ _=>.ok .non|.rt v h=>aT v h|_=>.bad:=rfl
  rw[e0];unfold gS
  rw[sq (ρ1:=[some (.str [c]),some (.int v),some (.bl b),none,none]) (h1:=[]) (by
   cases b with
   |false=>simp[EV,if_true]
   |true=>
    have:b0=false:=by cases b0<;>simp_all
    subst this;simp[EV,q0])]
  have abI:=aY (v / 9) (m:=61) ⋯;have acy:=aY (v / 9) (m:=94) ⋯;rcases hc with rfl|rfl|rfl|rfl
  .obtain⟨m,hm0,QH,me⟩:∃m:Int,0<=m/\m<=400/\∀h,f9 (.lst [.int (v % 7),.int (v % 40),.int (400 - v % 3)]) (.int ((if b3=true then 1 else 0)+(if b5=true then 1 else 0))) h=.ok (.int m) h:=by
    cases b3<;>cases b5
    .exact⟨v % 7,by lia,by lia,fun _=>rfl⟩
    .exact⟨v % 40,by lia,by lia,fun _=>rfl⟩
    .exact⟨v % 40,by lia,by lia,fun _=>rfl⟩
    .exact⟨400 - v % 3,by lia,by lia,fun _=>rfl⟩
   obtain⟨ss,cm,jn,vv⟩:=uh (te:=jS (F (k+1))) (cp:=[some (.int v)]) m hm0 QH fun i hi=>by have q:=aY (v / 240+(0+(i:Int)) * (1+v / 9 % 94)) (m:=95) ⋯;obtain⟨z,hz,e⟩:=sY _ q.1 q.2;have mc:jg (0+(i:Int)) (1+v / 9 % 94)=true:=jK (bD.mpr ⟨by lia,by lia⟩);refine⟨z,hz,?_⟩;simp -implicitDefEqProofs[EV,jS,fU,mc,e]
   refine⟨_,vv 1,?_⟩;have be:QW 4611686018427387904 m=true:=bD.mpr ⋯;have lr:(List.range m.toNat).length<16777216:=by rw[adY];lia
   have Yh:∀ ρ:Ev,cU [1] (some (.str [116])::some (.int v)::ρ)=[some (.int v)]:=fun _=>rfl;simp -implicitDefEqProofs[EV,Qj (a:=[116]) (b:=[110]) false,Qj (a:=[116]) (b:=[98]) false,Qj (a:=[116]) (b:=[119]) false,q3,q5,me,be,Yh,cm,jn,adJ,lr];exact er _ rfl
  .obtain⟨m,hm0,QH,me⟩:∃m:Int,0<=m/\m<=400/\∀h,f9 (.lst [.int (1+v % 6),.int (1+v % 40),.int 40]) (.int ((if b3=true then 1 else 0)+(if b4=true then 1 else 0))) h=.ok (.int m) h:=by
    cases b3<;>cases b4
    .exact⟨1+v % 6,by lia,by lia,fun _=>rfl⟩
    .exact⟨1+v % 40,by lia,by lia,fun _=>rfl⟩
    .exact⟨1+v % 40,by lia,by lia,fun _=>rfl⟩
    .exact⟨40,by lia,by lia,fun _=>rfl⟩
   obtain⟨ss,cm,jn,vv⟩:=uh (te:=jT (F (k+1))) (cp:=[some (.str bE),some (.int v)]) m hm0 QH fun i hi=>by have q:=aY (v / 240+(0+(i:Int)) * (1+v / 9 % 61)) (m:=62) ⋯;obtain⟨z,hz,e⟩:=Gh _ q.1 q.2;have mc:jg (0+(i:Int)) (1+v / 9 % 61)=true:=jK (bD.mpr ⟨by lia,by lia⟩);refine⟨z,hz,?_⟩;simp -implicitDefEqProofs[EV,jT,mc,e]
   refine⟨_,vv 1,?_⟩;have be:QW 4611686018427387904 m=true:=bD.mpr ⋯;have lr:(List.range m.toNat).length<16777216:=by rw[adY];lia
   have Yh:∀(x:Option PV)(ρ:Ev),cU [3,1] (some (.str [119])::some (.int v)::x::some (.str bE)::ρ)=[some (.str bE),some (.int v)]:=fun _ _=>rfl;simp -implicitDefEqProofs[EV,Qj (a:=[119]) (b:=[110]) false,Qj (a:=[119]) (b:=[98]) false,Qj (a:=[119]) (b:=[119]) true,q3,q4,me,be,Yh,cm,jn,adJ,lr];exact er _ rfl
  .refine⟨.int i,.int 1 i,?_⟩;simp -implicitDefEqProofs[EV,Qj (a:=[110]) (b:=[110]) true,fe];exact er _ rfl
  .by_cases z:b=true/\b1=true
   .obtain⟨rfl,rfl⟩:=z;refine⟨.int (v / 5 % 2),.int 1 _,?_⟩;simp -implicitDefEqProofs[EV,Qj (a:=[98]) (b:=[110]) false,Qj (a:=[98]) (b:=[98]) true,q1,q2];exact er _ rfl
   .refine⟨.bl b2,.bl 1 _,?_⟩
    cases b with
    |false=>simp -implicitDefEqProofs[EV,Qj (a:=[98]) (b:=[110]) false,Qj (a:=[98]) (b:=[98]) true,q1,q2];exact er _ rfl
    |true=>
     have:b1=false:=by cases b1<;>simp_all
     subst this;simp -implicitDefEqProofs[EV,Qj (a:=[98]) (b:=[110]) false,Qj (a:=[98]) (b:=[98]) true,q1,q2];exact er _ rfl
def kX(k:Nat)(c:Nat)(hc:c=116\/c=119\/c=110\/c=98)(v:Int)(h0:0<=v)(h1:v<400000000)(b:Bool):∃x,VV 1 x/\∀h,aX (F (k+2) .PB) [.str [c],.int v,.bl b] h=.ok x h:=by obtain⟨x,vx,e⟩:=zX k c hc v h0 h1 b;exact⟨x,vx,fun h=>aL h rfl e⟩
def zW(k:Nat)(cs:List Int)(hc:cs.length<=63)(b:Bool)(n m:Int)(h0:0<=n)(h1:n<=1000000):∃xs n',xs.length<=3/\(∀x∈xs,VV 1 x)/\n<=n'/\n'<=n+4/\L (k+3) .Pb [cv cs,.ref 0,.bl b] [j9 n m]=.ok (.lst xs) [j9 n' m]:=by
 obtain⟨v,v0,v1,ce⟩:=dK (k+1) cs hc n m h0 ⋯ [];have p4:=aY (v / 5) (m:=4) ⋯;have be:QW 4611686018427387904 (v / 5 % 4)=true:=bD.mpr ⋯;have lr:(List.range (v / 5 % 4).toNat).length<16777216:=by rw[adY];lia
 have d0:∀n:Int,aj [j9 n m] (.ref 0)=.ref 0:=fun _=>rfl
 obtain⟨ys,n',y0,y1,y2,y3,y4⟩:=yr (te:=jR (F (k+2)) (L (k+2))) (cp:=[some (.bl b),some (cv cs),some (.ref 0)]) (m:=m) (fun i:Nat=>PV.int (0+(i:Nat))) (fun y:PV=>y) (fun y=>VV 1 y) 1 ⋯ 2000000 (List.range (v / 5 % 4).toNat) (n+1) ⋯ (by rw[adY];lia) fun i _ a a0 a1=>by obtain⟨u,u0,u1,ue⟩:=dK (k+1) cs hc a m a0 ⋯ [];obtain⟨x,vx,xe⟩:=kX k 119 (.inr (.inl rfl)) u u0 u1 b;refine⟨x,a+1,vx,by lia,by lia,?_⟩;simp[EV,jR,eN,d0,ue,xe]
 have yl:ys.length<=3:=by rw[y0,adY];lia
 refine⟨ys,n',yl,y1,by lia,by rw[adY]at y3;lia,?_⟩;rw[afY]at y4;have yp:aq ys=true:=dW fun x hx=>(y1 x hx).pure
 have ct:lN 1 (.lst ys) [j9 n' m]=.ok (.lst ys) [j9 n' m]:=by unfold lN;rw[eP _ (show(PV.lst ys).pure=true by rw[PV.pure];exact yp)];rfl
 show cP (nM (F (k+2)) (L (k+2))) 3 3 [cv cs,.ref 0,.bl b] [j9 n m]=_;have Yh:cU [2,0,1] [some (cv cs),some (.ref 0),some (.bl b)]=[some (.bl b),some (cv cs),some (.ref 0)]:=rfl;simp[EV,cP,nM,eN,d0,ce,be,Yh,y4,adJ,lr,ct]
structure DO(w e:Nat)(d:List (PK×PV)):Prop where
 v:∀x∈d,VV w x.2
 nd:(d.map (·.1)).Nodup
 kr:∀x∈d,x.1.isRight=true
 ln:d.length<=e
def DO.put{w e:Nat}(h:DO w e d)(s:Y1){x:PV}(hx:VV w x):DO w (e+1) (aK d (.inr s) x):=⟨fun z hz=>by
  rcases mh hz with q|q
  .exact h.v z q
  .rw[q];exact hx,by
  unfold aK
  split
  .have:(d.map fun kv=>if kv.1=Sum.inr s then(kv.1,x)else kv).map (·.1)=d.map (·.1):=by
    rw[aen];refine ag4 fun z _=>?_;show(if z.1=Sum.inr s then(z.1,x)else z).1=z.1
    split<;>rfl
   rw[this];exact h.nd
  .rename_i q;rw[adV,aeO];refine⟨h.nd,by simp,fun a ha b hb=>?_⟩;simp only[adE,afq,adw]at hb;subst hb;intro e2;obtain⟨y,hy,rfl⟩:=adT.mp ha;exact q (afD.mpr ⟨y,hy,decide_eq_true e2⟩),fun z hz=>by
  rcases mh hz with q|q
  .exact h.kr z q
  .rw[q];rfl,by
  have:=ij d (.inr s) x;have:=h.ln
  lia⟩
theorem DO.mono{w u e f:Nat}{d:List (PK×PV)}(h:DO w e d)(a:w<=u)(b:e<=f):DO u f d:=⟨fun x hx=>(h.v x hx).mono a,h.nd,h.kr,adR h.ln b⟩
section
variable(n m:Int)(r:Y3)(d:List (PK×PV))
def R4:Y3:=j9 n m::(r++ [.dct d])
theorem Kq:(R4 n m r d)[r.length+1]? =some (.dct d):=by show(r++ [PO.dct d])[r.length]? =_;simp
theorem wG:aj (R4 n m r d) (.ref (r.length+1))=.ref (r.length+1):=by unfold aj;dsimp only;rw[Kq]
theorem zG:aj (R4 n m r d) (.ref 0)=.ref 0:=rfl
theorem HJ(ρ:Ev)(s:Y1)(x:PV)(hl:d.length<16777216):eO x (.ref (r.length+1)) (.str s) ρ (R4 n m r d)=.nx ρ (R4 n m r (aK d (.inr s) x)):=by
 have l:eM (R4 n m r d) (.ref (r.length+1))=some (r.length+1,d):=by unfold eM;dsimp only;rw[Kq]
 unfold eO;rw[l];show(if d.length<sizeLine then SR.nx ρ _ else _)=_;rw[if_pos (by rw[szl];exact hl)];show SR.nx ρ (j9 n m::(r++ [PO.dct d]).set r.length _)=_;rw[adW _ _ ⋯,aee];rfl
end
noncomputable def tw4(j:Nat):Nat:=[116,119,110,98].getD j 0
def EX(j:Nat)(hj:j<4):(tw4 j=116\/tw4 j=119\/tw4 j=110\/tw4 j=98)/\∀h,f9 (.str [116,119,110,98]) (.int (0+(j:Nat))) h=.ok (.str [tw4 j]) h:=by
 rcases(show j=0\/j=1\/j=2\/j=3 by lia)with rfl|rfl|rfl|rfl
 .exact⟨.inl rfl,fun _=>rfl⟩
 .exact⟨.inr (.inl rfl),fun _=>rfl⟩
 .exact⟨.inr (.inr (.inl rfl)),fun _=>rfl⟩
 .exact⟨.inr (.inr (.inr rfl)),fun _=>rfl⟩
def Bf(j:Nat)(hj:j<ls.length)(h:Y3):f9 (.lst (ls.map PV.str)) (.int (0+(j:Nat))) h=.ok (.str (ls.getD j [])) h:=by refine Cp ?_ rfl h;rw[adZ,adx hj,adM,adx hj];rfl
theorem pM(k:Nat)(cs:List Int)(hc:cs.length<=63)(ls:Ya)(Qw:ls.length=12)(b:Bool)(m:Int)(r:Y3):∀(c j:Nat)(n:Int)(d:List (PK×PV))(o5 o6:Option PV),j+c=4->0<=n->n+c<=2000000->DO 1 j d->(b=false->∀i,i<j->(bj d (.inr (ls.getD i []))).isSome)->∃n' d' R6 U_,bf (z7 5) (dg (F (k+2)) (L (k+2))) (Uo j c) [some (cv cs),some (.ref 0),some (.lst (ls.map PV.str)),some (.bl b),some (.ref (r.length+1)),o5,o6] (R4 n m r d)=.nx [some (cv cs),some (.ref 0),some (.lst (ls.map PV.str)),some (.bl b),some (.ref (r.length+1)),R6,U_] (R4 n' m r d')/\n<=n'/\n'<=n+c/\DO 1 4 d'/\(b=false->∀i,i<4->(bj d' (.inr (ls.getD i []))).isSome)
 |0,j,n,d,o5,o6,hj,h0,h1,hd,hb=>⟨n,d,o5,o6,rfl,agW _,by lia,hd.mono (adA _) ⋯,fun q i hi=>hb q i ⋯⟩
 |c+1,j,n,d,o5,o6,hj,h0,h1,hd,hb=>by
  have j4:j<4:=by lia
  obtain⟨v,v0,v1,ce⟩:=dK (k+1) cs hc n m h0 ⋯ (r++ [.dct d]);have ce:z6 (L (k+2) .C_) [cv cs,.ref 0] (R4 n m r d)=.ok (.int v) (R4 (n+1) m r d):=ce;obtain⟨tc,te⟩:=EX j j4;obtain⟨x,vx,xe⟩:=kX k (tw4 j) tc v v0 v1 b;have Vp:(PV.lst (ls.map PV.str)).pure=true:=by rw[PV.pure];exact bz ls
  have ni:=Bf j (ls:=ls) ⋯;have st:=HJ (n+1) m r d;have hl:d.length<16777216:=by have:=hd.ln;lia
  have gt:∀h,Tp (.int (v / 3 % 31)) (.int 0) h=.ok (.bl (decide (0<v / 3 % 31))) h:=fun _=>rfl;rw[pL]
  by_cases q:b=true/\decide (0<v / 3 % 31)=false
  .obtain⟨n',d',a5,a6,e,e1,e2,e3,e4⟩:=pM k cs hc ls Qw b m r c (j+1) (n+1) d (some (.int (0+(j:Nat)))) (some (.int v)) ⋯ ⋯ ⋯ (hd.mono (adA _) ⋯) (fun z=>by rw[q.1]at z;cases z);refine⟨n',d',a5,a6,?_,by lia,by lia,e3,e4⟩;rw[<- e];refine cR rfl ?_;obtain⟨rfl,q⟩:=q;rw[q]at gt;simp[EV,dg,eN,zG,ce,gt,q]
  .obtain⟨n',d',a5,a6,e,e1,e2,e3,e4⟩:=pM k cs hc ls Qw b m r c (j+1) (n+1) (aK d (.inr (ls.getD j [])) x) (some (.int (0+(j:Nat)))) (some (.int v)) ⋯ ⋯ ⋯ (hd.put _ vx) (fun z i hi=>by
    by_cases w:i=j
    .subst w;exact cG (.inl rfl)
    .exact cG (.inr (hb z i ⋯)))
   refine⟨n',d',a5,a6,?_,by lia,by lia,e3,e4⟩;rw[<- e];refine cR rfl ?_;have xp:=vx.pure
   cases b with
   |false=>simp[EV,dg,eN,zG,wG,ce,te,xe,ak _ Vp,ni,st _ _ _ hl]
   |true=>
    have g:decide (0<v / 3 % 31)=true:=by
     cases z:decide (0<v / 3 % 31)with
     |true=>rfl
     |false=>exact absurd ⟨rfl,z⟩ q
    rw[g]at gt;simp[EV,dg,eN,zG,wG,ce,gt,g,te,xe,ak _ Vp,ni,st _ _ _ hl]
def mT(k:Nat)(cs:List Int)(hc:cs.length<=63)(ls:Ya)(Qw:ls.length=12)(b:Bool)(n m:Int)(h0:0<=n)(h1:n<=1000000)(r:Y3):∃n' d,X_ (k+3) .M9 [cv cs,.ref 0,.lst (ls.map PV.str),.bl b] (j9 n m::r)=.ok (.ref (r.length+1)) (R4 n' m r d)/\n<=n'/\n'<=n+4/\DO 1 4 d/\(b=false->∀i,i<4->(bj d (.inr (ls.getD i []))).isSome):=by
 obtain⟨n',d',a5,a6,e,e1,e2,e3,e4⟩:=pM k cs hc ls Qw b m r 4 0 n [] none none rfl h0 ⋯ ⟨fun x hx=>(nomatch hx),af6,fun x hx=>(nomatch hx),adA _⟩ (fun _ i hi=>by lia);refine⟨n',d',?_,e1,e2,e3,e4⟩;have ru:X_ (k+3) .M9 [cv cs,.ref 0,.lst (ls.map PV.str),.bl b] (j9 n m::r)=bo (kW (F (k+2)) (L (k+2))) 4 7 [cv cs,.ref 0,.lst (ls.map PV.str),.bl b] (j9 n m::r):=rfl;have nw:∀ ρ,vz ρ (j9 n m::r)=.ok (.ref (r.length+1)) (R4 n m r []):=fun ρ=>rfl;have be:QW 4611686018427387904 4=true:=by decide
 have r4:(List.range (4:Int).toNat).map (fun i:Nat=>PV.int (0+(i:Nat)))=Uo 0 4:=rfl;have d:=wG n' m r d';have e:bf (z7 5) (dg (F (k+2)) (L (k+2))) (Uo 0 4) [some (cv cs),some (.ref 0),some (.lst (ls.map PV.str)),some (.bl b),some (.ref (r.length+1)),none,none] (j9 n m::(r++ [.dct []]))=_:=e;rw[ru];simp[EV,bo,kW,nw,be,r4,e,d]
theorem gh(h:Y3):∀{n:Nat}{v:PV}{d:Nat},VV n v->n+1<=d->aJ h d v=some v
 |_,_,d,.str n l hl hc,hd=>by obtain⟨e,rfl⟩:∃e,d=e+1:=⟨d - 1,by lia⟩;rfl
 |_,_,d,.int n i,hd=>by obtain⟨e,rfl⟩:∃e,d=e+1:=⟨d - 1,by lia⟩;rfl
 |_,_,d,.bl n b,hd=>by obtain⟨e,rfl⟩:∃e,d=e+1:=⟨d - 1,by lia⟩;rfl
 |_,_,d,.lst n xs hx l,hd=>by
  obtain⟨e,rfl⟩:∃e,d=e+1:=⟨d - 1,by lia⟩
  rw[aJ,iq fun x hm=>gh h (hx x hm) ⋯];rfl
 |_,_,d,.dct n l hx nd ln kr,hd=>by
  obtain⟨e,rfl⟩:∃e,d=e+1:=⟨d - 1,by lia⟩
  have p:=(VV.dct n l hx nd ln kr).pure;show(if(PV.dct l).pure=true then some (PV.dct l)else none)=_;rw[if_pos p]
theorem mo{f:PV->Option PV}:∀{l:List (PK×PV)},(∀x∈l,f x.2=some x.2)->eh f l=some l
 |[],_=>rfl
 |x::r,h=>by rw[eh,h x (by simp),mo fun y hy=>h y (by simp[hy])]
def vm{w e:Nat}(q:h[i]? =some (.dct d))(D:DO w e d)(k:Nat)(hk:w+1<=k):aJ h (k+1) (.ref i)=some (.dct d):=by rw[aJ];simp only[q,mo fun x hx=>gh h (D.v x hx) hk];rfl
theorem tV(k:Nat)(cs:List Int)(hc:cs.length<=63)(ls:Ya)(Qw:ls.length=12)(b:Bool)(m:Int)(r:Y3)(o6:Option PV):∀(c j:Nat)(n:Int)(d:List (PK×PV))(o5:Option PV)(e:Nat),j+c=4->0<=n->n+c<=2000000->DO 1 e d->e+c<=1000->∃n' d' R6,bf (z7 5) (gV (F (k+2)) (L (k+2))) (Uo j c) [some (cv cs),some (.ref 0),some (.lst (ls.map PV.str)),some (.bl b),some (.ref (r.length+1)),o5,o6] (R4 n m r d)=.nx [some (cv cs),some (.ref 0),some (.lst (ls.map PV.str)),some (.bl b),some (.ref (r.length+1)),R6,o6] (R4 n' m r d')/\n<=n'/\n'<=n+c/\DO 1 (e+c) d'/\(∀i,(bj d (.inr i)).isSome->(bj d' (.inr i)).isSome)
 |0,j,n,d,o5,e,hj,h0,h1,hd,he=>⟨n,d,o5,rfl,agW _,by lia,hd,fun _ h=>h⟩
 |c+1,j,n,d,o5,e,hj,h0,h1,hd,he=>by
  have j4:j<4:=by lia
  obtain⟨v,v0,v1,ce⟩:=dK (k+1) cs hc n m h0 ⋯ (r++ [.dct d]);have ce:z6 (L (k+2) .C_) [cv cs,.ref 0] (R4 n m r d)=.ok (.int v) (R4 (n+1) m r d):=ce;obtain⟨tc,te⟩:=EX j j4;obtain⟨x,vx,xe⟩:=kX k (tw4 j) tc v v0 v1 b;have Vp:(PV.lst (ls.map PV.str)).pure=true:=by rw[PV.pure];exact bz ls
  have ni:=Bf j (ls:=ls) ⋯;have st:=HJ (n+1) m r d;have hl:d.length<16777216:=by have:=hd.ln;lia
  obtain⟨n',d',a5,q,e1,e2,e3,e4⟩:=tV k cs hc ls Qw b m r o6 c (j+1) (n+1) (aK d (.inr (ls.getD j [])) x) (some (.int (0+(j:Nat)))) (e+1) ⋯ ⋯ ⋯ (hd.put _ vx) ⋯;refine⟨n',d',a5,?_,by lia,by lia,by rw[show e+(c+1)=e+1+c by lia];exact e3,fun i hi=>e4 i (cG (.inr hi))⟩;rw[pL,<- q];refine cR rfl ?_;simp[EV,gV,eN,zG,wG,ce,te,xe,ak _ Vp,ni,st _ _ _ hl]
def pj(k:Nat)(cs:List Int)(hc:cs.length<=63)(b:Bool)(n m:Int)(h0:0<=n)(h1:n<=1000000)(r:Y3):∃xs n',xs.length<=3/\(∀x∈xs,VV 1 x)/\n<=n'/\n'<=n+4/\VV 2 (.lst xs)/\z6 (L (k+3) .Pb) [cv cs,.ref 0,.bl b] (j9 n m::r)=.ok (.lst xs) (j9 n' m::r):=by obtain⟨xs,n',xl,xv,n0,n1,e⟩:=zW k cs hc b n m h0 h1;have vl:VV 2 (.lst xs):=.lst 1 xs xv ⋯;refine⟨xs,n',xl,xv,n0,n1,vl,?_⟩;exact dn (fn:=L (k+3) .Pb) [cv cs] [.bl b] (by rw[aq,gO];rfl) rfl rfl (bR _ _) e vl.pure (bR _ _)
def HV(n m:Int)(r:Y3)(d d3:List (PK×PV))(xs:Y2)(E:Y3):Y3:=j9 n m::(r++.dct d::.dct d3::.lst xs::E)
section
variable(n m:Int)(r:Y3)(d d3:List (PK×PV))(xs:Y2)(E:Y3)
theorem Em:(HV n m r d d3 xs E)[r.length+1]? =some (.dct d):=by show(r++PO.dct d::_)[r.length]? =_;simp
theorem Kp:(HV n m r d d3 xs E)[r.length+2]? =some (.dct d3):=by show(r++PO.dct d::.dct d3::_)[r.length+1]? =_;rw[adL ⋯,show r.length+1 - r.length=1 by lia];rfl
theorem BE:(HV n m r d d3 xs E)[r.length+3]? =some (.lst xs):=by show(r++PO.dct d::.dct d3::.lst xs::E)[r.length+2]? =_;rw[adL ⋯,show r.length+2 - r.length=2 by lia];rfl
theorem Ko(j:Nat):(HV n m r d d3 xs E)[r.length+4+j]? =E[j]? :=by show(j9 n m::(r++PO.dct d::.dct d3::.lst xs::E))[r.length+4+j]? =_;rw[show r.length+4+j=(r.length+3+j)+1 by lia,ad0,adL ⋯,show r.length+3+j - r.length=j+3 by lia];rfl
theorem HH:aj (HV n m r d d3 xs E) (.ref (r.length+1))=.ref (r.length+1):=by unfold aj;dsimp only;rw[Em]
theorem Nn:aj (HV n m r d d3 xs E) (.ref 0)=.ref 0:=rfl
theorem Kl:aj (HV n m r d d3 xs E) (.ref (r.length+3))=.ref (r.length+3):=oB (BE ..)
theorem Ki(ρ:Ev)(s:Y1)(x:PV)(hl:d.length<16777216):eO x (.ref (r.length+1)) (.str s) ρ (HV n m r d d3 xs E)=.nx ρ (HV n m r (aK d (.inr s) x) d3 xs E):=by
 have l:eM (HV n m r d d3 xs E) (.ref (r.length+1))=some (r.length+1,d):=by unfold eM;dsimp only;rw[Em]
 unfold eO;rw[l];show(if d.length<sizeLine then SR.nx ρ _ else _)=_;rw[if_pos (by rw[szl];exact hl)];show SR.nx ρ (j9 n m::(r++PO.dct d::.dct d3::.lst xs::E).set r.length _)=_;rw[adW _ _ ⋯,aee];rfl
theorem Nm(x:PV)(hl:xs.length<16000000):aV (.ref (r.length+3)) [x] (HV n m r d d3 xs E)=.ok .non (HV n m r d d3 (xs++ [x]) E):=by
 rw[vC (BE n m r d d3 xs E) x hl]
 congr 1
 show j9 n m::(r++PO.dct d::.dct d3::.lst xs::E).set (r.length+2) _=_;rw[adW _ _ ⋯,show r.length+2 - r.length=2 by lia];rfl
theorem Nl:bY (HV n m r d d3 xs E) (.ref (r.length+3))=true:=uP (BE ..)
end
noncomputable def Qi(r:Y3)(n:Nat):Y2:=(List.range n).map fun j=>.ref (r.length+4+j)
def Jg(r:Y3)(n:Nat):Qi r (n+1)=Qi r n++ [.ref (r.length+4+n)]:=by unfold Qi;rw[agB,adV];rfl
def jf(j:Nat)(hj:j<ls.length)(h:Y3):f9 (.lst (ls.map PV.str)) (.int (j:Nat)) h=.ok (.str (ls.getD j [])) h:=by
 have:=Bf j hj h
 rwa [Int.zero_add]at this
def Nj(n m:Int)(r:Y3)(d d3:List (PK×PV))(xs:Y2)(E:Y3)(e:List (PK×PV)):R4 n m (r++.dct d::.dct d3::.lst xs::E) e=HV n m r d d3 xs (E++ [.dct e]):=by unfold R4 HV;simp
def Kj(n m:Int)(r:Y3)(d d3:List (PK×PV))(xs:Y2)(E:Y3)(s:Y1)(e:bj d (.inr s)=some (.ref (r.length+3))):f9 (.ref (r.length+1)) (.str s) (HV n m r d d3 xs E)=.ok (.ref (r.length+3)) (HV n m r d d3 xs E):=by
 have q:R_ (HV n m r d d3 xs E) (.ref (r.length+1))=some d:=by unfold R_;dsimp only;rw[Em]
 unfold f9;dsimp only;rw[q];show(match bj d (.inr s)with|some v=>Res.ok (aj _ v) _|none=>.bad)=_;rw[e];dsimp only;rw[Kl]
theorem rj(k:Nat)(cs:List Int)(hc:cs.length<=63)(ls:Ya)(Qw:ls.length=12)(b:Bool)(m:Int)(r:Y3)(d d3:List (PK×PV))(q5:bj d (.inr (ls.getD 5 []))=some (.ref (r.length+3))):∀(is:Y2)(n:Int)(es:List (List (PK×PV)))(o5 o6:Option PV),0<=n->n+8 * is.length<=900000->es.length+is.length<=1000->(∀e∈es,DO 2 5 e)->∃(n':Int)(T8:List (List (PK×PV)))(R6 U_:Option PV),bf (z7 5) (fx (F (k+3)) (L (k+3)) (X_ (k+3))) is [some (cv cs),some (.ref 0),some (.lst (ls.map PV.str)),some (.bl b),some (.ref (r.length+1)),o5,o6] (HV n m r d d3 (Qi r es.length) (es.map PO.dct))=.nx [some (cv cs),some (.ref 0),some (.lst (ls.map PV.str)),some (.bl b),some (.ref (r.length+1)),R6,U_] (HV n' m r d d3 (Qi r T8.length) (T8.map PO.dct))/\n<=n'/\n'<=n+8 * is.length/\T8.length=es.length+is.length/\∀e∈T8,DO 2 5 e
 |[],n,es,o5,o6,h0,h1,h2,he=>⟨n,es,o5,o6,rfl,agW _,by simp,by simp,he⟩
 |i::is,n,es,o5,o6,h0,h1,h2,he=>by
  rw[adu]at h1 h2;obtain⟨n1,e,re,n1a,n1b,De,_⟩:=mT k cs hc ls Qw b n m h0 ⋯ (r++.dct d::.dct d3::.lst (Qi r es.length)::es.map PO.dct);obtain⟨xs,n2,xl,xv,n2a,n2b,vl,we⟩:=pj k cs hc b n1 m ⋯ ⋯ ((r++.dct d::.dct d3::.lst (Qi r es.length)::es.map PO.dct)++[.dct e]);generalize hR:r++.dct d::.dct d3::.lst (Qi r es.length)::es.map PO.dct=R at*;have hRl:R.length+1=r.length+4+es.length:=by rw[<- hR];simp;lia
  have re:X_ (k+3) .M9 [cv cs,.ref 0,.lst (ls.map PV.str),.bl b] (HV n m r d d3 (Qi r es.length) (es.map PO.dct))=.ok (.ref (R.length+1)) (R4 n1 m R e):=by rw[<- re,<- hR];rfl
  have we:z6 (L (k+3) .Pb) [cv cs,.ref 0,.bl b] (R4 n1 m R e)=.ok (.lst xs) (R4 n2 m R e):=we;have Vp:(PV.lst (ls.map PV.str)).pure=true:=by rw[PV.pure];exact bz ls
  have n7:=jf 7 (ls:=ls) ⋯;have n5:=jf 5 (ls:=ls) ⋯;have st:=fun ρ=>HJ n2 m R e ρ (ls.getD 7 []) (.lst xs) (by have:=De.ln;lia);have D2:DO 2 5 (aK e (.inr (ls.getD 7 [])) (.lst xs)):=(De.mono ⋯ (adA _)).put _ vl;generalize hE:aK e (.inr (ls.getD 7 [])) (.lst xs)=e2 at*;have hh:R4 n2 m R e2=HV n2 m r d d3 (Qi r es.length) (es.map PO.dct++ [.dct e2]):=by rw[<- hR];exact Nj ..
  have rl:(Qi r es.length).length<=1000:=by unfold Qi;rw[adJ,adY];lia
  have ix5:=Kj n2 m r d d3 (Qi r es.length) (es.map PO.dct++ [.dct e2]) (ls.getD 5 []) q5;have ap:=Nm n2 m r d d3 (Qi r es.length) (es.map PO.dct++ [.dct e2]) (.ref (R.length+1)) ⋯;have il:=Nl n2 m r d d3 (Qi r es.length) (es.map PO.dct++ [.dct e2]);have d4:=HH n2 m r d d3 (Qi r es.length) (es.map PO.dct++ [.dct e2]);have dR2:aj (R4 n2 m R e2) (.ref (R.length+1))=.ref (R.length+1):=wG ..;rw[hh]at dR2;have d0:aj (HV n m r d d3 (Qi r es.length) (es.map PO.dct)) (.ref 0)=.ref 0:=rfl
  have hf:HV n2 m r d d3 (Qi r es.length++ [.ref (R.length+1)]) (es.map PO.dct++ [.dct e2])=HV n2 m r d d3 (Qi r (es++ [e2]).length) ((es++ [e2]).map PO.dct):=by rw[adt,adH,Jg,hRl,adV];rfl
  obtain⟨n',T8,a5,a6,q,g1,g2,g3,g4⟩:=rj k cs hc ls Qw b m r d d3 q5 is n2 (es++ [e2]) (some i) (some (.ref (R.length+1))) ⋯ ⋯ (by rw[adt,adH];lia) (fun z hz=>by
   rcases adS.mp hz with y|y
   .exact he z y
   .rw[adw]at y;rw[y];exact D2)
  refine⟨n',T8,a5,a6,?_,by lia,by rw[adu];lia,by rw[g3,adt,adH,adu];lia,g4⟩;rw[<- q,<- hf];refine cR rfl ?_;have n7:∀h,f9 (.lst (ls.map PV.str)) (.int 7) h=.ok (.str (ls.getD 7 [])) h:=n7;have n5:∀h,f9 (.lst (ls.map PV.str)) (.int 5) h=.ok (.str (ls.getD 5 [])) h:=n5;simp[EV,fx,eN,d0,ak _ Vp,re,zG,wG,we,n7,n5,st,hh,d4,ix5,il,dR2,ap]
def HZ(n m:Int)(r:Y3)(d:List (PK×PV))(T:Y3):Y3:=j9 n m::(r++.dct d::T)
section
variable(n m:Int)(r:Y3)(d:List (PK×PV))(T:Y3)
theorem Kh:(HZ n m r d T)[r.length+1]? =some (.dct d):=by show(r++PO.dct d::T)[r.length]? =_;simp
theorem Nf:aj (HZ n m r d T) (.ref (r.length+1))=.ref (r.length+1):=by unfold aj;dsimp only;rw[Kh]
theorem Ni:aj (HZ n m r d T) (.ref 0)=.ref 0:=rfl
theorem Kg:(HZ n m r d T).length=r.length+2+T.length:=by unfold HZ;simp;lia
theorem Nc(ρ:Ev)(s:Y1)(x:PV)(hl:d.length<16777216):eO x (.ref (r.length+1)) (.str s) ρ (HZ n m r d T)=.nx ρ (HZ n m r (aK d (.inr s) x) T):=by
 have l:eM (HZ n m r d T) (.ref (r.length+1))=some (r.length+1,d):=by unfold eM;dsimp only;rw[Kh]
 unfold eO;rw[l];show(if d.length<sizeLine then SR.nx ρ _ else _)=_;rw[if_pos (by rw[szl];exact hl)];show SR.nx ρ (j9 n m::(r++PO.dct d::T).set r.length _)=_;rw[adW _ _ ⋯,aee];rfl
theorem Nh(d3:List (PK×PV)):R4 n m (r++ [.dct d]) d3=HZ n m r d [.dct d3]:=by unfold R4 HZ;simp
theorem Ng(d3:List (PK×PV)):HZ n m r d [.dct d3]++[.lst []]=HV n m r d d3 (Qi r 0) []:=by unfold HZ HV Qi;simp
end
def yI(k:Nat)(cs:List Int)(hc:cs.length<=63)(ls:Ya)(Qw:ls.length=12)(b:Bool)(n m:Int)(h0:0<=n)(h1:n<=800000)(r:Y3):∃(n':Int)(d2 d3:List (PK×PV))(es:List (List (PK×PV)))(ws:Y2),X_ (k+4) .O1 [cv cs,.ref 0,.lst (ls.map PV.str),.bl b] (j9 n m::r)=.ok (.ref (r.length+1)) (HV n' m r (aK (aK (aK d2 (.inr (ls.getD 4 [])) (.ref (r.length+2))) (.inr (ls.getD 5 [])) (.ref (r.length+3))) (.inr (ls.getD 6 [])) (.lst ws)) d3 (Qi r es.length) (es.map PO.dct))/\DO 1 8 d2/\(∀i,i<4->(bj d2 (.inr (ls.getD i []))).isSome)/\DO 1 4 d3/\es.length<=3/\(∀e∈es,DO 2 5 e)/\VV 2 (.lst ws):=by
 obtain⟨n1,d1,re1,n1a,n1b,D1,i1⟩:=mT k cs hc ls Qw false n m h0 ⋯ r;obtain⟨n2,d2,a5,lp,n2a,n2b,D2,i2⟩:=tV (k+1) cs hc ls Qw b m r none 4 0 n1 d1 none 4 rfl ⋯ ⋯ D1 ⋯;obtain⟨n3,d3,Yr,n3a,n3b,D3,_⟩:=mT k cs hc ls Qw b n2 m ⋯ ⋯ (r++ [.dct d2]);have l3:(r++ [PO.dct d2]).length+1=r.length+2:=by simp
 rw[l3,Nh]at Yr;have Yr:X_ (k+3) .M9 [cv cs,.ref 0,.lst (ls.map PV.str),.bl b] (R4 n2 m r d2)=.ok (.ref (r.length+2)) (HZ n3 m r d2 [.dct d3]):=Yr;have s4:=fun ρ=>Nc n3 m r d2 [.dct d3] ρ (ls.getD 4 []) (.ref (r.length+2)) (by have:=D2.ln;lia);have p4:=ij d2 (.inr (ls.getD 4 [])) (PV.ref (r.length+2));generalize e4:aK d2 (.inr (ls.getD 4 [])) (PV.ref (r.length+2))=d4 at*;have nl:(HZ n3 m r d4 [.dct d3]).length=r.length+3:=by rw[Kg];rfl
 have nl2:HZ n3 m r d4 [.dct d3]++[.lst []]=HV n3 m r d4 d3 (Qi r 0) []:=Ng ..;have s5:=fun ρ=>Ki n3 m r d4 d3 (Qi r 0) [] ρ (ls.getD 5 []) (.ref (r.length+3)) (by have:=D2.ln;lia);have p5:=ij d4 (.inr (ls.getD 5 [])) (PV.ref (r.length+3));have q5:bj (aK d4 (.inr (ls.getD 5 [])) (.ref (r.length+3))) (.inr (ls.getD 5 []))=some (.ref (r.length+3)):=by rw[tW,if_pos rfl]
 generalize e5:aK d4 (.inr (ls.getD 5 [])) (PV.ref (r.length+3))=d5 at*;obtain⟨v,v0,v1,ce⟩:=dK (k+2) cs hc n3 m ⋯ ⋯ (r++.dct d5::.dct d3::.lst (Qi r 0)::[]);have ce:z6 (L (k+3) .C_) [cv cs,.ref 0] (HV n3 m r d5 d3 (Qi r 0) [])=.ok (.int v) (HV (n3+1) m r d5 d3 (Qi r 0) []):=ce;have v4:=aY (v / 5) (m:=4) ⋯;have be2:QW 4611686018427387904 (v / 5 % 4)=true:=bD.mpr ⋯;have il:((List.range (v / 5 % 4).toNat).map (fun i:Nat=>PV.int (0+(i:Nat)))).length<=3:=by rw[adJ,adY];lia
 obtain⟨n5,es,a5',a6',rl,n5a,n5b,el,De⟩:=rj k cs hc ls Qw b m r d5 d3 q5 ((List.range (v / 5 % 4).toNat).map (fun i:Nat=>PV.int (0+(i:Nat)))) (n3+1) [] a5 none ⋯ ⋯ (by rw[adQ];lia) (fun e he=>nomatch he);rw[adQ]at el;obtain⟨xs,n6,xl,xv,n6a,n6b,vl,we⟩:=pj k cs hc b n5 m ⋯ ⋯ (r++.dct d5::.dct d3::.lst (Qi r es.length)::es.map PO.dct);have we:z6 (L (k+3) .Pb) [cv cs,.ref 0,.bl b] (HV n5 m r d5 d3 (Qi r es.length) (es.map PO.dct))=.ok (.lst xs) (HV n6 m r d5 d3 (Qi r es.length) (es.map PO.dct)):=we;have s6:=fun ρ=>Ki n6 m r d5 d3 (Qi r es.length) (es.map PO.dct) ρ (ls.getD 6 []) (.lst xs) (by have:=D2.ln;lia);refine⟨n6,d2,d3,es,xs,?_,D2,fun i hi=>i2 _ (i1 rfl i hi),D3,by lia,De,vl⟩;rw[e4,e5];have n4:∀h,f9 (.lst (ls.map PV.str)) (.int 4) h=.ok (.str (ls.getD 4 [])) h:=jf 4 (ls:=ls) ⋯;have n5':∀h,f9 (.lst (ls.map PV.str)) (.int 5) h=.ok (.str (ls.getD 5 [])) h:=jf 5 (ls:=ls) ⋯;have n6':∀h,f9 (.lst (ls.map PV.str)) (.int 6) h=.ok (.str (ls.getD 6 [])) h:=jf 6 (ls:=ls) ⋯;have Vp:(PV.lst (ls.map PV.str)).pure=true:=by rw[PV.pure];exact bz ls
 have be4:QW 4611686018427387904 4=true:=by decide
 have r4:(List.range (4:Int).toNat).map (fun i:Nat=>PV.int (0+(i:Nat)))=Uo 0 4:=rfl;have rl:bf (z7 5) (fx (F (k+3)) (L (k+3)) (X_ (k+3))) ((List.range (v / 5 % 4).toNat).map (fun i:Nat=>PV.int (0+(i:Nat)))) [some (cv cs),some (.ref 0),some (.lst (ls.map PV.str)),some (.bl b),some (.ref (r.length+1)),a5,none] (HV (n3+1) m r d5 d3 (Qi r 0) [])=_:=rl;have d00:aj (j9 n m::r) (.ref 0)=.ref 0:=rfl;have d6:=HH n6 m r (aK d5 (.inr (ls.getD 6 [])) (.lst xs)) d3 (Qi r es.length) (es.map PO.dct);have ru:X_ (k+4) .O1 [cv cs,.ref 0,.lst (ls.map PV.str),.bl b] (j9 n m::r)=bo (kS (F (k+3)) (L (k+3)) (X_ (k+3))) 4 7 [cv cs,.ref 0,.lst (ls.map PV.str),.bl b] (j9 n m::r):=rfl;rw[ru];simp[EV,bo,kS,eN,d00,ak _ Vp,re1,wG,zG,be4,r4,lp,n4,n5',n6',Yr,Nf,Ni,s4,nl,nl2,s5,HH,Nn,ce,be2,rl,we,s6]
theorem uK{α β:Type}{f:α->Option β}:∀l:List α,(∀x∈l,∃y,f x=some y)->∃l',cQ f l=some l'/\∀(i:Nat)(x:α)(y:β),l[i]? =some x->f x=some y->l'[i]? =some y
 |[],_=>⟨[],rfl,fun i x y e=>by simp at e⟩
 |a::r,h=>by
  obtain⟨b,hb⟩:=h a (by simp);obtain⟨r',e,g⟩:=uK r fun x hx=>h x (by simp[hx]);refine⟨b::r',by rw[cQ,hb,e],fun i x y e1 e2=>?_⟩
  cases i with
  |zero=>cases e1;rw[hb]at e2;cases e2;rfl
  |succ i=>exact g i x y e1 e2
def BS(ok:∀i,i<h.length->∃y,qV h i=some y){q:PV}(hj:j<h.length)(e:qV h j=some (.s8 q)):∃hz,iC h=some hz/\hz[j]? =some (.s8 q):=by obtain⟨hz,a,b⟩:=uK (List.range h.length) fun i hi=>ok i (ad3.mp hi);exact⟨hz,a,b j j _ (by rw[adx (by rw[adY];exact hj),aeW]) e⟩
def uV(e:h[i]? =some (.dct d))(m:eh (aJ h 99) d=some q):qV h i=some (.s8 (.dct q)):=by unfold qV;rw[e];dsimp only;rw[aJ];simp only[e,m];rfl
def uU{d q:Y2}(e:h[i]? =some (.lst d))(m:cQ (aJ h 99) d=some q):qV h i=some (.s8 (.lst q)):=by unfold qV;rw[e];dsimp only;rw[aJ];simp only[e,m];rfl
theorem uN{f:PV->Option PV}(g:PK->Bool):∀{d s:List (PK×PV)},eh f d=some s->(d.any fun x=>g x.1)=s.any fun x=>g x.1
 |[],s,e=>by rw[eh]at e;cases e;rfl
 |x::r,s,e=>by
  rw[eh]at e
  split at e
  .rename_i y l e1 e2
   cases e
   rw[ae1,ae1,uN g e2]
  .cases e
theorem uL{f:PV->Option PV}{v w:PV}(hv:f v=some w)(k:PK):∀{d s:List (PK×PV)},eh f d=some s->eh f (d.map fun x=>if x.1=k then(x.1,v)else x)=some (s.map fun x=>if x.1=k then(x.1,w)else x)
 |[],s,e=>by rw[eh]at e;cases e;rfl
 |x::r,s,e=>by
  rw[eh]at e
  split at e
  .rename_i y l e1 e2
   cases e
   have ih:=uL hv k e2
   by_cases q:x.1=k
   .simp only[adE,if_pos q,eh,hv,ih]
   .simp only[adE,if_neg q,eh,e1,ih]
  .cases e
theorem uM{f:PV->Option PV}{v w:PV}(hv:f v=some w)(k:PK):∀{d s:List (PK×PV)},eh f d=some s->eh f (d++ [(k,v)])=some (s++ [(k,w)])
 |[],s,e=>by rw[eh]at e;cases e;simp only[ad1,eh,hv]
 |x::r,s,e=>by
  rw[eh]at e
  split at e
  .rename_i y l e1 e2
   cases e
   simp only[aei,eh,e1,uM hv k e2]
  .cases e
def jL{f:PV->Option PV}{w:PV}(hv:f v=some w)(k:PK){s:List (PK×PV)}(e:eh f d=some s):eh f (aK d k v)=some (aK s k w):=by
 have a:=uN (fun x=>decide (x=k)) e;unfold aK;rw[a]
 split
 .exact uL hv k e
 .exact uM hv k e
section
variable(n m:Int)(d:List (PK×PV))(D3:DO 1 4 d3)(De:∀e∈es,DO 2 5 e)(el:es.length<=3)
def Ub(n m:Int)(d d3:List (PK×PV))(es:List (List (PK×PV))):Y3:=HV n m [] d d3 (Qi [] es.length) (es.map PO.dct)
include D3 in
theorem Kn(k:Nat)(hk:3<=k):aJ (Ub n m d d3 es) k (.ref 2)=some (.dct d3):=by
 obtain⟨e,rfl⟩:∃e,k=e+1:=⟨k - 1,by lia⟩
 exact vm (Kp n m [] d d3 _ _) D3 e ⋯
include De in
theorem Kk(j:Nat)(hj:j<es.length)(k:Nat)(hk:4<=k):aJ (Ub n m d d3 es) k (.ref (4+j))=some (.dct es[j]):=by
 obtain⟨e,rfl⟩:∃e,k=e+1:=⟨k - 1,by lia⟩
 have g:(Ub n m d d3 es)[4+j]? =some (.dct es[j]):=by have:=Ko n m [] d d3 (Qi [] es.length) (es.map PO.dct) j;rw[adZ,adx hj,adQ,afX]at this;exact this
 exact vm g (De _ (aeh ..)) e ⋯
theorem qc{α β γ:Type}{f:β->Option γ}{g:α->β}{t:α->γ}:∀l:List α,(∀x∈l,f (g x)=some (t x))->cQ f (l.map g)=some (l.map t)
 |[],_=>rfl
 |x::r,h=>by rw[adE,cQ,h x (by simp),qc r fun y hy=>h y (by simp[hy])];rfl
include De in
theorem FG(k:Nat)(hk:4<=k):cQ (aJ (Ub n m d d3 es) k) (Qi [] es.length)=some (es.map PV.dct):=by
 unfold Qi
 rw[qc (t:=fun j=>PV.dct (es.getD j [])) _ fun j hj=>by have hj:=ad3.mp hj;show aJ _ k (.ref ([].length+4+j))=_;rw[adQ,afX,Kk n m d De j hj k hk,adM,adx hj];rfl]
 congr 1
 refine ahL (by simp) fun i h1 h2=>?_;rw[adJ]at h2;simp only[ahJ,aeW,adM,adx h2,afA]
include De in
theorem Km(k:Nat)(hk:5<=k):aJ (Ub n m d d3 es) k (.ref 3)=some (.lst (es.map PV.dct)):=by
 obtain⟨e,rfl⟩:∃e,k=e+1:=⟨k - 1,by lia⟩
 have g:=BE n m [] d d3 (Qi [] es.length) (es.map PO.dct);have g:(Ub n m d d3 es)[3]? =some (.lst (Qi [] es.length)):=g;rw[aJ];simp only[g,FG n m d De e ⋯];rfl
include D3 De in
theorem zY(hm:eh (aJ (Ub n m d d3 es) 99) d=some q):∃hz,iC (Ub n m d d3 es)=some hz/\hz[1]? =some (.s8 (.dct q)):=by
 have c1:qV (Ub n m d d3 es) 1=some (.s8 (.dct q)):=uV (Em n m [] d d3 _ _) hm;have len:(Ub n m d d3 es).length=4+es.length:=by unfold Ub HV;simp;lia
 refine BS (fun i hi=>?_) (by rw[len];lia) c1
 match i,hi with
 |0,_=>exact⟨_,uU (show(Ub n m d d3 es)[0]? =some (.lst [.int n,.int m])from rfl) (iq fun x hx=>by
   rcases adD.mp hx with rfl|hx
   .rfl
   .rw[adw]at hx;subst hx;rfl)⟩
 |1,_=>exact⟨_,c1⟩
 |2,_=>exact⟨_,uV (Kp n m [] d d3 _ _) (mo fun x hx=>gh _ (D3.v x hx) ⋯)⟩
 |3,_=>exact⟨_,uU (BE n m [] d d3 _ _) (FG n m d De 99 ⋯)⟩
 |i+4,hi=>
  have hj:i<es.length:=by lia
  have g:(Ub n m d d3 es)[i+4]? =some (.dct es[i]):=by have:=Ko n m [] d d3 (Qi [] es.length) (es.map PO.dct) i;rw[adZ,adx hj,adQ,afX,Nat.add_comm]at this;exact this
  exact⟨_,uV g (mo fun x hx=>gh _ ((De _ (aeh ..)).v x hx) ⋯)⟩
end
def Y8(d2 d3:List (PK×PV))(es:List (List (PK×PV)))(ws:Y2)(a b c:Y1):List (PK×PV):=aK (aK (aK d2 (.inr a) (.dct d3)) (.inr b) (.lst (es.map PV.dct))) (.inr c) (.lst ws)
def dV(d2:List (PK×PV))(ws:Y2)(a b c:Y1):List (PK×PV):=aK (aK (aK d2 (.inr a) (.ref 2)) (.inr b) (.ref 3)) (.inr c) (.lst ws)
def Gr(a b c:Y1)(D2:DO 1 8 d2)(D3:DO 1 4 d3)(De:∀e∈es,DO 2 5 e)(el:es.length<=3)(vw:VV 2 (.lst ws)):DO 4 11 (Y8 d2 d3 es ws a b c):=by
 have v3:VV 4 (.dct d3):=(VV.dct 1 d3 D3.v D3.nd (by have:=D3.ln;lia) D3.kr).mono ⋯
 have ve:VV 4 (.lst (es.map PV.dct)):=.lst 3 _ (fun x hx=>by obtain⟨e,he,rfl⟩:=adT.mp hx;have D:=De e he;exact .dct 2 e D.v D.nd (by have:=D.ln;lia) D.kr) (by rw[adJ];lia)
 exact(((D2.mono ⋯ (adA _)).put a v3).put b ve).put c (vw.mono ⋯)
def yv(n m:Int)(d:List (PK×PV))(a b c:Y1)(D2:DO 1 8 d2)(D3:DO 1 4 d3)(De:∀e∈es,DO 2 5 e)(vw:VV 2 (.lst ws)):eh (aJ (Ub n m d d3 es) 99) (dV d2 ws a b c)=some (Y8 d2 d3 es ws a b c):=
 jL (gh _ vw ⋯) _ (jL (Km n m d De 99 ⋯) _ (jL (Kn n m d D3 99 ⋯) _ (mo fun x hx=>gh _ (D2.v x hx) ⋯)))
def HB(n m:Int)(js:Y3)(xs:Y2):Y3:=j9 n m::(js++ [.lst xs])
section
variable(n m:Int)(js:Y3)(xs:Y2)
theorem gZ:(HB n m js xs)[js.length+1]? =some (.lst xs):=by show(js++ [PO.lst xs])[js.length]? =_;simp
theorem BH(ys:Y2):(HB n m js xs).set (js.length+1) (.lst ys)=HB n m js ys:=by show j9 n m::(js++ [PO.lst xs]).set js.length _=_;rw[adW _ _ ⋯,aee];rfl
theorem nY:aj (HB n m js xs) (.ref (js.length+1))=.ref (js.length+1):=oB (gZ ..)
theorem rI:aj (HB n m js xs) (.ref 0)=.ref 0:=rfl
theorem Kt:f9 (.ref 0) (.int 0) (HB n m js xs)=.ok (.int n) (HB n m js xs):=rfl
theorem Ia:bY (HB n m js xs) (.ref (js.length+1))=true:=uP (gZ ..)
theorem BI(p:PV)(h:xs.length<16000000):aV (.ref (js.length+1)) [p] (HB n m js xs)=.ok .non (HB n m js (xs++ [p])):=by rw[vC (gZ ..) p h,BH]
theorem HX:S9 (HB n m js xs) (.ref (js.length+1))=some xs:=by show(match(HB n m js xs)[js.length+1]? with|some (.lst xs)=>some xs|_=>none)=_;rw[gZ]
theorem HY:(HB n m js xs).length=js.length+2:=by unfold HB;simp
theorem wI(ys:Y2)(h:xs.length+ys.length<=16777216):im (.ref (js.length+1)) (.lst ys) (HB n m js xs)=.ok (.ref ((js++ [PO.lst xs]).length+1)) (HB n m (js++ [.lst xs]) (xs++ys)):=by have e:S9 (HB n m js xs) (.lst ys)=some ys:=rfl;unfold im;simp only[HX,e];rw[if_pos (by rw[szl];exact h),HY,adt,adH];unfold HB;rw[aei]
theorem Lc(v:PV)(T:Y3):oE 1 v (j9 n m::T)=.ok v [j9 n m]:=by unfold oE;rw[if_pos (by rw[adI];exact⟨rfl,by rw[Nat.ble_eq,adu];lia⟩)];rfl
theorem Ib(h:aq xs=true):lN 1 (.ref (js.length+1)) (HB n m js xs)=.ok (.lst xs) [j9 n m]:=by
 have f:ei (HB n m js xs) (.ref (js.length+1))=some (.lst xs,(HB n m js xs).set (js.length+1) (.s8 (.lst xs))):=by unfold ei;simp only[gZ,h,if_true]
 unfold lN;rw[f];exact Lc n m _ _
theorem It(hv:v.pure=true)(T:Y3):lN 1 v (j9 n m::T)=.ok v [j9 n m]:=by unfold lN;rw[eP _ hv];exact Lc n m _ _
end
abbrev av(sc:List Si)(ls:Ya)(u:Bool):PV:=.tup [.lst (sc.map it),.lst (ls.map PV.str),.bl u]
def oY(sc:List Si)(ls:Ya)(u:Bool):(av sc ls u).pure=true:=by simp[PV.pure,aq,mu,bz]
abbrev Vh:Y1:=[116,119,110]
noncomputable def YS:Ya:=[[],Vh,[108,109],[98]]
noncomputable def An:Y2:=[.str [],.str Vh,.str Vh,.str [108,109],.str [108,109],.str [98],.str [98]]
def uj(j:Int)(h0:0<=j)(h1:j<7):∃kd,kd∈YS/\(j<3->kd= []\/kd=Vh)/\∀h,f9 (.lst An) (.int j) h=.ok (.str kd) h:=by
 rcases(show j=0\/j=1\/j=2\/j=3\/j=4\/j=5\/j=6 by lia)with rfl|rfl|rfl|rfl|rfl|rfl|rfl
 .exact⟨[],by decide,fun _=>.inl rfl,fun _=>rfl⟩
 .exact⟨Vh,by decide,fun _=>.inr rfl,fun _=>rfl⟩
 .exact⟨Vh,by decide,fun _=>.inr rfl,fun _=>rfl⟩
 .exact⟨[108,109],by decide,fun q=>by lia,fun _=>rfl⟩
 .exact⟨[108,109],by decide,fun q=>by lia,fun _=>rfl⟩
 .exact⟨[98],by decide,fun q=>by lia,fun _=>rfl⟩
 .exact⟨[98],by decide,fun q=>by lia,fun _=>rfl⟩
def JV{kd:Y1}(h:kd∈YS):H_ kd=true:=by simp only[YS,adD,aeb,or_false]at h;rcases h with rfl|rfl|rfl|rfl<;>decide
def JW(v deep n m:Int)(js:Y3)(xs:Y2):∃kd:Y1,kd∈YS/\(deep<1->kd= []\/kd=Vh)/\∀(x0 x2 x4 x5 x7 x8 x9 P_:Option PV),
  aar [x0,some (.ref 0),x2,some (.int deep),x4,x5,some (.int v),x7,x8,x9,P_] (HB n m js xs)=.ok (.str kd) (HB n m js xs):=by
 have i0:=Kt n m js xs;have d0:=rI n m js xs;have q3:=aY v (m:=3) ⋯;have q7:=aY v (m:=7) ⋯;obtain⟨k3,m3,t3,e3⟩:=uj (v % 3) q3.1 ⋯;obtain⟨k7,m7,_,e7⟩:=uj (v % 7) q7.1 q7.2;unfold An at e3 e7;have lt:∀h,U8 (.int deep) (.int 1) h=.ok (.bl (decide (deep<1))) h:=fun _=>rfl;have gt:∀h,Tp (.int n) (.int 24) h=.ok (.bl (decide (24<n))) h:=fun _=>rfl;have ior:∀(a b:Ex)(ρ:Ev)(h:Y3),YQ a b ρ h=(a ρ h).bind fun p h1=>(match p with|.bl c=>if c=true then .ok (.bl true) h1 else b ρ h1|_=>.bad):=fun _ _ _ _=>rfl;have n1:∀h,f9 (.lst [.int 7,.int 3]) (.int 1) h=.ok (.int 3) h:=fun _=>rfl;have n0:∀h,f9 (.lst [.int 7,.int 3]) (.int 0) h=.ok (.int 7) h:=fun _=>rfl
 by_cases hd:deep<1
 .refine⟨k3,m3,fun _=>t3 q3.2,fun x0 x2 x4 x5 x7 x8 x9 P_=>?_⟩;rw[decide_eq_true hd]at lt;simp[EV,ior,lt,n1,e3]
 .rw[decide_eq_false hd]at lt
  by_cases hn:24<n
  .refine⟨k3,m3,fun q=>absurd q hd,fun x0 x2 x4 x5 x7 x8 x9 P_=>?_⟩;rw[decide_eq_true hn]at gt;simp[EV,ior,lt,d0,i0,gt,n1,e3]
  .refine⟨k7,m7,fun q=>absurd q hd,fun x0 x2 x4 x5 x7 x8 x9 P_=>?_⟩;rw[decide_eq_false hn]at gt;simp[EV,ior,lt,d0,i0,gt,n0,e7]
noncomputable def iS(kd:Y1)(sc:List Si):List Si:=sc.filter fun x=>kd.contains x.2.2
def EC(k:Nat)(kd:Y1)(hk:H_ kd=true)(sc:List Si)(h:Y3):cg (eW (F k)) (iu (F k)) [some (.str kd)] (sc.map it) h=.ok ((iS kd sc).map it) h:=by
 have:=gP (tt:=eW (F k)) (te:=iu (F k)) (cp:=[some (.str kd)]) (h:=h) (t:=fun p=>match p with|.tup [_,.str [c]]=>kd.contains c|_=>false) (f:=fun p=>p) (sc.map it) (fun p hp=>by
  obtain⟨x,hx,rfl⟩:=adT.mp hp;have ne:=sP kd [] h (fun c hc=>of_decide_eq_true (adX.mp hk c hc)) (by simp);have i1:=iQ x.2.2 kd;have x1:f9 (it x) (.int 1) h=.ok (.str [x.2.2]) h:=rfl;have iN:Wt (.str [x.2.2]) (.str kd) h=.ok (.bl (kd.contains x.2.2)) h:=by rw[<- i1];rfl
  have di:aj h (it x)=it x:=rfl;show _=Res.ok (kd.contains x.2.2) h
  cases z:kd.contains x.2.2 with
  |false=>rw[z]at iN;simp[EV,eW,di,x1,iN]
  |true=>
   rw[z]at iN
   have nk:decide (kd= [])=false:=by
    cases kd with
    |nil=>simp at z
    |cons a b=>simp
   rw[nk]at ne;simp[EV,eW,di,x1,iN,ne]) (fun p hp=>by
  obtain⟨x,hx,rfl⟩:=adT.mp hp;rfl)
 rw[this,afY,ahU];rfl
theorem Dy(fs:List Si)(v:Int):(∃x∈fs,PN (fs.map it++ [.tup [.non,.str []]]) (v / 7 % (if(fs.length:Int)>1 then(fs.length:Int)else 1))=some (it x))\/(fs= []/\PN (fs.map it++ [.tup [.non,.str []]]) (v / 7 % (if(fs.length:Int)>1 then(fs.length:Int)else 1))=some (.tup [.non,.str []])):=by
 cases fs with
 |nil=>exact .inr ⟨rfl,by
   have e:v / 7 % (if(([]:List Si).length:Int)>1 then(([]:List Si).length:Int)else 1)=0:=by simp[Int.emod_one]
   rw[e];rfl⟩
 |cons a r=>
  left
  generalize hm:(if((a::r).length:Int)>1 then((a::r).length:Int)else 1)=m
  have m1:0<m/\m<=((a::r).length:Int):=by
   rw[adu]at hm |-
   split at hm<;>lia
  have h0:=aY (v / 7) m1.1;generalize v / 7 % m=j at h0;have hj:j.toNat<(a::r).length:=by lia
  refine⟨(a::r)[j.toNat],aeh hj,eG h0.1 ?_⟩;rw[adC (by rw[adJ];exact hj),adZ,adx hj];rfl
def dB{f:Ex}(e:f ρ h=.ok v h1):aA i f ρ h=.nx (ρ.set i (some v)) h1:=by unfold aA;rw[e];rfl
def Got(r:Res PV)(n m:Int)(B:Ya)(d c e:Nat):Prop:=∃ns n',r=.ok (.lst (b_ ns)) [j9 n' m]/\Nk B d e ns/\n<=n'/\n'<=n+(c:Int)
def Wh(B:Ya)(sc:List Si):Prop:=∀x∈sc,Am x/\x.1∈B/\x.2.1.length<=1
def sW(a b:List Nd):b_ (a++b)=b_ a++b_ b:=by rw[io,io,io,adV]
def fG(a:List Nd):(b_ a).length=a.length:=by rw[io,adJ]
def dh(l:List Nd):(PV.lst (b_ l)).pure=true:=by rw[PV.pure];exact bB l
def mL(a b:Y2)(h:Y3)(q:a.length+b.length<=16777216):aG (.lst a) (.lst b) h=.ok (.lst (a++b)) h:=by show(if a.length+b.length<=sizeLine then _ else _)=_;rw[if_pos (by rw[szl];exact q)]
def nU(C:CC)(D:DD):Sx:=(G4 adk (bS (cM bY aV (af 4) (aa (cN aM (aa aac (aa (aI (C .QF) (aa abY ai)) ai))) ai))) (G4 adg (aA 4 (c2 im (af 4) (aI (C .Qp) abl))) (G4 adf (aA 4 (c2 im (af 4) (bx (D .I_) abT))) (aA 4 (c2 im (af 4) (bx (D .Px) abC))))))
theorem BB(a:Y1)(f:Ya):mw (q_ a f)=false:=rfl
theorem Kc:mw .non=true:=rfl
theorem mV(h:Y3)(a:Y1)(f:Ya):aj h (q_ a f)=q_ a f:=rfl
def wE(c:Nat)(h:Y3):Wt (.str [c]) (.str [116,119,110]) h=.ok (.bl (Vh.contains c)) h:=by rw[<- iQ];rfl
section
variable(k:Nat)(n n' m v:Int)(js:Y3)(A ns:List Nd)(hA:A.length<=1000)(hn:ns.length<=1000)(y0 y1 y2 y3 y5 y7 y8 Rx:Option PV)
include hA
theorem yM(d:Nat)(B:Ya)(h0:0<=v)(h1:v<400000000):∃ns,Nk B d 5 ns/\
  nU (F (k+2)) (L (k+2)) [y0,y1,y2,y3,some (.ref (js.length+1)),y5,some (.int v),y7,y8,some .non,Rx] (HB n m js (b_ A))=.nx [y0,y1,y2,y3,some (.ref (js.length+1)),y5,some (.int v),y7,y8,some .non,Rx] (HB n m js (b_ (A++ns))):=by
 have q7:0<=v / 7/\v / 7<400000000:=by lia
 obtain⟨s,sl,sc,te⟩:=xC k (v / 7) q7.1 q7.2;have te:∀h,aX (F (k+2) .QF) [.int (v / 7)] h=.ok (.str s) h:=fun h=>aL h rfl te;refine⟨[.text s],Nk.text (fun c hc=>kQ c (sc c hc)) ⋯ ⋯,?_⟩;have tn:PV.tup [.str [116,101,120,116],.str s]=nd (.text s):=by rw[nd]
 have d4:=nY n m js (b_ A);have li:=Ia n m js (b_ A);have ap:=BI n m js (b_ A) (nd (.text s)) (by rw[fG];lia);have e:b_ (A++ [.text s])=b_ A++ [nd (.text s)]:=by rw[sW];rfl
 rw[e];simp[EV,nU,Kc,d4,li,te,tn,ap]
theorem vO(d:Nat)(hB:a∈B)(ha:H_ a=true)(hf:∀s∈f,H_ s=true)(hl:f.length<=900)(c:Nat)(hc:c=116\/c=119\/c=110)(u:Bool)(a0 a1:PV)(h0:0<=v)(h1:v<400000000):∃ns,Nk B d 5 ns/\
  nU (F (k+3)) (L (k+3)) [y0,y1,some (.tup [a0,a1,.bl u]),y3,some (.ref (js.length+1)),y5,some (.int v),y7,y8,some (q_ a f),some (.str [c])] (HB n m js (b_ A))=.nx [y0,y1,some (.tup [a0,a1,.bl u]),y3,some (.ref ((js++ [PO.lst (b_ A)]).length+1)),y5,some (.int v),y7,y8,some (q_ a f),some (.str [c])] (HB n m (js++ [.lst (b_ A)]) (b_ (A++ns))):=by
 have q:0<=v / 49/\v / 49<400000000:=by lia
 obtain⟨ns,nk,e⟩:=AR k d hB ha hf hl c hc u (v / 49) q.1 q.2;have e:∀h,aX (F (k+3) .Qp) [q_ a f,.str [c],.bl u,.int (v / 49)] h=.ok (.lst (b_ ns)) h:=fun h=>aL h (by simp[aq,dX,PV.pure]) e;refine⟨ns,nk,?_⟩;have d4:=nY n m js (b_ A);have ix:∀h,f9 (.tup [a0,a1,.bl u]) (.int 2) h=.ok (.bl u) h:=fun _=>rfl;have i1:Vh.contains c=true:=by rcases hc with rfl|rfl|rfl<;>rfl
 have ad:=wI n m js (b_ A) (b_ ns) (by rw[fG,fG];have:=nk.ln;lia);rw[sW];simp[EV,nU,BB,mV,wE,i1,d4,ix,e,ad]
include hn
theorem ub(deep:Int)(cs:List Int)(w p:Y2)(hw:(PV.tup w).pure=true)(a:Y1)(f:Ya)(e:L k .I_ [cv cs,.ref 0,.tup w,q_ a f,.int deep] [j9 n m]=.ok (.lst (b_ ns)) [j9 n' m]):
  nU (F k) (L k) [some (cv cs),some (.ref 0),some (.tup w),some (.int deep),some (.ref (js.length+1)),y5,some (.int v),y7,y8,some (q_ a f),some (.str [98])] (HB n m js (b_ A))=.nx [some (cv cs),some (.ref 0),some (.tup w),some (.int deep),some (.ref ((js++ [PO.lst (b_ A)]).length+1)),y5,some (.int v),y7,y8,some (q_ a f),some (.str [98])] (HB n' m (js++ [.lst (b_ A)]) (b_ (A++ns))):=by
 have d4:=nY n m js (b_ A);have d0:=rI n m js (b_ A);have dw:∀h,aj h (.tup w)=.tup w:=fun _=>rfl;have i1:Vh.contains 98=false:=rfl;have eb:∀h,z_ (.str [98]) (.str [98]) h=.ok (.bl true) h:=fun h=>jG _ _ h ⋯ ⋯;have cc:z6 (L k .I_) [cv cs,.ref 0,.tup w,q_ a f,.int deep] (HB n m js (b_ A))=.ok (.lst (b_ ns)) (HB n' m js (b_ A)):=dn (fn:=L k .I_) [cv cs] [.tup w,q_ a f,.int deep] (by rw[aq,gO];rfl) (by rw[aq,hw,aq,dX];rfl) rfl (bR _ _) e (dh ns) (bR _ _);have ad:=wI n' m js (b_ A) (b_ ns) (by rw[fG,fG];lia);rw[sW];simp[EV,nU,BB,mV,eN,wE,i1,d4,d0,dw,eb,cc,ad]
theorem yN(deep:Int)(c:Nat)(hc:c=108\/c=109)(cs:List Int)(w p:Y2)(hw:(PV.tup w).pure=true)(a:Y1)(f:Ya)(e:L k .Px [cv cs,.ref 0,.tup w,q_ a f,.str [c],.int deep] [j9 n m]=.ok (.lst (b_ ns)) [j9 n' m]):
  nU (F k) (L k) [some (cv cs),some (.ref 0),some (.tup w),some (.int deep),some (.ref (js.length+1)),y5,some (.int v),y7,y8,some (q_ a f),some (.str [c])] (HB n m js (b_ A))=.nx [some (cv cs),some (.ref 0),some (.tup w),some (.int deep),some (.ref ((js++ [PO.lst (b_ A)]).length+1)),y5,some (.int v),y7,y8,some (q_ a f),some (.str [c])] (HB n' m (js++ [.lst (b_ A)]) (b_ (A++ns))):=by
 have d4:=nY n m js (b_ A);have d0:=rI n m js (b_ A);have dw:∀h,aj h (.tup w)=.tup w:=fun _=>rfl;have i1:Vh.contains c=false:=by rcases hc with rfl|rfl<;>rfl
 have eb:∀h,z_ (.str [c]) (.str [98]) h=.ok (.bl false) h:=fun h=>by rcases hc with rfl|rfl<;>exact jG _ _ h ⋯ ⋯
 have cc:z6 (L k .Px) [cv cs,.ref 0,.tup w,q_ a f,.str [c],.int deep] (HB n m js (b_ A))=.ok (.lst (b_ ns)) (HB n' m js (b_ A)):=dn (fn:=L k .Px) [cv cs] [.tup w,q_ a f,.str [c],.int deep] (by rw[aq,gO];rfl) (by rw[aq,hw,aq,dX];rfl) rfl (bR _ _) e (dh ns) (bR _ _);have ad:=wI n' m js (b_ A) (b_ ns) (by rw[fG,fG];lia);rw[sW];simp[EV,nU,BB,mV,eN,wE,i1,d4,d0,dw,eb,cc,ad]
end
def wq(k:Nat)(cs:List Int)(hc:cs.length<=63)(sc:List Si)(hs:Wh B sc)(sl:sc.length<=100)(ls:Ya)(u:Bool)(d c:Nat)(m:Int)
  (CL:1<=d->∀n:Int,0<=n->n+(c:Int)<=1000000->∀a f,a∈B->H_ a=true->(∀s∈f,H_ s=true)->f.length<=1->Got (L (k+4) .I_ [cv cs,.ref 0,av sc ls u,q_ a f,.int d] [j9 n m]) n m B d c 5/\∀q,q=108\/q=109->Got (L (k+4) .Px [cv cs,.ref 0,av sc ls u,q_ a f,.str [q],.int d] [j9 n m]) n m B d c 5)
  (n:Int) (h0:0<=n) (h1:n+1+(c:Int)<=1000000) (js:Y3) (A:List Nd) (hA:A.length<=1000) (x5 x6 x7 x8 x9 P_:Option PV):
  ∃(VK:Y3)(E:List Nd)(n':Int)(y6 y7 y8 y9 Rx:Option PV),gi (F (k+4)) (L (k+4)) [some (cv cs),some (.ref 0),some (av sc ls u),some (.int d),some (.ref (js.length+1)),x5,x6,x7,x8,x9,P_] (HB n m js (b_ A))=.nx [some (cv cs),some (.ref 0),some (av sc ls u),some (.int d),some (.ref (VK.length+1)),x5,y6,y7,y8,y9,Rx] (HB n' m VK (b_ (A++E)))/\Nk B d 5 E/\n<=n'/\n'<=n+1+(c:Int):=by
 obtain⟨v,v0,v1,ce⟩:=dK (k+3) cs hc n m h0 ⋯ (js++ [.lst (b_ A)]);have ce:z6 (L (k+4) .C_) [cv cs,.ref 0] (HB n m js (b_ A))=.ok (.int v) (HB (n+1) m js (b_ A)):=ce;obtain⟨kd,km,kd0,ke⟩:=JW v d (n+1) m js (b_ A);have ft:=EC (k+4) kd (JV km) sc (HB (n+1) m js (b_ A));have d0:=rI n m js (b_ A)
 have e6:aA 6 (bx (L (k+4) .C_) aaP) [some (cv cs),some (.ref 0),some (av sc ls u),some (.int d),some (.ref (js.length+1)),x5,x6,x7,x8,x9,P_] (HB n m js (b_ A))=.nx [some (cv cs),some (.ref 0),some (av sc ls u),some (.int d),some (.ref (js.length+1)),x5,some (.int v),x7,x8,x9,P_] (HB (n+1) m js (b_ A)):=by simp[EV,eN,d0,ce]
 have e7:=dB (i:=7) (ke (some (cv cs)) (some (av sc ls u)) (some (.ref (js.length+1))) x5 x7 x8 x9 P_);have lf:(iS kd sc).length<=100:=adR (agK _ _) sl;have Yy:∀h,f9 (av sc ls u) (.int 0) h=.ok (.lst (sc.map it)) h:=fun _=>rfl;have da:∀h,aj h (av sc ls u)=av sc ls u:=fun _=>rfl;have ln:(sc.map it).length<16777216:=by rw[adJ];lia
 have cp:∀(a b c d e f g' i j l:Option PV),cU [7] [a,b,c,d,e,f,g',some (PV.str kd),i,j,l]=[some (.str kd)]:=fun _ _ _ _ _ _ _ _ _ _=>rfl
 have e8:aA 8 (cN Ss (bT [7] (iV abA) (eW (F (k+4))) (iu (F (k+4))))) [some (cv cs),some (.ref 0),some (av sc ls u),some (.int d),some (.ref (js.length+1)),x5,some (.int v),some (.str kd),x8,x9,P_] (HB (n+1) m js (b_ A))=.nx [some (cv cs),some (.ref 0),some (av sc ls u),some (.int d),some (.ref (js.length+1)),x5,some (.int v),some (.str kd),some (.lst ((iS kd sc).map it)),x9,P_] (HB (n+1) m js (b_ A)):=by generalize sc.map it=S at*;simp[EV,da,Yy,ln,cp,ft]
 have ll:∀h,gB [.lst ((iS kd sc).map it)] h=.ok (.int ((iS kd sc).length:Nat)) h:=fun h=>by rw[Fj,adJ]
 have al:=fun h=>mL ((iS kd sc).map it) [.tup [.non,.str []]] h (by rw[adJ,adH];lia)
 have mp:decide ((0:Int)<if((iS kd sc).length:Int)>1 then((iS kd sc).length:Int)else 1)=true:=by
  apply decide_eq_true
  split<;>lia
 have go:∀(P:PV)(O:Y1),PN ((iS kd sc).map it++ [.tup [.non,.str []]]) (v / 7 % (if((iS kd sc).length:Int)>1 then((iS kd sc).length:Int)else 1))=some (.tup [P,.str O])->pK acw aaQ [some (cv cs),some (.ref 0),some (av sc ls u),some (.int d),some (.ref (js.length+1)),x5,some (.int v),some (.str kd),some (.lst ((iS kd sc).map it)),x9,P_] (HB (n+1) m js (b_ A))=.nx [some (cv cs),some (.ref 0),some (av sc ls u),some (.int d),some (.ref (js.length+1)),x5,some (.int v),some (.str kd),some (.lst ((iS kd sc).map it)),some P,some (.str O)] (HB (n+1) m js (b_ A)):=fun P O e=>by generalize(iS kd sc).map it=fl at*;generalize(iS kd sc).length=fn at*;have d2:∀h,aj h (.tup [P,.str O])=.tup [P,.str O]:=fun _=>rfl;simp[EV,ll,al,mp,e,d2]
 have wp:(av sc ls u).pure=true:=oY sc ls u;unfold gi;rw[sq e6,sq e7];simp only[aeV,aec];rw[sq e8];rcases Dy (iS kd sc) v with⟨x,hx,e⟩|⟨_,e⟩
 .rw[sq (go _ _ e)];obtain⟨m1,m2⟩:=agD.mp hx;obtain⟨ok,xB,xl⟩:=hs x m1;obtain⟨o1,o2,o3⟩:=ok
  by_cases t:x.2.2=116\/x.2.2=119\/x.2.2=110
  .obtain⟨ns,nk,e3⟩:=vO (k+1) (n+1) m v js A hA (some (cv cs)) (some (.ref 0)) (some (.int d)) x5 (some (.str kd)) (some (.lst ((iS kd sc).map it))) d xB o1 o2 ⋯ x.2.2 t u (.lst (sc.map it)) (.lst (ls.map PV.str)) v0 v1;exact⟨_,ns,n+1,_,_,_,_,_,e3,nk,by lia,by lia⟩
  .have hd1:1<=d:=by
    rcases Nat.eq_zero_or_pos d with q|q
    .exfalso;rcases kd0 ⋯with r|r
     .rw[r]at m2;simp at m2
     .rw[r]at m2;exact t (by simpa using m2)
    .exact q
   obtain⟨ch,lp⟩:=CL hd1 (n+1) ⋯ ⋯ x.1 x.2.1 xB o1 o2 xl
   by_cases q:x.2.2=98
   .obtain⟨ns,n',e,nk,l1,l2⟩:=ch;have e3:=ub (k+4) (n+1) n' m v js A ns hA (by have:=nk.ln;lia) x5 (some (.str kd)) (some (.lst ((iS kd sc).map it))) d cs _ [] wp x.1 x.2.1 e;rw[q];exact⟨_,ns,n',_,_,_,_,_,e3,nk,by lia,by lia⟩
   .have q2:x.2.2=108\/x.2.2=109:=by
     simp only[knd,adD,aeb,or_false]at o3
     lia
    obtain⟨ns,n',e,nk,l1,l2⟩:=lp x.2.2 q2;have e3:=yN (k+4) (n+1) n' m v js A ns hA (by have:=nk.ln;lia) x5 (some (.str kd)) (some (.lst ((iS kd sc).map it))) d x.2.2 q2 cs _ [] wp x.1 x.2.1 e;exact⟨_,ns,n',_,_,_,_,_,e3,nk,by lia,by lia⟩
 .rw[sq (go _ _ e)];obtain⟨ns,nk,e3⟩:=yM (k+2) (n+1) m v js A hA (some (cv cs)) (some (.ref 0)) (some (av sc ls u)) (some (.int d)) x5 (some (.str kd)) (some (.lst ((iS kd sc).map it))) (some (.str [])) d B v0 v1;exact⟨_,ns,n+1,_,_,_,_,_,e3,nk,by lia,by lia⟩
theorem pZ(k:Nat)(cs:List Int)(hc:cs.length<=63){B:Ya}(sc:List Si)(hs:Wh B sc)(sl:sc.length<=100)(ls:Ya)(u:Bool)(d c:Nat)(m:Int)
  (CL:1<=d->∀n:Int,0<=n->n+(c:Int)<=1000000->∀a f,a∈B->H_ a=true->(∀s∈f,H_ s=true)->f.length<=1->Got (L (k+4) .I_ [cv cs,.ref 0,av sc ls u,q_ a f,.int d] [j9 n m]) n m B d c 5/\∀q,q=108\/q=109->Got (L (k+4) .Px [cv cs,.ref 0,av sc ls u,q_ a f,.str [q],.int d] [j9 n m]) n m B d c 5):
  ∀(xs:Y2)(n:Int)(js:Y3)(A:List Nd)(x5 x6 x7 x8 x9 P_:Option PV),0<=n->n+((xs.length * (1+c):Nat):Int)<=1000000->A.length+5 * xs.length<=1000->
  ∃(VK:Y3)(E:List Nd)(n':Int)(y5 y6 y7 y8 y9 Rx:Option PV),bf (z7 5) (gi (F (k+4)) (L (k+4))) xs [some (cv cs),some (.ref 0),some (av sc ls u),some (.int d),some (.ref (js.length+1)),x5,x6,x7,x8,x9,P_] (HB n m js (b_ A))=.nx [some (cv cs),some (.ref 0),some (av sc ls u),some (.int d),some (.ref (VK.length+1)),y5,y6,y7,y8,y9,Rx] (HB n' m VK (b_ (A++E)))/\Nk B d (5 * xs.length) E/\n<=n'/\n'<=n+((xs.length * (1+c):Nat):Int)
 |[],n,js,A,x5,x6,x7,x8,x9,P_,h0,h1,hA=>⟨js,[],n,x5,x6,x7,x8,x9,P_,by rw[adU];rfl,Nk.nil B d _,by lia,by lia⟩
 |x::r,n,js,A,x5,x6,x7,x8,x9,P_,h0,h1,hA=>by
  have e:(x::r).length * (1+c)=r.length * (1+c)+(1+c):=by rw[adu,ahv]
  rw[e]at h1;rw[adu]at hA;generalize hT:r.length * (1+c)=T at h1 e;obtain⟨js1,B1,n1,a6,a7,a8,a9,a10,e1,f1,p1,q1⟩:=wq k cs hc sc hs sl ls u d c m CL n h0 ⋯ js A ⋯ (some x) x6 x7 x8 x9 P_;have fn:=f1.ln;obtain⟨js2,B2,n2,b5,b6,b7,b8,b9,b10,e2,f2,p2,q2⟩:=pZ k cs hc sc hs sl ls u d c m CL r n1 js1 (A++B1) (some x) a6 a7 a8 a9 a10 ⋯ (by rw[hT];lia) (by rw[adt];lia);rw[adN]at e2;rw[hT]at q2;exact⟨js2,B1++B2,n2,b5,b6,b7,b8,b9,b10,(cR rfl e1).trans e2,(f1.app f2).mono (adA _) (by rw[adu];lia),by lia,by rw[e];lia⟩
def oH{f:Sx}{np:Nat}{ps:Y2}{r:Res PV}(hl:ps.length=np)(e:f (ps.map some++List.replicate (n - ps.length) none) h=.rt v h1)(g:lN h.length v h1=r):cP f np n ps h=r:=by unfold cP;rw[if_pos hl,e];exact g
def uG(k:Nat)(cs:List Int)(hc:cs.length<=63)(sc:List Si)(hs:Wh B sc)(sl:sc.length<=100)(ls:Ya)(u:Bool)(d c:Nat)(m:Int)
  (CL:1<=d->∀n:Int,0<=n->n+(c:Int)<=1000000->∀a f,a∈B->H_ a=true->(∀s∈f,H_ s=true)->f.length<=1->Got (L (k+4) .I_ [cv cs,.ref 0,av sc ls u,q_ a f,.int d] [j9 n m]) n m B d c 5/\∀q,q=108\/q=109->Got (L (k+4) .Px [cv cs,.ref 0,av sc ls u,q_ a f,.str [q],.int d] [j9 n m]) n m B d c 5)
  (n:Int) (h0:0<=n) (h1:n+((5+4 * c:Nat):Int)<=1000000):Got (L (k+5) .v8 [cv cs,.ref 0,av sc ls u,.int d] [j9 n m]) n m B d (5+4 * c) 20:=by
 obtain⟨v,v0,v1,ce⟩:=dK (k+3) cs hc n m h0 ⋯ [.lst []];have ce:z6 (L (k+4) .C_) [cv cs,.ref 0] (HB n m [] [])=.ok (.int v) (HB (n+1) m [] []):=ce;have v4:=aY (v / 5) (m:=4) ⋯;have be:QW 4611686018427387904 (1+v / 5 % 4)=true:=bD.mpr ⟨by lia,by lia⟩
 have lx:1<=((List.range (1+v / 5 % 4).toNat).map fun i:Nat=>PV.int (0+(i:Nat))).length/\((List.range (1+v / 5 % 4).toNat).map fun i:Nat=>PV.int (0+(i:Nat))).length<=4:=by rw[adJ,adY];lia
 generalize hx:((List.range (1+v / 5 % 4).toNat).map fun i:Nat=>PV.int (0+(i:Nat)))=xs at lx;have m4:xs.length * (1+c)<=4 * (1+c):=agT _ lx.2;obtain⟨VK,E,n',y5,y6,y7,y8,y9,Rx,lp,nk,l1,l2⟩:=pZ k cs hc sc hs sl ls u d c m CL xs (n+1) [] [] none none none none none none ⋯ ⋯ (by rw[adQ];lia);rw[ad1]at lp;refine⟨E,n',?_,nk.mono (adA _) ⋯,by lia,by lia⟩;have da:∀h,aj h (av sc ls u)=av sc ls u:=fun _=>rfl;have d0:=rI n m [] [];have lp:bf (z7 5) (gi (F (k+4)) (L (k+4))) xs [some (cv cs),some (.ref 0),some (av sc ls u),some (.int d),some (.ref 1),none,none,none,none,none,none] (HB (n+1) m [] [])=_:=lp;have e4:aA 4 aaV [some (cv cs),some (.ref 0),some (av sc ls u),some (.int d),none,none,none,none,none,none,none] [j9 n m]=.nx [some (cv cs),some (.ref 0),some (av sc ls u),some (.int d),some (.ref 1),none,none,none,none,none,none] (HB n m [] []):=rfl;show cP (kF (F (k+4)) (L (k+4))) 4 11 [cv cs,.ref 0,av sc ls u,.int d] [j9 n m]=_;refine oH (h1:=HB n' m VK (b_ E)) (v:=.ref (VK.length+1)) rfl ?_ (Ib n' m VK (b_ E) (bB E));show kF (F (k+4)) (L (k+4)) [some (cv cs),some (.ref 0),some (av sc ls u),some (.int d),none,none,none,none,none,none,none] [j9 n m]=_;unfold kF;rw[sq e4];have dr:=nY n' m VK (b_ E);simp[EV,eN,d0,ce,be,hx,lp,dr]
section
variable(n m:Int)(js:Y3)(xs:Y2)
theorem ya(i:Int)(e:PN xs i=some v)(hv:v.pure=true):f9 (.ref (js.length+1)) (.int i) (HB n m js xs)=.ok v (HB n m js xs):=by
 have a:R_ (HB n m js xs) (.ref (js.length+1))=none:=by unfold R_;dsimp only;rw[gZ]
 have b:Tt (HB n m js xs) (.ref (js.length+1))=some xs:=by unfold Tt S9;dsimp only;rw[gZ]
 have c:aj (HB n m js xs) v=v:=ak _ hv;unfold f9;dsimp only;rw[a];dsimp only;rw[b];dsimp only;rw[e];dsimp only;rw[c]
theorem BG(i:Int)(j:Nat)(v:PV)(ρ:Ev)(e:Vq xs.length i=some j):lu v (.ref (js.length+1)) (.int i) ρ (HB n m js xs)=.nx ρ (HB n m js (xs.set j v)):=by
 have l:jv (HB n m js xs) (.ref (js.length+1))=some (js.length+1,xs):=by unfold jv;dsimp only;rw[gZ]
 unfold lu;rw[l];dsimp only;rw[e];dsimp only;rw[BH]
end
def lJ(i:Int)(h0:0<=i)(h1:i<95):∃c,Rz [c]/\∀h,f9 (.str (fC++fB)) (.int i) h=.ok (.str [c]) h:=by obtain⟨c,hc,e⟩:=sY i h0 h1;exact⟨c,fun x hx=>by rw[adw]at hx;rw[hx];exact kQ c hc,e⟩
def jA(s:Y1):PV.tup [.str [116,101,120,116],.str s]=nd (.text s):=by rw[nd]
def jH(k:Nat){d c:Nat}(hd:d<=28)(hc:c<=1000000)(l:List Nd)(h:Nk B d c l):∃l',Nk B d c l'/\∀h,aX (F (k+1) .Pa) [.lst (b_ l)] h=.ok (.tup (b_ l')) h:=by obtain⟨l',nk,e⟩:=Hd k hd hc l h;exact⟨l',nk,fun h=>aL h (by rw[aq,dh];rfl) e⟩
def ml{d c:Nat}{s:Y1}(h:Nk B d c l)(hs:Rz s)(l1:s.length<=1):Nk B d (c+1) (.text s::l):=((Nk.text (c:=1) hs l1 (adA _)).app h).mono (adA _) ⋯
def wu{d:Nat}{x:Nd}(hx:U7 B d x)(t:tN List.length x=0){s:Y1}(hs:Rz s)(l1:s.length<=1):Nk B d 5 [x,.text s]:=⟨fun n hn=>by
 rcases adD.mp hn with rfl|hn
 .exact hx
 .rw[adw]at hn;rw[hn];exact oQ B d hs,by rw[tS,tS,tS,t,tN];lia,by simp⟩
def Bh{d:Nat}{x:Nd}(hx:U7 B d x)(t:tN List.length x=0):Nk B d 5 [x]:=⟨fun n hn=>by rw[adw]at hn;rw[hn];exact hx,by rw[tS,tS,t];lia,by simp⟩
def xg(n m v:Int)(js:Y3)(A E:List Nd){d c:Nat}(fA:Nk B d c A)(fE:Nk B d c E)(x0 x1 x2 x3 x4 x6 x8:Option PV):∃A' E',Nk B d c A'/\Nk B d c E'/\
  G4 ab3 abH bv [x0,x1,x2,x3,x4,some (.int v),x6,some (.ref (js.length+1)),x8] (HB n m js [.lst (b_ A),.lst (b_ E)])=.nx [x0,x1,x2,x3,x4,some (.int v),x6,some (.ref (js.length+1)),x8] (HB n m js [.lst (b_ A'),.lst (b_ E')]):=by
 have dr:=nY n m js [.lst (b_ A),.lst (b_ E)]
 by_cases q:v / 95 % 3=1
 .rcases(by lia:v / 285 % 2=0\/v / 285 % 2=1)with r|r
  .refine⟨[],E,Nk.nil B d c,fE,?_⟩;have st:=fun ρ=>BG n m js [.lst (b_ A),.lst (b_ E)] 0 0 (.lst []) ρ rfl;rw[b_];simp[EV,bX,q,r,dr,st]
  .refine⟨A,[],fA,Nk.nil B d c,?_⟩;have st:=fun ρ=>BG n m js [.lst (b_ A),.lst (b_ E)] 1 1 (.lst []) ρ rfl;rw[b_];simp[EV,bX,q,r,dr,st]
 .refine⟨A,E,fA,fE,?_⟩;simp[EV,bX,q]
theorem xd(k:Nat)(n m v w:Int)(w0:0<=w)(js:Y3)(A E:List Nd){d:Nat}(hd:d<=28)(fA:Nk B d 21 A)(fE:Nk B d 21 E)(a:Y1)(f:Ya)(hB:a∈B)(ha:H_ a=true)(hf:∀s∈f,H_ s=true)(hl:f.length<=900)(a0 a1:PV)(u:Bool)(x0 x1 x4 x8:Option PV):∃ns,Nk B (d+1) 5 ns/\
  (au (aA 8 (cN aM (aa aaA (aa (af 3) (aa (aI (F (k+1) .Pa) abZ) (aa (aI (F (k+1) .Pa) ab0) ai))))))
  (au aa2
  (aN (cN bn (aa (af 8) (aa (cN aM (aa aac (aa (c2 f9 (aI (F (k+1) .E_) ai) acL) ai))) ai)))))) [x0,x1,some (.tup [a0,a1,.bl u]),some (q_ a f),x4,some (.int v),some (.int w),some (.ref (js.length+1)),x8] (HB n m js [.lst (b_ A),.lst (b_ E)])=.rt (.lst (b_ ns)) (HB n m js [.lst (b_ A),.lst (b_ E)]):=by
 obtain⟨A2,gA,eA⟩:=jH k hd ⋯ A fA;obtain⟨E2,gE,eE⟩:=jH k hd ⋯ E fE;have i0:=ya n m js [.lst (b_ A),.lst (b_ E)] 0 rfl (dh A);have i1:=ya n m js [.lst (b_ A),.lst (b_ E)] 1 rfl (dh E);have dr:=nY n m js [.lst (b_ A),.lst (b_ E)];have cn:PV.tup [.str [99,104,111,105,99,101],q_ a f,.tup (b_ A2),.tup (b_ E2)]=nd (.choice a f A2 E2):=by rw[nd]
 have e8:aA 8 (cN aM (aa aaA (aa (af 3) (aa (aI (F (k+1) .Pa) abZ) (aa (aI (F (k+1) .Pa) ab0) ai))))) [x0,x1,some (.tup [a0,a1,.bl u]),some (q_ a f),x4,some (.int v),some (.int w),some (.ref (js.length+1)),x8] (HB n m js [.lst (b_ A),.lst (b_ E)])=.nx [x0,x1,some (.tup [a0,a1,.bl u]),some (q_ a f),x4,some (.int v),some (.int w),some (.ref (js.length+1)),some (nd (.choice a f A2 E2))] (HB n m js [.lst (b_ A),.lst (b_ E)]):=by simp[EV,mV,dr,i0,i1,eA,eE,cn]
 rw[sq e8];have x1':=nu gA gE ⋯ hB ha hf hl;have ix:∀h,f9 (.tup [a0,a1,.bl u]) (.int 2) h=.ok (.bl u) h:=fun _=>rfl;have q9:=aY (w+2) (m:=95) ⋯;obtain⟨c,cc,ce⟩:=lJ _ q9.1 q9.2;have mk:=fU k;have n1:PV.lst [nd (.choice a f A2 E2)]=.lst (b_ [.choice a f A2 E2]):=by rw[b_,b_]
 have n2:PV.lst [nd (.choice a f A2 E2),nd (.text [c])]=.lst (b_ [.choice a f A2 E2,.text [c]]):=by rw[b_,b_,b_]
 have f2:=wu (s:=[c]) x1' rfl cc (adA _);have f1:=Bh x1' rfl;generalize Nd.choice a f A2 E2=N at*
 cases u with
 |true=>refine⟨_,f2,?_⟩;simp[EV,ix,bc,mk,ce,jA,n2]
 |false=>
  by_cases q:v / 5 % 2=1
  .refine⟨_,f1,?_⟩;simp[EV,ix,bc,bX,q,n1]
  .refine⟨_,f2,?_⟩;simp[EV,ix,bc,bX,q,mk,ce,jA,n2]
def tF(k:Nat)(cs:List Int)(sc:List Si)(ls:Ya)(u:Bool)(d:Nat)(n1 n2 n3 m:Int)(A E:List Nd)
  (eA:L k .v8 [cv cs,.ref 0,av sc ls u,.int d] [j9 n1 m]=.ok (.lst (b_ A)) [j9 n2 m]) (eE:L k .v8 [cv cs,.ref 0,av sc ls u,.int d] [j9 n2 m]=.ok (.lst (b_ E)) [j9 n3 m]):
  cg bK (cz (F k) (L k)) [some (cv cs),some (.ref 0),some (av sc ls u),some (.int ((d+1:Nat):Int))] ((List.range (Int.toNat 2)).map fun i:Nat=>PV.int (0+(i:Nat))) [j9 n1 m]=.ok [.lst (b_ A),.lst (b_ E)] [j9 n3 m]:=by
 have sd:((d+1:Nat):Int) - 1=(d:Int):=by lia
 have pr:aq [av sc ls u,.int d]=true:=by rw[aq,oY];rfl
 have cA:z6 (L k .v8) [cv cs,.ref 0,av sc ls u,.int d] [j9 n1 m]=.ok (.lst (b_ A)) [j9 n2 m]:=dn (fn:=L k .v8) [cv cs] [av sc ls u,.int d] (by rw[aq,gO];rfl) pr rfl (bR _ _) eA (dh A) (bR _ _);have cE:z6 (L k .v8) [cv cs,.ref 0,av sc ls u,.int d] [j9 n2 m]=.ok (.lst (b_ E)) [j9 n3 m]:=dn (fn:=L k .v8) [cv cs] [av sc ls u,.int d] (by rw[aq,gO];rfl) pr rfl (bR _ _) eE (dh E) (bR _ _);have d0:∀n,aj [j9 n m] (.ref 0)=.ref 0:=fun _=>rfl;have da:∀h,aj h (av sc ls u)=av sc ls u:=fun _=>rfl
 have s1:∀i:PV,cz (F k) (L k) [some i,some (cv cs),some (.ref 0),some (av sc ls u),some (.int ((d+1:Nat):Int))] [j9 n1 m]=.ok (.lst (b_ A)) [j9 n2 m]:=fun i=>by simp[EV,cz,eN,d0,da,sd,cA]
 have s2:∀i:PV,cz (F k) (L k) [some i,some (cv cs),some (.ref 0),some (av sc ls u),some (.int ((d+1:Nat):Int))] [j9 n2 m]=.ok (.lst (b_ E)) [j9 n3 m]:=fun i=>by simp[EV,cz,eN,d0,da,sd,cE]
 show cg bK (cz (F k) (L k)) _ [PV.int (0+((0:Nat):Int)),PV.int (0+((1:Nat):Int))] [j9 n1 m]=_;simp only[cg,bK,Res.M_,if_true,s1,s2]
def tG(k:Nat)(n m w:Int)(A E:List Nd)(lA:A.length<=1000)(lE:E.length<=1000):∃c e,Rz [c]/\Rz [e]/\
  cg bK (cy (F (k+1))) [some (.ref 1),some (.int w)] ((List.range (Int.toNat 2)).map fun i:Nat=>PV.int (0+(i:Nat))) (HB n m [] [.lst (b_ A),.lst (b_ E)])=.ok [.lst (b_ (.text [c]::A)),.lst (b_ (.text [e]::E))] (HB n m [] [.lst (b_ A),.lst (b_ E)]):=by
 have q0:=aY (w+0) (m:=95) ⋯;have q1:=aY (w+1) (m:=95) ⋯;obtain⟨c,cc,ce⟩:=lJ _ q0.1 q0.2;obtain⟨e,ec,ee⟩:=lJ _ q1.1 q1.2;refine⟨c,e,cc,ec,?_⟩;have mk:=fU k;have i0:f9 (.ref 1) (.int 0) (HB n m [] [.lst (b_ A),.lst (b_ E)])=.ok (.lst (b_ A)) (HB n m [] [.lst (b_ A),.lst (b_ E)]):=ya n m [] [.lst (b_ A),.lst (b_ E)] 0 rfl (dh A);have i1:f9 (.ref 1) (.int 1) (HB n m [] [.lst (b_ A),.lst (b_ E)])=.ok (.lst (b_ E)) (HB n m [] [.lst (b_ A),.lst (b_ E)]):=ya n m [] [.lst (b_ A),.lst (b_ E)] 1 rfl (dh E);have dr:aj (HB n m [] [.lst (b_ A),.lst (b_ E)]) (.ref 1)=.ref 1:=rfl;have z1:=fun h=>mL [nd (.text [c])] (b_ A) h (by rw[fG,adH];lia);have z2:=fun h=>mL [nd (.text [e])] (b_ E) h (by rw[fG,adH];lia);rw[b_,b_];generalize b_ A=xA at*;generalize b_ E=xE at*;generalize HB n m [] [.lst xA,.lst xE]=hh at*
 have s1:cy (F (k+1)) [some (.int 0),some (.ref 1),some (.int w)] hh=.ok (.lst (nd (.text [c])::xA)) hh:=by simp[EV,cy,mk,ce,dr,i0,jA,z1]
 have s2:cy (F (k+1)) [some (.int 1),some (.ref 1),some (.int w)] hh=.ok (.lst (nd (.text [e])::xE)) hh:=by simp[EV,cy,mk,ee,dr,i1,jA,z2]
 show cg bK (cy (F (k+1))) _ [PV.int 0,PV.int 1] hh=_;simp only[cg,bK,Res.M_,if_true,s1,s2]
theorem zQ(k:Nat)(cs:List Int)(hc:cs.length<=63)(sc:List Si)(ls:Ya)(u:Bool)(d c:Nat)(hd:d<=25)(m:Int)(NA:∀n:Int,0<=n->n+(c:Int)<=1000000->Got (L (k+1) .v8 [cv cs,.ref 0,av sc ls u,.int d] [j9 n m]) n m B d c 20)(a:Y1)(f:Ya)(hB:a∈B)(ha:H_ a=true)(hf:∀s∈f,H_ s=true)(hl:f.length<=900)(n:Int)(h0:0<=n)(h1:n+((1+2 * c:Nat):Int)<=1000000):
  Got (L (k+2) .I_ [cv cs,.ref 0,av sc ls u,q_ a f,.int ((d+1:Nat):Int)] [j9 n m]) n m B (d+1) (1+2 * c) 5:=by
 obtain⟨v,v0,v1,ce⟩:=dK k cs hc n m h0 ⋯ [];obtain⟨A,n1,eA,fA,a1,a2⟩:=NA (n+1) ⋯ ⋯;obtain⟨E,n2,eE,fE,b1,b2⟩:=NA n1 ⋯ ⋯;have cm:=tF (k+1) cs sc ls u d (n+1) n1 n2 m A E eA eE;have p9:=aY v (m:=95) ⋯;have d0:∀n,aj [j9 n m] (.ref 0)=.ref 0:=fun _=>rfl
 have e5:aA 5 (bx (L (k+1) .C_) aaP) [some (cv cs),some (.ref 0),some (av sc ls u),some (q_ a f),some (.int ((d+1:Nat):Int)),none,none,none,none] [j9 n m]=.nx [some (cv cs),some (.ref 0),some (av sc ls u),some (q_ a f),some (.int ((d+1:Nat):Int)),some (.int v),none,none,none] [j9 (n+1) m]:=by simp[EV,eN,d0,ce]
 have e6:aA 6 (c2 aO (af 5) aaB) [some (cv cs),some (.ref 0),some (av sc ls u),some (q_ a f),some (.int ((d+1:Nat):Int)),some (.int v),none,none,none] [j9 (n+1) m]=.nx [some (cv cs),some (.ref 0),some (av sc ls u),some (q_ a f),some (.int ((d+1:Nat):Int)),some (.int v),some (.int (v % 95)),none,none] [j9 (n+1) m]:=by simp[EV,if_true]
 generalize v % 95=w at*;have b2':QW 4611686018427387904 2=true:=rfl;have ln:((List.range (Int.toNat 2)).map fun i:Nat=>PV.int (0+(i:Nat))).length<16777216:=by decide
 have cp:∀(x3 x5 x6 x7 x8:Option PV),cU [0,1,2,4] [some (cv cs),some (.ref 0),some (av sc ls u),x3,some (.int ((d+1:Nat):Int)),x5,x6,x7,x8]=[some (cv cs),some (.ref 0),some (av sc ls u),some (.int ((d+1:Nat):Int))]:=fun _ _ _ _ _=>rfl;have nw:ia [.lst (b_ A),.lst (b_ E)] [j9 n2 m]=.ok (.ref 1) (HB n2 m [] [.lst (b_ A),.lst (b_ E)]):=rfl
 have e7:aA 7 (cN ia (bT [0,1,2,4] aa5 bK (cz (F (k+1)) (L (k+1))))) [some (cv cs),some (.ref 0),some (av sc ls u),some (q_ a f),some (.int ((d+1:Nat):Int)),some (.int v),some (.int w),none,none] [j9 (n+1) m]=.nx [some (cv cs),some (.ref 0),some (av sc ls u),some (q_ a f),some (.int ((d+1:Nat):Int)),some (.int v),some (.int w),some (.ref 1),none] (HB n2 m [] [.lst (b_ A),.lst (b_ E)]):=dB (by
  have q:∀ ρ,cU [0,1,2,4] ρ=[some (cv cs),some (.ref 0),some (av sc ls u),some (.int ((d+1:Nat):Int))]->cN ia (bT [0,1,2,4] aa5 bK (cz (F (k+1)) (L (k+1)))) ρ [j9 (n+1) m]=ia [.lst (b_ A),.lst (b_ E)] [j9 n2 m]:=fun ρ cq=>by simp[EV,b2',ln,cq,cm]
  exact(q _ (cp _ _ _ _ _)).trans nw)
 have at2:∀h,f9 (av sc ls u) (.int 2) h=.ok (.bl u) h:=fun _=>rfl
 have fin:∀(js:Y3)(X Y:List Nd),Nk B d 21 X->Nk B d 21 Y->G4 (bF abo) (aA 7 (cN ia (bT [7,6] aa5 bK (cy (F (k+1)))))) bv [some (cv cs),some (.ref 0),some (av sc ls u),some (q_ a f),some (.int ((d+1:Nat):Int)),some (.int v),some (.int w),some (.ref 1),none] (HB n2 m [] [.lst (b_ A),.lst (b_ E)])=.nx [some (cv cs),some (.ref 0),some (av sc ls u),some (q_ a f),some (.int ((d+1:Nat):Int)),some (.int v),some (.int w),some (.ref (js.length+1)),none] (HB n2 m js [.lst (b_ X),.lst (b_ Y)])->Got (L (k+2) .I_ [cv cs,.ref 0,av sc ls u,q_ a f,.int ((d+1:Nat):Int)] [j9 n m]) n m B (d+1) (1+2 * c) 5:=fun js X Y fX fY e7b=>by obtain⟨X',Y',fX',fY',e9⟩:=xg n2 m v js X Y fX fY (some (cv cs)) (some (.ref 0)) (some (av sc ls u)) (some (q_ a f)) (some (.int ((d+1:Nat):Int))) (some (.int w)) none;obtain⟨ns,fw,Yd⟩:=xd k n2 m v w p9.1 js X' Y' ⋯ fX' fY' a f hB ha hf hl (.lst (sc.map it)) (.lst (ls.map PV.str)) u (some (cv cs)) (some (.ref 0)) (some (.int ((d+1:Nat):Int))) none;refine⟨ns,n2,?_,fw,by lia,by lia⟩;show cP (jt (F (k+1)) (L (k+1))) 5 9 [cv cs,.ref 0,av sc ls u,q_ a f,.int ((d+1:Nat):Int)] [j9 n m]=_;refine oH (h1:=HB n2 m js [.lst (b_ X'),.lst (b_ Y')]) (v:=.lst (b_ ns)) rfl ?_ (It n2 m (dh ns) _);show jt (F (k+1)) (L (k+1)) [some (cv cs),some (.ref 0),some (av sc ls u),some (q_ a f),some (.int ((d+1:Nat):Int)),none,none,none,none] [j9 n m]=_;unfold jt;rw[sq e5,sq e6,sq e7,sq e7b,sq e9];exact Yd
 have da:∀h,aj h (av sc ls u)=av sc ls u:=fun _=>rfl
 cases u with
 |false=>refine fin [] A E (fA.mono (adA _) ⋯) (fE.mono (adA _) ⋯) ?_;simp[EV,da,at2,adQ]
 |true=>
  obtain⟨c1,Tf,x1,x2,ah⟩:=tG k n2 m w A E (by have:=fA.ln;lia) (by have:=fE.ln;lia);refine fin [.lst [.lst (b_ A),.lst (b_ E)]] (.text [c1]::A) (.text [Tf]::E) (ml fA x1 (adA _)) (ml fE x2 (adA _)) ?_
  have t:∀g:Sx,G4 (bF abo) g bv [some (cv cs),some (.ref 0),some (av sc ls true),some (q_ a f),some (.int ((d+1:Nat):Int)),some (.int v),some (.int w),some (.ref 1),none] (HB n2 m [] [.lst (b_ A),.lst (b_ E)])=g [some (cv cs),some (.ref 0),some (av sc ls true),some (q_ a f),some (.int ((d+1:Nat):Int)),some (.int v),some (.int w),some (.ref 1),none] (HB n2 m [] [.lst (b_ A),.lst (b_ E)]):=fun g=>by simp[EV,da,at2]
  rw[t];have cp2:∀(x0 x1 x2 x3 x4 x5 x8:Option PV),cU [7,6] [x0,x1,x2,x3,x4,x5,some (PV.int w),some (.ref 1),x8]=[some (.ref 1),some (.int w)]:=fun _ _ _ _ _ _ _=>rfl;have nw2:∀Z:Y2,ia Z (HB n2 m [] [.lst (b_ A),.lst (b_ E)])=.ok (.ref 2) (HB n2 m [.lst [.lst (b_ A),.lst (b_ E)]] Z):=fun _=>rfl;refine dB ?_
  have q:∀ ρ:Ev,cU [7,6] ρ=[some (.ref 1),some (.int w)]->(cN ia (bT [7,6] aa5 bK (cy (F (k+1))))) ρ (HB n2 m [] [.lst (b_ A),.lst (b_ E)])=ia [.lst (b_ (.text [c1]::A)),.lst (b_ (.text [Tf]::E))] (HB n2 m [] [.lst (b_ A),.lst (b_ E)]):=fun ρ cq=>by simp[EV,b2',ln,cq,ah]
  exact(q _ (cp2 _ _ _ _ _ _ _)).trans (nw2 _)
noncomputable def SX(nm:Y1)(sc:List Si):List Si:=sc.filter fun x=>!decide (x.1=nm)
def AZ{l:Y1}(h:H_ l=true):∀c∈l,c<1114112:=fun c hc=>of_decide_eq_true (adX.mp h c hc)
def BD(k:Nat)(nm:Y1)(hn:H_ nm=true)(h:Y3)(sc:List Si)(hk:∀x∈sc,Am x):cg (fR (F k)) (hS (F k)) [some (.str nm)] (sc.map it) h=.ok ((SX nm sc).map it) h:=by
 have:=gP (tt:=fR (F k)) (te:=hS (F k)) (cp:=[some (.str nm)]) (h:=h) (t:=fun p=>match p with|.tup [.tup (.str a::_),_]=>!decide (a=nm)|_=>false) (f:=fun p=>p) (sc.map it) (fun p hp=>by
  obtain⟨x,hx,rfl⟩:=adT.mp hp;have ne:=sP x.1 nm h (AZ (hk x hx).1) (AZ hn);have i1:f9 (it x) (.int 0) h=.ok (q_ x.1 x.2.1) h:=rfl;have i2:f9 (q_ x.1 x.2.1) (.int 0) h=.ok (.str x.1) h:=Fc ..;have di:aj h (it x)=it x:=rfl;show _=Res.ok (!decide (x.1=nm)) h;simp[EV,fR,di,i1,i2,ne]) (fun p hp=>by
  obtain⟨x,hx,rfl⟩:=adT.mp hp;rfl)
 rw[this,afY,ahU];rfl
def Ku(n m:Int)(js:Y3)(xs:Y2)(h:aq xs=true):Vv (.ref (js.length+1)) (HB n m js xs)=.ok (.lst xs) (j9 n m::(js++ [PO.s8 (.lst xs)])):=by
 have f:ei (HB n m js xs) (.ref (js.length+1))=some (.lst xs,(HB n m js xs).set (js.length+1) (.s8 (.lst xs))):=by unfold ei;simp only[gZ,h,if_true]
 have a:eM (HB n m js xs) (.ref (js.length+1))=none:=by unfold eM;simp only[gZ]
 have e:(HB n m js xs).set (js.length+1) (.s8 (.lst xs))=j9 n m::(js++ [PO.s8 (.lst xs)]):=by show j9 n m::(js++ [PO.lst xs]).set js.length _=_;rw[adW _ _ ⋯,aee];rfl
 unfold Vv Xg;simp only[a,f];rw[e]
def wB(k:Nat)(n m:Int)(sc:List Si)(hs:sc.length<=1000)(YB:Wh B sc)(ls:Ya)(Qw:ls.length=12)(ho:∀l∈ls,H_ l=true)(nm:Y1)(hn:H_ nm=true)(c:Nat)(hc:c=108\/c=109)(x0 x1 x2 x3 x5 x6 x7 x9 Tj Xo Wj VD Um:Option PV):∃(js:Y3)(Sh:List Si),Wh (nm::B) Sh/\Sh.length<=sc.length+5/\
  G4 acp (aA 11 (c2 im (c2 aG (af 11) (aI (F (k+1) .R0) (aa (cN aM abh) abF))) aa_)) abf [x0,x1,x2,x3,some (.str [c]),x5,x6,x7,some (.lst (ls.map PV.str)),x9,some (.str nm),some (.ref 1),Tj,Xo,Wj,VD,Um] (HB n m [] ((SX nm sc).map it))=.nx [x0,x1,x2,x3,some (.str [c]),x5,x6,x7,some (.lst (ls.map PV.str)),x9,some (.str nm),some (.ref (js.length+1)),Tj,Xo,Wj,VD,Um] (HB n m js (Sh.map it)):=by
 have fl:(SX nm sc).length<=sc.length:=agK _ _
 have fm:∀x∈SX nm sc,Am x/\x.1∈nm::B/\x.2.1.length<=1:=fun x hx=>by obtain⟨a,b,c⟩:=YB x (agD.mp hx).1;exact⟨a,adG _ b,c⟩
 have fl1:((SX nm sc).map it).length<=1000:=by rw[adJ];lia
 rcases hc with rfl|rfl
 .have eb:∀h,z_ (.str [108]) (.str [108]) h=.ok (.bl true) h:=fun h=>jG _ _ h ⋯ ⋯;have r1:=vV k [nm] ls Qw (by simp);have r1:∀h,aX (F (k+1) .R0) [.tup [.str nm],.lst (ls.map PV.str)] h=.ok (.lst ((List.range 4).map fun j=>it (gW [nm] ls j))) h:=fun h=>aL h (by simp[aq,PV.pure,bz]) r1;have n7:∀h,f9 (.lst (ls.map PV.str)) (.int 7) h=.ok (.str (ls.getD 7 [])) h:=jf 7 (ls:=ls) ⋯;have dr:aj (HB n m [] ((SX nm sc).map it)) (.ref 1)=.ref 1:=rfl;refine⟨[.lst ((SX nm sc).map it)],SX nm sc++((List.range 4).map fun j=>gW [nm] ls j)++[(nm,[ls.getD 7 []],109)],fun x hx=>?_,by simp;lia,?_⟩
  .rcases adS.mp hx with q|q
   .rcases adS.mp q with q|q
    .exact fm x q
    .obtain⟨j,hj,rfl⟩:=adT.mp q;exact⟨sK (fun l hl=>by rw[adw.mp hl];exact hn) ho j (ad3.mp hj),adO,adA _⟩
   .rw[adw.mp q];exact⟨⟨hn,fun l hl=>by rw[adw.mp hl];exact gf ho 7,(by decide:109∈knd)⟩,adO,adA _⟩
  .have em:(SX nm sc++((List.range 4).map fun j=>gW [nm] ls j)++[(nm,[ls.getD 7 []],109)]).map it=(SX nm sc).map it++((List.range 4).map fun j=>it (gW [nm] ls j))++[.tup [.tup [.str nm,.str (ls.getD 7 [])],.str [109]]]:=by simp only[adV,aen];rfl
   rw[em];have l2:((List.range 4).map fun j=>it (gW [nm] ls j)).length=4:=by simp
   generalize(SX nm sc).map it=X at*;generalize((List.range 4).map fun j=>it (gW [nm] ls j))=R at*;have ad:aG (.ref 1) (.lst R) (HB n m [] X)=.ok (.lst (X++R)) (HB n m [] X):=IF (gZ n m [] X) R ⋯
   have am:∀p,im (.lst (X++R)) (.lst [p]) (HB n m [] X)=.ok (.ref 2) (HB n m [.lst X] (X++R++ [p])):=fun p=>by have e1:S9 (HB n m [] X) (.lst (X++R))=some (X++R):=rfl;have e2:S9 (HB n m [] X) (.lst [p])=some [p]:=rfl;unfold im;simp only[e1,e2];rw[if_pos (by rw[szl,adt,adH];lia)];rfl
   generalize hH:HB n m [.lst X] (X++R++ [.tup [.tup [.str nm,.str (ls.getD 7 [])],.str [109]]])=H;have am':=am (.tup [.tup [.str nm,.str (ls.getD 7 [])],.str [109]]);rw[hH]at am';generalize HB n m [] X=h0 at*;simp[EV,eb,dr,r1,n7,ad,am']
 .have eb:∀h,z_ (.str [109]) (.str [108]) h=.ok (.bl false) h:=fun h=>jG _ _ h ⋯ ⋯;have dr:aj (HB n m [] ((SX nm sc).map it)) (.ref 1)=.ref 1:=rfl;have li:bY (HB n m [] ((SX nm sc).map it)) (.ref 1)=true:=rfl;have ap:∀p,aV (.ref 1) [p] (HB n m [] ((SX nm sc).map it))=.ok .non (HB n m [] ((SX nm sc).map it++ [p])):=fun p=>BI n m [] ((SX nm sc).map it) p ⋯;refine⟨[],SX nm sc++ [(nm,[],119)],fun x hx=>?_,by simp;lia,?_⟩
  .rcases adS.mp hx with q|q
   .exact fm x q
   .rw[adw.mp q];exact⟨⟨hn,by simp,(by decide:119∈knd)⟩,adO,aex _⟩
  .have em:(SX nm sc++ [(nm,[],119)]).map it=(SX nm sc).map it++ [.tup [.tup [.str nm],.str [119]]]:=by rw[adV];rfl
   rw[em];have ap':=ap (.tup [.tup [.str nm],.str [119]]);generalize hH:HB n m [] ((SX nm sc).map it++ [.tup [.tup [.str nm],.str [119]]])=H at*;generalize HB n m [] ((SX nm sc).map it)=h0 at*;simp[EV,eb,dr,li,ap',adQ]
theorem Bo(k:Nat)(v:Int)(A:List Nd){d:Nat}(hd:d<=28)(nm:Y1)(hn:H_ nm=true)(fA:Nk (nm::B) d 20 A)(a:Y1)(f:Ya)(hB:a∈B)(ha:H_ a=true)(hf:∀s∈f,H_ s=true)(hl:f.length<=900)(u:Bool)(h:Y3)(x0 x1 x2 x4 x5 x7 x8 Qh Xo Wj VD Um:Option PV):∃ns,Nk B (d+1) 5 ns/\
  (au (aA 13 (c2 f9 (aI (F (k+1) .E_) ai) ac2))
  (au (aA 14 aaY)
  (au (aA 15 (c2 f9 (aI (F (k+1) .E_) ai) aaz))
  (au aaF
  (au (aA 16 (cN aM (aa aas (aa (af 10) (aa (af 3) (aa (aI (F (k+1) .Pa) acd) aam))))))
  (au aa9
  (aN (cN bn (aa (af 16) (aa (cN aM (aa aac (aa (c2 f9 (aI (F (k+1) .E_) ai) acG) ai))) ai)))))))))) [x0,x1,x2,some (q_ a f),x4,x5,some (.int v),x7,x8,some (.bl u),some (.str nm),Qh,some (.lst (b_ A)),Xo,Wj,VD,Um] h=.rt (.lst (b_ ns)) h:=by
 have mk:=fU k;have q1:=aY (v / 12) (m:=95) ⋯;obtain⟨c1,cc1,s1⟩:=lJ _ q1.1 q1.2;have q2:=aY (v / 12+1+(1+v / 1140 % 94) % 94) (m:=95) ⋯;obtain⟨Tf,cc2,s2⟩:=lJ _ q2.1 q2.2;have q3:=aY (v / 12+(1+v / 1140 % 94)) (m:=95) ⋯;obtain⟨c3,cc3,s3⟩:=lJ _ q3.1 q3.2;have e13:aA 13 (c2 f9 (aI (F (k+1) .E_) ai) ac2) [x0,x1,x2,some (q_ a f),x4,x5,some (.int v),x7,x8,some (.bl u),some (.str nm),Qh,some (.lst (b_ A)),Xo,Wj,VD,Um] h=.nx [x0,x1,x2,some (q_ a f),x4,x5,some (.int v),x7,x8,some (.bl u),some (.str nm),Qh,some (.lst (b_ A)),some (.str [c1]),Wj,VD,Um] h:=dB (by simp[EV,mk,s1]);have e14:aA 14 aaY [x0,x1,x2,some (q_ a f),x4,x5,some (.int v),x7,x8,some (.bl u),some (.str nm),Qh,some (.lst (b_ A)),some (.str [c1]),Wj,VD,Um] h=.nx [x0,x1,x2,some (q_ a f),x4,x5,some (.int v),x7,x8,some (.bl u),some (.str nm),Qh,some (.lst (b_ A)),some (.str [c1]),some (.int (1+v / 1140 % 94)),VD,Um] h:=dB (by simp[EV,if_true])
 have e15:aA 15 (c2 f9 (aI (F (k+1) .E_) ai) aaz) [x0,x1,x2,some (q_ a f),x4,x5,some (.int v),x7,x8,some (.bl u),some (.str nm),Qh,some (.lst (b_ A)),some (.str [c1]),some (.int (1+v / 1140 % 94)),VD,Um] h=.nx [x0,x1,x2,some (q_ a f),x4,x5,some (.int v),x7,x8,some (.bl u),some (.str nm),Qh,some (.lst (b_ A)),some (.str [c1]),some (.int (1+v / 1140 % 94)),some (.str [Tf]),Um] h:=dB (by
  have Yx:∀ ρ:Ev,ρ=[x0,x1,x2,some (q_ a f),x4,x5,some (.int v),x7,x8,some (.bl u),some (.str nm),Qh,some (.lst (b_ A)),some (.str [c1]),some (.int (1+v / 1140 % 94)),VD,Um]->af 14 ρ h=.ok (.int (1+v / 1140 % 94)) h:=fun ρ e=>by rw[e];rfl
  simp[EV,mk,Yx,s2])
 rw[sq e13,sq e14,sq e15]
 obtain⟨A1,f1,e12⟩:∃A1,Nk (nm::B) d 21 A1/\aaF [x0,x1,x2,some (q_ a f),x4,x5,some (.int v),x7,x8,some (.bl u),some (.str nm),Qh,some (.lst (b_ A)),some (.str [c1]),some (.int (1+v / 1140 % 94)),some (.str [Tf]),Um] h=.nx [x0,x1,x2,some (q_ a f),x4,x5,some (.int v),x7,x8,some (.bl u),some (.str nm),Qh,some (.lst (b_ A1)),some (.str [c1]),some (.int (1+v / 1140 % 94)),some (.str [Tf]),Um] h:=by
  cases u with
  |false=>exact⟨A,fA.mono (adA _) ⋯,by simp[EV,if_true]⟩
  |true=>have al:=fun h=>mL [nd (.text [c1])] (b_ A) h (by rw[fG,adH];have:=fA.ln;lia);refine⟨.text [c1]::A,ml fA cc1 (adA _),?_⟩;rw[b_];simp[EV,jA,al]
 rw[sq e12];obtain⟨A2,g2,eo⟩:=jH k hd ⋯ A1 f1
 obtain⟨b,hb,bl,ab⟩:∃b,Rz b/\b.length<=100/\∀h,f9 (.lst [.str [],.str [c1,44,32],.str [Tf,c1],.str [Tf]]) (.int (v / 7 % 4)) h=.ok (.str b) h:=by
  have y1:c1<1114112:=cc1 c1 adO;have y2:Tf<1114112:=cc2 Tf adO;rcases(show v / 7 % 4=0\/v / 7 % 4=1\/v / 7 % 4=2\/v / 7 % 4=3 by lia)with q|q|q|q<;>rw[q]
  .exact⟨[],fun c hc=>(nomatch hc),by decide,fun _=>rfl⟩
  .exact⟨[c1,44,32],fun c hc=>by simp only[adD,aeb,or_false]at hc;lia,by simp,fun _=>rfl⟩
  .exact⟨[Tf,c1],fun c hc=>by simp only[adD,aeb,or_false]at hc;lia,by simp,fun _=>rfl⟩
  .exact⟨[Tf],cc2,by simp,fun _=>rfl⟩
 have ln:PV.tup [.str [108,111,111,112],.str nm,q_ a f,.tup (b_ A2),.str b]=nd (.loop nm a f A2 b):=by rw[nd]
 have e16:aA 16 (cN aM (aa aas (aa (af 10) (aa (af 3) (aa (aI (F (k+1) .Pa) acd) aam))))) [x0,x1,x2,some (q_ a f),x4,x5,some (.int v),x7,x8,some (.bl u),some (.str nm),Qh,some (.lst (b_ A1)),some (.str [c1]),some (.int (1+v / 1140 % 94)),some (.str [Tf]),Um] h=.nx [x0,x1,x2,some (q_ a f),x4,x5,some (.int v),x7,x8,some (.bl u),some (.str nm),Qh,some (.lst (b_ A1)),some (.str [c1]),some (.int (1+v / 1140 % 94)),some (.str [Tf]),some (nd (.loop nm a f A2 b))] h:=dB (by
  have k13:∀ ρ:Ev,ρ=[x0,x1,x2,some (q_ a f),x4,x5,some (.int v),x7,x8,some (.bl u),some (.str nm),Qh,some (.lst (b_ A1)),some (.str [c1]),some (.int (1+v / 1140 % 94)),some (.str [Tf]),Um]->af 15 ρ h=.ok (.str [Tf]) h:=fun ρ e=>by rw[e];rfl
  simp[EV,mV,k13,eo,ab,ln])
 rw[sq e16];have y1:=sV g2 ⋯ hB hn ha hf hl hb bl;have n1:PV.lst [nd (.loop nm a f A2 b)]=.lst (b_ [.loop nm a f A2 b]):=by rw[b_,b_]
 have n2:PV.lst [nd (.loop nm a f A2 b),nd (.text [c3])]=.lst (b_ [.loop nm a f A2 b,.text [c3]]):=by rw[b_,b_,b_]
 have f2:=wu (s:=[c3]) y1 rfl cc3 (adA _);have f1:=Bh y1 rfl;generalize Nd.loop nm a f A2 b=N at*;have Yx:∀ ρ:Ev,ρ=[x0,x1,x2,some (q_ a f),x4,x5,some (.int v),x7,x8,some (.bl u),some (.str nm),Qh,some (.lst (b_ A1)),some (.str [c1]),some (.int (1+v / 1140 % 94)),some (.str [Tf]),some (nd N)]->af 14 ρ h=.ok (.int (1+v / 1140 % 94)) h:=fun ρ e=>by rw[e];rfl
 have ZG:∀ ρ:Ev,ρ=[x0,x1,x2,some (q_ a f),x4,x5,some (.int v),x7,x8,some (.bl u),some (.str nm),Qh,some (.lst (b_ A1)),some (.str [c1]),some (.int (1+v / 1140 % 94)),some (.str [Tf]),some (nd N)]->af 16 ρ h=.ok (nd N) h:=fun ρ e=>by rw[e];exact congrArg (fun p=>Res.ok p h) (bc h N)
 cases u with
 |true=>refine⟨_,f2,?_⟩;simp[EV,Yx,ZG,mk,s3,jA,n2]
 |false=>
  by_cases q:v / 5 % 2=1
  .refine⟨_,f1,?_⟩;simp[EV,ZG,bX,q,n1]
  .refine⟨_,f2,?_⟩;simp[EV,Yx,ZG,bX,q,mk,s3,jA,n2]
def DZ(k:Nat)(cs:List Int)(hc:cs.length<=63)(sc:List Si)(YB:Wh B sc)(ls:Ya)(Qw:ls.length=12)(ho:∀l∈ls,H_ l=true)(u:Bool)(d c:Nat)(hd:d<=25)(m:Int)(hs:sc.length<=900)(NA:∀nm Sh,H_ nm=true->Wh (nm::B) Sh->Sh.length<=sc.length+5->∀n:Int,0<=n->n+(c:Int)<=1000000->Got (L (k+1) .v8 [cv cs,.ref 0,av Sh ls u,.int d] [j9 n m]) n m (nm::B) d c 20)(a:Y1)(f:Ya)(hB:a∈B)(ha:H_ a=true)(hf:∀s∈f,H_ s=true)(hl:f.length<=900)(q:Nat)(hq:q=108\/q=109)(n:Int)(h0:0<=n)(h1:n+((1+2 * c:Nat):Int)<=1000000):
  Got (L (k+2) .Px [cv cs,.ref 0,av sc ls u,q_ a f,.str [q],.int ((d+1:Nat):Int)] [j9 n m]) n m B (d+1) (1+2 * c) 5:=by
 obtain⟨v,v0,v1,ce⟩:=dK k cs hc n m h0 ⋯ [];have q12:=aY v (m:=12) ⋯
 obtain⟨nm,hn,ni⟩:∃nm,H_ nm=true/\∀h,f9 (.lst (ls.map PV.str)) (.int (v % 12)) h=.ok (.str nm) h:=⟨ls.getD (v % 12).toNat [],gf ho _,fun h=>by
  have:=jf (v % 12).toNat (ls:=ls) ⋯ h
  rwa [show(((v % 12).toNat:Nat):Int)=v % 12 by lia]at this⟩
 have d0:∀n,aj [j9 n m] (.ref 0)=.ref 0:=fun _=>rfl;have da:∀h,aj h (av sc ls u)=av sc ls u:=fun _=>rfl
 have e6:aA 6 (bx (L (k+1) .C_) aaP) [some (cv cs),some (.ref 0),some (av sc ls u),some (q_ a f),some (.str [q]),some (.int ((d+1:Nat):Int)),none,none,none,none,none,none,none,none,none,none,none] [j9 n m]=.nx [some (cv cs),some (.ref 0),some (av sc ls u),some (q_ a f),some (.str [q]),some (.int ((d+1:Nat):Int)),some (.int v),none,none,none,none,none,none,none,none,none,none] [j9 (n+1) m]:=by simp[EV,eN,d0,ce]
 have e7:pK ab5 (af 2) [some (cv cs),some (.ref 0),some (av sc ls u),some (q_ a f),some (.str [q]),some (.int ((d+1:Nat):Int)),some (.int v),none,none,none,none,none,none,none,none,none,none] [j9 (n+1) m]=.nx [some (cv cs),some (.ref 0),some (av sc ls u),some (q_ a f),some (.str [q]),some (.int ((d+1:Nat):Int)),some (.int v),some (.lst (sc.map it)),some (.lst (ls.map PV.str)),some (.bl u),none,none,none,none,none,none,none] [j9 (n+1) m]:=rfl;have Yd:aA 10 acB [some (cv cs),some (.ref 0),some (av sc ls u),some (q_ a f),some (.str [q]),some (.int ((d+1:Nat):Int)),some (.int v),some (.lst (sc.map it)),some (.lst (ls.map PV.str)),some (.bl u),none,none,none,none,none,none,none] [j9 (n+1) m]=.nx [some (cv cs),some (.ref 0),some (av sc ls u),some (q_ a f),some (.str [q]),some (.int ((d+1:Nat):Int)),some (.int v),some (.lst (sc.map it)),some (.lst (ls.map PV.str)),some (.bl u),some (.str nm),none,none,none,none,none,none] [j9 (n+1) m]:=dB (by simp[EV,ni]);have ic:=BD (k+1) nm hn [j9 (n+1) m] sc fun x hx=>(YB x hx).1;have ln:(sc.map it).length<16777216:=by rw[adJ];lia
 have e11:aA 11 (cN ia (bT [10] (iV (af 7)) (fR (F (k+1))) (hS (F (k+1))))) [some (cv cs),some (.ref 0),some (av sc ls u),some (q_ a f),some (.str [q]),some (.int ((d+1:Nat):Int)),some (.int v),some (.lst (sc.map it)),some (.lst (ls.map PV.str)),some (.bl u),some (.str nm),none,none,none,none,none,none] [j9 (n+1) m]=.nx [some (cv cs),some (.ref 0),some (av sc ls u),some (q_ a f),some (.str [q]),some (.int ((d+1:Nat):Int)),some (.int v),some (.lst (sc.map it)),some (.lst (ls.map PV.str)),some (.bl u),some (.str nm),some (.ref 1),none,none,none,none,none] (HB (n+1) m [] ((SX nm sc).map it)):=dB (by
  have z:∀ ρ:Ev,cU [10] ρ=[some (.str nm)]->af 7 ρ [j9 (n+1) m]=.ok (.lst (sc.map it)) [j9 (n+1) m]->cN ia (bT [10] (iV (af 7)) (fR (F (k+1))) (hS (F (k+1)))) ρ [j9 (n+1) m]=ia ((SX nm sc).map it) [j9 (n+1) m]:=fun ρ cq c7=>by
   generalize sc.map it=S at*
   have y:iV (af 7) ρ [j9 (n+1) m]=.ok S [j9 (n+1) m]:=by rw[Eg,c7];simp[EV,if_true]
   rw[Fo,Bx,y,Hr,if_pos (by rw[szl];lia),cq,ic];simp[EV,if_true]
  exact(z _ rfl rfl).trans rfl)
 obtain⟨js,Sh,S2,l2,aai⟩:=wB k (n+1) m sc ⋯ YB ls Qw ho nm hn q hq (some (cv cs)) (some (.ref 0)) (some (av sc ls u)) (some (q_ a f)) (some (.int ((d+1:Nat):Int))) (some (.int v)) (some (.lst (sc.map it))) (some (.bl u)) none none none none none;obtain⟨A,n',eA,fA,p1,p2⟩:=NA nm Sh hn S2 l2 (n+1) ⋯ ⋯;have fz:=Ku (n+1) m js (Sh.map it) (mu Sh);have sd:((d+1:Nat):Int) - 1=(d:Int):=by lia
 have cA:z6 (L (k+1) .v8) [cv cs,.ref 0,av Sh ls u,.int d] (j9 (n+1) m::(js++ [PO.s8 (.lst (Sh.map it))]))=.ok (.lst (b_ A)) (j9 n' m::(js++ [PO.s8 (.lst (Sh.map it))])):=dn (fn:=L (k+1) .v8) [cv cs] [av Sh ls u,.int d] (by rw[aq,gO];rfl) (by rw[aq,oY];rfl) rfl (bR _ _) eA (dh A) (bR _ _);have d1:=nY (n+1) m js (Sh.map it);have d0':=rI (n+1) m js (Sh.map it)
 have e12:aA 12 (bx (L (k+1) .v8) aa6) [some (cv cs),some (.ref 0),some (av sc ls u),some (q_ a f),some (.str [q]),some (.int ((d+1:Nat):Int)),some (.int v),some (.lst (sc.map it)),some (.lst (ls.map PV.str)),some (.bl u),some (.str nm),some (.ref (js.length+1)),none,none,none,none,none] (HB (n+1) m js (Sh.map it))=.nx [some (cv cs),some (.ref 0),some (av sc ls u),some (q_ a f),some (.str [q]),some (.int ((d+1:Nat):Int)),some (.int v),some (.lst (sc.map it)),some (.lst (ls.map PV.str)),some (.bl u),some (.str nm),some (.ref (js.length+1)),some (.lst (b_ A)),none,none,none,none] (j9 n' m::(js++ [PO.s8 (.lst (Sh.map it))])):=dB (by simp[EV,eN,d0',d1,fz,sd,cA])
 obtain⟨ns,nk,e13⟩:=Bo k v A ⋯ nm hn fA a f hB ha hf hl u (j9 n' m::(js++ [PO.s8 (.lst (Sh.map it))])) (some (cv cs)) (some (.ref 0)) (some (av sc ls u)) (some (.str [q])) (some (.int ((d+1:Nat):Int))) (some (.lst (sc.map it))) (some (.lst (ls.map PV.str))) (some (.ref (js.length+1))) none none none none;refine⟨ns,n',?_,nk,by lia,by lia⟩;show cP (mI (F (k+1)) (L (k+1))) 6 17 [cv cs,.ref 0,av sc ls u,q_ a f,.str [q],.int ((d+1:Nat):Int)] [j9 n m]=_;refine oH (h1:=j9 n' m::(js++ [PO.s8 (.lst (Sh.map it))])) (v:=.lst (b_ ns)) rfl ?_ (It n' m (dh ns) _);show mI (F (k+1)) (L (k+1)) [some (cv cs),some (.ref 0),some (av sc ls u),some (q_ a f),some (.str [q]),some (.int ((d+1:Nat):Int)),none,none,none,none,none,none,none,none,none,none,none] [j9 n m]=_;unfold mI;rw[sq e6,sq e7,sq Yd,sq e11,sq aai,sq e12];exact e13
noncomputable def nC:Nat->Nat
 |0=>5
 |d+1=>5+4 * (1+2 * nC d)
theorem nr(cs:List Int)(hc:cs.length<=63)(ls:Ya)(Qw:ls.length=12)(ho:∀l∈ls,H_ l=true)(u:Bool)(m:Int):∀(d k:Nat)(B:Ya)(sc:List Si),d<=25->Wh B sc->sc.length+5 * d<=100->∀n:Int,0<=n->n+(nC d:Int)<=1000000->Got (L (k+2 * d+5) .v8 [cv cs,.ref 0,av sc ls u,.int d] [j9 n m]) n m B d (nC d) 20
 |0,k,B,sc,_,hs,sl,n,h0,h1=>uG k cs hc sc hs ⋯ ls u 0 0 m (fun q=>by lia) n h0 h1
 |d+1,k,B,sc,hd,hs,sl,n,h0,h1=>by
  refine uG (k+2 * (d+1)) cs hc sc hs ⋯ ls u (d+1) (1+2 * nC d) m (fun _ n2 h2 h3 a f hB ha hf hl=>?_) n h0 h1;have e:k+2 * (d+1)+4=(k+2 * d+4)+2:=by lia
  rw[e]
  exact⟨zQ (k+2 * d+4) cs hc sc ls u d (nC d) ⋯ m (fun n3 h4 h5=>nr cs hc ls Qw ho u m d k B sc ⋯ hs ⋯ n3 h4 h5) a f hB ha hf ⋯ n2 h2 h3,
   fun q hq=>DZ (k+2 * d+4) cs hc sc hs ls Qw ho u d (nC d) ⋯ m ⋯ (fun nm Sh hn S2 l2 n3 h4 h5=>nr cs hc ls Qw ho u m d k (nm::B) Sh ⋯ S2 ⋯ n3 h4 h5) a f hB ha hf ⋯ q hq n2 h2 h3⟩
def zK(k:Nat)(ls:Ya)(Qw:ls.length=12)(ho:∀l∈ls,H_ l=true)(v:Int)(i:Nat)(hi:i<21)(d:Nat)(hd:d<=25)(l:List Nd)(nk:Nk (b7 ls) d 20 l)(h:Y3)(x0 x1 x2 x3 x5 x9 P_ Qh:Option PV):∃l' y9 Rx Ti,Nk (b7 ls) (d+1) 20 l'/\iZ (F (k+1)) [x0,x1,x2,x3,some (.lst (ls.map PV.str)),x5,some (.lst (b_ l)),some (.int v),some (.int (0+(i:Nat))),x9,P_,Qh] h=.nx [x0,x1,x2,x3,some (.lst (ls.map PV.str)),x5,some (.lst (b_ l')),some (.int v),some (.int (0+(i:Nat))),y9,Rx,Ti] h:=by
 have mk:=fU k;have q1:=aY (v / 189+(0+(i:Nat))) (m:=94) ⋯;obtain⟨c,cc,ce⟩:=lJ _ q1.1 (Int.lt_trans q1.2 ⋯);have al:=fun h=>mL [nd (.text [c])] (b_ l) h (by rw[fG,adH];have:=nk.ln;lia);obtain⟨l2,W_,eo⟩:=jH k ⋯ ⋯ (.text [c]::l) (ml nk cc (adA _));have eo:∀h,aX (F (k+1) .Pa) [.lst (nd (.text [c])::b_ l)] h=.ok (.tup (b_ l2)) h:=fun h=>by rw[<- eo h,b_]
 have mc:jg (0+(i:Int)) (0+(i:Int))=true:=jK (bD.mpr ⟨by lia,by lia⟩);have n3:∀h,f9 (.lst (ls.map PV.str)) (.int 3) h=.ok (.str (ls.getD 3 [])) h:=jf 3 (ls:=ls) ⋯;have n4:∀h,f9 (.lst (ls.map PV.str)) (.int 4) h=.ok (.str (ls.getD 4 [])) h:=jf 4 (ls:=ls) ⋯
 obtain⟨a,f,aB,ao,fo,fl,pe⟩:∃(a:Y1)(f:Ya),a∈b7 ls/\H_ a=true/\(∀s∈f,H_ s=true)/\f.length<=900/\∀h,f9 (.lst [.tup [.str (ls.getD 3 [])],.tup [.str (ls.getD 4 []),.str (ls.getD 3 [])]]) (.int ((0+(i:Int)) % 2)) h=.ok (q_ a f) h:=by
  rcases(show(0+(i:Int)) % 2=0\/(0+(i:Int)) % 2=1 by lia)with q|q<;>rw[q]
  .exact⟨ls.getD 3 [],[],nT ls 3 ⋯,gf ho 3,fun s hs=>(nomatch hs),by decide,fun _=>rfl⟩
  .exact⟨ls.getD 4 [],[ls.getD 3 []],nT ls 4 ⋯,gf ho 4,fun s hs=>by rw[adw]at hs;rw[hs];exact gf ho 3,by simp,fun _=>rfl⟩
 obtain⟨A,E,nA,nE,e1,e2⟩:∃A E:List Nd,Nk (b7 ls) d 21 A/\Nk (b7 ls) d 21 E/\(∀h,f9 (.lst [.tup (b_ l2),.tup []]) (.int ((v+(0+(i:Int)) * (0+(i:Int))) % 3 % 2)) h=.ok (.tup (b_ A)) h)/\∀h,f9 (.lst [.tup (b_ l2),.tup []]) (.int (1 - (v+(0+(i:Int)) * (0+(i:Int))) % 3 % 2)) h=.ok (.tup (b_ E)) h:=by
  generalize(v+(0+(i:Int)) * (0+(i:Int)))=w;rcases(show w % 3 % 2=0\/w % 3 % 2=1 by lia)with q|q<;>rw[q]
  .exact⟨l2,[],W_,Nk.nil _ _ _,fun _=>rfl,fun _=>by rw[b_];rfl⟩
  .exact⟨[],l2,Nk.nil _ _ _,W_,fun _=>by rw[b_];rfl,fun _=>rfl⟩
 have y1:=nu nA nE ⋯ aB ao fo fl;have cn:PV.tup [.str [99,104,111,105,99,101],q_ a f,.tup (b_ A),.tup (b_ E)]=nd (.choice a f A E):=by rw[nd]
 have n2:PV.lst [nd (.choice a f A E),nd (.text [126])]=.lst (b_ [.choice a f A E,.text [126]]):=by rw[b_,b_,b_]
 refine⟨[.choice a f A E,.text [126]],some (.lst [.tup (b_ l2),.tup []]),some (.int ((v+(0+(i:Int)) * (0+(i:Int))) % 3 % 2)),some (q_ a f),(wu y1 rfl (fun c hc=>by rw[adw]at hc;rw[hc];decide) (adA _)).mono (adA _) ⋯,?_⟩;simp[EV,iZ,mk,ce,jA,al,eo,mc,n3,n4,pe,mV,e1,e2,cn,n2]
theorem rL(k:Nat)(ls:Ya)(Qw:ls.length=12)(ho:∀l∈ls,H_ l=true)(v:Int)(h:Y3)(x0 x1 x2 x3 x5:Option PV):∀(is:Y1)(d:Nat)(l:List Nd)(x8 x9 P_ Qh:Option PV),(∀i∈is,i<21)->d+is.length<=25->Nk (b7 ls) d 20 l->∃l' y8 y9 Rx Ti,Nk (b7 ls) 25 20 l'/\bf (z7 8) (iZ (F (k+1))) (is.map fun i:Nat=>PV.int (0+(i:Nat))) [x0,x1,x2,x3,some (.lst (ls.map PV.str)),x5,some (.lst (b_ l)),some (.int v),x8,x9,P_,Qh] h=.nx [x0,x1,x2,x3,some (.lst (ls.map PV.str)),x5,some (.lst (b_ l')),some (.int v),y8,y9,Rx,Ti] h
 |[],d,l,x8,x9,P_,Qh,_,hd,nk=>⟨l,x8,x9,P_,Qh,nk.mono (by rw[adQ]at hd;lia) (adA _),rfl⟩
 |i::is,d,l,x8,x9,P_,Qh,hi,hd,nk=>by rw[adu]at hd;obtain⟨l',z9,YZ,YX,nk',e⟩:=zK k ls Qw ho v i (hi i adO) d ⋯ l nk h x0 x1 x2 x3 x5 x9 P_ Qh;obtain⟨l2,y8,y9,Rx,Ti,W_,e2⟩:=rL k ls Qw ho v h x0 x1 x2 x3 x5 is (d+1) l' (some (.int (0+(i:Nat)))) z9 YZ YX (fun j hj=>hi j (adG _ hj)) ⋯ nk';exact⟨l2,y8,y9,Rx,Ti,W_,(cR rfl e).trans e2⟩
def Ez(k:Nat)(cs:List Int)(hc:cs.length<=63)(w:Int)(b:Bool)(n m:Int)(h0:0<=n)(h1:n<=900000):∃(l:List Nd)(ls:Ya)(n':Int),Nk (b7 ls) 25 1000 l/\ls.length=12/\(∀s∈ls,H_ s=true)/\n<=n'/\n'<=n+4000/\L (k+12) .Qq [cv cs,.ref 0,.int w,.bl b] [j9 n m]=.ok (.tup [.tup (b_ l),.lst (ls.map PV.str)]) [j9 n' m]:=by
 obtain⟨ls,Qw,ho,ne⟩:=Bi (k+10) w;have ne:∀h,aX (F (k+11) .Rq) [.int w] h=.ok (.lst (ls.map PV.str)) h:=fun h=>aL h rfl ne;have Vp:(PV.lst (ls.map PV.str)).pure=true:=by rw[PV.pure];exact bz ls
 obtain⟨sc,s10,sok,se⟩:=Ar (k+9) ls Qw ho;have se:∀h,aX (F (k+11) .Rp) [.lst (ls.map PV.str)] h=.ok (.lst (sc.map it)) h:=fun h=>aL h (by rw[aq,Vp];rfl) se;have n3:nC 3=3217:=by decide
 obtain⟨l,n1,le,nk,p1,p2⟩:=nr cs hc ls Qw ho b m 3 k (b7 ls) sc ⋯ sok ⋯ n h0 ⋯;have le:z6 (L (k+11) .v8) [cv cs,.ref 0,av sc ls b,.int 3] [j9 n m]=.ok (.lst (b_ l)) [j9 n1 m]:=dn (fn:=L (k+11) .v8) [cv cs] [av sc ls b,.int 3] (by rw[aq,gO];rfl) (by rw[aq,oY];rfl) rfl (bR _ _) le (dh l) (bR _ _);obtain⟨v,v0,v1,ce⟩:=dK (k+10) cs hc n1 m ⋯ ⋯ [];have q21:=aY (v / 9) (m:=21) ⋯
 obtain⟨t,t20,te,tb⟩:∃t:Nat,t<=20/\v / 9 % 21 * (if decide (v % 9=1)=true then 1 else 0)=(t:Int)/\QW 4611686018427387904 (t:Int)=true:=by
  by_cases q:v % 9=1
  .refine⟨(v / 9 % 21).toNat,by lia,by rw[decide_eq_true q,if_pos rfl];lia,bD.mpr ⋯⟩
  .exact⟨0,by lia,by rw[decide_eq_false q,if_neg ⋯];lia,by decide⟩
 obtain⟨l2,y8,y9,Rx,Ti,W_,lp⟩:=rL (k+10) ls Qw ho v [j9 (n1+1) m] (some (cv cs)) (some (.ref 0)) (some (.int w)) (some (.bl b)) (some (av sc ls b)) (List.range t) 3 l none none none none (fun i hi=>by rw[ad3]at hi;lia) (by rw[adY];lia) nk;obtain⟨l3,nk3,eo⟩:=jH (k+10) ⋯ ⋯ l2 W_;refine⟨l3,ls,n1+1,nk3.mono (adA _) ⋯,Qw,ho,by lia,by lia,?_⟩;have d0:∀n,aj [j9 n m] (.ref 0)=.ref 0:=fun _=>rfl;show cP (mK (F (k+11)) (L (k+11))) 4 12 [cv cs,.ref 0,.int w,.bl b] [j9 n m]=_;refine oH (h1:=[j9 (n1+1) m]) (v:=.tup [.tup (b_ l3),.lst (ls.map PV.str)]) rfl ?_ (It _ _ (by simp[PV.pure,aq,bB,bz]) []);show mK (F (k+11)) (L (k+11)) [some (cv cs),some (.ref 0),some (.int w),some (.bl b),none,none,none,none,none,none,none,none] [j9 n m]=_;have da:∀h,aj h (av sc ls b)=av sc ls b:=fun _=>rfl;have ib:∀(x:Bool) h,jd [.bl x] h=.ok (.int (if x=true then 1 else 0)) h:=fun x _=>rfl
 have mm:∀h,gX (.int (v / 9 % 21)) (.int (if decide (v % 9=1)=true then 1 else 0)) h=.ok (.int (t:Int)) h:=fun h=>by rw[<- te];refine(Hm _ _ _).trans ?_;rw[if_pos (jK (bD.mpr (by split<;>lia)))]
 have tn:((t:Int)).toNat=t:=aeR t;simp[EV,mK,eN,d0,ak _ Vp,ne,se,le,ce,bX,ib,mm,tb,tn,lp,eo]
abbrev mr:Y1:=[109,111,114,101]
abbrev DH:PV:=.lst [.int 1]
def sR:VV 1 DH:=.lst 0 _ (fun x hx=>by rw[adw]at hx;rw[hx];exact .int 0 1) ⋯
def Yo(l:List Nd)(h:Y3)(j:Nat):Prop:=∃d:List (PK×PV),h[j]? =some (.dct d)/\d.length<=1000/\∀d',(d'=d\/d'=aK d (.inr mr) DH)->∃(B:Ya)(nn:Nat)(sc:List (PK×PV))(hz:Y3),vG l B nn sc/\iC (h.set j (.dct d'))=some hz/\hz[j]? =some (.s8 (.dct sc))
def Ao{o:PO}(e:h[j]? =some o):h.set j o=h:=by
 refine List.ext_getElem? fun i=>?_;rw[List.getElem?_set]
 split
 .rename_i q;subst q;rw[e]
  split
  .rfl
  .rename_i n;exact absurd (adv.mp e).1 n
 .rfl
def DY(R:Yo l h j)(v:Int)(o0 o1 o2 o4 o6 o7 o8 o9 Uq QL Rj:Option PV):∃(h':Y3)(B:Ya)(nn:Nat)(sc:List (PK×PV))(hz:Y3),vG l B nn sc/\iC h'=some hz/\hz[j]? =some (.s8 (.dct sc))/\
  G4 ab4 abm bv [o0,o1,o2,some (.int v),o4,some (.ref j),o6,o7,o8,o9,Uq,QL,Rj] h=.nx [o0,o1,o2,some (.int v),o4,some (.ref j),o6,o7,o8,o9,Uq,QL,Rj] h':=by
 obtain⟨d,hj,dl,R⟩:=R;have hd:h.set j (.dct d)=h:=Ao hj;have dr:aj h (.ref j)=.ref j:=by unfold aj;dsimp only;rw[hj]
 have di:qq h (.ref j)=true:=by unfold qq R_;dsimp only;rw[hj];rfl
 have lv:eM h (.ref j)=some (j,d):=by unfold eM;dsimp only;rw[hj]
 by_cases q:v / 12 % 2=1
 .cases e:bj d (.inr mr)with
  |some x=>
   obtain⟨B,nn,sc,hz,g,f1,f2⟩:=R d (.inl rfl);rw[hd]at f1
   have sd:ik (.ref j) [.str mr,.lst [.int 1]] h=.ok (aj h x) h:=by unfold ik;dsimp only;rw[lv];show(match bj d (.inr mr)with|some v=>Res.ok (aj h v) h|none=>_)=_;rw[e]
   refine⟨h,B,nn,sc,hz,g,f1,f2,?_⟩;simp[EV,bX,q,dr,di,sd]
  |none=>
   obtain⟨B,nn,sc,hz,g,f1,f2⟩:=R _ (.inr rfl)
   have sd:ik (.ref j) [.str mr,.lst [.int 1]] h=.ok DH (h.set j (.dct (aK d (.inr mr) DH))):=by unfold ik;dsimp only;rw[lv];show(match bj d (.inr mr)with|some v=>Res.ok (aj h v) h|none=>if d.length<sizeLine then _ else _)=_;rw[e];dsimp only;rw[if_pos (by rw[szl];lia)]
   refine⟨_,B,nn,sc,hz,g,f1,f2,?_⟩;simp[EV,bX,q,dr,di,sd]
 .obtain⟨B,nn,sc,hz,g,f1,f2⟩:=R d (.inl rfl);rw[hd]at f1;refine⟨h,B,nn,sc,hz,g,f1,f2,?_⟩;simp[EV,bX,q]
def CR(i2:∀i,i<4->(bj d2 (.inr (ls.getD i []))).isSome):∀a∈b7 ls,(bj (Y8 d2 d3 es ws (ls.getD 4 []) (ls.getD 5 []) (ls.getD 6 [])) (.inr a)).isSome:=fun a ha=>by
 obtain⟨j,hj,rfl⟩:=adT.mp ha;have hj:=ad3.mp hj;refine cG ?_;rcases(show j<4\/j=4\/j=5\/j=6 by lia)with q|rfl|rfl|rfl
 .exact .inr (cG (.inr (cG (.inr (i2 j q)))))
 .exact .inr (cG (.inr (cG (.inl rfl))))
 .exact .inr (cG (.inl rfl))
 .exact .inl rfl
def BU(cs:List Int)(hc:cs.length<=63)(w:Int)(b1 b2:Bool):∃(l:List Nd)(ls:Ya)(n1:Int)(h:Y3),L 99 .Qq [cv cs,.ref 0,.int w,.bl b1] [j9 0 24]=.ok (.tup [.tup (b_ l),.lst (ls.map PV.str)]) [j9 n1 24]/\X_ 99 .O1 [cv cs,.ref 0,.lst (ls.map PV.str),.bl b2] [j9 n1 24]=.ok (.ref 1) h/\Yo l h 1:=by
 obtain⟨l,ls,n1,nk,Qw,ho,p1,p2,e⟩:=Ez 87 cs hc w b1 0 24 ⋯ ⋯;obtain⟨n2,d2,d3,es,ws,ve,D2,i2,D3,el,De,vw⟩:=yI 95 cs hc ls Qw b2 n1 24 ⋯ ⋯ [];refine⟨l,ls,n1,Ub n2 24 (dV d2 ws (ls.getD 4 []) (ls.getD 5 []) (ls.getD 6 [])) d3 es,e,ve,dV d2 ws (ls.getD 4 []) (ls.getD 5 []) (ls.getD 6 []),rfl,?_,fun d' Vt=>?_⟩
 .have a:=ij d2 (.inr (ls.getD 4 [])) (PV.ref 2);have b:=ij (aK d2 (.inr (ls.getD 4 [])) (PV.ref 2)) (.inr (ls.getD 5 [])) (PV.ref 3);have c:=ij (aK (aK d2 (.inr (ls.getD 4 [])) (PV.ref 2)) (.inr (ls.getD 5 [])) (PV.ref 3)) (.inr (ls.getD 6 [])) (PV.lst ws);have:=D2.ln;unfold dV
  lia
 have S:=Gr (ls.getD 4 []) (ls.getD 5 []) (ls.getD 6 []) D2 D3 De el vw;have hb:=CR (d3:=d3) (es:=es) (ws:=ws) i2
 have fin:∀(d' sc:List (PK×PV)),DO 4 12 sc->(∀a∈b7 ls,(bj sc (.inr a)).isSome)->eh (aJ (Ub n2 24 d' d3 es) 99) d'=some sc->∃(B:Ya)(nn:Nat)(sc:List (PK×PV))(hz:Y3),vG l B nn sc/\iC ((Ub n2 24 (dV d2 ws (ls.getD 4 []) (ls.getD 5 []) (ls.getD 6 [])) d3 es).set 1 (.dct d'))=some hz/\hz[1]? =some (.s8 (.dct sc)):=fun d' sc D hb hm=>by obtain⟨hz,f1,f2⟩:=zY n2 24 d' D3 De hm;exact⟨b7 ls,4,sc,hz,ye nk D.v ⋯ D.nd D.kr (adR D.ln ⋯) hb,f1,f2⟩
 rcases Vt with rfl|rfl
 .exact fin _ _ (S.mono (adA _) ⋯) hb (yv n2 24 _ _ _ _ D2 D3 De vw)
 .exact fin _ _ (S.put mr (sR.mono ⋯)) (fun a ha=>cG (.inr (hb a ha))) (jL (gh _ sR ⋯) _ (yv n2 24 _ _ _ _ D2 D3 De vw))
noncomputable def prs:Nat->List Y2->Y3
 |_,[]=>[]
 |i,t::r=>.lst t::.dct [(.inr [102],.ref i)]::prs (i+2) r
theorem eR:∀(i:Nat)(T:List Y2),(prs i T).length=2 * T.length
 |_,[]=>rfl
 |i,t::r=>by rw[prs,adu,adu,eR,adu];lia
theorem oM:∀(i:Nat)(T:List Y2)(t:Y2),prs i (T++ [t])=prs i T++ [.lst t,.dct [(.inr [102],.ref (i+2 * T.length))]]
 |i,[],t=>rfl
 |i,a::r,t=>by rw[aei,prs,oM (i+2) r t,prs,adu,show i+2+2 * r.length=i+2 * (r.length+1) by lia];rfl
theorem Fd:∀(i:Nat)(T:List Y2)(j:Nat)(hj:j<T.length),(prs i T)[2 * j]? =some (.lst T[j])
 |i,[],j,hj=>by simp at hj
 |i,t::r,0,hj=>rfl
 |i,t::r,j+1,hj=>by rw[prs,show 2 * (j+1)=2 * j+1+1 by lia,ad0,ad0,Fd (i+2) r j (by rw[adu]at hj;lia)];rfl
theorem Fe:∀(i:Nat)(T:List Y2)(j:Nat)(_:j<T.length),(prs i T)[2 * j+1]? =some (.dct [(.inr [102],.ref (i+2 * j))])
 |i,[],j,hj=>by simp at hj
 |i,t::r,0,hj=>rfl
 |i,t::r,j+1,hj=>by rw[prs,show 2 * (j+1)+1=(2 * j+1)+1+1 by lia,ad0,ad0,Fe (i+2) r j (by rw[adu]at hj;lia),show i+2+2 * j=i+2 * (j+1) by lia]
noncomputable def rws(n:Nat):Y2:=(List.range n).map fun j=>.ref (3+2 * j)
def Je(n:Nat):rws (n+1)=rws n++ [.ref (3+2 * n)]:=by unfold rws;rw[agB,adV];rfl
def GT(o:PO)(T:List Y2)(e:Y3):Y3:=o::.lst (rws T.length)::(prs 2 T++e)
section
variable(o:PO)(T:List Y2)(e:Y3)
theorem tq:(GT o T e).length=2+2 * T.length+e.length:=by unfold GT;simp only[adu,adt,eR];lia
theorem uR:(GT o T e)[1]? =some (.lst (rws T.length)):=rfl
theorem Ii(j:Nat)(hj:j<T.length):(GT o T e)[2+2 * j]? =some (.lst T[j]):=by show(o::.lst (rws T.length)::(prs 2 T++e))[2+2 * j]? =_;rw[show 2+2 * j=2 * j+1+1 by lia,ad0,ad0,adC (by rw[eR];lia),Fd 2 T j hj]
theorem Ij(j:Nat)(hj:j<T.length):(GT o T e)[3+2 * j]? =some (.dct [(.inr [102],.ref (2+2 * j))]):=by show(o::.lst (rws T.length)::(prs 2 T++e))[3+2 * j]? =_;rw[show 3+2 * j=2 * j+1+1+1 by lia,ad0,ad0,adC (by rw[eR];lia),Fe 2 T j hj]
theorem yb(t:Y2):(GT o (T++ [t]) [])[2+2 * T.length]? =some (.lst t):=by rw[Ii o (T++ [t]) [] T.length (by simp)];simp
theorem Kv(t:Y2):(GT o (T++ [t]) [])[3+2 * T.length]? =some (.dct [(.inr [102],.ref (2+2 * T.length))]):=Ij o (T++ [t]) [] T.length (by simp)
theorem Ie(t u:Y2):(GT o (T++ [t]) []).set (2+2 * T.length) (.lst u)=GT o (T++ [u]) []:=by unfold GT;rw[oM,oM,adt,adt,show 2+2 * T.length=2 * T.length+1+1 by lia,aec,aec,adU,adU,adW _ _ (by rw[eR];lia),eR,aee];rfl
theorem Ih:∀ ρ,gF [(abE,aaV)] ρ (GT o T [])=.ok (.ref (3+2 * T.length)) (GT o T [.lst [],.dct [(.inr [102],.ref (2+2 * T.length))]]):=fun ρ=>by
 have l0:(GT o T []).length=2+2 * T.length:=by rw[tq];rfl
 have e:∀h:Y3,gF [(abE,aaV)] ρ h=.ok (.ref (h++ [PO.lst []]).length) (h++ [PO.lst []]++[PO.dct [(.inr [102],.ref h.length)]]):=fun _=>rfl;rw[e,adt,l0];show Res.ok (PV.ref (2+2 * T.length+1)) _=_;rw[show 2+2 * T.length+1=3+2 * T.length by lia]
 congr 1
 unfold GT;simp
theorem Ig(hl:T.length<=100):aV (.ref 1) [.ref (3+2 * T.length)] (GT o T [.lst [],.dct [(.inr [102],.ref (2+2 * T.length))]])=.ok .non (GT o (T++ [[]]) []):=by
 rw[vC (uR o T _) _ (by unfold rws;rw[adJ,adY];lia)]
 congr 1
 unfold GT;rw[oM,adt,adH,Je,adU];rfl
end
def Yt(xs:Y2):Prop:=∀x∈xs,VV 3 x
theorem yd(k:Nat)(o:PO)(T:List Y2)(x0 x1 x6 x8 Tj:Option PV)(th wr:PV)(hp:∀h,aj h th=th)(wp:∀h,aj h wr=wr)(vw:VV 3 wr)(vt:VV 3 (.dct [(.inr [116],.bl true),(.inr [120],th)]))(cost near:Int):∀(js:Y2)(ts:Y2)(P_ Qh:Option PV)(many:Int),Yt ts->ts.length+js.length<=500->∃(Xr:Y2)(Vo:Int)(Rx Ti:Option PV),Yt Xr/\Xr.length=ts.length+js.length/\bf (z7 10) (dJ (F k)) js [x0,x1,some th,some (.int cost),some wr,some (.int near),x6,some (.int many),x8,some (.ref (2+2 * T.length)),P_,Qh,Tj] (GT o (T++ [ts]) [])=.nx [x0,x1,some th,some (.int cost),some wr,some (.int near),x6,some (.int Vo),x8,some (.ref (2+2 * T.length)),Rx,Ti,Tj] (GT o (T++ [Xr]) [])
 |[],ts,P_,Qh,many,ho,hl=>⟨ts,many,P_,Qh,ho,by simp,rfl⟩
 |j::js,ts,P_,Qh,many,ho,hl=>by
  rw[adu]at hl;have g:=yb o T ts;have dr:=oB g;have il:=uP g;have ap:=fun x=>(vC g x ⋯).trans (by rw[Ie]);have dd:∀h,aj h (.dct [(.inr [116],.bl true),(.inr [120],th)])=.dct [(.inr [116],.bl true),(.inr [120],th)]:=fun _=>rfl
  have cd:∀ ρ h,af 2 ρ h=.ok th h->eQ [(aaT,abg),(aaS,(af 2))] ρ h=.ok (.dct [(.inr [116],.bl true),(.inr [120],th)]) h:=fun ρ h e=>by simp only[eQ,jr,Iw,e,Res.M_,iM];rfl
  have le:∀h,W8 (.int near) (.int (many+cost)) h=.ok (.bl (decide (near<=many+cost))) h:=fun _=>rfl;have lt:∀h,U8 (.int (many+cost)) (.int (near+cost)) h=.ok (.bl (decide (many+cost<near+cost))) h:=fun _=>rfl
  obtain⟨x,bw,vx,e⟩:∃(x:PV)(bw:Bool),VV 3 x/\dJ (F k) [x0,x1,some th,some (.int cost),some wr,some (.int near),x6,some (.int many),x8,some (.ref (2+2 * T.length)),some j,Qh,Tj] (GT o (T++ [ts]) [])=.nx [x0,x1,some th,some (.int cost),some wr,some (.int near),x6,some (.int (many+cost)),x8,some (.ref (2+2 * T.length)),some j,some (.bl bw),Tj] (GT o (T++ [ts++ [x]]) []):=by
   generalize GT o (T++ [ts]) []=H at*;have Tf:=cd [x0,x1,some th,some (.int cost),some wr,some (.int near),x6,some (.int (many+cost)),x8,some (.ref (2+2 * T.length)),some j,some (.bl false),Tj] H (congrArg (fun p=>Res.ok p H) (hp H));have c3':=cd [x0,x1,some th,some (.int cost),some wr,some (.int near),x6,some (.int (many+cost)),x8,some (.ref (2+2 * T.length)),some j,some (.bl true),Tj] H (congrArg (fun p=>Res.ok p H) (hp H))
   cases q1:decide (near<=many+cost)with
   |false=>rw[q1]at le;refine⟨_,false,vt,?_⟩;simp[EV,dJ,le,dr,il,Tf,ap]
   |true=>
    rw[q1]at le
    cases q2:decide (many+cost<near+cost)with
    |false=>rw[q2]at lt;refine⟨_,false,vt,?_⟩;simp[EV,dJ,le,lt,dr,il,Tf,ap]
    |true=>rw[q2]at lt;refine⟨_,true,vw,?_⟩;simp[EV,dJ,le,lt,dr,il,wp,ap]
  obtain⟨Xr,m',Rx,Ti,o',l',e2⟩:=yd k o T x0 x1 x6 x8 Tj th wr hp wp vw vt cost near js (ts++ [x]) (some j) (some (.bl bw)) (many+cost) (fun z hz=>by
   rcases adS.mp hz with q|q
   .exact ho z q
   .rw[adw]at q;rw[q];exact vx) (by rw[adt,adH];lia)
  exact⟨Xr,m',Rx,Ti,o',by rw[l',adt,adH,adu];lia,(cR rfl e).trans e2⟩
def Na(e:h[i]? =some (.lst xs))(j:Int)(a:PN xs j=some v)(dv:aj h v=v):f9 (.ref i) (.int j) h=.ok v h:=by
 have d:R_ h (.ref i)=none:=by unfold R_;dsimp only;rw[e]
 have b:Tt h (.ref i)=some xs:=by unfold Tt S9;dsimp only;rw[e]
 unfold f9;dsimp only;rw[d];dsimp only;rw[b];dsimp only;rw[a];dsimp only;rw[dv]
def Nb(e:h[i]? =some (.dct d))(s:Y1)(a:bj d (.inr s)=some v)(dv:aj h v=v):f9 (.ref i) (.str s) h=.ok v h:=by
 have b:R_ h (.ref i)=some d:=by unfold R_;dsimp only;rw[e]
 unfold f9;dsimp only;rw[b];show(match bj d (.inr s)with|some v=>Res.ok (aj _ v) _|none=>.bad)=_;rw[a];dsimp only;rw[dv]
def KV(e:h[i]? =some (.dct d)):aj h (.ref i)=.ref i:=by unfold aj;dsimp only;rw[e]
def Gu(n j:Nat)(hj:j<n):(rws n)[j]? =some (.ref (3+2 * j)):=by unfold rws;rw[adZ,adx (by rw[adY];exact hj),aeW];rfl
def Zb(T:List Y2):Prop:=∀t∈T,Yt t/\t.length<=100
theorem yc(k:Nat)(o:PO)(n:Int)(x1 Tj:Option PV)(th wr:PV)(hp:∀h,aj h th=th)(wp:∀h,aj h wr=wr)(vw:VV 3 wr)(vt:VV 3 (.dct [(.inr [116],.bl true),(.inr [120],th)]))(cost near:Int)(hc:cost=2\/cost=3):∀(c:Nat)(T:List Y2)(x8 x9 P_ Qh:Option PV)(many:Int),T.length+c<=45->Zb T->∃(T':List Y2)(Vo:Int)(y8 y9 Rx Ti:Option PV),Zb T'/\T'.length=T.length+c/\bf (z7 8) (gc (F k)) (Uo T.length c) [some (.int n),x1,some th,some (.int cost),some wr,some (.int near),some (.ref 1),some (.int many),x8,x9,P_,Qh,Tj] (GT o T [])=.nx [some (.int n),x1,some th,some (.int cost),some wr,some (.int near),some (.ref 1),some (.int Vo),y8,y9,Rx,Ti,Tj] (GT o T' [])
 |0,T,x8,x9,P_,Qh,many,hl,ho=>⟨T,many,x8,x9,P_,Qh,ho,rfl,rfl⟩
 |c+1,T,x8,x9,P_,Qh,many,hl,ho=>by
  have dr:=oB (uR o T []);have il:=uP (uR o T []);have nw:=Ih o T;have pt:=Ig o T ⋯;have dr2:=oB (uR o (T++ [[]]) []);have T1:(T++ [[]]).length=T.length+1:=by simp
  have g3:(GT o (T++ [[]]) [])[3+2 * T.length]? =_:=Kv o T [];have ix1:f9 (.ref 1) (.int (0+(T.length:Nat))) (GT o (T++ [[]]) [])=.ok (.ref (3+2 * T.length)) (GT o (T++ [[]]) []):=Na (uR o (T++ [[]]) []) _ (eG ⋯ (by rw[show(0+((T.length:Nat):Int)).toNat=T.length by lia];exact Gu _ _ ⋯)) (KV g3);have ix2:f9 (.ref (3+2 * T.length)) (.str [102]) (GT o (T++ [[]]) [])=.ok (.ref (2+2 * T.length)) (GT o (T++ [[]]) []):=Nb g3 [102] rfl (oB (yb o T []))
  obtain⟨q,q0,q1,qe⟩:∃q:Int,0<=q/\q<=23/\∀h,f9 (.lst [.int 23,.int 15]) (.int (cost - 2)) h=.ok (.int q) h:=by
   rcases hc with rfl|rfl
   .exact⟨23,by decide,by decide,fun _=>rfl⟩
   .exact⟨15,by decide,by decide,fun _=>rfl⟩
  have e4:=aY (0+(T.length:Int)+n) (m:=4) ⋯;have be:QW 4611686018427387904 (q+(0+(T.length:Int)+n) % 4)=true:=bD.mpr ⋯;obtain⟨js,hjs,jl⟩:∃js:Y2,(List.range (q+(0+(T.length:Int)+n) % 4).toNat).map (fun i:Nat=>PV.int (0+(i:Nat)))=js/\js.length<=100:=⟨_,rfl,by rw[adJ,adY];lia⟩
  obtain⟨ts,m1,Rx,Ti,o1,l1,e1⟩:=yd k o T (some (.int n)) x1 (some (.ref 1)) (some (.int (0+(T.length:Nat)))) Tj th wr hp wp vw vt cost near js [] P_ Qh (many+2) (fun z hz=>nomatch hz) (by rw[adQ];lia)
  obtain⟨T',m',z8,z9,YZ,YX,o2,l2,e2⟩:=yc k o n x1 Tj th wr hp wp vw vt cost near hc c (T++ [ts]) (some (.int (0+(T.length:Nat)))) (some (.ref (2+2 * T.length))) Rx Ti m1 (by rw[adt,adH];lia) (fun t ht=>by
   rcases adS.mp ht with w|w
   .exact ho t w
   .rw[adw]at w;rw[w];exact⟨o1,by rw[l1,adQ];lia⟩)
  refine⟨T',m',z8,z9,YZ,YX,o2,by rw[l2,adt,adH];lia,?_⟩;rw[<- e2,pL,adt,adH];refine cR rfl ?_;generalize hA:GT o T []=A at*;generalize hN:GT o T [.lst [],.dct [(.inr [102],.ref (2+2 * T.length))]]=N at*;simp[EV,gc,dr,il,nw,pt,dr2,ix1,ix2,qe,be,hjs,e1]
section
variable(n m:Int)(T:List Y2)
theorem Ky(o x:PO):(GT o T [x])[2+2 * T.length]? =some x:=by show(o::.lst (rws T.length)::(prs 2 T++ [x]))[2+2 * T.length]? =_;rw[show 2+2 * T.length=2 * T.length+1+1 by lia,ad0,ad0,adL (by rw[eR];lia),eR,aee];rfl
theorem Kw(o x y:PO):(GT o T [x]).set (2+2 * T.length) y=GT o T [y]:=by unfold GT;rw[show 2+2 * T.length=2 * T.length+1+1 by lia,aec,aec,adW _ _ (by rw[eR];lia),eR,aee];rfl
theorem Kx(o x:PO):GT o T []++[x]=GT o T [x]:=by unfold GT;simp
noncomputable def vW(t:Y2):PV:=.dct [(.inr [102],.lst t)]
variable(o:PO)(e:Y3)(ho:Zb T)
include ho
theorem KC(j:Nat)(hj:j<T.length)(k:Nat)(hk:5<=k):aJ (GT o T e) k (.ref (2+2 * j))=some (.lst T[j]):=by
 obtain⟨i,rfl⟩:∃i,k=i+1:=⟨k - 1,by lia⟩
 rw[aJ];simp only[Ii o T e j hj,iq fun x hx=>gh (GT o T e) ((ho _ (aeh hj)).1 x hx) (show 3+1<=i by lia)];rfl
theorem Np(j:Nat)(hj:j<T.length)(k:Nat)(hk:6<=k):aJ (GT o T e) k (.ref (3+2 * j))=some (vW T[j]):=by
 obtain⟨i,rfl⟩:∃i,k=i+1:=⟨k - 1,by lia⟩
 rw[aJ];simp only[Ij o T e j hj,eh,KC T o e ho j hj i ⋯];rfl
theorem KA(k:Nat)(hk:6<=k):cQ (aJ (GT o T e) k) (rws T.length)=some (T.map vW):=by
 unfold rws
 rw[qc (t:=fun j=>vW (T.getD j [])) _ fun j hj=>by have hj:=ad3.mp hj;show aJ _ k (.ref (3+2 * j))=_;rw[Np T o e ho j hj k hk,adM,adx hj];rfl]
 congr 1
 refine ahL (by simp) fun i h1 h2=>?_;rw[adJ]at h2;simp only[ahJ,aeW,adM,adx h2,afA]
theorem Nq(k:Nat)(hk:7<=k):aJ (GT o T e) k (.ref 1)=some (.lst (T.map vW)):=by
 obtain⟨i,rfl⟩:∃i,k=i+1:=⟨k - 1,by lia⟩
 rw[aJ];simp only[uR o T e,KA T o e ho i ⋯];rfl
theorem zI(hm:eh (aJ (GT (j9 n m) T [.dct d]) 99) d=some q):∃hz,iC (GT (j9 n m) T [.dct d])=some hz/\hz[2+2 * T.length]? =some (.s8 (.dct q)):=by
 have c1:qV (GT (j9 n m) T [.dct d]) (2+2 * T.length)=some (.s8 (.dct q)):=uV (Ky T _ _) hm;refine BS (fun i hi=>?_) (by rw[tq];simp) c1;rw[tq,adH]at hi
 rcases(show i=0\/i=1\/i=2+2 * T.length\/(∃j,j<T.length/\i=2+2 * j)\/∃j,j<T.length/\i=3+2 * j from by
  by_cases a:i=0
  .exact .inl a
  .by_cases b:i=1
   .exact .inr (.inl b)
   .by_cases c:i=2+2 * T.length
    .exact .inr (.inr (.inl c))
    .by_cases p:i % 2=0
     .exact .inr (.inr (.inr (.inl ⟨(i - 2) / 2,by lia,by lia⟩)))
     .exact .inr (.inr (.inr (.inr ⟨(i - 3) / 2,by lia,by lia⟩))))with rfl|rfl|rfl|⟨j,hj,rfl⟩|⟨j,hj,rfl⟩
 .exact⟨_,uU (show(GT (j9 n m) T [.dct d])[0]? =some (.lst [.int n,.int m])from rfl) (iq fun x hx=>by
   rcases adD.mp hx with rfl|hx
   .rfl
   .rw[adw]at hx;subst hx;rfl)⟩
 .exact⟨_,uU (uR _ T _) (KA T _ _ ho 99 ⋯)⟩
 .exact⟨_,c1⟩
 .exact⟨_,uU (Ii _ T _ j hj) (iq fun x hx=>gh _ ((ho _ (aeh hj)).1 x hx) ⋯)⟩
 .exact⟨_,uV (Ij _ T _ j hj) (show eh _ [(.inr [102],.ref (2+2 * j))]=some [(.inr [102],.lst T[j])] by simp only[eh,KC T _ _ ho j hj 99 ⋯])⟩
theorem wJ(nk:Nk [[99]] 25 1000 l)(hl:T.length<=50):Yo l (GT (j9 n m) T [.dct [(.inr [99],.ref 1)]]) (2+2 * T.length):=by
 have vr:VV 6 (.lst (T.map vW)):=.lst 5 _ (fun x hx=>by obtain⟨t,ht,rfl⟩:=adT.mp hx;have o:=ho t ht;exact .dct 4 _ (fun y hy=>by rw[adw]at hy;rw[hy];exact .lst 3 t o.1 ⋯) (by simp) (by simp) (fun y hy=>by rw[adw]at hy;rw[hy];rfl)) (by rw[adJ];lia)
 have D:DO 6 1 [(.inr [99],.lst (T.map vW))]:=⟨fun y hy=>by rw[adw]at hy;rw[hy];exact vr,by simp,fun y hy=>by rw[adw]at hy;rw[hy];rfl,by simp⟩
 have m1:∀d,eh (aJ (GT (j9 n m) T [.dct d]) 99) [(.inr [99],.ref 1)]=some [(.inr [99],.lst (T.map vW))]:=fun d=>by simp only[eh,Nq T _ _ ho 99 ⋯]
 have fin:∀(d' sc:List (PK×PV)),DO 6 12 sc->(bj sc (.inr [99])).isSome->eh (aJ (GT (j9 n m) T [.dct d']) 99) d'=some sc->∃(B:Ya)(nn:Nat)(sc:List (PK×PV))(hz:Y3),vG l B nn sc/\iC ((GT (j9 n m) T [.dct [(.inr [99],.ref 1)]]).set (2+2 * T.length) (.dct d'))=some hz/\hz[2+2 * T.length]? =some (.s8 (.dct sc)):=fun d' sc D hb hm=>by obtain⟨hz,f1,f2⟩:=zI n m T ho hm;rw[Kw];exact⟨[[99]],6,sc,hz,ye nk D.v ⋯ D.nd D.kr (adR D.ln ⋯) (fun a ha=>by rw[adw]at ha;rw[ha];exact hb),f1,f2⟩
 refine⟨[(.inr [99],.ref 1)],Ky T _ _,by simp,fun d' Vt=>?_⟩;rcases Vt with rfl|rfl
 .exact fin _ _ (D.mono (adA _) ⋯) rfl (m1 _)
 .exact fin _ _ ((D.put mr (sR.mono ⋯)).mono (adA _) ⋯) (cG (.inr rfl)) (jL (gh _ sR ⋯) _ (m1 _))
end
def mn{d e c:Nat}{x:Nd}(h:U7 B d x)(k:d<=e)(t:tN List.length x=0)(c1:1<=c):Nk B e c [x]:=⟨fun n hn=>by rw[adw]at hn;rw[hn];exact h.mono k,by rw[tS,tS,t];lia,by simpa using c1⟩
def zV(th:PV)(vt:VV 1 th)(w:Int):∃wr,VV 3 wr/\(∀h,aj h wr=wr)/\∀(ρ:Ev)(h:Y3)(I:Ex),I ρ h=.ok (.int (w % 3)) h->af 2 ρ h=.ok th h->c2 f9 (cN bn aak) I ρ h=.ok wr h:=by
 have vd:∀(a b:PV),VV 1 a->VV 1 b->VV 3 (.dct [(.inr [116],a),(.inr [120],b)]):=fun a b va vb=>.dct 2 _ (fun x hx=>by
  rcases adD.mp hx with rfl|hx
  .exact va.mono ⋯
  .rw[adw]at hx;rw[hx];exact vb.mono ⋯) (by simp) (by simp) (fun x hx=>by
  rcases adD.mp hx with rfl|hx
  .rfl
  .rw[adw]at hx;rw[hx];rfl)
 have v1:VV 3 (.dct [(.inr [116],.bl true)]):=.dct 2 _ (fun x hx=>by rw[adw]at hx;rw[hx];exact .bl 2 true) (by simp) (by simp) (fun x hx=>by rw[adw]at hx;rw[hx];rfl);have d1:∀(ρ:Ev)(h:Y3),eQ [(aaT,abg)] ρ h=.ok (.dct [(.inr [116],.bl true)]) h:=fun _ _=>rfl;have d2:∀(ρ:Ev)(h:Y3),eQ [(aaT,abg),(aaS,abn)] ρ h=.ok (.dct [(.inr [116],.bl true),(.inr [120],.lst [])]) h:=fun _ _=>rfl
 have d3:∀(ρ:Ev)(h:Y3),af 2 ρ h=.ok th h->eQ [(aaT,aad),(aaS,(af 2))] ρ h=.ok (.dct [(.inr [116],.int 1),(.inr [120],th)]) h:=fun ρ h e=>by simp only[eQ,jr,Iw,e,Res.M_,iM];rfl
 have lk:∀(ρ:Ev)(h:Y3),af 2 ρ h=.ok th h->cN bn aak ρ h=.ok (.lst [.dct [(.inr [116],.bl true)],.dct [(.inr [116],.bl true),(.inr [120],.lst [])],.dct [(.inr [116],.int 1),(.inr [120],th)]]) h:=fun ρ h e=>by have e3:=d3 ρ h e;simp only[Fo,Ef,Iv,d1,d2,e3,JY,Ht,xV];rfl
 have q:=aY w (m:=3) ⋯;rcases(show w % 3=0\/w % 3=1\/w % 3=2 by lia)with q|q|q
 .refine⟨_,v1,fun _=>rfl,fun ρ h I i e=>?_⟩;rw[Bw,lk ρ h e,By,i,q,xV];rfl
 .refine⟨_,vd (.bl true) (.lst []) (.bl 1 true) (.lst 0 [] (fun x hx=>nomatch hx) ⋯),fun _=>rfl,fun ρ h I i e=>?_⟩;rw[Bw,lk ρ h e,By,i,q,xV];rfl
 .refine⟨_,vd (.int 1) th (.int 1 1) vt,fun _=>rfl,fun ρ h I i e=>?_⟩;rw[Bw,lk ρ h e,By,i,q,xV];rfl
def zH(w:Int):∃(l:List Nd)(j:Nat)(h:Y3),X_ 99 .Rr [.int w] [j9 0 24]=.ok (.tup [.tup (b_ l),.ref j]) h/\Yo l h j:=by
 have q3:=aY (w / 5) (m:=3) ⋯
 obtain⟨wy,hw,we⟩:∃u,u<5/\∀h,f9 (.lst [.str [119,111,114,100],.str [112,108,97,105,110],.str [110,117,109,98,101,114]]) (.int (w / 5 % 3)) h=.ok (.str (dE u)) h:=by
  rcases(show w / 5 % 3=0\/w / 5 % 3=1\/w / 5 % 3=2 by lia)with q|q|q<;>rw[q]
  .exact⟨0,by decide,fun _=>rfl⟩
  .exact⟨3,by decide,fun _=>rfl⟩
  .exact⟨1,by decide,fun _=>rfl⟩
 have lt2:∀h,U8 (.int (w / 5 % 3)) (.int 2) h=.ok (.bl (decide (w / 5 % 3<2))) h:=fun _=>rfl
 obtain⟨th,vt,hp,te⟩:∃th,VV 1 th/\(∀h,aj h th=th)/\∀h,f9 (.lst [.int 7,.str [120]]) (.int (if decide (w / 5 % 3<2)=true then 1 else 0)) h=.ok th h:=by
  cases decide (w / 5 % 3<2)with
  |true=>exact⟨.str [120],.str 1 _ ⋯ ⋯,fun _=>rfl,fun _=>rfl⟩
  |false=>exact⟨.int 7,.int 1 7,fun _=>rfl,fun _=>rfl⟩
 have vt2:VV 3 (.dct [(.inr [116],.bl true),(.inr [120],th)]):=.dct 2 _ (fun x hx=>by
  rcases adD.mp hx with rfl|hx
  .exact .bl 2 true
  .rw[adw]at hx;rw[hx];exact vt.mono ⋯) (by simp) (by simp) (fun x hx=>by
  rcases adD.mp hx with rfl|hx
  .rfl
  .rw[adw]at hx;rw[hx];rfl)
 obtain⟨wr,vw,wp,wre⟩:=zV th vt (w / 2160);have pn:PV.tup [.str [112,108,97,99,101],.tup [.str [98],.str [120]],.str (dE wy)]=nd (.place [98] [[120]] wy):=by rw[nd];rfl
 have cn:∀P,PV.tup [.str [99,104,111,105,99,101],.tup [.str [98],.str [116]],.tup [nd P],.tup []]=nd (.choice [98] [[116]] [P] []):=fun P=>by rw[nd,b_,b_];rfl
 have ok1:∀s∈ [[120]],H_ s=true:=by decide
 have ok2:∀s∈ [[116]],H_ s=true:=by decide
 have kp:=fun d=>uI (B:=[[98],[97],[99]]) (w:=wy) d (a:=[98]) ⋯ ⋯ ok1 ⋯ hw
 obtain⟨N,kN,tN0,st4⟩:∃N,U7 [[98],[97],[99]] 1 N/\tN List.length N=0/\∀(x0 x2 x4 x5 x6 x7 x8 x9 P_ Qh Tj:Option PV)(h:Y3),G4 adi abj bv [x0,some (nd (.place [98] [[120]] wy)),x2,some (.int (2+w / 30 % 2)),x4,x5,x6,x7,x8,x9,P_,Qh,Tj] h=.nx [x0,some (nd N),x2,some (.int (2+w / 30 % 2)),x4,x5,x6,x7,x8,x9,P_,Qh,Tj] h:=by
  by_cases q:2+w / 30 % 2=3
  .refine⟨_,nu (mn (c:=1) (kp 0) (adA _) rfl (adA _)) (Nk.nil _ 0 1) ⋯ (a:=[98]) (f:=[[116]]) ⋯ ⋯ ok2 ⋯,rfl,fun x0 x2 x4 x5 x6 x7 x8 x9 P_ Qh Tj h=>?_⟩;simp[EV,bX,q,bc,cn]
  .refine⟨_,(kp 0).mono ⋯,rfl,fun x0 x2 x4 x5 x6 x7 x8 x9 P_ Qh Tj h=>?_⟩;simp[EV,bX,q]
 have q2:=aY (w / 15) (m:=2) ⋯
 obtain⟨sp,sc,sl,se⟩:∃s:Y1,Rz s/\s.length<=100/\∀h,f9 (.lst [.str [],.str [44,32]]) (.int (w / 15 % 2)) h=.ok (.str s) h:=by
  rcases(show w / 15 % 2=0\/w / 15 % 2=1 by lia)with q|q<;>rw[q]
  .exact⟨[],fun c hc=>(nomatch hc),by decide,fun _=>rfl⟩
  .exact⟨[44,32],by decide,by decide,fun _=>rfl⟩
 have ok3:∀s∈ [[102]],H_ s=true:=by decide
 have k1:U7 [[97],[99]] 2 (.loop [98] [97] [[102]] [N] sp):=sV (mn (c:=1) kN (adA _) tN0 (adA _)) ⋯ ⋯ ⋯ ⋯ ok3 ⋯ sc sl;have k2:U7 [[99]] 3 (.loop [97] [99] [] [.loop [98] [97] [[102]] [N] sp] [10]):=sV (mn (c:=1) k1 (adA _) rfl (adA _)) ⋯ ⋯ ⋯ ⋯ (fun s hs=>nomatch hs) ⋯ ⋯ ⋯;have n12:PV.tup [.str [108,111,111,112],.str [98],.tup [.str [97],.str [102]],.tup [nd N],.str sp]=nd (.loop [98] [97] [[102]] [N] sp):=by rw[nd,b_,b_];rfl
 have nl:PV.tup [.tup [.str [108,111,111,112],.str [97],.tup [.str [99]],.tup [nd (.loop [98] [97] [[102]] [N] sp)],.str [10]]]=.tup (b_ [.loop [97] [99] [] [.loop [98] [97] [[102]] [N] sp] [10]]):=by
  have:nd (.loop [97] [99] [] [.loop [98] [97] [[102]] [N] sp] [10])=.tup [.str [108,111,111,112],.str [97],.tup [.str [99]],.tup [nd (.loop [98] [97] [[102]] [N] sp)],.str [10]]:=by rw[nd,b_,b_];rfl
  rw[b_,b_,this]
 have q5:=aY w (m:=5) ⋯;have be:QW 4611686018427387904 (36+w % 5)=true:=bD.mpr ⋯;have hc:2+w / 30 % 2=2\/2+w / 30 % 2=3:=by lia
 have mc:jg 1000 (if decide (w / 720 % 3=0)=true then 1 else 0)=true:=sX ⋯;obtain⟨near,hn⟩:∃near:Int,1990+w / 60 % 12+1000 * (if decide (w / 720 % 3=0)=true then 1 else 0)=near:=⟨_,rfl⟩
 obtain⟨T,m',y8,y9,Rx,Ti,oT,lT,lp⟩:=yc 98 (j9 0 24) w (some (nd N)) none th wr hp wp vw vt2 (2+w / 30 % 2) near hc (36+w % 5).toNat [] none none none none 1 (by rw[adQ];lia) (fun t ht=>nomatch ht);rw[adQ]at lp lT;refine⟨[.loop [97] [99] [] [.loop [98] [97] [[102]] [N] sp] [10]],2+2 * T.length,GT (j9 0 24) T [.dct [(.inr [99],.ref 1)]],?_,wJ 0 24 T oT (mn k2 ⋯ rfl ⋯) ⋯⟩;show bo (iE (F 98)) 1 13 [.int w] [j9 0 24]=_;have e1:aA 1 aau [some (.int w),none,none,none,none,none,none,none,none,none,none,none,none] [j9 0 24]=.nx [some (.int w),some (nd (.place [98] [[120]] wy)),none,none,none,none,none,none,none,none,none,none,none] [j9 0 24]:=dB (by simp[EV,we,pn]);have ib:∀(x:Bool) h,jd [.bl x] h=.ok (.int (if x=true then 1 else 0)) h:=fun x _=>rfl;have e2:aA 2 abe [some (.int w),some (nd (.place [98] [[120]] wy)),none,none,none,none,none,none,none,none,none,none,none] [j9 0 24]=.nx [some (.int w),some (nd (.place [98] [[120]] wy)),some th,none,none,none,none,none,none,none,none,none,none] [j9 0 24]:=dB (by simp[EV,lt2,ib,te])
 have e3:aA 3 abR [some (.int w),some (nd (.place [98] [[120]] wy)),some th,none,none,none,none,none,none,none,none,none,none] [j9 0 24]=.nx [some (.int w),some (nd (.place [98] [[120]] wy)),some th,some (.int (2+w / 30 % 2)),none,none,none,none,none,none,none,none,none] [j9 0 24]:=dB (by simp[EV,if_true]);have e5:=dB (i:=4) (wre [some (.int w),some (nd N),some th,some (.int (2+w / 30 % 2)),none,none,none,none,none,none,none,none,none] [j9 0 24] ab8 (by simp[EV,if_true]) (congrArg (fun p=>Res.ok p [j9 0 24]) (hp [j9 0 24])))
 have e6:aA 5 aaG [some (.int w),some (nd N),some th,some (.int (2+w / 30 % 2)),some wr,none,none,none,none,none,none,none,none] [j9 0 24]=.nx [some (.int w),some (nd N),some th,some (.int (2+w / 30 % 2)),some wr,some (.int near),none,none,none,none,none,none,none] [j9 0 24]:=dB (by simp[EV,bX,ib,mc,hn])
 have e7:aA 6 aaV [some (.int w),some (nd N),some th,some (.int (2+w / 30 % 2)),some wr,some (.int near),none,none,none,none,none,none,none] [j9 0 24]=.nx [some (.int w),some (nd N),some th,some (.int (2+w / 30 % 2)),some wr,some (.int near),some (.ref 1),none,none,none,none,none,none] (GT (j9 0 24) [] []):=rfl;have e8:aA 7 aad [some (.int w),some (nd N),some th,some (.int (2+w / 30 % 2)),some wr,some (.int near),some (.ref 1),none,none,none,none,none,none] (GT (j9 0 24) [] [])=.nx [some (.int w),some (nd N),some th,some (.int (2+w / 30 % 2)),some wr,some (.int near),some (.ref 1),some (.int 1),none,none,none,none,none] (GT (j9 0 24) [] []):=rfl
 have e9:fS abQ (z7 8) (gc (F 98)) [some (.int w),some (nd N),some th,some (.int (2+w / 30 % 2)),some wr,some (.int near),some (.ref 1),some (.int 1),none,none,none,none,none] (GT (j9 0 24) [] [])=.nx [some (.int w),some (nd N),some th,some (.int (2+w / 30 % 2)),some wr,some (.int near),some (.ref 1),some (.int m'),y8,y9,Rx,Ti,none] (GT (j9 0 24) T []):=by simp[EV,be,AD,lp]
 have Yd:aA 12 aax [some (.int w),some (nd N),some th,some (.int (2+w / 30 % 2)),some wr,some (.int near),some (.ref 1),some (.int m'),y8,y9,Rx,Ti,none] (GT (j9 0 24) T [])=.nx [some (.int w),some (nd N),some th,some (.int (2+w / 30 % 2)),some wr,some (.int near),some (.ref 1),some (.int m'),y8,y9,Rx,Ti,some (nd (.loop [98] [97] [[102]] [N] sp))] (GT (j9 0 24) T []):=dB (by generalize GT (j9 0 24) T []=H;simp[EV,bc,se,n12])
 have dl:∀ ρ,af 6 ρ (GT (j9 0 24) T [])=.ok (.ref 1) (GT (j9 0 24) T [])->gF [(acH,(af 6))] ρ (GT (j9 0 24) T [])=.ok (.ref (2+2 * T.length)) (GT (j9 0 24) T [.dct [(.inr [99],.ref 1)]]):=fun ρ e=>by
  have l0:(GT (j9 0 24) T []).length=2+2 * T.length:=by rw[tq];rfl
  rw[<- Kx,<- l0];simp only[gF,jr,Iw,e,Res.M_,iM];rfl
 have dl:=dl [some (.int w),some (nd N),some th,some (.int (2+w / 30 % 2)),some wr,some (.int near),some (.ref 1),some (.int m'),y8,y9,Rx,Ti,some (nd (.loop [98] [97] [[102]] [N] sp))] (congrArg (fun p=>Res.ok p (GT (j9 0 24) T [])) (oB (uR _ T [])))
 have e11:aay [some (.int w),some (nd N),some th,some (.int (2+w / 30 % 2)),some wr,some (.int near),some (.ref 1),some (.int m'),y8,y9,Rx,Ti,some (nd (.loop [98] [97] [[102]] [N] sp))] (GT (j9 0 24) T [])=.rt (.tup [.tup (b_ [.loop [97] [99] [] [.loop [98] [97] [[102]] [N] sp] [10]]),.ref (2+2 * T.length)]) (GT (j9 0 24) T [.dct [(.inr [99],.ref 1)]]):=by rw[<- nl];generalize GT (j9 0 24) T []=H at*;simp[EV,bc,dl]
 have bd:iE (F 98) [some (.int w),none,none,none,none,none,none,none,none,none,none,none,none] [j9 0 24]=.rt (.tup [.tup (b_ [.loop [97] [99] [] [.loop [98] [97] [[102]] [N] sp] [10]]),.ref (2+2 * T.length)]) (GT (j9 0 24) T [.dct [(.inr [99],.ref 1)]]):=by unfold iE;rw[sq e1,sq e2,sq e3,sq (st4 ..),sq e5];simp only[aeV,aec];rw[sq e6,sq e7,sq e8,sq e9,sq Yd];exact e11
 unfold bo;refine(if_pos rfl).trans ?_;show(match iE (F 98) [some (.int w),none,none,none,none,none,none,none,none,none,none,none,none] [j9 0 24]with|.nx _ h1=>Res.ok PV.non h1|.rt v h1=>.ok v h1|.exc e h1=>.exc e h1|_=>.bad)=_;rw[bd]
noncomputable def gv(ns:List Int):PV:=.Uh (ns.map PV.int)
theorem Eo(cs:List Int):(gv cs).pure=true:=by
 unfold gv;rw[PV.pure]
 induction cs with
 |nil=>rfl
 |cons a r ih=>rw[adE,aq,ih];rfl
theorem uQ(cs:List Int)(h:Y3):aj h (gv cs)=gv cs:=rfl
def zR(k:Nat)(ns:List Int)(j:Nat):F (k+1) .J4 [gv ns,.int (j:Int)]=.ok (.int (ns.getD j 0)):=by
 have r2:F (k+1) .J4 [gv ns,.int (j:Int)]=match iz (F k) [some (gv ns),some (.int (j:Int))] []with
   |.nx _ _=>.ok .non
   |.rt v h=>aT v h
   |_=>.bad:=rfl
 have ln:∀h,gB [gv ns] h=.ok (.int ns.length) h:=fun h=>by unfold gv;rw[JK,adJ]
 rw[r2]
 by_cases c:j<ns.length
 .have d1:decide ((j:Int)<(ns.length:Int))=true:=decide_eq_true ⋯
  have ix:∀h,f9 (gv ns) (.int (j:Int)) h=.ok (.int (ns.getD j 0)) h:=fun h=>by unfold gv;show(match PN (ns.map PV.int) (j:Int)with|some v=>Res.ok (aj h v) h|none=>Res.bad)=_;rw[eG (v:=PV.int (ns.getD j 0)) ⋯ (by rw[aeR,adZ,adM,adx c];rfl)];rfl
  simp[EV,iz,uQ,ln,d1,ix];rfl
 .have d1:decide ((j:Int)<(ns.length:Int))=false:=decide_eq_false ⋯;have e:ns.getD j 0=0:=by rw[adM,aeK ⋯];rfl
  simp[EV,iz,uQ,ln,d1,e];rfl
def og(k:Nat)(ns:List Int)(i:Int)(hi:0<=i):∃v:Int,∀h,aX (F (k+1) .J4) [gv ns,.int i] h=.ok (.int v) h:=by have e:=zR k ns i.toNat;rw[ag6 hi]at e;exact⟨_,fun h=>aL h (by rw[aq,Eo];rfl) e⟩
def Ic(ns:List Int)(h:Y3):pT (gv ns) (some 2) (some 34) h=.ok (cv (cut ns (some 2) (some 34))) h:=by
 have e:cut (ns.map PV.int) (some 2) (some 34)=(cut ns (some 2) (some 34)).map PV.int:=by unfold cut;rw[adJ,List.map_take,List.map_drop]
 show Res.ok (PV.lst (cut (ns.map PV.int) (some 2) (some 34))) h=_;rw[e];rfl
theorem KN(h:Y3):aT (.bl true) h=.ok (.bl true):=rfl
def Br(ns:List Int)(hn:ns.length<=63):F 100 .law [.Uh (ns.map PV.int)]=.ok (.bl true):=by
 obtain⟨cs,Xd,hc⟩:∃cs:List Int,(∀h,pT (gv ns) (some 2) (some 34) h=.ok (cv cs) h)/\cs.length<=63:=⟨_,Ic ns,adR (jq ns _ _) hn⟩
 obtain⟨v,ve⟩:=og 98 ns 1 ⋯;obtain⟨w,we⟩:=og 98 ns 0 ⋯;have e1:aA 1 ace [some (gv ns),none,none,none,none,none,none,none,none,none,none,none,none] []=.nx [some (gv ns),some (cv cs),none,none,none,none,none,none,none,none,none,none,none] []:=dB (by simp[EV,uQ,Xd]);have e2:aA 2 acW [some (gv ns),some (cv cs),none,none,none,none,none,none,none,none,none,none,none] []=.nx [some (gv ns),some (cv cs),some (.ref 0),none,none,none,none,none,none,none,none,none,none] [j9 0 24]:=rfl;have e3:aA 3 (aI (F 99 .J4) (aa (af 0) aci)) [some (gv ns),some (cv cs),some (.ref 0),none,none,none,none,none,none,none,none,none,none] [j9 0 24]=.nx [some (gv ns),some (cv cs),some (.ref 0),some (.int v),none,none,none,none,none,none,none,none,none] [j9 0 24]:=dB (by simp[EV,uQ,ve])
 obtain⟨l,j,h,x6,R,e4⟩:∃(l:List Nd)(j:Nat)(h:Y3)(x6:Option PV),Yo l h j/\G4 abk (pK aaZ (cB (X_ 99 .Rr) aco)) (au (pK abD (bx (L 99 .Qq) (aa (af 1) (aa (af 2) (aa (aI (F 99 .J4) ab7) abr)))))
   (aA 5 (cB (X_ 99 .O1) aaE))) [some (gv ns),some (cv cs),some (.ref 0),some (.int v),none,none,none,none,none,none,none,none,none] [j9 0 24]=.nx [some (gv ns),some (cv cs),some (.ref 0),some (.int v),some (.tup (b_ l)),some (.ref j),x6,none,none,none,none,none,none] h:=by
  by_cases q:v % 16=5
  .obtain⟨l,j,h,e,R⟩:=zH (v / 16);have dt:∀h',aj h' (.tup [.tup (b_ l),.ref j])=.tup [.tup (b_ l),.ref j]:=fun _=>rfl;refine⟨l,j,h,none,R,?_⟩;simp[EV,bX,q,e,dt]
  .have gt:∀h,Tp (.int (v % 3)) (.int 0) h=.ok (.bl (decide (0<v % 3))) h:=fun _=>rfl;obtain⟨l,ls,n1,h,e,e5,R⟩:=BU cs hc w (decide (0<v % 3)) (decide (v / 6 % 2=1));have np:(PV.tup (b_ l)).pure=true:=by rw[PV.pure];exact bB l
   have lp:(PV.lst (ls.map PV.str)).pure=true:=by rw[PV.pure];exact bz ls
   have e:z6 (L 99 .Qq) [cv cs,.ref 0,.int w,.bl (decide (0<v % 3))] [j9 0 24]=.ok (.tup [.tup (b_ l),.lst (ls.map PV.str)]) [j9 n1 24]:=dn (fn:=L 99 .Qq) [cv cs] [.int w,.bl (decide (0<v % 3))] (by rw[aq,gO];rfl) rfl rfl (bR _ _) e (by rw[PV.pure,aq,np,aq,lp];rfl) (bR _ _);have d0:∀n,aj [j9 n 24] (.ref 0)=.ref 0:=fun _=>rfl;have dt:∀h',aj h' (.tup [.tup (b_ l),.lst (ls.map PV.str)])=.tup [.tup (b_ l),.lst (ls.map PV.str)]:=fun _=>rfl;refine⟨l,1,h,some (.lst (ls.map PV.str)),R,?_⟩
   have s1:pK abD (bx (L 99 .Qq) (aa (af 1) (aa (af 2) (aa (aI (F 99 .J4) ab7) abr)))) [some (gv ns),some (cv cs),some (.ref 0),some (.int v),none,none,none,none,none,none,none,none,none] [j9 0 24]=.nx [some (gv ns),some (cv cs),some (.ref 0),some (.int v),some (.tup (b_ l)),none,some (.lst (ls.map PV.str)),none,none,none,none,none,none] [j9 n1 24]:=by simp[EV,uQ,eN,d0,we,gt,e,dt]
   have s2:aA 5 (cB (X_ 99 .O1) aaE) [some (gv ns),some (cv cs),some (.ref 0),some (.int v),some (.tup (b_ l)),none,some (.lst (ls.map PV.str)),none,none,none,none,none,none] [j9 n1 24]=.nx [some (gv ns),some (cv cs),some (.ref 0),some (.int v),some (.tup (b_ l)),some (.ref 1),some (.lst (ls.map PV.str)),none,none,none,none,none,none] h:=dB (by simp[EV,eN,d0,ak _ lp,bX,e5])
   have t:∀f g:Sx,G4 abk f g [some (gv ns),some (cv cs),some (.ref 0),some (.int v),none,none,none,none,none,none,none,none,none] [j9 0 24]=g [some (gv ns),some (cv cs),some (.ref 0),some (.int v),none,none,none,none,none,none,none,none,none] [j9 0 24]:=fun f g=>by simp[EV,bX,q]
   rw[t,sq s1];exact s2
 obtain⟨h',B,nn,sc,hz,g,f1,f2,e5⟩:=DY R v (some (gv ns)) (some (cv cs)) (some (.ref 0)) (some (.tup (b_ l))) x6 none none none none none none;obtain⟨h2,e6⟩:=Bs g (some (gv ns)) (some (cv cs)) (some (.ref 0)) (some (.int v)) x6 none none none none none none j h' hz f1 f2
 have bd:vA (F 99) (L 99) (X_ 99) [some (gv ns),none,none,none,none,none,none,none,none,none,none,none,none] []=.rt (.bl true) h2:=by unfold vA;rw[sq e1,sq e2,sq e3,sq e4,sq e5];exact e6
 show ar (vA (F 99) (L 99) (X_ 99)) 1 13 [gv ns]=_;unfold ar;refine(if_pos rfl).trans ?_;show(match vA (F 99) (L 99) (X_ 99) [some (gv ns),none,none,none,none,none,none,none,none,none,none,none,none] []with|.nx _ _=>Out.ok PV.non|.rt v h=>aT v h|_=>.bad)=_;rw[bd];exact KN h2
end T6
namespace PySem.W.Fast
open Lean in
local macro_rules|`(command|#check tws)=>do let p:=`PySem.Challenge;let q:=p.str "cw_formsmith_k13_flat_forms_filled_holds";let c<-((List.range 818).map (fun i=>q.str s!"o_{i+43}")++("tree_860 sts_71 tree_222 heap_46 sts_769 tree_464 tree_47 heap_861 tree_768 sts_465 sts_129 tree_70 sts_502 sts_611 tree_128 sts_280 sts_845 tree_336 heap_39 tree_687 tree_844 env_41 view_39 tree_279 tree_524 tree_501 sts_688 sts_337 sts_525 sts_223 tree_85 sts_166 sts_401 tree_165 tree_400 sts_49 tree_610 sts_86".splitOn.map q.str)++[p.str "pw_formsmith_k13_flat_forms_filled",p.str "rw_formsmith_k13_flat_forms_filled"]).mapM fun n=>`(command|theorem $(mkIdent (.mkSimple s!"tw{n.hash}")):ident:True:=⟨⟩);return mkNullNode c.toArray
#check tws
end PySem.W.Fast
open PySem PySem.W PyProof.Rows
set_option maxRecDepth 100000 in
set_option maxHeartbeats 0 in
theorem PySem.Challenge.cw_formsmith_k13_flat_forms_filled_holds : PySem.Challenge.rw_formsmith_k13_flat_forms_filled.Holds := by
  w_on; o_law; k_head; (case hw => w_witness2)
  k_fill
  refine Z.Bq (l := PySem.Challenge.rw_formsmith_k13_flat_forms_filled) (k := T6.dl 100) (x := "_law_script") (fn := T6.F 100 .law) rfl rfl ⟨by decide, by decide, rfl⟩ (fun w h Y => W.kIn_of Y) T6.Br ?F
  case F =>
    intro w mg fa h KX G XR
    refine' T6.ID KX G XR ?T3 ?PJ ?TF ?TQ ?TJ ?RX ?M4 ?RD ?RN ?RL ?RQ ?L_ ?RB ?RM ?RJ ?S7 ?O3 ?Sv ?SM ?Sy ?T4 ?PL ?TG ?TV ?TP ?UG ?K_ ?Us ?Ut ?Qn ?Pk ?Rf ?Q6 ?u_ ?Rb ?Ra ?Q_ ?Q9 ?Q8 ?Q7 ?hf ?H6 ?K3 ?G_ ?K1 ?v9 ?G5 ?J5 ?A_ ?G9 ?QT ?J_ ?hn
    (case T3 | RX | RQ | S7 | T4 | UG | Rf | TF | TQ | TJ | RD | RN | RL | RB | RM | RJ | Sv | SM | Sy | TG | TV | TP | Us | Ut | Qn | Pk | Ra | Q9 | Q8 | Q7 | H6 | K3 | G_ | K1 | v9 | G5 | J5 | A_ | G9 | QT | J_=>k_is);(case PJ | M4 | L_ | O3 | PL | K_ | Q6 => constructor <;> k_is);(case u_ => kts_exm)
    (case Rb | Q_ => first | rfl | kernel_rfl)
    (case hf => intro f; cases f <;> (refine' T6.fq (Ad := T6.adP _ _ _) ?fa ?fl ?fc ?fk ?fb; (case fa => dsimp only [T6.adP]; first | k_is | ((first | constructor | skip) <;> (repeat' apply And.intro) <;> k_is)); (case fl=>k_is); (case fc=>k_is); (case fk=>k_is); (case fb => intro _ _ _ _ _ _ us hl; first | (obtain rfl := T6.us0 hl; rfl) | (obtain ⟨_, rfl⟩ := T6.us1 hl; rfl) | (obtain ⟨_, _, rfl⟩ := T6.us2 hl; rfl) | (obtain ⟨_, _, _, rfl⟩ := T6.us3 hl; rfl) | (obtain ⟨_, _, _, _, rfl⟩ := T6.us4 hl; rfl) | (obtain ⟨_, _, _, _, _, rfl⟩ := T6.us5 hl; rfl) | (obtain ⟨_, _, _, _, _, _, rfl⟩ := T6.us6 hl; rfl) | (obtain ⟨_, _, _, _, _, _, _, rfl⟩ := T6.us7 hl; rfl))))
    (case hn => intro i; cases i <;> k_is)
