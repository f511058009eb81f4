import PyProof.Rows.All
import Wide.All
import OpenK.AllK
import Wide.FinOn
import Lean
import PyProof.EqAt
import PyProof.EqKinds
import PyProof.TupleCall
import PyProof.StationsW
import PyProof.TupleOps
import PyProof.ExcAttrAll.ValueError
import PyProof.ExcClass3
import PyProof.InstStoreFacts
import KE.KDictOf
import PyProof.AttrMissHeap
import KE.LcSums
import KE.KDictList
import PyProof.StrCalls
import PyProof.FactsAll.range_2
import KE.KRevIter
import PyProof.ZipIter
import PyProof.Draws
import PyProof.EnumMake
import PyProof.CompUse
import PyProof.ListCopy
import KE.KRevSl
import PyProof.DictUpdate
import PyProof.NeKinds
import PyProof.Rows.ExtendIn
import PyProof.DictItems
import KE.KPairComp
import PyProof.ListNew
import PyProof.ReprRoads
import KE.KDictLaws
import PyProof.SliceStr
import PyProof.Rows.Tup
import PyProof.ListStr
import PyProof.CollectWalk
import PyProof.FString5
import PyProof.P3Eq
import PySem.Challenge.RW_formsmith_k17_read_sign_by_sign
open Array renaming length_toList->ag1,getElem?_eq_getElem->ahg,toList_inj->ahC,getElem_toList->aia
open Bool renaming and_eq_true->ael,false_eq_true->aeS,eq_iff_iff->aft,and_true->afw,or_eq_true->afO,false_ne_true->af9,not_eq_true'->agD,or_eq_false_iff->agS,true_and->ahr,or_true->ahN,and_eq_false_iff->ah0,true_or->aiO,eq_false_iff->aiP,not_false->ajg,false_and->ajh,and_false->aji,or_false->ajm,not_true->ajn,false_or->ajo,and_self->ajp
open Function renaming comp_def->ahl
open Int renaming toNat_natCast->ae7,mul_le_mul_of_nonneg_left->af7,emod_lt_of_pos->agv,le_refl->agR,emod_nonneg->ag0,toNat_of_nonneg->ail,natCast_zero->ai1
open LawfulBEq renaming eq_of_beq->aiQ
open List renaming length_cons->aeh,length_append->aei,getElem?_eq_getElem->aej,mem_cons->aek,mem_cons_of_mem->aen,mem_singleton->aeo,append_nil->aep,getElem?_eq_some_iff->aer,length_map->aes,length_singleton->aev,mem_of_getElem?->aex,getElem?_append_left->aez,map_cons->aeA,mem_cons_self->aeC,getElem?_append_right->aeD,getElem?_eq_none->aeE,mem_append->aeF,getD_eq_getElem?_getD->aeG,length_range->aeH,length_nil->aeJ,append_assoc->aeK,all_eq_true->aeM,nil_append->aeN,not_mem_nil->aeO,map_append->aeP,mem_of_mem_take->aeU,length_drop->aeV,mem_map->aeX,getElem?_map->aeY,drop_eq_getElem_cons->aeZ,replicate_succ->ae0,cons_append->ae3,flatten_cons->ae4,length_take->ae5,take_of_length_le->ae6,length_replicate->ae9,contains_iff_mem->afa,mem_of_mem_drop->afc,map_map->afe,mem_range->afg,getElem_mem->afh,lookup_cons->afl,singleton_append->afn,getElem?_take_of_lt->afp,drop_zero->afq,all_cons->afr,getElem?_cons_zero->afv,size_toArray->afx,isPrefixOf_iff_prefix->afy,drop_eq_nil_of_le->afz,takeWhile_cons->afB,nodup_cons->afC,getElem?_replicate->afM,takeWhile_append_of_pos->afN,set_append_right->afT,mem_iff_getElem->afZ,take_succ_cons->af2,getElem?_cons_succ->af5,drop_length->af6,set_cons_succ->af8,getElem?_set_ne->agk,getElem_inj->ago,any_cons->agr,getElem?_drop->agu,take_zero->agB,getElem?_set_self->agC,length_filter_le->agG,isEmpty_iff->agM,head?_drop->agX,foldl_cons->agY,map_nil->ag5,zip_cons_cons->ag8,set_cons_zero->ag9,contains_cons->aha,reverse_cons->ahj,nodup_append->ahk,sum_cons->ahp,find?_range_eq_some->ahq,takeWhile_sublist->ahJ,dropWhile_sublist->ahK,all_map->ahL,of_mem_zip->ahQ,mem_filter->ahR,idxOf_cons->ahS,getElem?_reverse->ahX,eq_nil_or_concat->ahY,concat_eq_append->ahZ,take_left->ah7,getLast?_concat->ah8,drop_eq_nil_iff->ah9,length_pos_iff->aif,length_flatten->aii,filter_eq_self->aij,dropWhile_cons->aik,mem_replicate->aix,find?_eq_none->aiy,take_sublist->aiM,take_length->aiX,mem_flatten->aiY,filter_cons->aiZ,cons_ne_nil->ai0,find?_cons->ai7,filter_map->ai8,all_append->ai9,drop_drop->ajf,take_nil->ajk,map_drop->ajl,map_id'->ajr,any_nil->ajs
open List.cons renaming injEq->agZ
open Nat renaming le_refl->aeB,le_trans->aeI,zero_le->aeL,lt_or_ge->aeR,lt_of_lt_of_le->afu,le_max_right->afG,ne_of_lt->afH,mul_le_mul_right->afJ,sub_self->afR,le_of_ble_eq_true->afS,le_max_left->afV,lt_irrefl->agf,succ_mul->agz,lt_succ_of_lt->agA,min_eq_right->agK,lt_succ_self->agL,le_succ->agQ,min_eq_left->agW,zero_add->ag4,toDigits_of_lt_base->ahy,le_of_not_lt->ahz,exists_eq_add_of_le->ahA,add_sub_cancel_left->ahB,mul_comm->ahI,ne_of_gt->aiJ,le_of_lt->aiK,le_of_eq->aiL,not_lt_of_le->aiV,min_le_right->aiW,toList_repr->ai5,min_le_left->ai6,max_le->ajd,ble_eq->aje,mul_assoc->ajj
open Ne renaming symm->ag3
open Option renaming map_eq_some_iff->ae2,isSome_iff_exists->af0,map_some->agV,map_eq_none_iff->ahH,getD_some->aiT,getD_none->aiU
open Option.some renaming inj->aeW,injEq->afm
open PyProof.Rows renaming slot_tuple_getitem->afD,callWith_type1->afQ,subscriptTail_builtinR->ahF,entry_tuple_getitem->aic,slot_tuple_getitem->ait,args_tuple_getitem->aiv,Subscript_->aiw,tail_any->ajb
open PySem renaming wpAny_bind->aeg,wpAny_pure->aeu,wpAny_newObj_type->afb,wpAny_Call_Name_kw->afd,wpAny_mono->afi,wpAny_getItem_str_slice->afk,mem_of_lookup->afA,builtinLookup_eq_fast->afE,wpAny_field->afI,wpAny_truthy_bool->afK,wpAny_callSpecial?_slot->afL,wpAny_execs_nil->afU,sizeLine_eq->afW,wpAny_call_entry->af4,wpAny_specialOf->aga,wpAny_passesOwn->agb,typeLookup_type->agc,wpAny_holding->agd,wpAny_loadPart_at->agg,wpAny_of_eq->agh,wpAny_call->agi,codeAny_call_builtin->agj,wpAny_comprehension_free->agq,wpAny_pyIter_tuple->ags,call_meets->agt,wpAny_setField->agx,plainObj_wpAny_Assign_Attribute->agE,wpAny_execs_cons->agH,typeIs_str->agI,wpAny_standAt->agN,wpAny_attempt->agO,post_val_or_str->agU,codeAny_mono->ag2,wpAny_binaryOp_repeat_ref->ahd,wpAny_pyIter_enum->ahh,wpAny_assign_Name->ahi,evalPart_none->ahm,wpAny_isInstance->ahs,noFill_tuple_add->aht,wpAny_typeOf->ahD,wpAny_Assign_Subscript->ahE,wpAny_ite_split->ahO,exec_Assign_Name_used->ahT,wpAny_loadPart->ah1,isSubtype_type->ah2,wpAny_isSubtype_exc->aib,seq_tuple_add->ain,evalPart_some->aio,wpAny_List_spliced->air,typeIs_int->ais,arm_eval_Attribute->aiu,wpAny_sequenceKey->aiB,wpAny_pyIter_list->aiC,wpAny_Return_some->aiD,slot_list_getitem->aiE,seqIndex_neg->aiF,concat_meets->aiG,wpAny_Slice->ai2,seqIndex_of->ai3,wpAny_Name->aja
open PySem.Around renaming frames_deeper->agT
open PySem.AutoSeq1 renaming wpAny_loadPart'->ae8,wpAny_loadPart'->agJ
open PySem.Calls renaming Name_function_global->ahc,spliced_cons->aiA,spliced_nil->aiN
open PySem.Code renaming quiet_builtin->ahb
open PySem.F renaming plainAttrs_str->afP,store_object->afX,slot_tuple_getitem->ag6,excBase_ValueError->ag7,sub_reversed_self->ahe,excBase_Exception->ahf,slot_str_eq_refl->ahn,args_tuple_add_2->aho,slot_list_index->ahu,plainAttrs_list->ahv,entry_tuple_add->ahw,attr_ValueError->ahx,slot_tuple_add->ahG,type_str_find->ahU,slot_str_find->ahV,slot_dict_get->ahW,sub_str_dict->ah5,slot_dict_eq->ah6
open PySem.Heap renaming get?_push_of_some->aem,get?_push_size->aey,lt_size->aeT,get?_update_self->afo,size_push->agl,get?_update_ne->agp,get?_update_other->ahM,get?_some_iff->aiz
open PySem.Heap.IsSliceOf renaming new->agw
open PySem.Heap.SameBut renaming update->af3
open PySem.Obj renaming data_mapFields->afF,isFreed_of_fields->agF,cls_mapFields->aiI
open PySem.P renaming add_list->aiS
open PySem.Sem renaming wp_pure->agP,wp_mono->ai4
open PySem.W renaming mg_of->afj,kia_tup->agm,kia_one->agn,callWith_K->agy,methodCall_KW->ahP,looks_findIn->ah3,hideAll_none->ah4,hideAll_get->aie,plainGet_of->aip,callWith_K0->aiq,cellsFrom_some->aiR
open PySem.W.Looks renaming ld->ajc,here->ajq
open PySem.Within renaming cons->aiH
set_option bootstrap.genMatcherCode false
noncomputable section
open Bool renaming false→ajt
open False renaming elim→ak6
open Int renaming toNat→aj8,natAbs→akC
open List renaming replicate→aju,range→ajy,lookup→ajR,length→ak3,foldl→ak5
open Nat renaming ble→ajW,toDigits→akp
open PyProof.Rows renaming envOfC→akc,kindOf→aki,AllBare→akF,IsTup→akV
open PySem renaming sizeLine→ajx,model→ajC,wpAny→ajD,starEach→ajF,foldedSetIterable→ajI,compareOp→ajM,bootBuiltins→ajV,swapsWith→aj2,codeAny→aj4,typeLookup→aj6,mainGlobals→aj7,backTo→akd,sliceBounds→ake,rawInt→akh,letOwnedTupleGo→akm,sysModules→akr,isInstance→aks,firstArgMember→akt,assignEach→aku,keywordEach→akv,excClassObj→akx,behindInMarks→aky,cLine→akz,typeOf→akA,BindsTo→akE,binaryOp→akH,getMethod→akJ,getItem→akK,PassesOwn→akL,attributeBase→akM,valueAt→akN,setField→akO,holding→akP,entryPlaceOf→akQ,callerA→akR,backToKw→akS,sliceMade→akX,pyNext→akY,pyIter→akZ,fromIndex→ak0
open PySem.Around renaming under→akq
open PySem.Builtin.List renaming listLengthHint→aj5
open PySem.Builtin.Slice renaming slicePlaces→ajY,sliceAdjust→akb
open PySem.Builtin.Str renaming strSliceIndices→ajL,subAt→akg
open PySem.Builtin.Tuple renaming tupleExact→ajN
open PySem.Code renaming isFrame→akD
open PySem.Heap renaming SameBut→aj9,FlyingW→akW
open PySem.Obj renaming mapSeq→akk,mapFields→akl
open PySem.PyData renaming canLay0→ajH,canLayAll0→ajK,depth→ajO,eqv→ajU,depthAll→akn,strOk→akB
open PySem.Str renaming ofString→akf
open PySem.Txt renaming lstripChars→akG,slice→ak2
open PySem.W renaming findIn→ajJ,kitOne→ajT,emptyDict→ajX,Frag→ajZ,keepIn→aj1,instObj→aj3,kitAny→akI,exmOne→akT,Looks→akU,makesIn→ak1,lookIn→ak4
def ajv:=@decide_eq_false
def ajw:=@decide_eq_true
def ajz:=@if_pos
def ajA:=@if_true
def ajB:=@if_neg
def ajE:=@decide_eq_true_eq
def ajG:=@of_decide_eq_true
def ajP:=@or_false
def ajQ:=@if_false
def ajS:=@beq_iff_eq
def aj0:=@congrArg
def akj:=@beq_self_eq_true
def ako:=@beq_eq_false_iff_ne
set_option Elab.async false
set_option linter.all false
set_option maxRecDepth 100000
set_option maxHeartbeats 4000000
set_option autoImplicit false
local macro_rules|`(⋯)=>`(by first|decide|lia)
namespace Z
open PySem PySem.Spec PyProof.Rows
abbrev Y1:=List Nat
abbrev Ya:=List Y1
abbrev Yf:=Value->Shared->Prop
abbrev Z3:=List Value
abbrev Zl:=List Str
abbrev Zp:=Option Int
abbrev Zs:=List Addr
variable{A:Around}{E Q:Yf}{O:Addr->Option Addr}{R:Result->Shared->Prop}{a b:Addr}{cells:List (Str×Addr)}{es ifs:List Expr}{i:Int}{items k_:Array Value}{iter tg:Expr}{k n:Nat}{kw:List (Str×Value)}{l:List (Str×NameKind)}{m:Zs}{o:Obj}{op:CmpOp}{pos:Pos}{prog:Program}{s':Shared}{scope:Scope}{t:String}{u v:Value}{us:Z3}{x:Str}{α:Type}
abbrev PK:=Sum Int Y1
variable{kvs:List (PK×Value)}
noncomputable def S(l:Y1):Str:=⟨l.toArray⟩
def Bj{a b:Y1}(h:S a=S b):a=b:=by have:=aj0 (fun x=>x.cps.toList) h;simpa[S]using this
def Oh(x:Str):S x.cps.toList=x:=by cases x;simp[S]
def dH(l:Y1):(S l).length=l.length:=by show(S l).cps.size=_;simp[S]
set_option genInjectivity true in
inductive PV where
 |non|bl (b:Bool)|int (i:Int)|str (x:Y1)|ty (n:String)|cls (C:Nat)
 |tup (xs:List PV)|lst (xs:List PV)|X5 (xs:List PV)|dct (kvs:List (PK×PV))|ins (C:Nat) (fs:List (Str×PV))
 |ref (i:Nat)|exc (C:Nat)|N6 (C:Nat) (v:PV)
abbrev Y2:=List PV
variable{p:PV}{ps:Y2}
mutual
noncomputable def PV.pure:PV->Bool
 |.ref _=>ajt
 |.tup xs=>ai xs
 |.lst xs=>ai xs
 |.X5 xs=>ai xs
 |.dct kvs=>lI kvs
 |.ins _ fs=>yT fs
 |.N6 _ v=>v.pure
 |_=>true
noncomputable def ai:Y2->Bool
 |[]=>true
 |x::r=>x.pure&&ai r
noncomputable def lI:List (PK×PV)->Bool
 |[]=>true
 |(_,x)::r=>x.pure&&lI r
noncomputable def yT:List (Str×PV)->Bool
 |[]=>true
 |(_,x)::r=>x.pure&&yT r
end
theorem jg:∀(l:List (PK×PV)),lI l=ai (l.map (·.2))
 |[]=>by simp[ai,lI]
 |(k,x)::r=>by simp[ai,lI,jg r]
noncomputable def Zh(C:Nat):Str:=if C<500 then "at" else "word"
noncomputable def Yr:Nat->Zl
 |600=> ["parts","counted"]
 |601=> ["pen","pieces"]
 |602=> ["loops","pieces"]
 |603=> ["numbers","blocks"]
 |604=> ["text","at"]
 |605=> ["block","slots","body","place","walks"]
 |606=> ["things","taken"]
 |607=> ["program","pen","frames","stack","done","result"]
 |608=> ["command","nodes","yes","between"]
 |609=> ["pieces","opened","counted"]
 |_=> []
inductive PO where
 |lst (xs:Y2)|dct (kvs:List (PK×PV))|Q5 (v:PV)|obj (C:Nat) (ps:Y2)
abbrev Y3:=List PO
variable{K:Y2->Y3->Prop}{h h1:Y3}
inductive Res(α:Type) where
 |ok (a:α) (h:Y3)|exc (e:PV) (h:Y3)|bad
variable{g:PV->PV->Y3->Res PV}
noncomputable def Res.bind{α β:Type}(r:Res α)(k:α->Y3->Res β):Res β:=match r with
 |.ok a h=>k a h
 |.exc e h=>.exc e h
 |.bad=>.bad
abbrev Ev:=List (Option PV)
variable{ρ:Ev}
abbrev Ex:=Ev->Y3->Res PV
variable{fa:Ex}
abbrev Tx:=Ev->Y3->Res Bool
abbrev Ax:=Ev->Y3->Res Y2
def kIs:PK->Value->Bool
 |.inl k,v=>Value.isInt k v
 |.inr x,v=>Value.isStrOf (S x) v
theorem iq:∀{k:PK}{v:Value},kIs k v=true->(∃i t,k=Sum.inl i/\v=Value.int i t)\/(∃x t,k=Sum.inr x/\v=Value.str (S x) t)
 |.inl i,v,h=>let⟨t,e⟩:=Value.isInt_shape h;.inl ⟨i,t,rfl,e⟩
 |.inr x,v,h=>let⟨t,e⟩:=Value.isStrOf_shape h;.inr ⟨x,t,rfl,e⟩
def pk(P:Program)(w:World):KeyKind P w PK where
 is:=kIs
 hash:=fun|.inl k=>hashInt k|.inr x=>hashStr w (S x)
 inj:=fun v a b ha hb=>by rcases iq ha with⟨i,t,rfl,rfl⟩|⟨x,t,rfl,rfl⟩<;>rcases iq hb with⟨j,u,rfl,e⟩|⟨y,u,rfl,e⟩<;>first|(injection e with e1;first|rw[e1]|rw[Bj e1])|cases e
 byValue:=fun k v h=>by rcases iq h with⟨i,t,rfl,rfl⟩|⟨x,t,rfl,rfl⟩<;>rfl
 pyHash:=fun hv h=>by
  rcases iq hv with⟨i,t,rfl,rfl⟩|⟨x,t,rfl,rfl⟩
  .exact wpAny_pyHash_int h
  .exact wpAny_pyHash_str h
 eqBool:=fun hu hv h=>by
  rcases iq hu with⟨i,t,rfl,rfl⟩|⟨x,t,rfl,rfl⟩<;>rcases iq hv with⟨j,u,rfl,rfl⟩|⟨y,u,rfl,rfl⟩
  .exact wpAny_eqBool_int (by rw[Bool.beq_eq_decide_eq];simpa using h)
  .exact SeqAt.EqAt.int_str i t _ u _ _ _ _ (by simpa using h)
  .exact SeqAt.EqAt.str_int _ t j u _ _ _ _ (by simpa using h)
  .exact wpAny_eqBool_str (by rw[show decide (S x=S y)=decide ((Sum.inr x:PK)=.inr y)from decide_eq_decide.mpr ⟨fun e=>by rw[Bj e],fun e=>by cases e;rfl⟩];exact h)
 «strs» :=fun k x t v h=>by
  rcases iq h with⟨i,u,rfl,e⟩|⟨y,u,rfl,e⟩<;>cases e
  cases v<;>rfl
structure SC where
 prog:Program
 w:World
 K:ajZ
 mg:Str->Option Value
 base:Heap
 T:Nat->Option Addr
variable{G:SC}
abbrev Fz:=Addr->Option Obj
structure Wo where
 F:Fz
 O:Addr->Option Addr
 m:Zs
 s:Shared
variable{w0 w1 w2:Wo}
def DO(G:SC)(o:Obj)(kvs:List (PK×Value)):Prop:=o.ExactDict/\∃es ep,o.data=.dict es ep/\KeysOf (pk G.prog G.w) es/\Pairs (pk G.prog G.w) es.toList kvs/\(kvs.map (·.1)).Nodup
def ZQ(o:Obj)(fs:List (Str×Value)):Prop:=∃es ep,o.data=.dict es ep/\StrKeys es/\UniqKeys es/\∀n,nsFind es n=fs.lookup n
noncomputable def sqT:PV->Option (String×Y2)
 |.tup ps=>some ("tuple",ps)
 |.lst ps=>some ("list",ps)
 |.X5 ps=>some ("list",ps)
 |_=>none
section
variable(G:SC)(F:Fz)(m:Zs)
mutual
inductive bx:PV->Value->Prop where
 |non:bx .non .none
 |bl (b:Bool):bx (.bl b) (.bool b)
 |int (i:Int) (t:Tok):bx (.int i) (.int i t)
 |str (x:Y1) (t:Tok):bx (.str x) (.str (S x) t)
 |ty (n:String):bx (.ty n) (.type n)
 |cls {C:Nat} {a:Addr} (c:G.T C=some a):bx (.cls C) (.ref a)
 |tup {ps:Y2} {a:Addr} {k_:Array Value} {n:Nat} (e:F a=some ({ cls:=.type "tuple",data:=.seq k_ n })) (z:k_.size<=ajx) (r:aO ps k_.toList):bx (.tup ps) (.ref a)
 |lst {ps:Y2} {a:Addr} {k_:Array Value} {n:Nat} (e:F a=some ({ cls:=.type "list",data:=.seq k_ n })) (z:k_.size<=ajx) (r:aO ps k_.toList):bx (.lst ps) (.ref a)
 |X5 {ps:Y2} {a:Addr} {k_:Array Value} {n:Nat} (e:F a=some ({ cls:=.type "list",data:=.seq k_ n })) (z:k_.size<=ajx) (r:aO ps k_.toList):bx (.X5 ps) (.ref a)
 |dct {Sw:List (PK×PV)} {a:Addr} {o:Obj} {kvs:List (PK×Value)} (e:F a=some o) (d:DO G o kvs) (sm:(a==akr)=ajt) (z:kvs.length<=ajx) (k:kvs.map (·.1)=Sw.map (·.1)) (r:aO (Sw.map (·.2)) (kvs.map (·.2))):bx (.dct Sw) (.ref a)
 |ins {C:Nat} {a Ca dx:Addr} {od:Obj} (c:G.T C=some Ca) (e:F a=some (aj3 Ca dx)) (d:F dx=some od) (n:ZQ od []):bx (.ins C []) (.ref a)
 |ref {i:Nat} {a:Addr} (e:m[i]? =some a):bx (.ref i) (.ref a)
 |exc {C:Nat} {a Ca:Addr} {o:Obj} {vs:Array Value} (c:G.T C=some Ca) (e:F a=some o) (oc:o.cls=.ref Ca) (d:o.data=.fields vs):bx (.exc C) (.ref a)
 |N6 {C:Nat} {a Ca dx:Addr} {o od:Obj} {vs:Array Value} {u:Value} {fs:List (Str×Value)} {p:PV} (c:G.T C=some Ca) (e:F a=some o) (oc:o.cls=.ref Ca) (d:o.data=.fields vs) (Z1:o.dict=some dx) (e2:F dx=some od) (n:ZQ od fs) (l:fs.lookup (Zh C)=some u) (r:bx p u):bx (.N6 C p) (.ref a)
inductive aO:Y2->Z3->Prop where
 |nil:aO [] []
 |cons {p:PV} {v:Value} {ps:Y2} {vs:Z3} (r:bx p v) (t:aO ps vs):aO (p::ps) (v::vs)
end
def tE(O:Addr->Option Addr)(g:Heap)(a:Addr):PO->Prop
 |.lst ps=>F a=none/\∃k_ n,g.get? a=some { cls:=.type "list",data:=.seq k_ n }/\k_.size<=ajx/\aO G F m ps k_.toList
 |.dct Sw=>F a=none/\∃o kvs,g.get? a=some o/\DO G o kvs/\(a==akr)=ajt/\kvs.length<=ajx/\kvs.map (·.1)=Sw.map (·.1)/\aO G F m (Sw.map (·.2)) (kvs.map (·.2))
 |.Q5 p=>bx G F m p (.ref a)/\p.pure=true/\∃o,F a=some o
 |.obj C ps=>F a=none/\∃Ca dx od vs,G.T C=some Ca/\g.get? a=some (aj3 Ca dx)/\O dx=some a/\g.get? dx=some od/\ZQ od ((Yr C).zip vs)/\vs.length<=(Yr C).length/\aO G F m ps vs
end
section
variable{F F':Fz}{m':Zs}
def Sub(m m':Zs):Prop:=∀(i:Nat)(a:Addr),m[i]? =some a->m'[i]? =some a
def aO.mono(hF:∀a o,F a=some o->F' a=some o){p:Y2}{v:Z3}(r:aO G F m p v):ai p=true\/Sub m m'->aO G F' m' p v:=
 aO.rec (motive_1:=fun p v _=>p.pure=true\/Sub m m'->bx G F' m' p v) (motive_2:=fun p v _=>ai p=true\/Sub m m'->aO G F' m' p v) (fun _=>.non) (fun b _=>.bl b) (fun i t _=>.int i t) (fun x t _=>.str x t) (fun n _=>.ty n) (fun c _=>.cls c) (fun e z _ i h=>.tup (hF _ _ e) z (i h)) (fun e z _ i h=>.lst (hF _ _ e) z (i h)) (fun e z _ i h=>.X5 (hF _ _ e) z (i h)) (fun e d s z k _ i h=>.dct (hF _ _ e) d s z k (i (h.imp_left fun q=>by simpa[PV.pure,jg]using q))) (fun c e d n _=>.ins c (hF _ _ e) (hF _ _ d) n) (fun e h=>.ref (h.elim nofun fun q=>q _ _ e)) (fun c e o d _=>.exc c (hF _ _ e) o d) (fun c e o d o' e2 n l _ i h=>.N6 c (hF _ _ e) o d o' (hF _ _ e2) n l (i h)) (fun _=>.nil) (fun _ _ i j h=>.cons (i (h.imp_left fun q=>(ael _ _▸q:).1)) (j (h.imp_left fun q=>(ael _ _▸q:).2))) r
theorem bx.mono(hF:∀a o,F a=some o->F' a=some o){p:PV}{v:Value}(r:bx G F m p v)(h:p.pure=true\/Sub m m'):bx G F' m' p v:=by cases aO.mono hF (.cons r .nil) (h.imp_left fun q=>by rw[ai,q];rfl);assumption
theorem aO.ind{P:Y2->Z3->Prop}(n:P [] [])(c:∀{p v ps vs},bx G F m p v->aO G F m ps vs->P ps vs->P (p::ps) (v::vs)){vs:Z3}(r:aO G F m ps vs):P ps vs:=by
 induction ps generalizing vs with
 |nil=>cases r;exact n
 |cons _ _ i=>cases r with|cons r t=>exact c r t (i t)
def bx.vi(r:bx G F m (.int i) u):∃t,u=.int i t:=by cases r;exact⟨_,rfl⟩
def bx.vs{x:Y1}(r:bx G F m (.str x) u):∃t,u=.str (S x) t:=by cases r;exact⟨_,rfl⟩
def bx.vb{b:Bool}(r:bx G F m (.bl b) u):u=.bool b:=by cases r;rfl
def bx.vn(r:bx G F m .non u):u=.none:=by cases r;rfl
def bx.vt{n:String}(r:bx G F m (.ty n) u):u=.type n:=by cases r;rfl
def bx.sq(k:sqT p=some (t,ps))(e:F a=some ({ cls:=.type t,data:=.seq k_ n }))(z:k_.size<=ajx)(r:aO G F m ps k_.toList):bx G F m p (.ref a):=by
 unfold sqT at k
 split at k<;>cases k
 .exact .tup e z r
 .exact .lst e z r
 .exact .X5 e z r
end
structure HR(G:SC)(w:Wo)(h:Y3):Prop where
 sub:∀a o,w.F a=some o->w.s.heap.get? a=some o
 own:∀d a,w.O d=some a->(∃o,w.s.heap.get? d=some o)/\d∉w.m/\w.F d=none
 len:h.length=w.m.length
 nd:w.m.Nodup
 obj:∀(i:Nat)(o:PO)(a:Addr),h[i]? =some o->w.m[i]? =some a->tE G w.F w.m w.O w.s.heap a o
def XH(w:Wo)(b:Addr):Prop:=b∉w.m/\w.F b=none/\w.O b=none
def Has(w:Wo)(b:Addr)(o:Obj):Prop:=w.s.heap.get? b=some o/\XH w b
structure Sd(fs:Zs)(W:Addr->Prop)(w w':Wo):Prop where
 os:w'.s.os=w.s.os
 ba:akF w.s.gens->akF w'.s.gens
 fz:∀a o,w.F a=some o->w'.F a=some o
 ow:∀d a,w.O d=some a->w'.O d=some a
 pre:∃t,w'.m=w.m++t
 dom:∀b o,w.s.heap.get? b=some o->∃o',w'.s.heap.get? b=some o'
 keep:∀b o,Has w b o->¬ W b->∃sl,Has w' b { o with slots:=sl }/\(b∈fs\/sl=o.slots)
section
variable{fs:Zs}{W W':Addr->Prop}{w:Wo}
def Sd.refl:Sd fs W w w:=⟨rfl,id,fun _ _ e=>e,fun _ _ e=>e,⟨[],by simp⟩,fun _ o e=>⟨o,e⟩,fun _ o q _=>⟨o.slots,q,.inr rfl⟩⟩
theorem Sd.trans(x:Sd fs W w w1)(y:Sd fs W w1 w2):Sd fs W w w2:=
 ⟨y.os.trans x.os,y.ba∘x.ba,fun a o e=>y.fz a o (x.fz a o e),fun a o e=>y.ow a o (x.ow a o e),let⟨t,e⟩:=x.pre;let⟨u,e'⟩:=y.pre;⟨t++u,by rw[e',e,aeK]⟩,fun b o e=>let⟨o',q⟩:=x.dom b o e;y.dom b o' q,fun b o q n=>by obtain⟨sl,q1,z1⟩:=x.keep b o q n;obtain⟨sl',q2,z2⟩:=y.keep b _ q1 n;exact⟨sl',q2,z1.elim .inl fun z=>z2.imp_right fun z'=>z'.trans z⟩⟩
def Sd.weak{fs':Zs}(x:Sd fs W w w1)(k:∀b,W b->W' b)(l:∀b∈fs,b∈fs':=by exact fun _ z=>z):Sd fs' W' w w1:=⟨x.os,x.ba,x.fz,x.ow,x.pre,x.dom,fun b o q n=>let⟨sl,q,z⟩:=x.keep b o q fun z=>n (k b z);⟨sl,q,z.imp_left (l b)⟩⟩
def Sd.sub(x:Sd fs W w w1):Sub w.m w1.m:=fun i a e=>by obtain⟨t,z⟩:=x.pre;rw[z,aez (aer.mp e).1];exact e
def Sd.rep(x:Sd fs W w w1)(r:bx G w.F w.m p u):bx G w1.F w1.m p u:=r.mono x.fz (.inr x.sub)
def Sd.reps(x:Sd fs W w w1){p:Y2}{u:Z3}(r:aO G w.F w.m p u):aO G w1.F w1.m p u:=r.mono x.fz (.inr x.sub)
theorem HR.there(H:HR G w h)(e:a∈w.m):∃o,w.s.heap.get? a=some o:=by
 obtain⟨i,hi,e⟩:=afZ.mp e;have q:=H.obj i (h[i]'(by rw[H.len];exact hi)) a (by simp) (by simp[<- e])
 revert q
 cases h[i]'(by rw[H.len];exact hi)with
 |lst ps=>exact (by rintro ⟨_,_,_,e,_⟩;exact ⟨_,e⟩)
 |dct Sw=>exact (by rintro ⟨_,_,_,e,_⟩;exact ⟨_,e⟩)
 |Q5 p=>exact (by rintro ⟨_,_,o,e⟩;exact ⟨o,H.sub a o e⟩)
 |obj C ps=>exact (by rintro ⟨_,_,_,_,_,_,e,_⟩;exact ⟨_,e⟩)
def HR.free(H:HR G w h)(e:w.s.heap.get? a=none):XH w a:=by
 refine⟨fun z=>?_,?_,?_⟩
 .obtain⟨o,q⟩:=H.there z;rw[e]at q;cases q
 .cases q:w.F a with
  |none=>rfl
  |some x=>rw[H.sub a x q]at e;cases e
 .cases q:w.O a with
  |none=>rfl
  |some x=>obtain⟨⟨o,q'⟩,_⟩:=H.own a x q;rw[e]at q';cases q'
def HR.at(H:HR G w h)(e:w.F a=some o):w.s.heap.get? a=some o:=H.sub a o e
theorem bG(g:Heap):g.get? g.objs.size=none:=by
 cases q:g.get? g.objs.size with
 |none=>rfl
 |some o=>exact absurd (aeT q) (agf _)
theorem tE.on{g g':Heap}{F F':Fz}{m':Zs}{O':Addr->Option Addr}{po:PO}(hF:∀a o,F a=some o->F' a=some o)(hO:∀d,O d=some a->O' d=some a)(hm:Sub m m')(q:tE G F m O g a po)(k:∀b o,g.get? b=some o->b=a\/O b=some a->g'.get? b=some o)(f:F a=none->F' a=none):tE G F' m' O' g' a po:=by
 cases po with
 |lst ps=>obtain⟨z,k_,n,e,l,r⟩:=q;exact⟨f z,k_,n,k _ _ e (.inl rfl),l,r.mono hF (.inr hm)⟩
 |dct Sw=>obtain⟨z,o,kvs,e,d,y,l,c,r⟩:=q;exact⟨f z,o,kvs,k _ _ e (.inl rfl),d,y,l,c,r.mono hF (.inr hm)⟩
 |Q5 p=>obtain⟨r,z,o,e⟩:=q;exact⟨r.mono hF (.inr hm),z,o,hF _ _ e⟩
 |obj C ps=>obtain⟨z,Ca,dx,od,vs,c,e,d,e2,n,l,r⟩:=q;exact⟨f z,Ca,dx,od,vs,c,k _ _ e (.inl rfl),hO _ d,k _ _ e2 (.inr d),n,l,r.mono hF (.inr hm)⟩
theorem HR.on(H:HR G w h)(k:∀b o,w.s.heap.get? b=some o->¬ XH w b->s'.heap.get? b=some o):HR G { w with s:=s' } h:=
 have f:∀{b o},w.F b=some o->¬ XH w b:=fun e z=>by rw[z.2.1]at e;cases e
 have d:∀{b a},w.O b=some a->¬ XH w b:=fun e z=>by rw[z.2.2]at e;cases e
 ⟨fun a o e=>k a o (H.sub a o e) (f e),fun b a e=>let⟨⟨o,q⟩,z⟩:=H.own b a e;⟨⟨o,k b o q (d e)⟩,z⟩,H.len,H.nd,fun i o a e1 e2=>(H.obj i o a e1 e2).on (fun _ _ e=>e) (fun _ e=>e) (fun _ _ e=>e) (fun b o e z=>k b o e (z.elim (fun z y=>y.1 (z▸aex e2)) d)) id⟩
end
set_option genInjectivity true in
structure Cx extends SC where
 A:Around
 N:Zl
 env:Env
 stack:List Env
 fn:Str->Bool
 calm:Bool
 tr:Bool
 Ep:Yf->Prop
variable{X:Cx}
abbrev Cx.L(X:Cx):Addr:=X.env.locals
noncomputable def frs(l:List Env):Zs:=l.filterMap (·.frame)
abbrev Cx.fs(X:Cx):Zs:=frs X.stack
abbrev Cx.M(X:Cx):Model:=ajC X.prog X.w
def Cx.W(X:Cx)(b:Addr):Prop:=b=X.L\/∃x,X.fn x=true/\X.env.cells.lookup x=some b
def Xq:Addr->Prop:=fun _=>False
def Nw(X:Cx)(w w':Wo)(h:Y3):Prop:=Sd X.fs Xq w w'/\HR X.toSC w' h
structure Wd(X:Cx)(w:Wo)(h:Y3):Prop extends HR X.toSC w h where
 ba:akF w.s.gens
 bs:∀b o,X.base.get? b=some o->w.F b=some o
 fr:∀b∈X.fs,∃o,Has w b o/\∀vs,o.data≠.fields vs
def yx(env:Env)(g:Heap)(m:Str->Option Value)(x:Str)(u:Value):Prop:=
 (env.kindOf x=some .local/\m x=some u)\/((env.kindOf x=some .cell\/env.kindOf x=some .free)/\∃c,env.cells.lookup x=some c/\g.IsCell c (some u))
structure Cx.Ok(X:Cx):Prop where
 Tz:X.K.In X.base
 gl:X.base.Ns aj7 X.mg
 bl:∃mb,X.base.Ns builtinsNs mb/\∀x:Str,x≠"__name__"->mb x=ajV x
 nl:X.base.NoLimit
 kind:X.env.scope.kind=.function
 glob:X.env.globals=aj7
 blt:X.env.builtins=builtinsNs
 inj:∀x y c,X.env.cells.lookup x=some c->X.env.cells.lookup y=some c->x=y
 has:∀x,(X.env.kindOf x=some .cell\/X.env.kindOf x=some .free)->∃c,X.env.cells.lookup x=some c
 hd:X.calm=true->X.A.handled=none
 frames:X.A.frames=some X.stack
 nd:X.N.Nodup
 sf:∀env∈X.stack,env.scope.kind≠.module/\∃L,env.frame=some L/\X.base.get? L=none
structure Inv(X:Cx)(w:Wo)(ρ:Ev)(h:Y3):Prop extends Wd X w h where
 ok:X.Ok
 loc:∃m o,w.s.heap.Ns X.L m/\Has w X.L o/\∀(i:Nat)(p:PV),ρ[i]? =some (some p)->∃x u,X.N[i]? =some x/\bx X.toSC w.F w.m p u/\yx X.env w.s.heap m x u
 Ye:∀x c,X.env.cells.lookup x=some c->∃v o,w.s.heap.IsCell c v/\Has w c o
 ln:ρ.length=X.N.length
section
variable{w:Wo}
theorem Nw.trans(x:Nw X w w1 h)(y:Nw X w1 w2 h1):Nw X w w2 h1:=⟨x.1.trans y.1,y.2⟩
def rR{g g':Heap}{m:Str->Option Value}(n:g.Ns a m)(k:∀o,g.get? a=some o->∃sl,g'.get? a=some { o with slots:=sl }):g'.Ns a m:=let⟨o,es,ep,e,r⟩:=n;let⟨sl,q⟩:=k o e;⟨_,es,ep,q,r⟩
def zK{g g':Heap}{v:Option Value}(n:g.IsCell a v)(k:∀o,g.get? a=some o->∃sl,g'.get? a=some { o with slots:=sl }):g'.IsCell a v:=let⟨o,e,d⟩:=n;let⟨sl,q⟩:=k o e;⟨_,q,d⟩
theorem Sd.slots{W:Addr->Prop}{fs:Zs}(x:Sd fs W w w1)(q:Has w b o)(n:¬ W b):∀o,w.s.heap.get? b=some o->∃sl,w1.s.heap.get? b=some { o with slots:=sl }:=fun o' e=>by rw[q.1]at e;cases e;obtain⟨sl,z,_⟩:=x.keep b o q n;exact⟨sl,z.1⟩
theorem uH{g base:Heap}:∀{l:List Env},(∀env∈l,env.scope.kind≠.module/\∃L,env.frame=some L/\base.get? L=none)->(∀b∈frs l,∃o,g.get? b=some o/\∀vs,o.data≠.fields vs)->g.FunFrames base l
 |[],_,_=>trivial
 |env::r,h,k=>by
  obtain⟨a,L,b,c⟩:=h env (by simp);have e:frs (env::r)=L::frs r:=by simp[frs,b]
  rw[e]at k;obtain⟨o,q,d⟩:=k L (by simp);exact⟨a,⟨L,o,b,c,q,d⟩,uH (fun x hx=>h x (aen _ hx)) fun x hx=>k x (aen _ hx)⟩
def Wd.on{W:Addr->Prop}(I:Wd X w h)(x:Sd X.fs W w w1)(hw:∀b∈X.fs,W b->∃o,Has w1 b o/\∀vs,o.data≠.fields vs)(H:HR X.toSC w1 h1):Wd X w1 h1:=
 ⟨H,x.ba I.ba,fun b o e=>x.fz _ _ (I.bs b o e),fun b hb=>by
  by_cases z:W b
  .exact hw b hb z
  .obtain⟨o,q,d⟩:=I.fr b hb;obtain⟨sl,q',_⟩:=x.keep b o q z;exact⟨_,q',d⟩⟩
theorem Inv.on(I:Inv X w ρ h)(x:Nw X w w1 h1):Inv X w1 ρ h1:=by
 obtain⟨m,o,n,hl,q⟩:=I.loc;have nw:∀b,¬ Xq b:=fun _ z=>z;have cl:∀x c,X.env.cells.lookup x=some c->∀v,w.s.heap.IsCell c v->w1.s.heap.IsCell c v:=fun y c e v z=>let⟨_,_,_,hc⟩:=I.Ye y c e;zK z (x.1.slots hc (nw c));refine⟨I.toWd.on x.1 (fun _ _ z=>z.elim) x.2,I.ok,⟨m,?_⟩,fun y c e=>?_,I.ln⟩
 .obtain⟨sl,z,_⟩:=x.1.keep _ _ hl (nw _);refine⟨_,rR n (x.1.slots hl (nw _)),z,fun i p e=>?_⟩;obtain⟨y,u,e1,r,l⟩:=q i p e;exact⟨y,u,e1,x.1.rep r,l.imp_right (by rintro ⟨k,c,e,z⟩;exact ⟨k,c,e,cl y c e _ z⟩)⟩
 .obtain⟨v,o,z,hc⟩:=I.Ye y c e;obtain⟨sl,q',_⟩:=x.1.keep _ _ hc (nw _);exact⟨v,_,cl y c e v z,q'⟩
def Wd.bk(I:Wd X w h)(e:X.base.get? b=some o):w.s.heap.get? b=some o:=I.toHR.at (I.bs b o e)
def Inv.UJ(I:Inv X w ρ h):X.K.In w.s.heap:=I.ok.Tz.keeps fun _ _ e=>I.bk e
end
def Fst(B:Heap)(l:List Env)(a:Addr)(cls a0:Value)(h:Heap):Prop:=B.StaysIn h/\B.get? a=none/\h.FunFrames B l/\∃o vs,h.get? a=some o/\o.cls=cls/\o.data=.fields vs/\vs[0]? =some a0/\vs[1]? =some .none
structure Fly(X:Cx)(w w':Wo)(a:Addr)(cls:Value)(dx:Option Addr):Prop where
 f:∃a0 B,(akW B X.stack a cls a0 w'.s.heap\/X.tr=true/\Fst B X.stack a cls a0 w'.s.heap)/\(∀b o,w.s.heap.get? b=some o->b∉X.fs->∃o',B.get? b=some o')/\∀b,¬ XH w' b->∃o',B.get? b=some o'
 d:∃o,w'.s.heap.get? a=some o/\o.dict=dx
def XV(G:SC)(F:Fz)(m:Zs)(cls:Value)(dx:Option Addr):PV->Prop
 |.cls C=>∃Ca,G.T C=some Ca/\cls=.ref Ca/\dx=none
 |.N6 C v=>∃Ca d od fs y,G.T C=some Ca/\cls=.ref Ca/\dx=some d/\F d=some od/\ZQ od fs/\fs.lookup (Zh C)=some y/\bx G F m v y
 |_=>False
def oE(X:Cx)(w w':Wo)(e:PV)(u:Value):Prop:=∃a cls dx,u=.ref a/\Fly X w w' a cls dx/\XV X.toSC w'.F w'.m cls dx e
theorem oE.to{w w3:Wo}{e:PV}(r:oE X w w2 e u)(pu:e.pure=true)(hF:w3.F=w2.F)(hs:w3.s=w2.s)(h0:w0.s=w.s)(k:∀b,¬ XH w3 b->¬ XH w2 b\/(∃o,w.s.heap.get? b=some o)/\b∉X.fs):oE X w0 w3 e u:=by
 obtain⟨a,cls,dx,rfl,⟨⟨a0,B,f,c1,c2⟩,d⟩,m⟩:=r;refine⟨a,cls,dx,rfl,⟨⟨a0,B,hs▸f,h0▸c1,fun b z=>(k b z).elim (c2 b) (by rintro ⟨⟨o,q⟩,n⟩;exact c1 b o q n)⟩,hs▸d⟩,?_⟩;rw[hF]
 cases e with
 |N6 C v=>obtain⟨Ca,d,od,fs,y,a,b,c,d',e,f,g⟩:=m;exact⟨Ca,d,od,fs,y,a,b,c,d',e,f,g.mono (fun _ _ e=>e) (.inl (by simpa[PV.pure]using pu))⟩
 |_=>exact m
abbrev RV(G:SC)(w:Wo):PV->Value->Prop:=bx G w.F w.m
abbrev RVs(G:SC)(w:Wo):Y2->Z3->Prop:=aO G w.F w.m
def cf{α β:Type}(X:Cx)(R:Wo->α->β->Prop)(w:Wo)(Q:β->Shared->Prop)(E:Yf):Res α->Prop
 |.ok a h=>X.Ep E/\∀w' x,Nw X w w' h->R w' a x->Q x w'.s
 |.exc e h=>X.Ep E/\∀w' u,Nw X w w' h->oE X w w' e u->E u w'.s
 |.bad=>False
abbrev Wp(X:Cx){β:Type}(t:Sem β)(Q:β->Shared->Prop)(E:Yf)(s:Shared):Prop:=ajD (ajC X.prog X.w) X.A t Q E s
structure RE(X:Cx)(e:Expr)(f:Ex):Prop where
 r:∀{w:Wo}{ρ:Ev}{h:Y3}{Q:Yf}{E:Yf},Inv X w ρ h->cf X (RV X.toSC) w Q E (f ρ h)->Wp X (eval e X.env) Q E w.s
structure RT(X:Cx)(e:Expr)(f:Tx):Prop where
 r:∀{w:Wo}{ρ:Ev}{h:Y3}{Q:Bool->Shared->Prop}{E:Yf},Inv X w ρ h->cf X (fun _ a b=>a=b) w Q E (f ρ h)->Wp X (isTrue e X.env (eval e X.env)) Q E w.s
structure RA(X:Cx)(es:List Expr)(f:Ax):Prop where
 r:∀{w:Wo}{ρ:Ev}{h:Y3}{Q:Z3->Shared->Prop}{E:Yf}(pos:Pos),Inv X w ρ h->cf X (RVs X.toSC) w Q E (f ρ h)->Wp X (spliced (akd pos (ajF es X.env))) Q E w.s
section
variable{w:Wo}{β γ δ:Type}{R:Wo->α->β->Prop}{R':Wo->γ->δ->Prop}
def Fly.back{cls:Value}{dx:Option Addr}{w':Wo}{W:Addr->Prop}{fs:Zs}(f:Fly X w1 w' a cls dx)(x:Sd fs W w w1):Fly X w w' a cls dx:=
 let⟨a0,B,y,c,d⟩:=f.f;⟨⟨a0,B,y,fun b o e n=>let⟨o',q⟩:=x.dom b o e;c b o' q n,d⟩,f.d⟩
theorem oE.back{w':Wo}{e:PV}{u:Value}{W:Addr->Prop}{fs:Zs}(r:oE X w1 w' e u)(x:Sd fs W w w1):oE X w w' e u:=let⟨a,c,d,e,f,r⟩:=r;⟨a,c,d,e,f.back x,r⟩
theorem cf.ep{Q:β->Shared->Prop}{r:Res α}(p:cf X R w Q E r):X.Ep E:=match r with
 |.ok _ _=>p.1
 |.exc _ _=>p.1
 |.bad=>p.elim
theorem cf.step{Q:β->Shared->Prop}{r:Res α}(p:cf X R w Q E r)(x:Nw X w w1 h1):cf X R w1 Q E r:=match r with
 |.ok _ _=>⟨p.1,fun w' u y=>p.2 w' u (x.trans y)⟩
 |.exc _ _=>⟨p.1,fun w' u y r=>p.2 w' u (x.trans y) (r.back x.1)⟩
 |.bad=>p
theorem cf.ZJ{Q:δ->Shared->Prop}{G:β->Shared->Prop}{r:Res α}{k:α->Y3->Res γ}(p:cf X R' w Q E (r.bind k))(c:∀w1 h1 a x,Nw X w w1 h1->R w1 a x->cf X R' w Q E (k a h1)->G x w1.s):cf X R w G E r:=match r with
 |.ok a h=>⟨p.ep,fun w' x y q=>c w' h a x y q p⟩
 |.exc _ _=>p
 |.bad=>p
theorem cf.bind{Q:δ->Shared->Prop}{G:β->Shared->Prop}{r:Res α}{k:α->Y3->Res γ}(p:cf X R' w Q E (r.bind k))(c:∀w1 h1 a x,Nw X w w1 h1->R w1 a x->cf X R' w1 Q E (k a h1)->G x w1.s):cf X R w G E r:=p.ZJ fun w1 h1 a x y q p=>c w1 h1 a x y q (p.step y)
def cf.now{Q:β->Shared->Prop}{a:α}{x:β}{t:Nat}(p:cf X R w Q E (.ok a h))(H:HR X.toSC w h)(r:R { w with s:={ w.s with toks:=t } } a x):Q x { w.s with toks:=t }:=
 p.2 { w with s:={ w.s with toks:=t } } x ⟨⟨rfl,id,fun _ _ e=>e,fun _ _ e=>e,⟨[],by simp⟩,fun _ o e=>⟨o,e⟩,fun _ o q _=>⟨o.slots,q,.inr rfl⟩⟩,H.on fun _ _ e _=>e⟩ r
def cf.here{Q:β->Shared->Prop}{a:α}{x:β}(p:cf X R w Q E (.ok a h))(H:HR X.toSC w h)(r:R w a x):Q x w.s:=p.2 w x ⟨.refl,H⟩ r
end
noncomputable def jj(F:Fz)(a:Addr)(o:Obj):Fz:=fun b=>if b=a then some o else F b
def bT{F:Fz}:jj F a o a=some o:=ajz rfl
def mu{F:Fz}(n:b≠a):jj F a o b=F b:=ajB n
def dR{F:Fz}(n:b≠a)(e:F b=none):jj F a o b=none:=(mu n).trans e
def dQ{F:Fz}(n:F a=none)(b:Addr)(x:Obj)(q:F b=some x):jj F a o b=some x:=by rw[mu];exact q;rintro rfl;rw[n]at q;cases q
def Nw.lay{w:Wo}(H:HR X.toSC w h)(n:w.s.heap.get? a=none)(k:∀b o,w.s.heap.get? b=some o->s'.heap.get? b=some o)(e:s'.heap.get? a=some o)(ho:s'.os=w.s.os:=by rfl)(hg:s'.gens=w.s.gens:=by rfl):Nw X w ⟨jj w.F a o,w.O,w.m,s'⟩ h:=by
 obtain⟨z1,z2,z3⟩:=H.free n;have ne:∀{b o},w.s.heap.get? b=some o->b≠a:=fun q z=>by rw[z,n]at q;cases q
 refine⟨⟨ho,fun q=>hg▸q,dQ z2,fun _ _ e=>e,⟨[],by simp⟩,fun b o e=>⟨o,k b o e⟩,fun b ob q _=>⟨ob.slots,⟨k b ob q.1,q.2.1,dR (ne q.1) q.2.2.1,q.2.2.2⟩,.inr rfl⟩⟩,fun b x q=>?_,fun b a q=>let⟨⟨o,e⟩,z⟩:=H.own b a q;⟨⟨o,k b o e⟩,z.1,dR (ne e) z.2⟩,H.len,H.nd,fun i ob b e1 e2=>(H.obj i ob b e1 e2).on (dQ z2) (fun _ e=>e) (fun _ _ e=>e) (fun b o e _=>k b o e) (dR fun z=>z1 (z▸aex e2))⟩
 by_cases z:b=a
 .subst z;cases bT.symm.trans q;exact e
 .exact k b x (H.sub b x ((mu z).symm.trans q))
noncomputable def aA(h:Y3):PV->PV
 |.ref i=>match h[i]? with
  |some (.Q5 q)=>q
  |_=>.ref i
 |p=>p
noncomputable def ac(i:Nat):Ex:=fun ρ h=>match ρ[i]? with
 |some (some p)=>.ok (aA h p) h
 |_=>.bad
noncomputable def cK(v:PV):Ex:=fun _ h=>.ok v h
def c1(g:PV->Y3->Res PV)(a:Ex):Ex:=fun ρ h=>(a ρ h).bind g
def c2(g:PV->PV->Y3->Res PV)(a b:Ex):Ex:=fun ρ h=>(a ρ h).bind fun x h1=>(b ρ h1).bind fun y h2=>g x y h2
def cN(g:Y2->Y3->Res PV)(a:Ax):Ex:=fun ρ h=>(a ρ h).bind g
noncomputable def af:Ax:=fun _ h=>.ok [] h
def aa(a:Ex)(r:Ax):Ax:=fun ρ h=>(a ρ h).bind fun x h1=>(r ρ h1).bind fun xs h2=>.ok (x::xs) h2
section
variable{w:Wo}{a b:Expr}{fb:Ex}{ta tb:Tx}
def HR.Xo(H:HR G w h)(r:bx G w.F w.m p v):bx G w.F w.m (aA h p) v:=by
 unfold aA
 split
 .cases r with
  |ref e=>
   split
   .rename_i q;exact(H.obj _ _ _ q e).1
   .exact .ref e
 .exact r
abbrev sE0(X:Cx)(e:Expr)(es:List Expr):Prop:=ajF (e::es) X.env=(ajt,eval e X.env)::ajF es X.env
abbrev sP0(X:Cx)(es:List Expr)(pos:Pos):Prop:=(akd pos (ajF es X.env)).any (·.1)=ajt
abbrev nD0(x:Str):Prop:=(x==("__debug__":Str))=ajt
def yx.nm{m:Str->Option Value}{s:Shared}(l:yx X.env s.heap m x u)(n:s.heap.Ns X.L m)(ok:X.Ok)(z:Q u s)(hd:(x==("__debug__":Str))=ajt)(Yp:(x==("__classdict__":Str))=ajt):Wp X (eval (.Name x pos) X.env) Q E s:=by
 rcases l with⟨k,e⟩|⟨k|k,c,e,q⟩
 .exact aja (wpAny_loadName_local ok.kind k n e z) hd
 .exact aja (wpAny_loadName_cell ok.kind k e q z) hd
 .exact aja (wpAny_loadName_free ok.kind k e q z Yp) hd
def rv(i:Nat)(hN:X.N[i]? =some x:=by rfl)(hd:nD0 x:=by decide)(Yp:(x==("__classdict__":Str))=ajt:=by decide):RE X (.Name x pos) (ac i) where
 r I p:=by
  unfold ac at p
  split at p
  .rename_i q;obtain⟨m,_,n,_,l⟩:=I.loc;obtain⟨y,u,e,r,l⟩:=l i _ q
   cases hN.symm.trans e
   exact l.nm n I.ok (p.here I.toHR (I.Xo r)) hd Yp
  .exact p.elim
def JW{j}:RE X (.Constant (.int i) j pos) (cK (.int i)):=⟨fun I p=>wpAny_Constant_int (p.now I.toHR (.int i _))⟩
def Mq{b:Bool}{j}:RE X (.Constant (.bool b) j pos) (cK (.bl b)):=⟨fun I p=>Constant_bool (p.here I.toHR (.bl b))⟩
def JQ{j}:RE X (.Constant .none j pos) (cK .non):=⟨fun I p=>Constant_none (p.here I.toHR .non)⟩
def JM(l:Y1){j}(e:x=S l:=by rfl):RE X (.Constant (.str x) j pos) (cK (.str l)):=⟨fun I p=>Calls.Constant_str (p.now I.toHR (e▸.str l _))⟩
def Xa(X:Cx)(op:Value->Value->Sem Value)(g:PV->PV->Y3->Res PV):Prop:=
 ∀{w h p q u v Q E},Wd X w h->bx X.toSC w.F w.m p u->bx X.toSC w.F w.m q v->cf X (RV X.toSC) w Q E (g p q h)->Wp X (op u v) Q E w.s
def Op1(X:Cx)(op:Value->Sem Value)(g:PV->Y3->Res PV):Prop:=
 ∀{w h p u Q E},Wd X w h->bx X.toSC w.F w.m p u->cf X (RV X.toSC) w Q E (g p h)->Wp X (op u) Q E w.s
def OpN(X:Cx)(op:Z3->Sem Value)(g:Y2->Y3->Res PV):Prop:=
 ∀{w h p u Q E},Wd X w h->aO X.toSC w.F w.m p u->cf X (RV X.toSC) w Q E (g p h)->Wp X (op u) Q E w.s
def two{op:Value->Value->Sem Value}(o:Xa X op g)(ha:RE X a fa)(hb:RE X b fb)(I:Inv X w ρ h)(p:cf X (RV X.toSC) w Q E (c2 g fa fb ρ h)):
  Wp X (eval a X.env) (fun v s=>Wp X (eval b X.env) (fun u s=>Wp X (op v u) Q E s) E s) E w.s:=
 ha.r I (p.bind fun _ _ _ _ y r p=>hb.r (I.on y) (p.bind fun _ _ _ _ z r' p=>o ((I.on y).on z).toWd (z.1.rep r) r' p))
def rC{op:Operator}(o:Xa X (akH op) g)(ha:RE X a fa)(hb:RE X b fb):RE X (.BinOp a op b pos) (c2 g fa fb):=⟨fun I p=>wpAny_BinOp (two o ha hb I p)⟩
def Ml{op:UnaryOp}{g:PV->Y3->Res PV}(o:Op1 X (unaryOp op) g)(ha:RE X a fa):RE X (.UnaryOp op a pos) (c1 g fa):=⟨fun I p=>UnaryOp_ (ha.r I (p.bind fun _ _ _ _ y r p=>o (I.on y).toWd r p))⟩
def mP(o:Xa X (ajM op) g)(hm:aky op b=ajt)(ha:RE X a fa)(hb:RE X b fb):RE X (.Compare a [op] [b] pos) (c2 g fa fb):=⟨fun I p=>wpAny_Compare1 (two o ha hb I p) hm⟩
def yR:RA X [] af:=⟨fun _ I p=>aiN (p.here I.toHR .nil)⟩
def qu{e:Expr}{f:Ex}{fs:Ax}(ha:RE X e f)(hr:RA X es fs)(hs:sE0 X e es:=by rfl):RA X (e::es) (aa f fs):=⟨fun pos I p=>by rw[hs];exact aiA (ha.r I (p.bind fun _ _ _ _ y r p=>hr.r pos (I.on y) (p.bind fun _ _ _ _ z r' p=>p.here z.2 (.cons (z.1.rep r) r'))))⟩
end
noncomputable def Yb(h:Y3):PV->Option Y2
 |.lst xs=>some xs
 |.ref i=>match h[i]? with
  |some (.lst xs)=>some xs
  |_=>none
 |_=>none
noncomputable def Yw(h:Y3):PV->Option Y2
 |.X5 xs=>some xs
 |p=>Yb h p
noncomputable def Y5(h:Y3):PV->Option (List (PK×PV))
 |.dct kvs=>some kvs
 |.ref i=>match h[i]? with
  |some (.dct kvs)=>some kvs
  |_=>none
 |_=>none
noncomputable def Z0(h:Y3):PV->Option Y2
 |.tup xs=>some xs
 |p=>Yw h p
def SqA(g:Heap)(t:String)(a:Addr)(k_:Array Value):Prop:=∃n,g.get? a=some { cls:=.type t,data:=.seq k_ n }
def SqA.tup{g:Heap}{a:Addr}{k_:Array Value}(x:SqA g "tuple" a k_):akV g a k_:=let⟨n,e⟩:=x;⟨_,e,rfl,n,rfl⟩
def SqA.pl{g:Heap}(x:SqA g "list" a k_):PlainL g a k_:=let⟨n,e⟩:=x;⟨_,n,e,rfl,rfl,rfl⟩
noncomputable def sqH(h:Y3):PV->Option (String×Y2)
 |.ref i=>match h[i]? with
  |some (.lst xs)=>some ("list",xs)
  |_=>none
 |p=>sqT p
section
variable{w:Wo}
inductive Sq0(G:SC)(w:Wo)(u:Value)(t:String)(ps:Y2):Prop where
 |mk (a:Addr) (k_:Array Value) (_:u=.ref a) (_:SqA w.s.heap t a k_) (_:k_.size<=ajx) (_:aO G w.F w.m ps k_.toList)
def HR.sq(H:HR G w h)(r:bx G w.F w.m p u)(k:sqH h p=some (t,ps)):Sq0 G w u t ps:=by
 unfold sqH at k
 split at k
 .split at k
  .rename_i q
   cases k
   cases r with
   |ref e=>obtain⟨_,k_,n,e,z,r⟩:=H.obj _ _ _ q e;exact⟨_,k_,rfl,⟨n,e⟩,z,r⟩
  .cases k
 .cases r with
  |tup e z r=>cases k;exact⟨_,_,rfl,⟨_,H.at e⟩,z,r⟩
  |lst e z r=>cases k;exact⟨_,_,rfl,⟨_,H.at e⟩,z,r⟩
  |X5 e z r=>cases k;exact⟨_,_,rfl,⟨_,H.at e⟩,z,r⟩
  |_=>cases k
def mW(k:Yb h p=some ps):sqH h p=some ("list",ps):=by
 unfold Yb at k
 split at k
 .cases k;rfl
 .unfold sqH
  split at k
  .rename_i q;cases k;simp only[q]
  .cases k
 .cases k
def jP(k:Yw h p=some ps):sqH h p=some ("list",ps):=by
 unfold Yw at k
 split at k
 .cases k;rfl
 .exact mW k
def yI(k:Z0 h p=some ps):∃t,sqH h p=some (t,ps)/\(t="tuple"\/t="list"):=by
 unfold Z0 at k
 split at k
 .cases k;exact⟨_,rfl,.inl rfl⟩
 .exact⟨_,jP k,.inr rfl⟩
theorem aO.length{F:Fz}{m:Zs}{ps:Y2}{vs:Z3}(r:aO G F m ps vs):ps.length=vs.length:=aO.ind (P:=fun p v=>p.length=v.length) rfl (fun _ _ i=>aj0 (· +1) i) r
def aO.app{F:Fz}{qs:Y2}{vs:Z3}(r:aO G F m ps vs)(s:aO G F m qs us):aO G F m (ps++qs) (vs++us):=aO.ind (P:=fun p v=>aO G F m (p++qs) (v++us)) s (fun r _ i=>.cons r i) r
theorem aO.get{F:Fz}{vs:Z3}{i:Nat}(r:aO G F m ps vs):ps[i]? =some p->∃v,vs[i]? =some v/\bx G F m p v:=aO.ind (P:=fun ps vs=>∀i:Nat,ps[i]? =some p->∃v,vs[i]? =some v/\bx G F m p v) nofun (fun r _ k i e=>by
 cases i with
 |zero=>cases e;exact⟨_,rfl,r⟩
 |succ i=>exact k i e) r i
theorem aO.td{F:Fz}{m:Zs}:∀{ps:Y2}{vs:Z3}(n:Nat),aO G F m ps vs->aO G F m (ps.take n) (vs.take n)/\aO G F m (ps.drop n) (vs.drop n)
 |_,_,0,r=>⟨.nil,r⟩
 |_,_,_+1,.nil=>⟨.nil,.nil⟩
 |_,_,n+1,.cons r t=>⟨.cons r (aO.td n t).1,(aO.td n t).2⟩
theorem aO.rep{F:Fz}{m:Zs}{vs:Z3}(r:aO G F m ps vs):∀n:Nat,aO G F m (aju n ps).flatten (aju n vs).flatten
 |0=>.nil
 |n+1=>by rw[ae0,ae0,ae4,ae4];exact r.app (r.rep n)
def aO.len{F:Fz}(r:aO G F m ps k_.toList):ps.length=k_.size:=r.length
end
section
variable{w:Wo}{pv:PV}{tk:Nat}
theorem cf.seq(p:cf X (RV X.toSC) w Q E (.ok pv h))(H:HR X.toSC w h)(k:sqT pv=some (t,ps))(r:aO X.toSC w.F w.m ps k_.toList)(z:k_.size<=ajx):Q (.ref w.s.heap.objs.size) { w.s with heap:=w.s.heap.push { cls:=.type t,data:=.seq k_ n },toks:=tk }:=
 have y:=Nw.lay (X:=X) (s':={ w.s with heap:=w.s.heap.push { cls:=.type t,data:=.seq k_ n },toks:=tk }) H (bG _) (fun _ _ e=>aem _ e) (aey _ rfl)
 p.2 _ _ y (.sq k bT z (y.1.reps r))
def Nw.mk{po:PO}(H:HR X.toSC w h)(n:w.s.heap.get? a=none)(k:∀b o,w.s.heap.get? b=some o->s'.heap.get? b=some o)(q:tE X.toSC w.F (w.m++ [a]) O s'.heap a po)(hO:∀d b,w.O d=some b->O d=some b)(hn:∀d b,O d=some b->w.O d=some b\/w.s.heap.get? d=none/\d≠a/\∃o,s'.heap.get? d=some o)(ho:s'.os=w.s.os:=by rfl)(hg:s'.gens=w.s.gens:=by rfl):Nw X w ⟨w.F,O,w.m++ [a],s'⟩ (h++ [po]):=by
 obtain⟨z1,z2⟩:=H.free n;have sb:Sub w.m (w.m++ [a]):=fun i b e=>by rw[aez (aer.mp e).1];exact e
 refine⟨⟨ho,fun q=>hg▸q,fun _ _ e=>e,hO,⟨_,rfl⟩,fun b o e=>⟨o,k b o e⟩,fun b ob q _=>⟨ob.slots,⟨k b ob q.1,fun z=>?_,q.2.2.1,?_⟩,.inr rfl⟩⟩,fun b x q=>k b x (H.sub b x q),fun d b q=>?_,by simp[H.len],ahk.mpr ⟨H.nd,by simp,fun x hx y hy z=>z1 (by simp at hy;rw[<- hy,<- z];exact hx)⟩,fun i ob b e1 e2=>?_⟩
 .rcases aeF.mp z with z|z
  .exact q.2.1 z
  .have q:=q.1;simp at z;rw[z,n]at q;cases q
 .cases e:O b with
  |none=>exact e
  |some d=>
   rcases hn b d e with z|⟨z,_⟩
   .rw[q.2.2.2]at z;cases z
   .have q:=q.1;rw[z]at q;cases q
 .rcases hn d b q with z|⟨z,y,x⟩
  .obtain⟨⟨o,e⟩,z,y⟩:=H.own d b z;exact⟨⟨o,k d o e⟩,fun q=>(aeF.mp q).elim z fun q=>(by simp at q;rw[q,n]at e;cases e),y⟩
  .exact⟨x,fun q=>(aeF.mp q).elim (H.free z).1 fun q=>y (by simpa using q),(H.free z).2.1⟩
 .rcases aeR i h.length with l|l
  .rw[aez l]at e1;rw[aez (H.len▸l)]at e2;exact(H.obj i ob b e1 e2).on (fun _ _ e=>e) (fun d=>hO d b) sb (fun b o e _=>k b o e) id
  .rw[aeD l]at e1;rw[aeD (H.len▸l),<- H.len]at e2
   cases e:i - h.length with
   |zero=>rw[e]at e1 e2;cases e1;cases e2;exact q
   |succ _=>rw[e]at e1;simp at e1
def cf.lm(p:cf X (RV X.toSC) w Q E (.ok (.ref h.length) (h++ [.lst ps])))(H:HR X.toSC w h)(r:aO X.toSC w.F w.m ps k_.toList)(z:k_.size<=ajx):Q (.ref w.s.heap.objs.size) { w.s with heap:=w.s.heap.push { cls:=.type "list",data:=.seq k_ n },toks:=tk }:=
 p.2 _ _ (Nw.mk (s':={ w.s with heap:=w.s.heap.push { cls:=.type "list",data:=.seq k_ n },toks:=tk }) H (bG _) (fun _ _ e=>aem _ e) ⟨(H.free (bG _)).2.1,k_,n,aey _ rfl,z,r.mono (fun _ _ e=>e) (.inr fun i b e=>by rw[aez (aer.mp e).1];exact e)⟩ (fun _ _ e=>e) fun _ _ e=>.inl e) (.ref (by rw[H.len];simp))
end
section
variable{w:World}{s:Shared}
def Zv{t:Addr}{vs ws:Z3}(ht:akV s.heap t vs.toArray)(hb:akV s.heap b ws.toArray)(hv:vs≠ [])
  (h1:ws= []->Q (.ref t) s) (h2:ws≠ []->Q (.ref s.heap.objs.size) { s with heap:=s.heap.push { cls:=.type "tuple",data:=.seq (vs++ws).toArray } })
  (hsz:vs.length+ws.length<=ajx):ajD (ajC prog w) A (akH .Add (.ref t) (.ref b)) Q E s:=by
 obtain⟨⟨cls,dd,data,sl⟩,ho,hc,n,hd⟩:=id ht;obtain⟨⟨afY,dd2,data2,sl2⟩,ho2,hc2,n2,hd2⟩:=id hb;simp only at hc hd hc2 hd2;subst hc hd hc2 hd2;have e:vs.toArray++ws.toArray=(vs++ws).toArray:=by simp
 by_cases hw:ws= []
 .exact aiG ⟨_,ho,rfl⟩ ⟨_,ho2,rfl⟩ aht ain ahG ahw (aho _ _)
   (tuple_addW1 t b vs.toArray ws.toArray n n2 dd dd2 sl sl2 (by simpa using hv) (by simp[hw])) ⟨ho,ho2,h1 hw⟩
 .refine aiG ⟨_,ho,rfl⟩ ⟨_,ho2,rfl⟩ aht ain ahG ahw (aho _ _)
   (tuple_addW2 t b vs.toArray ws.toArray n n2 dd dd2 sl sl2 (by simpa using hv) (by simpa using hw) (by rw[afx,afx];exact hsz)) ⟨ho,ho2,?_⟩
  rw[e];exact h2 hw
noncomputable def RP(n d:Nat):Zp->Nat
 |none=>d
 |some v=>if v<0 then(v+(n:Int)).toNat else min v.toNat n
def Vd(n d k:Nat):RP n d (some (k:Int))=min k n:=by show(if(k:Int)<0 then((k:Int)+(n:Int)).toNat else min (k:Int).toNat n)=min k n;rw[ajB ⋯,ae7]
theorem Yk(n d:Nat)(hd:d<=n)(o:Zp):RP n d o<=n:=by
 cases o with
 |none=>exact hd
 |some v=>
  show(if v<0 then(v+(n:Int)).toNat else min v.toNat n)<=n
  by_cases hv:v<0
  .rw[ajz hv];lia
  .rw[ajB hv];exact aiW _ _
def AY(v:Int)(n d:Nat):(if v<0 then max (v+(n:Int)) 0 else min v (n:Int))=((RP n d (some v):Nat):Int):=by
 show(if v<0 then max (v+(n:Int)) 0 else min v (n:Int))=(((if v<0 then(v+(n:Int)).toNat else min v.toNat n):Nat):Int)
 by_cases hv:v<0
 .simp only[ajz hv];lia
 .simp only[ajB hv];lia
def zO(lo hi:Zp)(n:Nat):akb lo hi 1 (n:Int)=(((RP n 0 lo:Nat):Int),((RP n n hi:Nat):Int)):=by
 have h1:¬ ((1:Int)<0):=by lia
 unfold akb;simp only[h1,ajQ];refine Prod.ext ?_ ?_
 .cases lo with
  |none=>rfl
  |some v=>exact AY v n 0
 .cases hi with
  |none=>rfl
  |some v=>exact AY v n n
def yU(i j:Nat):ajY (i:Int) (j:Int) 1=j - i:=by
 unfold ajY;have h1:(1:Int)>0:=by lia
 simp only[h1,ajA,Int.ediv_one]
 split<;>lia
theorem rg{o:Zp}{Q:Zp->Shared->Prop}(p:IsPart v o)(h:Q o s):ajD (ajC prog w) A (Builtin.Slice.slicePartIndex v) Q E s:=by
 cases p with
 |none=>exact slicePart_none h
 |int i t=>exact slicePart_int h
def jZ{sl:Addr}{vl vu:Value}{lo hi:Zp}{Q:Int×Int×Nat->Shared->Prop}(hs:s.heap.IsSliceOf sl vl vu .none)(pl:IsPart vl lo)(pu:IsPart vu hi)
  (h:Q (((RP n 0 lo:Nat):Int),1,RP n n hi - RP n 0 lo) s):ajD (ajC prog w) A (Builtin.Slice.sliceApplied (.ref sl) (pure (n:Int))) Q E s:=by
 obtain⟨os,hos,hcs,hds⟩:=id hs;unfold Builtin.Slice.sliceApplied Builtin.Slice.sliceFields;refine aeg (aeg (afI hos hds (x:=vl) rfl (aeg (afI hos hds (x:=vu) rfl (aeg (afI hos hds (x:=.none) rfl (aeu ?_)))))));refine aeg (slicePart_none ?_);show ajD _ _ (if((1:Int)==0)=true then _ else _) _ _ s;rw[ajB ⋯];refine aeg (rg pl (aeg (rg pu (aeg (aeu ?_)))));show ajD _ _ (match akb lo hi 1 (n:Int)with|(lo,hi)=>pure (lo,(1:Int),ajY lo hi 1)) _ _ s;rw[zO lo hi n];show ajD _ _ (pure (((RP n 0 lo:Nat):Int),(1:Int),ajY ((RP n 0 lo:Nat):Int) ((RP n n hi:Nat):Int) 1)) _ _ s;rw[yU];exact aeu h
def DJ(xs:Array Value)(i k:Nat):((ajy k).filterMap fun(m:Nat)=>xs[((i:Int)+(m:Int) * 1).toNat]?).toArray=((xs.toList.drop i).take k).toArray:=by
 have e:(fun(m:Nat)=>xs[((i:Int)+(m:Int) * 1).toNat]?)=fun m=>xs[i+m]? :=by
  funext m
  have:((i:Int)+(m:Int) * 1).toNat=i+m:=by lia
  rw[this]
 rw[e];have:=pick_run xs i k;rw[List.filterMap_map]at this;have e2:((fun x=>xs[x]?)∘fun x=>i+x)=fun m=>xs[i+m]? :=rfl;rw[e2]at this;rw[this]
def V7{t sl:Addr}{vl vu:Value}{lo hi:Zp}(ht:akV s.heap t items)(hs:s.heap.IsSliceOf sl vl vu .none)(pl:IsPart vl lo)(pu:IsPart vu hi)
  (hw:¬ (RP items.size 0 lo=0/\RP items.size items.size hi=items.size))
  (h:Q (.ref s.heap.objs.size) { s with heap:=s.heap.push { cls:=.type "tuple",data:=.seq ((items.toList.drop (RP items.size 0 lo)).take (RP items.size items.size hi - RP items.size 0 lo)).toArray } })
  (hsz:items.size<=ajx):ajD (ajC prog w) A (akK (.ref t) (.ref sl)) Q E s:=by
 have Yx:sizeOk (.seq ((items.toList.drop (RP items.size 0 lo)).take (RP items.size items.size hi - RP items.size 0 lo)).toArray):=by
  show((items.toList.drop (RP items.size 0 lo)).take (RP items.size items.size hi - RP items.size 0 lo)).toArray.size<=ajx;rw[afx,ae5,aeV,ag1]
  lia
 have hj:RP items.size items.size hi<=items.size:=Yk _ _ (aeB _) hi;obtain⟨os,hos,hcs,hds⟩:=id hs;have hTs:s.TypeIs (.ref sl) "slice":=⟨os,hos,hcs⟩
 unfold akK
 try with_reducible refine agd ?_
 first|refine aeg (aeu ?_)|skip
 refine aeg (aiB ht.typeIs ⋯ ?_)
 refine aeg (afL (name:=akf "__getitem__") ht.typeIs afD
  (af4 afD ht.typeIs aic ?_ (aiv _ _)))
 show ajD _ _ (Builtin.Tuple.tupleItemsOf (.ref t) >>= _) _ _ s;refine aeg (tupleItemsOf_ ht ?_);refine aeg (ahD hTs ?_);rw[ajz ⋯];refine aeg (jZ hs pl pu ?_)
 have hno:¬ ((((RP items.size 0 lo:Nat):Int)==0&&(1:Int)==1&&(RP items.size items.size hi - RP items.size 0 lo)==items.size)=true):=by intro q;rw[ael,ael]at q;have q1:((RP items.size 0 lo:Nat):Int)=0:=aiQ q.1.1;have q2:RP items.size items.size hi - RP items.size 0 lo=items.size:=aiQ q.2;exact hw ⟨by lia,by lia⟩
 show ajD _ _ (if(((RP items.size 0 lo:Nat):Int)==0&&(1:Int)==1&&(RP items.size items.size hi - RP items.size 0 lo)==items.size)=true then _ else _) _ _ s;rw[ajB hno,DJ]
 first
  |exact aeg (m:=ajN _) (afb (aeu ⟨_,rfl,aeu h⟩) Yx)
  |exact aeg (m:=ajN _) (afb (aeg (aeu (aeu ⟨_,rfl,aeu h⟩))) Yx)
  |exact aeg (aeg (m:=ajN _) (afb (aeu (aeu ⟨_,rfl,aeu h⟩)) Yx))
  |exact aeg (aeg (m:=ajN _) (afb (aeu ⟨_,rfl,aeu h⟩) Yx))
def V8{t sl:Addr}{vl vu:Value}{lo hi:Zp}(ht:akV s.heap t items)(hs:s.heap.IsSliceOf sl vl vu .none)(pl:IsPart vl lo)(pu:IsPart vu hi)
  (hw:RP items.size 0 lo=0/\RP items.size items.size hi=items.size) (h:Q (.ref t) s):ajD (ajC prog w) A (akK (.ref t) (.ref sl)) Q E s:=by
 obtain⟨os,hos,hcs,hds⟩:=id hs;have hTs:s.TypeIs (.ref sl) "slice":=⟨os,hos,hcs⟩
 unfold akK
 try with_reducible refine agd ?_
 first|refine aeg (aeu ?_)|skip
 refine aeg (aiB ht.typeIs ⋯ ?_)
 refine aeg (afL (name:=akf "__getitem__") ht.typeIs afD
  (af4 afD ht.typeIs aic ?_ (aiv _ _)))
 show ajD _ _ (Builtin.Tuple.tupleItemsOf (.ref t) >>= _) _ _ s;refine aeg (tupleItemsOf_ ht ?_);refine aeg (ahD hTs ?_);rw[ajz ⋯];refine aeg (jZ hs pl pu ?_)
 have yes:(((RP items.size 0 lo:Nat):Int)==0&&(1:Int)==1&&(RP items.size items.size hi - RP items.size 0 lo)==items.size)=true:=by rw[hw.1,hw.2];simp
 show ajD _ _ (if(((RP items.size 0 lo:Nat):Int)==0&&(1:Int)==1&&(RP items.size items.size hi - RP items.size 0 lo)==items.size)=true then _ else _) _ _ s;rw[ajz yes];obtain⟨⟨ct,dt,da,sl'⟩,hot,hct,n,hdt⟩:=id ht
 cases(show ct=Value.type "tuple" from hct)
 wp_walk using ae8 hot
 exact⟨_,rfl,aeu h⟩
end
def aee(a b:Bool):((a&&b)=true)=(a=true/\b=true):=ael a b
def aef(n:Nat):n<=n:=aeB n
theorem oV(k_:Z3):∀(k:Nat)(acc:Z3),
  ak5 (fun x1 x2=>x1++x2) acc.toArray (aju k k_.toArray)=(acc++(aju k k_).flatten).toArray
 |0,acc=>by simp
 |k+1,acc=>by
  have e:acc.toArray++k_.toArray=(acc++k_).toArray:=by simp
  have e2:(acc++k_)++(aju k k_).flatten=acc++(aju (k+1) k_).flatten:=by rw[ae0,ae4,aeK]
  rw[<- e2,<- oV k_ k (acc++k_),<- e,ae0,agY]
theorem wb(xs:List α)(k:Nat):(aju k xs).flatten.length=k * xs.length:=by
 induction k with
 |zero=>simp
 |succ k ih=>rw[ae0,ae4,aei,ih,agz,Nat.add_comm]
def DW(h:n<=ajx):Builtin.List.listTooLong n=ajt:=by unfold Builtin.List.listTooLong;exact ajv ⋯
def Bw:fillsNumberSlot (.type "tuple") "mul"=pure ajt:=by kernel_rfl
def xh:seqRepeat? (.type "tuple")=pure (some (.builtin "tuple.__mul__")):=by kernel_rfl
def yO(a:Int)(t:Tok)(l:Addr)(k_:Array Value)(n:Nat)(dd:Option Addr)(sl:Array (Option Value)):
  Meets (Builtin.«int.__rmul__» ⟨[.int a t,.ref l],[]⟩) (fun _ R s=>s.heap.get? l=some { cls:=.type "tuple",dict:=dd,data:=.seq k_ n,slots:=sl }/\R (.ok (.ret Value.notImplemented)) s):=
 .of_wp fun prog w A R s h=>by
  obtain⟨hp,g,d,tk,os⟩:=s;obtain⟨hl,h⟩:=h
  wp_walk
  exact⟨_,rfl,h⟩
def Bt(l:Addr)(k_:Z3)(n:Nat)(dd:Option Addr)(sl:Array (Option Value))(k:Int)(t:Tok)(h1: -(2 ^ 63)<=k)(h2:k<2 ^ 63)(hz:k_.length * k.toNat<=ajx):
  Meets (Builtin.«tuple.__mul__» ⟨[.ref l,.int k t],[]⟩) (fun _ R s=>s.heap.get? l=some { cls:=.type "tuple",dict:=dd,data:=.seq k_.toArray n,slots:=sl }/\
   ((k_= []\/k=1)->R (.ok (.ret (.ref l))) s)/\R (.ok (.ret (.ref s.heap.objs.size))) { s with heap:=s.heap.push { cls:=.type "tuple",data:=.seq (aju k.toNat k_).flatten.toArray } }):=
 .of_wp fun prog w A R s h=>by
  obtain⟨hp,g,d,tk,os⟩:=s;obtain⟨hl,q1,q2⟩:=h;have f1:=AutoSeq1.idx_int;have f2:=AutoSeq1.sub_tuple_tuple;have b1:¬ ((decide (k< -(2 ^ 63))||decide (k>=2 ^ 63))=true):=by simp;lia
  unfold Builtin.«tuple.__mul__»
  wp_walk using ae8 hl
  rw[ajB b1]
  wp_walk using ae8 hl
  have em:k_.toArray.isEmpty=k_.isEmpty:=by cases k_<;>rfl
  have fr:∀xs:Array Value,xs.size<=ajx->xs=(aju k.toNat k_).flatten.toArray->ajD (ajC prog w) A.in1 (ajN xs >>= fun v=>ret v) (fun fin s'=>∃v,fin=Fin.done (Flow.ret v)/\R (Except.ok (Flow.ret v)) s') (fun e s'=>R (Except.error e) s') ⟨hp,g,d,tk,os⟩:=fun xs hx e=>by unfold ajN;subst e;exact aeg (afb (aeu ⟨_,rfl,q2⟩) hx)
  by_cases c:(k_.toArray.isEmpty||k==1)=true
  .rw[ajz c]
   wp_walk using ae8 hl
   refine⟨_,rfl,q1 ?_⟩;rw[afO,em,agM,ajS]at c;exact c
  .rw[ajB c];rw[afO,not_or,em,agM]at c
   by_cases c2:(decide (k<=0)||k_.toArray.isEmpty)=true
   .rw[ajz c2];rw[afO,em,agM]at c2
    have k0:k.toNat=0:=by
     rcases c2 with z|z
     .have:=ajG z;lia
     .exact absurd z c.1
    exact fr #[] (aeL _) (by rw[k0];rfl)
   .rw[ajB c2]
    have e2:(k_.toArray.size:Int) * k=((k_.length * k.toNat:Nat):Int):=by
     have:((k.toNat:Nat):Int)=k:=ail (by simp only[afO,not_or,ajE]at c2;lia)
     rw[afx];push_cast;rw[this]
    have sl8:(ajx:Nat)<=(2 ^ 63 - 1) / 8:=by decide
    rw[ajB (by rw[e2];intro z;have:(k_.length * k.toNat:Nat)<=(2 ^ 63 - 1) / 8:=aeI hz sl8;lia)];rw[ajB (by rw[e2];unfold Builtin.Tuple.tupleTooMany;intro z;have:=ajG z;have h3:((k_.length * k.toNat:Nat):Int)<=(ajx:Nat):=Int.ofNat_le.mpr hz;lia)]
    have hf:ak5 (fun x1 x2=>x1++x2) #[] (aju k.toNat k_.toArray)=(aju k.toNat k_).flatten.toArray:=by have:=oV k_ k.toNat [];rw[aeN]at this;exact this
    refine fr _ ?_ hf;rw[hf,afx,wb,ahI];exact hz
def vz(lo hi:Zp)(n:Nat):(ake lo hi none n).1=((Z.RP n 0 lo:Nat):Int)/\(ake lo hi none n).2.1=((Z.RP n n hi:Nat):Int)/\(ake lo hi none n).2.2=1:=by
 refine⟨?_,?_,rfl⟩
 .cases lo with
  |none=>simp[ake,Z.RP]
  |some i=>
   simp only[ake,Z.RP,aiU,show(1:Int)>0 by decide,ajA]
   by_cases h:i<0
   .simp only[h,ajA]<;>lia
   .simp only[h,ajQ]<;>lia
 .cases hi with
  |none=>simp[ake,Z.RP]
  |some i=>
   simp only[ake,Z.RP,aiU,show(1:Int)>0 by decide,ajA]
   by_cases h:i<0
   .simp only[h,ajA]<;>lia
   .simp only[h,ajQ]<;>lia
def tI(k_:Z3)(lo hi:Zp):slicePick k_.toArray lo hi none=((k_.drop (Z.RP k_.length 0 lo)).take (Z.RP k_.length k_.length hi - Z.RP k_.length 0 lo)).toArray:=by obtain⟨h1,h2,h3⟩:=vz lo hi k_.toArray.size;unfold slicePick;rw[h1,h2,h3];simp only[sliceRange_one,pick_run,afx]<;>rfl
def yY(p q:PV)(h:Y3):Res PV:=match p,q with
 |.int i,.int j=>.ok (.int (i+j)) h
 |.int i,.bl b=>.ok (.int (i+b2i b)) h
 |.str a,.str b=>if a.length+b.length<=ajx then .ok (.str (a++b)) h else .bad
 |.tup a,.tup b=>if a.isEmpty=ajt/\a.length+b.length<=ajx then .ok (.tup (a++b)) h else .bad
 |p,q=>match Yb h p,Yb h q with
  |some a,some b=>if a.length+b.length<=ajx then .ok (.lst (a++b)) h else .bad
  |_,_=>.bad
def aE(p q:PV)(h:Y3):Res PV:=match p,q with
 |.tup [],.tup b=>.ok (.tup b) h
 |p,q=>yY p q h
noncomputable def pI(C:Int->Int->Bool)(g:Int->Int->Int)(p q:PV)(h:Y3):Res PV:=match p,q with
 |.int i,.int j=>if C i j=true then .ok (.int (g i j)) h else .bad
 |_,_=>.bad
noncomputable def oP(p q:PV)(h:Y3):Res PV:=match p,q with
 |.int i,.int j=>.ok (.int (i - j)) h
 |_,_=>.bad
abbrev bt:=pI (fun _ j=>decide (0<j)) (fun i j=>i % j)
abbrev bZ:=pI (fun _ j=>decide (0<j/\j<1073741824)) (fun i j=>i / j)
abbrev BR:=pI (fun i j=>decide (0<=j/\j<=1000000/\i.natAbs<2 ^ 64)) (fun i j=>i ^ j.toNat)
noncomputable def VJ(n:Nat)(i:Int):Bool:=Nat.blt i.natAbs n
noncomputable def Pn(i j:Int):Bool:=decide (Builtin.Int.intBits i+Builtin.Int.intBits j<=134217728)
def jO(i j:Int):Bool:=VJ 18446744073709551616 i||(VJ 18446744073709551616 j||Pn i j)
noncomputable def rB{α:Type}(xs:List α)(k:Int):List α:=(aju k.toNat xs).flatten
def jh(p q:PV)(h:Y3):Res PV:=match p,q with
 |.int i,.int j=>if jO i j=true then .ok (.int (i * j)) h else .bad
 |.str a,.int k=>if VJ 1048576 k=true/\a.length * k.toNat<=1048576 then .ok (.str (rB a k)) h else .bad
 |p,.int k=>match Yb h p with
  |some xs=>if VJ 9223372036854775808 k=true/\xs.length * k.toNat<=ajx then .ok (.lst (rB xs k)) h else .bad
  |_=>.bad
 |_,_=>.bad
def DL(p q:PV)(h:Y3):Res PV:=match p,q with
 |.tup xs,.int k=>if VJ 9223372036854775808 k=true/\xs.length * k.toNat<=ajx then .ok (.tup (rB xs k)) h else .bad
 |p,q=>jh p q h
noncomputable def vR(p:PV)(h:Y3):Res PV:=match p with
 |.int i=>.ok (.int (-i)) h
 |_=>.bad
def bW:VJ n i=true↔ -(n:Int)<i/\i<(n:Int):=by
 unfold VJ;rw[Nat.blt_eq]
 lia
def FG(a b:Y1):S a++S b=S (a++b):=by show(⟨(S a).cps++(S b).cps⟩:Str)=_;simp[S]
section
variable{a b:Expr}{fb:Ex}
def MJ:Xa X (akH .Add) aE:=fun{w h p q u v Q E} I rp rq k=>by
 unfold aE at k
 split at k
 .obtain⟨a,k_,rfl,⟨n,e⟩,z,r⟩:=I.sq (ps:=[]) rp rfl;obtain⟨b,Uo,rfl,⟨n',e'⟩,_⟩:=I.sq rq rfl;exact aiG ⟨_,e,rfl⟩ ⟨_,e',rfl⟩ aht ain F.slot_tuple_add F.entry_tuple_add (F.args_tuple_add_2 _ _) (tuple_addW0 a b _ _ n n' _ _ _ _ (by have:=r.len;simpa using this.symm)) ⟨e,e',k.here I.toHR rq⟩
 .unfold yY at k
  split at k
  .cases rp;obtain⟨_,rfl⟩:=rq.vi;exact add_int (k.now I.toHR (.int _ _))
  .cases rp;obtain rfl:=rq.vb;exact add_int_bool (k.now I.toHR (.int _ _))
  .split at k
   .cases rp;obtain⟨_,rfl⟩:=rq.vs;exact add_str (fun _ _=>by rw[FG];exact k.now I.toHR (.str _ _)) (by rw[dH,dH];assumption)
   .exact k.elim
  .split at k
   .rename_i xs ys _ c;obtain⟨a,k_,rfl,x,z,r⟩:=I.sq rp rfl;obtain⟨b,Uo,rfl,y,_,r'⟩:=I.sq rq rfl;have l:=r.len;have l':=r'.len;refine Z.Zv (vs:=k_.toList) (ws:=Uo.toList) x.tup y.tup (fun z=>?_) (fun z=>?_) (fun z=>?_) (by simp;lia)
    .obtain rfl:xs= []:=(by simp at z;simpa[z]using l)
     cases c.1
    .obtain rfl:ys= []:=(by simp at z;simpa[z]using l')
     rw[aep]at k;exact k.here I.toHR rp
    .exact k.seq I.toHR rfl (by simpa using r.app r') (by simp;lia)
   .exact k.elim
  .split at k
   .rename_i xs ys e1 e2
    split at k
    .obtain⟨a,k_,rfl,⟨_,x⟩,z,r⟩:=I.sq rp (mW e1);obtain⟨b,Uo,rfl,⟨_,y⟩,_,r'⟩:=I.sq rq (mW e2);have l:=r.len;have l':=r'.len;exact aiS x y (k.seq I.toHR rfl (by simpa using r.app r') (by simp;lia)) ⋯
    .exact k.elim
   .exact k.elim
def o_I{op:Operator}{C:Int->Int->Bool}{g:Int->Int->Int}(o:∀{i j t t' s Q} {E:Yf},C i j=true->Q (.int (g i j) s.toks) { s with toks:=s.toks+1 }->Wp X (akH op (.int i t) (.int j t')) Q E s):Xa X (akH op) (pI C g):=fun I rp rq k=>by
 unfold pI at k
 split at k
 .cases rp;obtain⟨_,rfl⟩:=rq.vi
  split at k
  .exact o ‹_› (k.now I.toHR (.int _ _))
  .exact k.elim
 .exact k.elim
def GJ(ha:RE X a fa)(hb:RE X b fb):RE X (.BinOp a .Add b pos) (c2 aE fa fb):=rC MJ ha hb
def JL(ha:RE X a fa)(hb:RE X b fb):RE X (.BinOp a .Sub b pos) (c2 oP fa fb):=rC (fun I rp rq k=>by
 unfold oP at k
 split at k
 .cases rp;obtain⟨_,rfl⟩:=rq.vi;exact sub_int (k.now I.toHR (.int _ _))
 .exact k.elim) ha hb
def JT(ha:RE X a fa)(hb:RE X b fb):RE X (.BinOp a .Mod b pos) (c2 bt fa fb):=rC (o_I fun{i j t t' s Q E} c q=>by have c:=ajG c;exact mod_int' ⋯ (by rw[Int.fmod_eq_emod_of_nonneg i ⋯];exact q)) ha hb
def GD(ha:RE X a fa)(hb:RE X b fb):RE X (.BinOp a .FloorDiv b pos) (c2 bZ fa fb):=rC (o_I fun{i j t t' s Q E} c q=>by have c:=ajG c;exact floordiv_int ⋯ (by rw[Int.fdiv_eq_ediv_of_nonneg i ⋯];exact q) (.inl (PyProof.noPylong_small ⋯))) ha hb
def JN(ha:RE X a fa)(hb:RE X b fb):RE X (.BinOp a .Pow b pos) (c2 BR fa fb):=rC (o_I fun c q=>have c:=ajG c;pow_int_small c.1 c.2.1 c.2.2 q) ha hb
def JR(ha:RE X a fa):RE X (.UnaryOp .USub a pos) (c1 vR fa):=Ml (fun I rp k=>by
 unfold vR at k
 split at k
 .cases rp;exact neg_int (k.now I.toHR (.int _ _))
 .exact k.elim) ha
def EL(l:Array Value)(k:Nat):ak5 (fun x1 x2=>x1++x2) #[] (aju k l)=(aju k l.toList).flatten.toArray:=by have:=oV l.toList k [];simpa using this
def Oi(a:Y1)(k:Int):Txt.mul (S a) k=S (rB a k):=by
 unfold Txt.mul rB
 have f:∀(k:Nat)(acc:Y1),(aju k a.toArray).foldl (· ++ ·) acc.toArray=(acc++(aju k a).flatten).toArray:=fun k=>by
  induction k with
  |zero=>simp
  |succ k ih=>intro acc;rw[ae0,agY,ae0,ae4,<- aeK,<- ih (acc++a)];congr 1;simp
 split
 .rw[show k.toNat=0 by lia];rfl
 .split
  .rename_i h1 h2;rcases afO _ _▸h2 with z|z
   .obtain rfl:k=1:=by simpa using z
    simp
   .obtain rfl:a= []:=by rw[dH]at z;simpa using z
    simp
  .show(⟨_⟩:Str)=⟨_⟩
   congr 1
   exact(f k.toNat []).trans (by simp)
def My:Xa X (akH .Mult) DL:=fun{w h p q u v Q E} I rp rq k=>by
 unfold DL at k
 split at k
 .split at k
  .rename_i xs n hz;have hk:=bW.mp hz.1;obtain⟨_,rfl⟩:=rq.vi;obtain⟨l,k_,rfl,⟨_,e⟩,z,r⟩:=I.sq rp rfl;have ln:=r.len
   refine ahd (T:="tuple") (U:="int") ⋯ ⟨_,e,rfl⟩ (fun s'=>ais s' _ _) Bw F.fills_int_mul F.slot_int_rmul xh F.slot_int_index.lookup
    (agt F.slot_int_rmul (ais w.s _ _) F.entry_int_rmul (F.args_int_rmul_2 _ _) (yO _ _ l k_ _ _ _) ⟨e,rfl,⟨_,e,rfl⟩,agt F.slot_tuple_mul ⟨_,e,rfl⟩ F.entry_tuple_mul (F.args_tuple_mul_2 _ _) (Bt l k_.toList _ _ _ _ _ ⋯ ⋯ (by simp;rw[<- ln];exact hz.2)) ⟨e,fun c=>?_,k.seq I.toHR rfl (r.rep _) (by rw[afx,wb,<- r.length,ahI];exact hz.2)⟩⟩)
   rw[show rB xs n=xs by
    rcases c with c|rfl
    .obtain rfl:xs= []:=by simp at c;simpa[c]using ln
     simp[rB]
    .simp[rB]]at k
   exact k.here I.toHR rp
  .exact k.elim
 .unfold jh at k
  split at k
  .cases rp;obtain⟨_,rfl⟩:=rq.vi
   split at k
   .rename_i hc;unfold jO at hc;rw[afO,afO,bW,bW]at hc
    exact mul_int (k.now I.toHR (.int _ _)) (by
     rcases hc with c|c|c
     .exact .of_left (intBits_le_64 c.1 c.2)
     .exact .of_right (intBits_le_64 c.1 c.2)
     .exact IntMulOk.of_le (aeB _) (aeB _) (ajG c))
   .exact k.elim
  .rename_i a n _
   cases rp;obtain⟨_,rfl⟩:=rq.vi
   split at k
   .rename_i hc;obtain⟨h1,h2⟩:=bW.mp hc.1;have h3:=hc.2;refine SB.mul ⟨by simp;lia,fun g1 g2=>?_,fun g1 g2=>?_⟩ fun _ _=>by rw[Oi];exact k.now I.toHR (.str _ _)
    .have:a.length * 1<=a.length * n.toNat:=Nat.mul_le_mul_left _ ⋯
     have:(2:Int) ^ 20<=(2 ^ 63 - 1) / n:=by
      rw[Int.le_ediv_iff_mul_le ⋯];have:(2:Int) ^ 20 * n<=2 ^ 20 * 2 ^ 20:=af7 ⋯ ⋯
      lia
     rw[dH];lia
    .rw[dH];have:(2:Nat) ^ 20<=ajx:=by decide
     simp[Builtin.Str.tooLong];lia
   .exact k.elim
  .rename_i n _ _ _;obtain⟨_,rfl⟩:=rq.vi
   split at k
   .rename_i xs e'
    split at k
    .rename_i hz;have hk:=bW.mp hz.1;obtain⟨l,k_,rfl,⟨_,e⟩,z,r⟩:=I.sq rp (mW e');have ln:=r.len;have hl:=hz.2;rw[ln]at hl;have:(ajx:Nat)<=(2 ^ 63 - 1) / 8:=by decide
     refine ahd (T:="list") (U:="int") ⋯ ⟨_,e,rfl⟩ (fun s'=>ais s' _ _) noFill_list_mul F.fills_int_mul F.slot_int_rmul repeat_list F.slot_int_index.lookup
      (agt F.slot_int_rmul (ais w.s _ _) F.entry_int_rmul (F.args_int_rmul_2 _ _) (int___rmul___int_list _ _ l k_ _) ⟨e,rfl,⟨_,e,rfl⟩,agt F.slot_list_mul ⟨_,e,rfl⟩ F.entry_list_mul (F.args_list_mul_2 _ _) (AutoListH.list___mul___list_int_3 l k_ _ n _ (by rw[fitsIndex_both ⋯ ⋯];exact af9) ⋯ (by rw[DW hl];exact af9)) ⟨e,?_⟩⟩)
     rw[EL,show(aju (if k_.isEmpty=true then 0 else n.toNat) k_.toList).flatten=(aju n.toNat k_.toList).flatten by split<;>simp_all];exact k.seq I.toHR rfl (r.rep _) (by rw[afx,wb,<- r.length,ahI];exact hz.2)
    .exact k.elim
   .exact k.elim
  .exact k.elim
end
mutual
noncomputable def toD:PV->PyData
 |.non=>.none
 |.bl b=>.bool b
 |.int i=>.int i
 |.str l=>.str (S l)
 |.tup xs=>.tuple (jN xs)
 |.lst xs=>.list (jN xs)
 |.X5 xs=>.list (jN xs)
 |_=>.dict []
noncomputable def jN:Y2->List PyData
 |[]=>[]
 |x::r=>toD x::jN r
end
noncomputable def Vr(h:Y3):PV->PyData
 |.ref i=>match h[i]? with
  |some (.lst xs)=>.list (jN xs)
  |_=>.dict []
 |p=>toD p
def Vx(h:Y3)(p:PV):Bool:=(Vr h p).canLay0&&decide ((Vr h p).depth<=60)
def v9(p q:PV)(h:Y3):Res PV:=if Vx h p=true/\Vx h q=true then .ok (.bl (ajU (Vr h p) (Vr h q))) h else .bad
def Tv(p q:PV)(h:Y3):Res PV:=if Vx h p=true/\Vx h q=true then .ok (.bl (!PyData.eqv (Vr h p) (Vr h q))) h else .bad
noncomputable def yX(g:Int->Int->Bool)(p q:PV)(h:Y3):Res PV:=match p,q with
 |.int i,.int j=>.ok (.bl (g i j)) h
 |_,_=>.bad
abbrev Tw:=yX fun i j=>decide (i<j)
abbrev pLe:=yX fun i j=>decide (i<=j)
abbrev ZD:=yX fun i j=>decide (j<i)
abbrev pGe:=yX fun i j=>decide (j<=i)
noncomputable def oj:PV->Bool
 |.non=>true
 |_=>ajt
def Wn(p q:PV)(h:Y3):Res PV:=match q with
 |.non=>.ok (.bl (oj p)) h
 |_=>.bad
def rO(p q:PV)(h:Y3):Res PV:=match q with
 |.non=>.ok (.bl (!oj p)) h
 |_=>.bad
def pX(p q:PV)(h:Y3):Res PV:=match p with
 |.dct _=>(match q with
  |.str _=>.ok (.bl ajt) h
  |_=>.bad)
 |p=>v9 p q h
def fD(g g':PV->PV->Y3->Res PV)(a b c:Ex):Ex:=fun ρ h=>(a ρ h).bind fun x h1=>(b ρ h1).bind fun y h2=>(g x y h2).bind fun z h3=>match z with
 |.bl ajt=>.ok (.bl ajt) h3
 |.bl true=>(c ρ h3).bind fun u h4=>g' y u h4
 |_=>.bad
def au(f:Ex):Tx:=fun ρ h=>(f ρ h).bind fun p h1=>match p with
 |.bl b=>.ok b h1
 |_=>.bad
def eG(f:Tx):Tx:=fun ρ h=>(f ρ h).bind fun b h1=>.ok (!b) h1
def cg(f g:Tx):Tx:=fun ρ h=>(f ρ h).bind fun b h1=>if b=true then g ρ h1 else .ok ajt h1
def jY(f g:Tx):Tx:=fun ρ h=>(f ρ h).bind fun b h1=>if b=true then .ok true h1 else g ρ h1
def jT(f g:Ex):Ex:=fun ρ h=>(f ρ h).bind fun p h1=>match p with
 |.bl b=>if b=true then g ρ h1 else .ok (.bl ajt) h1
 |_=>.bad
def Yg(f g:Ex):Ex:=fun ρ h=>(f ρ h).bind fun p h1=>match p with
 |.bl b=>if b=true then .ok (.bl true) h1 else g ρ h1
 |_=>.bad
def Lq(f:Ex):Ex:=fun ρ h=>(f ρ h).bind fun p h1=>match p with
 |.bl b=>.ok (.bl (!b)) h1
 |_=>.bad
def gG(t:Tx)(f g:Ex):Ex:=fun ρ h=>(t ρ h).bind fun b h1=>if b=true then f ρ h1 else g ρ h1
noncomputable def dcM(h:Y3):PV->Option (List (PK×PV))
 |.ref i=>match h[i]? with
  |some (.dct kvs)=>some kvs
  |_=>none
 |_=>none
noncomputable def oH(h:Y3):PV->Option Bool
 |.non=>some ajt
 |.bl b=>some b
 |.int i=>some (i !=0)
 |.str l=>if l.length<=ajx then some (!l.isEmpty)else none
 |p=>match Z0 h p with
  |some xs=>some (!xs.isEmpty)
  |none=>match dcM h p with
   |some kvs=>some (!kvs.isEmpty)
   |none=>none
def aU(f:Ex):Tx:=fun ρ h=>(f ρ h).bind fun p h1=>match oH h1 p with
 |some b=>.ok b h1
 |none=>.bad
theorem cf.imp{β:Type}{R:Wo->α->β->Prop}{w:Wo}{Q Q':β->Shared->Prop}{r:Res α}(p:cf X R w Q E r)(k:∀x s,Q x s->Q' x s):cf X R w Q' E r:=match r with
 |.ok _ _=>⟨p.1,fun w' x y q=>k _ _ (p.2 w' x y q)⟩
 |.exc _ _=>p
 |.bad=>p
section
variable{w:Wo}
def aO.reads(H:HR G w h){p:Y2}{u:Z3}(r:aO G w.F w.m p u):ajK (jN p)=true->∃as,ReadsAll w.s.heap u (jN p) as:=
 aO.rec (motive_1:=fun p u _=>(toD p).canLay0=true->∃as,Reads w.s.heap u (toD p) as) (motive_2:=fun p u _=>ajK (jN p)=true->∃as,ReadsAll w.s.heap u (jN p) as) (fun _=>⟨_,.none⟩) (fun b _=>⟨_,.bool b⟩) (fun i t _=>⟨_,.int i t⟩) (fun x t _=>⟨_,.str _ t⟩) (fun _=>nofun) (fun _=>nofun) (fun e _ _ i c=>let⟨_,q⟩:=i c;⟨_,.tuple (H.at e) rfl rfl q⟩) (fun e _ _ i c=>let⟨_,q⟩:=i c;⟨_,.list (H.at e) rfl rfl q⟩) (fun e _ _ i c=>let⟨_,q⟩:=i c;⟨_,.list (H.at e) rfl rfl q⟩) (fun _ _ _ _ _ _ _=>nofun) (fun _ _ _ _=>nofun) (fun _=>nofun) (fun _ _ _ _=>nofun) (fun _ _ _ _ _ _ _ _ _ _=>nofun) (fun _=>⟨_,.nil⟩) (fun _ _ i j c=>let⟨a,b⟩:=(ael _ _▸c:);let⟨_,q⟩:=i a;let⟨_,q'⟩:=j b;⟨_,.cons q q'⟩) r
theorem bx.reads(H:HR G w h){p:PV}{u:Value}(r:bx G w.F w.m p u)(c:(toD p).canLay0=true):∃as,Reads w.s.heap u (toD p) as:=by obtain⟨_,q⟩:=aO.reads H (.cons r .nil) (show(_&&_)=true by rw[c];rfl);cases q;exact⟨_, ‹_›⟩
theorem HR.reads(H:HR G w h){p:PV}{u:Value}(r:bx G w.F w.m p u)(c:(Vr h p).canLay0=true):∃as,Reads w.s.heap u (Vr h p) as:=by
 unfold Vr at c |-
 split
 .split
  .rename_i q
   cases r with
   |ref e=>obtain⟨_,k_,n,e,_,r⟩:=H.obj _ _ _ q e;simp only[q,ajH]at c;obtain⟨as,q⟩:=r.reads H c;exact⟨_,.list e rfl rfl q⟩
  .rename_i q;revert c;dsimp only;split
   .rename_i q';exact absurd q' (q _)
   .simp[ajH]
 .rename_i q;have e:Vr h p=toD p:=by unfold Vr;split;exact absurd rfl (q _);rfl
  exact r.reads H (by rw[<- e];exact c)
end
section
variable{w:Wo}{a b c:Expr}{fb fc:Ex}{ta tb:Tx}{rest:List Expr}
def yZ(b:Expr)(h:op≠.In:=by decide)(h2:op≠.NotIn:=by decide):aky op b=ajt:=by
 have e1:(op==CmpOp.In)=ajt:=by cases op<;>first|rfl|exact absurd rfl h
 have e2:(op==CmpOp.NotIn)=ajt:=by cases op<;>first|rfl|exact absurd rfl h2
 cases b<;>simp[aky,e1,e2]
def Ki(hu:X.A.units+64<akz):Xa X (ajM .Eq) v9:=fun{w h p q u v Q E} I rp rq k=>by
 unfold v9 Vx at k
 split at k
 .rename_i c;simp only[ael,ajE]at c;obtain⟨as,ra⟩:=I.reads rp c.1.1;obtain⟨bs,rb⟩:=I.reads rq c.2.1;exact SeqAt.compareEq_reads ra rb c.1.1 c.2.1 (by have:=ai6 (Vr h p).depth (Vr h q).depth;lia) (k.here I.toHR (.bl _))
 .exact k.elim
def Ke(hu:X.A.units+64<akz):Xa X (ajM .NotEq) Tv:=fun{w h p q u v Q E} I rp rq k=>by
 unfold Tv Vx at k
 split at k
 .rename_i c;simp only[ael,ajE]at c;obtain⟨as,ra⟩:=I.reads rp c.1.1;obtain⟨bs,rb⟩:=I.reads rq c.2.1;exact SeqAt.compareNe_reads ra rb c.1.1 c.2.1 (by have:=ai6 (Vr h p).depth (Vr h q).depth;lia) (k.here I.toHR (.bl _))
 .exact k.elim
def GX{g:Int->Int->Bool}(o:∀{i j t t' s Q} {E:Yf},Q (.bool (g i j)) s->Wp X (ajM op (.int i t) (.int j t')) Q E s):Xa X (ajM op) (yX g):=fun I rp rq k=>by
 unfold yX at k
 split at k
 .cases rp;obtain⟨_,rfl⟩:=rq.vi;exact o (k.here I.toHR (.bl _))
 .exact k.elim
def MA:Xa X (ajM .Lt) Tw:=GX lt_int
def Kf:Xa X (ajM .LtE) pLe:=GX le_int
def MG:Xa X (ajM .Gt) ZD:=GX gt_int
def Pj:Xa X (ajM .GtE) pGe:=GX ge_int
def uE{F:Fz}(r:bx G F m p u):(u==Value.none)=oj p:=by cases r<;>rfl
def MC:Xa X (ajM .Is) Wn:=fun I rp rq k=>by
 unfold Wn at k
 split at k
 .cases rq;exact is_none_gen (uE rp▸k.here I.toHR (.bl _))
 .exact k.elim
def Kc:Xa X (ajM .IsNot) rO:=fun I rp rq k=>by
 unfold rO at k
 split at k
 .cases rq;exact isnot_none_gen (uE rp▸k.here I.toHR (.bl _))
 .exact k.elim
def iP(o:Xa X (ajM op) g)(hm:aky op b=ajt)(ha:RE X a fa)(hb:RE X b fb):RT X (.Compare a [op] [b] pos) (au (c2 g fa fb)) where
 r I p:=wpAny_isTrue_Compare1 (two o ha hb I (p.bind fun _ _ q _ y r p=>by
  cases r with
  |bl=>exact afK (p.here y.2 rfl)
  |_=>exact p.elim)) hm
structure RW(X:Cx)(e:Expr)(f:Tx):Prop where
 r:∀{whole:Sem Value}{w:Wo}{ρ:Ev}{h:Y3}{Q:Bool->Shared->Prop}{E:Yf},Inv X w ρ h->cf X (fun _ a b=>a=b) w Q E (f ρ h)->Wp X (isTrue e X.env whole) Q E w.s
def RW.rt{f:Tx}(h:RW X a f):RT X a f:=⟨h.r⟩
def Jy(ha:RT X a ta):RT X (.UnaryOp .Not a pos) (eG ta):=⟨fun I p=>isTrue_not (ha.r I (p.bind fun _ _ _ _ y r p=>p.here y.2 (r▸rfl)))⟩
def Gg(ha:RT X a ta):RW X (.BoolOp .And [a] pos) ta:=⟨fun{_ _ _ _ Q _} I p=>isTrue_and (ha.r I (cf.imp p fun b s q=>by cases b;exact q;exact isTrue_and_nil q))⟩
def Jv(ha:RT X a ta):RW X (.BoolOp .Or [a] pos) ta:=⟨fun{_ _ _ _ Q _} I p=>isTrue_or (ha.r I (cf.imp p fun b s q=>by cases b;exact isTrue_or_nil q;exact q))⟩
def De(ha:RT X a ta)(hb:RW X (.BoolOp .And (b::rest) pos) tb):RW X (.BoolOp .And (a::b::rest) pos) (cg ta tb):=⟨fun I p=>isTrue_and (ha.r I (p.bind fun _ _ c _ y r p=>by
 subst r
 cases c
 .exact p.here y.2 rfl
 .exact hb.r (I.on y) p))⟩
def Ir(ha:RT X a ta)(hb:RW X (.BoolOp .Or (b::rest) pos) tb):RW X (.BoolOp .Or (a::b::rest) pos) (jY ta tb):=⟨fun I p=>isTrue_or (ha.r I (p.bind fun _ _ c _ y r p=>by
 subst r
 cases c
 .exact hb.r (I.on y) p
 .exact p.here y.2 rfl))⟩
def JO{op}(ha:RE X a fa):RE X (.BoolOp op [a] pos) fa:=⟨fun I p=>BoolOp_one (ha.r I p)⟩
theorem JY(ha:RE X a fa)(hb:RE X (.BoolOp .And (b::rest) pos) fb):RE X (.BoolOp .And (a::b::rest) pos) (jT fa fb):=⟨fun I p=>BoolOp_and (ha.r I (p.bind fun _ _ c _ y r p=>by
 cases r with
 |bl c=>exact afK (by cases c;exact p.here y.2 (.bl _);exact hb.r (I.on y) p)
 |_=>exact p.elim))⟩
theorem Mm(ha:RE X a fa)(hb:RE X (.BoolOp .Or (b::rest) pos) fb):RE X (.BoolOp .Or (a::b::rest) pos) (Yg fa fb):=⟨fun I p=>BoolOp_or (ha.r I (p.bind fun _ _ c _ y r p=>by
 cases r with
 |bl c=>exact afK (by cases c;exact hb.r (I.on y) p;exact p.here y.2 (.bl _))
 |_=>exact p.elim))⟩
theorem JP(ha:RE X a fa):RE X (.UnaryOp .Not a pos) (Lq fa):=⟨fun I p=>UnaryOp_ (ha.r I (p.bind fun _ _ c _ y r p=>by
 cases r with
 |bl c=>exact not_of (afK (p.here y.2 (.bl _)))
 |_=>exact p.elim))⟩
def Dx(hc:RT X c ta)(ha:RE X a fa)(hb:RE X b fb):RE X (.IfExp c a b pos) (gG ta fa fb):=⟨fun I p=>wpAny_IfExp (hc.r I (p.bind fun _ _ c _ y r p=>by
 subst r
 cases c
 .exact hb.r (I.on y) p
 .exact ha.r (I.on y) p))⟩
end
noncomputable def bY(ps:Y2)(h:Y3):Res PV:=if ps.length<=ajx then .ok (.lst ps) h else .bad
noncomputable def dD(ps:Y2)(h:Y3):Res PV:=if ps.length<=ajx then .ok (.ref h.length) (h++ [.lst ps])else .bad
noncomputable def aW(ps:Y2)(h:Y3):Res PV:=if ps.length<=ajx then .ok (.tup ps) h else .bad
def DO.of{g:Heap}(d:DO G o kvs)(e:g.get? a=some o):g.DictOf (pk G.prog G.w) a kvs:=let⟨x,es,ep,y,z⟩:=d;⟨o,es,ep,e,x,y,z⟩
section
variable{w:Wo}{Sw:List (PK×PV)}
def LF(G:SC)(w:Wo)(Sw:List (PK×PV))(kvs:List (PK×Value)):Prop:=kvs.length<=ajx/\kvs.map (·.1)=Sw.map (·.1)/\aO G w.F w.m (Sw.map (·.2)) (kvs.map (·.2))
inductive Dc0(G:SC)(w:Wo)(u:Value)(Sw:List (PK×PV)):Prop where
 |mk (a:Addr) (kvs:List (PK×Value)) (_:u=.ref a) (_:(a==akr)=ajt) (_:w.s.heap.DictOf (pk G.prog G.w) a kvs) (_:LF G w Sw kvs)
def HR.dc(H:HR G w h)(r:bx G w.F w.m p u)(k:Y5 h p=some Sw):Dc0 G w u Sw:=by
 unfold Y5 at k
 split at k
 .cases k
  cases r with
  |dct e d y z c r=>exact⟨_,_,rfl,y,d.of (H.at e),z,c,r⟩
 .split at k
  .rename_i q
   cases k
   cases r with
   |ref e=>obtain⟨_,o,kvs,e,d,y,z⟩:=H.obj _ _ _ q e;exact⟨_,kvs,rfl,y,d.of e,z⟩
  .cases k
 .cases k
def aO.sz{F:Fz}(r:aO G F m ps us)(z:ps.length<=ajx):us.toArray.size<=ajx:=aeI (aiL r.length.symm) z
def LF.len(r:LF G w Sw kvs):kvs.length=Sw.length:=by have:=aj0 ak3 r.2.1;simpa using this
def NN(k:dcM h p=some Sw):Y5 h p=some Sw:=by
 unfold dcM at k
 split at k
 .exact k
 .cases k
end
section
variable{w:Wo}{a b e:Expr}{fb:Ex}{f:Ax}{p0:Pos}{id:String}{g:Y2->Y3->Res PV}
def Wd.tru(I:Wd X w h){c:Bool}{Q:Bool->Shared->Prop}(r:bx X.toSC w.F w.m p u)(k:oH h p=some c)(q:cf X (fun _ a b=>a=b) w Q E (.ok c h)):Wp X (truthy u) Q E w.s:=by
 have l:ajx=16777216:=afW;unfold oH at k
 split at k
 .cases k;obtain rfl:=r.vn;exact truthy_none (q.here I.toHR rfl)
 .cases k;obtain rfl:=r.vb;exact afK (q.here I.toHR rfl)
 .cases k;obtain⟨_,rfl⟩:=r.vi;exact PySem.P.truthy_int (q.here I.toHR rfl)
 .obtain⟨_,rfl⟩:=r.vs
  split at k
  .cases k
   exact PySem.P.truthy_str (by rw[dH];lia) (q.now I.toHR (by rw[dH];cases ‹Y1›;rfl;symm;simp;lia))
  .cases k
 .split at k
  .rename_i e
   cases k
   obtain⟨t,e,ht⟩:=yI e
   replace r:=I.sq r e
   obtain⟨a,k_,rfl,y,z,r⟩:=r
   have n:k_.isEmpty=(‹Y2›).isEmpty:=by
    have:=r.len
    cases k_;rename_i l;cases l<;>cases ‹Y2› <;>simp_all
   rcases ht with rfl|rfl
   .exact truthy_tuple y.tup ⋯ (q.now I.toHR (by rw[n]))
   .exact wpAny_truthy_list y.pl.isList ⋯ (q.now I.toHR (by rw[n]))
  .split at k
   .rename_i e
    cases k
    replace r:=I.dc r (NN e)
    obtain⟨a,kvs,rfl,y,d,r⟩:=r;exact wpAny_truthy_dict y d (by have:=r.1;lia) (q.now I.toHR (by have:=r.len;cases kvs<;>cases ‹List (PK×PV)› <;>simp_all))
   .cases k
theorem Jx(ha:RE X a fa)(he:∀whole,isTrue a X.env whole=(do let v <- whole;standAt a.pos;akP [v] (truthy v)):=by intro _;rfl):RT X a (aU fa):=⟨fun I p=>isTrue_plain (ha.r I (p.bind fun _ h1 q _ y r p=>by
 cases e:oH h1 q with
 |none=>rw[e]at p;exact p.elim
 |some b=>rw[e]at p;exact(I.on y).toWd.tru r e p)) (he _)⟩
def JK{k}(ha:RA X es f):RE X (.Tuple es k pos) (cN aW f):=⟨fun I p=>wpAny_Tuple_spliced (ha.r _ I (p.bind fun _ _ ps us y r p=>by
 unfold aW at p
 split at p
 .exact⟨r.length▸ ‹_›,p.seq (ps:=ps) y.2 rfl r (r.sz ‹_›)⟩
 .exact p.elim))⟩
def JV(ha:RA X es f):RE X (.List es pos) (cN bY f):=⟨fun I p=>air (ha.r _ I (p.bind fun _ _ ps us y r p=>by
 unfold bY at p
 split at p
 .exact⟨r.length▸ ‹_›,p.seq (ps:=ps) y.2 rfl r (r.sz ‹_›)⟩
 .exact p.elim))⟩
def GC(ha:RA X es f):RE X (.List es pos) (cN dD f):=⟨fun I p=>air (ha.r _ I (p.bind fun _ _ ps us y r p=>by
 unfold dD at p
 split at p
 .exact⟨r.length▸ ‹_›,p.lm (ps:=ps) y.2 r (r.sz ‹_›)⟩
 .exact p.elim))⟩
def Gl(X:Cx)(x:Str):Prop:=X.env.kindOf x=some .globalImplicit
def Inv.ZG(I:Inv X w ρ h)(hg:Gl X x)(hm:X.mg x=some u)(q:Q u w.s)(hd:nD0 x:=by decide):Wp X (eval (.Name x p0) X.env) Q E w.s:=
 ahc I.ok.kind hg (Calls.loadGlobal_global (by rw[I.ok.glob];exact I.ok.gl.keeps fun _ _ e=>I.bk e) hm q) hd
theorem Inv.blt(I:Inv X w ρ h){u:Value}{Q:Yf}{E:Yf}(hg:Gl X x)(hm:X.mg x=none)(hv:ajV x=some u)(q:Q u w.s)(hn:x≠"__name__":=by decide)(hd:nD0 x:=by decide):Wp X (eval (.Name x p0) X.env) Q E w.s:=
 let⟨mb,h1,h2⟩:=I.ok.bl
 ahc I.ok.kind hg (Calls.loadGlobal_builtin (by rw[I.ok.glob];exact I.ok.gl.keeps fun _ _ e=>I.bk e) hm (by rw[I.ok.blt];exact h1.keeps fun _ _ e=>I.bk e) ((h2 x hn).trans hv) q) hd
def Yh(X:Cx)(f:Value)(g:Y2->Y3->Res PV):Prop:=X.Ok->OpN X (fun us=>call f us) g
def DB(o:Yh X (.builtin id) g)(hg:Gl X x)(hm:X.mg x=none)(hv:ajV x=some (.builtin id))(ha:RA X (e::es) f)(hn:x≠"__name__")(V6:(x==("__debug__":Str))=ajt)(he:ajF (e::es) X.env=(ajt,eval e X.env)::ajF es X.env)(Yc:(akd pos (ajF es X.env)).any (·.1)=ajt):RE X (.Call (.Name x p0) (e::es) [] pos) (cN g f):=
 ⟨fun I p=>afd (I.blt hg hm hv (callWith_builtin1 (ha.r pos I (p.bind fun _ _ _ _ y r p=>o I.ok (I.on y).toWd r p)) he Yc) hn V6)⟩
def BN(o:Yh X (.type id) g)(hg:Gl X x)(hm:X.mg x=none)(hv:ajV x=some (.type id))(ha:RA X (e::es) f)(hn:x≠"__name__")(V6:(x==("__debug__":Str))=ajt)(he:ajF (e::es) X.env=(ajt,eval e X.env)::ajF es X.env)(Yc:(akd pos (ajF es X.env)).any (·.1)=ajt):RE X (.Call (.Name x p0) (e::es) [] pos) (cN g f):=
 ⟨fun I p=>afd (I.blt hg hm hv (callWith_type1 (ha.r pos I (p.bind fun _ _ _ _ y r p=>o I.ok (I.on y).toWd r p)) he Yc) hn V6)⟩
end
noncomputable def Y0(n:Nat)(i:Int):Option Nat:=if 0<=i then(if i<n then some i.toNat else none)else if -(n:Int)<=i then some (i+n).toNat else none
def Sy{α:Type}(xs:List α)(i:Int):Option α:=(Y0 xs.length i).bind fun j=>xs[j]?
def AF{j:Nat}(h:Y0 n i=some j):seqIndex? i n=some j/\j<n/\ -(n:Int)<=i/\i<n:=by
 unfold Y0 at h
 by_cases h0:0<=i
 .rw[ajz h0]at h
  by_cases h1:i<n
  .rw[ajz h1]at h;have e:i.toNat=j:=aeW h;exact⟨by rw[ai3 h0 h1,e],by lia,by lia,h1⟩
  .rw[ajB h1]at h;cases h
 .rw[ajB h0]at h
  by_cases h1: -(n:Int)<=i
  .rw[ajz h1]at h;have e:(i+n).toNat=j:=aeW h;exact⟨by rw[aiF ⋯ h1,e],by lia,h1,by lia⟩
  .rw[ajB h1]at h;cases h
theorem wJ{xs:List α}{v:α}(h:Sy xs i=some v):∃j,seqIndex? i xs.length=some j/\xs[j]? =some v/\j<xs.length/\ -(xs.length:Int)<=i/\i<xs.length:=by
 unfold Sy at h
 cases e:Y0 xs.length i with
 |none=>rw[e]at h;cases h
 |some j=>rw[e]at h;obtain⟨h1,h2,h3,h4⟩:=AF e;exact⟨j,h1,h,h2,h3,h4⟩
noncomputable def uB:PV->Option PK
 |.int i=>some (.inl i)
 |.str l=>some (.inr l)
 |_=>none
noncomputable def yA(kvs:List (PK×PV))(k:PK):Option PV:=(kvs.find? fun kv=>decide (kv.1=k)).map (·.2)
def j5(p q:PV)(h:Y3):Res PV:=match p,q with
 |.str l,.int i=>match Sy l i with
  |some c=>if l.length<=ajx then .ok (.str [c]) h else .bad
  |none=>.bad
 |.tup xs,.int i=>match Sy xs i with
  |some v=>.ok (aA h v) h
  |none=>.bad
 |p,q=>match Y5 h p with
  |some kvs=>match uB q with
   |some k=>match yA kvs k with
    |some v=>.ok (aA h v) h
    |none=>.bad
   |none=>.bad
  |none=>match Yw h p with
   |some xs=>match q with
    |.int i=>match Sy xs i with
     |some v=>.ok (aA h v) h
     |none=>.bad
    |_=>.bad
   |none=>.bad
def cut{α:Type}(xs:List α)(lo hi:Zp):List α:=(xs.drop (Z.RP xs.length 0 lo)).take (Z.RP xs.length xs.length hi - Z.RP xs.length 0 lo)
abbrev Ox:=Ev->Y3->Res Zp
noncomputable def dG:Ox:=fun _ h=>.ok none h
def aS(f:Ex):Ox:=fun ρ h=>(f ρ h).bind fun p h1=>match p with
 |.int i=>.ok (some i) h1
 |_=>.bad
def pSl(p:PV)(lo hi:Zp)(h:Y3):Res PV:=match p with
 |.str l=>if l.length<=ajx then .ok (.str (cut l lo hi)) h else .bad
 |.tup xs=>if Z.RP xs.length 0 lo=0/\Z.RP xs.length xs.length hi=xs.length then .bad else .ok (.tup (cut xs lo hi)) h
 |p=>match Yw h p with
  |some xs=>.ok (.lst (cut xs lo hi)) h
  |none=>.bad
def rN(p:PV)(lo hi:Zp)(h:Y3):Res PV:=match p with
 |.tup xs=>if Z.RP xs.length 0 lo=0/\Z.RP xs.length xs.length hi=xs.length then .ok (.tup xs) h else .ok (.tup (cut xs lo hi)) h
 |p=>pSl p lo hi h
def cL(a:Ex)(lo hi:Ox):Ex:=fun ρ h=>(a ρ h).bind fun p h1=>(lo ρ h1).bind fun l h2=>(hi ρ h2).bind fun u h3=>rN p l u h3
def Me(lo hi:Zp)(n:Nat):ajL lo hi 1 n=(ajy (Z.RP n n hi - Z.RP n 0 lo)).map (Z.RP n 0 lo+ ·):=by
 rw[<- sliceRange_one];unfold ajL
 have e1:∀d:Nat,d<=n->∀o:Zp,(match o with|none=>(d:Int)|some i=>(if(1:Int)>0 then max 0 (min (if i<0 then i+(n:Int)else i) n)else max (-1) (min (if i<0 then i+(n:Int)else i) ((n:Int) - 1))))=((Z.RP n d o:Nat):Int):=by
  intro d hd o
  cases o with
  |none=>rfl
  |some i=>
   simp only[show(1:Int)>0 by decide,ajA,Z.RP]
   by_cases h:i<0
   .simp only[h,ajA];lia
   .simp only[h,ajQ];lia
 have e2:=e1 0 (aeL _) lo;have e3:=e1 n (aef _) hi;simp only[show(1:Int)>0 by decide,ajA]at e2 e3 |-;rw[<- e2,<- e3];rfl
def Ij(l:Y1)(lo hi:Zp):ak2 (S l) lo hi=S (cut l lo hi):=by
 unfold ak2;have hn:(S l).length=l.length:=dH l;rw[hn,Me];have hlo:=Z.Yk l.length 0 (aeL _) lo;have hhi:=Z.Yk l.length l.length (aef _) hi
 split
 .rename_i h
  have h':Z.RP l.length l.length hi - Z.RP l.length 0 lo=l.length:=by simpa using h
  have e0:Z.RP l.length 0 lo=0:=by lia
  unfold cut;rw[h',e0];simp
 .rw[pick_run];show(⟨_⟩:Str)=⟨_⟩
  unfold cut;simp[S]
def oU{F:Fz}{k:PK}(r:bx G F m p u)(e:uB p=some k):(pk G.prog G.w).is k u=true:=by cases r<;>cases e<;>simp[pk,kIs,Value.isInt,Value.isStrOf]
theorem qm{G:SC}{F:Fz}{m:Zs}:∀{Sw:List (PK×PV)}{kvs:List (PK×Value)},kvs.map (·.1)=Sw.map (·.1)->aO G F m (Sw.map (·.2)) (kvs.map (·.2))->∀k:PK,(∃p v,yA Sw k=some p/\akN kvs k=some v/\bx G F m p v)\/(yA Sw k=none/\akN kvs k=none)
 |[],[],_,_,k=>.inr ⟨rfl,rfl⟩
 |[],_::_,h,_,_=>by simp at h
 |_::_,[],h,_,_=>by simp at h
 |(a,p)::ps,(b,v)::vs,h,.cons r t,k=>by
  simp only[aeA,agZ]at h;obtain⟨rfl,h⟩:=h;unfold yA akN;rw[ai7,ai7]
  by_cases z:b=k
  .simp only[z,decide_true];exact .inl ⟨p,v,rfl,rfl,r⟩
  .simp only[z,decide_false];exact qm h t k
section
variable{w:Wo}{a b:Expr}{fb:Ex}{p2:Pos}
def Ph(value slice:Expr)(hs:∀o i,subscripted slice ajt o i=operate [o,i] (akK o i)):Xa X (subscriptTail value slice) j5:=fun{w h p q u u2 Q E} I rp rq k=>by
 have hl:ajx=16777216:=afW;unfold j5 at k
 split at k
 .cases rp;obtain⟨_,rfl⟩:=rq.vi
  split at k
  .rename_i c e
   split at k
   .rename_i z;obtain⟨j,h1,h2,h3,h4,h5⟩:=wJ e;exact ajb (agI w.s _ _) slot_str_getitem.lookup (getItem_str (c:=c) (by rw[agS];exact⟨ajv ⋯,ajv ⋯⟩) (by rw[dH,h1];simpa[S]using h2) (k.now I.toHR (.str [c] _))) (hs _ _)
   .exact k.elim
  .exact k.elim
 .obtain⟨_,rfl⟩:=rq.vi
  split at k
  .rename_i e;obtain⟨a,k_,rfl,y,z,r⟩:=I.sq rp rfl;obtain⟨j,h1,h2,h3,h4,h5⟩:=wJ e;obtain⟨u,eu,ru⟩:=r.get h2;have l:=r.len;exact ahF (x:=u) y.tup.typeIs ait.lookup (getItem_tuple (j:=j) (Q:=fun r s'=>r=u/\Q r s') y.tup ⋯ ⋯ (by rw[<- l];exact h1) (by simpa using eu) ⟨rfl,k.here I.toHR (I.Xo ru)⟩) (hs _ _)
  .exact k.elim
 .split at k
  .rename_i ed
   split at k
   .rename_i kk ek
    split at k
    .rename_i v ev;obtain⟨a,kvs,rfl,y,d,r⟩:=I.dc rp ed;rcases qm r.2.1 r.2.2 kk with⟨p1,v1,h1,h2,r1⟩|⟨h1,_⟩<;>rw[ev]at h1<;>cases h1
     have hT:w.s.TypeIs (.ref a) "dict":=d.mapOf.typeIs;unfold subscriptTail;refine aeg ?_;rw[getitemInPython_of_ne hT.not_modules];refine aeg (aga hT F.slot_dict_getitem.lookup ?_)
     have fin:Wp X (subscripted slice ajt (.ref a) u2) (fun r s₃=>Wp X (letTemporaryGo value (.ref a) r >>= fun _=>pure r) Q E s₃) E w.s:=by rw[hs];exact wpAny_operating (wpAny_getItem_of (oU rq ek) d.mapOf h2 (aeg (wpAny_letTemporaryGo (aeu (k.now I.toHR (I.Xo r1))))))
     first
      |exact aeu (aeg fin)
      |exact aeg (aeu (aeg fin))
      |exact aeg fin
    .exact k.elim
   .exact k.elim
  .split at k
   .rename_i el
    split at k
    .rename_i i _ _;obtain⟨_,rfl⟩:=rq.vi
     split at k
     .rename_i e;obtain⟨a,k_,rfl,y,z,r⟩:=I.sq rp (jP el);obtain⟨j,h1,h2,h3,h4,h5⟩:=wJ e;obtain⟨u,eu,ru⟩:=r.get h2;have l:=r.len;have fin:=k.here I.toHR (I.Xo ru)
      by_cases h0:0<=i
      .exact item_listR y.pl.isList h0 ⋯ (by rw[show i.toNat=j by rw[ai3 h0 h5]at h1;exact aeW h1];simpa using eu) fin (hs _ _)
      .exact ahF (x:=u) y.pl.isList.typeIs aiE.lookup (wpAny_getItem_list_neg (Q:=fun r s'=>r=u/\Q r s') y.pl.isList ⋯ ⋯ ⋯ (by rw[show(i+(k_.size:Int)).toNat=j by rw[aiF ⋯ h4]at h1;rw[<- l];exact aeW h1];simpa using eu) ⟨rfl,fin⟩) (hs _ _)
     .exact k.elim
    .exact k.elim
   .exact k.elim
def Mo(ha:RE X a fa)(hb:RE X b fb)(hs:∀o i,subscripted b ajt o i=operate [o,i] (akK o i):=by intro _ _;rfl):RE X (.Subscript a b pos) (c2 j5 fa fb):=⟨fun I p=>aiw (two (Ph a b hs) ha hb I p)⟩
structure RO(X:Cx)(e:Option Expr)(f:Ox):Prop where
 r:∀{w:Wo}{ρ:Ev}{h:Y3}{Q:Yf}{E:Yf},Inv X w ρ h->cf X (fun _ o u=>IsPart u o) w Q E (f ρ h)->Wp X (evalPart e X.env) Q E w.s
def Gv:RO X none dG:=⟨fun I p=>by rw[ahm];exact aeu (p.here I.toHR .none)⟩
def Gu(ha:RE X a fa):RO X (some a) (aS fa):=⟨fun I p=>by
 rw[aio]
 exact ha.r I (p.bind fun _ _ _ _ y r p=>by
  cases r with
  |int i t=>exact p.here y.2 (.int i t)
  |_=>exact p.elim)⟩
def Nw.also(H:HR X.toSC w h)(k:∀b o,w.s.heap.get? b=some o->s'.heap.get? b=some o)(ho:s'.os=w.s.os:=by rfl)(hg:s'.gens=w.s.gens:=by rfl):Nw X w { w with s:=s' } h:=
 ⟨⟨ho,fun q=>hg▸q,fun _ _ e=>e,fun _ _ e=>e,⟨[],by simp⟩,fun b o e=>⟨o,k b o e⟩,fun b o q _=>⟨o.slots,⟨k b o q.1,q.2⟩,.inr rfl⟩⟩,H.on fun b o e _=>k b o e⟩
theorem aO.cut{G:SC}{F:Fz}{m:Zs}{ps:Y2}{vs:Z3}(r:aO G F m ps vs)(lo hi:Zp):aO G F m (Z.cut ps lo hi) (Z.cut vs lo hi):=by unfold Z.cut;rw[<- r.length];exact((r.td _).2.td _).1
def kR(xs:List α)(lo hi:Zp):(Z.cut xs lo hi).length<=xs.length:=by
 unfold Z.cut;rw[ae5,aeV]
 lia
theorem Wd.sl(I:Wd X w h){p:PV}{u vl vu:Value}{lo hi:Zp}{sl:Addr}(rp:bx X.toSC w.F w.m p u)(hs:w.s.heap.IsSliceOf sl vl vu .none)(pl:IsPart vl lo)(pu:IsPart vu hi)(k:cf X (RV X.toSC) w Q E (rN p lo hi h)):∃T id,aj6 (.type T) "__getitem__"=pure (some (.builtin id))/\w.s.TypeIs u T/\Wp X (akK u (.ref sl)) Q E w.s:=by
 unfold rN at k
 split at k
 .obtain⟨a,k_,rfl,y,z,r⟩:=I.sq rp rfl;have l:=r.len;refine⟨"tuple",_,ait.lookup,y.tup.typeIs,?_⟩
  split at k
  .exact Z.V8 y.tup hs pl pu (by rw[<- l];assumption) (k.here I.toHR rp)
  .exact Z.V7 y.tup hs pl pu (by rw[<- l];assumption) (k.seq I.toHR rfl (r.cut lo hi) (aeI (kR k_.toList lo hi) z)) z
 .unfold pSl at k
  split at k
  .obtain⟨_,rfl⟩:=rp.vs
   split at k
   .refine⟨"str",_,F.slot_str_getitem.lookup,agI _ _ _,?_⟩;have fin:∀t k,Q (.str (ak2 (S _) lo hi) t) { w.s with toks:=k }:=fun t _=>by rw[Ij];exact k.now I.toHR (.str _ t)
    have hz:∀lo hi,(ak2 (S _) lo hi).length<=ajx:=fun lo hi=>aeI (Txt.slice_le _ _ _) (by rw[dH];assumption)
    cases pl with
    |none=>cases pu with
     |none=>exact afk (l:=none) (u:=none) (st:=none) hs rfl (agU ⟨hz _ _,fin⟩)
     |int j u=>exact afk (l:=none) (u:=some (j,u)) (st:=none) hs rfl (agU ⟨hz _ _,fin⟩)
    |int i t=>cases pu with
     |none=>exact afk (l:=some (i,t)) (u:=none) (st:=none) hs rfl (agU ⟨hz _ _,fin⟩)
     |int j u=>exact afk (l:=some (i,t)) (u:=some (j,u)) (st:=none) hs rfl (agU ⟨hz _ _,fin⟩)
   .exact k.elim
  .rename_i n;exact(n _ rfl).elim
  .split at k
   .rename_i e;obtain⟨a,k_,rfl,y,z,r⟩:=I.sq rp (jP e);refine⟨"list",_,aiE.lookup,y.pl.isList.typeIs,wpAny_getItem_list_slice y.pl.isList hs pl pu .none (by simp) ?_ z⟩;rw[show k_=k_.toList.toArray by simp,tI];exact k.seq I.toHR rfl (r.cut lo hi) (aeI (kR k_.toList lo hi) z)
   .exact k.elim
def BM{lo hi:Option Expr}{fl fu:Ox}(ha:RE X a fa)(hl:RO X lo fl)(hh:RO X hi fu):RE X (.Subscript a (.Slice lo hi none p2) pos) (cL fa fl fu):=⟨fun I k=>aiw (ha.r I (k.bind fun _ _ p u y r k=>ai2 (hl.r (I.on y) (k.bind fun _ _ l vl y1 pl k=>hh.r ((I.on y).on y1) (k.bind fun w h h' vu y2 pu k=>by rw[ahm];refine aeu ?_;have n:=Nw.also (X:=X) (s':={ w.s with heap:=w.s.heap.push { cls:=.type "slice",data:=.fields #[vl,vu,.none] } }) y2.2 fun b o e=>aem _ e;obtain⟨T,id,a,b,c⟩:=((((I.on y).on y1).on y2).on n).toWd.sl (y2.1.rep (y1.1.rep r)) (agw w.s.heap vl vu .none) pl pu (k.step n);exact ajb (ops:=[.ref w.s.heap.objs.size,u]) b a c (by with_unfolding_all rfl))))))⟩
end
inductive SR where
 |nx (ρ:Ev) (h:Y3)|rt (v:PV) (h:Y3)|bk (ρ:Ev) (h:Y3)|ct (ρ:Ev) (h:Y3)|exc (e:PV) (h:Y3)|bad
abbrev Sx:=Ev->Y3->SR
noncomputable def bh:Sx:=fun ρ h=>.nx ρ h
noncomputable def aw(f g:Sx):Sx:=fun ρ h=>match f ρ h with
 |.nx ρ1 h1=>g ρ1 h1
 |.rt v h1=>.rt v h1
 |.bk ρ1 h1=>.bk ρ1 h1
 |.ct ρ1 h1=>.ct ρ1 h1
 |.exc v h1=>.exc v h1
 |.bad=>.bad
noncomputable def gT{α:Type}(f:Res α)(k:α->Y3->SR):SR:=match f with
 |.ok v h=>k v h
 |.exc e h=>.exc e h
 |.bad=>.bad
def ey(f:Res PV)(k:PV->Y3->SR):SR:=gT f k
def Be(f:Res Bool)(k:Bool->Y3->SR):SR:=gT f k
def IC(f:Res Y2)(k:Y2->Y3->SR):SR:=gT f k
@[simp] theorem Fp(v:Bool)(h:Y3)(k:Bool->Y3->SR):Be (.ok v h) k=k v h:=rfl
noncomputable def aQ(f:Ex):Sx:=fun ρ h=>ey (f ρ h) fun v h1=>.rt v h1
noncomputable def Dd:Sx:=fun _ h=>.rt .non h
def cx(f:Ex):Sx:=fun ρ h=>ey (f ρ h) fun _ h1=>.nx ρ h1
def H6(t:Tx)(f g:Sx):Sx:=fun ρ h=>Be (t ρ h) fun b h1=>if b=true then f ρ h1 else g ρ h1
def aG(i:Nat)(f:Ex):Sx:=fun ρ h=>ey (f ρ h) fun v h1=>.nx (ρ.set i (some v)) h1
noncomputable def Iq:Sx:=fun ρ h=>.ct ρ h
noncomputable def vC:Sx:=fun _ _=>.bad
abbrev Gx:=PV->Ev->Option Ev
noncomputable def P0(i:Nat):Gx:=fun p ρ=>some (ρ.set i (some p))
abbrev Zg:=Y2->Ev->Option Ev
noncomputable def lQ:Zg:=fun ps ρ=>match ps with
 |[]=>some ρ
 |_=>none
noncomputable def eh(g:Gx)(gs:Zg):Zg:=fun ps ρ=>match ps with
 |p::r=>match g p ρ with
  |some ρ1=>gs r ρ1
  |none=>none
 |_=>none
noncomputable def YF(n:Nat)(gs:Zg):Gx:=fun p ρ=>match p with
 |.tup ps=>if ps.length=n then gs ps ρ else none
 |_=>none
def yJ(g:Gx)(f:Ex):Sx:=fun ρ h=>ey (f ρ h) fun v h1=>match g v ρ with
 |some ρ'=>.nx ρ' h1
 |none=>.bad
abbrev W_(X:Cx)(w w':Wo):Prop:=Sd X.fs X.W w w'
def bL(X:Cx)(w:Wo)(Q:Flow->Shared->Prop)(E:Yf):SR->Prop
 |.nx ρ h=>X.Ep E/\∀w',W_ X w w'->Inv X w' ρ h->Q .next w'.s
 |.bk ρ h=>X.Ep E/\∀w',W_ X w w'->Inv X w' ρ h->Q .brk w'.s
 |.ct ρ h=>X.Ep E/\∀w',W_ X w w'->Inv X w' ρ h->Q .cont w'.s
 |.rt v h=>X.Ep E/\∀w' u ρ,W_ X w w'->Inv X w' ρ h->bx X.toSC w'.F w'.m v u->Q (.ret u) w'.s
 |.exc e h=>X.Ep E/\∀w' u ρ,W_ X w w'->Inv X w' ρ h->oE X w w' e u->E u w'.s
 |.bad=>False
structure RS(X:Cx)(st:Stmt)(f:Sx):Prop where
 r:∀{w:Wo}{ρ:Ev}{h:Y3}{Q:Flow->Shared->Prop}{E:Yf},Inv X w ρ h->bL X w Q E (f ρ h)->Wp X (exec st X.env) Q E w.s
structure XK(X:Cx)(st:List Stmt)(f:Sx):Prop where
 r:∀{w:Wo}{ρ:Ev}{h:Y3}{Q:Flow->Shared->Prop}{E:Yf},Inv X w ρ h->bL X w Q E (f ρ h)->Wp X (execs st X.env) Q E w.s
structure RG(X:Cx)(tg:Expr)(g:Gx):Prop where
 r:∀{w:Wo}{ρ ρ':Ev}{h:Y3}{p:PV}{u:Value}{Q:Unit->Shared->Prop}{E:Yf},Inv X w ρ h->bx X.toSC w.F w.m p u->g p ρ=some ρ'->(∀w',W_ X w w'->Inv X w' ρ' h->Q () w'.s)->Wp X (assign tg X.env u) Q E w.s
section
variable{w:Wo}{a:Expr}{ta:Tx}{pos':Pos}{i:Nat}{Q:Flow->Shared->Prop}{st:Stmt}{sts ZX:List Stmt}{f g:Sx}
def Nw.s(y:Nw X w w1 h1):W_ X w w1:=y.1.weak fun _ z=>z.elim
def bL.ep{r:SR}(p:bL X w Q E r):X.Ep E:=by cases r<;>first|exact p.1|exact p.elim
theorem bL.step{r:SR}(p:bL X w Q E r)(x:W_ X w w1):bL X w1 Q E r:=match r with
 |.nx _ _=>⟨p.1,fun w' y=>p.2 w' (x.trans y)⟩
 |.bk _ _=>⟨p.1,fun w' y=>p.2 w' (x.trans y)⟩
 |.ct _ _=>⟨p.1,fun w' y=>p.2 w' (x.trans y)⟩
 |.rt _ _=>⟨p.1,fun w' u ρ y=>p.2 w' u ρ (x.trans y)⟩
 |.exc _ _=>⟨p.1,fun w' u ρ y I r=>p.2 w' u ρ (x.trans y) I (r.back x)⟩
 |.bad=>p
theorem bL.e0{β:Type}{R:Wo->α->β->Prop}{r:Res α}{k:α->Y3->SR}{G:β->Shared->Prop}(p:bL X w Q E (gT r k))(I:Inv X w ρ h)(c:∀w1 h1 a x,Nw X w w1 h1->Inv X w1 ρ h1->R w1 a x->bL X w Q E (k a h1)->G x w1.s):cf X R w G E r:=match r with
 |.ok a h=>⟨p.ep,fun w' x y q=>c w' h a x y (I.on y) q p⟩
 |.exc _ _=>⟨p.1,fun w' u y r=>p.2 w' u ρ y.s (I.on y) r⟩
 |.bad=>p
def bL.e{β:Type}{R:Wo->α->β->Prop}{r:Res α}{k:α->Y3->SR}{G:β->Shared->Prop}(p:bL X w Q E (gT r k))(I:Inv X w ρ h)(c:∀w1 h1 a x,Nw X w w1 h1->Inv X w1 ρ h1->R w1 a x->bL X w1 Q E (k a h1)->G x w1.s):cf X R w G E r:=p.e0 I fun w1 h1 a x y I r p=>c w1 h1 a x y I r (p.step y.s)
def bL.here(p:bL X w Q E (.nx ρ h))(I:Inv X w ρ h):Q .next w.s:=p.2 w .refl I
def Inv.store{Q:Unit->Shared->Prop}(I:Inv X w ρ h)(hi:X.N[i]? =some x)(hx:X.env.kindOf x=some .local\/(X.env.kindOf x=some .cell/\X.fn x=true))(r:bx X.toSC w.F w.m p u)(q:∀w',W_ X w w'->Inv X w' (ρ.set i (some p)) h->Q () w'.s):Wp X (storeName X.env x u) Q E w.s:=by
 obtain⟨m,o,n,hl,l⟩:=I.loc;have hi':i<ρ.length:=by rw[I.ln];exact(aer.mp hi).1
 have go:∀{a:Addr}{s':Shared}(oa oa':Obj),Has w a oa->X.W a->aj9 a w.s.heap s'.heap->s'.heap.get? a=some oa'->s'.os=w.s.os->s'.gens=w.s.gens->(∀vs,oa'.data≠.fields vs)->
   (∃m',s'.heap.Ns X.L m'/\∀(j:Nat)(y:Str)(v:Value),X.N[j]? =some y->if j=i then yx X.env s'.heap m' y u else yx X.env w.s.heap m y v->yx X.env s'.heap m' y v)->(∀y c,X.env.cells.lookup y=some c->∃v,s'.heap.IsCell c v)->Q () s':=by
  intro a s' oa oa' ha wa sb ea eo eg ed ⟨m',n',lk⟩ cl;have on:∀b o,b≠a->w.s.heap.get? b=some o->s'.heap.get? b=some o:=fun b o z e=>(sb.2 b z).trans e
  have hs:∀b o,Has w b o->∃o',Has { w with s:=s' } b o'/\(b≠a->o'=o)/\(b=a->o'=oa'):=fun b o q=>by
   by_cases z:b=a
   .subst z;exact⟨oa',⟨ea,q.2⟩,fun z=>absurd rfl z,fun _=>rfl⟩
   .exact⟨o,⟨on b o z q.1,q.2⟩,fun _=>rfl,fun z'=>absurd z' z⟩
  have st:W_ X w { w with s:=s' }:=⟨eo,fun q=>eg▸q,fun _ _ e=>e,fun _ _ e=>e,⟨[],by simp⟩,fun b o e=>by
   by_cases z:b=a
   .subst z;exact⟨_,ea⟩
   .exact⟨o,on b o z e⟩,fun b o q nw=>⟨o.slots,⟨on b o (fun z=>nw (z▸wa)) q.1,q.2⟩,.inr rfl⟩⟩
  refine q { w with s:=s' } st ⟨I.toWd.on st (fun b hb z=>?_) (I.toHR.on fun b o e z=>on b o ?_ e),I.ok,?_,fun y c e=>?_,by simp[I.ln]⟩
  .obtain⟨o,q,d⟩:=I.fr b hb;obtain⟨o',q',z1,z2⟩:=hs b o q;refine⟨o',q',?_⟩
   by_cases z:b=a
   .rw[z2 z];exact ed
   .rw[z1 z];exact d
  .rintro rfl
   exact z ha.2
  .obtain⟨o',q',_⟩:=hs _ _ hl;refine⟨m',o',n',q',fun j p' e=>?_⟩
   by_cases z:j=i
   .subst z;rw[agC hi']at e
    cases e
    have:=lk j x u hi;rw[ajz rfl]at this;exact⟨x,u,hi,r,this⟩
   .rw[agk (ag3 z)]at e;obtain⟨y,v,e1,r',l'⟩:=l j p' e;have:=lk j y v e1;rw[ajB z]at this;exact⟨y,v,e1,r',this l'⟩
  .obtain⟨v,o,_,q⟩:=I.Ye y c e;obtain⟨o',q',_⟩:=hs c o q;obtain⟨v',z⟩:=cl y c e;exact⟨v',o',z,q'⟩
 have nx:∀j y,X.N[j]? =some y->j≠i->y≠x:=fun j y e z q=>z (by subst q;obtain⟨h1,e1⟩:=aer.mp e;obtain⟨h2,e2⟩:=aer.mp hi;exact(ago I.ok.nd).mp (e1.trans e2.symm))
 have cne:∀y c,X.env.cells.lookup y=some c->c≠X.L:=fun y c e z=>by obtain⟨v,o,⟨o',ho,hd⟩,_⟩:=I.Ye y c e;obtain⟨o2,es,ep,ho',hd',_⟩:=n;rw[z,ho']at ho;cases ho;rw[hd']at hd;cases hd
 have acw:(X.env.scope.kind==.class||(X.env.scope.kind==.module&&X.env.locals !=X.env.globals))=ajt:=by rw[I.ok.kind];rfl
 rcases hx with hk|⟨hk,hf⟩
 .refine wpAny_storeName_local hk n (fun h' n' hs=>?_) acw;obtain⟨o',es,ep,e',d',_⟩:=id n';refine go o o' hl (.inl rfl) hs e' rfl rfl (fun vs z=>by rw[d']at z;cases z) ⟨_,n',fun j y v e=>?_⟩ fun y c e=>let⟨v,_,z,_⟩:=I.Ye y c e;⟨v,z.sameBut hs (cne y c e)⟩
  split
  .rename_i z;subst z;cases e.symm.trans hi;exact .inl ⟨hk,by simp⟩
  .rename_i z
   rintro(⟨k,e'⟩|⟨k,c,e',q'⟩)
   .exact .inl ⟨k,by simp[nx j y e z,e']⟩
   .exact .inr ⟨k,c,e',q'.sameBut hs (cne y c e')⟩
 .obtain⟨c,hc⟩:=I.ok.has x (.inl hk);obtain⟨v0,oc,z0,hcc⟩:=I.Ye x c hc;refine wpAny_storeName_cell I.ok.kind hk hc z0 (fun h' hc' hs=>?_);obtain⟨o',e',d'⟩:=id hc';refine go (s':={ w.s with heap:=h' }) oc o' hcc (.inr ⟨x,hf,hc⟩) hs e' rfl rfl (fun vs z=>by rw[d']at z;cases z) ⟨m,n.sameBut hs (ag3 (cne x c hc)),fun j y v e=>?_⟩ fun y d e=>?_
  .split
   .rename_i z;subst z;cases e.symm.trans hi;exact .inr ⟨.inl hk,c,hc,hc'⟩
   .rename_i z
    rintro(l|⟨k,d,e',q'⟩)
    .exact .inl l
    .exact .inr ⟨k,d,e',q'.sameBut hs fun q=>nx j y e z (I.ok.inj y x c (q▸e') hc)⟩
  .by_cases z:d=c
   .subst z;exact⟨_,hc'⟩
   .obtain⟨v,_,q',_⟩:=I.Ye y d e;exact⟨v,q'.sameBut hs z⟩
end
noncomputable def bc(g:Gx)(body:Sx):Y2->Sx
 |[],ρ,h=>.nx ρ h
 |p::r,ρ,h=>match g p ρ with
  |some ρ1=>match body ρ1 h with
   |.nx ρ2 h2=>bc g body r ρ2 h2
   |.ct ρ2 h2=>bc g body r ρ2 h2
   |.bk ρ2 h2=>.nx ρ2 h2
   |.rt v h2=>.rt v h2
   |.exc v h2=>.exc v h2
   |.bad=>.bad
  |none=>.bad
def ik(it:Ax)(g:Gx)(body:Sx):Sx:=fun ρ h=>IC (it ρ h) fun xs h1=>bc g body xs ρ h1
def whl(t:Tx)(body:Sx):Nat->Sx
 |0,_,_=>.bad
 |n+1,ρ,h=>Be (t ρ h) fun b h1=>if b=true then match body ρ h1 with
   |.nx ρ2 h2=>whl t body n ρ2 h2
   |.ct ρ2 h2=>whl t body n ρ2 h2
   |.bk ρ2 h2=>.nx ρ2 h2
   |.rt v h2=>.rt v h2
   |.exc v h2=>.exc v h2
   |.bad=>.bad
  else .nx ρ h1
section
variable{w:Wo}{a c:Expr}{ta:Tx}{pos':Pos}{i:Nat}{Q:Flow->Shared->Prop}{st:Stmt}{sts ZX:List Stmt}{f g:Sx}
def Inv.quiet(I:Inv X w ρ h):interactive X.env=ajt:=by simp[interactive,I.ok.kind]
def Gj:XK X [] bh:=⟨fun I p=>afU (p.here I)⟩
def Dj(ha:RS X st f)(hb:XK X sts g):XK X (st::sts) (aw f g):=⟨fun{w ρ h Q E} I p=>agH (ha.r I (by
 unfold aw at p
 split at p<;>rename_i e<;>rw[e]
 .exact⟨p.ep,fun w' y I'=>hb.r I' (p.step y)⟩
 all_goals exact p))⟩
def Ap(ha:RS X st f):XK X [st] f:=⟨fun{w ρ h Q E} I p=>agH (ha.r I (by
 cases e:f ρ h<;>rw[e]at p
 .exact⟨p.1,fun w' y I'=>afU (p.2 w' y I')⟩
 all_goals exact p))⟩
def Dm:RS X st vC:=⟨fun _ p=>p.elim⟩
def JB(ha:RE X a fa):RS X (.Return (some a) pos) (aQ fa):=⟨fun{w ρ h Q E} I p=>aiD (ha.r I (bL.e p I fun _ _ _ _ _ I r p=>p.2 _ _ ρ .refl I r))⟩
def Go:RS X (.Return none pos) Dd:=⟨fun{w ρ h Q E} I p=>wpAny_Return_none (p.2 w _ ρ .refl I .non)⟩
def Gp(ha:RE X a fa)(hs:aj2 a none pos.line X.env=pure ajt:=by rfl):RS X (.Expr a pos) (cx fa):=⟨fun I p=>wpAny_Expr_any (ha.r I (bL.e p I fun _ _ _ _ _ I r p=>p.here I)) I.quiet hs⟩
def Mi(hc:RT X c ta)(ha:XK X sts f)(hb:XK X ZX g):RS X (.If c sts ZX pos) (H6 ta f g):=⟨fun I p=>wpAny_If (hc.r I (bL.e p I fun _ _ b _ _ I r p=>by
 subst r
 cases b
 .exact hb.r I p
 .exact ha.r I p))⟩
def JA(hi:X.N[i]? =some x:=by rfl)(hx:X.env.kindOf x=some .local\/(X.env.kindOf x=some .cell/\X.fn x=true):=by first|exact .inl rfl|exact .inr ⟨rfl,rfl⟩)(ha:RE X a fa)(hs:aj2 a (some (.Name x pos')) pos.line X.env=pure ajt:=by rfl):RS X (.Assign [.Name x pos'] a pos) (aG i fa):=
 ⟨fun I p=>wpAny_Assign_Name (ha.r I (bL.e p I fun _ _ _ _ _ I r p=>I.store hi hx r fun w' y I'=>p.2 w' y I')) hs⟩
def ky(hi:X.N[i]? =some x:=by rfl)(hx:X.env.kindOf x=some .local\/(X.env.kindOf x=some .cell/\X.fn x=true):=by first|exact .inl rfl|exact .inr ⟨rfl,rfl⟩):RG X (.Name x pos) (P0 i):=⟨fun I r e q=>by cases e;exact ahi (I.store hi hx r q)⟩
structure RGs(X:Cx)(tg:List Expr)(g:Zg):Prop where
 r:∀{w:Wo}{ρ ρ':Ev}{h:Y3}{p:Y2}{u:Z3}{Q:Unit->Shared->Prop}{E:Yf},Inv X w ρ h->aO X.toSC w.F w.m p u->g p ρ=some ρ'->(∀w',W_ X w w'->Inv X w' ρ' h->Q () w'.s)->Wp X (assignInOrder ((aku tg X.env).map (·.2)) u) Q E w.s
def Ar:RGs X [] lQ:=⟨fun I r e q=>by
 unfold lQ at e
 split at e<;>cases e
 cases r
 exact assignInOrder_nil (q _ .refl I)⟩
def rA{e:Expr}{g:Gx}{gs:Zg}(h1:RG X e g)(h2:RGs X es gs)(hs:(aku (e::es) X.env).map (·.2)=assign e X.env::(aku es X.env).map (·.2):=by rfl):RGs X (e::es) (eh g gs):=⟨fun I r e q=>by
 unfold eh at e
 split at e
 .split at e
  .rename_i e1
   cases r with
   |cons r t=>rw[hs];exact assignInOrder_cons (h1.r I r e1 fun w' y I'=>h2.r I' (y.reps t) e fun w2 y2=>q w2 (y.trans y2))
  .cases e
 .cases e⟩
def Dr{gs:Zg}(hc:X.calm=true)(h:RGs X es gs)(hn:(aku es X.env).length=n:=by rfl)(Zc:(aku es X.env).findIdx? (·.1)=none:=by rfl):RG X (.Tuple es k pos) (YF n gs):=⟨fun{w ρ ρ' h p u Q E} I r e q=>by
 unfold YF at e
 split at e
 .split at e
  .replace r:=I.sq r rfl
   obtain⟨a,k_,rfl,y,z,r⟩:=r;refine assign_Tuple_tuple (I.ok.hd hc) y.tup (by rw[<- r.len,hn];exact Eq.symm ‹_›) Zc fun h' hx=>?_;have n:=Nw.also (X:=X) (s':={ w.s with heap:=h' }) I.toHR fun b o e=>hx b o (afH (aeT e)) e;exact ‹RGs X es gs›.r (I.on n) r e fun w2 y2=>q w2 (n.s.trans y2)
  .cases e
 .cases e⟩
def JE{g:Gx}(hg:RG X tg g)(ha:RE X a fa)(hs:swapsWithSole [tg] a pos.line X.env=pure ajt:=by rfl)(hw:swappedStores [tg] a X.env=pure none:=by rfl)(h1:(aku [tg] X.env).map (·.2)=[assign tg X.env]:=by rfl):RS X (.Assign [tg] a pos) (yJ g fa):=⟨fun I p=>wpAny_Assign_stores (ha.r I (bL.e p I fun _ _ _ _ _ I r p=>by
 rw[h1]
 split at p
 .exact hg.r I r ‹_› fun w' y I'=>p.2 w' y I'
 .exact p.elim)) hs hw⟩
end
def X8(w w':Wo):Prop:=(∀a o,w.F a=some o->w'.F a=some o)/\Sub w.m w'.m
def Sd.lat{fs:Zs}{W:Addr->Prop}{w w':Wo}(x:Sd fs W w w'):X8 w w':=⟨x.fz,x.sub⟩
def X8.trans{w:Wo}(x:X8 w w1)(y:X8 w1 w2):X8 w w2:=⟨fun a o e=>y.1 a o (x.1 a o e),fun i a e=>y.2 i a (x.2 i a e)⟩
structure Pv(fp:Zs)(w w':Wo):Prop where
 os:w'.s.os=w.s.os
 ba:akF w.s.gens->akF w'.s.gens
 fz:∀a o,w.F a=some o->w'.F a=some o
 ow:∀d a,w.O d=some a->w'.O d=some a
 pre:∃t,w'.m=w.m++t
 dom:∀b o,b∉fp->w.s.heap.get? b=some o->∃o',w'.s.heap.get? b=some o'
 keep:∀b o,b∉fp->Has w b o->Has w' b o
def Pv.sub{fp:Zs}{w:Wo}(x:Pv fp w w1):Sub w.m w1.m:=fun i a e=>by obtain⟨t,z⟩:=x.pre;rw[z,aez (aer.mp e).1];exact e
structure FI(G:SC)(w0:Wo)(tg:Expr)(xs:Y2)(it:Addr)(fp:Zs)(tn:Nat->Heap->Prop):Prop where
 keep:∀{i:Nat}{w1 w2:Wo}{h1 h2:Y3},X8 w0 w1->HR G w1 h1->X8 w1 w2->HR G w2 h2->tn i w1.s.heap->(∀b∈fp,∀o,w1.s.heap.get? b=some o->w2.s.heap.get? b=some o)->tn i w2.s.heap
 item:∀{A:Around}{w:Wo}{h:Y3}{i:Nat}{p:PV}{Q:Yf}{E:Yf},A.handled=none->X8 w0 w->HR G w h->tn i w.s.heap->xs[i]? =some p->(∀b∈fp,∃o,Has w b o)->
  (∀u w',Pv fp w w'->HR G w' h->tn (i+1) w'.s.heap->(∀b∈fp,∃o,Has w' b o)->bx G w'.F w'.m p u->Q u w'.s)->
  ajD (ajC G.prog G.w) A (akY (.ref it)) (fun r s=>∃u,r=some u/\ajD (ajC G.prog G.w) A (akm tg (.ref it) u) (fun _ s=>Q u s) E s) E w.s
 done:∀{A:Around}{w:Wo}{h:Y3}{i:Nat}{Q:Shared->Prop}{E:Yf},A.handled=none->X8 w0 w->HR G w h->tn i w.s.heap->xs.length=i->(∀b∈fp,∃o,Has w b o)->
  (∀w',Pv fp w w'->HR G w' h->Q w'.s)->ajD (ajC G.prog G.w) A (akY (.ref it)) (fun r s=>r=none/\Q s) E w.s
 self:∀{A:Around}{i:Nat}{s:Shared}{Q:Yf}{E:Yf},A.handled=none->tn i s.heap->Q (.ref it) s->ajD (ajC G.prog G.w) A (akZ (.ref it)) Q E s
def Y8(X:Cx)(b:Addr):Prop:=b≠X.L/\b∉X.fs/\∀x c,X.env.cells.lookup x=some c->c≠b
def Y8.w(n:Y8 X b):¬ X.W b:=fun z=>z.elim n.1 (by rintro ⟨x,_,e⟩;exact n.2.2 x b e rfl)
def Inv.out{w:Wo}(I:Inv X w ρ h)(n:w.s.heap.get? b=none):Y8 X b:=by
 have k:∀{c o},Has w c o->b≠c:=fun q z=>by have q:=q.1;rw[<- z,n]at q;cases q
 obtain⟨_,_,_,q,_⟩:=I.loc;exact⟨k q,fun z=>let⟨_,q,_⟩:=I.fr b z;k q rfl,fun x c e=>let⟨_,_,_,q⟩:=I.Ye x c e;ag3 (k q)⟩
def Yi(X:Cx)(tg:Expr)(w0 w:Wo)(xs:Y2)(v:Value):Prop:=∃it fp tn,v=.ref it/\FI X.toSC w tg xs it fp tn/\tn 0 w.s.heap/\∀b∈fp,(∃o,Has w b o)/\Y8 X b/\w0.s.heap.get? b=none
structure RI(X:Cx)(tg iter:Expr)(f:Ax):Prop where
 r:∀{w:Wo}{ρ:Ev}{h:Y3}{Q:Yf}{E:Yf},Inv X w ρ h->cf X (Yi X tg w) w Q E (f ρ h)->Wp X (eval iter X.env) (fun v s=>Wp X (akZ v) Q E s) E w.s
section
variable{w:Wo}{it:Ax}{g:Gx}{body:List Stmt}{f:Sx}
def Inv.priv{fp:Zs}(I:Inv X w ρ h)(x:Pv fp w w1)(H:HR X.toSC w1 h1)(n:∀b∈fp,Y8 X b):Inv X w1 ρ h1:=by
 obtain⟨m,o,n1,hl,q⟩:=I.loc;have k:=x.keep;have cl:∀x c,X.env.cells.lookup x=some c->c∉fp:=fun x c e z=>(n c z).2.2 x c e rfl;have ck:∀x c,X.env.cells.lookup x=some c->∀v,w.s.heap.IsCell c v->w1.s.heap.IsCell c v:=(by rintro y c e v ⟨o,q,d⟩;exact (let⟨_,o',⟨_,_,_⟩,hc⟩:=I.Ye y c e;⟨o,(k c o (cl y c e) ⟨q,hc.2⟩).1,d⟩))
 have hL:X.L∉fp:=fun z=>(n _ z).1 rfl;refine⟨⟨H,x.ba I.ba,fun b o e=>x.fz _ _ (I.bs b o e),fun b hb=>let⟨o,q,d⟩:=I.fr b hb;⟨o,k b o (fun z=>(n b z).2.1 hb) q,d⟩⟩,I.ok,⟨m,o,?_,k _ _ hL hl,fun i p e=>?_⟩,fun y c e=>?_,I.ln⟩
 .obtain⟨o',es,ep,e,r⟩:=n1;exact⟨o',es,ep,(k _ _ hL ⟨e,hl.2⟩).1,r⟩
 .obtain⟨y,u,e1,r,l⟩:=q i p e;exact⟨y,u,e1,r.mono x.fz (.inr x.sub),l.imp_right (by rintro ⟨k,c,e,z⟩;exact ⟨k,c,e,ck y c e _ z⟩)⟩
 .obtain⟨v,o,z,hc⟩:=I.Ye y c e;exact⟨v,o,ck y c e v z,k c o (cl y c e) hc⟩
def Sd.priv{fp fs:Zs}{W:Addr->Prop}(x:Sd fs W w0 w)(y:Pv fp w w1)(n:∀b∈fp,w0.s.heap.get? b=none):Sd fs W w0 w1:=
 have k:∀{b o},w0.s.heap.get? b=some o->b∉fp:=fun e z=>by rw[n _ z]at e;cases e
 ⟨y.os.trans x.os,y.ba∘x.ba,fun a o e=>y.fz a o (x.fz a o e),fun a o e=>y.ow a o (x.ow a o e),let⟨t,e⟩:=x.pre;let⟨u,e'⟩:=y.pre;⟨t++u,by rw[e',e,aeK]⟩,fun b o e=>let⟨o',q⟩:=x.dom b o e;y.dom b o' (k e) q,fun b o q z=>let⟨sl,q1,z1⟩:=x.keep b o q z;⟨sl,y.keep b _ (k q.1) q1,z1⟩⟩
inductive Lq0(X:Cx)(w0 w:Wo)(tn:Nat->Heap->Prop)(fp:Zs)(xs:Y2)(Q:Flow->Shared->Prop)(E:Yf)(g:Gx)(f:Sx)(n:Nat)(s:Shared):Prop where
 |mk (w1:Wo) (ρ1:Ev) (h1:Y3) (ys:Y2) (_:w1.s=s) (_:W_ X w0 w1) (_:X8 w w1) (_:Inv X w1 ρ1 h1) (_:ys.length=n) (_:ys=xs.drop (xs.length - n)) (_:n<=xs.length) (_:tn (xs.length - n) w1.s.heap) (_:(∀b∈fp,∃o,Has w1 b o)) (_:bL X w0 Q E (bc g f ys ρ1 h1))
def JC(hp:∀E,X.Ep E->akL X.M X.A X.env E)(hc:X.calm=true)(hi:RI X tg iter it)(hg:RG X tg g)(hb:XK X body f)(hs:∀x,ajI iter X.env x=pure x:=by intro _;rfl):RS X (.For tg iter body [] pos) (ik it g f) where
 r {w0 ρ h Q E} I0 p:=by
  have hp:=hp E p.ep;refine wpAny_For (hi.r I0 (bL.e0 p I0 fun w h1 xs v y0 I r p=>?_)) hs;obtain⟨it,fp,tn,rfl,T,t0,fr⟩:=r;have no:=fun b hb=>(fr b hb).2.1;have nf:=fun b hb=>(fr b hb).2.2;refine codeAny_forLoop_any (Lq0 X w0 w tn fp xs Q E g f) ?_ xs.length ⟨w,ρ,h1,xs,rfl,y0.s,(Sd.refl (fs:=[]) (W:=Xq)).lat,I,rfl,by simp,aeB _,by simpa using t0,fun b hb=>(fr b hb).1,p⟩
  rintro n s ⟨w1,ρ1,h1,ys,rfl,y1,l1,I1,ln,dr,le,t1,f1,p1⟩
  cases ys with
  |nil=>
   cases ln
   exact agb hp (afi (T.done (I1.ok.hd hc) l1 I1.toHR t1 (by simp) f1 (Q:=fun s=>ajD X.M X.A (execs [] X.env) Q (notedBy X.M X.A X.env (cameBackBy X.M X.A X.env E)) s) fun w2 y2 H2=>afU (p1.2 w2 (y1.priv y2 nf) (I1.priv y2 H2 no))) (fun r s q=>by obtain⟨rfl,q⟩:=q;exact q) fun _ _ z=>z)
  |cons q ys=>
   have ln':ys.length+1=n:=ln;have eq:xs[xs.length - n]? =some q:=by rw[<- agX,<- dr];rfl
   unfold bc at p1
   split at p1
   .rename_i ρ2 e2;refine afi (T.item (I1.ok.hd hc) l1 I1.toHR t1 eq f1 (Q:=fun u s=>ajD (ajC X.prog X.w) X.A (assign tg X.env u) ?R ?N s) ?c) (fun r s q=>by obtain⟨u,rfl,q⟩:=q;exact q) fun _ _ z=>z;intro u w2 y2 H2 t2 f2 r2;refine agb hp (hg.r (I1.priv y2 H2 no) r2 e2 fun w3 y3 I3=>agb hp (hb.r I3 ?_));have y03:=(y1.priv y2 nf).trans y3;have l2:X8 w w2:=l1.trans ⟨y2.fz,y2.sub⟩
    have t3:∀w4 h4,HR X.toSC w4 h4->W_ X w3 w4->tn (xs.length - ys.length) w4.s.heap/\∀b∈fp,∃o,Has w4 b o:=fun w4 h4 H4 y4=>by
     have k:∀b∈fp,∀o,Has w2 b o->Has w4 b o:=fun b hb o q=>by
      obtain⟨sl,q',z⟩:=(y3.trans y4).keep b o q (no b hb).w;rcases z with z|rfl
      .exact absurd z (no b hb).2.1
      .exact q'
     refine⟨?_,fun b hb=>let⟨o,q⟩:=f2 b hb;⟨o,k b hb o q⟩⟩;rw[show xs.length - ys.length=xs.length - n+1 by lia];exact T.keep l2 H2 (y3.trans y4).lat H4 t2 fun b hb o e=>let⟨o',q⟩:=f2 b hb;(k b hb o ⟨e,q.2⟩).1
    have dy:ys=xs.drop (xs.length - ys.length):=by rw[show xs.length - ys.length=xs.length - n+1 by lia,<- ajf,<- dr];rfl
    have go:∀ ρ4 h4,bL X w0 Q E (bc g f ys ρ4 h4)->∀w4,W_ X w3 w4->Inv X w4 ρ4 h4->∃m,m<n/\Lq0 X w0 w tn fp xs Q E g f m w4.s:=fun ρ4 h4 p4 w4 y4 I4=>⟨ys.length,by lia,w4,ρ4,h4,ys,rfl,y03.trans y4,l2.trans (y3.trans y4).lat,I4,rfl,dy,by lia,(t3 w4 h4 I4.toHR y4).1,(t3 w4 h4 I4.toHR y4).2,p4⟩
    split at p1<;>rename_i e3<;>rw[e3]
    .exact⟨p1.ep,go _ _ p1⟩
    .exact⟨p1.ep,go _ _ p1⟩
    all_goals exact p1.step y03
   .exact p1.elim
end
noncomputable def dK(h:Y3):PV->Option (PV×Y3)
 |.ref i=>match h[i]? with
  |some (.lst xs)=>if ai xs=true then some (.lst xs,h.set i (.Q5 (.lst xs)))else none
  |some (.dct _)=>none
  |some (.Q5 p)=>some (p,h)
  |some (.obj _ _)=>none
  |none=>none
 |p=>if p.pure=true then some (p,h)else none
def cw(f:Ax):Ax:=fun ρ h=>(f ρ h).bind fun ps h1=>match ps with
 |[.int j]=>if VJ 4611686018427387904 j=true then .ok ((ajy j.toNat).map fun i=>PV.int (0+(i:Nat))) h1 else .bad
 |_=>.bad
def jA(p:PV)(h:Y3):Res Y2:=match p with
 |.str l=>.ok (l.map fun c=>PV.str [c]) h
 |.tup xs=>.ok xs h
 |.lst xs=>.ok xs h
 |.X5 xs=>.ok xs h
 |p=>match dK h p with
  |some (.lst xs,h2)=>.ok xs h2
  |_=>.bad
def iO(f:Ex):Ax:=fun ρ h=>(f ρ h).bind jA
section
variable{w:Wo}{p0:Pos}{a:Expr}{it:Addr}{xs:Y2}
def oG(H:HR G w h)(q:Has w it o)(k:∀b o,b≠it->w.s.heap.get? b=some o->s'.heap.get? b=some o)(ho:s'.os=w.s.os:=by rfl)(hg:s'.gens=w.s.gens:=by rfl):Pv [it] w { w with s:=s' }/\HR G { w with s:=s' } h:=
 ⟨⟨ho,fun q=>hg▸q,fun _ _ e=>e,fun _ _ e=>e,⟨[],by simp⟩,fun b o n e=>⟨o,k b o (by simpa using n) e⟩,fun b o n q=>⟨k b o (by simpa using n) q.1,q.2⟩⟩,H.on fun b o e' z=>k b o (by rintro rfl;exact z q.2) e'⟩
theorem Yi.new{tn:Nat->Heap->Prop}{tk:Nat}(I:Inv X w ρ h)(y:Sd X.fs Xq w0 w)(T:FI X.toSC w tg xs w.s.heap.objs.size [w.s.heap.objs.size] tn)(t:tn 0 (w.s.heap.push o))(ho:o.isFreed=ajt)(p:cf X (Yi X tg w0) w Q E (.ok xs h)):Q (.ref w.s.heap.objs.size) { w.s with heap:=w.s.heap.push o,toks:=tk }:=by
 have n:=Nw.also (X:=X) (s':={ w.s with heap:=w.s.heap.push o,toks:=tk }) I.toHR fun b o e=>aem _ e;refine p.2 _ _ n ⟨_,_,tn,rfl,⟨T.keep,T.item,T.done,T.self⟩,t,?_⟩;simp only[aeo,forall_eq];refine⟨⟨o,aey _ ho,I.toHR.free (bG _)⟩,I.out (bG _),?_⟩
 cases q:w0.s.heap.get? w.s.heap.objs.size with
 |none=>rfl
 |some o=>obtain⟨o',q'⟩:=y.dom _ _ q;rw[bG]at q';cases q'
def Nr{M:Model}{s:Shared}{n:String}{vs:Array Value}{Q:Unit->Shared->Prop}(ho:s.heap.get? it=some o)(hc:o.cls=.type n)(hd:o.data=.fields vs)
    (hn: ["enumerate","zip","dict_itemiterator","dict_reverseitemiterator","odict_iterator","itertools.zip_longest","itertools.pairwise"].contains n=ajt) (hQ:Q () s):ajD M A (akm tg (.ref it) u) Q E s:=by
  unfold akm
  cases tg<;>first
    |exact aeu hQ
    |(cases u<;>first
      |exact aeu hQ
      |(refine aeg (wpAny_load ho ?_)
        rw[hc,hd];show ajD M A (if(["enumerate","zip","dict_itemiterator","dict_reverseitemiterator","odict_iterator","itertools.zip_longest","itertools.pairwise"].contains n&&vs[0]? ==some (akh _))=true then _ else _) Q E s;rw[ajB (by intro h;rw[hn,ajh]at h;cases h)];exact aeu hQ))
def ki{St:Nat->Heap->Prop}{P:Nat->Value->Prop}{src:Zs}(W:∀A:Around,A.handled=none->Walks G.prog G.w A it (it::src) [it] n P St)(hl:xs.length=n)(fz:∀b∈src,∃o,w.F b=some o)
  (lv:∀i g,St i g->∃o m vs,g.get? it=some o/\o.cls=.type m/\o.data=.fields vs/\ ["enumerate","zip","dict_itemiterator","dict_reverseitemiterator","odict_iterator","itertools.zip_longest","itertools.pairwise"].contains m=ajt) (hP:∀i p v,xs[i]? =some p->P i v->bx G w.F w.m p v):FI G w tg xs it [it] St where
 keep {i w1 w2 h1 h2} l1 H1 l2 H2 st k:=(W akR rfl).frame i _ _ st fun b hb o e=>by
  rcases aek.mp hb with rfl|hb
  .exact k b (by simp) o e
  .obtain⟨o',q⟩:=fz b hb;rw[H1.at (l1.1 _ _ q)]at e
   cases e
   exact H2.at (l2.1 _ _ (l1.1 _ _ q))
 item {A w1 h i p Q E} hh y H st hx f q:=by
  obtain⟨o,ho⟩:=f it (by simp);refine(W A hh).item i _ _ _ (by rw[<- hl];exact(aer.mp hx).1) st fun v h' tk hv st' k=>⟨v,rfl,?_⟩
  obtain⟨o',m,vs,e',c,d,z⟩:=lv _ _ st';obtain⟨a1,a2⟩:=oG (s':={ w1.s with heap:=h',toks:=tk }) H ho fun b o hb e=>k b o (by simpa using hb) e;exact Nr (s:={ w1.s with heap:=h',toks:=tk }) e' c d z (q v _ a1 a2 st' (by simp;exact⟨o',e',ho.2⟩) ((hP i p v hx hv).mono y.1 (.inr y.2)))
 done {A w1 h i Q E} hh y H st hx f q:=by
  obtain⟨o,ho⟩:=f it (by simp);subst hl hx;refine(W A hh).done _ _ _ st fun h' tk k=>⟨rfl,?_⟩
  obtain⟨a1,a2⟩:=oG (s':={ w1.s with heap:=h',toks:=tk }) H ho fun b o hb e=>k b o (by simpa using hb) e;exact q _ a1 a2
 self hh st q:=(W _ hh).self _ _ _ _ st q
def HR.fix{i:Nat}{a:Addr}(H:HR X.toSC w h)(e:w.m[i]? =some a)(f:w.F a=none)(e1:w.s.heap.get? a=some o)(rr:bx X.toSC (jj w.F a o) w.m p (.ref a))(pu:p.pure=true):Nw X w ⟨jj w.F a o,w.O,w.m,w.s⟩ (h.set i (.Q5 p)):=by
 refine⟨⟨rfl,id,dQ f,fun _ _ e=>e,⟨[],by simp⟩,fun b o e=>⟨o,e⟩,fun b o q _=>⟨o.slots,⟨q.1,q.2.1,dR (fun z=>q.2.1 (z▸aex e)) q.2.2.1,q.2.2.2⟩,.inr rfl⟩⟩,fun b x q=>?_,fun d b q=>let⟨o,z,y⟩:=H.own d b q;⟨o,z,dR (fun e'=>z (e'▸aex e)) y⟩,by simp[H.len],H.nd,fun j po b h1 h2=>?_⟩
 .by_cases z:b=a
  .subst z;cases bT.symm.trans q;exact e1
  .exact H.sub b x ((mu z).symm.trans q)
 .by_cases z:j=i
  .subst z
   cases h2.symm.trans e
   rw[agC (H.len▸(aer.mp e).1)]at h1
   cases h1
   exact⟨rr,pu,_,bT⟩
  .rw[agk (ag3 z)]at h1;refine(H.obj j po b h1 h2).on (dQ f) (fun _ e=>e) (fun _ _ e=>e) (fun _ _ e _=>e) (dR ?_)
   rintro rfl
   obtain⟨l1,e1⟩:=aer.mp h2;obtain⟨l2,e2⟩:=aer.mp e;exact z ((ago H.nd).mp (e1.trans e2.symm))
def HR.frz{q:PV}{h':Y3}(H:HR X.toSC w h)(r:bx X.toSC w.F w.m p u)(k:dK h p=some (q,h')):∃F',Nw X w ⟨F',w.O,w.m,w.s⟩ h'/\bx X.toSC F' w.m q u/\q.pure=true:=by
 unfold dK at k
 split at k
 .rename_i i
  cases r with
  |@ref _ a e=>
   cases q0:h[i]? <;>rw[q0]at k<;>try simp only at k
   .cases k
   .rename_i po
    cases po with
    |lst xs=>
     simp only at k
     split at k<;>cases k
     obtain⟨f,k_,n,e1,z,r⟩:=H.obj _ _ _ q0 e;have rr:bx X.toSC (jj w.F a ({ cls:=.type "list",data:=.seq k_ n })) w.m (.lst xs) (.ref a):=.lst bT z (r.mono (dQ f) (.inr fun _ _ e=>e));have pu:(PV.lst xs).pure=true:=by simpa[PV.pure]using ‹_›
     exact⟨_,H.fix e f e1 rr pu,rr,pu⟩
    |Q5 p=>simp only at k;cases k;obtain⟨r,z,_⟩:=H.obj _ _ _ q0 e;exact⟨w.F,⟨.refl,H⟩,r,z⟩
    |_=>cases k
 .split at k<;>cases k
  exact⟨w.F,⟨.refl,H⟩,r, ‹_›⟩
def Jr(I:Inv X w ρ h)(y:Sd X.fs Xq w0 w)(r:bx X.toSC w.F w.m p v)(k:cf X (Yi X tg w0) w Q E (jA p h)):Wp X (akZ v) Q E w.s:=by
 have seq:∀{w:Wo}{h:Y3}{xs:Y2}{p:PV}{t:String},Inv X w ρ h->Sd X.fs Xq w0 w->bx X.toSC w.F w.m p v->sqT p=some (t,xs)->cf X (Yi X tg w0) w Q E (.ok xs h)->Wp X (akZ v) Q E w.s:=by
  intro w h xs p t I y r k q
  have tup:∀{a:Addr}{k_:Array Value}{n:Nat},w.F a=some ({ cls:=.type "tuple",data:=.seq k_ n })->aO X.toSC w.F w.m xs k_.toList->Wp X (akZ (.ref a)) Q E w.s:=fun{a k_ n} e r=>by
   have ne:a≠w.s.heap.objs.size:=fun z=>by have:=I.toHR.at e;rw[z,bG]at this;cases this
   refine ags (items:=k_) ⟨_,I.toHR.at e,rfl,n,rfl⟩ (Yi.new I y (ki (src:=[a]) (fun A hA=>Walks.tuple hA _ a ne k_) r.len (fun b hb=>by simp at hb;exact⟨_,hb▸e⟩) (fun i g st=>let⟨o,e,c,d⟩:=st.1;⟨o,_,_,e,c,d,by decide⟩) fun i p v e h=>?_) ⟨⟨_,aey _ rfl,rfl,rfl⟩,⟨_,aem _ (I.toHR.at e),rfl,n,rfl⟩⟩ rfl q);obtain⟨u,e',r'⟩:=r.get e;rw[show k_[i]? =some u by simpa using e']at h
   cases h;exact r'
  have lst:∀{a:Addr}{k_:Array Value}{n:Nat},w.F a=some ({ cls:=.type "list",data:=.seq k_ n })->aO X.toSC w.F w.m xs k_.toList->Wp X (akZ (.ref a)) Q E w.s:=fun{a k_ n} e r=>by
   have ne:a≠w.s.heap.objs.size:=fun z=>by have:=I.toHR.at e;rw[z,bG]at this;cases this
   refine aiC (items:=k_) ⟨_,I.toHR.at e,rfl,n,rfl⟩ (Yi.new I y (ki (src:=[a]) (fun A hA=>Walks.list hA _ a ne k_) r.len (fun b hb=>by simp at hb;exact⟨_,hb▸e⟩) (fun i g st=>let⟨o,e,c,d⟩:=st.1;⟨o,_,_,e,c,d,by decide⟩) fun i p v e h=>?_) ⟨⟨_,aey _ rfl,rfl,rfl⟩,⟨_,aem _ (I.toHR.at e),rfl,n,rfl⟩⟩ rfl q);obtain⟨u,e',r'⟩:=r.get e;rw[show k_[i]? =some u by simpa using e']at h
   cases h;exact r'
  cases r<;>cases k
  .exact tup ‹_› ‹_›
  .exact lst ‹_› ‹_›
  .exact lst ‹_› ‹_›
 unfold jA at k
 split at k
 .rename_i l;obtain⟨_,rfl⟩:=r.vs
  have hP:∀(i:Nat)(p:PV)(v:Value),(l.map fun c=>PV.str [c])[i]? =some p->SignAt (S l) i v->bx X.toSC w.F w.m p v:=fun i p v e ⟨c,t,e',e''⟩=>by
   rw[aeY,show l[i]? =some c by simpa[S]using e']at e
   cases e;subst e'';exact .str [c] t
  cases ha:(S l).cps.all (· <128)
  .exact wpAny_pyIter_wide ha (Yi.new I y (ki (src:=[]) (fun A hA=>Walks.strWide hA _ _ _) (by simp[S]) (fun b hb=>nomatch hb) ((by rintro i g ⟨o,e,c,d⟩;exact ⟨o,_,_,e,c,d,by decide⟩)) hP) ⟨_,aey _ rfl,rfl,rfl⟩ rfl k)
  .exact wpAny_pyIter_ascii ha (Yi.new I y (ki (src:=[]) (fun A hA=>Walks.strAscii hA _ _ _) (by simp[S]) (fun b hb=>nomatch hb) ((by rintro i g ⟨o,e,c,d⟩;exact ⟨o,_,_,e,c,d,by decide⟩)) hP) ⟨_,aey _ rfl,rfl,rfl⟩ rfl k)
 .exact seq I y r rfl k
 .exact seq I y r rfl k
 .exact seq I y r rfl k
 .split at k
  .rename_i e;obtain⟨F',n,r',_⟩:=I.toHR.frz r e;exact seq (w:=⟨F',w.O,w.m,w.s⟩) (I.on n) (y.trans n.1) r' rfl (k.step n)
  .exact k.elim
def JF(ha:RE X a fa):RI X tg a (iO fa):=⟨fun I p=>ha.r I (p.bind fun _ _ _ _ y r p=>Jr (I.on y) y.1 r p)⟩
def BK{e:Expr}{f:Ax}(hg:Gl X "range")(hm:X.mg "range"=none)(ha:RA X [e] f)(hs:ajF [e] X.env= [(ajt,eval e X.env)]:=by rfl):RI X tg (.Call (.Name "range" p0) [e] [] pos) (cw f):=⟨fun I p=>Call_ (I.blt hg hm boot_range (callWith_type1 (ha.r pos I (p.bind fun w _ ps us y r p=>by
 split at p
 .rename_i j
  split at p
  .rename_i hb;have hb:=bW.mp hb
   cases r with
   |cons r t=>
    cases t;obtain⟨_,rfl⟩:=r.vi
    refine call_range_1 ?_;have n:=Nw.also (X:=X) (s':={ w.s with heap:=w.s.heap.push { cls:=.type "range",data:=.fields #[.int 0 w.s.toks,.int j ‹_›,.int 1 (w.s.toks+1)] },toks:=w.s.toks+1+1 }) y.2 fun b o e=>aem _ e;refine wpAny_pyIter_range (IsRange.new ..) (small_one ⋯ ⋯ ⋯ ⋯) (Yi.new ((I.on y).on n) (y.1.trans n.1) (ki (n:=j.toNat) (src:=[]) (fun A hA=>Walks.range hA _ 0 1 _) (by simp) (fun b hb=>nomatch hb) (fun i g st=>⟨_,_,_,st,rfl,rfl,by decide⟩) fun i p v e h=>?_) ?_ rfl (p.step n))
    .obtain⟨t,rfl⟩:=h;rw[aeY]at e;obtain⟨q,e',rfl⟩:=ae2.mp e;obtain rfl:i=q:=by have:=aer.mp e';simpa using this.2
     rw[Int.mul_one];exact .int _ t
    .show IsRangeIter _ _ (0+((0:Nat):Int) * 1) ((j.toNat:Int) - ((0:Nat):Int)) 1;rw[show(0:Int)+((0:Nat):Int) * 1=0 by simp,show(j.toNat:Int) - ((0:Nat):Int)=Builtin.Range.rangeSize 0 j 1 by rw[rangeSize_one];split<;>lia];exact aey _ rfl
  .exact p.elim
 .exact p.elim)) hs rfl))⟩
end
structure mD(N P:Zl)(sc:Scope):Prop where
 kind:sc.kind=.function
 co:sc.isCoroutine=ajt
 gen:sc.isGenerator=ajt
 nd:N.Nodup
 pre:N.take P.length=P
 par:∀x∈P,sc.names.lookup x=some .local\/sc.names.lookup x=some .cell
 Z2:∀y∈sc.names,y.2≠.free
theorem uW{aki:Str->Option NameKind}{x:Str}:∀{binds:List (Str×Value)}{m:Str->Option Value},(∀v,(x,v)∉binds)->bindL aki binds m x=m x
 |[],_,_=>rfl
 |(n,v)::r,m,h=>by
  unfold bindL;rw[uW fun w hw=>h w (aen _ hw)]
  split
  .have:x≠n:=by rintro rfl;exact h v aeC
   simp[this]
  .rfl
theorem uY{aki:Str->Option NameKind}{x:Str}:∀{binds:List (Str×Value)}{m:Str->Option Value},(∀v,(x,v)∉binds)->bindC aki binds m x=m x
 |[],_,_=>rfl
 |(n,v)::r,m,h=>by
  unfold bindC;rw[uY fun w hw=>h w (aen _ hw)]
  split
  .rfl
  .have:x≠n:=by rintro rfl;exact h v aeC
   simp[this]
theorem uX{aki:Str->Option NameKind}{x:Str}{v:Value}:∀{P:Zl}{vs:Z3}{i:Nat}{m:Str->Option Value},P.Nodup->P[i]? =some x->vs[i]? =some v->aki x=some .local->
  bindL aki (P.zip vs) m x=some v
 |[],_,_,_,_,h,_,_=>by simp at h
 |_::_,[],_,_,_,_,h,_=>by simp at h
 |p::P,w::vs,0,m,nd,h1,h2,hk=>by simp at h1 h2;subst h1;subst h2;show bindL aki ((p,w)::P.zip vs) m p=_;unfold bindL;rw[uW fun v hv=>(afC.mp nd).1 (ahQ hv).1,ajz hk];simp
 |p::P,w::vs,i+1,m,nd,h1,h2,hk=>by show bindL aki ((p,w)::P.zip vs) m x=_;unfold bindL;exact uX (i:=i) (afC.mp nd).2 (by simpa using h1) (by simpa using h2) hk
theorem uZ{aki:Str->Option NameKind}{x:Str}{v:Value}:∀{P:Zl}{vs:Z3}{i:Nat}{m:Str->Option Value},P.Nodup->P[i]? =some x->vs[i]? =some v->aki x≠some .local->
  bindC aki (P.zip vs) m x=some v
 |[],_,_,_,_,h,_,_=>by simp at h
 |_::_,[],_,_,_,_,h,_=>by simp at h
 |p::P,w::vs,0,m,nd,h1,h2,hk=>by simp at h1 h2;subst h1;subst h2;show bindC aki ((p,w)::P.zip vs) m p=_;unfold bindC;rw[uY fun v hv=>(afC.mp nd).1 (ahQ hv).1,ajB hk];simp
 |p::P,w::vs,i+1,m,nd,h1,h2,hk=>by show bindC aki ((p,w)::P.zip vs) m x=_;unfold bindC;exact uZ (i:=i) (afC.mp nd).2 (by simpa using h1) (by simpa using h2) hk
def yn{sc:Scope}(h:sc.names.lookup x=some .cell):∃c,(cellsFrom n sc.names []).lookup x=some c:=by have q:=aiR sc.names n [] (.inl h);exact af0.mp q
structure fK(k:Nat)(A:Around):Prop where
 dp:A.depth+3 * k+5<recursionLimit
 un:A.units+16 * k+200<akz
 gd:A.guards=some []
def fK.mono{j:Nat}(r:fK k A)(h:j<=k):fK j A:=⟨by have:=r.dp;lia,by have:=r.un;lia,r.gd⟩
theorem fK.deeper{k:Nat}{A:Around}(r:fK (k+1) A)(env:Env):fK k (A.deeper env):=
 ⟨by have:=r.dp;show A.depth+1+3 * k+5<_;lia,by have:=r.un;show A.units+3+16 * k+200<_;lia,r.gd⟩
def zn{C:Addr}:(A.under (.builtin "type.__call__" ⟨.ref C::us,kw⟩)).depth=A.depth+1:=by first|rfl|simp[akq,Code.weight,Code.isCreation,Code.isGuard,Code.isCaller,Code.frames,akD,guardIds]
def zj{C:Addr}:(A.under (.builtin "type.__call__" ⟨.ref C::us,kw⟩)).units=A.units+1:=by first|rfl|simp[akq,Code.cUnits,Code.frames,akD]
def fK.make(r:fK (k+1) A)(C:Addr)(us:Z3)(kw:List (Str×Value)):fK k (A.under (.builtin "type.__call__" ⟨.ref C::us,kw⟩)):=
 ⟨by have:=r.dp;rw[zn];lia,by have:=r.un;rw[zj];lia,by first|exact r.gd|(simp[akq,Code.guards,Code.isGuard,guardIds,pushGuards];exact r.gd)⟩
theorem fK.depth{k:Nat}{A:Around}(r:fK k A):A.depth<recursionLimit:=by have:=r.dp;lia
theorem fK.units{k:Nat}{A:Around}(r:fK k A):A.units+64<akz:=by have:=r.un;lia
def jM(K:ajZ)(fd:FuncData)(ps:Zl)(ds:Z3):Prop:=
 ∀(s:Shared)(us:Z3),K.In s.heap->(us++ds).length=ps.length->akE s fd ⟨us,[]⟩ (ps.zip (us++ds))
def bu(s:Stmt)(j:Nat):Stmt:=match s with
 |.ClassDef _ _ _ body _ _ _ _ _ _ _=>body.getD j (.Pass ⟨0,0,0,0⟩)
 |_=>.Pass ⟨0,0,0,0⟩
def qJ(s:Stmt):Arguments:=match s with
 |.FunctionDef _ a _ _ _ _ _ _ _ _=>a
 |_=> { posonlyargs:=[],args:=[],vararg:=none,kwonlyargs:=[],kw_defaults:=[],kwarg:=none,defaults:=[] }
def iX(s:Stmt):List Stmt:=match s with
 |.FunctionDef _ _ b _ _ _ _ _ _ _=>b
 |_=> []
def bf(s:Stmt):Scope:=match s with
 |.FunctionDef _ _ _ _ _ _ sc _ _ _=>sc
 |_=> { kind:=.function,names:=[],isGenerator:=ajt,isCoroutine:=ajt }
structure Fun(K:ajZ)(x qual:Str)(st:Stmt)(f:Addr)(fd:FuncData):Prop where
 ex:∃(oc:Value)(od:Option Addr)(kV doc pm:Value)(an:Option Addr)(cdv ct:Value)(Zm:Array (Option Value)),
  fd=W.fnOf x qual (qJ st) (iX st) (bf st) .none kV doc pm an cdv ct/\K.lookup f=some ⟨oc,od,.func fd,Zm⟩/\W.codeIn K cdv qual=true
 kp:aj1 K (.ref f)=true
noncomputable def st0(n:Nat)(ps:Y2):Ev:=ps.map some++aju (n - ps.length) none
noncomputable def kQ(c:Bool)(X:Cx)(N:Zl)(qual:Str)(scope:Scope)(f:Addr)(cd:Value)(A:Around)(s:Shared):Cx:=
 { X with A:=A.deeper (akc qual scope s.heap.objs.size f cd),N:=N,env:=akc qual scope s.heap.objs.size f cd,stack:=akc qual scope s.heap.objs.size f cd::X.stack,fn:=fun _=>true,calm:=c,tr:=true,Ep:=akL (ajC X.prog X.w) (A.deeper (akc qual scope s.heap.objs.size f cd)) (akc qual scope s.heap.objs.size f cd) }
def New(X Y:Cx)(w:Wo):Prop:=(∀b,Y.W b->w.s.heap.get? b=none)/\∀b∈Y.fs,b∈X.fs\/w.s.heap.get? b=none
section
variable{w:Wo}{N ps:Zl}{qual name:Str}{f:Addr}{cd:Value}{qs:Y2}
def IZ(env:Env)(ps:Zl)(us:Z3)(s s1:Shared):Prop:=∃h t,s1= { s with heap:=h,toks:=t }/\(∀b o,s.heap.get? b=some o->h.get? b=some o)/\∃m,h.Ns env.locals m/\∀(i:Nat) y u,ps[i]? =some y->us[i]? =some u->yx env h m y u
def Cp{s1:Shared}(S:mD N ps scope){c:Bool}(hd:c=true->A.handled=none)(hf:A.frames=some X.stack)(I:Wd X w h)(ok:X.Ok)(hl:qs.length=ps.length)(r:aO X.toSC w.F w.m qs us)
  (x:InCallC w.s w.s.heap.objs.size (bindL (akc qual scope w.s.heap.objs.size f cd).kindOf (ps.zip us) fun _=>none) (cellsFrom (w.s.heap.objs.size+1) scope.names []) (bindC (akc qual scope w.s.heap.objs.size f cd).kindOf (ps.zip us) fun _=>none) s1):
  New X (kQ c X N qual scope f cd A w.s) w/\Sd X.fs Xq w { w with s:=s1 }/\Inv (kQ c X N qual scope f cd A w.s) { w with s:=s1 } (st0 N.length qs) h/\IZ (akc qual scope w.s.heap.objs.size f cd) ps us w.s s1:=by
 have Yc:ps.length<=N.length:=by have:=aj0 ak3 S.pre;rw[ae5]at this;lia
 obtain⟨h1,tk,rfl,hk⟩:=x.done;have n:=Nw.also (X:=X) (s':={ w.s with heap:=h1,toks:=tk }) I.toHR hk;have W:=I.on n.1 (fun _ _ z=>z.elim) n.2;have nn:∀{b},w.s.heap.objs.size<=b->w.s.heap.get? b=none:=fun{b} z=>by cases q:w.s.heap.get? b with|none=>rfl|some o=>exact absurd (afu (aeT q) z) (agf _)
 have pv:∀{b o},w.s.heap.objs.size<=b->h1.get? b=some o->Has { w with s:={ w.s with heap:=h1,toks:=tk } } b o:=fun{b o} z e=>⟨e,I.toHR.free (nn z)⟩
 obtain⟨oL,es,ep,eL,dL,_⟩:=id x.toInCall.ns;have hL:=pv (aeB _) eL;have ndP:ps.Nodup:=by rw[<- S.pre];exact S.nd.sublist (aiM _ _)
 have lk:∀(i:Nat) y u,ps[i]? =some y->us[i]? =some u->yx (akc qual scope w.s.heap.objs.size f cd) h1 (bindL (akc qual scope w.s.heap.objs.size f cd).kindOf (ps.zip us) fun _=>none) y u:=fun i y u hp hu=>by
  rcases S.par y (aex hp)with k|k
  .exact .inl ⟨k,uX ndP hp hu k⟩
  .obtain⟨c,e⟩:=yn (n:=w.s.heap.objs.size+1) k;refine .inr ⟨.inl k,c,e,?_⟩;have q:=x.cell y c e;rw[uZ ndP hp hu (by show scope.names.lookup y≠_;rw[k];decide)]at q;exact q
 refine⟨⟨fun b z=>z.elim (fun z=>z▸bG _) (by rintro ⟨y,_,e⟩;exact nn (aiK (x.above y b (afA e)))),fun b z=>(aek.mp (show b∈w.s.heap.objs.size::X.fs from z)).elim (fun z=>.inr (by rw[z];exact bG _)) .inl⟩,n.1,⟨⟨W.toHR,W.ba,W.bs,fun b hb=>?_⟩,⟨ok.Tz,ok.gl,ok.bl,ok.nl,S.kind,rfl,rfl,fun y z c h1 h2=>?_,fun y hy=>?_,hd,agT hf,S.nd,fun e he=>?_⟩,⟨_,oL,x.toInCall.ns,hL,fun i p e=>?_⟩,fun y c e=>?_,?_⟩,_,_,rfl,hk,_,x.toInCall.ns,lk⟩
 .rcases aek.mp (show b∈w.s.heap.objs.size::X.fs from hb)with rfl|hb
  .exact⟨oL,hL,fun vs z=>by rw[dL]at z;cases z⟩
  .exact W.fr b hb
 .exact name_of_addr x.apart (afA h1) (afA h2)
 .have hy:scope.names.lookup y=some .cell\/scope.names.lookup y=some .free:=hy;rcases hy with hy|hy
  .exact yn hy
  .exact absurd rfl (S.Z2 _ (afA hy))
 .rcases aek.mp he with rfl|he
  .exact⟨by rw[show(akc qual scope w.s.heap.objs.size f cd).scope.kind=.function from S.kind];decide,_,rfl,by
    cases q:X.base.get? w.s.heap.objs.size with
    |none=>exact q
    |some o=>have:=I.bk q;rw[bG]at this;cases this⟩
  .exact ok.sf e he
 .have hi:i<qs.length:=by
   unfold st0 at e
   by_cases hi:i<qs.length
   .exact hi
   .rw[aeD (by simpa using hi),afM]at e
    split at e<;>cases e
  have ha:qs[i]? =some p:=by
   unfold st0 at e;rw[aez (by simpa using hi),aeY]at e
   cases e':qs[i]? with
   |none=>rw[e']at e;cases e
   |some a=>rw[e']at e;cases e;rfl
  obtain⟨u,hu,rv⟩:=r.get ha;obtain⟨y,hp⟩:∃y,ps[i]? =some y:=⟨ps[i],by simp[hl▸hi]⟩
  have hN:N[i]? =some y:=by rw[<- S.pre,afp ⋯]at hp;exact hp
  exact⟨y,u,hN,rv,lk i y u hp hu⟩
 .obtain⟨o,q,d⟩:=x.cell y c e;exact⟨_,o,⟨o,q,d⟩,pv (aiK (x.above y c (afA e))) q⟩
 .simp only[st0,aei,aes,ae9];show _=N.length
  lia
abbrev RC(Q:Yf)(E:Yf)(r:Result)(s:Shared):Prop:=match r with
 |.ok (.ret u)=>Q u s
 |.ok _=>False
 |.error e=>E e s
def ph{c:Bool}{st:Stmt}{fd:FuncData}{args:Args}(F:Fun X.K name qual st f fd)(S:mD N ps (bf st))(hr:fK (k+1) A)(hd:c=true->A.handled=none)(hf:A.frames=some X.stack)(I:Wd X w h)(ok:X.Ok)(hl:qs.length=ps.length)(r:aO X.toSC w.F w.m qs us)(hb:akE w.s fd args (ps.zip us))
  (go:∀cd s1,fK k (A.deeper (akc qual (bf st) w.s.heap.objs.size f cd))->New X (kQ c X N qual (bf st) f cd A w.s) w->Sd X.fs Xq w { w with s:=s1 }->Inv (kQ c X N qual (bf st) f cd A w.s) { w with s:=s1 } (st0 N.length qs) h->IZ (akc qual (bf st) w.s.heap.objs.size f cd) ps us w.s s1->
   Wp (kQ c X N qual (bf st) f cd A w.s) (execs (iX st) (kQ c X N qual (bf st) f cd A w.s).env) (fun fl s=>match fl with|.ret u=>Q u s|.next=>Q .none s|_=>False) (fun e s=>Wp (kQ c X N qual (bf st) f cd A w.s) (leaving (kQ c X N qual (bf st) f cd A w.s).env e) (fun _ s=>E e s) E s) s1):
  aj4 (ajC X.prog X.w) A (.call (.ref f) args) (RC Q E) w.s:=by
 obtain⟨oc,od,kV,doc,pm,an,cdv,ct,Zm,rfl,lk,Yp⟩:=F.ex;have KX:X.K.In w.s.heap:=ok.Tz.keeps fun _ _ e=>I.bk e;have lim:w.s.heap.NoLimit:=ok.nl.keeps fun _ _ e=>I.bk e;have aaX:∀y∈ps.zip us,(bf st).names.lookup y.1=some .local\/((bf st).names.lookup y.1=some .cell/\((cellsFrom (w.s.heap.objs.size+1) (bf st).names []).lookup y.1).isSome=true):=(by rintro ⟨n,v⟩ hy;exact (S.par n (ahQ hy).1).imp_right fun q=>⟨q,aiR _ _ _ (.inl q)⟩)
 refine codeAny_call_function hr.depth (KX _ _ lk) rfl S.co S.gen rfl (W.codeRec_of KX Yp) (hb _ _ _ _ ?_);refine wpAny_newFunctionEnv_cells S.kind aaX fun env he s1 x=>?_;subst he;refine⟨lim.keeps x.toInCall.keep,codeAny_func ?_⟩;obtain⟨nw,y,J,gr⟩:=Cp (N:=N) (cd:=cdv) S hd hf I ok hl r x;refine afi (go cdv s1 (hr.deeper _) nw y J gr) (fun fl s' hs=>?_) fun e s' hs=>hs
 cases fl<;>first|exact hs|exact hs.elim
end
def Ws:Y2->Y3->Option (Y2×Y3)
 |[],h=>some ([],h)
 |p::r,h=>match dK h p with
  |some (q,h1)=>match Ws r h1 with
   |some (qs,h2)=>some (q::qs,h2)
   |none=>none
  |none=>none
inductive Out where
 |ok (v:PV)|bad
def aP(v:PV)(h:Y3):Out:=match dK h v with
 |some (q,_)=>.ok q
 |none=>.bad
def ag(f:Sx)(np n:Nat)(ps:Y2):Out:=if ps.length=np then match f (ps.map some++aju (n - ps.length) none) []with
  |.nx _ _=>.ok .non
  |.rt v h=>aP v h
  |_=>.bad
 else .bad
def aR(fn:Y2->Out)(ps:Y2)(h:Y3):Res PV:=match Ws ps h with
 |some (qs,h2)=>match fn qs with
  |.ok v=>.ok v h2
  |.bad=>.bad
 |none=>.bad
def aJ(fn:Y2->Out)(as:Ax):Ex:=fun ρ h=>(as ρ h).bind (aR fn)
structure YT(G:SC)(k:Nat)(f:Addr)(fd:FuncData)(ps:Zl)(fn:Y2->Out):Prop where
 len:∀qs v,fn qs=.ok v->qs.length=ps.length
 run:∀{X:Cx}{w:Wo}{h:Y3}{A:Around}{qs:Y2}{us:Z3}{v:PV}{args:Args}{Q:Yf}{E:Yf},X.toSC=G->fK k A->A.handled=none->A.frames=some X.stack->Wd X w h->X.Ok->aO G w.F [] qs us->fn qs=.ok v->akE w.s fd args (ps.zip us)->
  (∀F' s' u,Nw X w ⟨F',w.O,w.m,s'⟩ h->bx G F' [] v u->Q u s')->aj4 (ajC G.prog G.w) A (.call (.ref f) args) (RC Q E) w.s
section
variable{w:Wo}{N ps:Zl}{qual name:Str}{st:Stmt}{f:Addr}{fd:FuncData}{g:Sx}
def Wd.hide(I:Wd X w h):Wd X ⟨w.F,fun _=>none,[],w.s⟩ []:=⟨⟨I.sub,fun _ _ e=>(nomatch e),rfl,List.nodup_nil,fun _ _ _ e=>(nomatch e)⟩,I.ba,I.bs,fun b hb=>let⟨o,q,d⟩:=I.fr b hb;⟨o,⟨q.1,by simp,q.2.2.1,rfl⟩,d⟩⟩
def Sd.out{Y:Cx}(nw:New X Y w)(y:W_ Y w w2):Sd X.fs Xq w w2:=⟨y.os,y.ba,y.fz,y.ow,y.pre,y.dom,fun b o q _=>by
 obtain⟨sl,q',z⟩:=y.keep b o q fun z=>by have q:=q.1;rw[nw.1 b z]at q;cases q
 exact⟨sl,q',z.imp_left fun z=>(nw.2 b z).resolve_right fun z=>by have q:=q.1;rw[z]at q;cases q⟩⟩
def Nw.back{m0:Zs}{h':Y3}(I:Wd X w h)(y:Sd X.fs Xq ⟨w.F,fun _=>none,m0,w.s⟩ w1)(H:HR X.toSC w1 h1)(hl:h'.length=h.length)(hm:∀a∈m0,a∈w.m)(ho:∀(i:Nat) po a,h'[i]? =some po->w.m[i]? =some a->a∈m0->tE X.toSC w1.F w.m w.O w1.s.heap a po)(hk:∀(i:Nat) po a,h'[i]? =some po->w.m[i]? =some a->a∉m0->h[i]? =some po):Nw X w ⟨w1.F,w.O,w.m,w1.s⟩ h':=by
 have k:∀b o,w.s.heap.get? b=some o->w.F b=none->b∉m0->∃sl,(w1.s.heap.get? b=some { o with slots:=sl }/\w1.F b=none)/\(b∈X.fs\/sl=o.slots):=fun b o e n z=>by obtain⟨sl,q,z⟩:=y.keep b o ⟨e,z,n,rfl⟩ fun z=>z;exact⟨sl,⟨q.1,q.2.2.1⟩,z⟩
 have k':∀b o,w.s.heap.get? b=some o->w.F b=none->b∉m0->b∉X.fs->w1.s.heap.get? b=some o/\w1.F b=none:=fun b o e n y z=>by
  obtain⟨sl,q,z'⟩:=k b o e n y;rcases z' with z'|rfl
  .exact absurd z' z
  .exact q
 have nf:∀{b},¬ XH w b->b∉X.fs:=fun n z=>let⟨_,q,_⟩:=I.fr _ z;n q.2;have no:∀{b a},w.O b=some a->b∉m0:=fun e z=>let⟨_,y,_⟩:=I.own _ _ e;y (hm _ z);refine⟨⟨y.os,y.ba,y.fz,fun _ _ e=>e,⟨[],by simp⟩,y.dom,fun b o q _=>?_⟩,H.sub,fun d a e=>?_,hl.trans I.len,I.nd,fun i po a e1 e2=>?_⟩
 .obtain⟨sl,q',z⟩:=k b o q.1 q.2.2.1 fun z=>q.2.1 (hm _ z);exact⟨sl,⟨q'.1,q.2.1,q'.2,q.2.2.2⟩,z⟩
 .obtain⟨⟨o,q⟩,z,n⟩:=I.own d a e;exact⟨y.dom d o q,z,(k' d o q n (no e) (nf fun y=>by rw[y.2.2]at e;cases e)).2⟩
 .by_cases z0:a∈m0
  .exact ho i po a e1 e2 z0
  .refine(I.obj i po a (hk i po a e1 e2 z0) e2).on y.fz (fun _ e=>e) (fun _ _ e=>e) (fun b o e z=>?_) fun n=>?_
   .cases n:w.F b with
    |some x=>rw[I.sub b x n]at e;cases e;exact H.sub b _ (y.fz _ _ n)
    |none=>exact(k' b o e n (z.elim (fun z=>z▸z0) no) (nf fun y=>z.elim (fun z=>y.1 (z▸aex e2)) fun z=>by rw[y.2.2]at z;cases z)).1
   .obtain⟨o,q⟩:=I.toHR.there (aex e2);exact(k' a o q n z0 (nf fun y=>y.1 (aex e2))).2
def Nw.show{Y:Cx}(I:Wd X w h)(nw:New X Y w)(y:W_ Y ⟨w.F,fun _=>none,[],w.s⟩ w1)(H:HR X.toSC w1 h1):Nw X w ⟨w1.F,w.O,w.m,w1.s⟩ h:=Nw.back I (Sd.out (w:=⟨w.F,fun _=>none,[],w.s⟩) nw y) H rfl (by simp) (fun _ _ _ _ _ z=>absurd z (by simp)) fun _ _ _ e _ _=>e
def HJ(F:Fun G.K name qual st f fd)(S:mD N ps (bf st))(hb:∀(X:Cx)(cd:Value)(A:Around)(s:Shared),X.toSC=G->fK k (A.deeper (akc qual (bf st) s.heap.objs.size f cd))->XK (kQ true X N qual (bf st) f cd A s) (iX st) g):YT G (k+1) f fd ps (ag g ps.length N.length) where
 len qs v e:=by
  unfold ag at e
  split at e
  .assumption
  .cases e
 run {X w h A qs us v args Q E} hG hr hd hf I ok r e hbd q:=by
  subst hG;unfold ag at e
  split at e
  .rename_i hl;refine ph (c:=true) (w:=⟨w.F,fun _=>none,[],w.s⟩) F S hr (fun _=>hd) hf I.hide ok hl r hbd fun cd s1 hr1 nw y J _=>?_
   have ends:∀{w2:Wo}{h2 h3:Y3}{p:PV}{u:Value},W_ (kQ true X N qual (bf st) f cd A w.s) { F:=w.F,O:=fun _=>none,m:=[],s:=s1 } w2->HR X.toSC w2 h2->bx X.toSC w2.F w2.m p u->dK h2 p=some (v,h3)->Q u w2.s:=fun{w2 h2 h3 p u} y2 H2 r2 e2=>by obtain⟨F',n,r3,pu⟩:=H2.frz (X:=kQ true X N qual (bf st) f cd A w.s) r2 e2;exact q F' w2.s u (Nw.show I nw (Sd.trans (y.weak (fun _ z=>z.elim) fun b z=>aen _ z) (y2.trans n.s)) n.2) (r3.mono (fun _ _ e=>e) (.inl pu))
   refine afi ((hb X cd A w.s rfl hr1).r (E:=fun _ _=>False) J ?_) (fun _ _ z=>z) fun _ _ z=>z.elim;unfold st0
   split at e<;>rename_i e'<;>first|rw[e']|skip
   .cases e
    exact⟨.never,fun w2 y2 I2=>ends y2 I2.toHR .non (h3:=_) rfl⟩
   .unfold aP at e
    split at e<;>cases e
    exact⟨.never,fun w2 u ρ2 y2 I2 r2=>ends y2 I2.toHR r2 ‹_›⟩
   .cases e
  .cases e
theorem HR.Ws:∀{ps qs:Y2}{us:Z3}{w:Wo}{h h':Y3},HR X.toSC w h->aO X.toSC w.F w.m ps us->Ws ps h=some (qs,h')->∃F',Nw X w ⟨F',w.O,w.m,w.s⟩ h'/\aO X.toSC F' [] qs us
 |[],_,_,w,_,_,H,.nil,k=>by cases k;exact⟨w.F,⟨.refl,H⟩,.nil⟩
 |p::ps,qs,_,w,h,h',H,.cons r t,k=>by
  unfold Z.Ws at k
  split at k
  .rename_i e;obtain⟨F1,n1,r1,pu⟩:=H.frz (X:=X) r e
   split at k<;>cases k
   rename_i e2;obtain⟨F2,n2,r2⟩:=HR.Ws n1.2 (n1.1.reps t) e2;exact⟨F2,n1.trans n2,.cons (r1.mono n2.1.fz (.inl pu)) r2⟩
  .cases k
structure ZC(X:Cx)(x:Str)(fn:Y2->Z.Out):Prop where
 ex:∃k f fd ps,YT X.toSC k f fd ps fn/\fK k X.A/\X.mg x=some (.ref f)/\aj1 X.K (.ref f)=true/\jM X.K fd ps []
variable{e:Expr}{p0:Pos}{fs:Ax}{fn:Y2->Z.Out}
theorem YT.call{qs:Y2}{us:Z3}{Q:Yf}{E:Yf}(F:YT X.toSC k f fd ps fn)(hr:fK k X.A)(hc:X.calm=true)(hb:jM X.K fd ps [])(I:Inv X w ρ h)(r:aO X.toSC w.F w.m qs us)(p:cf X (RV X.toSC) w Q E (aR fn qs h)):Wp X (call (.ref f) us) Q E w.s:=by
 unfold aR at p
 split at p
 .rename_i e1
  split at p
  .rename_i qs' h2 v e2;obtain⟨F',n,r'⟩:=I.toHR.Ws r e1;have I':=I.on n;refine agi (F.run (w:=⟨F',w.O,w.m,w.s⟩) rfl hr (I.ok.hd hc) I.ok.frames I'.toWd I'.ok r' e2 (by simpa using hb w.s us I.UJ (by rw[aep,<- r'.length];exact F.len _ _ e2)) fun F2 s2 u n2 r2=>?_);exact p.2 _ _ (n.trans n2) (r2.mono (fun _ _ e=>e) (.inr fun _ _ e=>nomatch e))
  .exact p.elim
 .exact p.elim
def GH(c:ZC X x fn)(hg:Gl X x)(ha:RA X (e::es) fs)(hc:X.calm=true)(V6:(x==("__debug__":Str))=ajt)(he:ajF (e::es) X.env=(ajt,eval e X.env)::ajF es X.env)(Yc:(akd pos (ajF es X.env)).any (·.1)=ajt):RE X (.Call (.Name x p0) (e::es) [] pos) (aJ fn fs):=⟨fun I p=>by obtain⟨k,f,fd,ps,F,hr,hm,hk,hb⟩:=c.ex;exact afd (I.ZG hg hm (agy (h₀:=X.base) I.ok.Tz hk (ha.r pos I (p.bind fun _ _ _ _ y r p=>⟨(I.on y).UJ,F.call hr hc hb (I.on y) r p⟩)) he Yc) V6)⟩
def DE(c:ZC X x fn)(hg:Gl X x)(hc:X.calm=true)(V6:(x==("__debug__":Str))=ajt):RE X (.Call (.Name x p0) [] [] pos) (aJ fn af):=⟨fun I p=>by obtain⟨k,f,fd,ps,F,hr,hm,hk,hb⟩:=c.ex;exact afd (I.ZG hg hm (aiq I.UJ hk (F.call hr hc hb I .nil p)) V6)⟩
end
noncomputable def fR(cells:List (Str×Addr)):List (Str×NameKind)->List (Str×Addr)->List (Str×Addr)
 |[],cs=>cs
 |(n,k)::r,cs=>fR cells r (if k==.free then(match cells.lookup n with|some a=>(n,a)::cs|none=>cs)else cs)
theorem uR(cells:List (Str×Addr)):∀(l:List (Str×NameKind))(cs:List (Str×Addr))(p:Str×Addr),p∈fR cells l cs->p∈cs\/(cells.lookup p.1=some p.2/\(p.1,NameKind.free)∈l)
 |[],cs,p,h=>.inl h
 |(n,k)::r,cs,p,h=>by
  unfold fR at h;rcases uR cells r _ p h with q|⟨q1,q2⟩
  .by_cases hk:k=.free
   .subst hk;simp only[akj,ajA]at q
    cases e:cells.lookup n with
    |none=>rw[e]at q;exact .inl q
    |some a=>
     rw[e]at q;rcases aek.mp q with rfl|q
     .exact .inr ⟨e,aeC⟩
     .exact .inl q
   .have hb:(k==NameKind.free)=ajt:=by simpa using hk
    simp only[hb,aeS,ajQ]at q;exact .inl q
  .exact .inr ⟨q1,aen _ q2⟩
theorem uQ(cells:List (Str×Addr)):∀(l:List (Str×NameKind))(cs:List (Str×Addr))(p:Str×Addr),p∈cs->p∈fR cells l cs
 |[],_,_,h=>h
 |(n,k)::r,cs,p,h=>by
  unfold fR;refine uQ cells r _ p ?_
  split
  .split
   .exact aen _ h
   .exact h
  .exact h
theorem uU(cells:List (Str×Addr)){x:Str}{c:Addr}(hc:cells.lookup x=some c):∀(l:List (Str×NameKind))(cs:List (Str×Addr)),(x,NameKind.free)∈l->(x,c)∈fR cells l cs
 |(n,k)::r,cs,h=>by
  unfold fR;rcases aek.mp h with e|h
  .cases e
   refine uQ cells r _ _ ?_;simp only[akj,ajA,hc];exact aeC
  .exact uU cells hc r _ h
theorem mH{x:Str}{c:Addr}:∀{l:List (Str×Addr)},(x,c)∈l->∃c',l.lookup x=some c'
 |(y,d)::r,h=>by
  by_cases e:x=y
  .subst e;exact⟨d,by simp[afl]⟩
  .have hb:(x==y)=ajt:=by simpa using e
   rw[afl,hb];rcases aek.mp h with q|q
   .cases q;exact absurd rfl e
   .exact mH q
def nh{c:Addr}(h:(fR cells l []).lookup x=some c):cells.lookup x=some c/\(x,NameKind.free)∈l:=by
 rcases uR cells l [] (x,c) (afA h)with q|q
 .cases q
 .exact q
def ym{c:Addr}(hc:cells.lookup x=some c)(h:(x,NameKind.free)∈l):(fR cells l []).lookup x=some c:=by obtain⟨c',e⟩:=mH (uU cells hc l [] h);rw[e,<- hc,(nh e).1]
def jR{env:Env}(h:∀n,(n,NameKind.free)∈scope.names->∃c,env.cells.lookup n=some c):closureFor scope env=pure (fR env.cells scope.names []):=by
 unfold closureFor
 have go:∀(l:List (Str×NameKind))(cs:List (Str×Addr)),(∀n,(n,NameKind.free)∈l->∃c,env.cells.lookup n=some c)->
   (forIn l cs fun x r=>if(x.2==NameKind.free)=true then do let a <- cellOf env x.1;pure (ForInStep.yield ((x.1,a)::r))else pure (ForInStep.yield r):Sem (List (Str×Addr)))=pure (fR env.cells l cs):=by
  intro l
  induction l with
  |nil=>intro cs _;rfl
  |cons x r ih=>
   intro cs hl;obtain⟨n,k⟩:=x;rw[List.forIn_cons];have hr:∀n,(n,NameKind.free)∈r->∃c,env.cells.lookup n=some c:=fun y hy=>hl y (aen _ hy)
   by_cases hk:k=.free
   .subst hk;obtain⟨c,hc⟩:=hl n aeC;have e:cellOf env n=pure c:=by unfold cellOf;rw[hc]
    simp only[akj,ajA,e,pure_bind,fR,hc];exact ih _ hr
   .have hb:(k==NameKind.free)=ajt:=by simpa using hk
    simp only[hb,aeS,ajQ,pure_bind,fR];exact ih _ hr
 have q:=go scope.names [] h;simp only[bind_pure];exact q
theorem kz{env:Env}{x:Str}:∀{names:List (Str×NameKind)},(∀y∈names,y.2≠.cell)->∀{k:NameKind},
  (names.map fun(n,k)=>if(k==NameKind.free&&env.scope.kind==.function&&env.kindOf n==some .cell)then(n,NameKind.cell)else(n,k)).lookup x=some k->k=.cell\/k=.free->(x,NameKind.free)∈names
 |[],_,_,h,_=>by simp at h
 |(n,k0)::r,hn,k,h,hk=>by
  have ih:= @kz env x r (fun y hy=>hn y (aen _ hy)) k;rw[aeA]at h
  by_cases hc:(k0==NameKind.free&&env.scope.kind==.function&&env.kindOf n==some .cell)=true
  .have h2:ajR x ((n,NameKind.cell)::r.map fun(n,k)=>if(k==NameKind.free&&env.scope.kind==.function&&env.kindOf n==some .cell)then(n,NameKind.cell)else(n,k))=some k:=by have q:=h;simp only[hc,ajA]at q;exact q
   have hf:k0=.free:=by
    have z:(k0==NameKind.free)=true:=by
     cases e:(k0==NameKind.free)with
     |true=>rfl
     |false=>rw[e]at hc;simp at hc
    simpa using z
   by_cases e:x=n
   .subst e;subst hf;exact aeC
   .have hb:(x==n)=ajt:=by simpa using e
    rw[afl,hb]at h2;exact aen _ (ih h2 hk)
  .have h2:ajR x ((n,k0)::r.map fun(n,k)=>if(k==NameKind.free&&env.scope.kind==.function&&env.kindOf n==some .cell)then(n,NameKind.cell)else(n,k))=some k:=by have q:=h;simp only[hc,ajQ]at q;exact q
   by_cases e:x=n
   .subst e;rw[afl,akj]at h2;have e2:k0=k:=aeW h2;subst e2;rcases hk with z|z
    .exact absurd z (hn (x,k0) aeC)
    .subst z;exact aeC
   .have hb:(x==n)=ajt:=by simpa using e
    rw[afl,hb]at h2;exact aen _ (ih h2 hk)
theorem nO{env:Env}{x:Str}:∀{names:List (Str×NameKind)},names.lookup x=some .free->
  (names.map fun(n,k)=>if(k==NameKind.free&&env.scope.kind==.function&&env.kindOf n==some .cell)then(n,NameKind.cell)else(n,k)).lookup x=some .cell\/
  (names.map fun(n,k)=>if(k==NameKind.free&&env.scope.kind==.function&&env.kindOf n==some .cell)then(n,NameKind.cell)else(n,k)).lookup x=some .free
 |[],h=>by simp at h
 |(n,k)::r,h=>by
  have ih:= @nO env x r;show ajR x ((if(k==NameKind.free&&env.scope.kind==.function&&env.kindOf n==some .cell)=true then(n,NameKind.cell)else(n,k))::_)=_\/ajR x ((if(k==NameKind.free&&env.scope.kind==.function&&env.kindOf n==some .cell)=true then(n,NameKind.cell)else(n,k))::_)=_
  by_cases hc:(k==NameKind.free&&env.scope.kind==.function&&env.kindOf n==some .cell)=true
  .rw[ajz hc]
   cases hx:x==n with
   |true=>left;simp[afl,hx]
   |false=>simp only[afl,hx]at h |-;exact ih h
  .rw[ajB hc]
   cases hx:x==n with
   |true=>
    simp only[afl,hx]at h
    right;simp[afl,hx,h]
   |false=>simp only[afl,hx]at h |-;exact ih h
theorem wy{w:World}{s:Shared}{elt target:Expr}{it acc:Value}{env:Env}(I:Nat->Shared->Prop)
  (turn:∀n s,I n s->ajD (ajC prog w) A (akY it) (fun r s₁=>match r with
   |none=>R (.ok .next) s₁
   |some v=>ajD (ajC prog w) A (akm target it v) (fun _ s₂=>ajD (ajC prog w) A (assign target env v) (fun _ s₃=>
     ajD (ajC prog w) A (forIn ifs true fun c r=>if r=true then do let ok <- isTrue c env (eval c env);pure (ForInStep.yield ok)else pure (ForInStep.yield r)) (fun ok s₄=>
      if ok=true then ajD (ajC prog w) A (eval elt env) (fun x s₅=>ajD (ajC prog w) A (call (.builtin "list.append") [acc,x]) (fun _ s₆=>∃m,m<n/\I m s₆) (fun _ _=>False) s₅) (fun _ _=>False) s₄
      else∃m,m<n/\I m s₄) (fun _ _=>False) s₃) (fun _ _=>False) s₂) (fun _ _=>False) s₁) (fun _ _=>False) s)
  n (h:I n s):
  aj4 (ajC prog w) A (.compLoop (.ListComp elt [⟨target,iter,ifs,0⟩] scope pos) 0 it acc env) R s:=by
 refine codeAny_loop rfl I (fun n s hI=>?_) n h;show ajD _ A ((compTurn (.ListComp elt [⟨target,iter,ifs,0⟩] scope pos) 0 it acc env).onRaise (fun x=>do noteFrame x env;theTreesLotGoes x)) _ _ s;refine wpAny_noted ?_;rw[compTurn_list];refine aeg (agN (aeg (afi (turn n s hI) (fun r s₁ h₁=>?_) fun _ _ h'=>h'.elim)))
 cases r with
 |none=>exact aeu h₁
 |some v=>
  refine aeg (afi h₁ (fun _ s₂ h₂=>aeg (afi h₂ (fun _ s₃ h₃=>aeg (afi h₃ (fun ok s₄ h₄=>?_) fun _ _ h'=>h'.elim)) fun _ _ h'=>h'.elim)) fun _ _ h'=>h'.elim)
  cases ok with
  |false=>exact aeu ⟨rfl,h₄⟩
  |true=>exact aeg (aeg (afi h₄ (fun x s₅ h₅=>aeg (afi h₅ (fun _ s₆ h₆=>aeu (aeu ⟨rfl,h₆⟩)) fun _ _ h'=>h'.elim)) fun _ _ h'=>h'.elim))
noncomputable def Res.calm{α:Type}(r:Res α):Res α:=match r with
 |.exc _ _=>.bad
 |r=>r
noncomputable def cU(t_:Y1)(ρ:Ev):Ev:=t_.map fun i=>(ρ[i]?).getD none
def fB(g:Gx)(tt:Tx)(te:Ex)(ρ0:Ev):Y2->Y3->Res Y2
 |[],h=>.ok [] h
 |p::r,h=>match g p ρ0 with
  |some ρ1=>(tt ρ1 h).bind fun b h1=>if b=true then(te ρ1 h1).bind fun v h2=>(fB g tt te ρ0 r h2).bind fun vs h3=>.ok (v::vs) h3 else fB g tt te ρ0 r h1
  |none=>.bad
def fT(n:Nat)(g:Gx)(t_:Y1)(it:Ax)(tt:Tx)(te:Ex):Ax:=fun ρ h=>(it ρ h).bind fun xs h1=>if xs.length<ajx then(fB g tt te (aju n none++cU t_ ρ) xs h1).calm else .bad
noncomputable def bQ:Tx:=fun _ h=>.ok true h
noncomputable def VL(ps:Y2)(h:Y3):Res PV:=.ok (.lst ps) h
noncomputable def jw(ps:Y2)(h:Y3):Res PV:=.ok (.ref h.length) (h++ [.lst ps])
structure hZ(N:Zl)(YZ scope:Scope)(t_:Y1)(vs M:Zl):Prop where
 kind:scope.kind=.function
 Yl:∀y∈scope.names,y.2≠.cell
 names:∀y∈scope.names,y.2=.local->scope.names.lookup y.1=some .local
 free:∀y∈scope.names,y.2=.free->YZ.names.lookup y.1=some .cell\/YZ.names.lookup y.1=some .free
 inN:M=vs++t_.map fun i=>N.getD i ""
 cap:∀i∈t_,i<N.length/\scope.names.lookup (N.getD i "")=some .free
 nd:M.Nodup
noncomputable def wz(N:Zl)(YZ scope:Scope)(t_:Y1)(vs M:Zl):Bool:=
 decide (scope.kind=.function)&&decide (∀y∈scope.names,y.2≠.cell)&&decide (∀y∈scope.names,y.2=.local->scope.names.lookup y.1=some .local)
  &&decide (∀y∈scope.names,y.2=.free->YZ.names.lookup y.1=some .cell\/YZ.names.lookup y.1=some .free)&&decide (M=vs++t_.map fun i=>N.getD i "")
  &&decide (∀i∈t_,i<N.length/\scope.names.lookup (N.getD i "")=some .free)&&decide M.Nodup
def hZ.of{N:Zl}{YZ:Scope}{t_:Y1}{vs M:Zl}(h:wz N YZ scope t_ vs M=true):hZ N YZ scope t_ vs M:=by unfold wz at h;simp only[ael,ajE]at h;obtain⟨⟨⟨⟨⟨⟨a,b⟩,c⟩,d⟩,e⟩,f⟩,g⟩:=h;exact⟨a,b,c,d,e,f,g⟩
noncomputable def bU(X:Cx)(M:Zl)(scope:Scope)(cl:List (Str×Addr))(C:Addr):Cx:={ X with N:=M,env:=compEnvC scope cl C X.env,fn:=fun _=>ajt,Ep:=fun _=>True }
structure YS(X:Cx)(ifs:List Expr)(f:Tx):Prop where
 r:∀{w:Wo}{ρ:Ev}{h:Y3}{Q:Bool->Shared->Prop}{E:Yf},Inv X w ρ h->cf X (fun _ a b=>a=b) w Q E (f ρ h)->Wp X (forIn ifs true fun c r=>if r=true then do let ok <- isTrue c X.env (eval c X.env);pure (ForInStep.yield ok)else pure (ForInStep.yield r)) Q E w.s
section
variable{w:Wo}{c:Expr}{f:Tx}
def JI:YS X [] bQ:=⟨fun I p=>wpAny_tests_nil (p.here I.toHR rfl)⟩
def JH(ha:RT X c f):YS X [c] f:=⟨fun I p=>wpAny_tests_one (ha.r I p)⟩
def Sd.new{fs:Zs}{W W':Addr->Prop}(x:Sd fs W w w1)(y:Sd fs W' w1 w2)(n:∀b,W' b->w.s.heap.get? b=none):Sd fs W w w2:=
 ⟨y.os.trans x.os,y.ba∘x.ba,fun a o e=>y.fz a o (x.fz a o e),fun a o e=>y.ow a o (x.ow a o e),let⟨t,e⟩:=x.pre;let⟨u,e'⟩:=y.pre;⟨t++u,by rw[e',e,aeK]⟩,fun b o e=>let⟨o',q⟩:=x.dom b o e;y.dom b o' q,fun b o q z=>by
  obtain⟨sl,q1,z1⟩:=x.keep b o q z;obtain⟨sl',q2,z2⟩:=y.keep b _ q1 fun z=>by have q:=q.1;rw[n b z]at q;cases q
  exact⟨sl',q2,z1.elim .inl fun z=>z2.imp_right fun z'=>z'.trans z⟩⟩
def zG{M:Zl}{t_:Y1}{vs:Zl}{C:Addr}{m:Str->Option Value}{s1:Shared}(S:hZ X.N X.env.scope scope t_ vs M)(I:Inv X w ρ h)(hC:w.s.heap.get? C=none)(k:∀b o,w.s.heap.get? b=some o->s1.heap.get? b=some o)(hn:s1.heap.Ns C m)(ho:s1.os=w.s.os)(hg:s1.gens=w.s.gens):
  Inv (bU X M scope (fR X.env.cells scope.names []) C) { w with s:=s1 } (aju vs.length none++cU t_ ρ) h:=by
 have n:=Nw.also (X:=X) (s':=s1) I.toHR k ho hg;have J:=I.on n;have c0:∀y c,(fR X.env.cells scope.names []).lookup y=some c->X.env.cells.lookup y=some c:=fun y c h=>(nh h).1;obtain⟨m0,_,_,_,l⟩:=J.loc;obtain⟨oC,es,ep,eC,_⟩:=id hn;refine⟨⟨J.toHR,J.ba,J.bs,J.fr⟩,⟨I.ok.Tz,I.ok.gl,I.ok.bl,I.ok.nl,S.kind,I.ok.glob,I.ok.blt,fun y z c h1 h2=>I.ok.inj y z c (c0 _ _ h1) (c0 _ _ h2),fun y hy=>?_,I.ok.hd,I.ok.frames,S.nd,I.ok.sf⟩,⟨m,oC,hn,⟨eC,I.toHR.free hC⟩,fun i p e=>?_⟩,fun y c e=>J.Ye y c (c0 y c e),?_⟩
 .have hm:(y,NameKind.free)∈scope.names:=by
   rcases hy with h|h
   .exact kz S.Yl h (.inl rfl)
   .exact kz S.Yl h (.inr rfl)
  obtain⟨c,hc⟩:=I.ok.has y (S.free _ hm rfl);exact⟨c,ym hc hm⟩
 .have hi:vs.length<=i:=by
   rcases aeR i vs.length with z|z
   .rw[aez (by simpa using z)]at e;simp[afM]at e
   .exact z
  rw[aeD (by simpa using hi),ae9]at e;simp only[cU,aeY]at e
  cases e1:t_[i - vs.length]? with
  |none=>rw[e1]at e;cases e
  |some k=>
   rw[e1]at e;obtain⟨c1,c2⟩:=S.cap k (aex e1)
   have e2:ρ[k]? =some (some p):=by
    simp only[agV,afm]at e
    cases q:ρ[k]? with
    |none=>rw[q]at e;cases e
    |some v=>rw[q]at e;simp at e;rw[e]
   obtain⟨y,u,e3,r,l⟩:=l k p e2;have e4:X.N.getD k ""=y:=by rw[aeG,e3];rfl
   rw[e4]at c2;refine⟨y,u,?_,r,?_⟩
   .show M[i]? =some y;rw[S.inN,aeD hi,aeY,e1,<- e4];rfl
   .have hm:(y,NameKind.free)∈scope.names:=afA c2;rcases l with⟨k1,_⟩|⟨k1,c,e5,q⟩
    .rcases S.free _ hm rfl with z|z<;>(rw[show X.env.scope.names.lookup y=some .local from k1]at z;cases z)
    .exact .inr ⟨nO c2,c,ym e5 hm,q⟩
 .show _=M.length;rw[S.inN];simp[cU]
def Inv.weak{ρ':Ev}(I:Inv X w ρ h)(l:ρ'.length=ρ.length)(k:∀(i:Nat) p,ρ'[i]? =some (some p)->ρ[i]? =some (some p)):Inv X w ρ' h:=let⟨m,o,a,b,c⟩:=I.loc;⟨I.toWd,I.ok,⟨m,o,a,b,fun i p e=>c i p (k i p e)⟩,I.Ye,l.trans I.ln⟩
def PKn(K:Y2->Y3->Prop):Res Y2->Prop
 |.ok vs h=>K vs h
 |_=>False
theorem uV{r:Res α}{k:α->Y3->Res Y2}(p:PKn K (r.bind k).calm):∃a h,r=.ok a h/\PKn K (k a h).calm:=match r with
 |.ok a h=>⟨a,h,rfl,p⟩
 |.exc _ _=>p.elim
 |.bad=>p.elim
inductive Cq0(X Y:Cx)(w0 w:Wo)(tn:Nat->Heap->Prop)(fp:Zs)(xs:Y2)(ρ:Ev)(D:Addr)(K:Y2->Y3->Prop)(g:Gx)(tt:Tx)(te:Ex)(n:Nat)(s:Shared):Prop where
 |mk (w1:Wo) (h2:Y3) (acc:Y2) (k_:Array Value) (ys:Y2) (_:w1.s=s) (_:Sd X.fs Xq w0 w1) (_:X8 w w1) (_:Inv Y w1 ρ h2) (_:ys.length=n) (_:n<=xs.length) (_:ys=xs.drop (xs.length - n)) (_:tn (xs.length - n) w1.s.heap) (_:(∀b∈fp,∃o,Has w1 b o)) (_:w1.s.heap.PlainList D k_) (_:XH w1 D) (_:aO X.toSC w1.F w1.m acc k_.toList) (_:k_.size+n<ajx) (_:PKn (fun vs h3=>K (acc++vs) h3) (fB g tt te ρ ys h2).calm)
def pd{elt:Expr}{tt:Tx}{te:Ex}{M vs:Zl}{g:Gx}{use:Option (Value->Sem Unit)}{w:Wo}{xs:Y2}(t_:Y1)(hc:X.calm=true)(S:hZ X.N X.env.scope scope t_ vs M)(hg:∀cl C,RG (bU X M scope cl C) tg g)(ht:∀cl C,YS (bU X M scope cl C) ifs tt)(he:∀cl C,RE (bU X M scope cl C) elt te)
  (gm:∀q cp ρ1,g q (aju vs.length none++cp)=some ρ1->∃l,l.length=vs.length/\ρ1=l++cp) (I0:Inv X w0 ρ h) (y0:Nw X w0 w h1) (rr:Yi X tg w0 w xs v) (hz:xs.length<ajx) (p:PKn K (fB g tt te (aju vs.length none++cU t_ ρ) xs h1).calm)
  (hr:∀{w2:Wo}{h2:Y3}{ps:Y2}{k_:Array Value}{D C:Addr}{oC:Obj}{m:Str->Option Value},Sd X.fs Xq w0 w2->HR X.toSC w2 h2->w0.s.heap.get? D=none->w0.s.heap.get? C=none->D≠C->Has w2 C oC->w2.s.heap.Ns C m->w2.s.heap.PlainList D k_->XH w2 D->aO X.toSC w2.F w2.m ps k_.toList->k_.size<=ajx->K ps h2->compPost (ajC X.prog X.w) X.A E use Q (.ref D) C (.ok .next) w2.s):
  Wp X (newList []) (fun acc s=>Wp X (newFunctionEnv scope X.env.globals (fR X.env.cells scope.names []) [] X.env.qual none .none (some X.env)) (fun abf s=>aj4 (ajC X.prog X.w) X.A (.compStart (.ListComp elt [⟨tg,iter,ifs,0⟩] scope pos) 0 v acc { abf with scope:=relabel scope X.env }) (compPost (ajC X.prog X.w) X.A E use Q acc abf.locals) s) E s) E w.s:=by
  obtain⟨it,fp,tn,rfl,T,t0,fr⟩:=rr;have I:=I0.on y0
  .refine afb (wpAny_newFunctionEnv S.Yl (by intro y hy;simp at hy) (fun h₁ hns hsb=>?_) S.kind);dsimp only at hns hsb |-;generalize hP:w.s.heap.push { cls:=.type "list",dict:=none,data:=.seq ([]:Z3).toArray }=P at hns hsb |-;have zP:P.objs.size=w.s.heap.objs.size+1:=by rw[<- hP,agl]
   have ne:∀{b},b<w.s.heap.objs.size+1->b≠P.objs.size:=fun z e=>by rw[e,zP]at z;exact absurd z (agf _)
   have old:∀b o,w.s.heap.get? b=some o->h₁.get? b=some o:=fun b o e=>hsb.extBut b o (ne (agA (aeT e))) (aem _ (hP▸aem _ e));have DC:w.s.heap.objs.size≠P.objs.size:=ne (agL _);have eD:h₁.PlainList w.s.heap.objs.size #[]:=⟨_,hsb.extBut _ _ DC (aem _ (hP▸aey _ rfl))⟩
   have nC:w.s.heap.get? P.objs.size=none:=by
    cases q:w.s.heap.get? P.objs.size with
    |none=>rfl
    |some o=>exact absurd rfl (ne (agA (aeT q)))
   have n0:∀{b},w.s.heap.get? b=none->w0.s.heap.get? b=none:=fun{b} z=>by
    cases q:w0.s.heap.get? b with
    |none=>rfl
    |some o=>obtain⟨o',q'⟩:=y0.1.dom b o q;rw[z]at q';cases q'
   have nD:=bG w.s.heap;have nf:∀b∈fp,w0.s.heap.get? b=none:=fun b hb=>(fr b hb).2.2;have J:=zG S I nC old hns (s1:={ w.s with heap:=h₁,toks:=w.s.toks+([]:List (Str×Value)).length }) rfl rfl;have n1:=Nw.also (X:=X) (s':={ w.s with heap:=h₁,toks:=w.s.toks+([]:List (Str×Value)).length }) I.toHR old;generalize hY:bU X M scope (fR X.env.cells scope.names []) P.objs.size=Y at J;have fsY:Y.fs=X.fs:=by rw[<- hY];rfl
   have apt:∀b,Y8 X b->b≠P.objs.size->Y8 Y b:=fun b a z=>by subst hY;exact⟨z,a.2.1,fun x c e=>a.2.2 x c (nh e).1⟩
   have aD:Y8 Y w.s.heap.objs.size:=apt _ (I.out nD) DC;have aF:∀b∈fp,Y8 Y b:=fun b hb=>apt b (fr b hb).2.1 (let⟨o,q⟩:=(fr b hb).1;ne (agA (aeT q.1)));have dF:w.s.heap.objs.size∉fp:=fun z=>let⟨o,q⟩:=(fr _ z).1;absurd (aeT q.1) (agf _)
   have loop:aj4 (ajC X.prog X.w) X.A (.compLoop (.ListComp elt [⟨tg,iter,ifs,0⟩] scope pos) 0 (.ref it) (.ref w.s.heap.objs.size) (compEnvC scope (fR X.env.cells scope.names []) P.objs.size X.env)) (compPost (ajC X.prog X.w) X.A E use Q (.ref w.s.heap.objs.size) P.objs.size) { w.s with heap:=h₁,toks:=w.s.toks+([]:List (Str×Value)).length }:=by
    refine wy (Cq0 X Y w0 w tn fp xs (aju vs.length none++cU t_ ρ) w.s.heap.objs.size K g tt te) ?_ xs.length ⟨_,h1,[], #[],xs,rfl,y0.1.trans n1.1,n1.1.lat,J,rfl,aeB _,by simp,?_,fun b hb=>?_,eD,I.toHR.free nD,.nil,by simpa using hz,p⟩
    .rintro n s ⟨w1,h2,acc,k_,ys,rfl,y1,l1,I1,ln,le,dr,t1,f1,d1,dn1,ra,z1,p1⟩
     subst hY
     cases ys with
     |nil=>
      cases ln
      refine afi (T.done (I.ok.hd hc) l1 I1.toHR t1 (by simp) f1 (Q:=fun s=>compPost (ajC X.prog X.w) X.A E use Q (.ref w.s.heap.objs.size) P.objs.size (.ok .next) s) fun w2 y2 H2=>?_) (fun r s q=>by obtain⟨rfl,q⟩:=q;exact q) fun _ _ z=>z;obtain⟨m,o,n,hl,_⟩:=(I1.priv y2 H2 aF).loc;obtain⟨nn,e1⟩:=d1;have q:=y2.keep _ _ dF ⟨e1,dn1⟩;exact hr (y1.priv y2 nf) H2 (n0 nD) (n0 nC) DC hl n ⟨nn,q.1⟩ q.2 (ra.mono y2.fz (.inr y2.sub)) ⋯ (by simpa[fB,Res.calm,PKn]using p1)
     |cons q ys=>
      have ln':ys.length+1=n:=ln;have eq:xs[xs.length - n]? =some q:=by rw[<- agX,<- dr];rfl
      have dy:ys=xs.drop (xs.length - ys.length):=by rw[show xs.length - ys.length=xs.length - n+1 by lia,<- ajf,<- dr];rfl
      unfold fB at p1
      split at p1
      .rename_i ρ2 e2;obtain⟨b,h3,e3,p3⟩:=uV p1;refine afi (T.item (I.ok.hd hc) l1 I1.toHR t1 eq f1 (Q:=fun u s=>ajD (ajC X.prog X.w) X.A (assign tg (compEnvC scope (fR X.env.cells scope.names []) P.objs.size X.env) u) ?R ?N s) ?c) (fun r s q=>by obtain⟨u,rfl,q⟩:=q;exact q) fun _ _ z=>z;intro u w2 y2 H2 t2 f2 r2;refine(hg _ _).r (I1.priv y2 H2 aF) r2 e2 fun w3 y3 I3=>(ht _ _).r I3 ?_;rw[e3];refine⟨trivial,fun w4 b' y4 eb=>?_⟩;subst eb;obtain⟨l,ll,rfl⟩:=gm _ _ _ e2;have y04:Sd X.fs Xq w0 w4:=Sd.trans (Sd.new (y1.priv y2 nf) y3 fun b z=>n0 (z.elim (fun z=>z▸nC) (by rintro ⟨_,z,_⟩;exact nomatch z))) y4.1;have l4:X8 w w4:=(l1.trans ⟨y2.fz,y2.sub⟩).trans (y3.lat.trans y4.1.lat)
       have k4:∀b,Y8 (bU X M scope (fR X.env.cells scope.names []) P.objs.size) b->∀o,Has w2 b o->Has w4 b o:=fun b a o q=>by
        obtain⟨sl,q',z⟩:=(y3.trans y4.s).keep b o q a.w;rcases z with z|rfl
        .exact absurd z a.2.1
        .exact q'
       have D2:∀nn,w1.s.heap.get? w.s.heap.objs.size=some { cls:=.type "list",data:=.seq k_ nn }->Has w4 w.s.heap.objs.size { cls:=.type "list",data:=.seq k_ nn }:=fun nn e=>k4 _ aD _ (y2.keep _ _ dF ⟨e,dn1⟩);obtain⟨nn,e1⟩:=d1;have D4:=D2 nn e1
       have go:∀w5 h5 V9 Uo,Sd X.fs Xq w0 w5->X8 w w5->Inv (bU X M scope (fR X.env.cells scope.names []) P.objs.size) w5 (l++cU t_ ρ) h5->(∀b∈fp,∀o,Has w2 b o->Has w5 b o)->X8 w2 w5->w5.s.heap.PlainList w.s.heap.objs.size Uo->XH w5 w.s.heap.objs.size->aO X.toSC w5.F w5.m V9 Uo.toList->Uo.size<=k_.size+1->PKn (fun vs h3=>K (V9++vs) h3) (fB g tt te (aju vs.length none++cU t_ ρ) ys h5).calm->
         ∃m,m<n/\Cq0 X (bU X M scope (fR X.env.cells scope.names []) P.objs.size) w0 w tn fp xs (aju vs.length none++cU t_ ρ) w.s.heap.objs.size K g tt te m w5.s:=by
        intro w5 h5 V9 Uo a b c d l25 e f ra' i p;refine⟨ys.length,by lia,w5,h5,V9,Uo,ys,rfl,a,b,c.weak (by simp[ll]) fun i p e=>?_,rfl,by lia,dy,?_,fun x hx=>let⟨o,q⟩:=f2 x hx;⟨o,d x hx o q⟩,e,f,ra',by lia,p⟩
        .rcases aeR i vs.length with z|z
         .rw[aez (by simpa using z)]at e;simp[afM]at e
         .rw[aeD (by simpa using z),ae9]at e;rw[aeD ⋯,ll];exact e
        .rw[show xs.length - ys.length=xs.length - n+1 by lia];exact T.keep (l1.trans ⟨y2.fz,y2.sub⟩) H2 l25 c.toHR t2 fun b hb o e=>let⟨o',q⟩:=f2 b hb;(d b hb o ⟨e,q.2⟩).1
       have l24:X8 w2 w4:=y3.lat.trans y4.1.lat;have ra4:=ra.mono (y2.fz) (.inr y2.sub) |>.mono l24.1 (.inr l24.2)
       cases b with
       |false=>rw[ajB ⋯]at p3 |-;exact go w4 h3 acc k_ y04 l4 (I3.on y4) (fun b hb=>k4 b (aF b hb)) l24 ⟨nn,D4.1⟩ D4.2 ra4 ⋯ p3
       |true=>
        rw[ajz rfl]at p3 |-;obtain⟨v,h5,e5,p5⟩:=uV p3;refine(he _ _).r (I3.on y4) ?_;rw[e5];refine⟨trivial,fun w5 u5 y5 r5=>?_⟩
        have q5:∀b,Y8 (bU X M scope (fR X.env.cells scope.names []) P.objs.size) b->∀o,Has w4 b o->Has w5 b o:=fun b a o q=>by
         obtain⟨sl,q',z⟩:=y5.1.keep b o q fun z=>z;rcases z with z|rfl
         .exact absurd z a.2.1
         .exact q'
        have D5:=q5 _ aD _ D4;refine wpAny_list_append_plain ⟨nn,D5.1⟩ (fun h' Zq sb'=>?_) ⋯;obtain⟨a1,a2⟩:=oG (s':={ w5.s with heap:=h',toks:=w5.s.toks }) y5.2 D5 fun b o z e=>(sb'.2 b z).trans e;refine go _ h5 (acc++ [v]) (k_.push u5) ((y04.trans y5.1).priv a1 (by simp;exact n0 nD)) (l4.trans (y5.1.lat.trans ⟨a1.fz,a1.sub⟩)) (((I3.on y4).on y5).priv a1 a2 (by simp;exact aD)) (fun b hb o q=>a1.keep b o (by simp;rintro rfl;exact dF hb) (q5 b (aF b hb) o (k4 b (aF b hb) o q))) (l24.trans (y5.1.lat.trans ⟨a1.fz,a1.sub⟩)) Zq D5.2 ?_ (by simp) ?_
        .rw[Array.toList_push];exact(ra4.mono y5.1.fz (.inr y5.1.sub)).app (.cons r5 .nil)
        .revert p5;cases fB g tt te (aju vs.length none++cU t_ ρ) ys h5<;>simp[Res.bind,Res.calm,PKn]
      .exact p1.elim
    .simpa using T.keep (⟨fun _ _ e=>e,fun _ _ e=>e⟩) I.toHR n1.1.lat n1.2 t0 fun b hb o e=>old b o e
    .obtain⟨o,q⟩:=(fr b hb).1;exact⟨o,old b o q.1,q.2⟩
   exact codeAny_compStart_list loop (T.self (I.ok.hd hc) (T.keep (⟨fun _ _ e=>e,fun _ _ e=>e⟩) I.toHR n1.1.lat n1.2 t0 fun b hb o e=>old b o e) loop)
def Li{elt:Expr}{it:Ax}{tt:Tx}{te:Ex}{M vs:Zl}{g:Gx}{r:Y2->Y3->Res PV}(t_:Y1)(hc:X.calm=true)(S:hZ X.N X.env.scope scope t_ vs M)(hi:RI X tg iter it)(hg:∀cl C,RG (bU X M scope cl C) tg g)(ht:∀cl C,YS (bU X M scope cl C) ifs tt)(he:∀cl C,RE (bU X M scope cl C) elt te)
  (hr:∀{w0 w:Wo}{h:Y3}{ps:Y2}{k_:Array Value}{D:Addr}{Q:Yf}{E:Yf},Sd X.fs Xq w0 w->HR X.toSC w h->w0.s.heap.get? D=none->w.s.heap.PlainList D k_->XH w D->aO X.toSC w.F w.m ps k_.toList->k_.size<=ajx->cf X (RV X.toSC) w0 Q E (r ps h)->Q (.ref D) w.s)
  (gm:∀q cp ρ1,g q (aju vs.length none++cp)=some ρ1->∃l,l.length=vs.length/\ρ1=l++cp)
  (hs:∀y,ajI iter X.env y=pure y:=by intro _;rfl):RE X (.ListComp elt [⟨tg,iter,ifs,0⟩] scope pos) (cN r (fT vs.length g t_ it tt te)) where
 r {w0 ρ h Q E} I0 p:=by
  rw[eval_ListComp];refine agq rfl hs (jR fun n hn=>I0.ok.has n (S.free _ hn rfl)) S.kind S.names ?_
  have p:cf X (RV X.toSC) w0 Q E ((it ρ h).bind fun xs h1=>(if xs.length<ajx then(fB g tt te (aju vs.length none++cU t_ ρ) xs h1).calm else .bad).bind r):=by
   have:cN r (fT vs.length g t_ it tt te) ρ h=(it ρ h).bind fun xs h1=>(if xs.length<ajx then(fB g tt te (aju vs.length none++cU t_ ρ) xs h1).calm else .bad).bind r:=by unfold cN fT;cases it ρ h<;>rfl
   rw[<- this];exact p
  refine hi.r I0 (p.ZJ fun w h1 xs v y0 rr p=>?_)
  split at p
  .rename_i hz
   refine pd (use:=none) (K:=fun ps h=>cf X (RV X.toSC) w0 Q E (r ps h)) t_ hc S hg ht he gm I0 y0 rr hz (by
    revert p
    cases fB g tt te (aju vs.length none++cU t_ ρ) xs h1<;>exact id) fun{w2 h2 ps k_ D C oC m} y2 H2 nD nC DC hl n l f ra z k=>⟨m,n,fun h' sb=>?_⟩
   obtain⟨a1,a2⟩:=oG (s':={ w2.s with heap:=h' }) H2 hl fun b o z e=>(sb.2 b z).trans e;obtain⟨nn,e1⟩:=l;have q:=a1.keep _ _ (by simp;exact DC) ⟨e1,f⟩;exact hr (y2.priv a1 (by simp;exact nC)) a2 nD ⟨nn,q.1⟩ q.2 ra z k
  .exact p.elim
def Hz(q:PV)(cp ρ1:Ev)(e:P0 0 q (aju 1 none++cp)=some ρ1):∃l:Ev,l.length=1/\ρ1=l++cp:=by cases e;exact⟨[q],rfl,rfl⟩
def AX{D:Addr}(y:Sd X.fs Xq w0 w)(H:HR X.toSC w h)(n:w0.s.heap.get? D=none)(l:w.s.heap.PlainList D k_)(f:XH w D)(r:aO X.toSC w.F w.m ps k_.toList)(z:k_.size<=ajx)(p:cf X (RV X.toSC) w0 Q E (VL ps h)):Q (.ref D) w.s:=by
 obtain⟨k,e⟩:=l;have fz:=dQ (o:={ cls:=.type "list",data:=.seq k_ k }) f.2.1;refine p.2 ⟨jj w.F D { cls:=.type "list",data:=.seq k_ k },w.O,w.m,w.s⟩ _ ⟨⟨y.os,y.ba,fun a o e=>fz a o (y.fz a o e),y.ow,y.pre,y.dom,fun b o q zz=>?_⟩,fun b x q=>?_,fun d b q=>let⟨o,z,y⟩:=H.own d b q;⟨o,z,dR (fun e'=>by rw[e',f.2.2]at q;cases q) y⟩,H.len,H.nd,fun i po b e1 e2=>(H.obj i po b e1 e2).on fz (fun _ e=>e) (fun _ _ e=>e) (fun _ _ e _=>e) (dR fun z=>f.1 (z▸aex e2))⟩ (.lst bT z (r.mono fz (.inr fun _ _ e=>e)))
 .obtain⟨sl,q',z'⟩:=y.keep b o q zz;exact⟨sl,⟨q'.1,q'.2.1,dR (fun z=>by have q:=q.1;rw[z,n]at q;cases q) q'.2.2.1,q'.2.2.2⟩,z'⟩
 .by_cases z:b=D
  .subst z;cases bT.symm.trans q;exact e
  .exact H.sub b x ((mu z).symm.trans q)
def Ff{D:Addr}(y:Sd X.fs Xq w0 w)(H:HR X.toSC w h)(n:w0.s.heap.get? D=none)(l:w.s.heap.PlainList D k_)(f:XH w D)(r:aO X.toSC w.F w.m ps k_.toList)(z:k_.size<=ajx)(p:cf X (RV X.toSC) w0 Q E (jw ps h)):Q (.ref D) w.s:=by
 obtain⟨k,e⟩:=l;have sb:Sub w.m (w.m++ [D]):=fun i b e=>by rw[aez (aer.mp e).1];exact e
 refine p.2 ⟨w.F,w.O,w.m++ [D],w.s⟩ _ ⟨⟨y.os,y.ba,y.fz,y.ow,let⟨t,e⟩:=y.pre;⟨t++ [D],by rw[e,aeK]⟩,y.dom,fun b o q zz=>?_⟩,H.sub,fun d b q=>let⟨o,z,y⟩:=H.own d b q;⟨o,fun x=>(aeF.mp x).elim z fun x=>(by simp at x;rw[x,f.2.2]at q;cases q),y⟩,by simp[H.len],ahk.mpr ⟨H.nd,by simp,fun x hx y hy z=>f.1 (by simp at hy;rw[<- hy,<- z];exact hx)⟩,fun i ob b e1 e2=>?_⟩ (.ref (by rw[H.len];simp))
 .obtain⟨sl,q',z'⟩:=y.keep b o q zz;refine⟨sl,⟨q'.1,fun z=>?_,q'.2.2⟩,z'⟩;rcases aeF.mp z with z|z
  .exact q'.2.1 z
  .have q:=q.1;simp at z;rw[z,n]at q;cases q
 .rcases aeR i h.length with l|l
  .rw[aez l]at e1;rw[aez (H.len▸l)]at e2;exact(H.obj i ob b e1 e2).on (fun _ _ e=>e) (fun _ e=>e) sb (fun _ _ e _=>e) id
  .rw[aeD l]at e1;rw[aeD (H.len▸l),<- H.len]at e2
   cases e':i - h.length with
   |zero=>rw[e']at e1 e2;cases e1;cases e2;exact⟨f.2.1,k_,k,e,z,r.mono (fun _ _ e=>e) (.inr sb)⟩
   |succ _=>rw[e']at e1;simp at e1
end
end Z
namespace Z
open PySem
def DK(h h':Heap):Prop:=∀b o,h.get? b=some o->∃o',h'.get? b=some o'/\o'.dict=o.dict
def DK.refl(h:Heap):DK h h:=fun _ o e=>⟨o,e,rfl⟩
theorem DK.trans{h1 h2 h3:Heap}(x:DK h1 h2)(y:DK h2 h3):DK h1 h3:=fun b o e=>by obtain⟨o1,e1,d1⟩:=x b o e;obtain⟨o2,e2,d2⟩:=y b o1 e1;exact⟨o2,e2,d2.trans d1⟩
def Kd{α:Type}(t:Sem α):Prop:=∀(M:Model)(Γ:Ctx)(Q:α->Pos->Shared->Prop)(E:Value->Pos->Shared->Prop)(p:Pos)(s:Shared),Sem.wp M Γ t Q E p s->
 Sem.wp M Γ t (fun a p' s'=>Q a p' s'/\DK s.heap s'.heap) (fun e p' s'=>E e p' s'/\DK s.heap s'.heap) p s
section
variable{α β:Type}
def Kd.bind{m:Sem α}{f:α->Sem β}(hm:Kd m)(hf:∀a,Kd (f a)):Kd (m >>= f):=fun M Γ Q E p s h=>by rw[Sem.wp_bind']at h |-;refine ai4 M Γ m (fun a p1 s1 z=>?_) (fun e p1 s1 z=>z) p s (hm M Γ _ _ p s h);exact ai4 M Γ (f a) (fun b p2 s2 y=>⟨y.1,z.2.trans y.2⟩) (fun e p2 s2 y=>⟨y.1,z.2.trans y.2⟩) p1 s1 (hf a M Γ Q E p1 s1 z.1)
theorem Kd.pure(a:α):Kd (Pure.pure a:Sem α):=fun M Γ Q E p s h=>by rw[Sem.wp_pure']at h |-;exact⟨h,DK.refl _⟩
def Kd.Y_(x:String):Kd (unsupported x:Sem α):=fun M Γ Q E p s h=>by rw[show(unsupported x:Sem α)=.unsupported x from rfl,Sem.wp_unsupported]at h;exact h.elim
theorem Kd.load(a:Addr):Kd (PySem.load a):=fun M Γ Q E p s h=>by rw[show PySem.load a=.load a none .pure from rfl,Sem.wp_load]at h |-;obtain⟨o,h1,h2⟩:=h;rw[agP]at h2;exact⟨o,h1,by rw[agP];exact⟨h2,DK.refl _⟩⟩
theorem Kd.stack:Kd PySem.stack:=fun M Γ Q E p s h=>by rw[show PySem.stack=.stack .pure from rfl,Sem.wp_stack,agP]at h |-;exact⟨h,DK.refl _⟩
theorem Kd.alloc(o:Obj):Kd (PySem.alloc o):=fun M Γ Q E p s h=>by rw[show PySem.alloc o=.alloc o .pure from rfl,Sem.wp_alloc,agP]at h |-;exact⟨h,fun b o' e=>⟨o',aem _ e,rfl⟩⟩
theorem Kd.update{a:Addr}{f:Obj->Obj}(hf:∀o,o.isFreed=ajt->(f o).isFreed=ajt/\(f o).dict=o.dict):Kd (PySem.update a f):=fun M Γ Q E p s h=>by
 rw[show PySem.update a f=.update a none f .pure from rfl,Sem.wp_update]at h |-;obtain⟨h1,h2⟩:=h;rw[agP]at h2;refine⟨h1,?_⟩;rw[agP];refine⟨h2,fun b o e=>?_⟩
 by_cases hb:a=b
 .subst hb;obtain⟨z1,z2⟩:=hf o (aiz.mp e).2;exact⟨f o,afo f e z1,z2⟩
 .exact⟨o,(ahM _ _ hb).trans e,rfl⟩
def Kd.ite{c:Prop}[Decidable c]{t u:Sem α}(ht:Kd t)(hu:Kd u):Kd (if c then t else u):=by
 split
 .exact ht
 .exact hu
def xX(v:Value):Kd (fieldsOf v):=by
 unfold fieldsOf
 split
 .refine(Kd.load _).bind fun o=>?_
  split
  .exact Kd.pure _
  .exact Kd.Y_ _
 .exact Kd.Y_ _
def nY(v:Value)(i:Nat):Kd (field v i):=by
 refine(xX v).bind fun vs=>?_
 split
 .exact Kd.pure _
 .exact Kd.Y_ _
def pZ(g:Array Value->Array Value)(o:Obj)(h:o.isFreed=ajt):(akl g o).isFreed=ajt/\(akl g o).dict=o.dict:=by
 unfold akl
 split
 .exact⟨rfl,rfl⟩
 .exact⟨h,rfl⟩
def lN(v:Value)(i:Nat)(x:Value):Kd (akO v i x):=by
 unfold akO
 split
 .unfold updateField;refine(Kd.load _).bind fun o=>?_
  split
  .exact Kd.ite (Kd.update fun o h=>pZ _ o h) (Kd.Y_ _)
  .exact Kd.Y_ _
 .exact Kd.Y_ _
def kE(e:Value)(f:Option Addr):Kd (setFlight e f):=by refine(nY e 1).bind fun tb=>?_;exact Kd.ite (lN _ _ _) (Kd.pure _)
def wc(ty:String)(vs:Z3):Kd (newFields ty vs):=by
 unfold newFields newObj
 have as:Kd (newObjAsIs (.type ty) (.fields vs.toArray) none):=by unfold newObjAsIs;exact(Kd.alloc _).bind fun _=>Kd.pure _
 dsimp only
 split
 .exact(Kd.Y_ _).bind fun _=>as
 .exact as
theorem lO:∀l:List Env,Kd (readyFrames l)
 |[]=>Kd.pure _
 |env::outer=>by
  unfold readyFrames
  split
  .refine(Kd.load _).bind fun o=>Kd.ite (Kd.pure _) ?_;refine Kd.bind ?_ fun i=>Kd.bind ?_ fun b=>Kd.bind (Kd.update fun o h=>⟨?_,rfl⟩) fun _=>lO outer
   .unfold behindIsImport;exact Kd.ite (Kd.pure _) (Kd.ite (Kd.pure _) ((nY _ _).bind fun _=>Kd.pure _))
   .unfold keptBack
    split
    .refine Kd.ite (Kd.pure _) ?_;exact Kd.bind (Kd.stack.bind fun _=>Kd.pure _) fun _=>Kd.pure _
    .exact Kd.pure _
   .obtain⟨c,d,dt,s0⟩:=o
    cases dt<;>first|rfl|(simp[Obj.isFreed]at h)
  .exact Kd.Y_ _
def zw(env:Env):Kd (frameOf env):=by
 unfold frameOf;refine Kd.bind (Kd.stack.bind fun _=>Kd.pure _) fun l=>Kd.bind ?_ fun o=>?_
 .unfold frameObject
  split
  .exact Kd.pure _
  .exact(lO _).bind fun _=>Kd.pure _
 .split
  .exact Kd.pure _
  .exact Kd.Y_ _
def qb(f:Addr)(b:Bool):Kd (akQ f b):=by
 unfold akQ;refine Kd.stack.bind fun _=>?_
 split
 .exact Kd.pure _
 .exact Kd.pure _
def nX(e:Value)(env:Env):Kd (noteFrame e env):=by
 unfold noteFrame
 split
 .have go:∀hd:Value,∀f:Addr,Kd (do akO e 1 (<- EntryCells.newEntry hd (<- frameOf env) .none (akh f) .none (<- akQ f (hd != .none)))):=fun hd f=>(zw env).bind fun _=>(qb _ _).bind fun _=>(wc _ _).bind fun _=>lN _ _ _
  refine(nY e 1).bind fun hd=>?_;refine Kd.ite ?_ (go _ _);exact(nY _ _).bind fun x=>Kd.ite (Kd.pure _) ((lN _ _ _).bind fun _=>go _ _)
 .exact Kd.Y_ _
def sv(env:Env)(e:Value):Kd (leaving env e):=(nX e env).bind fun _=>kE e none
end
end Z
namespace Z
open PySem PySem.Spec PyProof.Rows
variable{A:Around}{C a:Addr}{E Q:Yf}{G:SC}{R:Result->Shared->Prop}{Sw:List (PK×PV)}{X:Cx}{XP:(Str->Option Value)->Heap->Prop}{YP:World->Heap->Prop}{apos p0 p1 p2 pos:Pos}{body:List Stmt}{cat:Nat->Bool}{es ifs values:List Expr}{f name x:Str}{fa fb:Ex}{fn g:Y2->Y3->Res PV}{h:Y3}{i iy k n:Nat}{items:Array Value}{iter tg:Expr}{kd:Nat->Option Bool}{keys:List (Option Expr)}{kvs:List (PK×Value)}{loose:Zl}{m:Zs}{o:Obj}{outer:List Env}{p:PV}{prog:Program}{ps:Y2}{res:Nat->Option (Y2->Z.Out)}{s':Shared}{sC:Nat->Nat->Option Bool}{sT:Nat->String->Option Bool}{scope:Scope}{tt:Tx}{u v:Value}{us:Z3}{w1:Wo}{ρ:Ev}
def xY{α:Type}{M:Model}{t:Sem α}{Q:α->Shared->Prop}{s:Shared}{dx:Option Addr}(k:Kd t)(d:∃o,s.heap.get? a=some o/\o.dict=dx)(h:ajD M A t (fun x s'=>(∃o,s'.heap.get? a=some o/\o.dict=dx)->Q x s') E s):ajD M A t Q E s:=
 fun Γ p hΓ=>ai4 M Γ t (fun _ _ _ z=>z.1 (let⟨o,e,d⟩:=d;let⟨o',e',d'⟩:=z.2 a o e;⟨o',e',d'.trans d⟩)) (fun _ _ _ z=>z.1) p s (k M Γ _ _ p s (h Γ p hΓ))
section
variable{Y:Cx}{w w2:Wo}{h2:Y3}
def IN{B hp:Heap}{V:Addr->Prop}(y:Sd Y.fs V w w2)(W2:Wd Y w2 h2)(c1:∀b o,w.s.heap.get? b=some o->b∉Y.fs->∃o',B.get? b=some o')(c2:∀b,¬ XH w2 b->∃o',B.get? b=some o')(s1:B.StaysIn w2.s.heap)(s2:B.StaysIn hp)(up:w2.s.heap.UpToSlots hp):Sd Y.fs V w { w2 with s:={ w2.s with heap:=hp } }/\HR Y.toSC { w2 with s:={ w2.s with heap:=hp } } h2:=by
 have fr:∀b∈Y.fs,∀o,w2.s.heap.get? b=some o->∃sl,hp.get? b=some { o with slots:=sl }:=fun b hb o e=>by obtain⟨o',q,d⟩:=W2.fr b hb;have q:=q.1;rw[e]at q;cases q;exact up b o e d
 refine⟨⟨y.os,y.ba,y.fz,y.ow,y.pre,fun b o e=>?_,fun b o q n=>?_⟩,W2.toHR.on fun b o e n=>?_⟩
 .by_cases hb:b∈Y.fs
  .obtain⟨o',q⟩:=y.dom b o e;obtain⟨sl,q'⟩:=fr b hb o' q;exact⟨_,q'⟩
  .obtain⟨o',q⟩:=c1 b o e hb;exact⟨o',s2 b o' q⟩
 .obtain⟨sl,q',z⟩:=y.keep b o q n
  by_cases hb:b∈Y.fs
  .obtain⟨sl',e'⟩:=fr b hb _ q'.1;exact⟨sl',⟨e',q'.2⟩,.inl hb⟩
  .obtain⟨o',e'⟩:=c1 b o q.1 hb;have g1:=s1 b o' e';rw[q'.1]at g1;cases g1;exact⟨sl,⟨s2 b _ e',q'.2⟩,z⟩
 .obtain⟨o',q⟩:=c2 b n;have:=s1 b o' q;rw[e]at this;cases this;exact s2 b o q
def IB{e:PV}{Q:Unit->Shared->Prop}(nw:New X Y w)(hG:Y.toSC=X.toSC)(Zc:Y.stack=Y.env::X.stack)(hf:Y.env.frame=some Y.L)(hA:Y.A.frames=some Y.stack)(y:W_ Y w w2)(W2:Wd Y w2 h2)(r:oE Y w w2 e u)
  (c:∀s',Sd X.fs Xq w { w2 with s:=s' }->HR X.toSC { w2 with s:=s' } h2->oE X w { w2 with s:=s' } e u->Q () s'):Wp Y (leaving Y.env u) Q E w2.s:=by
 have fsY:Y.fs=Y.L::X.fs:=by simp[Cx.fs,frs,Zc,hf]
 have oL:∀{b o},w.s.heap.get? b=some o->b≠Y.L:=fun e z=>by rw[z,nw.1 _ (.inl rfl)]at e;cases e
 obtain⟨a,cls,dx,rfl,⟨⟨a0,B,fl,c1,c2⟩,d⟩,m⟩:=r
 have go:∀hp,B.StaysIn w2.s.heap->akW B X.stack a cls a0 hp->w2.s.heap.UpToSlots hp->(∃o,hp.get? a=some o/\o.dict=dx)->Q () { w2.s with heap:=hp }:=fun hp s1 fl2 up dx2=>by obtain⟨g1,g2⟩:=IN y W2 c1 c2 s1 fl2.1 up;exact c _ (Sd.out nw g1) (hG▸g2) ⟨a,cls,dx,rfl,⟨⟨a0,B,.inl fl2,fun b o e n=>c1 b o e fun z=>by rw[fsY]at z;exact(aek.mp z).elim (oL e) n,fun b z=>c2 b z⟩,dx2⟩,by revert m;rw[hG];exact id⟩
 rw[Zc]at fl;rcases fl with fl|⟨_,fl⟩
 .exact xY (sv _ _) d (wpAny_leaves_onW (Zc▸hA) hf fl fun hp fl2 up dx2=>go hp fl.1 fl2 up dx2)
 .obtain⟨s1,eB,ff,o,vs,ho,rfl,hd,h0,h1⟩:=fl;exact xY (sv _ _) d (wpAny_leaving_firstW (Zc▸hA) ff hf ho s1 eB hd h1 h0 fun hp L dx2=>go hp s1 ⟨L.1,eB,L.2.1.2.2,L.2.2.1⟩ L.2.2.2 dx2)
end
noncomputable def PO.pure:PO->Bool
 |.lst xs=>ai xs
 |.dct kvs=>lI kvs
 |.Q5 _=>true
 |.obj _ _=>ajt
def dJ:Y3->Bool
 |[]=>true
 |o::r=>o.pure&&dJ r
def wx(n:Nat)(v:PV)(h:Y3):Res PV:=if(dJ (h.take n)&&ajW n h.length)=true then .ok v (h.take n)else .bad
def kJ(n:Nat)(v:PV)(h:Y3):Res PV:=match dK h v with
 |some (q,h2)=>wx n q h2
 |none=>.bad
def fO(f:Sx)(np n:Nat)(ps:Y2)(h:Y3):Res PV:=if ps.length=np then match f (ps.map some++aju (n - ps.length) none) h with
  |.nx _ h1=>wx h.length .non h1
  |.rt v h1=>kJ h.length v h1
  |_=>.bad
 else .bad
def Fe(n:Nat)(e:PV)(h:Y3):Res PV:=if(dJ (h.take n)&&ajW n h.length&&e.pure)=true then .exc e (h.take n)else .bad
def lG(f:Sx)(np n:Nat)(ps:Y2)(h:Y3):Res PV:=if ps.length=np then match f (ps.map some++aju (n - ps.length) none) h with
  |.nx _ h1=>wx h.length .non h1
  |.rt v h1=>kJ h.length v h1
  |.exc e h1=>Fe h.length e h1
  |_=>.bad
 else .bad
noncomputable def Xy:Y2->Y1
 |[]=>[]
 |.ref i::r=>i::Xy r
 |_::r=>Xy r
noncomputable def YX:Nat->Y2->Y2
 |_,[]=>[]
 |n,.ref _::r=>.ref n::YX (n+1) r
 |n,p::r=>p::YX n r
def nT:Y2->Bool
 |[]=>true
 |.ref _::r=>nT r
 |p::r=>p.pure&&nT r
noncomputable def lR(h:Y3):Y1->Option Y3
 |[]=>some []
 |i::r=>match h[i]? with
  |some o=>match lR h r with
   |some l=>some (o::l)
   |none=>none
  |none=>none
noncomputable def io:Y3->Y1->Y3->Y3
 |h,i::r,o::l=>io (h.set i o) r l
 |h,_,_=>h
noncomputable def mU:Y1->Bool
 |[]=>true
 |i::r=>!r.contains i&&mU r
def z_(fn:Y2->Y3->Res PV)(ps:Y2)(h:Y3):Res PV:=match lR h (Xy ps)with
 |some hs=>if(nT ps&&dJ hs&&mU (Xy ps))=true then match fn (YX 0 ps) hs with
   |.ok v X4=>if v.pure=true/\dJ X4=true/\X4.length=hs.length then .ok v (io h (Xy ps) X4)else .bad
   |.exc v X4=>if v.pure=true/\dJ X4=true/\X4.length=hs.length then .exc v (io h (Xy ps) X4)else .bad
   |.bad=>.bad
  else .bad
 |none=>.bad
def bn(fn:Y2->Y3->Res PV)(as:Ax):Ex:=fun ρ h=>(as ρ h).bind (z_ fn)
noncomputable def Yn(n:Nat):PV->Bool
 |.ref i=>decide (i<n)
 |p=>p.pure
def Z5(n:Nat):PO->Bool
 |.lst xs=>xs.all (Yn n)
 |.dct kvs=>kvs.all fun x=>Yn n x.2
 |.Q5 _=>true
 |.obj _ ps=>ps.all (Yn n)
def sQ(n:Nat)(v:PV)(h:Y3):Res PV:=if((h.take n).all (Z5 n)&&ajW n h.length)=true then .ok v (h.take n)else .bad
def qf(n:Nat)(v:PV)(h:Y3):Res PV:=if Yn n v=true then sQ n v h else match dK h v with
 |some (q,h2)=>sQ n q h2
 |none=>.bad
def Fd(n:Nat)(e:PV)(h:Y3):Res PV:=if((h.take n).all (Z5 n)&&ajW n h.length&&e.pure)=true then .exc e (h.take n)else .bad
def gM(f:Sx)(np n:Nat)(ps:Y2)(h:Y3):Res PV:=if ps.length=np then match f (ps.map some++aju (n - ps.length) none) h with
  |.nx _ h1=>sQ h.length .non h1
  |.rt v h1=>qf h.length v h1
  |.exc e h1=>Fd h.length e h1
  |_=>.bad
 else .bad
noncomputable def Di(f:Sx)(np n:Nat)(ps:Y2)(h:Y3):Res PV:=if ps.length=np then match f (ps.map some++aju (n - ps.length) none) h with
  |.nx _ h1=>.ok .non h1
  |_=>.bad
 else .bad
def IY(X:Cx)(w:Wo)(Q:Yf)(E:Yf):Res PV->Prop
 |.ok a h=>∀w' x,Nw X w w' h->bx X.toSC w'.F w'.m a x->Q x w'.s
 |.exc e h=>∀w' u,Nw X w w' h->oE X w w' e u->E u w'.s
 |.bad=>False
theorem cf.c{w:Wo}{r:Res PV}(p:cf X (RV X.toSC) w Q E r):IY X w Q E r:=match r with
 |.ok _ _=>p.2
 |.exc _ _=>p.2
 |.bad=>p
structure XM(G:SC)(c:Bool)(k:Nat)(f:Addr)(fd:FuncData)(ps:Zl)(fn:Y2->Y3->Res PV):Prop where
 len:∀qs h,fn qs h≠.bad->qs.length=ps.length
 run:∀{X:Cx}{w:Wo}{h:Y3}{A:Around}{qs:Y2}{us:Z3}{args:Args}{Q:Yf}{E:Yf},X.toSC=G->fK k A->(c=true->A.handled=none)->A.frames=some X.stack->Wd X w h->X.Ok->aO G w.F w.m qs us->akE w.s fd args (ps.zip us)->
  IY X w Q E (fn qs h)->aj4 (ajC G.prog G.w) A (.call (.ref f) args) (RC Q E) w.s
def pV(n:Nat)(h:Y3):Prop:=(h.take n).all (Z5 n)=true/\n<=h.length
inductive F0(n:Nat):SR->Res PV->Prop where
 |nx {ρ:Ev} {h:Y3}:pV n h->F0 n (.nx ρ h) (.ok .non (h.take n))
 |al {ρ:Ev} {h:Y3}:F0 n (.nx ρ h) (.ok .non h)
 |rt {v:PV} {h:Y3}:Yn n v=true->pV n h->F0 n (.rt v h) (.ok v (h.take n))
 |rf {v q:PV} {h h2:Y3}:dK h v=some (q,h2)->pV n h2->F0 n (.rt v h) (.ok q (h2.take n))
 |ex {e:PV} {h:Y3}:e.pure=true->pV n h->F0 n (.exc e h) (.exc e (h.take n))
 |ra {v:PV} {h:Y3}:F0 n (.rt v h) (.ok v h)
 |xa {e:PV} {h:Y3}:F0 n (.exc e h) (.exc e h)
section
variable{Y:Cx}{w w2:Wo}{h1 h2:Y3}
def bx.lt{F:Fz}(r:bx G F m p u)(z:Yn n p=true):bx G F (m.take n) p u:=by
 unfold Yn at z
 split at z
 .cases r with|ref e=>exact .ref (by rw[afp (ajG z)];exact e)
 .exact r.mono (fun _ _ e=>e) (.inl z)
theorem aO.lt{n:Nat}{F:Fz}{m:Zs}{p:Y2}{u:Z3}(r:aO G F m p u):p.all (Yn n)=true->aO G F (m.take n) p u:=aO.ind (P:=fun p u=>p.all (Yn n)=true->aO G F (m.take n) p u) (fun _=>.nil) (fun r _ i z=>have z:=ael _ _▸z;.cons (r.lt z.1) (i z.2)) r
theorem HR.cut(H:HR G w h)(c:pV n h):HR G ⟨w.F,w.O,w.m.take n,w.s⟩ (h.take n):=by
 refine⟨H.sub,fun d a e=>let⟨o,z,y⟩:=H.own d a e;⟨o,fun x=>z (aeU x),y⟩,by simp[H.len],H.nd.sublist (aiM _ _),fun i o a e1 e2=>?_⟩
 have hi:i<n:=by
  rcases aeR i n with z|z
  .exact z
  .rw[aeE (by simp;lia)]at e1;cases e1
 have z:=aeM.mp c.1 o (aex e1);rw[afp hi]at e1;have q:=H.obj i o a e1 (by rw[<- afp hi];exact e2)
 cases o with
 |lst ps=>obtain⟨f,k_,n,e,l,r⟩:=q;exact⟨f,k_,n,e,l,r.lt z⟩
 |dct Sw=>obtain⟨f,o,kvs,e,d,y,l,c,r⟩:=q;exact⟨f,o,kvs,e,d,y,l,c,r.lt (by simpa[Z5,ahL]using z)⟩
 |Q5 p=>obtain⟨r,z,q⟩:=q;exact⟨r.mono (fun _ _ e=>e) (.inl z),z,q⟩
 |obj C ps=>obtain⟨f,Ca,dx,od,vs,c,e,d,e2,nn,l,r⟩:=q;exact⟨f,Ca,dx,od,vs,c,e,d,e2,nn,l,r.lt z⟩
theorem Nw.cut(hl:h.length=w.m.length)(y:Sd X.fs Xq w w2)(H:HR X.toSC w2 h2)(c:pV h.length h2):Nw X w ⟨w2.F,w2.O,w2.m.take h.length,w2.s⟩ (h2.take h.length):=by refine⟨⟨y.os,y.ba,y.fz,y.ow,?_,y.dom,fun b o q z=>let⟨sl,q,z⟩:=y.keep b o q z;⟨sl,⟨q.1,fun z=>q.2.1 (aeU z),q.2.2⟩,z⟩⟩,H.cut c⟩;obtain⟨t,e⟩:=y.pre;exact⟨[],by simp[e,hl]⟩
def oE.cut{e:PV}(r:oE X w w2 e u)(pu:e.pure=true):oE X w ⟨w2.F,w2.O,w2.m.take n,w2.s⟩ e u:=r.to pu rfl rfl rfl fun b z=>.inl fun y=>z ⟨fun z=>y.1 (aeU z),y.2⟩
variable{N ps:Zl}{qual:Str}{st:Stmt}{f:Addr}{fd:FuncData}{g:Sx}
def qG{c:Bool}(F:Fun G.K name qual st f fd)(S:mD N ps (bf st))(hb:∀(X:Cx)(cd:Value)(A:Around)(s:Shared),X.toSC=G->fK k (A.deeper (akc qual (bf st) s.heap.objs.size f cd))->XK (kQ c X N qual (bf st) f cd A s) (iX st) g)
  (hfn:∀qs h,fn qs h≠.bad->qs.length=ps.length/\F0 h.length (g (st0 N.length qs) h) (fn qs h)):XM G c (k+1) f fd ps fn where
 len qs h z:=(hfn qs h z).1
 run {X w h A qs us args Q E} hG hr hd hf I ok r hbd p:=by
  subst hG;obtain⟨hl,fin⟩:=hfn qs h fun z=>by rw[z]at p;exact p
  refine ph (c:=c) F S hr hd hf I ok hl r hbd fun cd s1 hr1 nw y J _=>(hb X cd A w.s rfl hr1).r J ?_;have yo:∀{w2},W_ (kQ c X N qual (bf st) f cd A w.s) { w with s:=s1 } w2->W_ (kQ c X N qual (bf st) f cd A w.s) w w2:=fun y2=>Sd.trans (y.weak (fun _ z=>z.elim) fun b z=>aen _ z) y2
  revert fin p
  generalize g (st0 N.length qs) h=sr;generalize fn qs h=res;intro p fin
  cases fin with
  |nx ck=>exact⟨.leaving,fun w2 y2 I2=>p ⟨w2.F,w2.O,w2.m.take h.length,w2.s⟩ _ (Nw.cut I.len ((yo y2).out nw) I2.toHR ck) .non⟩
  |al=>exact⟨.leaving,fun w2 y2 I2=>p _ _ ⟨(yo y2).out nw,I2.toHR⟩ .non⟩
  |rt l ck=>exact⟨.leaving,fun w2 u ρ y2 I2 r2=>p ⟨w2.F,w2.O,w2.m.take h.length,w2.s⟩ _ (Nw.cut I.len ((yo y2).out nw) I2.toHR ck) (r2.lt l)⟩
  |rf e ck=>exact⟨.leaving,fun w2 u ρ y2 I2 r2=>by obtain⟨F',n,r3,pu⟩:=I2.toHR.frz (X:=kQ c X N qual (bf st) f cd A w.s) r2 e;exact p ⟨F',w2.O,w2.m.take h.length,w2.s⟩ _ (Nw.cut (w2:=⟨F',w2.O,w2.m,w2.s⟩) I.len ((yo (y2.trans n.s)).out nw) n.2 ck) (r3.mono (fun _ _ e=>e) (.inl pu))⟩
  |ex pu ck=>exact⟨.leaving,fun w2 u ρ y2 I2 r2=>IB nw rfl rfl rfl (agT hf) (yo y2) I2.toWd (r2.back y) fun s' y3 H3 r3=>p ⟨w2.F,w2.O,w2.m.take h.length,s'⟩ _ (Nw.cut (w2:={ w2 with s:=s' }) I.len y3 H3 ck) (r3.cut pu)⟩
  |ra=>exact⟨.leaving,fun w2 u ρ y2 I2 r2=>p _ _ ⟨(yo y2).out nw,I2.toHR⟩ r2⟩
  |xa=>exact⟨.leaving,fun w2 u ρ y2 I2 r2=>IB nw rfl rfl rfl (agT hf) (yo y2) I2.toWd (r2.back y) fun s' y3 H3 r3=>p { w2 with s:=s' } _ ⟨y3,H3⟩ r3⟩
def GK(h:p.pure=true):Yn n p=true:=by cases p<;>first|exact h|cases h
theorem rJ:∀{l:Y2},ai l=true->l.all (Yn n)=true
 |[],_=>rfl
 |p::r,h=>by simp only[ai,ael]at h;simp[GK h.1,rJ h.2]
theorem oN:∀{l:Y3},dJ l=true->l.all (Z5 n)=true
 |[],_=>rfl
 |o::r,h=>by
  simp only[dJ,ael]at h;simp only[afr,oN h.2,afw]
  cases o with
  |lst xs=>exact rJ h.1
  |dct kvs=>have:=rJ (n:=n) (l:=kvs.map (·.2)) (by rw[<- jg];exact h.1);simpa[Z5,ahL]using this
  |Q5 _=>rfl
  |obj _ ps=>cases h.1
def IW{v:PV}(z:wx n v h≠.bad):pV n h/\wx n v h=.ok v (h.take n):=by
 unfold wx at z |-
 split at z
 .rename_i c;rw[ajz c];simp only[ael]at c;exact⟨⟨oN c.1,afS c.2⟩,rfl⟩
 .exact absurd rfl z
def Fc{v:PV}(z:sQ n v h≠.bad):pV n h/\sQ n v h=.ok v (h.take n):=by
 unfold sQ at z |-
 split at z
 .rename_i c;rw[ajz c];simp only[ael]at c;exact⟨⟨c.1,afS c.2⟩,rfl⟩
 .exact absurd rfl z
def IS{np N:Nat}(qs:Y2)(h:Y3)(z:lG g np N qs h≠.bad):qs.length=np/\F0 h.length (g (st0 N qs) h) (lG g np N qs h):=by
 unfold lG at z |-
 split at z
 .rename_i l;rw[ajz l];refine⟨l,?_⟩;unfold st0
  split at z<;>rename_i e<;>(try rw[e])
  .obtain⟨c,e⟩:=IW z;rw[e];exact .nx c
  .unfold kJ at z |-
   split at z
   .rename_i e1;obtain⟨c,e⟩:=IW z;rw[e];exact .rf e1 c
   .exact absurd rfl z
  .unfold Fe at z |-
   split at z
   .rename_i c;rw[ajz c];simp only[ael]at c;exact .ex c.2 ⟨oN c.1.1,afS c.1.2⟩
   .exact absurd rfl z
  .exact absurd rfl z
 .exact absurd rfl z
def NG{np N:Nat}(qs:Y2)(h:Y3)(z:gM g np N qs h≠.bad):qs.length=np/\F0 h.length (g (st0 N qs) h) (gM g np N qs h):=by
 unfold gM at z |-
 split at z
 .rename_i l;rw[ajz l];refine⟨l,?_⟩;unfold st0
  split at z<;>rename_i e<;>(try rw[e])
  .obtain⟨c,e⟩:=Fc z;rw[e];exact .nx c
  .unfold qf at z |-
   split at z
   .rename_i l;rw[ajz l];obtain⟨c,e⟩:=Fc z;rw[e];exact .rt l c
   .rename_i l;rw[ajB l]
    split at z
    .rename_i e1;obtain⟨c,e⟩:=Fc z;rw[e];exact .rf e1 c
    .exact absurd rfl z
  .unfold Fd at z |-
   split at z
   .rename_i c;rw[ajz c];simp only[ael]at c;exact .ex c.2 ⟨c.1.1,afS c.1.2⟩
   .exact absurd rfl z
  .exact absurd rfl z
 .exact absurd rfl z
def NF{np N:Nat}(qs:Y2)(h:Y3)(z:Di g np N qs h≠.bad):qs.length=np/\F0 h.length (g (st0 N qs) h) (Di g np N qs h):=by
 unfold Di at z |-
 split at z
 .rename_i l;rw[ajz l];refine⟨l,?_⟩;unfold st0
  split at z<;>rename_i e<;>(try rw[e])
  .exact .al
  .exact absurd rfl z
 .exact absurd rfl z
def EP{np N:Nat}(qs:Y2)(h:Y3)(z:fO g np N qs h≠.bad):qs.length=np/\F0 h.length (g (st0 N qs) h) (fO g np N qs h):=by
 have e:fO g np N qs h=lG g np N qs h:=by
  unfold fO lG at*
  split
  .rw[ajz ‹_›]at z;split<;>rename_i e<;>simp_all
  .rfl
 rw[e]at z |-;exact IS qs h z
end
section
variable{w:Wo}{hs:Y3}{is:Y1}
theorem mY:∀{is:Y1}{hs:Y3},lR h is=some hs->is.length=hs.length/\∀(j i:Nat),is[j]? =some i->h[i]? =hs[j]?
 |[],_,e=>by cases e;exact⟨rfl,fun _ _ e=>nomatch e⟩
 |i::r,_,e=>by
  unfold lR at e
  split at e
  .rename_i e1
   split at e<;>cases e
   rename_i e2;obtain⟨l,k⟩:=mY e2;exact⟨by simp[l],fun j i' q=>by cases j with|zero=>cases q;exact e1|succ j=>exact k j i' q⟩
  .cases e
theorem rS:∀{is:Y1},mU is=true->is.Nodup
 |[],_=>.nil
 |i::r,h=>by simp only[mU,ael,agD,List.contains_eq_mem,decide_eq_false_iff_not]at h;exact .cons (fun x hx z=>h.1 (z▸hx)) (rS h.2)
theorem rG:∀(is:Y1)(h hs:Y3),(Z.io h is hs).length=h.length
 |[],h,_=>by simp[Z.io]
 |_::_,h,[]=>by simp[Z.io]
 |i::r,h,o::l=>by simp[Z.io,rG r]
theorem rI:∀{is:Y1}{h hs:Y3}{i:Nat},is.Nodup->is.length=hs.length->(∀j∈is,j<h.length)->(∀j:Nat,is[j]? =some i->(Z.io h is hs)[i]? =hs[j]?)/\(i∉is->(Z.io h is hs)[i]? =h[i]?)
 |[],h,[],i,_,_,_=>⟨fun _ e=>(nomatch e),fun _=>rfl⟩
 |j0::r,h,o::l,i,nd,e,lt=>by
  rw[afC]at nd;obtain⟨a,b⟩:=rI (h:=h.set j0 o) (hs:=l) (i:=i) nd.2 (by simpa using e) (fun j hj=>by simpa using lt j (aen _ hj));refine⟨fun j q=>?_,fun n=>?_⟩
  .cases j with
   |zero=>cases q;simp only[Z.io];rw[b nd.1];simp[lt _ aeC]
   |succ j=>simp only[Z.io];rw[a j q];rfl
  .simp only[Z.io];rw[b fun z=>n (aen _ z),agk fun z=>n (by simp[z])]
noncomputable def sel(m:Zs)(is:Y1):Zs:=is.map fun i=>m.getD i 0
def qr{j:Nat}(e:is[j]? =some i)(q:m[i]? =some a):(sel m is)[j]? =some a:=by simp[sel,e,aeG,q]
theorem oO:∀{hs:Y3}{j:Nat}{o:PO},dJ hs=true->hs[j]? =some o->o.pure=true
 |o::r,j,o',h,e=>by
  simp only[dJ,ael]at h
  cases j with
  |zero=>cases e;exact h.1
  |succ j=>exact oO h.2 e
theorem tE.pure{F:Fz}{m m':Zs}{O O':Addr->Option Addr}{g:Heap}{a:Addr}{o:PO}(q:tE G F m O g a o)(p:o.pure=true):tE G F m' O' g a o:=by
 cases o with
 |lst ps=>obtain⟨f,k_,n,e,l,r⟩:=q;exact⟨f,k_,n,e,l,r.mono (fun _ _ e=>e) (.inl p)⟩
 |dct Sw=>obtain⟨f,o,kvs,e,d,y,l,c,r⟩:=q;exact⟨f,o,kvs,e,d,y,l,c,r.mono (fun _ _ e=>e) (.inl (by rw[<- jg];exact p))⟩
 |Q5 p=>obtain⟨r,z,q⟩:=q;exact⟨r.mono (fun _ _ e=>e) (.inl z),z,q⟩
 |obj C ps=>cases p
def vA(H:HR G w h)(lt:∀i∈is,i<h.length)(z:a∈sel w.m is):∃i∈is,w.m[i]? =some a:=by obtain⟨i,hi,rfl⟩:=aeX.mp z;have l:=lt i hi;rw[H.len]at l;exact⟨i,hi,by simp[aeG,aej l]⟩
theorem CY:∀{is:Y1},is.Nodup->(∀i∈is,i<w.m.length)->w.m.Nodup->(sel w.m is).Nodup
 |[],_,_,_=>.nil
 |i::r,nd,lt,n=>by rw[afC]at nd;refine afC.mpr ⟨fun z=>?_,CY nd.2 (fun j hj=>lt j (aen _ hj)) n⟩;obtain⟨j,hj,e⟩:=aeX.mp z;have l1:=lt i (by simp);have l2:=lt j (aen _ hj);simp only[aeG,aej l1,aej l2,aiT]at e;exact nd.1 ((ago n).mp e▸hj)
theorem Wd.sel(I:Wd X w h)(e:lR h is=some hs)(nd:is.Nodup)(pu:dJ hs=true)(lt:∀i∈is,i<h.length):Wd X ⟨w.F,fun _=>none,sel w.m is,w.s⟩ hs:=by
 obtain⟨l,k⟩:=mY e;have g:∀i∈is,∃a,w.m[i]? =some a:=fun i hi=>⟨_,aej (I.len▸lt i hi)⟩
 refine⟨⟨I.sub,fun _ _ e=>(nomatch e),by simp[Z.sel,l],CY nd (fun i hi=>I.len▸lt i hi) I.nd,fun j o a e1 e2=>?_⟩,I.ba,I.bs,fun b hb=>let⟨o,q,d⟩:=I.fr b hb;⟨o,⟨q.1,fun z=>let⟨i,_,q'⟩:=vA I.toHR lt z;q.2.1 (aex q'),q.2.2.1,rfl⟩,d⟩⟩;have hj:j<is.length:=by rw[l];exact(aer.mp e1).1
 obtain⟨i,hi⟩:∃i,is[j]? =some i:=⟨_,aej hj⟩
 obtain⟨a',ha⟩:=g i (aex hi)
 cases(qr hi ha).symm.trans e2
 exact(I.obj i o a (by rw[k j i hi];exact e1) ha).pure (oO pu e1)
theorem vH{F:Fz}{m:Zs}:∀{ps:Y2}{us:Z3}{n:Nat}{m':Zs},aO G F m ps us->nT ps=true->(∀(j i:Nat) a,(Xy ps)[j]? =some i->m[i]? =some a->m'[n+j]? =some a)->aO G F m' (YX n ps) us
 |[],_,_,_,.nil,_,_=>.nil
 |p::ps,_,n,m',.cons r t,ok,k=>by
  have z:p.pure=true/\nT ps=true/\Xy (p::ps)=Xy ps/\YX n (p::ps)=p::YX n ps\/∃i,p=.ref i:=by cases p<;>first|exact .inr ⟨_,rfl⟩|exact .inl ⟨(ael _ _▸ok).1,(ael _ _▸ok).2,rfl,rfl⟩
  rcases z with⟨z,o,e,e'⟩|⟨i,rfl⟩
  .rw[e'];rw[e]at k;exact .cons (r.mono (fun _ _ e=>e) (.inl z)) (vH t o k)
  .cases r with
   |ref e=>exact .cons (.ref (k 0 i _ rfl e)) (vH t ok fun j i a e1 e2=>by have:=k (j+1) i a e1 e2;rwa [show n+1+j=n+(j+1) by lia])
def XM.acX{c:Bool}{f:Addr}{fd:FuncData}{ps:Zl}{qs:Y2}(F:XM X.toSC c k f fd ps fn)(hr:fK k X.A)(hc:c=true->X.calm=true)(hb:jM X.K fd ps [])(I:Inv X w ρ h)(r:aO X.toSC w.F w.m qs us)(p:cf X (RV X.toSC) w Q E (fn qs h)):Wp X (call (.ref f) us) Q E w.s:=by refine agi (F.run rfl hr (fun z=>I.ok.hd (hc z)) I.ok.frames I.toWd I.ok r (by simpa using hb w.s us I.UJ (by rw[aep,<- r.length];exact F.len _ _ fun z=>by rw[z]at p;exact p)) p.c)
theorem XM.z_{c:Bool}{f:Addr}{fd:FuncData}{k:Nat}{ps:Zl}{fn:Y2->Y3->Res PV}{ρ:Ev}{qs:Y2}{us:Z3}{Q:Yf}{E:Yf}(F:XM X.toSC c k f fd ps fn)(hr:fK k X.A)(hc:c=true->X.calm=true)(hb:jM X.K fd ps [])(I:Inv X w ρ h)(r:aO X.toSC w.F w.m qs us)(p:cf X (RV X.toSC) w Q E (z_ fn qs h)):Wp X (call (.ref f) us) Q E w.s:=by
 unfold Z.z_ at p
 split at p
 .rename_i hs e
  split at p
  .rename_i c;simp only[ael]at c;obtain⟨⟨c1,c2⟩,c3⟩:=c;obtain⟨gl,gk⟩:=mY e;have nd:=rS c3
   have lt:∀i∈Xy qs,i<h.length:=fun i hi=>by obtain⟨j,hj,rfl⟩:=afZ.mp hi;have:=gk j _ (aej hj);rw[aej (show j<hs.length from gl▸hj)]at this;exact(aer.mp this).1
   have r':aO X.toSC w.F (sel w.m (Xy qs)) (YX 0 qs) us:=vH r c1 fun j i a e1 e2=>by rw[ag4];exact qr e1 e2
   have I':=I.toWd.sel e nd c2 lt;have hm:∀a∈sel w.m (Xy qs),a∈w.m:=fun a z=>let⟨i,_,q⟩:=vA I.toHR lt z;aex q
   have bk:∀{w1:Wo}{X4:Y3},Nw X ⟨w.F,fun _=>none,sel w.m (Xy qs),w.s⟩ w1 X4->dJ X4=true->X4.length=hs.length->Nw X w ⟨w1.F,w.O,w.m,w1.s⟩ (Z.io h (Xy qs) X4):=fun{w1 X4} y pu l=>by
    have pg:=fun i=>rI (i:=i) (h:=h) (hs:=X4) nd (gl.trans l.symm) lt;refine Nw.back I.toWd y.1 y.2 (rG _ _ _) hm (fun i po a e1 e2 z=>?_) fun i po a e1 e2 z=>?_
    .obtain⟨i',hi',e3⟩:=vA I.toHR lt z
     have:i=i':=by obtain⟨l1,q1⟩:=aer.mp e2;obtain⟨l2,q2⟩:=aer.mp e3;exact(ago I.nd).mp (q1.trans q2.symm)
     subst this;obtain⟨j,hj,rfl⟩:=afZ.mp hi';have ej:=aej hj;rw[(pg _).1 j ej]at e1;exact(y.2.obj j po a e1 (y.1.sub j a (qr ej e2))).pure (oO pu e1)
    .rw[(pg i).2 fun hi=>z (aex (qr (aej (afZ.mp hi).choose_spec.choose) (by rw[(afZ.mp hi).choose_spec.choose_spec];exact e2)))]at e1;exact e1
   refine agi (F.run (w:=⟨w.F,fun _=>none,sel w.m (Xy qs),w.s⟩) rfl hr (fun z=>I.ok.hd (hc z)) I.ok.frames I' I.ok r' (by simpa using hb w.s us I.UJ (by rw[aep,<- r'.length];exact F.len _ _ fun z=>by rw[z]at p;exact p)) ?_)
   split at p
   .rename_i e1;rw[e1]
    split at p
    .rename_i c;exact fun w1 x y r1=>p.2 ⟨w1.F,w.O,w.m,w1.s⟩ _ (bk y c.2.1 c.2.2) (r1.mono (fun _ _ e=>e) (.inl c.1))
    .exact p.elim
   .rename_i e1;rw[e1]
    split at p
    .rename_i c;refine fun w1 x y r1=>p.2 ⟨w1.F,w.O,w.m,w1.s⟩ _ (bk y c.2.1 c.2.2) (r1.to c.1 rfl rfl rfl fun b z=>?_);have nf:¬ XH w b->b∉X.fs:=fun n z=>let⟨_,q,_⟩:=I.fr _ z;n q.2
     by_cases z1:b∈w.m
     .exact .inr ⟨I.toHR.there z1,nf fun y=>y.1 z1⟩
     .by_cases z2:w.O b=none
      .exact .inl fun y=>z ⟨z1,y.2.1,z2⟩
      .obtain⟨o,q⟩:=Option.ne_none_iff_exists'.mp z2;exact .inr ⟨(I.own b o q).1,nf fun y=>z2 y.2.2⟩
    .exact p.elim
   .exact p.elim
  .exact p.elim
 .exact p.elim
structure ZL(X:Cx)(x:Str)(fn:Y2->Y3->Res PV):Prop where
 ex:∃c k f fd ps,XM X.toSC c k f fd ps fn/\fK k X.A/\(c=true->X.calm=true)/\X.mg x=some (.ref f)/\aj1 X.K (.ref f)=true/\jM X.K fd ps []
variable{e:Expr}{fs:Ax}
def xH(c:ZL X x fn)(hg:Gl X x)(ha:RA X (e::es) fs)(V6:(x==("__debug__":Str))=ajt)(he:ajF (e::es) X.env=(ajt,eval e X.env)::ajF es X.env)(Yc:(akd pos (ajF es X.env)).any (·.1)=ajt):RE X (.Call (.Name x p0) (e::es) [] pos) (bn fn fs):=⟨fun I p=>by obtain⟨c,k,f,fd,ps,F,hr,hc,hm,hk,hb⟩:=c.ex;exact afd (I.ZG hg hm (agy (h₀:=X.base) I.ok.Tz hk (ha.r pos I (p.bind fun _ _ _ _ y r p=>⟨(I.on y).UJ,F.z_ hr hc hb (I.on y) r p⟩)) he Yc) V6)⟩
end
noncomputable def rQ(C:Nat)(h:Y3):PV->Option (Nat×Y2)
 |.ref i=>match h[i]? with
  |some (.obj D ps)=>if D=C then some (i,ps)else none
  |_=>none
 |_=>none
def dz(C j:Nat)(p:PV)(h:Y3):Res PV:=match rQ C h p with
 |some (_,ps)=>match ps[j]? with
  |some q=>.ok (aA h q) h
  |none=>.bad
 |none=>.bad
def CX(C j:Nat)(v p:PV)(ρ:Ev)(h:Y3):SR:=match rQ C h p with
 |some (i,ps)=>if j<ps.length then .nx ρ (h.set i (.obj C (ps.set j v)))else if j=ps.length then .nx ρ (h.set i (.obj C (ps++ [v])))else .bad
 |none=>.bad
def ud(C j:Nat)(fo fv:Ex):Sx:=fun ρ h=>ey (fv ρ h) fun v h1=>ey (fo ρ h1) fun o h2=>CX C j v o ρ h2
def bJ(C:Nat)(fn:Y2->Y3->Res PV)(o:Ex)(as:Ax):Ex:=fun ρ h=>(o ρ h).bind fun p h1=>match rQ C h1 p with
 |some _=>(as ρ h1).bind fun ps h2=>fn (p::ps) h2
 |none=>.bad
noncomputable def mkO(C:Nat)(fn:Y2->Y3->Res PV)(ps:Y2)(h:Y3):Res PV:=match fn (.ref h.length::ps) (h++ [.obj C []])with
 |.ok .non h2=>.ok (.ref h.length) h2
 |_=>.bad
def Ib(C:Nat)(fn:Y2->Y3->Res PV)(as:Ax):Ex:=fun ρ h=>(as ρ h).bind (mkO C fn)
section
variable{y:Value}
theorem qP:∀{ns:Zl}{vs:Z3}{j:Nat}{v:Value},ns.Nodup->ns[j]? =some f->vs[j]? =some v->(ns.zip vs).lookup f=some v
 |[],_,_,_,_,e,_=>by simp at e
 |n::ns,[],j,v,_,_,e=>by simp at e
 |n::ns,x::vs,0,v,_,e1,e2=>by cases e1;cases e2;simp[ajR]
 |n::ns,x::vs,j+1,v,nd,e1,e2=>by
  rw[afC]at nd;have ne:f≠n:=fun z=>nd.1 (z▸aex e1);have:(f==n)=ajt:=by simpa using ne
  rw[ag8,ajR,this];exact qP nd.2 e1 e2
theorem qO:∀{ns:Zl}{vs:Z3},f∉ns->(ns.zip vs).lookup f=none
 |[],_,_=>by simp
 |n::ns,[],_=>by simp
 |n::ns,x::vs,h=>by
  have:(f==n)=ajt:=by simpa using fun z=>h (by simp[z])
  rw[ag8,ajR,this];exact qO fun z=>h (aen _ z)
theorem zS{n:Str}:∀{ns:Zl}{vs:Z3}{j:Nat},ns.Nodup->ns[j]? =some f->j<=vs.length->(ns.zip (vs.take j++y::vs.drop (j+1))).lookup n=if n=f then some y else(ns.zip vs).lookup n
 |[],_,_,_,e,_=>by simp at e
 |g::ns,vs,0,_,e,_=>by
  cases e
  by_cases z:n=f
  .simp[z,ajR]
  .have:(n==f)=ajt:=by simpa using z
   cases vs<;>simp[ajR,this,z]
 |g::ns,[],j+1,_,_,e=>by simp at e
 |g::ns,x::vs,j+1,nd,e1,l=>by
  rw[afC]at nd;have ih:=zS (n:=n) nd.2 e1 (Nat.le_of_succ_le_succ l);simp only[af2,List.drop_succ_cons,ae3,ag8,ajR]
  by_cases z:n=g
  .have:n≠f:=fun z'=>nd.1 (z▸z'▸aex e1);simp[z,ajB (z▸this)]
  .have:(n==g)=ajt:=by simpa using z
   simp only[this];exact ih
end
theorem sk{y:Str}{v:Value}:∀{fs:List (Str×Value)},fs.lookup y=some v->(y,v)∈fs
 |p::r,e=>by
  simp only[ajR]at e
  split at e
  .rename_i q;cases e;cases aiQ q;simp
  .exact aen _ (sk e)
def EM(C:Nat):(Yr C).Nodup:=by unfold Yr;split<;>decide+kernel
def HI(C:Nat):(Yr C).length<100:=by unfold Yr;split<;>decide+kernel
structure Cls(K:ajZ)(C:Addr):Prop where
 pg:W.plainGet K C Str.empty=true
 hd:W.hasDictIn K C=true
 po:W.plainOver K C=true
 sa:ajJ K (.ref C) "__setattr__"=some (some (.builtin "object.__setattr__"))
def wR(K:ajZ)(C:Addr)(f:Str):Prop:=ajJ K (.ref C) f=some none
structure bE(K:ajZ)(C:Addr)(m:Str)(f:Addr):Prop where
 at_:ajJ K (.ref C) m=some (some (.ref f))
 fn:W.isFn K (.ref f)=true
 kp:aj1 K (.ref f)=true
structure Mk(K:ajZ)(C f:Addr):Prop where
 makes:ak1 K C=true
 init:ajJ K (.ref C) "__init__"=some (some (.ref f))
 fn:W.isFn K (.ref f)=true
 kp:aj1 K (.ref C)=true
def OM(g:Heap)(a dx C:Addr)(fs:List (Str×Value)):Prop:=g.get? a=some (aj3 C dx)/\∃od,g.get? dx=some od/\ZQ od fs
section
variable{M:Model}{P:Program}{wd:World}{K:ajZ}{s:Shared}{dx:Addr}{fs:List (Str×Value)}
def ut{od:Obj}(n:ZQ od fs)(name:Str):ak4 name od=some (fs.lookup name):=by
 obtain⟨es,ep,hd,hk,_,hm⟩:=n;have e:=hm name;unfold nsFind findBy at e;rw[<- Array.find?_toList]at e;unfold ak4;rw[hd];dsimp only
 split
 .rename_i y q;rw[q]at e;exact aj0 some e
 .rename_i q;rw[q]at e
  have n:es.toList.any (·.refKey)=ajt:=by rw[List.any_eq_false];intro y hy;obtain⟨z,t,acp⟩:=hk y (Array.mem_toList_iff.mp hy);simp[DictEntry.refKey,acp]
  rw[ajB (by rw[n];exact af9)];exact aj0 some e
def OM.look{g:Heap}(I:OM g a dx C fs):∃od,W.InstAt g a (aj3 C dx) C (some od)/\∀name,ak4 name od=some (fs.lookup name):=
 let⟨hx,od,ho,n⟩:=I;⟨od,⟨hx,rfl,rfl,ho⟩,ut n⟩
def HA{b:Bool}(k:K.In s.heap)(I:OM s.heap a dx C fs)(c:Cls K C)(n:wR K C f)(l:fs.lookup f=some v)(hv:W.handedIn v=true)(h:Q v { s with toks:=s.toks+1 }):ajD (ajC P wd) A (getAttr (.ref a) f b) Q E s:=by obtain⟨od,J,hl⟩:=I.look;exact W.get_value k J (aip c.pg).1 (W.findObj_own c.hd n rfl (by rw[hl,l])) hv h
def sF{g:Addr}{pl:Sem Bool}{Q:Value×Z3->Shared->Prop}(k:K.In s.heap)(I:OM s.heap a dx C fs)(c:Cls K C)(m:bE K C f g)(l:fs.lookup f=none)(h:Q (.ref g,[.ref a]) s):ajD (ajC P wd) A (akJ (.ref a) f pl) Q E s:=by obtain⟨od,J,hl⟩:=I.look;exact W.method_fn k J (aip (name:=f) c.pg).1 (aip (name:=f) c.pg).2 m.at_ (ajS.mp m.fn) (by show(ak4 f od).map (·.isSome)=some ajt;rw[hl,l];rfl) h
def Ge{Q:Unit->Shared->Prop}(k:K.In s.heap)(I:OM s.heap a dx C fs)(ne:dx≠a)(c:Cls K C)(n:wR K C f)(z:fs.length<=ajx)(h:∀h',h'.Ns1 dx (fun y=>if y=f then some v else fs.lookup y)->aj9 dx s.heap h'->Q () { s with heap:=h',toks:=s.toks+2 }):ajD (ajC P wd) A (setAttr (.ref a) f v) Q E s:=by
 obtain⟨od,J,hl⟩:=I.look;obtain⟨hx,Z1,ho,es,ep,q1,q2,q3,q4⟩:=id I;have ns:s.heap.Ns1 dx fun y=>fs.lookup y:=⟨Z1,es,ep,ho,q1,q2,q3,q4⟩
 have hw:PySem.Within (fun y=>fs.lookup y) (fs.map (·.1)):=fun y hy=>by
  cases e:fs.lookup y with
  |none=>exact absurd e hy
  |some v=>exact aeX.mpr ⟨(y,v),sk e,rfl⟩
 refine W.set_plain k J c.sa (W.osa_open (s:={ s with toks:=s.toks+1 }) (r:=none) k J c.po (by unfold W.takerIn;rw[show ajJ K (.ref C) f=some none from n];rfl) fun b=>?_);obtain⟨cd,hc,hd'⟩:=W.any_some c.hd;refine aeg (aeu (aeg (aeg (ah1 (show s.heap.get? a=some ⟨.ref C,some dx,.plain, #[]⟩from hx) (aeg (ajq (s:={ s with toks:=s.toks+1 }) (W.looks_clsIn k hc) ?_))))));rw[hd'];refine aeu (a:=some dx) (aeg (aeu (aeg ?_)));refine wpAny_nsSet1 (s:={ s with toks:=s.toks+1 }) ns fun h' hn2 hs2=>?_;obtain⟨oD,esD,epD,hoD,hdD,hcD⟩:=hn2.count (aiH f v hw);exact aeg (wpAny_lookBehind hoD (by rw[hdD];exact pastItsLine_dict (aeI hcD (by rw[aeh,aes];lia))) (aeu (h _ hn2 hs2)))
end
section
variable{w:Wo}{po:PO}
def Nw.upd(H:HR X.toSC w h)(em:w.m[i]? =some a)(n:w.F a=none)(k:∀b o,w.s.heap.get? b=some o->b=a\/w.O b=some a\/s'.heap.get? b=some o)(d:∀b o,w.s.heap.get? b=some o->∃o',s'.heap.get? b=some o')(q:tE X.toSC w.F w.m w.O s'.heap a po)(ho:s'.os=w.s.os:=by rfl)(hg:s'.gens=w.s.gens:=by rfl):Nw X w { w with s:=s' } (h.set i po):=by
 have k':∀b o,w.s.heap.get? b=some o->b≠a->w.O b≠some a->s'.heap.get? b=some o:=fun b o e x y=>(k b o e).elim (fun z=>absurd z x) fun z=>z.resolve_left y;refine⟨⟨ho,fun q=>hg▸q,fun _ _ e=>e,fun _ _ e=>e,⟨[],by simp⟩,d,fun b o q _=>⟨o.slots,⟨k' b o q.1 (fun z=>q.2.1 (z▸aex em)) (by rw[q.2.2.2];exact fun z=>nomatch z),q.2⟩,.inr rfl⟩⟩,fun b o e=>k' b o (H.sub b o e) (fun z=>by rw[z,n]at e;cases e) (fun z=>by rw[(H.own b a z).2.2]at e;cases e),fun b x e=>let⟨⟨o,q⟩,z⟩:=H.own b x e;⟨d b o q,z⟩,by simp[H.len],H.nd,fun j o b e1 e2=>?_⟩
 by_cases z:j=i
 .subst z
  cases em.symm.trans e2
  rw[agC (H.len▸(aer.mp em).1)]at e1
  cases e1;exact q
 .rw[agk (ag3 z)]at e1
  have nb:b≠a:=fun y=>z (by obtain⟨l1,q1⟩:=aer.mp e2;obtain⟨l2,q2⟩:=aer.mp em;exact(ago H.nd).mp (q1.trans (y.trans q2.symm)))
  exact(H.obj j o b e1 e2).on (fun _ _ e=>e) (fun _ e=>e) (fun _ _ e=>e) (fun c o e y=>k' c o e (y.elim (fun y=>y▸nb) fun y z=>by subst z;exact(H.own _ _ y).2.1 (aex em)) (y.elim (fun y z=>(H.own c a z).2.1 (y▸aex e2)) fun y z=>nb (aeW (y.symm.trans z)))) id
inductive Ob0(G:SC)(w:Wo)(C i:Nat)(p:PV)(u:Value)(ps:Y2):Prop where
 |mk (a Ca dx:Addr) (vs:Z3) (_:u=.ref a) (_:p=.ref i) (_:w.m[i]? =some a) (_:w.F a=none) (_:G.T C=some Ca) (_:OM w.s.heap a dx Ca ((Yr C).zip vs)) (_:dx≠a) (_:w.O dx=some a) (_:vs.length<=(Yr C).length) (_:aO G w.F w.m ps vs)
def HR.ob{C:Nat}(H:HR G w h)(r:bx G w.F w.m p u)(e:rQ C h p=some (i,ps)):Ob0 G w C i p u ps:=by
 unfold rQ at e
 split at e
 .split at e
  .rename_i q
   split at e<;>cases e
   subst_vars
   cases r with
   |ref em=>obtain⟨f,Ca,dx,od,vs,c,e1,o,e2,n,l,r⟩:=H.obj _ _ _ q em;exact⟨_,Ca,dx,vs,rfl,rfl,em,f,c,⟨e1,od,e2,n⟩,fun z=>(H.own _ _ o).2.1 (z▸aex em),o,l,r⟩
  .cases e
 .cases e
def EJ{F:Fz}(r:bx G F m p u):W.handedIn u=true:=by cases r<;>rfl
structure OC(X:Cx)(C:Nat):Prop where
 ex:∃Ca,X.T C=some Ca/\Cls X.K Ca/\∀f∈Yr C,wR X.K Ca f
variable{o value:Expr}{fo fv:Ex}{pos':Pos}{C j:Nat}
def JX(oc:OC X C)(hj:(Yr C)[j]? =some f)(ho:RE X o fo)(hb:akM o f X.env (eval o X.env)=eval o X.env:=by rfl):RE X (.Attribute o f pos) (c1 (dz C j) fo):=⟨fun I p=>by
 obtain⟨Ca,t,c,n⟩:=oc.ex;refine Attribute_any_ (ho.r I (p.bind fun w1 h1 a u y r p=>?_)) (by rw[aiu,hb]);unfold dz at p
 split at p
 .rename_i e;obtain⟨a,Cb,dx,vs,rfl,_,em,_,c',O,_,_,_,rr⟩:=y.2.ob r e
  cases t.symm.trans c'
  split at p
  .obtain⟨v,e3,rq⟩:=rr.get ‹_›;exact HA (I.on y).UJ O c (n f (aex hj)) (qP (EM C) hj e3) (EJ rq) (p.now y.2 (y.2.Xo rq))
  .exact p.elim
 .exact p.elim⟩
def JD(oc:OC X C)(hj:(Yr C)[j]? =some f)(ho:RE X o fo)(hv:RE X value fv)(hs:aj2 value (some (.Attribute o f pos')) pos.line X.env=pure ajt:=by rfl):RS X (.Assign [.Attribute o f pos'] value pos) (ud C j fo fv):=⟨fun{w ρ h Q E} I p=>by
 obtain⟨Ca,t,c,n⟩:=oc.ex;refine agE (hv.r I (bL.e p I fun w1 h1 pv v y1 I1 rv p=>ho.r I1 (bL.e p I1 fun w2 h2 po u y2 I2 r p=>?_))) hs;unfold CX at p
 split at p
 .rename_i i ps e;obtain⟨a,Cb,dx,vs,rfl,_,em,hf,c',O,ne,od,l,rr⟩:=I2.toHR.ob r e
  cases t.symm.trans c'
  have lj:=(aer.mp hj).1
  have go:∀qs,qs=ps.take j++pv::ps.drop (j+1)->j<=ps.length->bL X w2 Q E (.nx ρ (h2.set i (.obj C qs)))->Wp X (setAttr (.ref a) f v) (fun _=>Q .next) E w2.s:=by
   rintro qs rfl hl p
   have Zq:j<=vs.length:=rr.length▸hl;refine Ge I2.UJ O ne c (n f (aex hj)) (by have:=HI C;rw[List.length_zip,afW];lia) fun h' ns sb=>?_;obtain⟨Z1,es,ep,e1,e2,e3,e4,e5⟩:=id ns
   have y3:=Nw.upd (X:=X) (s':={ w2.s with heap:=h',toks:=w2.s.toks+2 }) (po:=.obj C (ps.take j++pv::ps.drop (j+1))) I2.toHR em hf (fun b o e=>by
     by_cases z:b=dx
     .exact .inr (.inl (z▸od))
     .exact .inr (.inr ((sb.2 b z).trans e))) (fun b o e=>by
     by_cases z:b=dx
     .exact⟨Z1,z▸e1⟩
     .exact⟨o,(sb.2 b z).trans e⟩) ⟨hf,Ca,dx,Z1,vs.take j++v::vs.drop (j+1),t,(sb.2 a (ag3 ne)).trans O.1,od,e1,⟨es,ep,e2,e3,e4,fun m=>by rw[e5 m,zS (EM C) hj Zq]⟩,by simp;lia,(rr.td j).1.app (.cons (y2.1.rep rv) (rr.td (j+1)).2)⟩
   exact p.2 _ y3.s (I2.on y3)
  split at p
  .exact go _ (by rw[List.set_eq_take_append_cons_drop,ajz ‹_›]) (aiK ‹_›) p
  .split at p
   .exact go _ (by subst_vars;simp) (aiL ‹_›) p
   .exact p.elim
 .exact p.elim⟩
variable{m:Str}{e:Expr}{fs:Ax}
structure ZO(X:Cx)(C:Nat)(m:Str)(fn:Y2->Y3->Res PV):Prop where
 ex:∃Ca c k f fd ps,X.T C=some Ca/\Cls X.K Ca/\bE X.K Ca m f/\m∉Yr C/\XM X.toSC c k f fd ps fn/\fK k X.A/\(c=true->X.calm=true)/\jM X.K fd ps []
def Dw{pl:Sem Bool}(c:ZO X C m fn)(ho:RE X o fo)(ha:RA X (e::es) fs)
  (Zc:ajF (e::es) X.env=(ajt,eval e X.env)::ajF es X.env) (Yc:(akd pos (ajF es X.env)).any (·.1)=ajt)
  (ht:eval (.Call (.Attribute o m apos) (e::es) [] pos) X.env=(do
   let ov <- eval o X.env
   standAt apos.atName
   let(f,first) <- akP [ov] (akJ ov m pl)
   callWith pos f first (akd pos (ajF (e::es) X.env)) (akS pos (akv [] X.env)))):
  RE X (.Call (.Attribute o m apos) (e::es) [] pos) (bJ C fn fo fs):=⟨fun I p=>by
 obtain⟨Ca,cc,k,f,fd,ps,t,c,hm,nm,F,hr,hc,hb⟩:=c.ex;refine ahP (pl:=pl) (ho.r I (p.bind fun w1 h1 q u y r p=>?_)) ht
 split at p
 .obtain⟨a,Cb,dx,vs,rfl,_,em,_,c',O,_⟩:=y.2.ob r ‹_›
  cases t.symm.trans c'
  have I1:=I.on y;exact sF I1.UJ O c hm (qO nm) (agy (first:=[.ref a]) (h₀:=X.base) I.ok.Tz hm.kp (ha.r pos I1 (p.bind fun w2 h2 qs us y2 r2 p=>⟨(I1.on y2).UJ,F.acX hr hc hb (I1.on y2) (.cons (y2.1.rep r) r2) p⟩)) Zc Yc)
 .exact p.elim⟩
structure ZK(X:Cx)(C:Nat)(x:Str)(fn:Y2->Y3->Res PV):Prop where
 ex:∃Ca c k f fd ps,X.T C=some Ca/\Mk X.K Ca f/\XM X.toSC c k f fd ps fn/\fK (k+1) X.A/\(c=true->X.calm=true)/\X.mg x=some (.ref Ca)/\jM X.K fd ps []
def make{Ca g:Addr}{fd:FuncData}{ps:Zl}{qs:Y2}(t:X.T C=some Ca)(M:Mk X.K Ca g){c:Bool}(F:XM X.toSC c k g fd ps fn)(hr:fK (k+1) X.A)(hc:c=true->X.calm=true)(hb:jM X.K fd ps [])(I:Inv X w ρ h)(r:aO X.toSC w.F w.m qs us)(p:cf X (RV X.toSC) w Q E (mkO C fn qs h)):Wp X (call (.ref Ca) us) Q E w.s:=by
 have hl:fn (.ref h.length::qs) (h++ [.obj C []])≠.bad:=fun z=>by unfold mkO at p;rw[z]at p;exact p
 let s1:Shared:={ w.s with heap:=(w.s.heap.push ajX).push (aj3 Ca w.s.heap.objs.size) }
 let w1:Wo:=⟨w.F,fun d=>if d=w.s.heap.objs.size then some (w.s.heap.objs.size+1)else w.O d,w.m++ [w.s.heap.objs.size+1],s1⟩
 have g0:s1.heap.get? w.s.heap.objs.size=some ajX:=aem _ (aey _ rfl)
 have e1:s1.heap.get? (w.s.heap.objs.size+1)=some (aj3 Ca w.s.heap.objs.size):=by
  have:=aey (w.s.heap.push ajX) (o:=aj3 Ca w.s.heap.objs.size) rfl
  rwa [show(w.s.heap.push ajX).objs.size=w.s.heap.objs.size+1 by simp[Heap.push]]at this
 have n0:=bG w.s.heap
 have n1:w.s.heap.get? (w.s.heap.objs.size+1)=none:=by
  cases q:w.s.heap.get? (w.s.heap.objs.size+1)with
  |none=>rfl
  |some o=>exact absurd (aeT q) (aiV (agQ _))
 have y:Nw X w w1 (h++ [.obj C []]):=Nw.mk (s':=s1) I.toHR n1 (fun _ _ e=>aem _ (aem _ e)) ⟨(I.free n1).2.1,Ca,_,_,[],t,e1,ajz rfl,g0,⟨#[],0,rfl,by intro e he;simp at he,by simp[UniqKeys],fun n=>by simp[nsFind,findBy]⟩,by simp,.nil⟩ (fun d b e=>by
   by_cases z:d=w.s.heap.objs.size
   .rw[z,(I.free n0).2.2]at e;cases e
   .exact(ajB z).trans e) fun d b e=>by
   by_cases z:d=w.s.heap.objs.size
   .exact .inr ⟨z▸n0,fun z'=>afH (agL _) (z.symm.trans z'),_,z▸g0⟩
   .exact .inl ((ajB z).symm.trans e)
 have I1:=I.on y;have r0:bx X.toSC w1.F w1.m (.ref h.length) (.ref (w.s.heap.objs.size+1)):=.ref (by rw[I.len];simp[w1]);have r1:aO X.toSC w1.F w1.m (.ref h.length::qs) (.ref (w.s.heap.objs.size+1)::us):=.cons r0 (y.1.reps r);refine agi (W.make_core (W.makes_of I.UJ M.makes) (ah3 I.UJ M.init) (fun self=>W.bind_fn I.UJ self (ajS.mp M.fn)) (.inl rfl) (ag2 (F.run (w:=w1) (Q:=fun v s=>v=.none/\Q (.ref (w.s.heap.objs.size+1)) s) (E:=E) rfl (hr.make Ca us []) (fun z=>I.ok.hd (hc z)) (by first|exact I.ok.frames|(simpa[akq,Code.envs,akD,pushEnvs]using I.ok.frames)) I1.toWd I1.ok r1 (by simpa using hb s1 _ I1.UJ (by rw[aep,<- r1.length];exact F.len _ _ hl)) ?_) ?_))
 .unfold mkO at p
  split at p
  .rename_i e;rw[e];exact fun w' x y' rx=>by obtain rfl:=rx.vn;exact⟨rfl,p.2 _ _ (y.trans y') (y'.1.rep r0)⟩
  .exact p.elim
 .intro r s hq
  cases r with
  |error e=>exact hq
  |ok fl=>
   cases fl with
   |ret u=>exact hq
   |_=>exact ak6 hq
def JU(c:ZK X C x fn)(hg:Gl X x)(ha:RA X (e::es) fs)(V6:(x==("__debug__":Str))=ajt)(he:ajF (e::es) X.env=(ajt,eval e X.env)::ajF es X.env)(Yc:(akd pos (ajF es X.env)).any (·.1)=ajt):RE X (.Call (.Name x p0) (e::es) [] pos) (Ib C fn fs):=⟨fun I p=>by obtain⟨Ca,cc,k,f,fd,ps,t,M,F,hr,hc,hm,hb⟩:=c.ex;exact afd (I.ZG hg hm (agy (h₀:=X.base) I.ok.Tz M.kp (ha.r pos I (p.bind fun _ _ _ _ y r p=>⟨(I.on y).UJ,make t M F hr hc hb (I.on y) r p⟩)) he Yc) V6)⟩
end
def kn(res:Nat->Option (Y2->Out))(o:Ex)(as:Ax):Ex:=fun ρ h=>(o ρ h).bind fun p h1=>match p with
 |.ins C []=>match res C with
  |some fn=>(as ρ h1).bind fun ps h2=>aR fn (.ins C []::ps) h2
  |none=>.bad
 |_=>.bad
noncomputable def lZ(C:Nat):Ex:=fun _ h=>.ok (.ins C []) h
section
variable{w:Wo}{o e:Expr}{fo:Ex}{fs:Ax}{m:Str}
structure ZM(X:Cx)(m:Str)(res:Nat->Option (Y2->Z.Out)):Prop where
 ex:∀C fn,res C=some fn->∃Ca k f fd ps,X.T C=some Ca/\Cls X.K Ca/\bE X.K Ca m f/\YT X.toSC k f fd ps fn/\fK k X.A/\jM X.K fd ps []
def mi{pl:Sem Bool}(c:ZM X m res)(ho:RE X o fo)(ha:RA X (e::es) fs)(hc:X.calm=true:=by rfl)
  (Zc:sE0 X e es:=by rfl) (Yc:sP0 X es pos:=by rfl)
  (ht:eval (.Call (.Attribute o m apos) (e::es) [] pos) X.env=(do
   let ov <- eval o X.env
   standAt apos.atName
   let(f,first) <- akP [ov] (akJ ov m pl)
   callWith pos f first (akd pos (ajF (e::es) X.env)) (akS pos (akv [] X.env))):=by rfl):
  RE X (.Call (.Attribute o m apos) (e::es) [] pos) (kn res fo fs):=⟨fun I p=>by
 refine ahP (pl:=pl) (ho.r I (p.bind fun w1 h1 q u y r p=>?_)) ht
 split at p
 .split at p
  .obtain⟨Ca,k,f,fd,ps,t,cl,hm,F,hr,hb⟩:=c.ex _ _ ‹_›
   cases id r with
   |ins c' e d n=>
    cases t.symm.trans c'
    have I1:=I.on y;exact sF I1.UJ (fs:=[]) ⟨y.2.at e,_,y.2.at d,n⟩ cl hm rfl (agy (first:=[.ref _]) (h₀:=X.base) I.ok.Tz hm.kp (ha.r pos I1 (p.bind fun w2 h2 qs us y2 r2 p=>⟨(I1.on y2).UJ,F.call hr hc hb (I1.on y2) (.cons (y2.1.rep r) r2) p⟩)) Zc Yc)
  .exact p.elim
 .exact p.elim⟩
def Cq{g:Heap}{a b:Obj}(ha:a.isFreed=ajt)(hb:b.isFreed=ajt):((g.push a).push b).get? g.objs.size=some a/\((g.push a).push b).get? (g.objs.size+1)=some b:=⟨aem _ (aey _ ha),by
 have:=aey (g.push a) hb
 rwa [agl]at this⟩
structure ZN(X:Cx)(C:Nat)(x:Str):Prop where
 ex:∃Ca,X.T C=some Ca/\ak1 X.K Ca=true/\ajJ X.K (.ref Ca) "__init__"=some (some (.builtin "object.__init__"))/\aj1 X.K (.ref Ca)=true/\X.mg x=some (.ref Ca)
def lH{C:Nat}(c:ZN X C x)(hg:Gl X x)(V6:nD0 x:=by decide):RE X (.Call (.Name x p0) [] [] pos) (lZ C):=⟨fun{w ρ h Q E} I p=>by
 obtain⟨Ca,t,hm,hi,hk,hx⟩:=c.ex;refine afd (I.ZG hg hx (aiq I.UJ hk ?_) V6);obtain⟨e1,e2⟩:=Cq (g:=w.s.heap) (a:=ajX) (b:=aj3 Ca w.s.heap.objs.size) rfl rfl;have Y:=W.makes_of (M:=ajC X.prog X.w) I.UJ hm;have t1:akU (ajC X.prog X.w) ((w.s.heap.push ajX).push (aj3 Ca w.s.heap.objs.size)) (akA (.ref (w.s.heap.objs.size+1))) (.ref Ca):=(ajc e2).andThen .now;have t2:akU (ajC X.prog X.w) ((w.s.heap.push ajX).push (aj3 Ca w.s.heap.objs.size)) (aks (.ref (w.s.heap.objs.size+1)) (.type "object")) true:=t1.andThen (Y.top.keeps fun b o e=>aem _ (aem _ e));refine agi (W.make_core Y (ah3 I.UJ hi) (fun self=>W.Looks.of_pure (W.oi_bind self)) (.inr ⟨rfl,rfl⟩) ?_);refine agj W.oi_plain W.entry_oi (@W.check_slot (ajC X.prog X.w) _ _ _ "object.__init__" "object" "__init__" (.ref (w.s.heap.objs.size+1)) [] [] _ W.oi_kind W.oi_split t2 (W.oi_args (.ref (w.s.heap.objs.size+1))) ?_);simp only[aep,W.oi_run];refine aeu ⟨rfl,?_⟩;have y1:=Nw.lay (X:=X) (a:=w.s.heap.objs.size) (s':={ w.s with heap:=w.s.heap.push ajX }) I.toHR (bG _) (fun _ _ e=>aem _ e) (aey _ rfl);have y2:=Nw.lay (X:=X) (s':={ w.s with heap:=(w.s.heap.push ajX).push (aj3 Ca w.s.heap.objs.size) }) y1.2 (bG _) (fun _ _ e=>aem _ e) (aey _ rfl);have e:(w.s.heap.push ajX).objs.size=w.s.heap.objs.size+1:=agl _ _
 refine p.2 _ _ (y1.trans y2) (.ins t (dx:=w.s.heap.objs.size) ?_ (od:=ajX) ?_ ⟨#[],0,rfl,fun e he=>absurd he (by simp),by simp[UniqKeys],fun n=>by simp[nsFind,findBy]⟩)
 .rw[<- e];exact bT
 .exact y2.1.fz _ _ bT⟩
def qt(hg:Gl X x)(hm:X.mg x=some u)(r:∀F m,(∀b o,X.base.get? b=some o->F b=some o)->bx X.toSC F m p u)(hd:nD0 x:=by decide):RE X (.Name x pos) (cK p):=⟨fun{w ρ h Q E} I q=>I.ZG hg hm (q.here I.toHR (r w.F w.m I.bs)) hd⟩
def JJ{n:String}(hg:Gl X x)(hm:X.mg x=none)(hv:ajV x=some (.type n))(hn:x≠"__name__")(hd:(x==("__debug__":Str))=ajt):RE X (.Name x pos) (cK (.ty n)):=⟨fun I p=>I.blt hg hm hv (p.here I.toHR (.ty n)) hn hd⟩
end
section
open PySem.W PySem.Builtin PySem.Builtin.ObjectAttr PySem.Builtin.Getset_descriptor
structure wO(K:Frag)(C:Addr):Prop where
 ga:findIn K (.ref C) "__getattribute__"=some (some (.builtin "BaseException.__getattribute__"))
 gt:findIn K (.ref C) "__getattr__"=some none
 mb:mroIn K C (.type "BaseException")=some true
section
variable{w:World}{K:Frag}{x:Addr}{tk:Tok}{s:Shared}
theorem zV{r:Found}{Q:Fin->Shared->Prop}(L0:Looks (ajC prog w) s.heap (akA (.ref x)) (.ref C))(L1:Looks (ajC prog w) s.heap (find (.ref x) (.ref C) name) r)
  (h:match r with
   |.value v=>Q (.done (.ret v)) s
   |.bind g a=>ajD (ajC prog w) A (bindTo g a (.ref x) (.ref C)) Q E s
   |.missing=>False):ajD (ajC prog w) A (Builtin.«object.__getattribute__» ⟨[.ref x,.str name tk],[]⟩) Q E s:=by
 obtain⟨hh,g,d,t,os⟩:=s;refine aeg (aeu (aeg (aeu (aeg (L0.at (aeg (L1.at ?_)))))))
 cases r with
 |value v=>exact aeu h
 |bind g a=>exact h
 |missing=>exact h.elim
theorem LQ{fill expr:Bool}(c:wO K C)(Tz:K.In s.heap)(L0:Looks (ajC prog w) s.heap (akA (.ref x)) (.ref C))
  (h:aj4 (ajC prog w) A (.call (.builtin "BaseException.__getattribute__") ⟨[.ref x,.str name tk],[]⟩) (fun r s'=>match r with|.ok (.ret v)=>handedIn v=true/\Q v s'|_=>False) s):
  ajD (ajC prog w) A (getAttrBy (.ref x) (.str name tk) fill expr) Q E s:=by
 obtain⟨hh,g,d,t,os⟩:=s;have L1:=looks_findIn (M:=ajC prog w) Tz c.ga;have Lb:=looks_findIn (M:=ajC prog w) Tz c.gt
 have no:(onTheHeap (Value.ref C)&&Value.builtin "BaseException.__getattribute__"==Value.builtin "object.__getattribute__")=ajt:=by rw[show(Value.builtin "BaseException.__getattribute__"==Value.builtin "object.__getattribute__")=ajt by decide+kernel];rfl
 have no2:(expr&&onTheHeap (Value.builtin "BaseException.__getattribute__"))=ajt:=by cases expr<;>rfl
 unfold getAttrBy;refine agd (aeg (L0.at (aeg (L1.at ?_))));dsimp only;rw[no,ajB ⋯];unfold getAttrByItsOwn callGetattribute boundAndCalled;rw[no2,ajB ⋯];refine aeg (Lb.at (aeg (agO (agd ?_))));rw[ahx.ga.bind];refine aeg (aeu (agi (ag2 h fun r s' z=>?_)))
 cases r with
 |error e=>exact z.elim
 |ok f=>cases f with
  |ret v=>exact handed_on z.1 z.2
  |next=>exact z.elim
  |brk=>exact z.elim
  |cont=>exact z.elim
def CG(c:wO K C)(Tz:K.In s.heap)(L0:Looks (ajC prog w) s.heap (akA (.ref x)) (.ref C))
  (h:ajD (ajC prog w) A.in1 (Builtin.«object.__getattribute__» ⟨[.ref x,.str name tk],[]⟩) (fun fin s'=>match fin with|.done f=>R (.ok f) s'|.again c'=>c'.quiet=true/\aj4 (ajC prog w) A c' R s') (fun e s'=>R (.error e) s') s):
  aj4 (ajC prog w) A (.call (.builtin "BaseException.__getattribute__") ⟨[.ref x,.str name tk],[]⟩) R s:=by
 have k1:builtinKind "BaseException.__getattribute__"=some .slot:=by decide+kernel
 have k2:splitId "BaseException.__getattribute__"=some ("BaseException","__getattribute__"):=by decide+kernel
 have isB:Looks (ajC prog w) s.heap (aks (.ref x) (.type "BaseException")) true:=L0.andThen (looks_mroIn Tz c.mb);refine agj ahx.ga.plain PySem.F.entry_bexc_ga (@check_slot (ajC prog w) _ _ s "BaseException.__getattribute__" "BaseException" "__getattribute__" (.ref x) [.str name tk] [] _ k1 k2 isB (PySem.F.args_bexc_ga (.ref x) (.str name tk)) ?_);exact h
def FQ{expr:Bool}(c:wO K C)(Tz:K.In s.heap)(L0:Looks (ajC prog w) s.heap (akA (.ref x)) (.ref C))(L1:Looks (ajC prog w) s.heap (find (.ref x) (.ref C) name) (.value v))(hv:handedIn v=true)(h:Q v { s with toks:=s.toks+1 }):
  ajD (ajC prog w) A (getAttr (.ref x) name expr) Q E s:=
 aeg (wpAny_mkText (LQ (s:={ s with toks:=s.toks+1 }) c Tz L0 (CG (s:={ s with toks:=s.toks+1 }) c Tz L0 (zV (s:={ s with toks:=s.toks+1 }) L0 L1 ⟨hv,h⟩))))
def Jc{tp:Value}(Tz:K.In s.heap)(L0:Looks (ajC prog w) s.heap (akA (.ref x)) (.ref C))(mo:mroIn K C (.type "object")=some true)(fin:R (.ok (.ret (.ref C))) s):
  aj4 (ajC prog w) A (.call (.builtin "getset_descriptor.__get__") ⟨[.builtin "object.__class__",.ref x,tp],[]⟩) R s:=by
 obtain⟨hh,g,d,t,os⟩:=s;have L1:=looks_mroIn (M:=ajC prog w) Tz mo;refine agj (id KF.slot_gs.plain) (id KF.entry_gs) (KF.slot_gs.check _ _ _ _ _ _ _ _ (id KF.type_class) (id (KF.args_gs _ _ _)) ?_);show ajD (ajC prog w) A.in1 (descrGet _) _ _ _;unfold descrGet;rw[dga_obj];refine aeg (aeu ?_);simp only[descrGetter,descrCheckInstance,descrNameAndClass,aks,KF.owner_class]
 (repeat lk)
 refine⟨ahb _ (id (by decide+kernel)),codeAny_builtin (id KF.entry_class) ?_⟩;simp only[Builtin.«object.__class__»,shownTypeOf]
 (repeat lk)
 exact fin
def FS{Q:Option Value->Shared->Prop}(c:wO K C)(Tz:K.In s.heap)(L0:Looks (ajC prog w) s.heap (akA (.ref x)) (.ref C))
  (fc:findIn K (.ref C) "__class__"=some (some (.builtin "object.__class__"))) (fg:specialIn K (.builtin "object.__class__") "__get__"=some (some (.builtin "getset_descriptor.__get__"))) (ft:takesIn K (.builtin "object.__class__")=some true)
  (mo:mroIn K C (.type "object")=some true) (h:Q (some (.ref C)) { s with toks:=s.toks+1 }):
  ajD (ajC prog w) A (getAttr? (.ref x) "__class__") Q E s:=by
 have Lf:Looks (ajC prog w) s.heap (find (.ref x) (.ref C) "__class__") (.bind (.builtin "getset_descriptor.__get__") (.builtin "object.__class__")):=by refine(looks_findIn Tz fc).andThen ((show Looks (ajC prog w) s.heap (getOf (some (.builtin "object.__class__"))) _ from looks_specialIn Tz fg).andThen ?_);exact(show Looks (ajC prog w) s.heap (dataDescriptor? (some (.builtin "object.__class__")) (some (.builtin "getset_descriptor.__get__"))) (some (.builtin "getset_descriptor.__get__",.builtin "object.__class__"))from(looks_takesIn Tz ft).andThen .now).andThen (Looks.tag .now)
 refine aeg (wpAny_mkText (aeg (agO (LQ (s:={ s with toks:=s.toks+1 }) c Tz L0 (CG (s:={ s with toks:=s.toks+1 }) c Tz L0 (zV (s:={ s with toks:=s.toks+1 }) L0 Lf ?_))))));show ajD _ _ (akP [Value.builtin "object.__class__"] (call (.builtin "getset_descriptor.__get__") [.builtin "object.__class__",.ref x,.ref C]) >>= ret) _ _ _;exact aeg (agd (agi (Jc (s:={ s with toks:=s.toks+1 }) Tz L0 mo (aeu ⟨rfl,aeu h⟩))))
end
noncomputable def yB:Z3->Bool
 |.ref _::r=>yB r
 |l=>l==[.type "ValueError",.type "Exception",.type "BaseException",.type "object"]||l==[.type "Exception",.type "BaseException",.type "object"]
def ks:∀{l:Z3},yB l=true->(l= [.type "ValueError",.type "Exception",.type "BaseException",.type "object"]\/l= [.type "Exception",.type "BaseException",.type "object"])\/∃c r,l=.ref c::r/\yB r=true:=by
 intro l e;unfold yB at e
 split at e
 .exact .inr ⟨_,_,rfl,e⟩
 .rw[afO]at e;exact .inl (e.imp ajS.mp ajS.mp)
theorem wY(self:Value):∀(l:Z3),yB l=true->refuseLoop self "__setattr__" l=pure ():=by
 intro l
 induction l with
 |nil=>intro e;rcases ks e with(z|z)|⟨_,_,z,_⟩<;>cases z
 |cons x r ih=>
  intro e;rcases ks e with(z|z)|⟨c,r',z,e'⟩
  .rw[z];exact PySem.F.store_ValueError.passes self
  .rw[z];exact PySem.F.store_Exception.passes self
  .cases z;rw[refuseLoop_ref];exact ih e'
theorem wZ:∀(l:Z3),yB l=true->l.contains (.type "object")=true:=by
 intro l
 induction l with
 |nil=>intro e;rcases ks e with(z|z)|⟨_,_,z,_⟩<;>cases z
 |cons x r ih=>
  intro e;rcases ks e with(z|z)|⟨c,r',z,e'⟩
  .rw[z];decide+kernel
  .rw[z];decide+kernel
  .cases z;rw[aha,ih e',ahN]
def Jh(K:Frag)(C:Addr):Bool:=(clsIn K C).any fun cd=>cd.hasDict&&yB cd.mro
noncomputable def qQ(K:Frag)(C:Addr)(Xe:Z3)(Ss:String):Bool:=match K.lookup C with
 |some ⟨.type "type",_,.cls cd,sl⟩=>(match cd.mro,sl.toList with
  |.ref C'::bm,[_,_,_,_,some (.builtin n),_]=>C'==C&&(n==Ss&&(!cd.hasDel&&tailIn K Xe bm))
  |_,_=>ajt)
 |_=>ajt
inductive Vj0(h:Heap)(C:Addr)(Xe:Z3)(Ss:String):Prop where
 |mk (bm:Z3) (N:Addr) (nm q:Str) (bs:Z3) (W5:Bool) (sn:Zl) (sub:Z3) (ab:Bool) (Y6:Option Bool) (dd:Option Addr) (k0 k1 k2 k3 k5:Option Value) (_:h.get? C=some (akx nm q C N bs bm W5 sn sub ab Y6 dd k0 k1 k2 k3 k5 Ss)) (_:OwnTail h Xe bm)
def wU{K:Frag}{h:Heap}{Xe:Z3}{Ss:String}(Tz:K.In h)(ok:qQ K C Xe Ss=true):
  Vj0 h C Xe Ss:=by
 unfold qQ at ok
 split at ok
 case h_2=>exact absurd ok ⋯
 case h_1 dict acW sls lk=>
  split at ok
  case h_2=>exact absurd ok ⋯
  case h_1 C2 tl f0 f1 f2 f3 nid f5 em es=>
   rw[aee,aee,aee]at ok;obtain⟨z1,z2,z3,z4⟩:=ok;rw[agD]at z3;have es':sls= #[f0,f1,f2,f3,some (.builtin nid),f5]:=ahC.mp es
   cases ajS.mp z1
   cases ajS.mp z2
   rcases acW with⟨c1,c2,c3,c4,c5,c6,c7,c8,c9,c10,c11⟩
   change c3=_ at em;change c11=ajt at z3;subst em z3 es';exact⟨tl,c4,c1,c5,c2,c6,c7,c8,c9,c10,dict,f0,f1,f2,f3,f5,Tz _ _ lk,tail_of_in Tz z4⟩
section
variable{w:World}{h:Heap}{g:Array GenState}{d:Drawn}{t:Nat}{os:OsState}
variable{nm q:Str}{N fI:Addr}{bs bm Xe bmN:Z3}{W5:Bool}{sn:Zl}{sub:Z3}{ab:Bool}{Y6:Option Bool}{dd:Option Addr}{k0 k1 k2 k3 k5:Option Value}{B Bn Ss nid W4 inN:String}{oI:Obj}
noncomputable def jV(h:Heap)(C:Addr)(us:Z3):Heap:=
 (h.push { cls:=.type "tuple",data:=.seq us.toArray }).push { cls:=.ref C,data:=.fields #[.ref h.objs.size,.none,.none,.none,.bool ajt,.none] }
def jz{b:Addr}(e:h.get? b=some o):(jV h C us).get? b=some o:=aem _ (aem _ e)
def oF:(jV h C us).get? (h.objs.size+1)=some { cls:=.ref C,data:=.fields #[.ref h.objs.size,.none,.none,.none,.bool ajt,.none] }:=by unfold jV;heap_get
def FR{Q:Fin->Shared->Prop}(Fn:ExcBaseFacts Bn Ss inN bmN)(hBn:Xe.contains (.type Bn)=true)(FB:ExcBaseFacts B nid W4 Xe)(T:OwnTail h Xe bm)
  (hc:h.get? C=some (akx nm q C N bs bm W5 sn sub ab Y6 dd k0 k1 k2 k3 k5 Ss)) (li:∀h',(∀b o,h.get? b=some o->h'.get? b=some o)->Looks (ajC prog w) h' (aj6 (.ref C) "__init__") (some (.ref fI)))
  (fo:h.get? fI=some oI) (fc:oI.cls=.type "function") (len:us.length<=ajx)
  (go:ajD (ajC prog w) A (call (.ref fI) (.ref (h.objs.size+1)::us)) (fun r s'=>r=.none/\Q (.done (.ret (.ref (h.objs.size+1)))) s') E ⟨jV h C us,g,d,t,os⟩):
  ajD (ajC prog w) A (Builtin.«type.__call__» ⟨.ref C::us,[]⟩) Q E ⟨h,g,d,t,os⟩:=by
 repeat (first|with_reducible refine wpAny_madeBy_exc hc ?_|with_reducible refine agg hc ?_|wp_step)
 refine codeAny_call_builtin_code (ahb _ Fn.quiet) (wpAny_check_new_subU Fn hBn T hc (codeAny_exc_new_subU Fn hBn FB T hc ?_ len));change ajD _ _ _ _ _ _;have aaT:(Value.ref C::bm).contains (.ref C)=true:=by rw[aha];simp
 have c1:(jV h C us).get? C=some (akx nm q C N bs bm W5 sn sub ab Y6 dd k0 k1 k2 k3 k5 Ss):=jz hc;have e1:=oF (h:=h) (C:=C) (us:=us);have L:=li (jV h C us) fun b o e=>jz e;have f1:(⟨jV h C us,g,d,t,os⟩:Shared).TypeIs (.ref fI) "function":=⟨_,jz fo,fc⟩
 change ajD _ _ _ _ _ ⟨jV h C us,g,d,t,os⟩;unfold aks
 repeat (first|(with_reducible refine aib c1 ?_;rw[aaT])|with_reducible refine agg e1 ?_|wp_step)
 change ajD _ _ (aj6 (.ref C) _) _ _ _;refine L.at ?_;refine agd (aeg ?_);unfold bindSpecial;refine aeg (ahD f1 ?_);rw[ajz ⋯];refine aeu (aeg (afi go (fun r s' z=>?_) fun _ _ z=>z));obtain⟨rfl,z⟩:=z
 wp_walk
 exact z
def Jb(Fn:ExcBaseFacts Bn Ss inN bmN)(hBn:Xe.contains (.type Bn)=true)(FB:ExcBaseFacts B nid W4 Xe)(T:OwnTail h Xe bm)
  (hc:h.get? C=some (akx nm q C N bs bm W5 sn sub ab Y6 dd k0 k1 k2 k3 k5 Ss)) (li:∀h',(∀b o,h.get? b=some o->h'.get? b=some o)->Looks (ajC prog w) h' (aj6 (.ref C) "__init__") (some (.ref fI)))
  (fo:h.get? fI=some oI) (fc:oI.cls=.type "function") (len:us.length<=ajx)
  (go:ajD (ajC prog w) (A.under (.builtin "type.__call__" ⟨.ref C::us,[]⟩)) (call (.ref fI) (.ref (h.objs.size+1)::us)) (fun r s'=>r=.none/\Q (.ref (h.objs.size+1)) s') E ⟨jV h C us,g,d,t,os⟩):
  ajD (ajC prog w) A (call (.ref C) us) Q E ⟨h,g,d,t,os⟩:=by
 have g1:=tc_lookup;have g2:=tc_bind (.ref C);have ty:(⟨h,g,d,t,os⟩:Shared).TypeIs (.ref C) "type":=⟨_,hc,rfl⟩
 refine agi (codeAny_of_tree ?_);change ajD _ _ (callAny (.ref C) _) _ _ _
 repeat (any_goals (first|with_reducible refine agg hc ?_|assumption|wp_step))
 refine⟨rfl,codeAny_call_builtin_at (ahb _ (by decide+kernel)) entry_typeCall (wpAny_check_type_call_sub hc (FR Fn hBn FB T hc li fo fc len go))⟩
end
noncomputable def lc(h:Heap)(x:Addr):Heap:=(h.push { cls:=.type "dict",data:=.dict #[] }).update x fun o=> { cls:=o.cls,dict:=some h.objs.size,data:=o.data,slots:=o.slots }
section
variable{w:World}{K:Frag}{x:Addr}{ox:Obj}{tk:Tok}{s:Shared}
def CF{h:Heap}(hx:x<h.objs.size):(lc h x).get? h.objs.size=some { cls:=.type "dict",data:=.dict #[] }:=by unfold lc;rw[agp _ _ _ _ (aiJ hx)];exact Heap.get?_push_at rfl rfl
def LP(Tz:K.In s.heap)(I:W.InstAt s.heap x ox C none)(hdn:ox.dict=none)(vc:Jh K C=true)(ha:findIn K (.ref C) name=some none)
  (go:∀h',h'.Ns1 s.heap.objs.size (fun y=>if y=name then some v else none)->aj9 s.heap.objs.size (lc s.heap x) h'->R (.ok (.ret .none)) { s with heap:=h',toks:=s.toks+1 }):
  aj4 (ajC prog w) A (.call (.builtin "object.__setattr__") ⟨[.ref x,.str name tk,v],[]⟩) R s:=by
 obtain⟨cd,hc,hv⟩:=any_some vc;rw[aee]at hv
 have ne:cd.mro.isEmpty=ajt:=by
  cases z:cd.mro with
  |nil=>rw[z]at hv;exact absurd (wZ _ hv.2) ⋯
  |cons _ _=>rfl
 have isO:Looks (ajC prog w) s.heap (aks (.ref x) (.type "object")) true:=I.type.andThen (looks_mroIn Tz (by unfold mroIn;rw[hc,Option.bind_some,ajB (by rw[ne];decide),wZ _ hv.2]));have hm:Looks (ajC prog w) s.heap (mroOf (.ref C)) cd.mro:=(looks_clsIn Tz hc).andThen .now;refine agj afX.slot.plain afX.entry (@check_slot (ajC prog w) _ _ s "object.__setattr__" "object" "__setattr__" (.ref x) [.str name tk,v] [] _ afX.kind afX.split isO (afX.args (.ref x) (.str name tk) v) ?_);rw[osa_eq,refuse_eq];refine aeg (aeg (I.type.here (aeg (hm.here ?_))));rw[wY _ _ hv.2];refine aeu (aeg (I.type.here (aeg ((looks_findIn Tz ha).here (aeg (aeu (a:=none) ?_))))));obtain⟨hx,hcl,hn, -⟩:=I;obtain⟨oc,odi,oda,Zm⟩:=ox;dsimp only at hcl hdn;subst hcl hdn;refine aeg (aeu (aeg (aeg (ah1 hx (aeg ((looks_clsIn Tz hc).here ?_))))));rw[hv.1,ajB ⋯];dsimp only;rw[ajB (by simp[typeHasDict])]
 split
 .cases hn
 .have x1:(s.heap.push { cls:=.type "dict",data:=.dict #[] }).get? x=some { cls:=.ref C,data:=oda,slots:=Zm }:=aem _ hx;refine aeg (wpAny_alloc' (aeg (wpAny_update' x1 (aeu ?_))));show ajD _ _ (storeInDict s.heap.objs.size (.str name tk) name v) _ _ { s with heap:=lc s.heap x };have e0:(lc s.heap x).Ns s.heap.objs.size (fun _=>none):=⟨_, #[],_,CF (aeT hx),rfl,fun e he=>absurd he (by simp),fun _=>rfl⟩
  unfold storeInDict newKeyGuard;refine aeg (aeu (aeg (wpAny_nsSet1 (s:={ s with heap:=lc s.heap x }) (Heap.Ns1.of_empty e0) fun h' n1 sb=>?_)));obtain⟨oD,esD,epD,hoD,hdD,hcD⟩:=n1.count (aiH name v PySem.Within.nil);refine aeg (wpAny_lookBehind hoD (by rw[hdD];exact pastItsLine_dict (aeI hcD (by rw[afW,aev];decide))) ?_);exact aeu (go h' n1 sb)
end
structure XIn(K:Frag)(C fI:Addr)(f:Str):Prop where
 lies:qQ K C [.type "ValueError",.type "Exception",.type "BaseException",.type "object"] "ValueError.__new__"=true\/qQ K C [.type "Exception",.type "BaseException",.type "object"] "Exception.__new__"=true
 init:findIn K (.ref C) "__init__"=some (some (.ref fI))
 fn:isFn K (.ref fI)=true
 kp:keepIn K (.ref C)=true
 v:Jh K C=true
 sa:findIn K (.ref C) "__setattr__"=some (some (.builtin "object.__setattr__"))
 no:findIn K (.ref C) f=some none
 hd:hasDictIn K C=true
 x:wO K C
inductive Xp0(Ee:Yf)(v:Value)(s1:Shared):Prop where
 |mk (e C N t:Addr) (dx:Option Addr) (sl:Array (Option Value)) (nm q:Str) (bs bm:Z3) (W5:Bool) (sn:Zl) (sub:Z3) (ab:Bool) (Y6:Option Bool) (dd:Option Addr) (k0 k1 k2 k3 k5:Option Value) (nid:String) (_:v=.ref e) (_:s1.heap.get? C=some (akx nm q C N bs bm W5 sn sub ab Y6 dd k0 k1 k2 k3 k5 nid)) (_:bm.contains (.type "BaseException")=true) (_:s1.heap.get? e=some ⟨.ref C,dx,.fields #[.ref t,.none,.none,.none,.bool ajt,.none],sl⟩) (_:Ee (.ref e) s1)
def yQ{M:Model}{Ee:Yf}{env:Env}{x:Sem Value}{Q:Flow->Shared->Prop}{s:Shared}(hh:A.handled=none)
  (h:ajD M A x (Xp0 Ee) Ee s):
  ajD M A (raiseStmt env (some x) none) Q Ee s:=by
 unfold raiseStmt;refine aeg (afi h (fun v s1 z=>?_) fun _ _ z=>z);obtain⟨e,C,N,t,dx,sl,nm,q,bs,bm,W5,sn,sub,ab,Y6,dd,k0,k1,k2,k3,k5,nid,rfl,hC,hB,he,hE⟩:=z;have both:(Value.ref C::bm).contains (.type "BaseException")=true:=by rw[aha,hB,ahN]
 obtain⟨hp,g,d,tk,os⟩:=s1
 repeat (first|with_reducible refine agg he ?_|with_reducible refine agg hC ?_|(with_reducible refine aib hC ?_;rw[both])|wp_step)
 exact wpAny_raiseNew_none hh hE
end
noncomputable def vN(C:Nat):Res Y2->SR
 |.ok [v] h1=>.exc (.N6 C v) h1
 |.exc e h1=>.exc e h1
 |_=>.bad
def cQ(z:Bool)(C:Nat)(as:Ax):Sx:=if z=true then fun ρ h=>vN C (as ρ h)else fun _ _=>.bad
noncomputable def pAt(ok:Nat->Bool)(p:PV)(h:Y3):Res PV:=match p with
 |.N6 C v=>if ok C=true then .ok v h else .bad
 |_=>.bad
section
variable{w w3:Wo}
def Cr{vs:Array Value}{a0:Value}(ok:X.Ok)(W:Wd X w3 h)(y:W_ X w w3)(tr:X.tr=true)(nw:w.s.heap.get? a=none)(ha:Has w3 a o)(hd:o.data=.fields vs)(h0:vs[0]? =some a0)(h1:vs[1]? =some .none):Fly X w w3 a o.cls o.dict:=by
 have na:a∉X.fs:=fun z=>by obtain⟨o',q,d⟩:=W.fr a z;have q:=q.1;rw[ha.1]at q;cases q;exact d vs hd
 refine⟨⟨a0,PySem.W.hideAll w3.s.heap (a::X.fs),.inr ⟨tr,fun b o q=>PySem.W.of_hideAll _ q,ah4 _ (by simp),uH (fun env he=>?_) fun b hb=>let⟨o,q,d⟩:=W.fr b hb;⟨o,q.1,d⟩,o,vs,ha.1,rfl,hd,h0,h1⟩,fun b o' e n=>?_,fun b z=>?_⟩,o,ha.1,rfl⟩
 .obtain⟨k,L,e,_⟩:=ok.sf env he;exact⟨k,L,e,ah4 _ (aen _ (List.mem_filterMap.mpr ⟨env,he,e⟩))⟩
 .obtain⟨o2,q⟩:=y.dom b o' e;exact⟨o2,aie _ q (by simp only[aek,not_or];exact⟨fun z=>(by rw[z,nw]at e;cases e),n⟩)⟩
 .have nb:b∉a::X.fs:=by simp only[aek,not_or];exact⟨fun q=>z (q▸ha.2),fun q=>let⟨_,r,_⟩:=W.fr b q;z r.2⟩
  have go:(∃o,w3.s.heap.get? b=some o)->∃o',(PySem.W.hideAll w3.s.heap (a::X.fs)).get? b=some o':=(by rintro ⟨o,q⟩;exact ⟨o,aie _ q nb⟩)
  by_cases z1:b∈w3.m
  .exact go (W.toHR.there z1)
  .cases z2:w3.F b with
   |some o=>exact go ⟨o,W.sub b o z2⟩
   |none=>cases z3:w3.O b with
    |some x=>exact go (W.own b x z3).1
    |none=>exact absurd ⟨z1,z2,z3⟩ z
variable{C:Nat}{np W7:Pos}{e0:Expr}{fs:Ax}
structure FnX(G:SC)(fI:Addr)(fd:FuncData)(ps:Zl)(f:Str):Prop where
 len:ps.length=2
 run:∀{X:Cx}{w:Wo}{h:Y3}{A:Around}{C:Nat}{Ca a:Addr}{o:Obj}{vs:Array Value}{v:PV}{u:Value}{args:Args}{Q:Yf}{E:Yf},X.toSC=G->fK 1 A->A.handled=none->A.frames=some X.stack->Wd X w h->X.Ok->G.T C=some Ca->XIn G.K Ca fI f->Has w a o->o.cls=.ref Ca->o.data=.fields vs->o.dict=none->bx G w.F w.m v u->akE w.s fd args (ps.zip [.ref a,u])->
  (∀h' t dx od,(∀b o,b≠a->w.s.heap.get? b=some o->h'.get? b=some o)->h'.get? a=some { o with dict:=some dx }->w.s.heap.get? dx=none->h'.get? dx=some od->ZQ od [(f,u)]->Q .none { w.s with heap:=h',toks:=t })->aj4 (ajC G.prog G.w) A (.call (.ref fI) args) (RC Q E) w.s
def HR.freeze(H:HR G w h)(ha:Has w a o):HR G ⟨jj w.F a o,w.O,w.m,w.s⟩ h:=by
 have nb:∀{b},¬ XH w b->b≠a:=fun n z=>n (z▸ha.2);refine⟨fun b x e=>?_,fun d b e=>let⟨q,z,y⟩:=H.own d b e;⟨q,z,dR (nb fun z=>by rw[z.2.2]at e;cases e) y⟩,H.len,H.nd,fun i po b e1 e2=>(H.obj i po b e1 e2).on (dQ ha.2.2.1) (fun _ e=>e) (fun _ _ e=>e) (fun _ _ e _=>e) (dR (nb fun z=>z.1 (aex e2)))⟩
 by_cases z:b=a
 .subst z;cases bT.symm.trans e;exact ha.1
 .exact H.sub b x ((mu z).symm.trans e)
def EN{N ps:Zl}{qual y':Str}{st:Stmt}{fI:Addr}{fd:FuncData}{p3 p4:Pos}(F:Fun G.K name qual st fI fd)(S:mD N ps (bf st))(hl:ps.length=2)(hx:N[0]? =some x)(hy:N[1]? =some y')(hb:iX st= [.Assign [.Attribute (.Name x p1) f p2] (.Name y' p3) p4])
  (hs:∀env,aj2 (.Name y' p3) (some (.Attribute (.Name x p1) f p2)) p4.line env=pure ajt:=by intro _;rfl) (hd:nD0 x:=by decide) (Yp:(x==("__classdict__":Str))=ajt:=by decide) (hd':(y'==("__debug__":Str))=ajt:=by decide) (acy:(y'==("__classdict__":Str))=ajt:=by decide):FnX G fI fd ps f where
 len:=hl
 run {X w h A C Ca a o vs v u args Q E} hG hr hn hf I ok t c ha hcl hda hdi r hbd q:=by
  subst hG
  have H':Wd X ⟨jj w.F a o,w.O,w.m,w.s⟩ h:=⟨I.toHR.freeze ha,I.ba,fun b o' e=>dQ ha.2.2.1 _ _ (I.bs b o' e),fun b hb=>by obtain⟨o',z,d⟩:=I.fr b hb;exact⟨o',⟨z.1,z.2.1,dR (fun y=>by subst y;have z:=z.1;rw[ha.1]at z;cases z;exact d vs hda) z.2.2.1,z.2.2.2⟩,d⟩⟩
  refine ph (c:=true) (w:=⟨jj w.F a o,w.O,w.m,w.s⟩) (qs:=[.exc C,v]) F S hr (fun _=>hn) hf H' ok hl.symm (.cons (.exc t bT hcl hda) (.cons (r.mono (dQ ha.2.2.1) (.inr fun _ _ e=>e)) .nil)) hbd fun cd s1 _ nw y J gr=>?_;obtain⟨h1,t1,rfl,kp,m,ns,lk⟩:=gr;have px:ps[0]? =some x/\ps[1]? =some y':=by rw[<- S.pre,hl];exact⟨by rw[afp ⋯];exact hx,by rw[afp ⋯];exact hy⟩
  rw[hb];refine agH (agE ((lk 1 _ _ px.2 rfl).nm ns J.ok ((lk 0 _ _ px.1 rfl).nm ns J.ok ?_ hd Yp) hd' acy) (hs _));have ho:h1.get? a=some o:=kp _ _ ha.1;have I0:W.InstAt h1 a o Ca none:=⟨ho,hcl,by unfold W.notCls;rw[hda],by rw[hdi];exact True.intro⟩
  refine W.set_plain J.UJ I0 c.sa (LP (s:={ w.s with heap:=h1,toks:=t1+1 }) J.UJ I0 hdi c.v c.no fun h' ns' sb=>afU ?_);obtain⟨od,es,ep,e1,e2,e3,e4,e5⟩:=ns';have ne:a≠h1.objs.size:=afH (aeT ho)
  have hk:∀b q,b≠a->h1.get? b=some q->h'.get? b=some q:=fun b q hb z=>by rw[sb.2 b (afH (aeT z))];unfold lc;rw[agp _ _ _ _ hb];exact aem _ z
  refine q h' _ h1.objs.size od (fun b q hb z=>hk b q hb (kp b q z)) ?_ ?_ e1 ⟨es,ep,e2,e3,e4,fun n=>?_⟩
  .rw[sb.2 a ne];unfold lc;refine afo _ (aem _ ho) ?_;have fr:=(aiz.mp ho).2;obtain⟨oc,od,odt,Zm⟩:=o
   cases odt<;>first|rfl|exact fr
  .cases z:w.s.heap.get? h1.objs.size with
   |none=>rfl
   |some o=>have:=kp _ _ z;rw[bG]at this;cases this
  .rw[e5 n]
   by_cases z:n=f
   .simp[z,ajR]
   .have:(n==f)=ajt:=by simpa using z
    simp[z,ajR,this]
structure ZI(X:Cx)(C:Nat)(x:Str):Prop where
 ex:∃Ca fI fd ps,X.T C=some Ca/\X.mg x=some (.ref Ca)/\FnX X.toSC fI fd ps (Zh C)/\XIn X.K Ca fI (Zh C)/\jM X.K fd ps []
def LM{Ca fI:Addr}{fd:FuncData}{ps:Zl}{v:PV}(t:X.T C=some Ca)(F:FnX X.toSC fI fd ps (Zh C))(c:XIn X.K Ca fI (Zh C))(hb:jM X.K fd ps [])(hr:fK 2 X.A)(hd:X.A.handled=none)(I:Inv X w ρ h)(r:bx X.toSC w.F w.m v u)
  (q:∀h' tk a dx od tt,Nw X w ⟨jj w.F dx od,w.O,w.m,{ w.s with heap:=h',toks:=tk }⟩ h->w.s.heap.get? a=none->dx≠a->h'.get? a=some ⟨.ref Ca,some dx,.fields #[.ref tt,.none,.none,.none,.bool ajt,.none], #[]⟩->ZQ od [(Zh C,u)]->Q (.ref a) { w.s with heap:=h',toks:=tk }):Wp X (call (.ref Ca) [u]) Q E w.s:=by
 obtain⟨Xe,Ss,Bn,inN,bmN,B,nid,W4,Fn,hBn,FB,lz⟩:∃Xe Ss Bn inN bmN B nid W4,ExcBaseFacts Bn Ss inN bmN/\Xe.contains (.type Bn)=true/\ExcBaseFacts B nid W4 Xe/\qQ X.K Ca Xe Ss=true:=by
  rcases c.lies with l|l
  .exact⟨_,_,_,_,_,_,_,_,ag7,by decide+kernel,ag7,l⟩
  .exact⟨_,_,_,_,_,_,_,_,ahf,by decide+kernel,ahf,l⟩
 obtain⟨bm,N,nm,q0,bs,W5,sn,sub,ab,Y6,dd,k0,k1,k2,k3,k5,hC,T⟩:=wU I.UJ lz;have L:∀h',(∀b o,w.s.heap.get? b=some o->h'.get? b=some o)->akU (ajC X.prog X.w) h' (aj6 (.ref Ca) "__init__") (some (.ref fI)):=fun h' k=>ah3 (I.UJ.keeps k) c.init
 obtain⟨oI,fo,fc⟩:∃oI,w.s.heap.get? fI=some oI/\oI.cls=.type "function":=by obtain⟨oI,h1,h2⟩:=ae2.mp (show(X.K.lookup fI).map (·.cls)=some (.type "function")from ajS.mp c.fn);exact⟨oI,I.UJ _ _ h1,h2⟩
 have kp:∀b o,w.s.heap.get? b=some o->(jV w.s.heap Ca [u]).get? b=some o:=fun b o e=>jz e;have n:=Nw.also (X:=X) (s':={ w.s with heap:=jV w.s.heap Ca [u] }) I.toHR kp;have I1:=I.on n
 have na:w.s.heap.get? (w.s.heap.objs.size+1)=none:=by
  cases q:w.s.heap.get? (w.s.heap.objs.size+1)with
  |none=>rfl
  |some o=>exact absurd (aeT q) (aiV (agQ _))
 refine Jb (h:=w.s.heap) (g:=w.s.gens) (d:=w.s.drawn) (t:=w.s.toks) (os:=w.s.os) Fn hBn FB T hC L fo fc (by show 1<=ajx;decide) ?_;have bd:=hb { w.s with heap:=jV w.s.heap Ca [u] } [.ref (w.s.heap.objs.size+1),u] I1.UJ (by rw[aep,F.len];rfl);rw[aep]at bd;refine agi (ag2 (F.run (w:={ w with s:={ w.s with heap:=jV w.s.heap Ca [u] } }) (args:=⟨[.ref (w.s.heap.objs.size+1),u],[]⟩) (Q:=fun v s=>v=.none/\Q (.ref (w.s.heap.objs.size+1)) s) (E:=fun _ _=>False) rfl (hr.make Ca [u] []) hd (by first|exact I.ok.frames|(simpa[akq,Code.envs,akD,pushEnvs]using I.ok.frames)) I1.toWd I1.ok t c ⟨oF,I.toHR.free na⟩ rfl rfl rfl r bd fun h' tk dx od k ha nd hdx ns=>⟨rfl,?_⟩) fun r s' hq=>?_)
 .have nd':w.s.heap.get? dx=none:=by
   cases z:w.s.heap.get? dx with
   |none=>rfl
   |some o=>rw[kp _ _ z]at nd;cases nd
  exact q h' tk _ dx od _ (Nw.lay I.toHR nd' (fun b o e=>k b o (fun z=>by rw[z,na]at e;cases e) (kp b o e)) hdx) na (fun z=>by rw[z,oF]at nd;cases nd) ha ns
 .cases r with
  |error e=>exact hq.elim
  |ok fl=>
   cases fl with
   |ret u=>exact hq
   |_=>exact ak6 hq
def BI{e:Expr}(c:ZI X C x)(hr:fK k X.A)(hg:Gl X x)(ha:RA X [e] fs)(hc:X.calm=true:=by rfl)(htr:X.tr=true:=by rfl)(V6:nD0 x:=by decide)(he:ajF [e] X.env= [(ajt,eval e X.env)]:=by rfl)(Yc:(akd W7 (ajF [] X.env)).any (·.1)=ajt:=by rfl):
  RS X (.Raise (some (.Call (.Name x np) [e] [] W7)) none pos) (cQ (ajW 2 k) C fs):=⟨fun{w ρ h Q E} I p=>by
 unfold cQ at p
 split at p
 .rename_i hz;obtain⟨Ca,fI,fd,ps,t,hm,F,c,hb⟩:=c.ex
  obtain⟨Xe,Ss,hty,lz⟩:∃(Xe:Z3)(Ss:String),Xe.contains (.type "BaseException")=true/\qQ X.K Ca Xe Ss=true:=by
   rcases c.lies with l|l
   .exact⟨_,_,by decide+kernel,l⟩
   .exact⟨_,_,by decide+kernel,l⟩
  obtain⟨bm,N,nm,q0,bs,W5,sn,sub,ab,Y6,dd,k0,k1,k2,k3,k5,hC,T⟩:=wU I.ok.Tz lz;rw[arm_exec_Raise];refine aeg (agN (yQ (I.ok.hd hc) (aeg (afi (Q:=Xp0 E) (afd (I.ZG hg hm (agy (h₀:=X.base) I.ok.Tz c.kp (ha.r W7 I ?_) he Yc) V6)) (fun v s1 z=>aeg (agN (aeu z))) fun _ _ z=>z))))
  have p:bL X w Q E (gT (fs ρ h) fun qs h1=>vN C (.ok qs h1)):=by
   have p:bL X w Q E (vN C (fs ρ h)):=p
   cases z:fs ρ h<;>rw[z]at p<;>exact p
  refine bL.e p I fun w2 h2 qs us y I2 r p=>⟨I2.UJ,?_⟩
  unfold vN at p
  split at p
  .rename_i z
   cases z
   cases r with
   |cons r t'=>
    cases t'
    refine LM t F c hb (hr.mono (afS hz)) (I.ok.hd hc) I2 r fun h' tk a dx od tt n na ne ea ns=>?_;have I3:=I2.on n;have ha:Has ⟨jj w2.F dx od,w2.O,w2.m,{ w2.s with heap:=h',toks:=tk }⟩ a ⟨.ref Ca,some dx,.fields #[.ref tt,.none,.none,.none,.bool ajt,.none], #[]⟩:=⟨ea,(I2.toHR.free na).1,dR (ag3 ne) (I2.toHR.free na).2.1,(I2.toHR.free na).2.2⟩
    exact⟨a,Ca,N,tt,_,_,nm,q0,bs,bm,W5,sn,sub,ab,Y6,dd,k0,k1,k2,k3,k5,_,rfl,I3.bk hC,T.hasType hty,ea,p.2 _ _ ρ n.s I3 ⟨a,_,_,rfl,Cr I3.ok I3.toWd n.s htr na ha rfl rfl rfl,Ca,dx,od,_,_,t,rfl,rfl,bT,ns,by simp[ajR],n.1.rep r⟩⟩
  .rename_i z;cases z
  .exact p.elim
 .exact p.elim⟩
end
noncomputable def KW:PV->Option (Nat×PV)
 |.cls C=>some (C,.exc C)
 |.N6 C v=>some (C,.N6 C v)
 |_=>none
def ua(cat:Nat->Bool)(g:Sx)(i:Nat)(gs:Sx):Sx:=fun ρ h=>match g ρ h with
 |.exc e h1=>match KW e with
  |some (C,p)=>if cat C=true then(match gs (ρ.set i (some p)) h1 with
   |.rt v h2=>.rt v h2
   |_=>.bad)else .bad
  |none=>.bad
 |r=>r
section
variable{w w3:Wo}{h1:Y3}
def Mr{o:Expr}{fo:Ex}{ok:Nat->Bool}(hx:∀C Ca,ok C=true->X.T C=some Ca->Zh C=f/\∃fI,XIn X.K Ca fI f)(ho:RE X o fo)(hb:akM o f X.env (eval o X.env)=eval o X.env:=by rfl):RE X (.Attribute o f apos) (c1 (pAt ok) fo):=⟨fun I p=>Attribute_any_ (ho.r I (p.bind fun w1 h1 q u y r p=>by
 unfold pAt at p
 split at p
 .split at p
  .cases r with
   |N6 c e oc d Z1 e2 n l r=>
    obtain⟨xe,fI,xi⟩:=hx _ _ ‹_› c;rw[xe]at l;have I1:=I.on y;have J:W.InstAt w1.s.heap _ _ _ (some _):=⟨y.2.at e,oc,by unfold W.notCls;rw[d],by rw[Z1];exact y.2.at e2⟩
    refine FQ xi.x I1.UJ J.type (W.looks_find I1.UJ J (W.findObj_own xi.hd xi.no rfl (by rw[ut n,l]))) (EJ r) (p.now y.2 r)
  .exact p.elim
 .exact p.elim)) (by rw[aiu,hb])⟩
abbrev Cx.tried(X:Cx):Cx:={ X with tr:=ajt,Ep:=fun _=>True }
abbrev Cx.suite(X:Cx)(a:Addr):Cx:={ X with A:=X.A.mark (some (.ref a)),calm:=ajt,tr:=ajt,Ep:=fun _=>True }
theorem Inv.tried(I:Inv X w ρ h):Inv X.tried w ρ h:=⟨⟨I.toHR,I.ba,I.bs,I.fr⟩,⟨I.ok.Tz,I.ok.gl,I.ok.bl,I.ok.nl,I.ok.kind,I.ok.glob,I.ok.blt,I.ok.inj,I.ok.has,I.ok.hd,I.ok.frames,I.ok.nd,I.ok.sf⟩,I.loc,I.Ye,I.ln⟩
theorem Inv.suite(I:Inv X w ρ h):Inv (X.suite a) w ρ h:=⟨⟨I.toHR,I.ba,I.bs,I.fr⟩,⟨I.ok.Tz,I.ok.gl,I.ok.bl,I.ok.nl,I.ok.kind,I.ok.glob,I.ok.blt,I.ok.inj,I.ok.has,fun z=>(nomatch z),I.ok.frames,I.ok.nd,I.ok.sf⟩,I.loc,I.Ye,I.ln⟩
def Inv.Zi(ok:X.Ok)(I:Inv (X.suite a) w ρ h):Inv X w ρ h:=⟨⟨I.toHR,I.ba,I.bs,I.fr⟩,ok,I.loc,I.Ye,I.ln⟩
def Inv.lost{h9:Heap}{m9:Str->Option Value}{t:Nat}(I:Inv X w ρ h)(ns:h9.Ns X.L m9)(sb:aj9 X.L w.s.heap h9):W_ X w { w with s:={ w.s with heap:=h9,toks:=t } }/\Inv X { w with s:={ w.s with heap:=h9,toks:=t } } (aju X.N.length none) h:=by
 obtain⟨m,oL,n,hl,_⟩:=I.loc;obtain⟨o9,es,ep,e9,d9,_⟩:=id ns;have on:∀b o,b≠X.L->w.s.heap.get? b=some o->h9.get? b=some o:=fun b o z e=>(sb.2 b z).trans e;have h9L:Has { w with s:={ w.s with heap:=h9,toks:=t } } X.L o9:=⟨e9,hl.2⟩
 have st:W_ X w { w with s:={ w.s with heap:=h9,toks:=t } }:=⟨rfl,id,fun _ _ e=>e,fun _ _ e=>e,⟨[],by simp⟩,fun b o e=>by
  by_cases z:b=X.L
  .exact⟨o9,z▸e9⟩
  .exact⟨o,on b o z e⟩,fun b o q nw=>⟨o.slots,⟨on b o (fun z=>nw (.inl z)) q.1,q.2⟩,.inr rfl⟩⟩
 refine⟨st,I.toWd.on st (fun b hb _=>?_) (I.toHR.on fun b o e z=>on b o (fun y=>z (y▸hl.2)) e),I.ok,⟨m9,o9,ns,h9L,fun i p e=>?_⟩,fun y c e=>?_,by simp⟩
 .obtain⟨o,q,d⟩:=I.fr b hb
  by_cases z:b=X.L
  .exact⟨o9,z▸h9L,fun vs z=>by rw[d9]at z;cases z⟩
  .exact⟨o,⟨on b o z q.1,q.2⟩,d⟩
 .rw[afM]at e;split at e<;>cases e
 .obtain⟨v,o,⟨o',ho,hd⟩,q⟩:=I.Ye y c e
  have z:c≠X.L:=fun z=>by obtain⟨o2,es,ep,ho',hd',_⟩:=n;rw[z,ho']at ho;cases ho;rw[hd']at hd;cases hd
  exact⟨v,o,⟨o',on c o' z ho,hd⟩,on c o z q.1,q.2⟩
theorem Nw.freeze(n:Nw X w w1 h)(na:w.s.heap.get? a=none)(ha:Has w1 a o):Nw X w ⟨jj w1.F a o,w1.O,w1.m,w1.s⟩ h:=⟨⟨n.1.os,n.1.ba,fun b o' e=>dQ ha.2.2.1 _ _ (n.1.fz b o' e),n.1.ow,n.1.pre,n.1.dom,fun b o' q z=>let⟨sl,q',z⟩:=n.1.keep b o' q z;⟨sl,⟨q'.1,q'.2.1,dR (fun y=>by have q:=q.1;rw[y,na]at q;cases q) q'.2.2.1,q'.2.2.2⟩,z⟩⟩,n.2.freeze ha⟩
theorem Gm{b:Stmt}{suite:List Stmt}{b0:Stmt}{fe:Ex}{gs:Sx}{t n:Str}{Ta:Addr}{tp Z_:Pos}(rr:Bool)(aag:∀C Ca,cat C=true->X.T C=some Ca->akT X.K (.ref Ca) (.ref Ta)=some true)
  (hb:∀{w:Wo}{ρ:Ev}{h:Y3}{Q:Flow->Shared->Prop}{E:Yf},Inv X.tried w ρ h->cf X.tried (RV X.toSC) w (fun u=>Q (bif rr then .ret u else .next)) E (fe ρ h)->Wp X.tried (exec b X.env) Q E w.s) (hs:∀a,XK (X.suite a) (b0::suite) gs) (hi:X.N[i]? =some n) (hn:X.env.scope.names.lookup n=some .local) (hg:Gl X t) (hm:X.mg t=some (.ref Ta)) (stk:X.stack=X.env::outer) (hf:X.env.frame=some X.env.locals) (V6:(t==("__debug__":Str))=ajt):
  RS X (.Try [b] [.ExceptHandler (some (.Name t tp)) (some n) (b0::suite) Z_] [] [] pos) (ua cat (bif rr then aQ fe else cx fe) i gs):=⟨fun{w ρ h Q E} I p=>by
 refine wpAny_Try_except (agH (hb I.tried ?_));have e0:(bif rr then aQ fe else cx fe) ρ h=ey (fe ρ h) (fun v h=>bif rr then .rt v h else .nx ρ h):=by cases rr<;>rfl
 unfold ua at p;rw[e0]at p;unfold ey gT at p
 cases z:fe ρ h with
 |ok v h1=>
  rw[z]at p
  cases rr
  .exact⟨trivial,fun w' x y r=>afU (afU (p.2 w' y.s (I.on y)))⟩
  .exact⟨trivial,fun w' x y r=>p.2 w' x ρ y.s (I.on y) r⟩
 |bad=>rw[z]at p;exact p
 |exc e h1=>
  rw[z]at p;refine⟨trivial,fun w' u y r=>?_⟩;dsimp only at p
  split at p
  .rename_i C pe ev
   split at p
   .rename_i hC;have I1:=I.on (X:=X) y;obtain⟨a,cls,dx,rfl,⟨⟨a0,B,fl,c1,c2⟩,d⟩,m⟩:=r;rcases fl with fl|⟨z,_⟩
    case inr=>cases z
    obtain⟨Ca,t1,rfl⟩:∃Ca,X.T C=some Ca/\cls=.ref Ca:=by
     unfold KW at ev
     split at ev<;>cases ev
     .obtain⟨Ca,h1,h2,_⟩:=m;exact⟨Ca,h1,h2⟩
     .obtain⟨Ca,_,_,_,_,h1,h2,_⟩:=m;exact⟨Ca,h1,h2⟩
    have fa:XH w' a:=Classical.byContradiction fun z=>by obtain⟨o',q⟩:=c2 a z;have:=fl.2.1;rw[q]at this;cases this
    have na:w.s.heap.get? a=none:=by
     cases z:w.s.heap.get? a with
     |none=>rfl
     |some o'=>
      by_cases hb:a∈X.fs
      .obtain⟨o1,q,dd⟩:=I1.fr a hb;obtain⟨oe,vs,q1,_,q3,_⟩:=fl.first;have q:=q.1;rw[q1]at q;cases q;exact absurd q3 (dd vs)
      .obtain⟨o2,q⟩:=c1 a o' z hb;have:=fl.2.1;rw[q]at this;cases this
    have lands:∀h5,akW B X.stack a (.ref Ca) a0 h5->w'.s.heap.UpToSlots h5->(∃o,h5.get? a=some o/\o.dict=dx)->Nw X w { w' with s:={ w'.s with heap:=h5 } } h1/\∃o vs,h5.get? a=some o/\o.cls=.ref Ca/\o.data=.fields vs/\o.dict=dx:=fun h5 fl5 up d5=>by refine⟨IN (Y:=X) y.1 I1.toWd c1 c2 fl.1 fl5.1 up,?_⟩;obtain⟨oe,vs,q1,q2,q3,_⟩:=fl5.first;obtain⟨o',y1,y2⟩:=d5;rw[q1]at y1;cases y1;exact⟨oe,vs,q1,q2,q3,y2⟩
    have hfr:X.A.frames=some (X.env::outer):=stk▸I.ok.frames;have fl':=fl;rw[stk]at fl';refine xY (nX _ _) d (wpAny_looks_onW hfr hf fl' fun h4 held up4 d4=>xY (kE _ _) d4 (wpAny_landsW held fun h5 fl5 up5 d5=>?_));rw[<- stk]at fl5;obtain⟨n5,o5,vs5,q1,q2,q3,q4⟩:=lands h5 fl5 (up4.trans up5) d5;have I5:=I.on n5;refine wpAny_handleBy_cons (codeAny_handlers_test ((I5.suite (a:=a)).ZG hg hm ?_ V6)) nofun;have LT:akU (ajC X.prog X.w) h5 (akA (.ref a)) (.ref Ca):=q2▸(ajc q1).andThen .now;refine ajq (s:={ w'.s with heap:=h5 }) (W.exm_one (K:=X.K) I5.UJ LT (aag C Ca hC t1)) (codeAny_handlers_suite_as ?_);refine xY (kE _ _) d5 (lands_againW fl5 fun h6 fl6 up6 d6=>?_);obtain⟨n6,o6,vs6,q1,q2,q3,q4⟩:=lands h6 fl6 ((up4.trans up5).trans up6) d6;have n7:=n6.freeze na ⟨q1,fa⟩;have I6:=(I.on n7).suite (a:=a)
    have re:bx X.toSC (jj w'.F a o6) w'.m pe (.ref a):=by
     unfold KW at ev
     split at ev<;>cases ev
     .exact .exc t1 bT q2 q3
     .obtain⟨_,dd,od,fs,yy,g1,_,g3,g4,g5,g6,g7⟩:=m;exact .N6 t1 bT q2 q3 (q4.trans g3) (dQ fa.2.1 _ _ g4) g5 g6 (g7.mono (dQ fa.2.1) (.inr fun _ _ e=>e))
    refine I6.store (X:=X.suite a) hi (.inl hn) re fun w7 y7 I7=>(hs a).r I7 ?_
    split at p
    .rename_i e8;rw[e8];refine⟨trivial,fun w8 u8 ρ8 y8 I8 r8=>?_⟩;have J8:=Inv.Zi I.ok I8;obtain⟨m8,_,ns8,_⟩:=id J8.loc;refine wpAny_nameGoes hn ns8 (by rw[I.ok.kind];rfl) fun h9 m9 ns9 sb=>?_;obtain⟨s9,I9⟩:=J8.lost (t:=w8.s.toks+1) ns9 sb;exact p.2 _ _ _ (n7.s.trans (Sd.trans y7 (Sd.trans y8 s9))) I9 r8
    .exact p.elim
   .exact p.elim
  .exact p.elim⟩
def Gk{e:Expr}{suite:List Stmt}{b0:Stmt}{fe:Ex}{gs:Sx}{t n:Str}{Ta:Addr}{tp Z_ acH:Pos}(aag:∀C Ca,cat C=true->X.T C=some Ca->akT X.K (.ref Ca) (.ref Ta)=some true)
  (hb:RE X.tried e fe) (hs:∀a,XK (X.suite a) (b0::suite) gs) (hi:X.N[i]? =some n) (hn:X.env.scope.names.lookup n=some .local) (hg:Gl X t) (hm:X.mg t=some (.ref Ta)) (stk:X.stack=X.env::outer:=by rfl) (hf:X.env.frame=some X.env.locals:=by rfl) (V6:(t==("__debug__":Str))=ajt:=by decide):
  RS X (.Try [.Return (some e) acH] [.ExceptHandler (some (.Name t tp)) (some n) (b0::suite) Z_] [] [] pos) (ua cat (aQ fe) i gs):=Gm true aag (fun I p=>aiD (hb.r I p)) hs hi hn hg hm stk hf V6
end
def MV(h:Y3)(p:PV):Option Nat:=match p with
 |.str l=>if l.length<=ajx then some l.length else none
 |p=>match Y5 h p with
  |some kvs=>some kvs.length
  |none=>match Z0 h p with
   |some xs=>some xs.length
   |none=>none
def bS(ps:Y2)(h:Y3):Res PV:=match ps with
 |[p]=>match MV h p with
  |some n=>.ok (.int n) h
  |none=>.bad
 |_=>.bad
noncomputable def vm(h:Y3):PV->Option String
 |.non=>some "NoneType"
 |.bl _=>some "bool"
 |.int _=>some "int"
 |.str _=>some "str"
 |.tup _=>some "tuple"
 |p=>match Y5 h p with
  |some _=>some "dict"
  |none=>match Yw h p with
   |some _=>some "list"
   |none=>none
noncomputable def qY(t c:String):Bool:=(t==c)||(t=="bool"&&c=="int")
noncomputable def uD:List String:=["str","int","bool","list","tuple","dict"]
def aV(ps:Y2)(h:Y3):Res PV:=match ps with
 |[p,.ty c]=>if uD.contains c=true then match vm h p with
   |some t=>.ok (.bl (qY t c)) h
   |none=>.bad
  else .bad
 |_=>.bad
noncomputable def kx(i:Int):Y1:=(akf (toString i)).cps.toList
def xK(ps:Y2)(h:Y3):Res PV:=match ps with
 |[.int i]=>if i.natAbs.log2<1920 then .ok (.str (kx i)) h else .bad
 |_=>.bad
noncomputable def oR(ps:Y2)(h:Y3):Res PV:=match ps with
 |[.int i]=>.ok (.int i) h
 |[.bl b]=>.ok (.int (if b then 1 else 0)) h
 |_=>.bad
noncomputable def DN(ps:Y2)(h:Y3):Res PV:=match ps with
 |[.int i]=>.ok (.int (if i<0 then -i else i)) h
 |_=>.bad
noncomputable def yW(ps:Y2)(h:Y3):Res PV:=match ps with
 |[.int i,.int j]=>.ok (.int (if j>i then j else i)) h
 |_=>.bad
def vQ(ps:Y2)(h:Y3):Res PV:=match ps with
 |[p]=>match Z0 h p with
  |some xs=>.ok (.tup xs) h
  |none=>.bad
 |_=>.bad
noncomputable def jI:Y2->Option (List Bool)
 |[]=>some []
 |.bl b::r=>(jI r).map (b:: ·)
 |_::_=>none
def GQ(ps:Y2)(h:Y3):Res PV:=match ps with
 |[p]=>match Yw h p with
  |some xs=>match jI xs with
   |some bs=>.ok (.bl (bs.all id)) h
   |none=>.bad
  |none=>.bad
 |_=>.bad
section
variable{w:Wo}
def aO.one{F:Fz}(r:aO G F m [p] us):∃u,us= [u]/\bx G F m p u:=by cases r with|cons r t=>cases t;exact⟨_,rfl,r⟩
def aO.two{F:Fz}{q:PV}(r:aO G F m [p,q] us):∃u v,us= [u,v]/\bx G F m p u/\bx G F m q v:=by cases r with|cons r t=>obtain⟨v,rfl,r'⟩:=t.one;exact⟨_,v,rfl,r,r'⟩
def Wd.UJ(I:Wd X w h)(ok:X.Ok):X.K.In w.s.heap:=ok.Tz.keeps fun _ _ e=>I.bk e
def MB:Yh X (.builtin "len") bS:=fun ok {w h p u Q E} I rs k=>by
 have l:ajx=16777216:=afW;unfold bS at k
 split at k
 .obtain⟨u,rfl,r1⟩:=rs.one;show Wp X (call (.builtin "len") [u]) Q E w.s
  split at k
  .rename_i e;unfold MV at e
   split at e
   .split at e<;>cases e
    obtain⟨_,rfl⟩:=r1.vs;exact len_str (by rw[dH];lia) (by rw[dH];exact k.now I.toHR (.int _ _))
   .split at e
    .cases e
     obtain⟨a,kvs,rfl,y,d,r⟩:=I.dc r1 ‹_›;exact call_len_dict y d (by have:=r.1;lia) (by rw[r.len];exact k.now I.toHR (.int _ _))
    .split at e<;>cases e
     obtain⟨t,e,ht⟩:=yI ‹_›;obtain⟨a,k_,rfl,y,z,r⟩:=I.sq r1 e;rcases ht with rfl|rfl
     .exact len_tuple y.tup ⋯ (k.now I.toHR (by rw[r.len];exact .int _ _))
     .exact Calls.call_len_list y.pl.isList ⋯ (k.now I.toHR (by rw[r.len];exact .int _ _))
  .exact k.elim
 .exact k.elim
def uw(K:ajZ){t c:String}(ht:t∈ ["NoneType","bool","int","str","tuple","dict","list"])(hc:uD.contains c=true):ajT K (.type t) (.type c)=some (qY t c):=by
 have hc':c∈uD:=by simpa using hc
 simp only[uD,aek,aeO,ajP]at hc' ht;rcases ht with rfl|rfl|rfl|rfl|rfl|rfl|rfl<;>rcases hc' with rfl|rfl|rfl|rfl|rfl|rfl<;>rfl
def DU:Yh X (.builtin "isinstance") aV:=fun ok {w h p u Q E} I rs k=>by
 unfold aV at k
 split at k
 .obtain⟨u,v,rfl,r,r2⟩:=rs.two;obtain rfl:=r2.vt;show Wp X (call (.builtin "isinstance") [u,_]) Q E w.s
  split at k
  .rename_i hc
   split at k
   .rename_i t e;have fin:∀tk,Q (.bool (qY t _)) { w.s with toks:=tk }:=fun tk=>k.now I.toHR (.bl _);have hh:=fun tt=>uw (t:=tt) X.K (hc:=hc);have KI:=I.UJ ok;unfold vm at e
    split at e
    .cases e;obtain rfl:=r.vn;exact agn W.kitx_none KI True.intro (hh _ (by simp)) nofun fin
    .cases e;obtain rfl:=r.vb;exact agn W.kitx_bool KI True.intro (hh _ (by simp)) nofun fin
    .cases e;obtain⟨_,rfl⟩:=r.vi;exact agn W.kitx_int KI True.intro (hh _ (by simp)) nofun fin
    .cases e;obtain⟨_,rfl⟩:=r.vs;exact agn W.kitx_str KI True.intro (hh _ (by simp)) nofun fin
    .cases e
     replace r:=I.sq r rfl
     obtain⟨a,k_,rfl,⟨n,y⟩,z,r⟩:=r;exact agn W.kitx_tuple KI ⟨_,y,rfl⟩ (hh _ (by simp)) nofun fin
    .split at e
     .cases e
      obtain⟨a,kvs,rfl,_,⟨o,es,ep,h1,h2,_⟩,_⟩:=I.dc r ‹_›;exact agn W.kitx_dict KI ⟨o,h1,h2.1⟩ (hh _ (by simp)) nofun fin
     .split at e<;>cases e
      replace r:=I.sq r (jP ‹_›)
      obtain⟨a,k_,rfl,⟨n,y⟩,z,r⟩:=r;exact agn W.kitx_list KI ⟨_,y,rfl⟩ (hh _ (by simp)) nofun fin
   .exact k.elim
  .exact k.elim
 .exact k.elim
def Mx:Yh X (.type "str") xK:=fun ok {w h p u Q E} I rs k=>by
 unfold xK at k
 split at k
 .obtain⟨u,rfl,r⟩:=rs.one;obtain⟨_,rfl⟩:=r.vi
  split at k
  .exact PySem.P.str_of_int ‹_› (k.now I.toHR (by have:= @bx.str X.toSC w.F w.m (kx ‹_›) w.s.toks;rw[kx,Oh]at this;exact this))
  .exact k.elim
 .exact k.elim
def ME:Yh X (.type "int") oR:=fun ok {w h p u Q E} I rs k=>by
 unfold oR at k
 split at k
 .obtain⟨u,rfl,r⟩:=rs.one;obtain⟨_,rfl⟩:=r.vi;exact call_int_int (k.here I.toHR (.int _ _))
 .obtain⟨u,rfl,r⟩:=rs.one;obtain rfl:=r.vb;exact call_int_bool (k.now I.toHR (.int _ _))
 .exact k.elim
def MK:Yh X (.builtin "abs") DN:=fun ok {w h p u Q E} I rs k=>by
 unfold DN at k
 split at k
 .obtain⟨u,rfl,r⟩:=rs.one;obtain⟨_,rfl⟩:=r.vi;exact call_abs_int fun u tk=>k.now I.toHR (.int _ _)
 .exact k.elim
def Mz(hc:X.calm=true):Yh X (.builtin "max") yW:=fun ok {w h p u Q E} I rs k=>by
 unfold yW at k
 split at k
 .obtain⟨u,v,rfl,r,r2⟩:=rs.two
  cases r;obtain⟨_,rfl⟩:=r2.vi
  refine max_two_ints (ok.hd hc) fun h' tk kp=>?_;have n:=Nw.also (X:=X) (s':={ w.s with heap:=h',toks:=tk }) I.toHR kp;refine k.2 _ _ n ?_
  split
  .exact .int _ _
  .exact .int _ _
 .exact k.elim
end
noncomputable def BP(kvs:List (PK×PV))(k:PK)(v:PV):List (PK×PV):=
 if(kvs.any fun kv=>decide (kv.1=k))=true then kvs.map (fun kv=>if kv.1=k then(kv.1,v)else kv)else kvs++ [(k,v)]
def mkD(ps:List (PK×PV)):List (PK×PV):=ps.foldl (fun acc kv=>BP acc kv.1 kv.2) []
def pj:List (Ex×Ex)->Ev->Y3->Res (List (PK×PV))
 |[],_,h=>.ok [] h
 |(a,b)::r,ρ,h=>(a ρ h).bind fun x h1=>(b ρ h1).bind fun y h2=>match uB x with
  |some k=>(pj r ρ h2).bind fun ps h3=>.ok ((k,y)::ps) h3
  |none=>.bad
def mK(fs:List (Ex×Ex)):Ex:=fun ρ h=>(pj fs ρ h).bind fun ps h1=>.ok (.dct (mkD ps)) h1
def sS(fs:List (Ex×Ex)):Ex:=fun ρ h=>(pj fs ρ h).bind fun ps h1=>.ok (.ref h1.length) (h1++ [.dct (mkD ps)])
section
variable{F:Fz}
def RK(G:SC)(F:Fz)(m:Zs)(Sw:List (PK×PV))(kvs:List (PK×Value)):Prop:=kvs.map (·.1)=Sw.map (·.1)/\aO G F m (Sw.map (·.2)) (kvs.map (·.2))
theorem RK.length(r:RK G F m Sw kvs):kvs.length=Sw.length:=by have:=aj0 ak3 r.1;simpa using this
theorem RK.mono{F':Fz}{m':Zs}(r:RK G F m Sw kvs)(hF:∀a o,F a=some o->F' a=some o)(hm:Sub m m'):RK G F' m' Sw kvs:=⟨r.1,r.2.mono hF (.inr hm)⟩
theorem RK.any(k:PK):∀{Sw:List (PK×PV)}{kvs:List (PK×Value)},kvs.map (·.1)=Sw.map (·.1)->(kvs.any fun kv=>decide (kv.1=k))=Sw.any fun kv=>decide (kv.1=k)
 |[],[],_=>rfl
 |[],_::_,h=>by simp at h
 |_::_,[],h=>by simp at h
 |a::r,b::t,h=>by simp only[aeA,agZ]at h;simp only[agr,h.1,RK.any k h.2]
theorem RK.repl{k:PK}{p:PV}{v:Value}(r:bx G F m p v):∀{Sw:List (PK×PV)}{kvs:List (PK×Value)},RK G F m Sw kvs->RK G F m (Sw.map fun kv=>if kv.1=k then(kv.1,p)else kv) (kvs.map fun kv=>if kv.1=k then(kv.1,v)else kv)
 |[],[],h=>h
 |[],_::_,h=>by have:=h.1;simp at this
 |_::_,[],h=>by have:=h.1;simp at this
 |(k1,a)::t,(k2,b)::t',⟨h1,h2⟩=>by
  simp only[aeA,agZ]at h1;obtain⟨rfl,h1⟩:=h1
  cases h2 with
  |cons x y=>
   obtain⟨i1,i2⟩:=RK.repl r ⟨h1,y⟩;simp only[aeA]
   by_cases z:k2=k
   .simp only[z,ajA];exact⟨by simp[i1],.cons r i2⟩
   .simp only[z,ajQ];exact⟨by simp[i1],.cons x i2⟩
def RK.put{k:PK}(h:RK G F m Sw kvs)(r:bx G F m p v):RK G F m (BP Sw k p) (stored kvs k v):=by
 unfold BP stored;rw[RK.any k h.1]
 split
 .exact h.repl r
 .exact⟨by rw[aeP,aeP,h.1];rfl,by rw[aeP,aeP];exact h.2.app (.cons r .nil)⟩
theorem RK.merge:∀{more:List (PK×PV)}{mv:List (PK×Value)}{Sw:List (PK×PV)}{kvs:List (PK×Value)},RK G F m more mv->RK G F m Sw kvs->RK G F m (more.foldl (fun acc kv=>BP acc kv.1 kv.2) Sw) (merged kvs mv)
 |[],[],_,_,_,h=>h
 |[],_::_,_,_,h,_=>by have:=h.1;simp at this
 |_::_,[],_,_,h,_=>by have:=h.1;simp at this
 |(k1,p1)::more,(k2,v2)::mv,Sw,kvs,⟨h1,h2⟩,h=>by
  simp only[aeA,agZ]at h1 h2;obtain⟨rfl,h1⟩:=h1
  cases h2 with
  |cons a b=>show RK G F m (more.foldl _ (BP Sw k2 p1)) (merged (stored kvs k2 v2) mv);exact RK.merge ⟨h1,b⟩ (h.put a)
def qZ(k:PK)(v:Value):(stored kvs k v).length<=kvs.length+1:=by unfold stored;split<;>simp
theorem sj:∀(mv:List (PK×Value))(kvs:List (PK×Value)),(merged kvs mv).length<=kvs.length+mv.length
 |[],_=>aeB _
 |(k,v)::mv,kvs=>by have:=sj mv (stored kvs k v);have:=qZ (kvs:=kvs) k v;show(merged (stored kvs k v) mv).length<=_;simp;lia
end
section
variable{w:Wo}
def Wd.big(I:Wd X w h)(ok:X.Ok):(w.s.heap.objs.size==akr)=ajt:=by obtain⟨o,es,ep,e,_⟩:=ok.gl;have:=aeT (I.bk e);exact ako.mpr fun z=>absurd (z▸this) ⋯
def Nw.priv{o2:Obj}(n:Nw X w w1 h)(na:w.s.heap.get? a=none)(ha:Has w1 a o2)(sb:aj9 a w1.s.heap s'.heap)(e:s'.heap.get? a=some o)(ho:s'.os=w1.s.os:=by rfl)(hg:s'.gens=w1.s.gens:=by rfl):Nw X w { w1 with s:=s' } h/\Has { w1 with s:=s' } a o:=by
 have on:∀b o,b≠a->w1.s.heap.get? b=some o->s'.heap.get? b=some o:=fun b o z e=>(sb.2 b z).trans e;have ne:∀{b o},w.s.heap.get? b=some o->b≠a:=fun q z=>by rw[z,na]at q;cases q
 refine⟨⟨⟨ho.trans n.1.os,fun q=>hg▸n.1.ba q,n.1.fz,n.1.ow,n.1.pre,fun b o e=>let⟨o',q⟩:=n.1.dom b o e;⟨o',on b o' (ne e) q⟩,fun b o q z=>let⟨sl,q',z⟩:=n.1.keep b o q z;⟨sl,⟨on b _ (ne q.1) q'.1,q'.2⟩,z⟩⟩,n.2.on fun b o e z=>on b o (fun y=>z (y▸ha.2)) e⟩,e,ha.2⟩
def Nw.track{po:PO}(n:Nw X w w1 h)(na:w.s.heap.get? a=none)(ha:Has w1 a o)(q:tE X.toSC w1.F (w1.m++ [a]) w1.O w1.s.heap a po):Nw X w ⟨w1.F,w1.O,w1.m++ [a],w1.s⟩ (h++ [po]):=by
 have H:=n.2;have ne:∀{b o},w.s.heap.get? b=some o->b≠a:=fun q z=>by rw[z,na]at q;cases q
 have sb:Sub w1.m (w1.m++ [a]):=fun i b e=>by rw[aez (aer.mp e).1];exact e
 refine⟨⟨n.1.os,n.1.ba,n.1.fz,n.1.ow,let⟨t,e⟩:=n.1.pre;⟨t++ [a],by rw[e,aeK]⟩,n.1.dom,fun b o q z=>let⟨sl,q',z⟩:=n.1.keep b o q z;⟨sl,⟨q'.1,fun y=>(aeF.mp y).elim q'.2.1 fun y=>ne q.1 (by simpa using y),q'.2.2⟩,z⟩⟩,H.sub,fun d b e=>let⟨x,z,y⟩:=H.own d b e;⟨x,fun q'=>(aeF.mp q').elim z fun q'=>(by simp at q';rw[q',ha.2.2.2]at e;cases e),y⟩,by simp[H.len],ahk.mpr ⟨H.nd,by simp,fun x hx y hy z=>ha.2.1 (by simp at hy;rw[<- hy,<- z];exact hx)⟩,fun i ob b e1 e2=>?_⟩;rcases aeR i h.length with l|l
 .rw[aez l]at e1;rw[aez (H.len▸l)]at e2;exact(H.obj i ob b e1 e2).on (fun _ _ e=>e) (fun _ e=>e) sb (fun _ _ e _=>e) id
 .rw[aeD l]at e1;rw[aeD (H.len▸l),<- H.len]at e2
  cases z:i - h.length with
  |zero=>rw[z]at e1 e2;cases e1;cases e2;exact q
  |succ _=>rw[z]at e1;simp at e1
structure RPs(X:Cx)(pos:Pos)(keys:List (Option Expr))(values:List Expr)(fs:List (Ex×Ex)):Prop where
 r:∀{w:Wo}{ρ:Ev}{h:Y3}{Q:List (Value×Value)->Shared->Prop}{E:Yf},Inv X w ρ h->cf X (fun w ps vs=>∃kvs,Carries (pk X.prog X.w) vs kvs/\RK X.toSC w.F w.m ps kvs/\kvs.length=keys.length) w Q E (pj fs ρ h)->Wp X (evalPairs (pairTrees keys values X.env pos)) Q E w.s
def Gr:RPs X pos [] [] []:=⟨fun I p=>pairTrees_nil_walk (p.here I.toHR ⟨[],trivial,⟨rfl,.nil⟩,rfl⟩)⟩
def Dn{k v:Expr}{fs:List (Ex×Ex)}(hk:RE X k fa)(hv:RE X v fb)(hr:RPs X pos keys values fs):RPs X pos (some k::keys) (v::values) ((fa,fb)::fs):=⟨fun I p=>pairTrees_cons_walk (hk.r I (p.bind fun _ _ x _ y1 r1 p=>hv.r (I.on y1) (p.bind fun _ _ _ _ y2 r2 p=>by
 split at p
 .refine hr.r ((I.on y1).on y2) (p.bind (by rintro _ _ _ _ y3 ⟨kvs,c,rk,l⟩ p;exact p.here y3.2 ⟨(_,_)::kvs,⟨oU (y2.1.rep r1) ‹_›,rfl,c⟩,⟨by simp[rk.1],.cons (y3.1.rep r2) rk.2⟩,by simp[l]⟩))
 .exact p.elim)))⟩
theorem NM{fs:List (Ex×Ex)}{k:List (PK×PV)->Y3->Res PV}(hr:RPs X pos keys values fs)(Yq:keys.all (·.isSome)=true)(hl:keys.length=values.length)(h0:keys≠ [])(h15:keys.length<=15)
  (go:∀{w w2:Wo}{h2:Y3}{a:Addr}{ps:List (PK×PV)}{kvs:List (PK×Value)}{o:Obj}{Q:Yf}{E:Yf},Nw X w w2 h2->w.s.heap.get? a=none->(a==akr)=ajt->Has w2 a o->DO X.toSC o kvs->kvs.length<=ajx->RK X.toSC w2.F w2.m (mkD ps) kvs->cf X (RV X.toSC) w Q E (k ps h2)->Q (.ref a) w2.s):RE X (.Dict keys values pos) (fun ρ h=>(pj fs ρ h).bind k):=⟨fun{w ρ h Q E} I p=>wpAny_Dict_walk (knd:=pk X.prog X.w) Yq hl h0 h15 (by
 have n1:=Nw.also (X:=X) (s':={ w.s with heap:=w.s.heap.push { cls:=.type "dict",data:=.dict #[] } }) I.toHR fun _ _ e=>aem _ e;refine hr.r (I.on n1) ?_
 cases e:pj fs ρ h with
 |bad=>rw[e]at p;exact p
 |exc _ _=>rw[e]at p;exact⟨p.1,fun w' u y r=>p.2 w' u (n1.trans y) (r.back n1.1)⟩
 |ok ps h2=>
  rw[e]at p;refine⟨p.ep,?_⟩;rintro w2 vs y ⟨kvs,c,rk,l⟩;have na:=bG w.s.heap;have z:w.s.heap.objs.size∉X.fs:=fun z=>by obtain⟨o,q,_⟩:=I.fr _ z;have q:=q.1;rw[na]at q;cases q
  obtain⟨sl,ha,zz⟩:=y.1.keep w.s.heap.objs.size _ ⟨aey _ rfl,I.toHR.free na⟩ fun z=>z
  cases zz.resolve_left z
  obtain⟨o,es,ep,e1,e2⟩:(w.s.heap.push { cls:=.type "dict",data:=.dict #[] }).DictOf (pk X.prog X.w) w.s.heap.objs.size []:=Heap.DictOf.new _;rw[aey _ rfl]at e1
  cases e1
  refine⟨kvs,c,⟨_,es,ep,ha.1,e2⟩,?_⟩;rintro h' ⟨o',es',ep',g1,g2⟩ sb;obtain⟨n3,ha3⟩:=Nw.priv (s':={ w2.s with heap:=h',toks:=w2.s.toks+vs.length }) (n1.trans y) na ha sb g1;exact go n3 na (I.big I.ok) ha3 ⟨g2.1,es',ep',g2.2⟩ (aeI (sj _ _) (by rw[afW];simp;lia)) (RK.merge rk ⟨rfl,.nil⟩) p)⟩
def GF{fs:List (Ex×Ex)}(hr:RPs X pos keys values fs)(Yq:keys.all (·.isSome)=true:=by rfl)(hl:keys.length=values.length:=by rfl)(h0:keys≠ []:=by intro z;cases z)(h15:keys.length<=15:=by decide):RE X (.Dict keys values pos) (mK fs):=NM hr Yq hl h0 h15 fun{w w2 h2 a ps kvs o Q E} n na sm ha d z r p=>p.2 ⟨jj w2.F a o,w2.O,w2.m,w2.s⟩ _ (n.freeze na ha) (.dct bT d sm z r.1 (r.mono (dQ ha.2.2.1) fun _ _ e=>e).2)
def Dy{fs:List (Ex×Ex)}(hr:RPs X pos keys values fs)(Yq:keys.all (·.isSome)=true:=by rfl)(hl:keys.length=values.length:=by rfl)(h0:keys≠ []:=by intro z;cases z)(h15:keys.length<=15:=by decide):RE X (.Dict keys values pos) (sS fs):=NM hr Yq hl h0 h15 fun{w w2 h2 a ps kvs o Q E} n na sm ha d z r p=>by
 have sb:Sub w2.m (w2.m++ [a]):=fun i b e=>by rw[aez (aer.mp e).1];exact e
 exact p.2 ⟨w2.F,w2.O,w2.m++ [a],w2.s⟩ _ (n.track na ha ⟨ha.2.2.1,o,kvs,ha.1,d,sm,z,r.1,(r.mono (fun _ _ e=>e) sb).2⟩) (.ref (by rw[n.2.len];simp))
end
noncomputable def pJ(h:Y3):PV->Option (Nat×Y2)
 |.ref i=>match h[i]? with
  |some (.lst xs)=>some (i,xs)
  |_=>none
 |_=>none
noncomputable def uu(h:Y3):PV->Option (Nat×List (PK×PV))
 |.ref i=>match h[i]? with
  |some (.dct kvs)=>some (i,kvs)
  |_=>none
 |_=>none
def lF(v o i:PV)(ρ:Ev)(h:Y3):SR:=match pJ h o,i with
 |some (n,xs),.int k=>match Y0 xs.length k with
  |some j=>.nx ρ (h.set n (.lst (xs.set j v)))
  |none=>.bad
 |_,_=>.bad
def jd(fo fi fv:Ex):Sx:=fun ρ h=>ey (fv ρ h) fun v h1=>ey (fo ρ h1) fun o h2=>ey (fi ρ h2) fun i h3=>lF v o i ρ h3
def rj(v o i:PV)(ρ:Ev)(h:Y3):SR:=match uu h o,uB i with
 |some (n,Sw),some k=>if Sw.length<ajx then .nx ρ (h.set n (.dct (BP Sw k v)))else .bad
 |_,_=>.bad
def kb(fo fi fv:Ex):Sx:=fun ρ h=>ey (fv ρ h) fun v h1=>ey (fo ρ h1) fun o h2=>ey (fi ρ h2) fun i h3=>rj v o i ρ h3
def fzP(h:Y3)(p:PV):Option (PV×Y3):=match uu h p with
 |some (i,kvs)=>if lI kvs=true then some (.dct kvs,h.set i (.Q5 (.dct kvs)))else none
 |none=>dK h p
def Zt(p:PV)(h:Y3):Res PV:=match fzP h p with
 |some (q,h2)=>.ok q h2
 |none=>.bad
def Yz(f:Ex):Ex:=fun ρ h=>(f ρ h).bind Zt
def cM(recv:Y3->PV->Bool)(g:PV->Y2->Y3->Res PV)(o:Ex)(as:Ax):Ex:=fun ρ h=>(o ρ h).bind fun p h1=>if recv h1 p=true then(as ρ h1).bind fun ps h2=>g p ps h2 else .bad
def aZ(p:PV)(ps:Y2)(h:Y3):Res PV:=match ps with
 |[q]=>match pJ h p with
  |some (i,xs)=>if xs.length<ajx then .ok .non (h.set i (.lst (xs++ [q])))else .bad
  |none=>.bad
 |_=>.bad
section
variable{w:Wo}
inductive Ll0(G:SC)(w:Wo)(i:Nat)(u:Value)(ps:Y2):Prop where
 |mk (a:Addr) (k_:Array Value) (n:Nat) (_:u=.ref a) (_:w.m[i]? =some a) (_:w.F a=none) (_:w.s.heap.get? a=some { cls:=.type "list",data:=.seq k_ n }) (_:k_.size<=ajx) (_:aO G w.F w.m ps k_.toList)
def HR.ll(H:HR G w h)(r:bx G w.F w.m p u)(k:pJ h p=some (i,ps)):Ll0 G w i u ps:=by
 unfold pJ at k
 split at k
 .split at k<;>cases k
  rename_i q
  cases r with
  |ref e=>obtain⟨f,k_,n,g,z,r⟩:=H.obj _ _ _ q e;exact⟨_,k_,n,rfl,e,f,g,z,r⟩
 .cases k
inductive Ld0(G:SC)(w:Wo)(i:Nat)(u:Value)(Sw:List (PK×PV)):Prop where
 |mk (a:Addr) (o:Obj) (kvs:List (PK×Value)) (_:u=.ref a) (_:w.m[i]? =some a) (_:w.F a=none) (_:(a==akr)=ajt) (_:w.s.heap.get? a=some o) (_:DO G o kvs) (_:kvs.length<=ajx) (_:RK G w.F w.m Sw kvs)
def HR.ld(H:HR G w h)(r:bx G w.F w.m p u)(k:uu h p=some (i,Sw)):Ld0 G w i u Sw:=by
 unfold uu at k
 split at k
 .split at k<;>cases k
  rename_i q
  cases r with
  |ref e=>obtain⟨f,o,kvs,g,d,y,z,c,r⟩:=H.obj _ _ _ q e;exact⟨_,o,kvs,rfl,e,f,y,g,d,z,c,r⟩
 .cases k
theorem aO.set{F:Fz}{m:Zs}{x:PV}{u:Value}(r:bx G F m x u):∀{xs:Y2}{us:Z3}(i:Nat),aO G F m xs us->aO G F m (xs.set i x) (us.set i u)
 |_,_,_,.nil=>.nil
 |_,_,0,.cons _ t=>.cons r t
 |_,_,i+1,.cons q t=>.cons q (aO.set r i t)
def Nw.aaS{f:Obj->Obj}{Uo:Array Value}{n' tk:Nat}(H:HR X.toSC w h)(em:w.m[i]? =some a)(hf:w.F a=none)(e:w.s.heap.get? a=some o)(ef:f o= { cls:=.type "list",data:=.seq Uo n' })(z:Uo.size<=ajx)(r:aO X.toSC w.F w.m ps Uo.toList):Nw X w { w with s:={ w.s with heap:=w.s.heap.update a f,toks:=tk } } (h.set i (.lst ps)):=by
 have eu:(w.s.heap.update a f).get? a=some { cls:=.type "list",data:=.seq Uo n' }:=ef▸afo _ e (by rw[ef];rfl)
 exact Nw.upd (s':={ w.s with heap:=w.s.heap.update a f,toks:=tk }) H em hf (fun b o' e=>by
  by_cases z:b=a
  .exact .inl z
  .exact .inr (.inr ((agp _ _ _ _ z).trans e))) (fun b o' e=>by
  by_cases z:b=a
  .exact⟨{ cls:=.type "list",data:=.seq Uo n' },by subst z;exact eu⟩
  .exact⟨o',(agp _ _ _ _ z).trans e⟩) ⟨hf,Uo,n',eu,z,r⟩
variable{oe ie ve:Expr}{fo fi fv:Ex}{px:Pos}
def Dl(ho:RE X oe fo)(hi:RE X ie fi)(hv:RE X ve fv)
  (hs:aj2 ve (some (.Subscript oe ie px)) pos.line X.env=pure ajt:=by rfl):RS X (.Assign [.Subscript oe ie px] ve pos) (jd fo fi fv):=⟨fun{w ρ h Q E} I p=>ahE (hv.r I (bL.e p I fun w1 h1 pv v y1 I1 rv p=>ho.r I1 (bL.e p I1 fun w2 h2 po u y2 I2 ro p=>hi.r I2 (bL.e p I2 fun w3 h3 pi iv y3 I3 ri p=>by
 unfold lF at p
 split at p
 .rename_i el
  split at p
  .rename_i j hj;obtain⟨a,k_,n,rfl,em,hf,e,z,r⟩:=I3.toHR.ll (y3.1.rep ro) el;obtain⟨_,rfl⟩:=ri.vi;obtain⟨h1,h2,h3,h4⟩:=AF hj;have hl:=r.len;have sl:=afW;have hz:∀t,Nw X w3 { w3 with s:={ w3.s with heap:=w3.s.heap.update a (akk (·.setIfInBounds j v)),toks:=t } } _:=fun t=>Nw.aaS (Uo:=k_.setIfInBounds j v) (n':=n) I3.toHR em hf e (by simp[akk]) (by simpa using z) (by simpa using r.set (y3.1.rep (y2.1.rep rv)) j);rename_i k _ _
   by_cases h0:0<=k
   .have hk:k.toNat=j:=by rw[ai3 h0 h4]at h1;exact aeW h1
    exact W.ki_setAt e h0 ⋯ (by rw[<- hl];exact h4) (by rw[hk];exact p.2 _ (hz _).s (I3.on (hz _)))
   .have hk:(k+(k_.size:Int)).toNat=j:=by rw[aiF ⋯ h3]at h1;rw[<- hl];exact aeW h1
    exact W.ki_setBack e ⋯ (by rw[<- hl];exact h3) ⋯ (by rw[hk];exact p.2 _ (hz _).s (I3.on (hz _)))
  .exact p.elim
 .exact p.elim)))) hs⟩
def Gn(ho:RE X oe fo)(hi:RE X ie fi)(hv:RE X ve fv)
  (hs:aj2 ve (some (.Subscript oe ie px)) pos.line X.env=pure ajt:=by rfl):RS X (.Assign [.Subscript oe ie px] ve pos) (kb fo fi fv):=⟨fun{w ρ h Q E} I p=>ahE (hv.r I (bL.e p I fun w1 h1 pv v y1 I1 rv p=>ho.r I1 (bL.e p I1 fun w2 h2 po u y2 I2 ro p=>hi.r I2 (bL.e p I2 fun w3 h3 pi iv y3 I3 ri p=>by
 unfold rj at p
 split at p
 .rename_i el ek
  split at p
  .rename_i hz;obtain⟨a,o,kvs,rfl,em,hf,sm,e,d,z,r⟩:=I3.toHR.ld (y3.1.rep ro) el;refine wpAny_setItem_pairs (hsz:=z) (oU ri ek) (d.of e) fun h' dd' sb=>?_;obtain⟨o',es,ep,e1,e2,e3⟩:=dd';have r':=r.put (k:= ‹PK›) (y3.1.rep (y2.1.rep rv))
   have y4:=Nw.upd (X:=X) (s':={ w3.s with heap:=h',toks:=w3.s.toks+1 }) I3.toHR em hf (fun b o e=>by
     by_cases z:b=a
     .exact .inl z
     .exact .inr (.inr ((sb.2 b z).trans e))) (fun b o e=>by
     by_cases z:b=a
     .exact⟨o',by subst z;exact e1⟩
     .exact⟨o,(sb.2 b z).trans e⟩) (po:=.dct _) ⟨hf,o',_,e1,⟨e2,es,ep,e3⟩,sm,aeI (qZ _ _) (by rw[r.length];exact hz),r'.1,r'.2⟩
   exact p.2 _ y4.s (I3.on y4)
  .exact p.elim
 .exact p.elim)))) hs⟩
def Mp{ae:Expr}(ha:RE X ae fa):RE X ae (Yz fa):=⟨fun I p=>ha.r I (p.bind fun w1 h1 q u y r p=>by
 unfold Zt fzP at p
 split at p
 .rename_i e
  split at e
  .split at e<;>cases e
   rename_i hp;obtain⟨a,o,kvs,rfl,em,hf,sm,e,d,z,r'⟩:=y.2.ld r ‹_›;have rr:bx X.toSC (jj w1.F a o) w1.m (.dct _) (.ref a):=.dct bT d sm z r'.1 (r'.2.mono (dQ hf) (.inr fun _ _ e=>e));exact p.2 ⟨jj w1.F a o,w1.O,w1.m,w1.s⟩ _ (y.2.fix em hf e rr (by simpa[PV.pure]using hp)) rr
  .obtain⟨F',n,r',_⟩:=y.2.frz (X:=X) r e;exact p.2 ⟨F',w1.O,w1.m,w1.s⟩ _ n r'
 .exact p.elim)⟩
end
noncomputable def et(_:Y3)(p:PV):Bool:=match p with
 |.str _=>true
 |_=>ajt
def cI(h:Y3)(p:PV):Bool:=(Yw h p).isSome
noncomputable def lC:Y2->Option Ya
 |[]=>some []
 |.str l::r=>(lC r).map (l:: ·)
 |_::_=>none
noncomputable def iK(sep:Y1):Ya->Y1
 |[]=>[]
 |[x]=>x
 |x::rest=>x++sep++iK sep rest
def eJ(p:PV)(ps:Y2)(h:Y3):Res PV:=match p,ps with
 |.str sep,[q]=>match Yw h q with
  |some xs=>match lC xs with
   |some ls=>if(ls.map (·.length)).sum+ls.length * sep.length<=16777216 then .ok (.str (iK sep ls)) h else .bad
   |none=>.bad
  |none=>.bad
 |_,_=>.bad
section
variable{w:Wo}{h':Heap}
def Zw(X:Cx)(id:String)(g:PV->Y2->Y3->Res PV):Prop:=
 ∀{w h p u ps us Q E},Wd X w h->bx X.toSC w.F w.m p u->aO X.toSC w.F w.m ps us->cf X (RV X.toSC) w Q E (g p ps h)->Wp X (call (.builtin id) (u::us)) Q E w.s
def TyM(X:Cx)(Ty:String)(recv:Y3->PV->Bool):Prop:=∀{w h p u},HR X.toSC w h->bx X.toSC w.F w.m p u->recv h p=true->w.s.TypeIs u Ty/\∀a,u=.ref a->∃ob,w.s.heap.get? a=some ob/\ob.dict=none
def pH{Ty:String}{recv:Y3->PV->Bool}{id:String}{g:PV->Y2->Y3->Res PV}{oe e:Expr}{fo:Ex}{fs:Ax}{W7:Pos}(ty:TyM X Ty recv)(pa:PlainAttrs Ty)(slot:Slot Ty name id)(hty:akA (.builtin id)=pure (.type "method_descriptor"))(hm:Zw X id g)
  (ho:RE X oe fo) (ha:RA X (e::es) fs)
  (aa4:akM oe name X.env (eval oe X.env)=eval oe X.env:=by rfl)
  (acr:((akd W7 (ajF (e::es) X.env)).all (fun x=>!x.1)&&(akS W7 (akv [] X.env)).all (fun x=>x.1.isSome)
   &&decide ((e::es).length+([]:List Keyword).length+(if([]:List Keyword).isEmpty then 0 else 1)<30))=true:=by rfl)
  (hline:(apos.endLine==W7.line)=true:=by rfl)(hs:sE0 X e es:=by rfl) (aac:(akd W7 (ajF es X.env)).any (·.1)=ajt:=by rfl):
  RE X (.Call (.Attribute oe name apos) (e::es) [] W7) (cM recv g fo fs):=⟨fun I p=>wpAny_Call_method_late aa4 acr hline rfl (ho.r I (p.bind fun w1 h1 q u y r p=>by
 split at p
 .obtain⟨t1,t2⟩:=ty y.2 r ‹_›;refine⟨Ty,id,pa,slot,hty,t1,t2,?_⟩;have hA:=ha.r W7 (I.on y) (p.bind (G:=fun us s=>Wp X (call (.builtin id) (u::us)) _ _ s) fun w2 h2 qs us y2 r2 p=>hm ((I.on y).on y2).toWd (y2.1.rep r) r2 p);rw[hs]at hA |-;exact Calls.callWith_builtin (by show(ajt||(akd W7 (ajF es X.env)).any (·.1))=ajt;rw[aac]<;>rfl) (Calls.evalArgs_plain hA)
 .exact p.elim))⟩
def qS:TyM X "str" et:=fun H r e=>by
 unfold et at e
 split at e
 .cases r;exact⟨agI _ _ _,fun _ e=>nomatch e⟩
 .cases e
def CK:TyM X "list" cI:=fun H r e=>by obtain⟨xs,ex⟩:=af0.mp e;obtain⟨a,k_,rfl,⟨n,y⟩,_⟩:=H.sq r (jP ex);exact⟨⟨_,y,rfl⟩,fun _ e=>by cases e;exact⟨_,y,rfl⟩⟩
def Ci:Zw X "list.append" aZ:=fun{w h p u ps us Q E} I r rs k=>by
 unfold aZ at k
 split at k
 .split at k
  .split at k
   .obtain⟨v,rfl,rv⟩:=rs.one
    replace r:=I.toHR.ll r ‹_›
    obtain⟨a,k_,n,rfl,em,hf,e,z,r⟩:=r;refine agt F.slot_list_append ⟨_,e,rfl⟩ F.entry_list_append (F.args_list_append_2 _ _) (PySem.list_append a k_ n v z) ⟨e,?_⟩;exact k.2 _ _ (Nw.aaS (f:=akk (·.push v)) (Uo:=k_.push v) (tk:=w.s.toks) I.toHR em hf e (by simp[akk];rfl) (by have:=r.len;simp;lia) (by simpa using r.app (.cons rv .nil))) .non
   .exact k.elim
  .exact k.elim
 .exact k.elim
theorem mM{F:Fz}{m:Zs}:∀{ps:Y2}{us:Z3}{ls:Ya},lC ps=some ls->aO G F m ps us->StrsAre us (ls.map S)
 |[],_,_,e,.nil=>by cases e;exact .nil
 |p::r,_,ls,e,.cons rp t=>by
  cases p with
  |str l=>simp only[lC,ae2]at e;obtain⟨ls',e1,rfl⟩:=e;obtain⟨_,rfl⟩:=rp.vs;exact .cons _ _ (mM e1 t)
  |_=>simp[lC]at e
def IX(a b:Y1):S a++S b=S (a++b):=by show(⟨(S a).cps++(S b).cps⟩:Str)=_;simp[S]
def LC(sep:Y1)(xs:Ya):Txt.join (S sep) (xs.map S)=S (iK sep xs):=by
 have go:∀xs:Ya,Str.join (S sep) (xs.map S)=S (iK sep xs):=by
  intro xs
  induction xs with
  |nil=>rfl
  |cons x r ih=>
   cases r with
   |nil=>rfl
   |cons y r=>have e:iK sep (x::y::r)=x++sep++iK sep (y::r):=rfl;rw[e,<- IX,<- IX,<- ih];rfl
 show Builtin.Str.glued _ _=_;rw[StrLaws.glued_eq_join];exact go xs
def He:Zw X "str.join" eJ:=fun{w h p u ps us Q E} I r rs k=>by
 unfold eJ at k
 split at k
 .split at k
  .split at k
   .split at k
    .rename_i el hz;obtain⟨_,rfl⟩:=r.vs;obtain⟨v,rfl,rv⟩:=rs.one;obtain⟨a,k_,rfl,y,_,r⟩:=I.sq rv (jP ‹_›);refine join_list y.pl.isList (mM ‹_› r) ?_ fun t' k'=>by rw[LC];exact k.now I.toHR (.str _ _)
     rw[afe,aes,dH,show((fun x:Str=>x.length)∘S)=(·.length)from funext dH];exact hz
    .exact k.elim
   .exact k.elim
  .exact k.elim
 .exact k.elim
end
noncomputable def aL(y x:Y1)(lo:Nat):Option Nat:=(ajy (x.length+1)).find? fun i=>decide (lo<=i)&&y.isPrefixOf (x.drop i)
noncomputable def gh(o:Option Nat):Int:=match o with
 |some i=>(i:Int)
 |none=> -1
def pM(y x:Y1):Bool:=(aL y x 0).isSome
def lL(p:PV)(ps:Y2)(h:Y3):Res PV:=match p,ps with
 |.str x,[.str y]=>.ok (.int (gh (aL y x 0))) h
 |_,_=>.bad
def BS(p q:PV)(h:Y3):Option Bool:=match q with
 |.str b=>match p with
  |.str a=>some (pM a b)
  |_=>none
 |q=>match Y5 h q with
  |some kvs=>match uB p with
   |some k=>some (yA kvs k).isSome
   |none=>none
  |none=>match Z0 h q with
   |some xs=>if Vx [] p=true/\xs.all (Vx [])=true then some (xs.any fun y=>ajU (toD y) (toD p))else none
   |none=>none
def Wz(p q:PV)(h:Y3):Res PV:=match BS p q h with
 |some b=>.ok (.bl b) h
 |none=>.bad
def gW(p q:PV)(h:Y3):Res PV:=match BS p q h with
 |some b=>.ok (.bl (!b)) h
 |none=>.bad
def tY(x y:Y1)(i:Nat)(hi:i+y.length<=x.length):akg (S x) (S y) i=y.isPrefixOf (x.drop i):=by
 unfold akg;rw[dH];rw[aft,ajS,afy]
 have e:(S x).cps.extract i (i+y.length)=((x.drop i).take y.length).toArray:=by apply ahC.mp;simp[S,List.extract_eq_drop_take]
 rw[e];show((x.drop i).take y.length).toArray=(S y).cps↔_;constructor
 .intro h;have h':(x.drop i).take y.length=y:=by simpa[S]using aj0 Array.toList h
  refine⟨(x.drop i).drop y.length,?_⟩;have q:=List.take_append_drop y.length (x.drop i);rw[h']at q;exact q
 .rintro⟨t,ht⟩
  rw[<- ht,ah7];rfl
def zM(x y:Y1)(i:Nat):StrLaws.At (S x) (S y) (S x).length i↔i<=x.length/\y.isPrefixOf (x.drop i)=true:=by
 unfold StrLaws.At;rw[dH,dH];constructor
 .rintro⟨h1,h2⟩
  rw[tY x y i h1]at h2;exact⟨by lia,h2⟩
 .rintro⟨h1,h2⟩
  have:i+y.length<=x.length:=by
   have:=(afy.mp h2).length_le;rw[aeV]at this
   lia
  exact⟨this,by rw[tY x y i this];exact h2⟩
def mS(x y:Y1)(lo:Nat):Builtin.Str.occurrences (S x) (S y) lo (S x).length 1=(aL y x lo).toList:=by
 have Xz:=StrLaws.occ_length_le (S x) (S y) lo (S x).length 1;rcases StrLaws.occ_head_from (S x) (S y) lo 1 (aeB _)with⟨h0,hn⟩|⟨i,r,h0,hl,ha,hn⟩
 .rw[h0]
  have:aL y x lo=none:=by unfold aL;rw[aiy];intro i hi hc;simp only[ael,ajE]at hc;exact hn i hc.1 ((zM x y i).mpr ⟨by have:=afg.mp hi;lia,hc.2⟩)
  rw[this];rfl
 .rw[h0]at Xz |-
  have hr:r= []:=by cases r with
   |nil=>rfl
   |cons _ _=>simp at Xz
  subst hr;obtain⟨a1,a2⟩:=(zM x y i).mp ha
  have:aL y x lo=some i:=by
   unfold aL;rw[ahq];refine⟨by simp[hl,a2],by simp;lia,fun j hj=>?_⟩;simp only[agD,ah0,decide_eq_false_iff_not];rcases aeR j lo with q|q
   .exact .inl ⋯
   .right
    cases z:y.isPrefixOf (x.drop j)with
    |false=>rfl
    |true=>exact absurd ((zM x y j).mpr ⟨by lia,z⟩) (hn j q hj)
  rw[this];rfl
def LD(x y:Y1):Txt.find (S x) (S y)=gh (aL y x 0):=by
 unfold Txt.find;rw[mS]
 cases aL y x 0<;>rfl
def Qx(x y:Y1):(!(Builtin.Str.occurrences (S x) (S y) 0 (S x).length 1).isEmpty)=pM y x:=by
 rw[mS];unfold pM
 cases aL y x 0<;>rfl
noncomputable def sL(h:Heap)(d:PyData)(y:Value):Bool:=open Classical in if q:∃e as,Reads h y e as/\e.canLay0=true then ajU q.choose d else ajt
def AP{h:Heap}{d e:PyData}{y:Value}{as:Zs}(r:Reads h y e as)(c:e.canLay0=true):sL h d y=ajU e d:=by
 have q:∃e as,Reads h y e as/\e.canLay0=true:=⟨e,as,r,c⟩
 unfold sL;rw[dif_pos q];obtain⟨as',r',c'⟩:=q.choose_spec;rw[SeqAt.Reads.unique _ _ _ _ _ c r r']
theorem xU{A:Around}{s:Shared}{d:PyData}{v:Value}{bs:Zs}(rv:Reads s.heap v d bs)(cd:d.canLay0=true)(hu:A.units+d.depth<akz):
  ∀{us:Z3}{ds:List PyData}{as:Zs},ReadsAll s.heap us ds as->ds.all ajH=true->∀u∈us,SeqAt.EqAt A s u v (sL s.heap d u)
 |_,_,_,.nil,_=>fun u hu=>by cases hu
 |_,_,_,.cons r t,c=>fun u hu'=>by
  simp only[afr,ael]at c;rcases aek.mp hu' with rfl|hu'
  .rw[AP r c.1];exact SeqAt.eqAt_reads _ _ A s _ _ _ _ r rv c.1 cd (by have:=aiW (ajO ‹PyData›) d.depth;lia)
  .exact xU rv cd hu t c.2 u hu'
theorem yv{h:Heap}{d:PyData}:∀{us:Z3}{ds:List PyData}{as:Zs},ReadsAll h us ds as->ds.all ajH=true->us.any (sL h d)=ds.any fun e=>ajU e d
 |_,_,_,.nil,_=>rfl
 |_,_,_,.cons r t,c=>by simp only[afr,ael]at c;rw[agr,agr,AP r c.1,yv t c.2]
theorem jp:∀l:List PyData,ajK l=l.all ajH
 |[]=>by simp[ajK]
 |x::r=>by simp[ajK,jp r]
theorem qV:∀l:Y2,jN l=l.map toD
 |[]=>by simp[jN]
 |x::r=>by simp[jN,qV r]
def AV(p:PV):Vr [] p=toD p:=by
 unfold Vr
 split
 .simp[toD]
 .rfl
section
variable{w:World}
def yi(l:Addr)(es:Array DictEntry)(n:Nat)(dd:Option Addr)(sl:Array (Option Value))(z:Str)(u:Tok):
  Meets (Builtin.«dict.__eq__» ⟨[.ref l,.str z u],[]⟩) (fun _ R s=>s.heap.get? l=some { cls:=.type "dict",dict:=dd,data:=.dict es n,slots:=sl }/\R (.ok (.ret .notImplemented)) s):=
 .of_wp fun prog w A R s h=>by
  obtain⟨hp,g,d,tk,os⟩:=s;obtain⟨hl,h⟩:=h;have f1:=ah5
  wp_walk using agJ hl
  exact⟨_,rfl,h⟩
def xo(l:Addr)(es:Array DictEntry)(n:Nat)(dd:Option Addr)(sl:Array (Option Value))(z:Str)(u:Tok):
  Meets (Builtin.«str.__eq__» ⟨[.str z u,.ref l],[]⟩) (fun _ R s=>s.heap.get? l=some { cls:=.type "dict",dict:=dd,data:=.dict es n,slots:=sl }/\R (.ok (.ret .notImplemented)) s):=
 .of_wp fun prog w A R s h=>by
  obtain⟨hp,g,d,tk,os⟩:=s;obtain⟨hl,h⟩:=h
  wp_walk using agJ hl,wpAny_load hl
  exact⟨_,rfl,h⟩
end
section
variable{w:Wo}{a b c:Expr}{fc:Ex}
def Hf:Zw X "str.find" lL:=fun{w h p u ps us Q E} I r rs k=>by
 unfold lL at k
 split at k
 .obtain⟨_,rfl⟩:=r.vs;obtain⟨v,rfl,rv⟩:=rs.one;obtain⟨_,rfl⟩:=rv.vs;exact SC.find (by rw[LD];exact k.now I.toHR (.int _ _))
 .exact k.elim
def inB{q:PV}{k:Bool}{op:CmpOp}{neg:Bool}(ho:op= .In/\neg=ajt\/op= .NotIn/\neg=true)(hu:X.A.units+64<akz)(I:Wd X w h)(rp:bx X.toSC w.F w.m p u)(rq:bx X.toSC w.F w.m q v)(e:BS p q h=some k)(fin:∀t,Q (.bool (if neg then !k else k)) { w.s with toks:=t }):Wp X (ajM op u v) Q E w.s:=by
 unfold BS at e
 split at e
 .split at e<;>cases e
  cases rp;obtain⟨_,rfl⟩:=rq.vs
  rw[<- Qx]at fin;rcases ho with⟨rfl,rfl⟩|⟨rfl,rfl⟩
  .exact in_str (fin w.s.toks)
  .exact notIn_str (fin w.s.toks)
 .split at e
  .split at e<;>cases e
   rename_i kk ek;obtain⟨a,kvs,rfl,sm,d,rr⟩:=I.dc rq ‹_›
   have:(yA ‹_› kk).isSome=(akN kvs kk).isSome:=by
    rcases qm rr.2.1 rr.2.2 kk with⟨p1,v1,h1,h2,_⟩|⟨h1,h2⟩
    .rw[h1,h2];rfl
    .rw[h1,h2];rfl
   rw[this]at fin;rcases ho with⟨rfl,rfl⟩|⟨rfl,rfl⟩
   .exact wpAny_in_of (oU rp ek) sm d.mapOf (fin _)
   .exact wpAny_notIn_of (oU rp ek) sm d.mapOf (fin _)
  .split at e
   .split at e
    .rename_i hc
     cases e
     rename_i xs es
     have h1:(toD p).canLay0=true/\(toD p).depth<=60:=by have:=hc.1;unfold Vx at this;simpa[AV]using this
     have h2:ajK (jN xs)=true:=by rw[jp,qV,ahL];rw[aeM]at hc |-;intro z hz;have:=hc.2 z hz;unfold Vx at this;rw[AV,ael]at this;exact this.1
     have h3:(jN xs).all ajH=true:=by rw[<- jp];exact h2
     obtain⟨t,e,ht⟩:=yI es;obtain⟨a,k_,rfl,y,z,r⟩:=I.sq rq e;obtain⟨as,ra⟩:=bx.reads I.toHR rp h1.1;obtain⟨bs,rb⟩:=aO.reads I.toHR r h2
     have en:(xs.any fun y=>ajU (toD y) (toD p))=k_.any (sL w.s.heap (toD p)):=by rw[show k_.any (sL w.s.heap (toD p))=k_.toList.any (sL w.s.heap (toD p)) by simp,yv rb h3,qV,List.any_map];rfl
     rw[en]at fin;have me:=fun{B:Around}(hB:B.units+(toD p).depth<akz)(x:Value)(hx:x∈k_)=>xU (A:=B) ra h1.1 hB rb h3 x (by simpa using hx);have hb:X.A.in1.units+(toD p).depth<akz:=by show X.A.units+1+_<_;lia
     rcases ht with rfl|rfl<;>rcases ho with⟨rfl,rfl⟩|⟨rfl,rfl⟩
     .exact SeqAt.in_tupleAt (sL w.s.heap (toD p)) y.tup (fun x hx=>me hb x hx) (fin _)
     .exact SeqAt.notIn_tupleAt (sL w.s.heap (toD p)) y.tup (fun x hx=>me hb x hx) (fin _)
     .exact SeqAt.in_listAt (sL w.s.heap (toD p)) y.pl.isList (fun x hx=>me hb x hx) (fin _)
     .exact SeqAt.notIn_listAt (sL w.s.heap (toD p)) y.pl.isList (fun x hx=>me hb x hx) (fin _)
    .cases e
   .cases e
def MF(hu:X.A.units+64<akz):Xa X (ajM .In) Wz:=fun{w h p q u v Q E} I rp rq k=>by
 unfold Wz at k
 split at k
 .exact inB (.inl ⟨rfl,rfl⟩) hu I rp rq ‹_› fun t=>k.now I.toHR (.bl _)
 .exact k.elim
def vT(hu:X.A.units+64<akz):Xa X (ajM .NotIn) gW:=fun{w h p q u v Q E} I rp rq k=>by
 unfold gW at k
 split at k
 .exact inB (.inr ⟨rfl,rfl⟩) hu I rp rq ‹_› fun t=>k.now I.toHR (.bl _)
 .exact k.elim
def MH(hu:X.A.units+64<akz):Xa X (ajM .Eq) pX:=fun{w h p q u v Q E} I rp rq k=>by
 unfold pX at k
 split at k
 .split at k
  .obtain⟨_,rfl⟩:=rq.vs;rename_i z t;obtain⟨a,kvs,rfl,sm,⟨o,es,ep,h1,h2,h3,_⟩,_⟩:=I.dc rp rfl;obtain⟨oc,od,odt,Zm⟩:=o;have hc:oc=.type "dict":=h2.1;dsimp only at h3;subst hc h3;show ajD _ _ (richCompare .Eq _ _) _ _ _
   exact SeqAt.rc_eq_decline_or (k:=ajt) ⟨_,h1,rfl⟩ (agI w.s _ t) ⋯ ah5 ah6 ahn
    (fun _ hq=>agt ah6 ⟨_,h1,rfl⟩ PySem.F.entry_dict_eq (PySem.F.args_dict_eq_2 _ _) (yi a _ _ _ _ _ t) ⟨h1,hq⟩)
    (fun _ hq=>agt ahn (agI w.s _ t) PySem.F.entry_str_eq (PySem.F.args_str_eq_2 _ _) (xo a _ _ _ _ _ t) ⟨h1,hq⟩)
    (fun _ hq=>agh (rfl:isSame (.ref a) (.str _ t)=pure ajt) hq) (.inr ⋯) (k.here I.toHR (.bl _))
  .exact k.elim
 .exact Ki hu I rp rq k
end
section
variable{w:Wo}{a b c:Expr}{fc:Ex}{op op':CmpOp}{g g':PV->PV->Y3->Res PV}
theorem xG(o:Xa X (ajM op) g)(o':Xa X (ajM op') g')(ha:RE X a fa)(hb:RE X b fb)(hc:RE X c fc)(hm:lastMarks [op,op'] [b,c]=ajt:=by with_unfolding_all rfl):RE X (.Compare a [op,op'] [b,c] pos) (fD g g' fa fb fc):=⟨fun I p=>Compare_chain (ha.r I (p.bind fun _ _ _ _ y1 r1 p=>chain_link (hb.r (I.on y1) (p.bind fun _ _ _ _ y2 r2 p=>o ((I.on y1).on y2).toWd (y2.1.rep r1) r2 (p.bind fun _ _ z _ y3 r3 p=>by
 cases r3 with
 |bl k=>
  refine afK ?_
  cases k with
  |false=>exact ite_ff (p.here y3.2 (.bl ajt))
  |true=>exact ite_tt (chain_last (hc.r (((I.on y1).on y2).on y3) (p.bind fun _ _ _ _ y4 r4 p=>o' ((((I.on y1).on y2).on y3).on y4).toWd (y4.1.rep (y3.1.rep r2)) r4 p)))
 |_=>exact p.elim))))) hm⟩
end
section
variable{w:Wo}
def cf.Zx{pv:PV}{t:String}{k_:Array Value}(p:cf X (RV X.toSC) w Q E (.ok pv h))(H:HR X.toSC w h)(na:w.s.heap.get? a=none)(kp:∀b o,w.s.heap.get? b=some o->s'.heap.get? b=some o)(e:s'.heap.get? a=some { cls:=.type t,data:=.seq k_ n })(k:sqT pv=some (t,ps))(r:aO X.toSC w.F w.m ps k_.toList)(z:k_.size<=ajx)(ho:s'.os=w.s.os:=by rfl)(hg:s'.gens=w.s.gens:=by rfl):Q (.ref a) s':=
 have y:=Nw.lay (X:=X) H na kp e ho hg
 p.2 _ _ y (.sq k bT z (y.1.reps r))
def GU:Yh X (.type "tuple") vQ:=fun ok {w h p u Q E} I rs k=>by
 unfold vQ at k
 split at k
 .obtain⟨u,rfl,r1⟩:=rs.one;show Wp X (call (.type "tuple") [u]) Q E w.s
  split at k
  .rename_i e;have sl:=afW;unfold Z0 at e
   split at e
   .cases e
    obtain⟨a,k_,rfl,y,z,r⟩:=I.sq r1 rfl;exact call_tuple_same y.tup (k.here I.toHR r1)
   .obtain⟨a,k_,rfl,y,z,r⟩:=I.sq r1 (jP e);refine call_tuple_list y.pl.isList (fun h' kp=>?_) ⋯
    have na:w.s.heap.get? h'.objs.size=none:=by
     cases q:w.s.heap.get? h'.objs.size with
     |none=>rfl
     |some o=>have:=kp _ _ q;rw[bG]at this;cases this
    exact k.Zx I.toHR na (fun b o e=>aem _ (kp b o e)) (aey _ rfl) rfl r z
  .exact k.elim
 .exact k.elim
end
section
variable{w:Wo}{a:Expr}{p3:Pos}
theorem pQ{F:Fz}{m:Zs}:∀{ps:Y2}{us:Z3}{bs:List Bool},jI ps=some bs->aO G F m ps us->LSm.BoolsAre us bs
 |[],_,_,e,.nil=>by cases e;exact .nil
 |p::r,_,bs,e,.cons rp t=>by
  cases p with
  |bl b=>simp only[jI,ae2]at e;obtain⟨bs',e1,rfl⟩:=e;obtain rfl:=rp.vb;exact .cons _ (pQ e1 t)
  |_=>simp[jI]at e
def MI(hc:X.calm=true):Yh X (.builtin "all") GQ:=fun ok {w h p u Q E} I rs k=>by
 unfold GQ at k
 split at k
 .obtain⟨u,rfl,r1⟩:=rs.one
  split at k
  .split at k
   .obtain⟨a,k_,rfl,y,z,r⟩:=I.sq r1 (jP ‹_›);have hb:=pQ ‹_› r;have hl:=y.pl.isList;have ZF:a<w.s.heap.objs.size:=by obtain⟨_,e,_⟩:=hl;exact aeT e
    show Wp X (call (.builtin "all") [.ref a]) Q E w.s;rename_i bs _
    refine call_all_walk (aiC hl ⟨w.s.heap.objs.size,[w.s.heap.objs.size,a],[w.s.heap.objs.size],k_.size,_,_,fun i=>(bs[i]?).getD true,rfl,Walks.list (A:=X.A.in1) (ok.hd hc) _ a (afH ZF) k_,
     ⟨⟨_,aey _ rfl,rfl,rfl⟩,hl.push _⟩,fun i v s' Q' E' hP hQ=>?_,fun h' tk hk=>?_⟩)
    .obtain⟨b,e,rfl⟩:=hb.get i v (by simpa using hP);simp only[e,aiT]at hQ;exact afK hQ
    .have e:((ajy k_.size).all fun i=>(bs[i]?).getD true)=bs.all id:=by rw[show k_.size=bs.length from hb.length];exact LSm.range_all bs
     rw[e];have n:=Nw.also (X:=X) (s':={ w.s with heap:=h',toks:=tk }) I.toHR (LSm.kept_iter hk);exact k.2 _ _ n (.bl _)
   .exact k.elim
  .exact k.elim
 .exact k.elim
end
section
variable{w:World}{s:Shared}{it t:Addr}
def xM(hit:s.heap.IsTupleIter it t i)
  (go:ajD (ajC prog w) A.in1 (Builtin.«tuple_iterator.__next__» ⟨[.ref it],[]⟩) (fun fin s'=>∃v,fin=.done (.ret v)/\Q v s') E s):ajD (ajC prog w) A (Builtin.SmallTypes.nextOf (.ref it)) Q E s:=by
 have ty:=hit.typeIs;have c:=afL (E:=E) (name:="__next__") (Q:=fun r s'=>∃v,r=some v/\Q v s') ty F.slot_tuple_iterator_next (af4 F.slot_tuple_iterator_next ty F.entry_tuple_iterator_next (afi go ((by rintro fin s' ⟨v,e,q⟩;exact ⟨v,e,v,rfl,q⟩)) fun _ _ z=>z) (F.args_tuple_iterator_next_1 _));unfold Builtin.SmallTypes.nextOf;exact aeg (afi c ((by rintro r s' ⟨v,e,q⟩;subst e;exact aeu q)) fun _ _ z=>z)
def BJ{x:Value}(hit:s.heap.IsTupleIter it t i)(ht:s.heap.IsTuple t items)(hx:items[i]? =some x)(hQ:∀h',h'.IsTupleIter it t (i+1)->aj9 it s.heap h'->Q x { s with heap:=h' }):
  ajD (ajC prog w) A (Builtin.«tuple_iterator.__next__» ⟨[.ref it],[]⟩) (fun fin s'=>∃v,fin=.done (.ret v)/\Q v s') E s:=by
 obtain⟨o,ho,hc,hd⟩:=id hit;obtain⟨p,hp,_,n,hdp⟩:=ht;have nn:¬ ((Value.ref t==Value.none)=true):=af9;refine(show ajD (ajC prog w) A (field (.ref it) 0 >>= _) _ E s from aeg (afI ho hd (x:=.ref t) rfl ?_));refine(show ajD (ajC prog w) A (if(Value.ref t==Value.none)=true then _ else _) _ E s from ?_);rw[ajB nn];refine(show ajD (ajC prog w) A (field (.ref it) 1 >>= _) _ E s from aeg (afI ho hd (x:=.int i 0) rfl ?_));refine(show ajD (ajC prog w) A (seqItems? (.ref t) >>= _) _ E s from aeg (wpAny_seqItems hp hdp ?_));simp only[ae7,hx];have st:∀f,(o.mapFields f).data=.fields (f #[.ref t,.int i 0]):=fun f=>afF hd f;refine aeg (agx ho hd (by simp) (aeu ⟨x,rfl,hQ _ ⟨_,afo _ ho (agF (afF hd _)),?_,?_⟩ (af3 ..)⟩))
 .rw[aiI];exact hc
 .rw[afF hd];simp[akh]
def Dq{Q:Fin->Shared->Prop}(hh:A.handled=none)(hit:s.heap.IsTupleIter it t i)(ht:s.heap.IsTuple t items)(hx:items[i]? =none)
  (hE:∀h' e,Heap.ExtBut it s.heap h'->(∃o,h'.get? e=some o/\o.cls=.type "StopIteration")->E (.ref e) { s with heap:=h' }):
  ajD (ajC prog w) A (Builtin.«tuple_iterator.__next__» ⟨[.ref it],[]⟩) Q E s:=by
 obtain⟨o,ho,hc,hd⟩:=id hit;obtain⟨p,hp,_,n,hdp⟩:=ht;have nn:¬ ((Value.ref t==Value.none)=true):=af9;refine(show ajD (ajC prog w) A (field (.ref it) 0 >>= _) _ E s from aeg (afI ho hd (x:=.ref t) rfl ?_));refine(show ajD (ajC prog w) A (if(Value.ref t==Value.none)=true then _ else _) _ E s from ?_);rw[ajB nn];refine(show ajD (ajC prog w) A (field (.ref it) 1 >>= _) _ E s from aeg (afI ho hd (x:=.int i 0) rfl ?_));refine(show ajD (ajC prog w) A (seqItems? (.ref t) >>= _) _ E s from aeg (wpAny_seqItems hp hdp ?_));simp only[ae7,hx];refine aeg (wpAny_rule (aeg (agx ho hd (by simp) (aeg ?_))));simp only[newExc,newTuple];refine aeg (afb (aeg (m:=akt _ _) (agh (a:=Value.none) (by first|rfl|(simp only[akt];rfl)) (afb ?_ (by size_fits)))) (by size_fits));simp only[raiseNew];refine aeg (wpAny_handled ?_);rw[hh];exact aeg (aeu (wpAny_throw (hE _ _ (((af3 ..).extBut.push _).push _) ⟨_,aey _ rfl,rfl⟩)))
def KZ(hh:A.handled=none)(ne:t≠it):Draws prog w A.in1 it [it,t] items.size (fun j v=>items[j]? =some v) (fun j h=>h.IsTupleIter it t j/\h.IsTuple t items) where
 live:=fun j h st=>by obtain⟨o,ho,_⟩:=st.1;exact⟨o,ho⟩
 frame:=fun j h h' st k=>by obtain⟨⟨o,ho,r⟩,⟨p,hp,q⟩⟩:=st;exact⟨⟨o,k _ (by simp) o ho,r⟩,⟨p,k _ (by simp) p hp,q⟩⟩
 item:=fun j s Q E hj st hQ=>xM st.1 (BJ st.1 st.2 (x:=items[j]) (by simp[hj]) fun h' st' sb=>hQ _ h' s.toks (by simp[hj]) ⟨st',st.2.extBut sb.extBut ne⟩ sb)
 done:=fun s Q E st hE=>xM st.1 (Dq (A:=A.in1.in1) hh st.1 st.2 (by simp) hE)
noncomputable def AQ(a:Addr):Obj:={ cls:=.type "enumerate",data:=.fields #[.none,.bool ajt,.ref a,akh 0,.none,.none] }
noncomputable def yE(a:Addr):Obj:={ cls:=.type "tuple_iterator",data:=.fields #[.ref a,.int 0 0] }
def Ce(a:Addr)(xs:Array Value)(o:Obj)(hc:o.cls=.type "tuple")(n:Nat)(hd:o.data=.seq xs n):Meets (Builtin.«enumerate.__new__» ⟨[.type "enumerate",.ref a],[]⟩) (fun _ R s=>s.heap.get? a=some o/\
   R (.ok (.ret (.ref (s.heap.push (yE a)).objs.size))) { s with heap:=(s.heap.push (yE a)).push (AQ s.heap.objs.size) }):=
 .of_wp fun P1 w1 A1 R s ⟨hl,h⟩=>by
  cases s with
  |mk hp gs dd tk os=>
  have sub:=sub_enumerate;have tt:Heap.IsTuple hp a xs:=⟨o,hl,hc,n,hd⟩
  wp_walk using ae8 hl
  refine wpAny_stack_any fun st=>aeu ?_
  split
  .rename_i c _ _ _ _ _
   by_cases e:(c==Value.type "enumerate")=true
   .rw[e];wp_walk using ae8 hl,ags tt;exact⟨_,rfl,h⟩
   .rw[Bool.not_eq_true]at e;rw[e];wp_walk using ae8 hl,ags tt;exact⟨_,rfl,h⟩
  .wp_walk using ae8 hl,ags tt;exact⟨_,rfl,h⟩
def zL(ht:s.heap.IsTuple t items)(h:Q (.ref (s.heap.objs.size+1)) { s with heap:=(s.heap.push (yE t)).push (AQ s.heap.objs.size) }):ajD (ajC prog w) A (call (.type "enumerate") [.ref t]) Q E s:=by obtain⟨o,ho,hc,n,hd⟩:=ht;have z:(s.heap.push (yE t)).objs.size=s.heap.objs.size+1:=agl ..;have g:=aey (s.heap.push (yE t)) (o:=AQ s.heap.objs.size) rfl;refine callType_new F.called_enumerate ⋯ (F.typeCall_enumerate_1 _) (F.newCall_enumerate_1 _) (fun obj=>F.args_object_init_2 obj _) F.entry_enumerate_new (Ce t items o hc n hd) ⟨ho,?_⟩;exact⟨⟨_,g,rfl⟩,by rw[z];exact h⟩
end
structure Zap(z ti to i1 i2:Addr)(f1 f2:Zs):Prop where
 a1:ti≠z
 a2:to≠z
 a3:i1≠z
 a4:i2≠z
 a5:ti≠to
 a6:ti≠i1
 a7:ti≠i2
 a8:to≠i1
 a9:to≠i2
 z1:z∉f1
 z2:z∉f2
 t1:to∉f1
 t2:to∉f2
 o1:i2∉f1
 o2:i1∉f2
noncomputable def Vi:Nat->Y2->Y2
 |_,[]=>[]
 |n,x::r=>.tup [.int n,x]::Vi (n+1) r
def ET(ps:Y2)(h:Y3):Res Y2:=match ps with
 |[.tup xs]=>.ok (Vi 0 xs) h
 |[.lst xs]=>.ok (Vi 0 xs) h
 |_=>.bad
def vf(f:Ax):Ax:=fun ρ h=>(f ρ h).bind ET
section
variable{w w0:Wo}{fp:Zs}{b e it:Addr}{k_ jts:Array Value}{xs ys:Y2}{J:Nat->Heap->Prop}{elts:List Expr}
theorem AS:∀{xs:Y2}{n i:Nat}{p:PV},(Vi n xs)[i]? =some p->∃x,xs[i]? =some x/\p=.tup [.int ((n+i:Nat):Int),x]
 |[],_,_,_,e=>by simp[Vi]at e
 |x::r,n,0,p,e=>by cases e;exact⟨x,rfl,rfl⟩
 |x::r,n,i+1,p,e=>by obtain⟨y,e1,rfl⟩:=AS (xs:=r) (n:=n+1) (i:=i) e;exact⟨y,e1,by rw[show n+1+i=n+(i+1) by lia]⟩
theorem AR:∀(xs:Y2)(n:Nat),(Vi n xs).length=xs.length
 |[],_=>rfl
 |x::r,n=>by simp[Vi,AR r]
def zZ(H:HR G w h)(f:∀b∈fp,∃o,Has w b o)(k:∀b o,b∉fp->w.s.heap.get? b=some o->s'.heap.get? b=some o)(ho:s'.os=w.s.os:=by rfl)(hg:s'.gens=w.s.gens:=by rfl):Pv fp w { w with s:=s' }/\HR G { w with s:=s' } h:=
 ⟨⟨ho,fun q=>hg▸q,fun _ _ e=>e,fun _ _ e=>e,⟨[],by simp⟩,fun b o n e=>⟨o,k b o n e⟩,fun b o n q=>⟨k b o n q.1,q.2⟩⟩,H.on fun b o e z=>k b o (fun q=>let⟨_,r⟩:=f b q;z r.2) e⟩
def FY(H:HR G w h)(f:∀b∈fp,∃o,Has w b o)(n:w.s.heap.get? a=none)(k:∀b o,b∉fp->w.s.heap.get? b=some o->s'.heap.get? b=some o)(e:s'.heap.get? a=some o)(ho:s'.os=w.s.os:=by rfl)(hg:s'.gens=w.s.gens:=by rfl):Pv fp w ⟨jj w.F a o,w.O,w.m,s'⟩/\HR G ⟨jj w.F a o,w.O,w.m,s'⟩ h:=by
 obtain⟨x,y⟩:=zZ H f k ho hg;have na:∀{b o},w.s.heap.get? b=some o->b≠a:=fun q z=>by rw[z,n]at q;cases q
 have hF:=(H.free n).2.1;exact⟨⟨ho,fun q=>hg▸q,dQ hF,fun _ _ e=>e,⟨[],by simp⟩,x.dom,fun b o n q=>let⟨q1,q2⟩:=x.keep b o n q;⟨q1,q2.1,dR (na q.1) q2.2.1,q2.2.2⟩⟩,y.freeze ⟨e,H.free n⟩⟩
structure Sq(G:SC)(w0:Wo)(a it:Addr)(k_:Array Value)(J:Nat->Heap->Prop):Prop where
 keep:∀j g g',J j g->(∀o,g.get? it=some o->g'.get? it=some o)->J j g'
 ob:∀j g,J j g->∃o,g.get? it=some o
 dr:∀{A:Around}{w:Wo}{h:Y3},A.handled=none->X8 w0 w->HR G w h->∃S,Draws G.prog G.w A.in1 it [it,a] k_.size (fun j v=>k_[j]? =some v) S/\(∀j,J j w.s.heap->S j w.s.heap)/\∀j g,S j g->J j g
def Jp(ne:a≠it)(e:w0.F a=some { cls:=.type "tuple",data:=.seq k_ n }):Sq G w0 a it k_ (fun j g=>g.IsTupleIter it a j) where
 keep:=(by rintro j g g' ⟨o,ho,r⟩ k;exact ⟨o,k o ho,r⟩)
 ob:=(by rintro j g ⟨o,ho,_⟩;exact ⟨o,ho⟩)
 dr hh l H:=⟨_,KZ hh ne,fun j q=>⟨q,⟨_,H.at (l.1 _ _ e),rfl,_,rfl⟩⟩,fun j g q=>q.1⟩
def Jq(ne:a≠it)(e:w0.F a=some { cls:=.type "list",data:=.seq k_ n }):Sq G w0 a it k_ (fun j g=>g.IsListIter it a j) where
 keep:=(by rintro j g g' ⟨o,ho,r⟩ k;exact ⟨o,k o ho,r⟩)
 ob:=(by rintro j g ⟨o,ho,_⟩;exact ⟨o,ho⟩)
 dr {A w h} hh l H:=⟨_,Draws.list (A:=A.in1) hh it a ne k_,fun j q=>⟨q,⟨_,H.at (l.1 _ _ e),rfl,_,rfl⟩⟩,fun j g q=>q.1⟩
def Hx(S:Sq G w0 a it k_ J)(r:aO G w0.F w0.m xs k_.toList)(ne:e≠it)(n1:a≠e):FI G w0 (.Tuple elts k pos) (Vi 0 xs) e [e,it] (fun i g=>(∃old,IsEnum g e it i old)/\J i g) where
 keep l1 H1 l2 H2 st q:=by obtain⟨⟨old,he⟩,hi⟩:=st;exact⟨⟨old,q e (by simp) _ he⟩,S.keep _ _ _ hi fun o ho=>q it (by simp) _ ho⟩
 item {A w h i p Q E} hh l H st hx f q:=by
  obtain⟨⟨old,he⟩,hi⟩:=st;obtain⟨x,ex,rfl⟩:=AS hx;obtain⟨u,hu,ru⟩:=r.get ex;obtain⟨St,D,t1,t2⟩:=S.dr hh l H;have ZF:i<k_.size:=(aer.mp hu).1;refine wpAny_pyNext_enum_itemD D he (t1 _ hi) ZF ne (by simp[ne,ag3 n1]) fun u' h' tk hu' ho hi' ht hsz hk=>⟨_,rfl,?_⟩
  have:u'=u:=by rw[Array.getElem?_toList]at hu;rw[hu]at hu';cases hu';rfl
  subst this;refine wpAny_letOwnedTupleGo_enum ho fun h2 he2 sb=>?_;have lt:e<w.s.heap.objs.size:=aeT he
  have kk:∀b o,b∉ [e,it]->w.s.heap.get? b=some o->h2.get? b=some o:=fun b o nb q=>by simp only[aek,aeO,ajP,not_or]at nb;exact(sb.2 b nb.1).trans (hk b o nb.1 nb.2 q)
  have ht2:h2.get? w.s.heap.objs.size=some { cls:=.type "tuple",data:=.seq #[.int i tk,u'] }:=(sb.2 _ (aiJ lt)).trans ht;obtain⟨a1,a2⟩:=FY (s':={ w.s with heap:=h2,toks:=tk+1 }) H f (bG _) kk ht2;have hi2:J (i+1) h2:=S.keep _ _ _ (t2 _ _ hi') fun o q=>(sb.2 it (ag3 ne)).trans q
  have fr:∀b∈ [e,it],∃o,Has ⟨jj w.F w.s.heap.objs.size { cls:=.type "tuple",data:=.seq #[.int i tk,u'] },w.O,w.m,{ w.s with heap:=h2,toks:=tk+1 }⟩ b o:=fun b hb=>by
   obtain⟨o,q⟩:=f b hb;have nb:b≠w.s.heap.objs.size:=fun z=>by have q:=q.1;rw[z,bG]at q;cases q
   have:∃o,h2.get? b=some o:=by
    simp only[aek,aeO,ajP]at hb;rcases hb with rfl|rfl
    .exact⟨_,he2⟩
    .exact S.ob _ _ hi2
   obtain⟨o',q'⟩:=this;exact⟨o',q',q.2.1,dR nb q.2.2.1,q.2.2.2⟩
  refine q _ _ a1 a2 ⟨⟨u',by simpa using he2⟩,hi2⟩ fr ?_;exact .tup bT (by show 2<=ajx;decide) (.cons (by simpa using .int i tk) (.cons ((ru.mono l.1 (.inr l.2)).mono (dQ (H.free (bG _)).2.1) (.inr fun _ _ e=>e)) .nil))
 done {A w h i Q E} hh l H st hx f q:=by
  obtain⟨⟨old,he⟩,hi⟩:=st;obtain⟨St,D,t1,t2⟩:=S.dr hh l H;rw[AR,r.len]at hx;subst hx;refine wpAny_pyNext_enum_endD D he (t1 _ hi) fun h' eb=>⟨rfl,?_⟩
  obtain⟨a1,a2⟩:=zZ (fp:=[e,it]) (s':={ w.s with heap:=h' }) H f fun b o nb q=>eb b o (by simp only[aek,aeO,ajP,not_or]at nb;exact nb.2) q;exact q _ a1 a2
 self hh st q:=by obtain⟨⟨old,he⟩,hi⟩:=st;exact ahh he q
variable{f:Ax}{ae be:Expr}
theorem Yi.of{tn:Nat->Heap->Prop}{h':Heap}{tk:Nat}(I:Inv X w ρ h)(y:Sd X.fs Xq w0 w)(kp:∀b o,w.s.heap.get? b=some o->h'.get? b=some o)(T:FI X.toSC w tg xs it fp tn)(t:tn 0 h')(fr:∀b∈fp,w.s.heap.objs.size<=b/\∃o,h'.get? b=some o)(p:cf X (Yi X tg w0) w Q E (.ok xs h)):Q (.ref it) { w.s with heap:=h',toks:=tk }:=by
 have n:=Nw.also (X:=X) (s':={ w.s with heap:=h',toks:=tk }) I.toHR kp;refine p.2 _ _ n ⟨_,fp,tn,rfl,⟨T.keep,T.item,T.done,T.self⟩,t,fun b hb=>?_⟩;obtain⟨l,o,q⟩:=fr b hb
 have nb:w.s.heap.get? b=none:=by
  cases q:w.s.heap.get? b with
  |none=>rfl
  |some o=>exact absurd (afu (aeT q) l) (agf _)
 refine⟨⟨o,q,I.toHR.free nb⟩,I.out nb,?_⟩
 cases q:w0.s.heap.get? b with
 |none=>rfl
 |some o=>obtain⟨o',q'⟩:=y.dom _ _ q;rw[nb]at q';cases q'
def Gw(hg:Gl X "enumerate")(hm:X.mg "enumerate"=none)(ha:RA X [ae] f)(hs:ajF [ae] X.env= [(ajt,eval ae X.env)]:=by rfl):RI X (.Tuple elts k pos) (.Call (.Name "enumerate" p0) [ae] [] p1) (vf f):=⟨fun{w0 ρ h Q E} I p=>Call_ (I.blt hg hm (show ajV "enumerate"=some (.type "enumerate") by decide+kernel) (afQ (ha.r p1 I (p.bind fun w1 h1 ps us y r p=>by
 have fin:∀{a:Addr}{k_:Array Value}{J:Nat->Heap->Prop}{xs:Y2}{h':Heap},Sq X.toSC w1 a w1.s.heap.objs.size k_ J->aO X.toSC w1.F w1.m xs k_.toList->a<w1.s.heap.objs.size->(∀b o,w1.s.heap.get? b=some o->h'.get? b=some o)->IsEnum h' (w1.s.heap.objs.size+1) w1.s.heap.objs.size 0 .none->J 0 h'->cf X (Yi X (.Tuple elts k pos) w0) w1 Q E (.ok (Vi 0 xs) h1)->Q (.ref (w1.s.heap.objs.size+1)) { w1.s with heap:=h',toks:=w1.s.toks }:=fun{a k_ J xs h'} S rr la kk hE hJ p=>Yi.of (tk:=w1.s.toks) (I.on y) y.1 kk (Hx (elts:=elts) (k:=k) (pos:=pos) S rr (Nat.succ_ne_self _) (afH (agA la))) ⟨⟨_,hE⟩,hJ⟩ (fun b hb=>by
  simp only[aek,aeO,ajP]at hb;rcases hb with rfl|rfl
  .exact⟨agQ _,_,hE⟩
  .exact⟨aeB _,S.ob _ _ hJ⟩) p
 unfold ET at p
 split at p
 .obtain⟨u,rfl,r1⟩:=r.one
  cases r1 with
  |tup e z rr=>rename_i a k_ n;have t:=y.2.at e;have la:=aeT t;refine zL (t:=a) (items:=k_) ⟨_,t,rfl,_,rfl⟩ ?_;have zz:(w1.s.heap.push (yE a)).objs.size=w1.s.heap.objs.size+1:=agl ..;have g:=aey (w1.s.heap.push (yE a)) (o:=AQ w1.s.heap.objs.size) rfl;rw[zz]at g;exact ahh (it:=w1.s.heap.objs.size) (i:=0) (old:=.none) g (fin (Jp (afH la) e) rr la (fun b o e=>aem _ (aem _ e)) g ⟨_,aem _ (aey _ rfl),rfl,rfl⟩ p)
 .obtain⟨u,rfl,r1⟩:=r.one
  cases r1 with
  |lst e z rr=>rename_i a k_ n;have t:=y.2.at e;have la:=aeT t;exact call_enumerate_list (items:=k_) ⟨_,t,rfl,_,rfl⟩ fun h2 hE hI hsz kk=>ahh hE (fin (Jq (afH la) e) rr la kk hE hI p)
 .exact p.elim)) hs rfl))⟩
end
noncomputable def AE:PV->Option (Nat×Bool)
 |.ins C _=>some (C,ajt)
 |.exc C=>some (C,true)
 |.N6 C _=>some (C,true)
 |_=>none
noncomputable def CP(sC:Nat->Nat->Option Bool)(sT:Nat->String->Option Bool)(C:Nat):PV->Option Bool
 |.cls D=>sC C D
 |.ty t=>sT C t
 |_=>none
def GP(kd:Nat->Option Bool)(sC:Nat->Nat->Option Bool)(sT:Nat->String->Option Bool)(ps:Y2)(h:Y3):Res PV:=match ps with
 |[p,q]=>match AE p with
  |some (C,b)=>if kd C=some b then(match CP sC sT C q with
   |some r=>.ok (.bl r) h
   |none=>.bad)else .bad
  |none=>.bad
 |_=>.bad
noncomputable def AC:List (Nat×Nat×Bool)->Nat->Nat->Option Bool
 |[],_,_=>none
 |(a,b,r)::l,C,D=>if a=C/\b=D then some r else AC l C D
def Ol(P:Nat->Nat->Bool->Prop):List (Nat×Nat×Bool)->Prop
 |[]=>True
 |(a,b,r)::l=>P a b r/\Ol P l
theorem uo{P:Nat->Nat->Bool->Prop}:∀{l:List (Nat×Nat×Bool)}{C D:Nat}{r:Bool},Ol P l->AC l C D=some r->P C D r
 |[],_,_,_,_,e=>by cases e
 |(a,b,q)::l,C,D,r,h,e=>by
  unfold AC at e
  split at e
  .rename_i z;obtain⟨rfl,rfl⟩:=z
   cases e
   exact h.1
  .exact uo h.2 e
structure wS(K:ajZ):Prop where
 get:W.specialIn K (.builtin "object.__class__") "__get__"=some (some (.builtin "getset_descriptor.__get__"))
 tk:W.takesIn K (.builtin "object.__class__")=some true
structure nu(K:ajZ)(C:Addr):Prop where
 at_:ajJ K (.ref C) "__class__"=some (some (.builtin "object.__class__"))
 mo:W.mroIn K C (.type "object")=some true
 is_:(W.clsIn K C).isSome=true
def nW{K:ajZ}(g:wS K)(c:nu K C)(x:wO K C):W.KitX K (.ref a) (.ref C) (fun h=>∃o vs,h.get? a=some o/\o.cls=.ref C/\o.data=.fields vs):=by
 obtain⟨cd,Yp⟩:=af0.mp c.is_
 obtain⟨oc,od,Zm,hlk⟩:∃oc od Zm,K.lookup C=some ⟨oc,od,.cls cd,Zm⟩:=by
  unfold W.clsIn at Yp
  split at Yp
  .rename_i c1 d1 cd1 s1 z;cases Yp;exact⟨_,_,_,z⟩
  .cases Yp
 have ty:∀(M:Model)(h:Heap),(∃o vs,h.get? a=some o/\o.cls=.ref C/\o.data=.fields vs)->akU M h (akA (.ref a)) (.ref C):=(by rintro M h ⟨o,vs,h1,h2,_⟩;exact h2▸(ajc h1).andThen .now);refine⟨fun M h _ p=>ty M h p,fun M h Tz _=>?_,fun h tp dd k_ n sl Tz htp=>?_,fun{prog w A E Q s} Tz p q=>?_⟩
 .intro A' Q' E' s' k z;unfold isType loadHead;exact aeg (ah1 (k _ _ (Tz _ _ hlk)) (aeu z))
 .refine aiP.mpr fun z=>?_
  cases ajS.mp z
  have:=(Tz _ _ hlk).symm.trans htp
  cases this
 .exact FS x Tz (ty _ _ p) c.at_ g.get g.tk c.mo q
structure FJ(K:ajZ)(T:Nat->Option Addr)(kd:Nat->Option Bool)(sC:Nat->Nat->Option Bool)(sT:Nat->String->Option Bool):Prop where
 g:wS K
 ins:∀C a,kd C=some ajt->T C=some a->Cls K a/\nu K a
 exc:∀C a,kd C=some true->T C=some a->wO K a/\nu K a
 cls:∀C D a b r,sC C D=some r->T C=some a->T D=some b->ajT K (.ref a) (.ref b)=some r
 ty:∀C t a r,sT C t=some r->T C=some a->ajT K (.ref a) (.type t)=some r
section
variable{w w0:Wo}
def MD(tb:FJ X.K X.T kd sC sT):Yh X (.builtin "isinstance") (GP kd sC sT):=fun ok {w h p u Q E} I rs k=>by
 unfold GP at k
 split at k
 .obtain⟨u,v,rfl,r1,r2⟩:=rs.two
  split at k
  .rename_i C bb kp
   split at k
   .rename_i hk
    split at k
    .rename_i b e;show Wp X (call (.builtin "isinstance") [u,v]) Q E w.s;have fin:∀tk,Q (.bool b) { w.s with toks:=tk }:=fun tk=>k.now I.toHR (.bl _);have KI:=I.UJ ok
     have Z7:∀{Ca:Addr},X.T C=some Ca->ajT X.K (.ref Ca) v=some b:=fun{Ca} t=>by
      unfold CP at e
      split at e
      .cases r2 with|cls c=>exact tb.cls _ _ _ _ _ e t c
      .cases r2;exact tb.ty _ _ _ _ e t
      .cases e
     unfold AE at kp
     split at kp<;>cases kp
     .cases r1 with
      |ins c e1 d n=>obtain⟨cl,kc⟩:=tb.ins _ _ hk c;obtain⟨od,J,_⟩:=OM.look (fs:=[]) ⟨I.toHR.at e1,_,I.toHR.at d,n⟩;exact agn (W.kitx_own cl.pg cl.hd kc.at_ tb.g.get tb.g.tk kc.mo) KI J (Z7 c) nofun fin
     .cases r1 with
      |exc c e1 oc d=>obtain⟨xc,kc⟩:=tb.exc _ _ hk c;exact agn (nW tb.g kc xc) KI ⟨_,_,I.toHR.at e1,oc,d⟩ (Z7 c) nofun fin
     .cases r1 with
      |N6 c e1 oc d _ _ _ _ _=>obtain⟨xc,kc⟩:=tb.exc _ _ hk c;exact agn (nW tb.g kc xc) KI ⟨_,_,I.toHR.at e1,oc,d⟩ (Z7 c) nofun fin
    .exact k.elim
   .exact k.elim
  .exact k.elim
 .exact k.elim
end
section
variable{w:Wo}
def xB{elt:Expr}{it:Ax}{te:Ex}{M vs:Zl}{g:Gx}{py WW:Pos}{y:Str}(t_:Y1)(hc:X.calm=true)(S:hZ X.N X.env.scope scope t_ vs M)(hi:RI X tg iter it)(hg:∀cl C,RG (bU X M scope cl C) tg g)(ht:∀cl C,YS (bU X M scope cl C) ifs tt)(he:∀cl C,RE (bU X M scope cl C) elt te)
  (gm:∀q cp ρ1,g q (aju vs.length none++cp)=some ρ1->∃l,l.length=vs.length/\ρ1=l++cp) (hy:X.N[iy]? =some y) (hLy:X.env.scope.names.lookup y=some .local) (Z8:aj2 (.ListComp elt [⟨tg,iter,ifs,0⟩] scope pos) (some (.Name y py)) WW.line X.env=pure true)
  (hs:∀y,ajI iter X.env y=pure y:=by intro _;rfl):RS X (.Assign [.Name y py] (.ListComp elt [⟨tg,iter,ifs,0⟩] scope pos) WW) (aG iy (cN jw (fT vs.length g t_ it tt te))):=⟨fun{w0 ρ h Q E} I p=>by
 rw[ahT _ _ _ _ Z8];refine aeg<|agN<|aeg ?_
 show ajD _ X.A (comprehension (.ListComp elt [⟨tg,iter,ifs,0⟩] scope pos) scope X.env _ (newList []) ajt (eval iter X.env) (some (assign (.Name y py) X.env)) >>= fun _=>pure ()) _ _ w0.s;refine aeg<|afi (agq (use:=some (assign (.Name y py) X.env)) (Q:=fun _ s'=>Q .next s') rfl hs (jR fun n hn=>I.ok.has n (S.free _ hn rfl)) S.kind S.names ?_) (fun _ _ z=>aeu (aeu z)) fun _ _ z=>z
 have p:bL X w0 Q E (gT (it ρ h) fun xs h1=>gT (if xs.length<ajx then(fB g tt te (aju vs.length none++cU t_ ρ) xs h1).calm else .bad) fun ps h2=>gT (jw ps h2) fun v h3=>.nx (ρ.set iy (some v)) h3):=by
  unfold aG ey cN fT at p
  cases e:it ρ h with
  |ok xs h1=>
   rw[e]at p
   revert p
   show bL X w0 Q E (gT (((if xs.length<ajx then(fB g tt te (aju vs.length none++cU t_ ρ) xs h1).calm else .bad):Res Y2).bind jw) _)->bL X w0 Q E (gT (if xs.length<ajx then(fB g tt te (aju vs.length none++cU t_ ρ) xs h1).calm else .bad) _);generalize(if xs.length<ajx then(fB g tt te (aju vs.length none++cU t_ ρ) xs h1).calm else .bad:Res Y2)=rr
   cases rr<;>exact id
  |exc _ _=>rw[e]at p;exact p
  |bad=>rw[e]at p;exact p
 refine hi.r I (bL.e0 p I fun w h1 xs v y0 I1 rr p=>?_)
 split at p
 .rename_i hz
  refine pd (use:=some (assign (.Name y py) X.env)) (Q:=fun _ s=>Q .next s) (K:=fun ps h=>bL X w0 Q E (gT (jw ps h) fun v h3=>.nx (ρ.set iy (some v)) h3)) t_ hc S hg ht he gm I y0 rr hz (by
   revert p
   cases fB g tt te (aju vs.length none++cU t_ ρ) xs h1<;>first|exact id|exact fun z=>bL.ep z |>.elim) fun{w2 h2 ps k_ D C oC m} y2 H2 nD nC DC hl n l f ra z k=>?_
  obtain⟨nn,e1⟩:=l;have sb:Sub w2.m (w2.m++ [D]):=fun i b e=>by rw[aez (aer.mp e).1];exact e
  have n3:=Nw.track (X:=X) (w:=w0) (w1:=w2) ⟨y2,H2⟩ nD ⟨e1,f⟩ (po:=.lst ps) ⟨f.2.1,k_,nn,e1,z,ra.mono (fun _ _ e=>e) (.inr sb)⟩;have I3:=I.on n3;have aC:=I.out nC;show ajD _ X.A (assign (.Name y py) X.env (.ref D)) _ _ w2.s;refine ahi (I3.store (w:=⟨w2.F,w2.O,w2.m++ [D],w2.s⟩) hy (.inl hLy) (p:=.ref h2.length) (.ref (by rw[H2.len];simp)) fun w4 y4 I4=>?_);obtain⟨sl,hC,zz⟩:=y4.keep C oC ⟨hl.1,fun z=>(aeF.mp z).elim hl.2.1 fun z=>DC (by simp at z;exact z.symm),hl.2.2⟩ aC.w;refine⟨m,rR n fun o e=>by rw[hl.1]at e;cases e;exact⟨sl,hC.1⟩,fun h' sb'=>?_⟩;obtain⟨a1,a2⟩:=oG (s':={ w4.s with heap:=h' }) I4.toHR hC fun b o z e=>(sb'.2 b z).trans e;exact k.2 _ ((n3.s.trans y4).priv a1 (by simp;exact nC)) (I4.priv a1 a2 (by simp;exact aC))
 .exact p.elim⟩
end
section
open PySem.Builtin
end
section
variable{e:Expr}{f:Ex}{aeQ:Pos}
theorem StrsAre.len:∀{us:Z3}{ys:Zl},StrsAre us ys->us.length=ys.length
 |_,_,.nil=>rfl
 |_,_,.cons _ _ r=>by simp[StrsAre.len r]
end
section
open PySem.W PySem.Calls
theorem qd{P:Params}{h:Heap}:∀(ns:List Int)(vs:Z3),WellAll P h vs (ns.map WData.int)->IntsAre vs ns:=by
 intro ns
 induction ns with
 |nil=>
  intro vs w;rw[ag5]at w
  cases w
  exact .nil
 |cons n ns ih=>
  intro vs w;rw[aeA]at w
  cases w with
  |cons a b=>
   cases a
   exact .cons _ _ (ih _ b)
theorem BD{l:OpenLaw}(hn:l.most=some n){P:Params}{h:Heap}{args:List WData}{ZV:Z3}
  (Zo:l.row.toRowW.claim.pre args=true) (hwl:WellAll P h ZV args):
  ∃a vs ns,ZV= [Value.ref a]/\args= [WData.list (ns.map WData.int)]/\h.get? a=some { cls:=.type "list",data:=.seq vs.toArray }/\IntsAre vs ns/\ns.length<=n:=by
 have hsh:WShape.hasAll [] args [.list .int]=true:=(pre_splitW Zo).1;have hc:l.pre.holds [] { args:=args }=true:=(pre_splitW Zo).2;obtain⟨d,r,rfl,h1,h2⟩:=hasAllW_cons hsh;obtain rfl:=hasAllW_nil h2;obtain⟨xs,rfl,h3⟩:=hasW_list h1;obtain⟨ns,rfl⟩:=items_int h3
 have Xz:ns.length<=n:=by
  unfold OpenLaw.pre at hc
  have h4:(WTm.not (.lt (.lit (.int (n:Int))) (.len (.arg 0)))).holds [] { args:=[.list (ns.map .int)] }=true:=by have h4:=(holds_andW hc).1;rw[hn]at h4;exact h4
  have h5:=condW_of h4 (w_not (w_lt w_lit (w_len_list (w_arg rfl))));rw[aes]at h5;refine ahz fun q=>?_;have q':(n:Int)<((ns.length:Nat):Int):=by lia
  first
   |(rw[ajw q']at h5;exact absurd h5 ⋯)
   |(simp at h5;lia)
 cases hwl with
 |cons w1 w2=>
  cases w2
  cases w1 with
  |list ho Yq=>exact⟨_,_,ns,rfl,rfl,ho,qd ns _ Yq,Xz⟩
def BQ(l:OpenLaw)(args:List WData):l.row.toRowW.claim.post args (.bool true) args=true:=
 postW_of (r:=l.row.toRowW) (X:=(true==true))
  (show WShape.has [] (.bool true) .bool=true by first|rfl|decide|simp[WShape.has,WShape.arms,WShape.armsAll])
  (show(WTm.eq .res (.lit (.bool true))).value [] { args:=args,res:=some (.bool true),after:=args }=some (.bool (true==true))from w_eq_bool (w_res rfl) w_lit) rfl
def X7{l:OpenLaw}{q:Program}{d:DefRec}
  (hn:l.most=some n) (hdf:d.params.defaults= [])
  (call:∀(w:World)(s₀ s₁:Shared)(mg mb:Str->Option Value)(fa:Addr)(o:Obj)(pm cd doc:Value)(a:Addr)(vs:Z3)(ns:List Int),
   Ground q loose [] XP w s₀ mg mb s₁.heap->YP w s₁.heap->
   s₁.heap.get? fa=some o->o.data=.func (docDef d.name d.params d.body d.scope pm cd doc)->s₁.heap.CodeRec cd d.name->mg d.name=some (.ref fa)->
   s₁.heap.get? a=some { cls:=.type "list",data:=.seq vs.toArray }->IntsAre vs ns->ns.length<=n->s₁.gens= #[]->
   aj4 (ajC l.prog w) akR (.call (.ref fa) ⟨[.ref a],[]⟩) (fun r s'=>r=.ok (.ret (.bool true))/\OldK s₁.heap s'.heap/\s'.os=s₁.os/\akF s'.gens) s₁):
  WalkO q loose XP YP l.row.toRowW d [] (fun f vs=>PySem.call f vs):=by
 intro w s₀ s₁ mg mb G Y fa o pm cd doc dV kV ho hd Yp hD hmg hg args ZV as Zo afs hrd hwl hlo;obtain rfl:dV=.none:=Dflts.none hD hdf;obtain rfl:kV=.none:=Dflts.noKw hD;obtain⟨a,vs,ns,rfl,rfl,aae,hints,Xz⟩:=BD hn Zo hwl;refine enter_call (ag2 (call w s₀ s₁ mg mb fa o pm cd doc a vs ns G Y ho (fd_plain hd) Yp hmg aae hints Xz hg) fun r s' hq=>?_);obtain⟨rfl,h2,h3,h4⟩:=hq;exact⟨.inl ⟨.bool true,.bool true,[],rfl,fun _=>rfl,.bool true,BQ l _,fun _=>⟨List.Pairwise.nil,fun _ hm=>(nomatch hm)⟩⟩,h2,h3,h4⟩
end
def cx0(G:SC):Cx:={ G with A:=akR,N:=[],env:=akc "" { kind:=.function,names:=[],isGenerator:=ajt,isCoroutine:=ajt } 0 0 .none,stack:=[],fn:=fun _=>true,calm:=true,tr:=true,Ep:=fun _=>True }
theorem ug{G:SC}{F:Fz}{m:Zs}:∀{vs:Z3}{ns:List Int},IntsAre vs ns->aO G F m (ns.map PV.int) vs
 |_,_,.nil=>.nil
 |_,_,.cons i t r=>.cons (.int i t) (ug r)
def Et{P:Program}{w:World}{K:PySem.W.Frag}{mg mb:Str->Option Value}{T:Nat->Option Addr}{fa:Addr}{fd:FuncData}{fn:Y2->Z.Out}{s₁:Shared}{vs:Z3}{ns:List Int}
  (KX:K.In s₁.heap) (hns:s₁.heap.Ns aj7 mg) (hb:s₁.heap.Ns builtinsNs mb) (hbb:∀x:Str,x≠"__name__"->mb x=ajV x) (acn:s₁.heap.NoLimit) (hg:s₁.gens= #[])
  (ha:s₁.heap.get? a=some { cls:=.type "list",data:=.seq vs.toArray }) (hi:IntsAre vs ns) (hl:ns.length<=ajx) (hr:fK k akR)
  (F:YT ⟨P,w,K,mg,s₁.heap,T⟩ k fa fd [x] fn) (aa3:∀(s:Shared)(u:Value),akE s fd ⟨[u],[]⟩ [(x,u)]) (hsp:fn [.X5 (ns.map PV.int)]=.ok (.bl true)):
  aj4 (ajC P w) akR (.call (.ref fa) ⟨[.ref a],[]⟩) (fun r s'=>r=.ok (.ret (.bool true))/\OldK s₁.heap s'.heap/\s'.os=s₁.os/\akF s'.gens) s₁:=by
 have ok:(cx0 ⟨P,w,K,mg,s₁.heap,T⟩).Ok:=⟨KX,hns,⟨mb,hb,hbb⟩,acn,rfl,rfl,rfl,fun x y c e=>(nomatch e),fun x e=>(by rcases e with e|e<;>cases e),fun _=>rfl,rfl,.nil,fun e he=>(nomatch he)⟩
 have W:Wd (cx0 ⟨P,w,K,mg,s₁.heap,T⟩) ⟨fun b=>s₁.heap.get? b,fun _=>none,[],s₁⟩ []:=⟨⟨fun _ _ e=>e,fun _ _ e=>(nomatch e),rfl,.nil,fun _ _ _ e=>(nomatch e)⟩,.of_eq hg,fun _ _ e=>e,fun b hb=>(nomatch hb)⟩
 refine ag2 (F.run (X:=cx0 ⟨P,w,K,mg,s₁.heap,T⟩) (w:=⟨fun b=>s₁.heap.get? b,fun _=>none,[],s₁⟩) (h:=[]) (us:=[.ref a]) (Q:=fun v s'=>v=.bool true/\OldK s₁.heap s'.heap/\s'.os=s₁.os/\akF s'.gens) (E:=fun _ _=>False) rfl hr rfl rfl W ok (.cons (.X5 ha (by simpa[hi.length]using hl) (by simpa using ug hi)) .nil) hsp (aa3 s₁ (.ref a)) fun F' s' u n r=>?_) fun r s' h=>?_
 .cases r
  exact⟨rfl,OldK.of_keep fun b o e=>n.2.sub b o (n.1.fz b o e),n.1.os,n.1.ba (.of_eq hg)⟩
 .cases r with
  |error e=>exact h.elim
  |ok fl=>
   cases fl with
   |ret u=>obtain⟨rfl,z⟩:=h;exact⟨rfl,z⟩
   |_=>exact ak6 h
def Er{l:W.OpenLaw}{q:Program}{d:DefRec}{K:Params->ajZ}{fn:Y2->Z.Out}(hn:l.most=some 63)(hdf:d.params.defaults= [])(hr:fK k akR)
  (hY:∀(w:World)(h:Heap),YP w h->(K w.params).In h) (law:∀ns:List Int,ns.length<=63->fn [.X5 (ns.map PV.int)]=.ok (.bl true))
  (F:∀(w:World)(mg:Str->Option Value)(fa:Addr)(h:Heap),(K w.params).In h->h.Ns aj7 mg->mg d.name=some (.ref fa)->
   ∃(fd:FuncData)(T:Nat->Option Addr),(∀(s:Shared)(u:Value),akE s fd ⟨[u],[]⟩ [(x,u)])/\YT ⟨l.prog,w,K w.params,mg,h,T⟩ k fa fd [x] fn):
  W.WalkO q loose XP YP l.row.toRowW d [] (fun f vs=>PySem.call f vs):=by
 refine Z.X7 hn hdf fun w s₀ s₁ mg mb fa o pm cd doc a vs ns G Y ho hd Yp hmg aae hints Xz hg=>?_;have KX:=hY w _ Y;obtain⟨fd,T,hb,hF⟩:=F w mg fa _ KX G.T.g hmg;exact Et KX G.T.g G.T.b G.T.builtins G.T.nolimit hg aae hints (aeI Xz ⋯) hr hF hb (law ns Xz)
def cJ(tt:Tx)(te:Ex)(cp:Ev):Y2->Y3->Res Y2
 |[],h=>.ok [] h
 |p::r,h=>(tt (some p::cp) h).bind fun b h1=>if b=true then(te (some p::cp) h1).bind fun v h2=>(cJ tt te cp r h2).bind fun vs h3=>.ok (v::vs) h3 else cJ tt te cp r h1
def cy(t_:Y1)(it:Ax)(tt:Tx)(te:Ex):Ax:=fun ρ h=>(it ρ h).bind fun xs h1=>if xs.length<ajx then(cJ tt te (cU t_ ρ) xs h1).calm else .bad
def jQ(tt:Tx)(te:Ex)(cp:Ev):Y2->Y3->Res Y2
 |[],h=>.ok [] h
 |.tup [p1,p2]::r,h=>(tt (some p1::some p2::cp) h).bind fun b h1=>if b=true then(te (some p1::some p2::cp) h1).bind fun v h2=>(jQ tt te cp r h2).bind fun vs h3=>.ok (v::vs) h3 else jQ tt te cp r h1
 |_,_=>.bad
def tD(t_:Y1)(it:Ax)(tt:Tx)(te:Ex):Ax:=fun ρ h=>(it ρ h).bind fun xs h1=>if xs.length<ajx then(jQ tt te (cU t_ ρ) xs h1).calm else .bad
theorem sR(tt:Tx)(te:Ex)(cp:Ev):∀xs h,fB (P0 0) tt te (aju 1 none++cp) xs h=cJ tt te cp xs h
 |[],h=>rfl
 |p::r,h=>by simp only[cJ,<- sR tt te cp r];rfl
abbrev g2:Gx:=YF 2 (eh (P0 0) (eh (P0 1) lQ))
theorem Fg(tt:Tx)(te:Ex)(cp:Ev):∀xs h,fB g2 tt te (aju 2 none++cp) xs h=jQ tt te cp xs h
 |[],h=>rfl
 |.tup [p1,p2]::r,h=>by simp only[jQ,<- Fg tt te cp r];rfl
 |.tup []::r,h=>rfl
 |.tup [_]::r,h=>rfl
 |.tup (_::_::_::_)::r,h=>by simp[fB,jQ,YF]
 |.non::r,h|.bl _::r,h|.int _::r,h|.str _::r,h|.ty _::r,h|.cls _::r,h|.lst _::r,h|.X5 _::r,h|.dct _::r,h|.ins _ _::r,h|.ref _::r,h|.exc _::r,h|.N6 _ _::r,h=>rfl
section
variable{e a b elt:Expr}{f te:Ex}{fs it:Ax}{tp:Pos}{y:Str}{M:Zl}{t_:Y1}
def JS(ha:RE X a fa)(hb:RE X b fb):RE X (.BinOp a .Mult b pos) (c2 jh fa fb):=rC (fun{w h p q u v Q E} I rp rq k=>My I rp rq (by
 unfold DL
 split
 .exact k.elim
 .exact k)) ha hb
def Qi(q:PV)(cp ρ1:Ev)(e:g2 q (aju 2 none++cp)=some ρ1):∃l:Ev,l.length=2/\ρ1=l++cp:=by
 unfold g2 YF at e
 split at e
 .rename_i ps
  split at e
  .rename_i z
   obtain⟨a,b,rfl⟩:∃a b,ps= [a,b]:=by
    match ps,z with
    |[a,b],_=>exact⟨a,b,rfl⟩
   cases e
   exact⟨[a,b],rfl,rfl⟩
  .cases e
 .cases e
def GG(S:hZ X.N X.env.scope scope t_ [x] M)(hi:RI X (.Name x tp) iter it)(ht:∀cl C,YS (bU X M scope cl C) ifs tt)(he:∀cl C,RE (bU X M scope cl C) elt te)(hc:X.calm=true:=by rfl)(hg:∀cl C,RG (bU X M scope cl C) (.Name x tp) (P0 0):=by exact fun _ _=>ky)
  (hs:∀y,ajI iter X.env y=pure y:=by intro _;rfl):RE X (.ListComp elt [⟨.Name x tp,iter,ifs,0⟩] scope pos) (cN VL (cy t_ it tt te)):=by
 have q:=Li (pos:=pos) t_ hc S hi hg ht he AX Hz hs;have z:fT 1 (P0 0) t_ it tt te=cy t_ it tt te:=by funext ρ h;simp only[fT,cy,sR]
 exact z▸q
def Dz(S:hZ X.N X.env.scope scope t_ [x] M)(hi:RI X (.Name x tp) iter it)(ht:∀cl C,YS (bU X M scope cl C) ifs tt)(he:∀cl C,RE (bU X M scope cl C) elt te)(hc:X.calm=true:=by rfl)(hg:∀cl C,RG (bU X M scope cl C) (.Name x tp) (P0 0):=by exact fun _ _=>ky)
  (hs:∀y,ajI iter X.env y=pure y:=by intro _;rfl):RE X (.ListComp elt [⟨.Name x tp,iter,ifs,0⟩] scope pos) (cN jw (cy t_ it tt te)):=by
 have q:=Li (pos:=pos) t_ hc S hi hg ht he Ff Hz hs;have z:fT 1 (P0 0) t_ it tt te=cy t_ it tt te:=by funext ρ h;simp only[fT,cy,sR]
 exact z▸q
def DA{tp2 tp3:Pos}(S:hZ X.N X.env.scope scope t_ [x,y] M)(hi:RI X (.Tuple [.Name x tp,.Name y tp2] k tp3) iter it)(ht:∀cl C,YS (bU X M scope cl C) ifs tt)(he:∀cl C,RE (bU X M scope cl C) elt te)(hc:X.calm=true:=by rfl)(hg:∀cl C,RG (bU X M scope cl C) (.Tuple [.Name x tp,.Name y tp2] k tp3) g2:=by exact fun _ _=>Dr rfl (rA ky (rA ky Ar)))
  (hs:∀y,ajI iter X.env y=pure y:=by intro _;rfl):RE X (.ListComp elt [⟨.Tuple [.Name x tp,.Name y tp2] k tp3,iter,ifs,0⟩] scope pos) (cN VL (tD t_ it tt te)):=by
 have q:=Li (pos:=pos) t_ hc S hi hg ht he AX Qi hs;have z:fT 2 g2 t_ it tt te=tD t_ it tt te:=by funext ρ h;simp only[fT,tD,Fg]
 exact z▸q
def xC{py WW:Pos}(S:hZ X.N X.env.scope scope t_ [x] M)(hi:RI X (.Name x tp) iter it)(ht:∀cl C,YS (bU X M scope cl C) ifs tt)(he:∀cl C,RE (bU X M scope cl C) elt te)(hy:X.N[iy]? =some y)(hLy:X.env.scope.names.lookup y=some .local)(Z8:aj2 (.ListComp elt [⟨.Name x tp,iter,ifs,0⟩] scope pos) (some (.Name y py)) WW.line X.env=pure true)(hc:X.calm=true:=by rfl)(hg:∀cl C,RG (bU X M scope cl C) (.Name x tp) (P0 0):=by exact fun _ _=>ky)
  (hs:∀y,ajI iter X.env y=pure y:=by intro _;rfl):RS X (.Assign [.Name y py] (.ListComp elt [⟨.Name x tp,iter,ifs,0⟩] scope pos) WW) (aG iy (cN jw (cy t_ it tt te))):=by
 have q:=xB (pos:=pos) (py:=py) t_ hc S hi hg ht he Hz hy hLy Z8 hs;have z:fT 1 (P0 0) t_ it tt te=cy t_ it tt te:=by funext ρ h;simp only[fT,cy,sR]
 exact z▸q
def rst{l:Y1}{j}(e:x=S l:=by kernel_rfl):RE X (.Constant (.str x) j pos) (cK (.str l)):=JM l e
def ra1(ha:RE X e f)(hs:ajF [e] X.env=(ajt,eval e X.env)::ajF [] X.env:=by rfl):RA X [e] (aa f af):=qu ha yR hs
def req(hu:X.A.units+64<akz)(ha:RE X a fa)(hb:RE X b fb):RE X (.Compare a [.Eq] [b] pos) (c2 v9 fa fb):=mP (Ki hu) (yZ _) ha hb
def rte(hu:X.A.units+64<akz)(ha:RE X a fa)(hb:RE X b fb):RT X (.Compare a [.Eq] [b] pos) (au (c2 v9 fa fb)):=iP (Ki hu) (yZ _) ha hb
def zr(ha:RE X e f):XK X [.Return (some e) pos] (aQ f):=Ap (JB ha)
def Pc{pos':Pos}(ha:RE X a fa)(hi:X.N[i]? =some x:=by rfl)(hx:X.env.kindOf x=some .local\/(X.env.kindOf x=some .cell/\X.fn x=true):=by first|exact .inl rfl|exact .inr ⟨rfl,rfl⟩)(hs:aj2 a (some (.Name x pos')) pos.line X.env=pure ajt:=by rfl):RS X (.Assign [.Name x pos'] a pos) (aG i fa):=JA hi hx ha hs
def zf{g:Gx}{fb:Sx}(hi:RI X tg iter it)(hg:RG X tg g)(hb:XK X body fb)(hp:∀E,X.Ep E->akL X.M X.A X.env E:=by exact fun _ h=>h)(hc:X.calm=true:=by rfl)(hs:∀x,ajI iter X.env x=pure x:=by intro _;rfl):RS X (.For tg iter body [] pos) (ik it g fb):=JC hp hc hi hg hb hs
structure J2(X:Cx)(e:Expr)(es:List Expr)(pos:Pos):Prop where
 a:ajF (e::es) X.env=(ajt,eval e X.env)::ajF es X.env
 b:(akd pos (ajF es X.env)).any (·.1)=ajt
structure J3(X:Cx)(x:Str)(v:Value):Prop where
 a:ajV x=some v
 b:Gl X x
 c:x≠"__name__"
 d:(x==("__debug__":Str))=ajt
def zb{id:String}(o:Yh X (.builtin id) g)(hm:X.mg x=none)(ha:RA X (e::es) fs)(k:J3 X x (.builtin id):=by exact⟨by decide+kernel,rfl,by decide,by decide⟩)(j:J2 X e es pos:=by exact⟨rfl,rfl⟩):RE X (.Call (.Name x p0) (e::es) [] pos) (cN g fs):=DB o k.b hm k.a ha k.c k.d j.a j.b
def zt{id:String}(o:Yh X (.type id) g)(hm:X.mg x=none)(ha:RA X (e::es) fs)(k:J3 X x (.type id):=by exact⟨by decide+kernel,rfl,by decide,by decide⟩)(j:J2 X e es pos:=by exact⟨rfl,rfl⟩):RE X (.Call (.Name x p0) (e::es) [] pos) (cN g fs):=BN o k.b hm k.a ha k.c k.d j.a j.b
def zty{n:String}(hm:X.mg x=none)(k:J3 X x (.type n):=by exact⟨by decide+kernel,rfl,by decide,by decide⟩):RE X (.Name x pos) (cK (.ty n)):=JJ k.b hm k.a k.c k.d
def zis{n:String}(hi:X.mg "isinstance"=none)(hm:X.mg x=none)(ha:RE X e f)(k:J3 X x (.type n)/\Gl X "isinstance"/\ajF [.Name x p1] X.env=(ajt,eval (.Name x p1) X.env)::ajF [] X.env:=by exact⟨⟨by decide+kernel,rfl,by decide,by decide⟩,rfl,rfl⟩)(j:J2 X e [.Name x p1] pos:=by exact⟨rfl,rfl⟩):RE X (.Call (.Name "isinstance" p0) [e,.Name x p1] [] pos) (cN aV (aa f (aa (cK (.ty n)) af))):=zb DU hi (qu ha (qu (zty hm k.1) yR k.2.2) j.a) ⟨by decide+kernel,k.2.1,by decide,by decide⟩ j
def zl(hm:X.mg "len"=none)(ha:RE X e f)(hg:Gl X "len":=by rfl)(j:J2 X e [] pos:=by exact⟨rfl,rfl⟩):RE X (.Call (.Name "len" p0) [e] [] pos) (cN bS (aa f af)):=zb MB hm (ra1 ha j.a) ⟨by decide+kernel,hg,by decide,by decide⟩ j
def YL{l:Y1}(h:∃t,X.mg x=some (.str (S l) t))(hg:Gl X x:=by rfl)(hd:nD0 x:=by decide):RE X (.Name x pos) (cK (.str l)):=let⟨_,h⟩:=h;qt hg h (fun _ _ _=>.str _ _) hd
def glI{i:Int}(h:∃t,X.mg x=some (.int i t))(hg:Gl X x:=by rfl)(hd:nD0 x:=by decide):RE X (.Name x pos) (cK (.int i)):=let⟨_,h⟩:=h;qt hg h (fun _ _ _=>.int _ _) hd
def glC{C:Nat}{a:Addr}(h:X.mg x=some (.ref a))(t:X.T C=some a)(hg:Gl X x:=by rfl)(hd:nD0 x:=by decide):RE X (.Name x pos) (cK (.cls C)):=qt hg h (fun _ _ _=>.cls t) hd
def GV(S:SC)(x:Str)(ps:Y2):Prop:=∃a k_ n,S.mg x=some (.ref a)/\S.base.get? a=some { cls:=.type "tuple",data:=.seq k_ n }/\k_.size<=ajx/\∀F m,aO S F m ps k_.toList
def glV(h:GV X.toSC x ps)(hg:Gl X x:=by rfl)(hd:nD0 x:=by decide):RE X (.Name x pos) (cK (.tup ps)):=let⟨_,_,_,a,b,c,d⟩:=h;qt hg a (fun F m k=>.tup (k _ _ b) c (d F m)) hd
theorem YT.bad{G:SC}{k:Nat}{f:Addr}{fd:FuncData}{ps:Zl}:YT G k f fd ps fun _=>.bad:=⟨fun _ _ h=>(nomatch h),fun _ _ _ _ _ _ _ h=>(nomatch h)⟩
theorem XM.bad{G:SC}{c:Bool}{k:Nat}{f:Addr}{fd:FuncData}{ps:Zl}:XM G c k f fd ps fun _ _=>.bad:=⟨fun _ _ h=>absurd rfl h,fun _ _ _ _ _ _ _ _ h=>h.elim⟩
end
def mj(p:PV)(ps:Y2)(h:Y3):Res PV:=match ps with
 |[.str z]=>match(Yw h p).bind lC with
  |some ls=>if ls.length<=ajx/\ls.idxOf z<ls.length then .ok (.int (ls.idxOf z:Nat)) h else .bad
  |none=>.bad
 |_=>.bad
theorem IL(z:Y1):∀ls:Ya,(ls.map S).idxOf (S z)=ls.idxOf z
 |[]=>rfl
 |l::r=>by
  rw[aeA,ahS,ahS,IL z r]
  by_cases hl:l=z
  .subst hl;simp
  .have:S l≠S z:=fun q=>hl (Bj q);rw[ako.mpr hl,ako.mpr this]
noncomputable def Wa(z:Str):Value->Bool
 |.str y _=>y==z
 |_=>ajt
theorem vd:∀{zs:Zl}{us:Z3},StrsAre us zs->∀v∈us,∃y t,v=.str y t
 |_,_,.cons y t r,v,h=>(aek.mp h).elim (fun e=>⟨y,t,e⟩) (vd r v)
theorem Bf(z:Str):∀{zs:Zl}{us:Z3},StrsAre us zs->us.map (Wa z)=zs.map (· ==z)
 |_,_,.nil=>rfl
 |_,_,.cons y t r=>by show(y==z)::_=_;rw[Bf z r];rfl
def Ch:Zw X "list.index" mj:=fun{w h p u ps us Q E} I rp rs k=>by
 unfold mj at k
 split at k
 .rename_i z;obtain⟨u1,rfl,r1⟩:=rs.one
  cases r1 with
  |str _ tz=>
   split at k
   .rename_i ls e
    split at k
    .rename_i hz;obtain⟨xs,e1,e2⟩:=Option.bind_eq_some_iff.mp e;obtain⟨a,k_,rfl,⟨n,ho⟩,_,rr⟩:=I.sq rp (jP e1);have sa:=mM (G:=X.toSC) e2 rr;have ln:k_.toList.length=(ls.map S).length:=StrsAre.len sa;have mp:=Bf (S z) sa;have ix:=IL z ls;have hi:(ls.map S).idxOf (S z)<(ls.map S).length:=by rw[ix,aes];exact hz.2
     generalize ls.map S=zs at sa ln mp hi ix |-
     have at':∀m (h1:m<k_.toList.length) (h2:m<zs.length),Wa (S z) k_.toList[m]=(zs[m]==S z):=fun m h1 h2=>by have:=aj0 (·[m]?) mp;rw[aeY,aeY,aej h1,aej h2]at this;exact aeW this
     have hj:zs.idxOf (S z)<k_.size:=by rw[<- ag1,ln];exact hi
     have hsm:((zs.idxOf (S z):Nat):Int)<2 ^ 63 - 1:=by have:=afW;have:=hz.1;have:=hz.2;rw[ix];lia
     have hit:Wa (S z) k_[zs.idxOf (S z)]=true:=by have:=at' _ (by rw[ln];exact hi) hi;rw[aia]at this;rw[this];simp
     have hno:∀m (hm:m<k_.size),m<zs.idxOf (S z)->Wa (S z) k_[m]=ajt:=fun m hm ZF=>by have:=at' m (by simpa using hm) ⋯;rw[aia]at this;rw[this];exact List.not_of_lt_findIdx (p:=(· ==S z)) (xs:=zs) (i:=m) ZF
     refine agt ahu ⟨_,ho,rfl⟩ PySem.F.entry_list_index (PySem.F.args_list_index_2 _ _) (SeqAt.list_indexAt a _ n none #[] (.str (S z) tz) (Wa (S z)) (zs.idxOf (S z)) hj hsm hit hno) ⟨ho,fun y hy=>?_,?_⟩
     .obtain⟨w,t,rfl⟩:=vd sa y (by simpa using hy);exact SeqAt.EqAt.str_str w t (S z) tz
     .rw[ix];exact k.now I.toHR (.int _ _)
    .exact k.elim
   .exact k.elim
 .exact k.elim
section
variable{w:Wo}
def xz{elt:Expr}{it:Ax}{te:Ex}{M vs:Zl}{g:Gx}{py WW:Pos}{y:Str}(t_:Y1)(hc:X.calm=true)(S:hZ X.N X.env.scope scope t_ vs M)(hi:RI X tg iter it)(hg:∀cl C,RG (bU X M scope cl C) tg g)(ht:∀cl C,YS (bU X M scope cl C) ifs tt)(he:∀cl C,RE (bU X M scope cl C) elt te)
  (gm:∀q cp ρ1,g q (aju vs.length none++cp)=some ρ1->∃l,l.length=vs.length/\ρ1=l++cp) (hy:X.N[iy]? =some y) (hLy:X.env.scope.names.lookup y=some .local) (Z8:aj2 (.ListComp elt [⟨tg,iter,ifs,0⟩] scope pos) (some (.Name y py)) WW.line X.env=pure true)
  (hs:∀y,ajI iter X.env y=pure y:=by intro _;rfl):RS X (.Assign [.Name y py] (.ListComp elt [⟨tg,iter,ifs,0⟩] scope pos) WW) (aG iy (cN VL (fT vs.length g t_ it tt te))):=⟨fun{w0 ρ h Q E} I p=>by
 rw[ahT _ _ _ _ Z8];refine aeg<|agN<|aeg ?_
 show ajD _ X.A (comprehension (.ListComp elt [⟨tg,iter,ifs,0⟩] scope pos) scope X.env _ (newList []) ajt (eval iter X.env) (some (assign (.Name y py) X.env)) >>= fun _=>pure ()) _ _ w0.s;refine aeg<|afi (agq (use:=some (assign (.Name y py) X.env)) (Q:=fun _ s'=>Q .next s') rfl hs (jR fun n hn=>I.ok.has n (S.free _ hn rfl)) S.kind S.names ?_) (fun _ _ z=>aeu (aeu z)) fun _ _ z=>z
 have p:bL X w0 Q E (gT (it ρ h) fun xs h1=>gT (if xs.length<ajx then(fB g tt te (aju vs.length none++cU t_ ρ) xs h1).calm else .bad) fun ps h2=>gT (VL ps h2) fun v h3=>.nx (ρ.set iy (some v)) h3):=by
  unfold aG ey cN fT at p
  cases e:it ρ h with
  |ok xs h1=>
   rw[e]at p
   revert p
   show bL X w0 Q E (gT (((if xs.length<ajx then(fB g tt te (aju vs.length none++cU t_ ρ) xs h1).calm else .bad):Res Y2).bind VL) _)->bL X w0 Q E (gT (if xs.length<ajx then(fB g tt te (aju vs.length none++cU t_ ρ) xs h1).calm else .bad) _);generalize(if xs.length<ajx then(fB g tt te (aju vs.length none++cU t_ ρ) xs h1).calm else .bad:Res Y2)=rr
   cases rr<;>exact id
  |exc _ _=>rw[e]at p;exact p
  |bad=>rw[e]at p;exact p
 refine hi.r I (bL.e0 p I fun w h1 xs v y0 I1 rr p=>?_)
 split at p
 .rename_i hz
  refine pd (use:=some (assign (.Name y py) X.env)) (Q:=fun _ s=>Q .next s) (K:=fun ps h=>bL X w0 Q E (gT (VL ps h) fun v h3=>.nx (ρ.set iy (some v)) h3)) t_ hc S hg ht he gm I y0 rr hz (by
   revert p
   cases fB g tt te (aju vs.length none++cU t_ ρ) xs h1<;>first|exact id|exact fun z=>bL.ep z |>.elim) fun{w2 h2 ps k_ D C oC m} y2 H2 nD nC DC hl n l f ra z k=>?_
  obtain⟨nn,e1⟩:=l;have fz:=dQ (o:={ cls:=.type "list",data:=.seq k_ nn }) f.2.1;have n3:=Nw.freeze (X:=X) (w:=w0) (w1:=w2) ⟨y2,H2⟩ nD ⟨e1,f⟩;have I3:=I.on n3;have aC:=I.out nC;show ajD _ X.A (assign (.Name y py) X.env (.ref D)) _ _ w2.s;refine ahi (I3.store (w:=⟨jj w2.F D { cls:=.type "list",data:=.seq k_ nn },w2.O,w2.m,w2.s⟩) hy (.inl hLy) (p:=.lst ps) (.lst bT z (ra.mono fz (.inr fun _ _ e=>e))) fun w4 y4 I4=>?_);obtain⟨sl,hC,zz⟩:=y4.keep C oC ⟨hl.1,hl.2.1,dR (ag3 DC) hl.2.2.1,hl.2.2.2⟩ aC.w;refine⟨m,rR n fun o e=>by rw[hl.1]at e;cases e;exact⟨sl,hC.1⟩,fun h' sb'=>?_⟩;obtain⟨a1,a2⟩:=oG (s':={ w4.s with heap:=h' }) I4.toHR hC fun b o z e=>(sb'.2 b z).trans e;exact k.2 _ ((n3.s.trans y4).priv a1 (by simp;exact nC)) (I4.priv a1 a2 (by simp;exact aC))
 .exact p.elim⟩
end
section
variable{e a b elt:Expr}{f te:Ex}{fs it:Ax}{tp:Pos}{y:Str}{M:Zl}{t_:Y1}
def xD{py WW:Pos}(S:hZ X.N X.env.scope scope t_ [x] M)(hi:RI X (.Name x tp) iter it)(ht:∀cl C,YS (bU X M scope cl C) ifs tt)(he:∀cl C,RE (bU X M scope cl C) elt te)(hy:X.N[iy]? =some y)(hLy:X.env.scope.names.lookup y=some .local)(Z8:aj2 (.ListComp elt [⟨.Name x tp,iter,ifs,0⟩] scope pos) (some (.Name y py)) WW.line X.env=pure true)(hc:X.calm=true:=by rfl)(hg:∀cl C,RG (bU X M scope cl C) (.Name x tp) (P0 0):=by exact fun _ _=>ky)
  (hs:∀y,ajI iter X.env y=pure y:=by intro _;rfl):RS X (.Assign [.Name y py] (.ListComp elt [⟨.Name x tp,iter,ifs,0⟩] scope pos) WW) (aG iy (cN VL (cy t_ it tt te))):=by
 have q:=xz (pos:=pos) (py:=py) t_ hc S hi hg ht he Hz hy hLy Z8 hs;have z:fT 1 (P0 0) t_ it tt te=cy t_ it tt te:=by funext ρ h;simp only[fT,cy,sR]
 exact z▸q
end
def sw(h:Y3)(p:PV):Bool:=(Y5 h p).isSome
def rP(p:PV)(ps:Y2)(h:Y3):Res PV:=match ps with
 |[q,z]=>match Y5 h p,uB q with
  |some kvs,some k=>.ok (match yA kvs k with|some v=>aA h v|none=>z) h
  |_,_=>.bad
 |_=>.bad
def jC(p q:PV)(h:Y3):Res PV:=match Yb h p,Yb h q with
 |some a,some b=>if a.length+b.length<=ajx then .ok (.ref h.length) (h++ [.lst (a++b)])else .bad
 |_,_=>.bad
section
variable{a b:Expr}
def Ji:TyM X "dict" sw:=fun H r e=>by obtain⟨xs,ex⟩:=af0.mp e;obtain⟨a,kvs,rfl,_,d,_⟩:=H.dc r ex;exact⟨d.typeIs,fun _ e=>by cases e;exact let⟨o,es,ep,e,x,_⟩:=d;⟨o,e,x.2.1⟩⟩
def Kp:Zw X "dict.get" rP:=fun{w h p u ps us Q E} I r rs k=>by
 unfold rP at k
 split at k
 .obtain⟨v1,v2,rfl,r1,r2⟩:=rs.two
  split at k
  .rename_i kk e1 e2;obtain⟨a,kvs,rfl,sm,d,rr⟩:=I.dc r e1;refine call_meetsIn ahW d.typeIs PySem.F.entry_dict_get (PySem.F.args_dict_get_3 _ _ _) (meets_dict_get_default (pk X.prog X.w) a (oU r1 e2) sm v2) ⟨_,d.mapOf,?_⟩;rcases qm rr.2.1 rr.2.2 kk with⟨p3,v,z1,z2,z3⟩|⟨z1,z2⟩
   .rw[z1]at k;show Q ((akN kvs kk).getD v2) _;rw[z2];exact k.now I.toHR (I.Xo z3)
   .rw[z1]at k;show Q ((akN kvs kk).getD v2) _;rw[z2];exact k.now I.toHR r2
  .exact k.elim
 .exact k.elim
def GI(ha:RE X a fa)(hb:RE X b fb):RE X (.BinOp a .Add b pos) (c2 jC fa fb):=rC (fun{w h p q u v Q E} I rp rq k=>by
 unfold jC at k
 split at k
 .rename_i xs ys e1 e2
  split at k
  .obtain⟨a,k_,rfl,⟨_,x⟩,z,r⟩:=I.sq rp (mW e1);obtain⟨b,Uo,rfl,⟨_,y⟩,_,r'⟩:=I.sq rq (mW e2);have l:=r.len;have l':=r'.len;exact aiS x y (k.lm I.toHR (by simpa using r.app r') (by simp;lia)) ⋯
  .exact k.elim
 .exact k.elim) ha hb
end
noncomputable def bo(t:Tx)(body:Sx):Sx:=fun ρ h=>open Classical in if q:∃n,whl t body n ρ h≠.bad then whl t body q.choose ρ h else .bad
theorem wV(t:Tx)(body:Sx):∀(n:Nat)(ρ:Ev)(h:Y3),whl t body n ρ h≠.bad->whl t body (n+1) ρ h=whl t body n ρ h
 |0,ρ,h,q=>absurd rfl q
 |n+1,ρ,h,q=>by
  rw[whl]at q;rw[whl,whl]
  cases z:t ρ h with
  |bad=>rfl
  |exc e h=>rfl
  |ok b h1=>
   rw[z]at q;show(if b=true then _ else _)=(if b=true then _ else _)
   have q:(if b=true then _ else _)≠SR.bad:=q
   cases b with
   |false=>rfl
   |true=>
    simp only[ajA]at q |-
    cases y:body ρ h1<;>rw[y]at q<;>first|rfl|exact wV t body n _ _ q
theorem CH(t:Tx)(body:Sx)(q:whl t body n ρ h≠.bad):∀{m:Nat},n<=m->whl t body m ρ h=whl t body n ρ h:=fun{m} l=>by
 induction l with
 |refl=>rfl
 |step l ih=>rw[wV t body _ ρ h (by rw[ih];exact q),ih]
def mh(t:Tx)(body:Sx)(q:whl t body n ρ h≠.bad):bo t body ρ h=whl t body n ρ h:=by
 have e:∃n,whl t body n ρ h≠.bad:=⟨n,q⟩
 unfold bo;rw[dif_pos e];rcases Nat.le_total e.choose n with l|l
 .exact(CH t body e.choose_spec l).symm
 .exact CH t body q l
def Ju{t:Tx}{body:Sx}(q:bo t body ρ h≠.bad):∃n,whl t body n ρ h≠.bad/\bo t body ρ h=whl t body n ρ h:=by
 unfold bo at q |-
 split
 .rename_i e;exact⟨_,e.choose_spec,rfl⟩
 .rename_i e;rw[dif_neg e]at q;exact absurd rfl q
def gQ{t:Tx}{body:Sx}{h1:Y3}(e:t ρ h=.ok ajt h1):bo t body ρ h=.nx ρ h1:=by
 have:whl t body 1 ρ h=.nx ρ h1:=by rw[whl,e];rfl
 rw[mh t body (n:=1) (by rw[this];intro z;cases z),this]
def eI{t:Tx}{body:Sx}{ρ2:Ev}{h1 h2:Y3}{r:SR}(e:t ρ h=.ok true h1)(b:body ρ h1=.nx ρ2 h2)(w:bo t body ρ2 h2=r)(nb:r≠.bad):bo t body ρ h=r:=by
 obtain⟨n,q,z⟩:=Ju (by rw[w];exact nb)
 have:whl t body (n+1) ρ h=whl t body n ρ2 h2:=by rw[whl,e];show(match body ρ h1 with|.nx ρ2 h2=>_|.ct ρ2 h2=>_|.bk ρ2 h2=>_|.rt v h2=>_|.exc v h2=>_|.bad=>_)=_;rw[b]
 rw[mh t body (n:=n+1) (by rw[this];exact q),this,<- z,w]
section
variable{c:Expr}{t:Tx}{f:Sx}
def Jz(n:Nat)(hc:RT X c t)(hb:XK X body f)(hp:∀E,X.Ep E->akL X.M X.A X.env E):RS X (.While c body [] pos) (whl t f n) where
 r {w0 ρ h Q E} I0 p:=by
  cases n with
  |zero=>exact p.elim
  |succ n=>
  have hp:=hp E p.ep;refine wpAny_While (codeAny_whileLoop (fun n s=>∃w1 ρ1 h1,w1.s=s/\Inv X w1 ρ1 h1/\bL X w1 Q E (whl t f n ρ1 h1)) ?_ (n+1) ⟨w0,ρ,h,rfl,I0,p⟩)
  rintro n s ⟨w1,ρ1,h1,rfl,I1,p1⟩
  cases n with
  |zero=>exact p1.elim
  |succ n=>
   refine agb hp (hc.r I1 (p1.e I1 fun w2 h2 b b' y2 I2 r p2=>?_));subst r
   cases b with
   |false=>exact agb hp (afU (p2.2 w2 .refl I2))
   |true=>
    refine agb hp (hb.r I2 ?_)
    have p3:bL X w2 Q E (match f ρ1 h2 with
     |.nx ρ2 h2=>whl t f n ρ2 h2
     |.ct ρ2 h2=>whl t f n ρ2 h2
     |.bk ρ2 h2=>.nx ρ2 h2
     |.rt v h2=>.rt v h2
     |.exc v h2=>.exc v h2
     |.bad=>.bad):=p2
    revert p3
    cases f ρ1 h2 with
    |nx ρ4 h4=>exact fun p3=>⟨p3.ep,fun w4 y4 I4=>⟨n,agL n,w4,ρ4,h4,rfl,I4,p3.step y4⟩⟩
    |ct ρ4 h4=>exact fun p3=>⟨p3.ep,fun w4 y4 I4=>⟨n,agL n,w4,ρ4,h4,rfl,I4,p3.step y4⟩⟩
    |bk ρ4 h4=>exact fun p3=>p3
    |rt v h4=>exact fun p3=>p3
    |exc v h4=>exact fun p3=>p3
    |bad=>exact fun p3=>p3
def Dk(hc:RT X c t)(hb:XK X body f)(hp:∀E,X.Ep E->akL X.M X.A X.env E:=by exact fun _ h=>h):RS X (.While c body [] pos) (bo t f) where
 r {w ρ h Q E} I p:=by
  unfold bo at p
  split at p
  .exact(Jz _ hc hb hp).r I p
  .exact p.elim
end
noncomputable def isO(h:Y3)(i:Nat):Bool:=match h[i]? with
 |some (.obj _ _)=>true
 |_=>ajt
open Classical in
def Gq:RS X (.Continue pos) Iq:=⟨fun{w ρ h Q E} I p=>wpAny_Continue (p.2 w .refl I)⟩
def oW(x y:Y1)(i:Int):Int:=Txt.find3 (S x) (S y) i
def mR(p:PV)(ps:Y2)(h:Y3):Res PV:=match p,ps with
 |.str x,[.str y,.int i]=>.ok (.int (oW x y i)) h
 |_,_=>.bad
section
open PySem.Builtin PySem.Builtin.Str
section
variable{w:Wo}
def Ei:Zw X "str.find" mR:=fun{w h p u ps us Q E} I r rs k=>by
 unfold mR at k
 split at k
 .cases r
  cases rs with
  |cons r1 t=>cases t with
   |cons r2 t=>cases t;cases r1;cases r2;exact SC.find3 (k.now I.toHR (.int _ _))
 .exact k.elim
end
end
noncomputable def zX:Y2->Option (List String)
 |[]=>some []
 |.ty c::r=>match zX r with
  |some l=>some (c::l)
  |none=>none
 |_::_=>none
def oQ(ps:Y2)(h:Y3):Res PV:=match ps with
 |[p,.tup ts]=>match zX ts with
  |some cs=>if cs.all uD.contains=true then match vm h p with
    |some t=>.ok (.bl (cs.any (qY t))) h
    |none=>.bad
   else .bad
  |none=>.bad
 |_=>.bad
section
variable{w:Wo}
theorem uz(K:ajZ){t:String}(ht:t∈ ["NoneType","bool","int","str","tuple","dict","list"]):∀{cs:List String},cs.all uD.contains=true->akI K (.type t) (cs.map Value.type)=some (cs.any (qY t))
 |[],_=>rfl
 |c::r,h=>by
  rw[afr,ael]at h;rw[aeA,akI,uw K ht h.1,agr]
  cases qY t c with
  |true=>rfl
  |false=>exact uz K ht h.2
theorem tX{G:SC}{F:Fz}{m:Zs}:∀{ps:Y2}{cs:List String}{us:Z3},zX ps=some cs->aO G F m ps us->us=cs.map Value.type
 |[],_,_,e,.nil=>by cases e;rfl
 |p::r,cs,_,e,.cons r1 r2=>by
  cases r1 with
  |ty c=>
   unfold zX at e
   split at e
   .rename_i l z
    cases e
    rw[tX z r2];rfl
   .cases e
  |_=>cases e
def GW:Yh X (.builtin "isinstance") oQ:=fun ok {w h p u Q E} I rs k=>by
 unfold oQ at k
 split at k
 .rename_i p ts;obtain⟨u,v,rfl,r,r2⟩:=rs.two
  split at k
  .rename_i cs ec
   split at k
   .rename_i hc
    split at k
    .rename_i t e
     obtain⟨a2,n2,rfl,g⟩:∃a n,v=.ref a/\w.s.heap.get? a=some { cls:=.type "tuple",data:=.seq (cs.map Value.type).toArray n }:=by
      cases r2 with
      |@tup _ a k_ n e z r=>
       obtain rfl:k_=(cs.map Value.type).toArray:=by rw[<- tX ec r]
       exact⟨a,n,rfl,I.toHR.at e⟩
     show Wp X (call (.builtin "isinstance") [u,.ref a2]) Q E w.s;have fin:∀tk,Q (.bool (cs.any (qY t))) { w.s with toks:=tk }:=fun tk=>k.now I.toHR (.bl _);have hh:=fun(tt:String) ht=>uz X.K (t:=tt) ht hc;have KI:=I.UJ ok;unfold vm at e
     split at e
     .cases e;obtain rfl:=r.vn;exact agm W.kitx_none KI True.intro g (hh _ (by simp)) nofun fin
     .cases e;obtain rfl:=r.vb;exact agm W.kitx_bool KI True.intro g (hh _ (by simp)) nofun fin
     .cases e;obtain⟨_,rfl⟩:=r.vi;exact agm W.kitx_int KI True.intro g (hh _ (by simp)) nofun fin
     .cases e;obtain⟨_,rfl⟩:=r.vs;exact agm W.kitx_str KI True.intro g (hh _ (by simp)) nofun fin
     .cases e
      replace r:=I.sq r rfl
      obtain⟨a,k_,rfl,⟨n,y⟩,z,r⟩:=r;exact agm W.kitx_tuple KI ⟨_,y,rfl⟩ g (hh _ (by simp)) nofun fin
     .split at e
      .cases e
       obtain⟨a,kvs,rfl,_,⟨o,es,ep,h1,h2,_⟩,_⟩:=I.dc r ‹_›;exact agm W.kitx_dict KI ⟨o,h1,h2.1⟩ g (hh _ (by simp)) nofun fin
      .split at e<;>cases e
       replace r:=I.sq r (jP ‹_›)
       obtain⟨a,k_,rfl,⟨n,y⟩,z,r⟩:=r;exact agm W.kitx_list KI ⟨_,y,rfl⟩ g (hh _ (by simp)) nofun fin
    .exact k.elim
   .exact k.elim
  .exact k.elim
 .exact k.elim
end
noncomputable def yV(p y:PV)(h:Y3):Res PV:=match p,y with
 |.str l,.int 2=>if((ajL none none 2 l.length).filterMap (l[·]?)).length<=ajx then .ok (.str ((ajL none none 2 l.length).filterMap (l[·]?))) h else .bad
 |_,_=>.bad
def GB{a st:Expr}{fs:Ex}(ha:RE X a fa)(hs:RE X st fs):RE X (.Subscript a (.Slice none none (some st) p2) pos) (c2 yV fa fs):=⟨fun I k=>aiw (ha.r I (k.bind fun _ _ p u y r k=>ai2 (by
 rw[ahm];refine aeu (aeu ?_);rw[aio]
 exact hs.r (I.on y) (k.bind fun w h q v y2 r2 k=>by
  cases r with
  |str x t1=>
   cases r2 with
   |int i t=>
    unfold yV at k
    split at k
    .rename_i e1 e2
     cases e1;cases e2
     split at k
     .rename_i hz;have n:=Nw.also (X:=X) (s':={ w.s with heap:=w.s.heap.push { cls:=.type "slice",data:=.fields #[.none,.none,.int 2 t] } }) y2.2 fun b o e=>aem _ e;have I4:=((I.on y).on y2).on n;refine ajb (ops:=[.str (S _) t1,.ref w.s.heap.objs.size]) (agI _ _ _) F.slot_str_getitem.lookup ?_ (by with_unfolding_all rfl);have k4:=k.step n;refine afk (l:=none) (u:=none) (st:=some (2,t)) (agw ..) rfl ?_
      have e:akX (S x) t1 none none (some (2,t))=.str (S ((ajL none none 2 x.length).filterMap (x[·]?))):=by unfold akX slicePicked;rw[ajB (by simp),dH];unfold S;simp
      rw[e];refine⟨?_,k4.now I4.toHR (.str _ _)⟩;rw[dH];exact hz
     .exact k.elim
    .exact k.elim
   |_=>exact k.elim
  |_=>exact k.elim))))⟩
noncomputable def BC(l:Y1)(lo:Zp):Y1:=(ajL lo none 2 l.length).filterMap (l[·]?)
def rM(p:PV)(lo:Zp)(y:PV)(h:Y3):Res PV:=match p,y with
 |.str l,.int 2=>if(BC l lo).length<=ajx then .ok (.str (BC l lo)) h else .bad
 |_,_=>.bad
def yq(a:Ex)(lo:Ox)(st:Ex):Ex:=fun ρ h=>(a ρ h).bind fun p h1=>(lo ρ h1).bind fun l h2=>(st ρ h2).bind fun y h3=>rM p l y h3
def Du{a st:Expr}{lo:Option Expr}{fs:Ex}{fl:Ox}(ha:RE X a fa)(hl:RO X lo fl)(hs:RE X st fs):RE X (.Subscript a (.Slice lo none (some st) p2) pos) (yq fa fl fs):=⟨fun I k=>aiw (ha.r I (k.bind fun _ _ p u y r k=>ai2 (hl.r (I.on y) (k.bind fun _ _ l vl y1 pl k=>by
 rw[ahm];refine aeu ?_;rw[aio]
 exact hs.r ((I.on y).on y1) (k.bind fun w h q v y2 r2 k=>by
  have r:=y1.1.rep r
  cases r with
  |str x t1=>
   cases r2 with
   |int i t=>
    unfold rM at k
    split at k
    .rename_i e1 e2
     cases e1;cases e2
     split at k
     .rename_i hz;have n:=Nw.also (X:=X) (s':={ w.s with heap:=w.s.heap.push { cls:=.type "slice",data:=.fields #[vl,.none,.int 2 t] } }) y2.2 fun b o e=>aem _ e;have I4:=(((I.on y).on y1).on y2).on n;refine ajb (ops:=[.str (S _) t1,.ref w.s.heap.objs.size]) (agI _ _ _) F.slot_str_getitem.lookup ?_ (by with_unfolding_all rfl);have k4:=k.step n
      have e:∀z:Option (Int×Tok),z.map (·.1)=l->akX (S x) t1 z none (some (2,t))=.str (S (BC x l)):=fun z hz=>by unfold akX slicePicked;rw[ajB (by simp),dH,hz];unfold S BC;simp
      cases pl with
      |none=>refine afk (l:=none) (u:=none) (st:=some (2,t)) (agw ..) rfl ?_;rw[e none rfl];refine⟨?_,k4.now I4.toHR (.str _ _)⟩;rw[dH];exact hz
      |int j tj=>refine afk (l:=some (j,tj)) (u:=none) (st:=some (2,t)) (agw ..) rfl ?_;rw[e (some (j,tj)) rfl];refine⟨?_,k4.now I4.toHR (.str _ _)⟩;rw[dH];exact hz
     .exact k.elim
    .exact k.elim
   |_=>exact k.elim
  |_=>exact k.elim)))))⟩
def Dh:Manifest.owners.lookup (String.ofList ['d','e','s','r','e','v','e','r'].reverse)=some Manifest.sig_reversed:=by kernel_rfl
def Am{m:Str}{id:String}(n:String)(h1:aj6 (.type "reversed") m=pure (some (.builtin id)))(h2:splitId id=some ("reversed",n))(h3:withoutEnding? id "#opaque"=none)(h4:withoutEnding? id "#data"=none)(h5:(Manifest.find? "reversed").bind (·.attrs.lookup n)=some .slot)(h6:plainId id=true):Slot "reversed" m id:=
 Slot.of (owner:="reversed") (n:=n) h1 h2 h3 h4 (.inl h5) ahe h6
def nM:Slot "reversed" "__next__" "reversed.__next__":=Am "__next__" (by rw[agc,afE];kernel_rfl) (by decide+kernel) (by decide+kernel) (by decide+kernel) (by decide+kernel) (by decide+kernel)
def An:Slot "reversed" "__iter__" "reversed.__iter__":=Am "__iter__" (by rw[agc,afE];kernel_rfl) (by decide+kernel) (by decide+kernel) (by decide+kernel) (by decide+kernel) (by decide+kernel)
def ue:entryFor table "reversed.__next__"=some Builtin.«reversed.__next__» :=entryFor_of_tree (by kernel_rfl)
def BF:entryFor table "reversed.__iter__"=some Builtin.«dict_keyiterator.__iter__» :=entryFor_alias (id':="dict_keyiterator.__iter__") (by kernel_rfl) (by decide+kernel) (by decide+kernel) (by kernel_rfl)
def uf(a:Value):argsOk "reversed.__next__" ⟨[a],[]⟩:=by unfold argsOk;rw[signature?_of (id:="reversed.__next__") (n:=['_','_','t','x','e','n','_','_']) (o:=['d','e','s','r','e','v','e','r']) (by kernel_rfl) Dh];kernel_rfl
def BG(a:Value):argsOk "reversed.__iter__" ⟨[a],[]⟩:=by unfold argsOk;rw[signature?_of (id:="reversed.__iter__") (n:=['_','_','r','e','t','i','_','_']) (o:=['d','e','s','r','e','v','e','r']) (by kernel_rfl) Dh];kernel_rfl
def Gh:Slot "reversed" "__init__" "object.__init__":=by
 refine Slot.of (owner:="object") (n:="__init__") ?_ (by decide+kernel) (by decide+kernel) (by decide+kernel) (.inl (by decide+kernel)) ?_
 .rw[agc,afE];kernel_rfl
 .rw[ah2];kernel_rfl
def BH:TypeCalled "reversed" "reversed.__new__" "object.__init__":=
 ⟨by decide+kernel,PySem.F.create_reversed,⟨_,_,PySem.F.mro_reversed⟩,PySem.F.made_reversed,PySem.F.plain_reversed_new,ahe,Gh⟩
noncomputable def rvT(t:Addr)(i:Int):Obj:={ cls:=.type "reversed",data:=.fields #[.ref t,akh i] }
def pU(h:Heap)(it t:Addr)(i:Int):Prop:=∃o,h.get? it=some o/\o.cls=.type "reversed"/\o.data=.fields #[.ref t,akh i]
def Bv:aj6 (.type "tuple") "__reversed__"=pure none:=by rw[agc,afE];kernel_rfl
def yD:isSubtype (.type "tuple") (.type "dict")=pure ajt:=by rw[ah2];kernel_rfl
section
variable{w:World}{s:Shared}{it t:Addr}
def Jw(t:Addr)(items:Array Value):MeetsIn prog w (Builtin.«reversed.__new__» ⟨[.type "reversed",.ref t],[]⟩) (fun _ R s=>akV s.heap t items/\(items.size:Int)<2 ^ 63/\
   R (.ok (.ret (.ref s.heap.objs.size))) { s with heap:=s.heap.push (rvT t ((items.size:Int) - 1)),toks:=s.toks+1+1 }):=
 .of_wp fun A R s ⟨ht,hz,h⟩=>by
  have ty:=ht.typeIs;unfold Builtin.«reversed.__new__»;refine aeg (agh (newClass_reversed _) ?_)
  try dsimp only
  refine aeg (agh (a:=()) (by first|rfl|kernel_rfl) ?_);refine aeg (agh (a:=()) (by first|rfl|kernel_rfl) ?_)
  try dsimp only
  refine aeg (aga ty Bv ?_)
  try dsimp only
  refine aeg ?_;show ajD _ _ (aks (.ref t) (.type "dict") >>= _) _ _ s;refine aeg (ahs ty yD ?_);show ajD _ _ (specialOf (.ref t) "__getitem__" >>= _) _ _ s;refine aeg (aga ty ag6.lookup ?_);refine(show ajD _ _ (pure true) _ _ s from aeu ?_);show ajD _ _ (call (.builtin "len") [.ref t] >>= _) _ _ s;refine aeg (len_tuple ht hz ?_);refine aeg (aeu ?_);refine(show ajD _ _ (newObj (.type "reversed") (.fields #[.ref t,akh ((items.size:Int) - 1)]) >>= _) _ _ { s with toks:=s.toks+1+1 }from aeg (afb ?_ (by size_fits)));exact aeu ⟨_,rfl,h⟩
def CA(ht:akV s.heap t items)(hz:(items.size:Int)<2 ^ 63)(h:Q (.ref s.heap.objs.size) { s with heap:=s.heap.push (rvT t ((items.size:Int) - 1)),toks:=s.toks+1+1 }):ajD (ajC prog w) A (call (.type "reversed") [.ref t]) Q E s:=by refine callType_newIn BH ⋯ (PySem.F.typeCall_reversed_1 _) (PySem.F.newCall_reversed_1 _) (fun obj=>PySem.F.args_object_init_2 obj _) PySem.F.entry_reversed_new (Jw t items) ⟨ht,hz,?_⟩;exact⟨⟨_,aey _ rfl,rfl⟩,h⟩
def pU.typeIs{i:Int}(x:pU s.heap it t i):s.TypeIs (.ref it) "reversed":=let⟨o,ho,hc,_⟩:=x;⟨o,ho,hc⟩
def uC{i:Int}(x:pU s.heap it t i)(h:Q (.ref it) s):ajD (ajC prog w) A (akZ (.ref it)) Q E s:=by refine wpAny_pyIter_slot x.typeIs An (af4 An x.typeIs BF ?_ (BG _));exact(show ajD _ _ (ret (.ref it)) _ _ s from aeu ⟨_,rfl,"reversed",_,x.typeIs,nM.lookup,h⟩)
def Cc{x:Value}{Q:Option Value->Shared->Prop}(hit:pU s.heap it t (i:Int))(ht:akV s.heap t items)(hz:(items.size:Int)<2 ^ 63)(hx:items[i]? =some x)
  (hQ:∀h' tk,pU h' it t ((i:Int) - 1)->aj9 it s.heap h'->Q (some x) { s with heap:=h',toks:=tk }):ajD (ajC prog w) A (akY (.ref it)) Q E s:=by
 obtain⟨o,ho,hc,hd⟩:=id hit
 have hi:i<items.size:=by
  rcases aeR i items.size with q|q
  .exact q
  .rw[Array.getElem?_eq_none q]at hx;cases hx
 unfold akY;refine aeg (agO (afL (name:=akf "__next__") hit.typeIs nM (af4 nM hit.typeIs ue ?_ (uf _))));unfold Builtin.«reversed.__next__»;refine aeg (agh (a:=(Value.ref it,[])) rfl ?_)
 try dsimp only
 refine aeg (afI ho hd (x:=.ref t) rfl ?_);refine aeg (afI ho hd (x:=akh (i:Int)) rfl ?_);show ajD _ _ (if(i:Int)<0 then _ else _) _ _ s;rw[ajB ⋯];refine aeg (aga ht.typeIs ag6.lookup ?_);show ajD _ _ (mkInt (i:Int) >>= _) _ _ s;refine aeg (wpAny_mkInt ?_);refine aeg (agO (getItem_tuple (j:=i) ht ⋯ ⋯ (by simp[seqIndex?];lia) hx ?_));refine(show ajD _ _ (field (.ref it) 1 >>= _) _ _ { s with toks:=s.toks+1 }from aeg (afI ho hd (x:=akh (i:Int)) rfl ?_));refine(show ajD _ _ (akO (.ref it) 1 (akh ((i:Int) - 1)) >>= _) _ _ { s with toks:=s.toks+1 }from aeg (agx ho hd (by simp) (aeu ⟨x,rfl,aeu (hQ _ _ ⟨_,afo _ ho (agF (afF hd _)),?_,?_⟩ (af3 ..))⟩)))
 .rw[aiI];exact hc
 .rw[afF hd];simp
def ES{Q:Option Value->Shared->Prop}(hh:A.handled=none)(hit:pU s.heap it t (-1))(hQ:∀h',Heap.ExtBut it s.heap h'->Q none { s with heap:=h' }):ajD (ajC prog w) A (akY (.ref it)) Q E s:=by
 obtain⟨o,ho,hc,hd⟩:=id hit;unfold akY;refine aeg (agO (afL (name:=akf "__next__") hit.typeIs nM (af4 nM hit.typeIs ue ?_ (uf _))));unfold Builtin.«reversed.__next__»;refine aeg (agh (a:=(Value.ref it,[])) rfl ?_)
 try dsimp only
 refine aeg (afI ho hd (x:=.ref t) rfl ?_);refine aeg (afI ho hd (x:=akh (-1)) rfl ?_);show ajD _ _ (if(-1:Int)<0 then _ else _) _ _ s;rw[ajz ⋯];refine aeg (wpAny_rule ?_);refine aeg ?_;refine(show ajD _ _ (akO (.ref it) 1 (akh (-1)) >>= _) _ _ s from aeg (agx ho hd (by simp) ?_));have ho2:=afo (akl fun x=>x.setIfInBounds 1 (akh (-1))) ho (agF (afF hd _));refine agx (s:={ s with heap:=s.heap.update it (akl fun x=>x.setIfInBounds 1 (akh (-1))) }) ho2 (afF hd _) (by simp) ?_;refine aeg ?_;unfold Builtin.SmallTypes.stopIteration;refine aeg ?_;simp only[newExc,newTuple];refine aeg (afb (aeg (m:=akt _ _) (agh (a:=Value.none) (by first|rfl|(simp only[akt];rfl)) (afb ?_ (by size_fits)))) (by size_fits));simp only[raiseNew];refine aeg (wpAny_handled ?_);rw[show A.in1.handled=none from hh];refine aeg (aeu (wpAny_throw ?_));refine aeg (ahs (T:="StopIteration") (b:=true) ⟨_,aey _ rfl,rfl⟩ isSubtype_stop ?_);refine aeu (hQ _ ?_);exact((fun b o hb e=>((af3 ..).extBut.push _).push _ b o hb ((af3 ..).extBut b o hb e)))
end
def yz{w:World}(hh:A.handled=none)(I l:Addr)(hne:l≠I)(items:Array Value)(hz:(items.size:Int)<2 ^ 63):
  Walks prog w A I [I,l] [I] items.size (fun i v=>items[items.size - 1 - i]? =some v) (fun i h=>i<=items.size/\pU h I l ((items.size:Int) - 1 - (i:Int))/\akV h l items) where
 sub:=fun b hb=>by simp at hb;simp[hb]
 frame:=fun _ _ _ x hk=>⟨x.1,let⟨o,e,r⟩:=x.2.1;⟨o,hk I (by simp) o e,r⟩,let⟨o,e,r⟩:=x.2.2;⟨o,hk l (by simp) o e,r⟩⟩
 item:=fun i s Q E hi x hQ=>by
  have e:(items.size:Int) - 1 - (i:Int)=((items.size - 1 - i:Nat):Int):=by lia
  have hit:=x.2.1;rw[e]at hit;have hx:items[items.size - 1 - i]? =some (items[items.size - 1 - i]'⋯):=ahg ⋯;refine Cc hit x.2.2 hz hx fun h' tk aaY X4=>?_;have e2:((items.size - 1 - i:Nat):Int) - 1=(items.size:Int) - 1 - ((i+1:Nat):Int):=by lia
  rw[e2]at aaY;exact hQ _ h' tk hx ⟨hi,aaY,let⟨o,eo,r⟩:=x.2.2;⟨o,(X4.2 l hne).trans eo,r⟩⟩ fun b o hb eo=>X4.extBut b o (fun h=>hb (by simp[h])) eo
 done:=fun s Q E x hQ=>by
  have e:(items.size:Int) - 1 - (items.size:Int)= -1:=by lia
  have hit:=x.2.1;rw[e]at hit;exact ES hh hit fun h' he'=>hQ h' s.toks fun b o hb eo=>he' b o (fun h=>hb (by simp[h])) eo
 self:=fun _ _ _ _ x hQ=>uC x.2.1 hQ
abbrev nL:Obj:={ cls:=.type "list",data:=.seq #[] }
section
variable{w:World}{s:Shared}{I:Addr}{fp wr:Zs}{P:Nat->Value->Prop}{St:Nat->Heap->Prop}
def Hq(W:Walks prog w A.in1.in1 I fp wr n P St)(hT:∀t:Shared,St 0 t.heap->t.TypeIs (.ref I) "list_reverseiterator")
    (hint:∀(A:Around)(E:Yf)(t:Shared)(Q:Bool->Shared->Prop),St 0 t.heap->Q ajt t->ajD (ajC prog w) A (aj5 (.ref I)) Q E t)
     (st:St 0 s.heap) (hfp:∀b∈fp,b<s.heap.objs.size) (hI:I∈fp) (hn:n<=ajx)
    (hQ:∀h' tk acc c,(∀b o,b∉wr->s.heap.get? b=some o->h'.get? b=some o)->h'.get? s.heap.objs.size=some { cls:=.type "list",dict:=none,data:=.seq acc c,slots:= #[] }->ItemsOf P acc n->Q (.ref s.heap.objs.size) { s with heap:=h',toks:=tk }):
    ajD (ajC prog w) A (call (.type "list") [.ref I]) Q E s:=by
  refine callType_codes (Q₁:=fun v t=>v=.ref s.heap.objs.size/\t= { s with heap:=s.heap.push nL }) PySem.F.called_list (PySem.F.typeCall_list_1 _) PySem.F.entry_list_init (code_list_new _ ⟨rfl,rfl⟩) ?_
  rintro v t ⟨rfl,rfl⟩
  have e0:(s.heap.push nL).get? s.heap.objs.size=some nL:=aey _ rfl;refine⟨⟨nL,e0,rfl⟩,PySem.F.args_list_init_2 _ _,?_⟩;have nI:I≠s.heap.objs.size:=afH (hfp I hI);have nw:∀b∈wr,b≠s.heap.objs.size:=fun b hb=>afH (hfp b (W.sub b hb));have k1:∀b o,s.heap.get? b=some o->((s.heap.push nL).update s.heap.objs.size (akk fun _=> #[])).get? b=some o:=fun b o e=>(ahM _ _ (aiJ (aeT e))).trans (aem _ e);have d1:=afo (akk fun _=> #[]) e0 rfl
  have body:∀h1:Heap,(∀b o,s.heap.get? b=some o->h1.get? b=some o)->h1.get? s.heap.objs.size=some (akk (fun _=> #[]) nL)->∀R:Result->Shared->Prop,(∀h' tk,Q (.ref s.heap.objs.size) { s with heap:=h',toks:=tk }->R (.ok (.ret .none)) { s with heap:=h',toks:=tk })->ajD (ajC prog w) A.in1.in1 (Builtin.List.listExtendWith (.ref s.heap.objs.size) (.ref I) .none) (fun fin s'=>match fin with|.done f=>R (.ok f) s'|.again c'=>c'.quiet=true/\aj4 (ajC prog w) A.in1 c' R s') (fun e s'=>R (.error e) s') { s with heap:=h1 }:=fun h1 k1 d1 R hR=>by
    have st1:St 0 h1:=W.frame 0 _ _ st fun b _ o e=>k1 b o e;unfold Builtin.List.listExtendWith;refine aeg (ahD (hT { s with heap:=h1 } st1) ?_);refine wpAny_ite_false (by simp[Builtin.List.listSameRef,nI.symm]) (aeg (W.self 0 { s with heap:=h1 } _ _ st1 ?_));refine aeg (agd (hint _ _ { s with heap:=h1 } _ st1 ?_));refine wpAny_ite_false (by decide+kernel) (aeu ⟨plainId_quiet PySem.F.plain_extend_loop _,?_⟩);refine codeAny_extend_loopS (A:=A.in1) W.toS hn s.heap.objs.size (fun z=>agf _ (hfp _ z)) .none n 0 { s with heap:=h1 } #[] _ rfl (aeL _) st1 d1 (ItemsOf.nil P) fun t acc c m e ok=>?_;obtain⟨th,tg,td,tt,tO⟩:=t;have g1:=m.gens;have g2:=m.drawn;have g3:=m.os;simp only at g1 g2 g3;subst g1 g2 g3
    exact hR th tt (hQ th tt acc c (fun b o nb eb=>m.heap b o (fun z=>by
      rcases aek.mp z with q|q
      . exact absurd (aeT eb) (by rw[q];exact agf _)
      . exact nb q) (k1 b o eb)) e ok)
  unfold Builtin.«list.__init__»
  iterate 11 wp_step
  exact wpAny_updateSeq e0 rfl (aeg (wpAny_letGo (body _ k1 d1 _ fun h' tk q=>⟨rfl,q⟩)))
end
def Cn:aj6 (.type "list_reverseiterator") "__len__"=pure none:=by rw[agc,afE];kernel_rfl
def En:aj6 (.type "list_reverseiterator") "__length_hint__"=pure (some (.builtin "list_reverseiterator.__length_hint__")):=by rw[agc,afE];kernel_rfl
def Cm:splitId "list_reverseiterator.__length_hint__"=some ("list_reverseiterator","__length_hint__"):=by decide+kernel
def Em:isSubtype (.type "list_reverseiterator") (.type "list_reverseiterator")=pure true:=by rw[ah2];kernel_rfl
section
variable{w:World}{s:Shared}{r:Addr}
def EF{Q:Bool->Shared->Prop}(hT:s.TypeIs (.ref r) "list_reverseiterator")(h:Q ajt s):ajD (ajC prog w) A (aj5 (.ref r)) Q E s:=by unfold aj5;refine aeg (aga hT Cn ?_);refine(show ajD _ _ (specialOf (.ref r) (akf "__length_hint__") >>= _) _ _ s from aeg (aga hT En ?_));simp only[Cm];refine aeg (ahs (b:=true) hT Em ?_);refine ahO (fun z=>absurd z ⋯) fun _=>ahO (fun _=>?_) fun z=>absurd (by decide+kernel) z;exact ahO (fun z=>absurd z (by decide+kernel)) fun _=>aeu h
def wC{l:Addr}(hh:A.handled=none)(hit:s.heap.IsRevIter r l ((items.size:Int) - 1))(hl:s.heap.IsList l items)(hn:items.size<=ajx)(ne:l≠r)
  (hQ:∀h' tk acc c,(∀b o,b≠r->s.heap.get? b=some o->h'.get? b=some o)->h'.get? s.heap.objs.size=some { cls:=.type "list",dict:=none,data:=.seq acc c,slots:= #[] }->ItemsOf (fun i v=>items[items.size - 1 - i]? =some v) acc items.size->Q (.ref s.heap.objs.size) { s with heap:=h',toks:=tk }):
  ajD (ajC prog w) A (call (.type "list") [.ref r]) Q E s:=by
 have lr:r<s.heap.objs.size:=by obtain⟨o,ho,_⟩:=hit;exact aeT ho
 have ll:l<s.heap.objs.size:=by obtain⟨o,ho,_⟩:=hl;exact aeT ho
 have e:(items.size:Int) - 1 - ((0:Nat):Int)=(items.size:Int) - 1:=by lia
 refine Hq (Walks.listRev (A:=A.in1.in1) hh r l ne items) (fun t st=>st.2.1.typeIs) (fun A E t Q st q=>EF st.2.1.typeIs q) ⟨aeL _,by rw[e];exact hit,hl⟩ (fun b hb=>?_) (by simp) hn fun h' tk acc c k e ok=>hQ h' tk acc c (fun b o nb eb=>k b o (by simpa using nb) eb) e ok;rcases aek.mp hb with q|q
 .rw[q];exact lr
 .rw[aeo.mp q];exact ll
end
def nB(x y:Y1)(i:Int):Bool:=Txt.startswith3 (S x) (S y) i
def kD(x y:Y1):Y1:=(akG (S x) (S y)).cps.toList
def lK(p:PV)(ps:Y2)(h:Y3):Res PV:=match p,ps with
 |.str x,[.str y,.int i]=>.ok (.bl (nB x y i)) h
 |_,_=>.bad
def qw(p:PV)(ps:Y2)(h:Y3):Res PV:=match p,ps with
 |.str x,[.str y]=>if x.length<=ajx then .ok (.str (kD x y)) h else .bad
 |_,_=>.bad
noncomputable def Ds(ps:Y2)(h:Y3):Res Y2:=match ps with
 |[.tup xs]=>.ok xs.reverse h
 |_=>.bad
def Ii(f:Ax):Ax:=fun ρ h=>(f ρ h).bind Ds
def Iz(ps:Y2)(h:Y3):Res PV:=match ps with
 |[p]=>match Yb h p with
  |some xs=>.ok (.lst xs.reverse) h
  |none=>.bad
 |_=>.bad
def Fk(f:Ax):Ex:=fun ρ h=>(f ρ h).bind Iz
section
variable{w:Wo}{a o:Expr}{f:Ax}{fo:Ex}{m:Str}{p:Pos}
def rX:Zw X "str.startswith" lK:=fun{w h p u ps us Q E} I r rs k=>by
 unfold lK at k
 split at k
 .obtain⟨_,rfl⟩:=r.vs;obtain⟨v,v2,rfl,rv,rv2⟩:=rs.two;obtain⟨_,rfl⟩:=rv.vs;obtain⟨_,rfl⟩:=rv2.vi;exact SC.startswith3 (k.now I.toHR (.bl _))
 .exact k.elim
def zh:Zw X "str.lstrip" qw:=fun{w h p u ps us Q E} I r rs k=>by
 unfold qw at k
 split at k
 .obtain⟨_,rfl⟩:=r.vs;obtain⟨v,rfl,rv⟩:=rs.one;obtain⟨_,rfl⟩:=rv.vs
  split at k
  .rename_i hz;refine SC.lstripChars (fun t' c=>?_) (by rw[dH];exact hz);rename_i x _ y _;rw[<- Oh (akG (S _) (S _))];exact k.now I.toHR (.str _ t')
  .exact k.elim
 .exact k.elim
def Gz{α:Type}{xs:List α}{x:α}(h:xs.reverse[i]? =some x):i<xs.length/\xs[xs.length - 1 - i]? =some x:=by
 have hi:i<xs.length:=by
  rcases aeR i xs.length with q|q
  .exact q
  .rw[aeE (by simpa using q)]at h;cases h
 rw[ahX hi]at h;exact⟨hi,h⟩
def JG(hg:Gl X "reversed")(hm:X.mg "reversed"=none)(ha:RA X [a] f)(hs:ajF [a] X.env= [(ajt,eval a X.env)]:=by rfl):RI X tg (.Call (.Name "reversed" p0) [a] [] p1) (Ii f):=⟨fun I p=>Call_ (I.blt hg hm (show ajV "reversed"=some (.type "reversed") by decide+kernel) (afQ (ha.r p1 I (p.bind fun w _ ps us y r p=>by
 unfold Ds at p
 split at p
 .rename_i xs;obtain⟨u,rfl,r1⟩:=r.one
  cases r1 with
  |@tup _ b k_ n e z rr=>
   have I1:=I.on y;have g:=I1.toHR.at e;have ne:b≠w.s.heap.objs.size:=fun q=>by rw[q,bG]at g;cases g
   have tu:akV w.s.heap b k_:=⟨_,g,rfl,n,rfl⟩
   have sl:=afW;have hz:(k_.size:Int)<2 ^ 63:=by lia
   have hl:=rr.len;refine CA tu hz ?_;have kk:∀c o,w.s.heap.get? c=some o->(w.s.heap.push (rvT b ((k_.size:Int) - 1))).get? c=some o:=fun c o e=>aem _ e;have st:pU (w.s.heap.push (rvT b ((k_.size:Int) - 1))) w.s.heap.objs.size b ((k_.size:Int) - 1):=⟨_,aey _ rfl,rfl,rfl⟩
   refine uC (s:={ w.s with heap:=w.s.heap.push (rvT b ((k_.size:Int) - 1)),toks:=w.s.toks+1+1 }) st ?_;have e0:(k_.size:Int) - 1 - ((0:Nat):Int)=(k_.size:Int) - 1:=by lia
   refine Yi.of I1 y.1 kk (ki (src:=[b]) (fun A hA=>yz hA _ b ne k_ hz) (by rw[List.length_reverse];exact hl) (fun c hc=>by simp at hc;exact⟨_,hc▸e⟩) (fun i g st=>let⟨o,e,c,d⟩:=st.2.1;⟨o,_,_,e,c,d,by decide⟩) fun i p v e' h=>?_) ⟨aeL _,by rw[e0];exact st,⟨_,kk _ _ g,rfl,n,rfl⟩⟩ (fun c hc=>by simp at hc;subst hc;exact⟨aeB _,_,aey _ rfl⟩) p;obtain⟨hi,e2⟩:=Gz e';obtain⟨v',q1,q2⟩:=rr.get e2;rw[<- hl]at h;have:k_[xs.length - 1 - i]? =some v':=by simpa using q1
   rw[this]at h
   cases h;exact q2
 .exact p.elim)) hs rfl))⟩
theorem aO.rev{F:Fz}{m:Zs}:∀{ps:Y2}{vs:Z3},aO G F m ps vs->aO G F m ps.reverse vs.reverse
 |[],_,.nil=>.nil
 |_::_,_,.cons r t=>by rw[ahj,ahj];exact(aO.rev t).app (.cons r .nil)
def yP(hc:X.calm=true)(hl:Gl X "list")(ml:X.mg "list"=none)(hg:Gl X "reversed")(hm:X.mg "reversed"=none)(ha:RA X [a] f)(hs:ajF [a] X.env= [(ajt,eval a X.env)]:=by rfl)
  (he:ajF [.Call (.Name "reversed" p) [a] [] p1] X.env= [(ajt,eval (.Call (.Name "reversed" p) [a] [] p1) X.env)]:=by rfl):
  RE X (.Call (.Name "list" p0) [.Call (.Name "reversed" p) [a] [] p1] [] p2) (Fk f):=⟨fun I k=>by
 refine afd (I.blt hl ml (show ajV "list"=some (.type "list") by decide+kernel) ?_);refine afQ ?_ he rfl;rw[he];refine(show ajD _ _ (spliced ((ajt,eval (.Call (.Name "reversed" p) [a] [] p1) X.env)::[])) _ _ _ from aiA ?_);refine afd (I.blt hg hm (show ajV "reversed"=some (.type "reversed") by decide+kernel) (afQ (ha.r p1 I (k.bind fun w _ ps us y r k=>?_)) hs rfl));unfold Iz at k
 split at k
 .obtain⟨u,rfl,r1⟩:=r.one
  split at k
  .rename_i xs e;have I1:=I.on y;obtain⟨b,k_,rfl,yy,z,rr⟩:=I1.toHR.sq r1 (mW e);have t:=yy.pl.isList;have lb:b<w.s.heap.objs.size:=by obtain⟨o,ho,_⟩:=t;exact aeT ho
   refine call_reversed_list t (aiN ?_);have g:(w.s.heap.push (revObj b ((k_.size:Int) - 1))).IsRevIter w.s.heap.objs.size b ((k_.size:Int) - 1):=⟨_,aey _ rfl,rfl,rfl⟩
   have kk:∀c o,w.s.heap.get? c=some o->(w.s.heap.push (revObj b ((k_.size:Int) - 1))).get? c=some o:=fun c o e=>aem _ e;have nf:∀c o,w.s.heap.get? c=some o->c≠w.s.heap.objs.size:=fun c o e q=>by rw[q,bG]at e;cases e
   refine wC (s:={ w.s with heap:=w.s.heap.push (revObj b ((k_.size:Int) - 1)) }) (items:=k_) (I.ok.hd hc) g (t.at fun o e=>kk _ o e) z (afH lb) fun h' tk V9 c' hk hS Zr=>?_
   have el:V9.toList=k_.toList.reverse:=by
    refine List.ext_getElem? fun j=>?_
    by_cases hj:j<k_.size
    .have hj':j<V9.size:=by rw[Zr.1];exact hj
     have e:=Zr.2 j V9[j] (ahg hj');rw[ahX (by simpa using hj)];have e2:k_.toList[k_.toList.length - 1 - j]? =k_[k_.size - 1 - j]? :=by simp
     rw[e2,e];simp[hj']
    .have hj':¬ j<V9.size:=by rw[Zr.1];exact hj
     rw[aeE (by simpa using hj'),aeE (by simpa using hj)]
   have sz:(w.s.heap.push (revObj b ((k_.size:Int) - 1))).objs.size=w.s.heap.objs.size+1:=agl _ _
   have na:w.s.heap.get? (w.s.heap.push (revObj b ((k_.size:Int) - 1))).objs.size=none:=by
    cases q:w.s.heap.get? (w.s.heap.push (revObj b ((k_.size:Int) - 1))).objs.size with
    |none=>rfl
    |some o=>exact absurd (show w.s.heap.objs.size+1<w.s.heap.objs.size from Nat.lt_of_le_of_lt (aiL sz.symm) (aeT q)) (Nat.not_lt.mpr (agQ _))
   exact k.Zx I1.toHR na (fun c o e=>hk c o (nf c o e) (kk c o e)) hS rfl (by rw[el];exact rr.rev) (by rw[Zr.1];exact z)
  .exact k.elim
 .exact k.elim⟩
def xF{pl:Sem Bool}(c:ZM X m res)(ho:RE X o fo)(hc:X.calm=true:=by rfl)
  (ht:eval (.Call (.Attribute o m apos) [] [] pos) X.env=(do
   let ov <- eval o X.env
   standAt apos.atName
   let(f,first) <- akP [ov] (akJ ov m pl)
   callWith pos f first (akd pos (ajF [] X.env)) (akS pos (akv [] X.env))):=by rfl):
  RE X (.Call (.Attribute o m apos) [] [] pos) (kn res fo af):=⟨fun I p=>by
 refine ahP (pl:=pl) (ho.r I (p.bind fun w1 h1 q u y r p=>?_)) ht
 split at p
 .split at p
  .obtain⟨Ca,k,f,fd,ps,t,cl,hm,F,hr,hb⟩:=c.ex _ _ ‹_›
   cases id r with
   |ins c' e d n=>
    cases t.symm.trans c'
    have I1:=I.on y;exact sF I1.UJ (fs:=[]) ⟨y.2.at e,_,y.2.at d,n⟩ cl hm rfl (aiq I1.UJ hm.kp (F.call hr hc hb I1 (.cons r .nil) p))
  .exact p.elim
 .exact p.elim⟩
end
noncomputable def gj(p q:PV)(h:Y3):Res PV:=match p,q with
 |.str a,.str b=>.ok (.bl (!decide (b<a))) h
 |_,_=>.bad
def Ag(sC:Nat->Nat->Option Bool)(sT:Nat->String->Option Bool)(C:Nat):Y2->Option Bool
 |[]=>some ajt
 |q::r=>match CP sC sT C q with
  |some true=>some true
  |some ajt=>Ag sC sT C r
  |none=>none
def DM(kd:Nat->Option Bool)(sC:Nat->Nat->Option Bool)(sT:Nat->String->Option Bool)(ps:Y2)(h:Y3):Res PV:=match ps with
 |[p,.tup qs]=>match AE p with
  |some (C,b)=>if kd C=some b then(match Ag sC sT C qs with
   |some r=>.ok (.bl r) h
   |none=>.bad)else .bad
  |none=>.bad
 |_=>.bad
section
variable{w:Wo}
def Iv:Xa X (ajM .LtE) gj:=fun I rp rq k=>by
 unfold gj at k
 split at k
 .obtain⟨_,rfl⟩:=rp.vs;obtain⟨_,rfl⟩:=rq.vs;have e:∀l:Y1,(S l).cps.toList=l:=fun l=>by simp[S]
  refine P.le_str ?_;rw[e,e];exact k.here I.toHR (.bl _)
 .exact k.elim
theorem xW{G:SC}{K:ajZ}{F:Fz}{m:Zs}{sC:Nat->Nat->Option Bool}{sT:Nat->String->Option Bool}{C:Nat}{t:Value}(one:∀{q:PV}{v:Value}{b:Bool},bx G F m q v->CP sC sT C q=some b->ajT K t v=some b):∀{ps:Y2}{us:Z3}{b:Bool},aO G F m ps us->Ag sC sT C ps=some b->akI K t us=some b
 |[],_,_,.nil,e=>by cases e;rfl
 |p::r,_,b,.cons r1 r2,e=>by
  rw[Ag]at e
  split at e
  .rename_i z
   cases e
   rw[akI,one r1 z]
  .rename_i z;rw[akI,one r1 z];exact xW one r2 e
  .cases e
def Kg(tb:FJ X.K X.T kd sC sT):Yh X (.builtin "isinstance") (DM kd sC sT):=fun ok {w h p u Q E} I rs k=>by
 unfold DM at k
 split at k
 .obtain⟨u,v,rfl,r1,r2⟩:=rs.two
  split at k
  .rename_i C bb kp
   split at k
   .rename_i hk
    split at k
    .rename_i b e
     cases r2 with
     |@tup _ a2 k_ n e2 z rr=>
      show Wp X (call (.builtin "isinstance") [u,.ref a2]) Q E w.s;have g:w.s.heap.get? a2=some { cls:=.type "tuple",data:=.seq k_.toList.toArray n }:=by simpa using I.toHR.at e2
      have fin:∀tk,Q (.bool b) { w.s with toks:=tk }:=fun tk=>k.now I.toHR (.bl _);have KI:=I.UJ ok
      have Z7:∀{Ca:Addr},X.T C=some Ca->akI X.K (.ref Ca) k_.toList=some b:=fun{Ca} t=>xW (fun{q v b} rq e=>by
       unfold CP at e
       split at e
       .cases rq with|cls c=>exact tb.cls _ _ _ _ _ e t c
       .cases rq;exact tb.ty _ _ _ _ e t
       .cases e) rr e
      unfold AE at kp
      split at kp<;>cases kp
      .cases r1 with
       |ins c e1 d n=>obtain⟨cl,kc⟩:=tb.ins _ _ hk c;obtain⟨od,J,_⟩:=OM.look (fs:=[]) ⟨I.toHR.at e1,_,I.toHR.at d,n⟩;exact agm (W.kitx_own cl.pg cl.hd kc.at_ tb.g.get tb.g.tk kc.mo) KI J g (Z7 c) nofun fin
      .cases r1 with
       |exc c e1 oc d=>obtain⟨xc,kc⟩:=tb.exc _ _ hk c;exact agm (nW tb.g kc xc) KI ⟨_,_,I.toHR.at e1,oc,d⟩ g (Z7 c) nofun fin
      .cases r1 with
       |N6 c e1 oc d _ _ _ _ _=>obtain⟨xc,kc⟩:=tb.exc _ _ hk c;exact agm (nW tb.g kc xc) KI ⟨_,_,I.toHR.at e1,oc,d⟩ g (Z7 c) nofun fin
    .exact k.elim
   .exact k.elim
  .exact k.elim
 .exact k.elim
end
def tQ(x:Y1):Zp:=PySem.intText? (S x)
def ui(ps:Y2)(h:Y3):Res PV:=match ps with
 |[.str x]=>match tQ x with
  |some n=>if x.length<=640 then .ok (.int n) h else .bad
  |none=>.bad
 |_=>.bad
noncomputable def isB(k:Bool):Value->Bool
 |.bool b=>b==k
 |_=>ajt
def Kh:Yh X (.type "int") ui:=fun ok {w h p u Q E} I rs k=>by
 unfold ui at k
 split at k
 .obtain⟨u,rfl,r⟩:=rs.one
  cases r
  split at k
  .rename_i e
   split at k
   .rename_i hl;exact W.KIN.call_text e (by rw[dH];exact hl) (k.now I.toHR (.int _ _))
   .exact k.elim
  .exact k.elim
 .exact k.elim
end Z
noncomputable section
namespace Xb
open PySem PySem.Spec PyProof.Rows Z
variable{us:Z3}
def top(i:Nat):Stmt:=PySem.Challenge.pw_formsmith_k17_read_sign_by_sign.main.body.getD i (.Pass ⟨0,0,0,0⟩)
noncomputable def fN:Y2:=[.str [],.bl true]
noncomputable def aM:Y1:=[48,49,50,51,52,53,54,55,56,57,65,66,67,68,69,70,71,72,73,74,75,76,77,78,79,80,81,82,83,84,85,86,87,88,89,90,97,98,99,100,101,102,103,104,105,106,107,108,109,110,111,112,113,114,115,116,117,118,119,120,121,122]
noncomputable def bP:Y1:=[97,98,99,100,101,102,103,104,105,106,107,108,109,110,111,112,113,114,115,116,117,118,119,120,121,122,65,66,67,68,69,70,71,72,73,74,75,76,77,78,79,80,81,82,83,84,85,86,87,88,89,90,48,49,50,51,52,53,54,55,56,57]
noncomputable def cZ:Y1:=[97,98,99,100,101,102,103,104,105,106,107,108,109,110,111,112,113,114,115,116,117,118,119,120,121,122]
noncomputable def gV:Y1:=[10,32,33,34,35,36,38,39,40,41,42,43,44,45,46,47,48,49,50,51,52,53,54,55,56,57,58,59,60,61,62,63,64,65,66,67,68,69,70,71,72,73,74,75,76,77,78,79,80,81,82,83,84,85,86,87,88,89,90,91,92,93,94,95,96]
noncomputable def gU:Y1:=[97,98,99,100,101,102,103,104,105,106,107,108,109,110,111,112,113,114,115,116,117,118,119,120,121,122,123,124,125,126]
noncomputable def aI:Y1:=[10,32,33,34,35,36,38,39,40,41,42,43,44,45,46,47,48,49,50,51,52,53,54,55,56,57,58,59,60,61,62,63,64,65,66,67,68,69,70,71,72,73,74,75,76,77,78,79,80,81,82,83,84,85,86,87,88,89,90,91,92,93,94,95,96,97,98,99,100,101,102,103,104,105,106,107,108,109,110,111,112,113,114,115,116,117,118,119,120,121,122,123,124,125,126]
set_option genSizeOf false in
inductive Fn where
 |law|S7|Wr|spelt|Xn|Ry|T6|Q7|Q8|K5|G8|K3|V3|K1|V2|Ue|Tg|u6|TX|R6|J_|U9|Un|Q9|Tp|Wx|j7|SN|G9|s6|Ru|U_|Rz|j_|d8|E_|q_|G5|Xm|C_|v8|v5|A_|G3|M9|G_|J7|N5|Q0|R4|O4|g_|j6|h_|i_|Uj|prepared|Rv|escaped|Rp|f9|j8|j9|K6|R3|begins|p8|m_|n8|n_|q8|G6|u9|v7|D_|G7|o8|Q6|R7|Tq|unescaped|signs|L_|H_|H8|J4|M4|m6|H9|J5|Vc
abbrev CC:=Fn->Y2->Z.Out
abbrev DD:=Fn->Y2->Y3->Res PV
def oJ:Fn->Stmt
 |.law=>top 92
 |.S7=>top 62
 |.Wr=>top 75
 |.spelt=>top 59
 |.Xn=>top 88
 |.Ry=>top 90
 |.T6=>top 80
 |.Q7=>top 81
 |.Q8=>top 91
 |.K5=>top 63
 |.G8=>top 78
 |.K3=>top 64
 |.V3=>top 65
 |.K1=>top 74
 |.V2=>top 68
 |.Ue=>top 69
 |.Tg=>top 60
 |.u6=>top 87
 |.TX=>top 77
 |.R6=>top 89
 |.J_=>top 54
 |.U9=>top 66
 |.Un=>top 71
 |.Q9=>top 73
 |.Tp=>top 72
 |.Wx=>top 67
 |.j7=>bu (top 32) 0
 |.SN=>top 38
 |.G9=>top 82
 |.s6=>top 85
 |.Ru=>top 86
 |.U_=>top 76
 |.Rz=>top 84
 |.j_=>bu (top 57) 0
 |.d8=>bu (top 57) 2
 |.E_=>bu (top 14) 0
 |.q_=>top 55
 |.G5=>top 4
 |.Xm=>top 70
 |.C_=>bu (top 33) 1
 |.v8=>bu (top 34) 1
 |.v5=>bu (top 35) 1
 |.A_=>bu (top 36) 1
 |.G3=>bu (top 37) 1
 |.M9=>bu (top 33) 0
 |.G_=>bu (top 34) 0
 |.J7=>bu (top 35) 0
 |.N5=>bu (top 36) 0
 |.Q0=>bu (top 37) 0
 |.R4=>top 83
 |.O4=>top 79
 |.g_=>bu (top 57) 3
 |.j6=>bu (top 57) 4
 |.h_=>bu (top 57) 5
 |.i_=>bu (top 57) 6
 |.Uj=>top 50
 |.prepared=>top 56
 |.Rv=>top 5
 |.escaped=>top 42
 |.Rp=>top 17
 |.f9=>bu (top 57) 1
 |.j8=>bu (top 32) 1
 |.j9=>bu (top 57) 7
 |.K6=>top 51
 |.R3=>top 52
 |.begins=>top 45
 |.p8=>bu (top 33) 2
 |.m_=>bu (top 34) 2
 |.n8=>bu (top 35) 2
 |.n_=>bu (top 36) 2
 |.q8=>bu (top 37) 2
 |.G6=>bu (top 33) 3
 |.u9=>bu (top 34) 3
 |.v7=>bu (top 35) 3
 |.D_=>bu (top 36) 3
 |.G7=>bu (top 37) 3
 |.o8=>top 47
 |.Q6=>top 46
 |.R7=>top 40
 |.Tq=>top 41
 |.unescaped=>top 43
 |.signs=>top 3
 |.L_=>bu (top 33) 4
 |.H_=>bu (top 34) 4
 |.H8=>bu (top 35) 4
 |.J4=>bu (top 36) 4
 |.M4=>bu (top 37) 4
 |.m6=>bu (top 32) 2
 |.H9=>bu (top 36) 6
 |.J5=>bu (top 37) 6
 |.Vc=>top 39
def tJ:Fn->Zl
 |.O4=> ["_law_way_here","_law_value_here","_law_some","_law_good","_law_told_here","_law_found","_law_sign","_law_at"]
 |.Ry=> ["_law_cells","_law_spot","_law_n","_law_form_here","_law_words","_law_text_here","_law_k"]
 |f=>((bf (oJ f)).names.filter fun x=>match x.2 with|.local|.cell=>true|_=>ajt).map (·.1)
def pY(f:Fn):Str:=match oJ f with|.FunctionDef n _ _ _ _ _ _ _ _ _=>n|_=>""
def yS:Fn->Str
 |.j7=>"Way.coded"
 |.j_=>"BackReader.__init__"
 |.d8=>"BackReader.read_nodes"
 |.E_=>"NoFill.__init__"
 |.C_=>"Word.spelling"
 |.v8=>"Number.spelling"
 |.v5=>"Quoted.spelling"
 |.A_=>"Plain.spelling"
 |.G3=>"Line.spelling"
 |.M9=>"Word.fits"
 |.G_=>"Number.fits"
 |.J7=>"Quoted.fits"
 |.N5=>"Plain.fits"
 |.Q0=>"Line.fits"
 |.g_=>"BackReader.read_text"
 |.j6=>"BackReader.read_place"
 |.h_=>"BackReader.read_rounds"
 |.i_=>"BackReader.read_choice"
 |.f9=>"BackReader.stands_at"
 |.j8=>"Way.read"
 |.j9=>"BackReader.is_among"
 |.p8=>"Word.stretch_end"
 |.m_=>"Number.stretch_end"
 |.n8=>"Quoted.stretch_end"
 |.n_=>"Plain.stretch_end"
 |.q8=>"Line.stretch_end"
 |.G6=>"Word.meaning"
 |.u9=>"Number.meaning"
 |.v7=>"Quoted.meaning"
 |.D_=>"Plain.meaning"
 |.G7=>"Line.meaning"
 |.L_=>"Word.begins"
 |.H_=>"Number.begins"
 |.H8=>"Quoted.begins"
 |.J4=>"Plain.begins"
 |.M4=>"Line.begins"
 |.m6=>"Way.is_void"
 |.H9=>"Plain.is_void"
 |.J5=>"Line.is_void"
 |f=>pY f
def EB:Fn->Bool
 |.j7|.j_|.d8|.E_|.C_|.v8|.v5|.A_|.G3|.M9|.G_|.J7|.N5|.Q0|.g_|.j6|.h_|.i_|.f9|.j8|.j9|.p8|.m_|.n8|.n_|.q8|.G6|.u9|.v7|.D_|.G7|.L_|.H_|.H8|.J4|.M4|.m6|.H9|.J5=>ajt
 |_=>true
set_option genSizeOf false in
inductive Nt where
 |ValueError|abs|all|bool|enumerate|int|isinstance|len|list|max|range|reversed|str|tuple
def Kj:Nt->Str
 |.ValueError=>"ValueError"
 |.abs=>"abs"
 |.all=>"all"
 |.bool=>"bool"
 |.enumerate=>"enumerate"
 |.int=>"int"
 |.isinstance=>"isinstance"
 |.len=>"len"
 |.list=>"list"
 |.max=>"max"
 |.range=>"range"
 |.reversed=>"reversed"
 |.str=>"str"
 |.tuple=>"tuple"
def lJ(f:Fn):Zl:=(qJ (oJ f)).args.map (·.arg)
abbrev aad:=cK (.int 1)
abbrev aaf:=cK (.int 0)
abbrev aah:=cK (.str [97,116])
abbrev aar:=cK (.str [110,111])
abbrev aaU:=cK .non
abbrev aai:=au (c2 Wn (c2 j5 (ac 1) aar) aaU)
abbrev aaj:=cK (.str [113,117,111,116,101,100])
abbrev aak:=aa (ac 1) af
abbrev aal:=cK (.int 2)
abbrev aam:=cK (.str [116,101,120,116])
abbrev aa0:=c2 j5 (ac 1) aah
abbrev abm:=cK (.str [34])
abbrev aan:=cg aai (au (c2 v9 (cL (ac 0) (aS aa0) (aS (c2 aE aa0 aad))) abm))
abbrev aao:=cK (.str [119,111,114,100])
abbrev aaq:=aa (ac 0) af
abbrev aap:=cN bS aaq
abbrev aas:=cK (.str [])
abbrev aat:=c1 (dz 604 1) (ac 0)
abbrev aau:=cK (.int 3)
abbrev aaw:=cK (.str [110,117,109,98,101,114])
abbrev acY:=au (c2 v9 (ac 0) aaw)
abbrev ada:=aS (ac 3)
abbrev abJ:=c2 aE (ac 3) aad
abbrev adZ:=cL (ac 1) ada (aS abJ)
abbrev aco:=cK (.str [45])
abbrev aav:=H6 (cg acY (au (c2 v9 adZ aco))) (aG 4 abJ) bh
abbrev aax:=aG 4 (gG (au (c2 v9 adZ abm)) (c2 aE (cM et mR (ac 1) (aa abm (aa abJ af))) aad) aaf)
abbrev aaK:=cK (.int 7)
abbrev acF:=c2 bZ (ac 6) aaK
abbrev aaR:=cK (.int 4)
abbrev aay:=aa (c2 j5 (cN bY (aa aas (aa (c2 aE (ac 13) (cK (.str [44,32]))) (aa (c2 aE (ac 15) (ac 13)) (aa (ac 15) af))))) (c2 bt acF aaR)) af
abbrev ab3:=cK (.str [116,119,110])
abbrev acj:=cK (.str [98])
abbrev abh:=c2 j5 (ac 1) aaf
abbrev ac6:=cK (.int 24)
abbrev aaz:=c2 j5 (cN bY (aa aas (aa ab3 (aa ab3 (aa (cK (.str [108,109])) (aa (cK (.str [108,109])) (aa acj (aa acj af)))))))) (c2 bt (ac 6) (c2 j5 (cN bY (aa aaK (aa aau af))) (cN oR (aa (Yg (c2 Tw (ac 3) aad) (c2 ZD abh ac6)) af))))
abbrev ab2:=cK (.str [97])
abbrev abC:=fD gj gj ab2 (ac 1) (cK (.str [122]))
abbrev abG:=fD gj gj (cK (.str [65])) (ac 1) (cK (.str [90]))
abbrev aaA:=Yg abC abG
abbrev aaB:=aa (ac 2) af
abbrev aaC:=cK (.str [112,108,97,105,110])
abbrev aaD:=aa (ac 3) af
abbrev aaE:=cK (.str [112,108,97,99,101])
abbrev aaF:=aa (ac 0) aak
abbrev aaG:=cK (.str [108,105,110,101])
abbrev aaH:=cK (.str [108,111,111,112])
abbrev aaI:=c2 j5 (ac 2) aah
abbrev aaL:=cK (.int 95)
abbrev aaM:=c1 (dz 604 1) (ac 2)
abbrev aaN:=c1 (dz 604 0) (ac 0)
abbrev acA:=aS aad
abbrev aaO:=cL (ac 3) dG acA
abbrev aaP:=cK (.str [48,49,50,51,52,53,54,55,56,57])
abbrev aaQ:=cK (.str [99,104,111,105,99,101])
abbrev adQ:=cK (.int 12)
abbrev aaV:=c2 bZ (ac 6) adQ
abbrev aaW:=cN dD af
abbrev aaZ:=H6 (aU (ac 9)) (aG 12 (c2 aE (cN bY (aa (cN aW (aa aam (aa (ac 13) af))) af)) (ac 12))) bh
abbrev aa1:=aa (ac 1) aaB
abbrev abt:=cK (.bl ajt)
abbrev adi:=cN bY af
abbrev aa2:=aa (cN aW (aa abt (aa adi af))) af
abbrev aa5:=aU (ac 5)
abbrev aa6:=c2 j5 (ac 0) aau
abbrev aa7:=cK (.int 5)
abbrev aa8:=aQ (gG aai (cN aW (aa (Yz (ac 3)) af)) (cN bY (aa (c2 j5 (ac 1) aar) af)))
abbrev aa9:=cN bS aak
abbrev aa_:=cK (.bl true)
abbrev abb:=mK [(aaj,(cK (.str [94,94,34,113,10,110]))),(aaC,(cK (.str [126,126,60,108,62,103,38,97,124,98,10,110]))),(aaG,(cK (.str [126,126,10,110])))]
abbrev ac_:=aa (ac 8) af
abbrev abd:=c2 j5 (c2 aE (ac 8) (cN bY (aa (cN aW (aa aaU (aa aas af))) af))) (c2 bt acF (cN yW (aa aad (aa (cN bS ac_) af))))
abbrev abe:=cK (.str [10,38,60,62,124])
abbrev abg:=c2 j5 (ac 2) aaf
abbrev abj:=c2 j5 (ac 0) aaf
abbrev ac5:=cK (.int 94)
abbrev abk:=c2 bt (c2 aE (c2 aE aaV aad) (c2 bt (ac 14) ac5)) aaL
abbrev abl:=c2 aE aad (c2 bt (c2 bZ (ac 6) (cK (.int 1140))) ac5)
abbrev abn:=au (c2 v9 (ac 0) aaj)
abbrev abo:=c2 Tw (ac 5) (cN bS aaD)
abbrev abp:=cL (ac 1) (aS aaI) (aS (c2 aE aaI aad))
abbrev abq:=aa (ac 1) (aa (cK (.str [126])) (aa (cK (.str [126,60,62,38,124,10])) (aa (cK (.str [126,108,103,97,98,110])) af)))
abbrev abR:=c2 j5 (ac 2) aal
abbrev acq:=c2 bt (c2 bZ (ac 5) aa7) aal
abbrev abr:=H6 (cg (eG (aU abR)) (au (c2 v9 acq aad))) (aQ (cN bY ac_)) bh
abbrev abu:=c2 j5 (ac 0) aaR
abbrev ac9:=au (c2 Tw aa0 aap)
abbrev abv:=H6 (cg aai ac9) (kb (ac 1) aar aa0) bh
abbrev abw:=aa (ac 5) af
abbrev abx:=aa (ac 4) af
abbrev aby:=aU (ac 3)
abbrev adU:=aa (ac 9) af
abbrev abz:=aa (ac 0) (aa (ac 1) (aa (cN aW (aa (Yz (ac 11)) (aa (ac 8) adU))) (aa (c2 oP (ac 5) aad) af)))
abbrev abA:=c2 BR (cK (.int 10)) (cK (.int 30))
abbrev abB:=H6 (cg (eG (aU (ac 9))) (au (c2 v9 (c2 bt (c2 bZ (ac 6) aa7) aal) aad))) (aQ (cN bY (aa (ac 16) af))) bh
abbrev adX:=aa (cK (.str [109])) af
abbrev abD:=cN bY (aa (cN aW (aa (cN aW (aa (ac 10) (aa (c2 j5 (ac 8) aaK) af))) adX)) af)
abbrev abE:=cL (ac 1) ada (aS (ac 4))
abbrev adn:=c2 j5 (ac 2) aar
abbrev abF:=au (c2 Wn adn aaU)
abbrev abH:=cK (.int 40)
abbrev abI:=c2 j5 (ac 0) aal
abbrev acS:=cN aW (aa (ac 10) af)
abbrev ach:=cK (.str [119])
abbrev abK:=cx (cM cI aZ (ac 11) (aa (cN aW (aa acS (aa ach af))) af))
abbrev abL:=aa (ac 1) (aa (cK (.str [126])) (aa (cK (.str [126,10])) (aa (cK (.str [126,110])) af)))
abbrev abM:=cN bS (aa aaN af)
abbrev abN:=cK (.str [10])
abbrev abO:=au (c2 Tw (ac 1) aap)
abbrev abP:=aa (ac 9) (aa (ac 10) (aa abR (aa (c2 bZ (ac 6) (cK (.int 49))) af)))
abbrev abQ:=c2 j5 (ac 4) aaf
abbrev abS:=c2 aE (ac 2) aad
abbrev abT:=aa (cK (.str [94])) (aa (cK (.str [94,34,10])) (aa (cK (.str [94,113,110])) af))
abbrev abV:=c2 j5 (ac 0) (ac 1)
abbrev abW:=cg (au (c2 v9 (c2 bt (c2 bZ (ac 1) aaK) aau) aad)) (au (c2 Tv (ac 0) aas))
abbrev abX:=sS [(aah,aaf),(aar,aaU)]
abbrev abY:=cL (ac 0) dG (aS (ac 2))
abbrev abZ:=au (c2 Tw aaM aa9)
abbrev ab0:=aa (c2 j5 (ac 1) aad) af
abbrev ab1:=cw (aa aal af)
abbrev ab4:=aG 5 (c2 aE (ac 5) aad)
abbrev adt:=c2 bZ (ac 1) abH
abbrev ab6:=cK (.int 6)
abbrev ab5:=cN oR (aa (c2 v9 (c2 bt adt ab6) aad) af)
abbrev adH:=cK (.int 400)
abbrev ab7:=aa (ac 1) (aa adH af)
abbrev ab8:=c2 j5 (ac 3) aad
abbrev ab9:=c2 j5 (ac 2) aad
abbrev ab_:=jd (ac 7) (c2 bt (c2 bZ (ac 5) (cK (.int 285))) aal) adi
abbrev acd:=aa aat af
abbrev ace:=aa (ac 1) (aa aa9 af)
abbrev acf:=aa (ac 0) (aa (ac 1) (aa (ac 2) (aa (ac 9) (aa (ac 10) aaD))))
abbrev acg:=aG 3 (c2 j5 (ac 0) (c2 bt (c2 bZ (ac 1) (cK (.int 11))) aap))
abbrev acQ:=cK (.int 9)
abbrev aci:=au (c2 v9 (c2 bt (c2 aE (ac 6) (ac 3)) acQ) aaK)
abbrev adI:=c2 j5 aaN aat
abbrev acs:=c2 Wz adI (ac 1)
abbrev acu:=iO (ac 1)
abbrev acv:=aa aaM af
abbrev acz:=aa (c2 j5 (ac 2) (ac 0)) af
abbrev acB:=aa (ac 0) (aa (ac 1) (aa (ac 2) (aa (ac 9) aaD)))
abbrev acC:=eh (P0 4) (eh (P0 5) lQ)
abbrev acD:=c2 j5 (ac 5) aaf
abbrev acE:=c2 j5 (ac 3) aaf
abbrev acG:=aa (c2 j5 (ac 7) aaf) af
abbrev acI:=aa (c2 j5 (ac 7) aad) af
abbrev acJ:=aa (ac 6) af
abbrev acL:=aa (ac 4) (aa (ac 7) af)
abbrev acM:=iO (ac 0)
abbrev acN:=c1 vR aad
abbrev acO:=au (c2 v9 (c2 bt (c2 bZ (ac 5) aaL) aau) aad)
abbrev acP:=aa aaU af
abbrev acR:=YF 3 (eh (P0 7) (eh (P0 8) (eh (P0 9) lQ)))
abbrev acT:=c2 j5 (ac 8) (c2 bt (ac 6) adQ)
abbrev acU:=c2 bt (c2 bZ (ac 1) (cK (.int 50021))) aaL
abbrev acV:=au (c2 v9 (ac 4) aaf)
abbrev acZ:=c2 bt (c2 bZ (ac 1) aaK) (c2 aE aap aad)
abbrev ac1:=aa aaj aaF
abbrev ac2:=aa (ac 0) (aa (c2 j5 (ac 1) (ac 4)) af)
abbrev ac3:=c2 j5 (ac 0) (ac 5)
abbrev ac4:=c2 j5 (c2 j5 (c2 j5 aa6 aaf) aad) aaf
abbrev ac7:=au (c2 v9 abj aaH)
abbrev ac8:=au (c2 v9 abj aaE)
abbrev adb:=au (c2 v9 (ac 4) (cK (.str [108])))
abbrev ade:=kb (ac 2) aar aaI
abbrev adf:=cN aW (aa ab2 af)
abbrev adg:=cK (.int 8)
abbrev adh:=aa aao (aa (c2 j5 (ac 0) aa0) af)
abbrev adk:=c2 j5 (ac 5) aad
abbrev adl:=c2 j5 (ac 4) aad
abbrev ado:=c2 j5 (ac 0) aad
abbrev adp:=c2 bt (ac 1) aaK
abbrev adq:=c2 bt (ac 0) aau
abbrev adu:=c2 Tw (ac 5) aap
abbrev adv:=YF 2 (eh (P0 9) (eh (P0 10) lQ))
abbrev adw:=cK (.str [110])
abbrev adx:=PV.bl true
abbrev ady:=c2 bt (c2 aE aaV (ac 14)) aaL
abbrev adz:=c2 bt (c2 aE (ac 6) aal) aaL
abbrev adA:=aa abI af
abbrev adB:=aa aaC (aa aaj (aa aaG af))
abbrev adC:=aa aa6 af
abbrev adD:=aQ (ac 4)
abbrev adE:=aQ (ac 1)
abbrev adF:=cN dD (aa (Yz (ac 2)) aa2)
abbrev adG:=cK (.str [10,10,10,10,10])
abbrev adJ:=c2 bt aaV aaL
abbrev adK:=aa (ac 12) af
abbrev adL:=jT (c2 v9 (ac 0) aao) aaA
abbrev adM:=aa (ac 1) (aa (ac 2) abx)
abbrev adN:=cK (.str aM)
abbrev adO:=cK (.int 31)
abbrev adR:=au abo
abbrev adS:=au (c2 gW (ac 0) (ac 1))
abbrev adT:=aa (c2 j5 (ac 3) aau) af
abbrev adV:=aQ abt
abbrev adW:=aQ aaU
abbrev adY:=aG 1 (c2 aE (ac 1) aad)
abbrev ad0:=cL (ac 1) acA (aS acN)
abbrev ad1:=au (c2 v9 (ac 10) acj)
abbrev ad2:=au (c2 Wz (ac 10) ab3)
abbrev ad3:=au (c2 v9 abp (ac 4))
abbrev ad4:=au (c2 gW abV (ac 2))
abbrev ad5:=au (c2 Wz abV (ac 2))
abbrev ad6:=au (c2 Wn (ac 9) aaU)
abbrev ad7:=au (c2 Tw (ac 6) aaf)
abbrev ad8:=au (c2 Tw (ac 4) aa9)
abbrev ad9:=au (c2 Tv (ac 0) aaj)
abbrev ad_:=aa (ac 0) (aa abE af)
abbrev aea:=aS (c2 aE (ac 2) aal)
abbrev aeb:=aQ (cM et eJ aas abx)
abbrev aec:=kb (ac 2) aar (ac 3)
abbrev aed:=kb (ac 2) aah (ac 4)
def sP(C:CC):Nat->Option (Y2->Z.Out)
 |0=>some (C .L_)
 |1=>some (C .H_)
 |2=>some (C .H8)
 |3=>some (C .J4)
 |4=>some (C .M4)
 |_=>none
def qK(C:CC):Nat->Option (Y2->Z.Out)
 |0=>some (C .j7)
 |1=>some (C .j7)
 |2=>some (C .j7)
 |3=>some (C .j7)
 |4=>some (C .j7)
 |_=>none
def pb(C:CC):Nat->Option (Y2->Z.Out)
 |0=>some (C .M9)
 |1=>some (C .G_)
 |2=>some (C .J7)
 |3=>some (C .N5)
 |4=>some (C .Q0)
 |_=>none
def oZ(C:CC):Nat->Option (Y2->Z.Out)
 |0=>some (C .m6)
 |1=>some (C .m6)
 |2=>some (C .m6)
 |3=>some (C .H9)
 |4=>some (C .J5)
 |_=>none
def mw(C:CC):Nat->Option (Y2->Z.Out)
 |0=>some (C .G6)
 |1=>some (C .u9)
 |2=>some (C .v7)
 |3=>some (C .D_)
 |4=>some (C .G7)
 |_=>none
def wv(C:CC):Nat->Option (Y2->Z.Out)
 |0=>some (C .j8)
 |1=>some (C .j8)
 |2=>some (C .j8)
 |3=>some (C .j8)
 |4=>some (C .j8)
 |_=>none
def iw(C:CC):Nat->Option (Y2->Z.Out)
 |0=>some (C .C_)
 |1=>some (C .v8)
 |2=>some (C .v5)
 |3=>some (C .A_)
 |4=>some (C .G3)
 |_=>none
def iE(C:CC):Nat->Option (Y2->Z.Out)
 |0=>some (C .p8)
 |1=>some (C .m_)
 |2=>some (C .n8)
 |3=>some (C .n_)
 |4=>some (C .q8)
 |_=>none
def kd_:Nat->Option Bool
 |0=>some ajt
 |1=>some ajt
 |2=>some ajt
 |3=>some ajt
 |4=>some ajt
 |12=>some true
 |_=>none
def tC_:List (Nat×Nat×Bool):=[(12,10,ajt),(12,9,ajt),(12,7,ajt),(12,8,ajt),(12,12,true),(12,11,ajt)]
def sC_:Nat->Nat->Option Bool:=AC tC_
def sT_:Nat->String->Option Bool
 |12,"ValueError"=>some true
 |_,_=>none
def jS:Nat->Bool
 |12=>true
 |_=>ajt
def DR:Nat->Bool
 |12=>true
 |_=>ajt
def dl:Nat->Nat
 |0=>0
 |k+1=>dl k+2
def bN(C:CC)(a_:DD)(z:Bool):Sx:=
 (aw (H6 (jY (eG (aU (cN aV (aa (ac 1) (aa (cK (.ty "str")) af))))) (eG (aU (aJ (C .G5) ace)))) (cQ z 12 acP) bh)
  (aw (aG 2 (Ib 604 (a_ .j_) aak))
  (aw (aG 3 (bJ 604 (a_ .d8) (ac 2) (aa (aJ (C .q_) (aa (ac 0) (aa (cK (.tup fN)) af))) af)))
  (aw (H6 abZ (cQ z 12 acv) bh)
  (aQ (ac 3))))))
def kZ(C:CC):Sx:=
 (aw (ud 604 0 (ac 0) (ac 1))
  (ud 604 1 (ac 0) aaf))
def ak(C:CC)(a_:DD):Sx:=(H6 (au (c2 v9 acE aam)) (cx (bJ 604 (a_ .g_) (ac 0) (aa ab8 af))) (H6 (au (c2 v9 acE aaE)) (cx (cM cI aZ (ac 2) (aa (bJ 604 (a_ .j6) (ac 0) (aa ab8 af)) af))) (H6 (au (c2 v9 acE aaH)) (cx (cM cI aZ (ac 2) (aa (bJ 604 (a_ .h_) (ac 0) (aa ab8 (aa (c2 j5 (ac 3) aal) adT))) af))) (cx (cM cI aZ (ac 2) (aa (bJ 604 (a_ .i_) (ac 0) (aa ab8 (aa (c2 j5 (ac 3) aal) af))) af))))))
def eF(C:CC)(a_:DD):Sx:=
 (aw (aG 2 aaW)
  (aw (ik acu (P0 3) (ak C a_))
  (aQ (ac 2))))
def aY(C:CC)(a_:DD)(z:Bool):Sx:=(aw (H6 (eG (aU (bJ 604 (a_ .f9) (ac 0) aaB))) (cQ z 12 acd) bh)
  (ud 604 1 (ac 0) (c2 aE aat aad)))
def eR(C:CC)(a_:DD)(z:Bool):Sx:=
 (ik acu (P0 2) (aY C a_ z))
def bM(C:CC)(z:Bool):Sx:=
 (aw (aG 2 (kn (wv C) (ac 1) (aa aaN acd)))
  (aw (H6 (au (c2 Wn (ac 2) aaU)) (cQ z 12 acd) bh)
  (aw (ud 604 1 (ac 0) ab9)
  (aQ abg))))
def aj(C:CC)(a_:DD):Sx:=(aw (cx (cM cI aZ (ac 4) (aa (bJ 604 (a_ .d8) (ac 0) aaB) af)))
  (aw (aG 5 (bJ 604 (a_ .f9) (ac 0) (aa (gG aby aaO (ac 1)) af)))
  (H6 aa5 (cx (bJ 604 (a_ .g_) (ac 0) aaD)) bh)))
def dY(C:CC)(a_:DD):Sx:=
 (aw (aG 4 aaW)
  (aw (aG 5 (bJ 604 (a_ .f9) (ac 0) aak))
  (aw (bo aa5 (aj C a_))
  adD)))
def aB(C:CC)(a_:DD)(z:Bool):Sx:=
 (aw (H6 (aU (bJ 604 (a_ .j9) (ac 0) (aa abh af))) (aQ (cN aW (aa aa_ (aa (bJ 604 (a_ .d8) (ac 0) ab0) af)))) bh)
  (aw (H6 (aU (bJ 604 (a_ .j9) (ac 0) (aa abg af))) (aQ (cN aW (aa abt (aa (bJ 604 (a_ .d8) (ac 0) (aa ab9 af)) af)))) bh)
  (cQ z 12 acd)))
def bH(C:CC):Sx:=
 (aQ (jT (c2 Tw aat abM) acs))
def bA(C:CC)(a_:DD):Sx:=
 (aw (H6 (au (c2 v9 aat abM)) (aQ (c2 j5 (ac 1) aad)) bh)
  (aQ (bJ 604 (a_ .f9) (ac 0) (aa abh af))))
def nv(C:CC)(D:DD):Sx:=(aG 7 (aJ (C .Q7) (aa (ac 7) (aa (bn (D .K5) aa1) af))))
def ot(C:CC)(D:DD):Ex:=(c2 j5 (aJ (C .K3) af) (c2 bt (bn (D .K5) aa1) aaL))
def qk(C:CC)(D:DD):Sx:=(aw (aG 7 (aJ (C .spelt) (aa (ac 4) (aa (bn (D .T6) adM) af))))
  (aw (ik (cw (aa (c2 bt (bn (D .K5) aa1) aaR) af)) (P0 8) (nv C D))
  (aw (H6 aci (aG 7 (cM et eJ aas (aa (cN VL (cy [1,2] (cw acJ) bQ (ot C D))) af))) bh)
  (aw (aG 9 (aJ (C .Xn) acL))
  (H6 (jY (eG (aU (aJ (C .G8) (aa (aJ (C .Q8) acL) adU)))) (eG (aU (aJ (C .G8) (aa (aJ (C .Q8) acL) adU))))) adV bh)))))
def Bd(C:CC)(D:DD):Sx:=
 (aw (aG 1 (cL (ac 0) (aS aal) (aS (cK (.int 34)))))
  (aw (aG 2 (cN dD (aa aaf (aa ac6 af))))
  (aw (aG 3 (aJ (C .S7) (aa (ac 0) (aa aad af))))
  (aw (yJ (YF 2 acC) (bn (D .Wr) (aa (ac 1) (aa (ac 2) (aa (aJ (C .S7) (aa (ac 0) (aa aaf af))) (aa aa_ af))))))
  (aw (ik (cw (aa ab6 af)) (P0 6) (qk C D))
  (aw (H6 (eG (aU (bn (D .Ry) aa1))) adV bh)
  (aw (aG 10 (c2 j5 (cN bY (aa aaU (aa aa7 (aa (cN bY (aa ab2 af)) (aa (cK (.str [9])) (aa (c2 aE (ac 7) (cK (.str [9]))) (aa adf (aa (cK (.str [97,9,98])) af)))))))) (c2 bt (c2 bZ (ac 3) acQ) aaK)))
  (aw (aG 11 (cN aW (aa (cN aW (aa aaE (aa adf (aa (c2 j5 (cN bY (aa aaw (aa aao af))) (c2 bt (ac 3) aal)) af)))) af)))
  (aQ (jT (c2 v9 (aJ (C .Q8) (aa (ac 4) (aa (ac 10) af))) (cN bY acP)) (c2 v9 (aJ (C .Q8) (aa (ac 11) (aa (c2 jh (cK (.str [55])) (c2 aE (cK (.int 3900)) (c2 bt (ac 3) (cK (.int 99))))) af))) (cN bY (aa aaf af)))))))))))))
def jL(C:CC):Sx:=
 (aw (H6 abO (aQ abV) bh)
  (aQ aaf))
def oA(C:CC)(D:DD):Sx:=
 (aw (aG 4 (aJ (C .V3) aaB))
  (aw (aG 5 (cN aW (aa (aJ (C .V2) abx) (aa (ac 4) aaD))))
  (aw (aG 6 (bn (D .K1) (aa (ac 0) (aa (ac 1) (aa (ac 5) (aa aau af))))))
  (aQ (cN aW (aa (aJ (C .Ue) acJ) abx))))))
def jW(C:CC):Sx:=(H6 (au (c2 v9 abQ aam)) (cx (cM cI aZ (ac 2) (aa adl af))) (aw (cx (cM cI aZ (ac 2) (aa (aJ (C .Tg) (aa (ac 4) (aa (c2 j5 (ac 1) (ac 3)) af))) af)))
  (aG 3 abJ)))
def wF(C:CC):Sx:=
 (aw (aG 2 aaW)
  (aw (aG 3 aaf)
  (aw (ik acM (P0 4) (jW C))
  (aQ (cM et eJ aas aaB)))))
def jK(C:CC)(D:DD):Sx:=
 (aw (aG 2 abX)
  (aw (aG 3 (bn (D .u6) (aa (ac 0) aa1)))
  (aw (H6 (cg abF (au (c2 Tw aaI aa9))) ade bh)
  (aQ (gG abF (cN aW aaD) (cN bY (aa adn af)))))))
def iu(C:CC)(D:DD):Ex:=(aJ (C .TX) (aa ach (aa (bn (D .K5) aa1) af)))
def ir(C:CC):Ex:=(c2 aE (ac 0) abN)
def fU(C:CC)(D:DD):Sx:=(aG 5 (aJ (C .Q7) (aa (ac 5) (aa (bn (D .K5) aaF) af))))
def hV(C:CC)(D:DD):Sx:=
 (aw (aG 2 (bn (D .K5) aaF))
  (aw (aG 3 (cN aW (aa (cN aW (aa aaH (aa ab2 (aa (cN aW (aa (cK (.str [99])) af)) (aa (cN aW (aa (cN aW (aa aaE (aa adf (aa aao af)))) (aa (cN aW (aa aam (aa abN af))) af))) (aa aas af)))))) af)))
  (aw (aG 3 (c2 aE (ac 3) (cN aW (aa (cN aW (aa aaQ (aa (cN aW (aa acj af)) (aa (cN aW (aa (cN aW (aa aaE (aa (cN aW (aa (cK (.str [100])) af)) (aa aaj af)))) af)) (aa (cN aW af) af))))) af))))
  (aw (aG 4 (cN VL (cy [0,1] (cw (aa (c2 bt (ac 2) aaR) af)) bQ (iu C D))))
  (aw (aG 5 (c2 aE (cM et eJ aas (aa (cN VL (cy [] (iO (ac 4)) bQ (ir C))) af)) (c2 j5 (cN bY (aa aas (aa (cK (.str [34,97,94,113,34])) af))) (c2 bt (c2 bZ (ac 2) aaR) aal))))
  (aw (ik (cw (aa (c2 bt (c2 bZ (ac 2) adg) aau) af)) (P0 6) (fU C D))
  (aQ (aJ (C .G8) (aa (aJ (C .Q8) (aa (ac 3) abw)) (aa (aJ (C .R6) abw) af))))))))))
def kP(C:CC)(D:DD):Ex:=(bn (D .T6) (aa (ac 1) (aa (ac 2) adT)))
def eS(C:CC)(D:DD):Sx:=(aw (H6 (au (c2 v9 abQ aam)) Iq bh)
  (aw (aG 5 (bn (D .K5) aaF))
  (H6 (au (c2 v9 abQ aaE)) (cx (cM cI aZ (ac 3) (aa (aJ (C .TX) (aa (cM sw rP (mK [(aao,ach),(aaw,adw)]) (aa (c2 j5 (ac 4) aal) (aa (cK (.str [116])) af))) abw)) af))) (H6 (au (c2 v9 abQ aaQ)) (cx (cM cI aZ (ac 3) (aa (cN aW (aa (c2 v9 acq aaf) (aa (bn (D .T6) (aa (ac 0) (aa (ac 1) (aa (c2 j5 (ac 4) (c2 aE aal acq)) af)))) af))) af))) (aw (aG 6 (c2 j5 (cN bY (aa aaf (aa aad (aa aal (aa aau (aa aad (aa aal af))))))) (c2 bt (c2 bZ (ac 5) aa7) ab6)))
  (aw (aG 6 (c2 jh (ac 6) (cN oR (aa (c2 Tw abh (cK (.int 150))) af))))
  (cx (cM cI aZ (ac 3) (aa (cN VL (cy [0,1,4] (cw acJ) bQ (kP C D))) af)))))))))
def oB(C:CC)(D:DD):Sx:=
 (aw (aG 3 aaW)
  (aw (ik (iO (ac 2)) (P0 4) (eS C D))
  (aQ (ac 3))))
def jU(C:CC):Sx:=
 (aw (aG 2 acZ)
  (aw (aG 3 (c2 j5 (aJ (C .K3) af) acU))
  (aw (H6 abW acg bh)
  (aw (aG 4 adp)
  (aw (H6 acV (aQ (ac 0)) bh)
  (aw (H6 (au (c2 Tw (ac 4) aau)) (aQ (c2 aE (c2 aE abY (ac 3)) (cL (ac 0) (aS (c2 oP (c2 aE (ac 2) (ac 4)) aad)) dG))) bh)
  (aw (H6 (au (c2 v9 (ac 4) aau)) (aQ (c2 aE abY (cL (ac 0) (aS abS) dG))) bh)
  (aw (H6 (au (c2 v9 (ac 4) aaR)) (aw (aG 5 (c2 aE (cL (ac 0) (aS abS) aea) (cL (ac 0) (aS (ac 2)) (aS abS))))
  (aQ (c2 aE (c2 aE abY (ac 5)) (cL (ac 0) aea dG)))) bh)
  (aw (H6 (au (c2 v9 (ac 4) aa7)) (aQ abY) bh)
  (aQ (c2 aE (ac 0) (ac 3))))))))))))
def jq(C:CC)(a_:DD):Sx:=
 (ua jS (aQ (cN aW (aa (bn (a_ .J_) aaF) af))) 2 (aw (aG 3 (cN (DM kd_ sC_ sT_) (aa (ac 2) (aa (cN aW (aa (cK (.cls 10)) (aa (cK (.cls 9)) (aa (cK (.cls 7)) (aa (cK (.cls 8)) (aa (cK (.cls 11)) af)))))) af))))
  (aQ (gG (jY aby (jY (eG (aU (cN (GP kd_ sC_ sT_) (aa (ac 2) (aa (cK (.cls 12)) af))))) (eG (aU (cN (GP kd_ sC_ sT_) (aa (ac 2) (aa (cK (.ty "ValueError")) af))))))) (cN bY (aa (cK (.str [111,116,104,101,114])) af)) (cN bY (aa (c1 (pAt DR) (ac 2)) af))))))
def md(C:CC):Sx:=
 (aw (jd (ac 1) aaf (c2 aE abh aad))
  (aw (aG 2 abh)
  (aw (aG 3 (c2 aE (c2 jh (c2 jh adO (ac 2)) (ac 2)) (c2 jh (cK (.int 7919)) (ac 2))))
  (aw (H6 (au (c2 ZD aap aaf)) (aG 3 (c2 aE (ac 3) (c2 jh (c2 j5 (ac 0) (c2 bt (ac 2) aap)) (c2 aE aad (c2 bZ (ac 2) aap))))) bh)
  (aQ (c2 bZ (c2 bt (c2 jh (ac 3) (cK (.int 48271))) (cK (.int 2147483647))) aaK))))))
def kN(C:CC):Ex:=(aJ (C .G8) (aa (c2 j5 (ac 1) (ac 0)) acz))
def jr(C:CC):Sx:=
 (aw (H6 (aU (cN oQ (aa (ac 1) (aa (cN aW (aa (cK (.ty "list")) (aa (cK (.ty "tuple")) af))) af)))) (aw (H6 (jY (au (c2 Tv (cN aV (aa (ac 0) (aa (cK (.ty "list")) af))) (cN aV (aa (ac 1) (aa (cK (.ty "list")) af))))) (au (c2 Tv (cN aV (aa (ac 0) (aa (cK (.ty "tuple")) af))) (cN aV (aa (ac 1) (aa (cK (.ty "tuple")) af)))))) adV bh)
  (aQ (jT (c2 v9 aap aa9) (cN GQ (aa (cN VL (cy [0,1] (cw (aa aa9 af)) bQ (kN C))) af))))) bh)
  (aQ (jT (c2 v9 (cN aV (aa (ac 0) (aa (cK (.ty "bool")) af))) (cN aV (aa (ac 1) (aa (cK (.ty "bool")) af)))) (c2 v9 (ac 0) (ac 1)))))
def pC(C:CC):Sx:=
 (aw (aG 0 (cK (.str gV)))
  (aQ (c2 aE (ac 0) (cK (.str gU)))))
def lX(C:CC):Ex:=(c2 j5 (ac 1) (c2 bt (c2 aE (c2 bZ (ac 2) (cK (.int 192))) (c2 jh aa7 (ac 0))) (cK (.int 26))))
def fL(C:CC):Sx:=(aw (aG 6 (c2 j5 (ac 1) (c2 bt (c2 aE (c2 aE (c2 bZ (ac 0) (cK (.int 192))) (c2 jh aaK (ac 5))) aad) (cK (.int 26)))))
  (cx (cM cI aZ (ac 4) (aa (c2 j5 (cN bY (aa (c2 aE (cL (ac 2) dG acA) (cN xK abw)) (aa (c2 aE (c2 aE (cL (ac 2) dG ada) (ac 6)) (cL (ac 2) (aS abJ) dG)) (aa (cL (c2 aE (ac 6) (ac 2)) dG (aS (c2 aE aad (c2 bt (c2 bZ (ac 0) aau) adg)))) af)))) adq) af))))
def pB(C:CC):Sx:=
 (aw (aG 1 (cK (.str cZ)))
  (aw (aG 2 (cM et eJ aas (aa (cN VL (cy [1,0] (cw (aa adg af)) bQ (lX C))) af)))
  (aw (aG 3 (c2 bt (c2 bZ (ac 0) ac6) adg))
  (aw (aG 4 aaW)
  (aw (ik (cw (aa adQ af)) (P0 5) (fL C))
  adD)))))
def gL(C:CC):Tx:=(cg (au (c2 Wz ado (ac 1))) (au (c2 Tv (ac 1) aas)))
def jH(C:CC):Ex:=(ac 0)
def iH(C:CC)(D:DD):Sx:=(aw (aG 6 (bn (D .K5) aaF))
  (aw (aG 7 aaz)
  (aw (aG 8 (cN VL (cy [7] (iO abg) (gL C) (jH C))))
  (aw (yJ adv abd)
  (H6 ad6 (cx (cM cI aZ (ac 4) (aa (cN aW (aa aam (aa (aJ (C .U9) (aa acF af)) af))) af))) (H6 ad2 (aG 4 (c2 jC (ac 4) (aJ (C .Un) abP))) (H6 ad1 (aG 4 (c2 jC (ac 4) (bn (D .Q9) acB))) (aG 4 (c2 jC (ac 4) (bn (D .Tp) acf))))))))))
def mB(C:CC)(D:DD):Sx:=
 (aw (aG 4 aaW)
  (aw (ik (cw (aa (c2 aE aad (c2 bt (c2 bZ (bn (D .K5) aaF) aa7) aaR)) af)) (P0 5) (iH C D))
  adD))
def pq(C:CC):Sx:=
 (aQ (c2 aE (c2 aE (aJ (C .Wx) (aa (cN aW af) aaq)) (aJ (C .Wx) (aa (cN aW (aa abu af)) aaq))) (cN bY (aa (cN aW (aa (cN aW (aa (c2 j5 (ac 0) aa7) af)) (aa (cK (.str [108])) af))) (aa (cN aW (aa (cN aW (aa (c2 j5 (ac 0) ab6) af)) adX)) af)))))
def gK(C:CC):Sx:=(H6 (cg (au (c2 v9 abg aam)) (cg (au (c2 Tv (ac 1) adi)) (au (c2 v9 (c2 j5 (c2 j5 (ac 1) acN) aaf) aam)))) (jd (ac 1) acN (cN aW (aa aam (aa (c2 aE (c2 j5 (c2 j5 (ac 1) acN) aad) ab9) af)))) (cx (cM cI aZ (ac 1) aaB)))
def wH(C:CC):Sx:=
 (aw (aG 1 aaW)
  (aw (ik acM (P0 2) (gK C))
  (aQ (cN vQ aak))))
def jk(C:CC):Ex:=(aJ (C .spelt) (aa (c2 j5 (ac 1) aau) aaq))
def dh(C:CC):Sx:=
 (aw (H6 ac8 (aQ (kn (qK C) (aJ (C .SN) adA) aak)) bh)
  (aw (H6 ac7 (aQ (cM et eJ abu (aa (cN VL (cy [0] acu bQ (jk C))) af))) bh)
  (aQ (aJ (C .spelt) (aa (gG (aU abh) abI aa6) ab0)))))
def gc(C:CC):Ex:=(c2 j5 (c2 j5 (c2 j5 (c2 aE (ac 0) (cL (ac 1) (aS abS) dG)) aaf) aad) aaf)
def aK(C:CC)(D:DD):Sx:=(aw (H6 (au (c2 rO adn aaU)) (aQ (ac 3)) bh)
  (H6 (au (c2 v9 acD aam)) (cx (bn (D .G9) (aa adk aa1))) (H6 (au (c2 v9 acD aaE)) (cx (cM cI aZ (ac 3) (aa (bn (D .s6) (aa (c2 j5 (ac 5) aal) aa1)) af))) (H6 (au (c2 v9 acD aaH)) (cx (cM cI aZ (ac 3) (aa (bn (D .Ru) (aa (ac 5) aa1)) af))) (aw (aG 6 (cN VL (cy [0,4] (iO (cL (ac 5) (aS aal) (aS aaR))) bQ (gc C))))
  (aw (H6 (au (c2 gW abp (ac 6))) (aw ade
  (aQ (ac 3))) bh)
  (aw (aG 7 (cM cI mj (ac 6) (aa (c2 j5 (ac 1) aaI) af)))
  (cx (cM cI aZ (ac 3) (aa (cN aW (aa (c2 v9 (ac 7) aaf) (aa (bn (D .u6) (aa (c2 j5 (ac 5) (c2 aE aal (ac 7))) aa1)) af))) af))))))))))
def jt(C:CC)(D:DD):Sx:=
 (aw (aG 3 aaW)
  (aw (ik (vf aaq) (YF 2 acC) (aK C D))
  (aQ (ac 3))))
def lV(C:CC):Ex:=(c2 j5 (ac 1) (c2 bt (c2 aE (c2 bZ (ac 2) (cK (.int 240))) (c2 jh (ac 0) (c2 aE aad (c2 bt (c2 bZ (ac 2) acQ) (cK (.int 61)))))) (cK (.int 62))))
def lU(C:CC):Ex:=(c2 j5 (aJ (C .K3) af) (c2 bt (c2 aE (c2 bZ (ac 1) (cK (.int 240))) (c2 jh (ac 0) (c2 aE aad (c2 bt (c2 bZ (ac 1) acQ) ac5)))) aaL))
def ko(C:CC):Sx:=
 (aw (H6 (au (c2 v9 (ac 0) adw)) (aQ (aJ (C .U_) aak)) bh)
  (aw (H6 (au (c2 v9 (ac 0) ach)) (aw (aG 2 (cK (.str bP)))
  (aw (aG 3 (c2 j5 (cN bY (aa (c2 aE aad (c2 bt (ac 1) ab6)) (aa (c2 aE aad (c2 bt (ac 1) abH)) (aa abH af)))) (c2 aE ab5 (cN oR (aa (c2 v9 (c2 bt adt ac6) aad) af)))))
  (aQ (cM et eJ aas (aa (cN VL (cy [2,1] (cw aaD) bQ (lV C))) af))))) bh)
  (aw (aG 3 (c2 j5 (cN bY (aa adp (aa (c2 bt (ac 1) abH) (aa (c2 oP adH (c2 bt (ac 1) aau)) af)))) (c2 aE ab5 (cN oR (aa (c2 v9 (c2 bt adt (cK (.int 36))) aad) af)))))
  (aQ (cM et eJ aas (aa (cN VL (cy [1] (cw aaD) bQ (lU C))) af))))))
def cz(C:CC)(D:DD):Sx:=(aw (cx (cM cI aZ (ac 2) (aa (cN bY (aa (bn (D .s6) (aa aao aaF)) af)) af)))
  (H6 aai (cx (bn (D .G9) (aa abN aaF))) bh))
def gf(C:CC)(D:DD):Sx:=
 (aw (aG 1 abX)
  (aw (aG 2 aaW)
  (aw (bo (cg aai (cg ac9 (aU (aJ (C .Rz) adh)))) (cz C D))
  (aw (aG 3 adF)
  (aw (H6 aan (jd (ac 3) aad (cN aW (aa aa_ (aa (cN bY (aa (bn (D .s6) ac1) af)) af)))) bh)
  (aw abv
  aa8))))))
def kL(C:CC):Ex:=(c2 j5 (aJ (C .K3) af) (c2 bt (c2 aE (c2 bZ (ac 1) aau) (c2 jh (ac 0) (c2 aE aad (c2 bt (c2 bZ (ac 1) (cK (.int 300))) ac5)))) aaL))
def tf(C:CC):Sx:=
 (aQ (cM et eJ aas (aa (cN VL (cy [0] (cw (aa (c2 aE aad adq) af)) bQ (kL C))) af)))
def pA(C:CC):Sx:=
 (aw (aG 4 (aJ (C .Xm) (aa (ac 1) aaD)))
  (aw (aG 5 (cN aW (aa aaE (aa (ac 0) abx))))
  (aw (H6 (cg (eG (aU (ac 2))) (au (c2 ZD (c2 bt (c2 bZ (ac 3) aa7) aau) aaf))) (aQ (cN bY abw)) bh)
  (aw (aG 6 (c2 j5 (cM sw rP (mK [(aaC,abe),(aaG,adG)]) (aa (ac 4) (aa (cK (.str [32,46,59,60,10])) af))) (c2 bt (c2 bZ (ac 3) (cK (.int 576))) aa7)))
  (aQ (cN bY (aa (ac 5) (aa (cN aW (aa aam (aa (c2 aE (ac 6) (aJ (C .U9) (aa (c2 bZ (ac 3) aaK) af))) af))) af))))))))
def df(C:CC)(D:DD):Ex:=(bn (D .K1) (aa (ac 1) (aa (ac 2) (aa (ac 3) (aa (c2 oP (ac 4) aad) af)))))
def de(C:CC):Ex:=(c2 aE (cN bY (aa (cN aW (aa aam (aa (c2 j5 (aJ (C .K3) af) (c2 bt (c2 aE (ac 2) (ac 0)) aaL)) af))) af)) (c2 j5 (ac 1) (ac 0)))
def kU(C:CC)(D:DD):Sx:=
 (aw (aG 5 (bn (D .K5) aaF))
  (aw (aG 6 (c2 bt (ac 5) aaL))
  (aw (aG 7 (cN jw (cy [0,1,2,4] ab1 bQ (df C D))))
  (aw (H6 (aU abR) (aG 7 (cN jw (cy [7,6] ab1 bQ (de C)))) bh)
  (aw (H6 acO ab_ bh)
  (aw (aG 8 (cN aW (aa aaQ (aa (ac 3) (aa (aJ (C .Ue) acG) (aa (aJ (C .Ue) acI) af))))))
  (aw abr
  (aQ (cN bY (aa (ac 8) (aa (cN aW (aa aam (aa (c2 j5 (aJ (C .K3) af) adz) af))) af)))))))))))
def ij(C:CC):Tx:=(au (c2 Tv (c2 j5 abj aaf) (ac 1)))
def jm(C:CC):Ex:=(ac 0)
def oz(C:CC)(D:DD):Sx:=
 (aw (aG 6 (bn (D .K5) aaF))
  (aw (yJ acR (ac 2))
  (aw (aG 10 acT)
  (aw (aG 11 (cN jw (cy [10] (iO (ac 7)) (ij C) (jm C))))
  (aw (H6 adb (aG 11 (c2 jC (c2 aE (ac 11) (aJ (C .Wx) (aa acS ac_))) abD)) abK)
  (aw (aG 12 (bn (D .K1) abz))
  (aw (aG 13 (c2 j5 (aJ (C .K3) af) adJ))
  (aw (aG 14 abl)
  (aw (aG 15 (c2 j5 (aJ (C .K3) af) abk))
  (aw aaZ
  (aw (aG 16 (cN aW (aa aaH (aa (ac 10) (aa (ac 3) (aa (aJ (C .Ue) adK) aay))))))
  (aw abB
  (aQ (cN bY (aa (ac 16) (aa (cN aW (aa aam (aa (c2 j5 (aJ (C .K3) af) ady) af))) af))))))))))))))))
def oX(C:CC):Ex:=(cN aW (aa (c2 aE (ac 1) (cN aW acz)) (aa (c2 j5 (cK (.str [116,119,110,98])) (ac 0)) af)))
def wG(C:CC):Sx:=
 (aQ (cN VL (cy [0,1] (cw (aa aaR af)) bQ (oX C))))
def mf(C:CC):Sx:=
 (aw (H6 (eG (aU (kn (pb C) (ac 0) aak))) vC bh)
  (aQ (kn (iw C) (ac 0) aak)))
def fS(C:CC):Sx:=
 (aw (H6 (au (c2 pX (ac 0) aao)) (aQ (lZ 0)) bh)
  (aw (H6 (au (c2 pX (ac 0) aaw)) (aQ (lZ 1)) bh)
  (aw (H6 (au (c2 pX (ac 0) aaj)) (aQ (lZ 2)) bh)
  (aw (H6 (au (c2 pX (ac 0) aaC)) (aQ (lZ 3)) bh)
  (aw (H6 (au (c2 pX (ac 0) aaG)) (aQ (lZ 4)) bh)
  vC)))))
def cG(C:CC):Sx:=(aw (H6 (au (c2 Tv abp (ac 3))) (aw ade
  Dd) bh)
  (kb (ac 2) aah (c2 aE aaI aad)))
def iG(C:CC):Sx:=
 (ik acM (P0 3) (cG C))
def ii(C:CC):Sx:=(aG 4 (c2 aE (ac 4) aad))
def eM(C:CC):Sx:=
 (aw (aG 3 aaI)
  (aw (aG 4 (ac 3))
  (aw (H6 abn aax aav)
  (aw (bo (cg ad9 (cg ad8 (aU (aJ (C .Rz) ac2)))) (ii C))
  (aw (aG 5 (aJ (C .R4) ad_))
  (aw (H6 (jY (cg acV abn) (au (c2 Tv (aJ (C .O4) (aa (ac 0) abw)) abE))) aec bh)
  (aw aed
  (aQ (ac 5)))))))))
def cH(C:CC)(D:DD):Sx:=(aw (H6 (au (c2 Tv (ac 3) adi)) (cx (bn (D .G9) (aa abu aa1))) bh)
  (aw (cx (cM cI aZ (ac 3) (aa (bn (D .u6) (aa aa6 aa1)) af)))
  (aG 4 (gG (au (c2 v9 (cN bS aaD) aad)) (c2 j5 (c2 aE abu (ac 4)) aaf) (ac 4)))))
def mL(C:CC)(D:DD):Sx:=
 (aw (aG 3 aaW)
  (aw (aG 4 ac4)
  (aw (bo (cg abF ad3) (cH C D))
  (aQ (ac 3)))))
def nj(C:CC):Sx:=
 (aQ (c2 j5 (cN bY (aa (c2 oP (c2 bt (ac 0) (cK (.int 21))) (cK (.int 10))) (aa (c2 bt (ac 0) (cK (.int 100000))) (aa (c2 oP aaf (c2 bt (ac 0) (cK (.int 1000000007)))) (aa (c2 bt (c2 jh (ac 0) (c2 BR (cK (.int 48271)) aaR)) abA) (aa (c2 oP (c2 oP abA aad) adq) (aa aaf af))))))) (c2 bt (c2 bZ (ac 0) aaK) ab6)))
def dU(C:CC):Sx:=
 (aw (H6 (jY (au (c2 v9 (ac 0) aaC)) (au (c2 v9 (ac 0) aaG))) (aQ (c2 gW (ac 1) (c2 j5 (mK [(aaC,abe),(aaG,abN)]) (ac 0)))) bh)
  (aQ (Yg (c2 Wz (ac 1) aaP) adL)))
def eV(C:CC):Ex:=(aJ (C .prepared) (aa (ac 1) acz))
def iA(C:CC):Sx:=
 (aw (aG 2 (aJ (C .Uj) aaF))
  (aQ (cN VL (tD [2] (vf aaq) bQ (eV C)))))
def cW(C:CC):Sx:=
 (aQ (jT (cN aV (aa (ac 0) (aa (cK (.ty "str")) af))) (jT (c2 pLe aap (ac 1)) (aJ (C .Rv) (aa (ac 0) (aa (cK (.str aI)) af))))))
def mA(C:CC):Sx:=
 (aw (H6 (au (c2 v9 (c2 bt (c2 bZ (ac 1) (cK (.int 64))) acQ) aad)) (aQ (c2 j5 (cN bY (aa aao (aa aaw (aa aaj (aa aaC (aa aaG af)))))) (c2 bt (ac 1) aa7))) bh)
  (aQ (c2 j5 (cN bY (aa aaw (aa (c2 j5 (cN bY adB) (c2 bt (ac 1) aau)) (aa (c2 j5 (cN bY (aa aao adB)) (c2 bt (ac 1) aaR)) af)))) (cM et lL (cK (.str [110,116,119])) aaq))))
def cX(C:CC):Sx:=
 adE
def cF(C:CC):Sx:=
 (aQ (cN xK aak))
def cD(C:CC):Sx:=
 (aQ (c2 aE (c2 aE abm (aJ (C .escaped) (aa (ac 1) abT))) abm))
def cP(C:CC):Sx:=
 (aQ (aJ (C .escaped) abq))
def cY(C:CC):Sx:=
 (aQ (aJ (C .escaped) abL))
def bg(C:CC):Sx:=
 (aQ (jT (aJ (C .G5) (aa (ac 1) (aa abH af))) (jT (c2 Tv (ac 1) aas) (aJ (C .Rv) (aa (ac 1) (aa adN af))))))
def aN(C:CC):Sx:=
 (aQ (jT (cN aV (aa (ac 1) (aa (cK (.ty "int")) af))) (jT (Lq (cN aV (aa (ac 1) (aa (cK (.ty "bool")) af)))) (aJ (C .Rp) aak))))
def aT(C:CC):Sx:=
 (aQ (aJ (C .G5) ab7))
def aX(C:CC):Sx:=
 (aQ (aJ (C .G5) ab7))
def bw(C:CC):Sx:=
 (aQ (aJ (C .G5) ab7))
def bV(C:CC):Sx:=(aw (H6 (cg (au (c2 Tv (ac 2) aas)) (au (c2 v9 (c2 j5 (ac 3) (ac 5)) abg))) (aw ab4
  (aG 4 (c2 aE (ac 4) (c2 j5 (ac 2) (c2 jh aal (cN yW (aa aaf (aa (cM et lL (yq (ac 2) acA aal) (aa (c2 j5 (c2 aE (ac 3) (cK (.str [63]))) (ac 5)) af)) af)))))))) (aG 4 (c2 aE (ac 4) (c2 j5 (ac 3) (ac 5)))))
  ab4)
def eO(C:CC):Sx:=
 (aw (H6 acY (aQ (c2 jh (cN ui (aa (c2 aE (cK (.str [48])) (cL (cM et qw (ac 1) (aa aco af)) dG (aS adO))) af)) (c2 oP aad (c2 jh aal (cN oR (aa (c2 v9 (cL (ac 1) dG acA) aco) af)))))) bh)
  (aw (aG 2 (cM sw rP abb (aa (ac 0) (aa aas af))))
  (aw (aG 3 (gG abn ad0 (ac 1)))
  (aw (aG 4 aas)
  (aw (aG 5 aaf)
  (aw (bo adR (bV C))
  adD))))))
def lB(C:CC):Tx:=adS
def pO(C:CC):Ex:=(ac 0)
def iI(C:CC):Sx:=(aw (aG 7 (cM et lL (c2 yV (ac 4) aal) acJ))
  (aG 5 (c2 aE (ac 5) (gG (au (c2 Tw (ac 7) aaf)) (ac 6) (c2 aE abQ (c2 j5 (ac 4) (c2 aE (c2 jh aal (ac 7)) aad)))))))
def bF(C:CC):Sx:=
 (aw (H6 acY (aw (H6 (jY (eG (aU (cN aV (aa (ac 1) (aa (cK (.ty "int")) af))))) (jY (aU (cN aV (aa (ac 1) (aa (cK (.ty "bool")) af)))) (au (c2 pGe (cN DN aak) abA)))) adW bh)
  (aQ (cN xK aak))) bh)
  (aw (H6 (jY (eG (aU (cN aV (aa (ac 1) (aa (cK (.ty "str")) af))))) (au (c2 ZD aa9 adH))) adW bh)
  (aw (H6 (au (c2 v9 (ac 0) aao)) (aw (aG 2 (cK (.str bP)))
  (aw (aG 3 (jT (fD pLe pLe aad aa9 abH) (c2 v9 (cN VL (cy [2] acu (lB C) (pO C))) adi)))
  (aQ (gG aby (ac 1) aaU)))) bh)
  (aw (aG 4 (c2 j5 abb (ac 0)))
  (aw (aG 5 aas)
  (aw (ik acu (P0 6) (iI C))
  (aQ (gG abn (c2 aE (c2 aE abm (ac 5)) abm) (ac 5)))))))))
def gu(C:CC):Sx:=(aw (cx (cM cI aZ (ac 2) aaD))
  (aG 3 (aJ (C .K6) (aa (cN aW abx) aaD))))
def pS(C:CC):Sx:=
 (aw (aG 2 aaW)
  (aw (aG 3 (ac 1))
  (aw (ik (Ii aaq) (P0 4) (gu C))
  (aQ (Fk aaB)))))
def eW(C:CC):Sx:=
 (aw (H6 ac8 (aQ (cN aW (aa aaE (aa (aJ (C .SN) adA) af)))) bh)
  (aw (H6 ac7 (aw (aG 2 (aJ (C .q_) (aa aa6 (aa (aJ (C .R3) aaF) af))))
  (aQ (cN aW (aa aaH (aa (c2 j5 (aJ (C .begins) adC) aaf) (aa (ac 2) (aa abu af))))))) bh)
  (aw (H6 (au (c2 v9 abj aaQ)) (aw (aG 3 (cN aW (aa (aJ (C .K6) (aa abI aak)) (aa (aJ (C .q_) (aa abI aak)) af))))
  (aw (aG 4 (cN aW (aa (aJ (C .K6) (aa aa6 aak)) (aa (aJ (C .q_) (aa aa6 aak)) af))))
  (aQ (cN aW (aa aaQ (aa (ac 3) abx)))))) bh)
  (aQ (ac 0)))))
def fM(C:CC):Sx:=(H6 (au (c2 gW (ac 2) (ac 1))) adV bh)
def iZ(C:CC):Sx:=
 (aw (ik acM (P0 2) (fM C))
  (aQ aa_))
def iJ(C:CC):Sx:=(aw (aG 6 (cM et lL (ac 2) abw))
  (cx (cM cI aZ (ac 4) (aa (gG ad7 (ac 5) (c2 aE (ac 1) (c2 j5 (ac 3) (ac 6)))) af))))
def pD(C:CC):Sx:=
 (aw (aG 4 aaW)
  (aw (ik acM (P0 5) (iJ C))
  aeb))
def dW(C:CC):Sx:=
 (aQ (c2 Tw (cN DN aaq) abA))
def gI(C:CC):Sx:=
 (aw (aG 3 (kn (iE C) (ac 0) aa1))
  (aw (aG 4 (cL (ac 1) (aS (ac 2)) ada))
  (aw (aG 5 (kn (mw C) (ac 0) abx))
  (aw (H6 (jY (eG (aU (kn (pb C) (ac 0) abw))) (au (c2 Tv (kn (iw C) (ac 0) abw) (ac 4)))) adW bh)
  (aQ (cN aW (aa (ac 5) aaD)))))))
def hX(C:CC):Sx:=
 (aw (aG 2 (aJ (C .begins) aaq))
  (aw (H6 (aU ab9) (aQ (cN aW (aa (aJ (C .o8) (aa abg (aa abh af))) ab0))) bh)
  (aQ (cN aW (aa abg (aa abt af))))))
def gC(C:CC):Sx:=
 (aw (aG 2 (gG (aU abu) (cL abu dG acA) (c2 j5 (aJ (C .begins) adC) aaf)))
  (aQ (cN aW (aa (aJ (C .o8) (aa abh aaB)) ab0))))
def dZ(C:CC):Sx:=(aw (aG 3 (aJ (C .Q6) aaB))
  (aw (aG 1 (aJ (C .o8) (aa (ac 1) (aa acE af))))
  (H6 (eG (aU ab8)) (aQ (cN aW (aa (ac 1) (aa abt af)))) bh)))
def kq(C:CC):Sx:=
 (aw (aG 1 aas)
  (aw (ik acM (P0 2) (dZ C))
  (aQ (cN aW (aa (ac 1) (aa aa_ af))))))
def gH(C:CC):Sx:=
 (aQ (aJ (C .R7) (aa (ac 1) (aa (ac 2) (aa adN af)))))
def cT(C:CC):Sx:=
 (aw (H6 (aU (cM et lK (ac 1) (aa aco aaB))) (aQ (aJ (C .R7) (aa (ac 1) (aa abS (aa aaP af))))) bh)
  (aQ (aJ (C .R7) (aa (ac 1) (aa (ac 2) (aa aaP af))))))
def cS(C:CC):Sx:=
 (aw (aG 3 (cM et mR (ac 1) (aa abm (aa abS af))))
  (aw (H6 (jY (eG (aU (cM et lK (ac 1) (aa abm aaB)))) (au (c2 Tw (ac 3) aaf))) (aQ (ac 2)) bh)
  (aQ abJ)))
def gq(C:CC):Sx:=
 (aQ (aJ (C .Tq) (aa (ac 1) (aa (ac 2) (aa abe af)))))
def gJ(C:CC):Sx:=
 (aQ (aJ (C .Tq) (aa (ac 1) (aa (ac 2) (aa abN af)))))
def ju(C:CC):Sx:=
 adE
def dC(C:CC):Sx:=
 (aw (H6 (jY (au (c2 Wz (ac 1) (cN aW (aa aas (aa aco af))))) (au (c2 ZD aa9 adO))) adW bh)
  (aQ (cN ui aak)))
def iB(C:CC):Sx:=
 (aQ (aJ (C .unescaped) (aa ad0 abT)))
def iU(C:CC):Sx:=
 (aQ (aJ (C .unescaped) abq))
def jv(C:CC):Sx:=
 (aQ (aJ (C .unescaped) abL))
def gP(C:CC):Tx:=(jY (au (c2 Wz (ac 0) (ac 1))) (au (c2 Wz (ac 0) (ac 2))))
def hK(C:CC):Ex:=(ac 0)
def iT(C:CC):Sx:=
 (aQ (cM et eJ aas (aa (cN VL (cy [0,1] (iO (aJ (C .signs) af)) (gP C) (hK C))) af)))
def ei(C:CC):Sx:=
 (aw (H6 (au (c2 v9 abj aam)) (aQ (cN aW (aa (cL ado dG acA) (aa (c2 v9 ado aas) af)))) bh)
  (aw (H6 ac8 (aw (aG 1 (aJ (C .SN) adA))
  (aQ (cN aW (aa (kn (sP C) (ac 1) af) (aa (kn (oZ C) (ac 1) af) af))))) bh)
  (aw (H6 ac7 (aw (aG 2 (aJ (C .begins) adC))
  (aw (aG 3 (gG (aU ab9) (cL abu dG acA) aas))
  (aQ (cN aW (aa (aJ (C .o8) (aa abg aaD)) (aa aa_ af)))))) bh)
  (aw (aG 4 (aJ (C .begins) adA))
  (aw (aG 5 (aJ (C .begins) adC))
  (aQ (cN aW (aa (aJ (C .o8) (aa abQ (aa acD af))) (aa (Yg adl adk) af)))))))))
def jb(C:CC):Sx:=adY
def kX(C:CC):Sx:=
 (aw (bo (cg abO ad5) (jb C))
  adE)
def jc(C:CC):Sx:=adY
def kY(C:CC):Sx:=
 (aw (bo (cg abO ad4) (jc C))
  adE)
def bK(C:CC):Sx:=(aw (H6 (au (c2 v9 ac3 (ac 1))) (aw ab4
  (aw (aG 6 (gG (au adu) (cM et lL (ac 3) (aa ac3 af)) acN))
  (aw (H6 ad7 adW bh)
  (cx (cM cI aZ (ac 4) (aa (c2 j5 (ac 2) (ac 6)) af)))))) (cx (cM cI aZ (ac 4) (aa ac3 af))))
  ab4)
def jJ(C:CC):Sx:=
 (aw (aG 4 aaW)
  (aw (aG 5 aaf)
  (aw (bo (au adu) (bK C))
  aeb)))
def Ie(C:CC):Sx:=
 (aQ (cK (.str aI)))
def tU(C:CC):Sx:=
 (aQ adN)
def qj(C:CC):Sx:=
 (aQ (cK (.str [45,48,49,50,51,52,53,54,55,56,57])))
def qh(C:CC):Sx:=
 (aQ abm)
def tq(C:CC):Sx:=
 (aQ (aJ (C .Vc) (aa abe af)))
def tW(C:CC):Sx:=
 (aQ (aJ (C .Vc) (aa abN af)))
def tV(C:CC):Sx:=
 adV
def qi(C:CC):Sx:=
 (aQ aa_)
def tv(C:CC):Sx:=
 (aQ aa_)
def tH(C:CC):Tx:=adS
def tR(C:CC):Ex:=(ac 0)
def yt(C:CC):Sx:=
 (aQ (cM et eJ aas (aa (cN VL (cy [0] (iO (aJ (C .signs) af)) (tH C) (tR C))) af)))
def FL:Nat->CC×DD×DD
 |0=>(fun _ _=>.bad,fun _ _ _=>.bad,fun _ _ _=>.bad)
 |k+1=>(fun f ps=>match f with
  |.law=>ag (Bd (FL k).1 (FL k).2.1) 1 12 ps
  |.S7=>ag (jL (FL k).1) 2 2 ps
  |.spelt=>ag (wF (FL k).1) 2 5 ps
  |.Xn=>ag (jK (FL k).1 (FL k).2.1) 2 4 ps
  |.Q7=>ag (jU (FL k).1) 2 6 ps
  |.Q8=>ag (jq (FL k).1 (FL k).2.2) 2 4 ps
  |.G8=>ag (jr (FL k).1) 2 2 ps
  |.K3=>ag (pC (FL k).1) 0 1 ps
  |.V3=>ag (pB (FL k).1) 1 7 ps
  |.V2=>ag (pq (FL k).1) 1 1 ps
  |.Ue=>ag (wH (FL k).1) 1 3 ps
  |.Tg=>ag (dh (FL k).1) 2 2 ps
  |.TX=>ag (ko (FL k).1) 2 4 ps
  |.R6=>ag (gf (FL k).1 (FL k).2.1) 1 4 ps
  |.U9=>ag (tf (FL k).1) 1 1 ps
  |.Un=>ag (pA (FL k).1) 4 7 ps
  |.Wx=>ag (wG (FL k).1) 2 2 ps
  |.j7=>ag (mf (FL k).1) 2 2 ps
  |.SN=>ag (fS (FL k).1) 1 1 ps
  |.U_=>ag (nj (FL k).1) 1 1 ps
  |.Rz=>ag (dU (FL k).1) 2 2 ps
  |.q_=>ag (iA (FL k).1) 2 3 ps
  |.G5=>ag (cW (FL k).1) 2 2 ps
  |.Xm=>ag (mA (FL k).1) 2 2 ps
  |.C_=>ag (cX (FL k).1) 2 2 ps
  |.v8=>ag (cF (FL k).1) 2 2 ps
  |.v5=>ag (cD (FL k).1) 2 2 ps
  |.A_=>ag (cP (FL k).1) 2 2 ps
  |.G3=>ag (cY (FL k).1) 2 2 ps
  |.M9=>ag (bg (FL k).1) 2 2 ps
  |.G_=>ag (aN (FL k).1) 2 2 ps
  |.J7=>ag (aT (FL k).1) 2 2 ps
  |.N5=>ag (aX (FL k).1) 2 2 ps
  |.Q0=>ag (bw (FL k).1) 2 2 ps
  |.R4=>ag (eO (FL k).1) 2 6 ps
  |.O4=>ag (bF (FL k).1) 2 8 ps
  |.Uj=>ag (pS (FL k).1) 2 5 ps
  |.prepared=>ag (eW (FL k).1) 2 5 ps
  |.Rv=>ag (iZ (FL k).1) 2 3 ps
  |.escaped=>ag (pD (FL k).1) 4 7 ps
  |.Rp=>ag (dW (FL k).1) 1 1 ps
  |.j8=>ag (gI (FL k).1) 3 6 ps
  |.K6=>ag (hX (FL k).1) 2 3 ps
  |.R3=>ag (gC (FL k).1) 2 3 ps
  |.begins=>ag (kq (FL k).1) 1 4 ps
  |.p8=>ag (gH (FL k).1) 3 3 ps
  |.m_=>ag (cT (FL k).1) 3 3 ps
  |.n8=>ag (cS (FL k).1) 3 4 ps
  |.n_=>ag (gq (FL k).1) 3 3 ps
  |.q8=>ag (gJ (FL k).1) 3 3 ps
  |.G6=>ag (ju (FL k).1) 2 2 ps
  |.u9=>ag (dC (FL k).1) 2 2 ps
  |.v7=>ag (iB (FL k).1) 2 2 ps
  |.D_=>ag (iU (FL k).1) 2 2 ps
  |.G7=>ag (jv (FL k).1) 2 2 ps
  |.o8=>ag (iT (FL k).1) 2 2 ps
  |.Q6=>ag (ei (FL k).1) 1 6 ps
  |.R7=>ag (kX (FL k).1) 3 3 ps
  |.Tq=>ag (kY (FL k).1) 3 3 ps
  |.unescaped=>ag (jJ (FL k).1) 4 7 ps
  |.signs=>ag (Ie (FL k).1) 0 0 ps
  |.L_=>ag (tU (FL k).1) 1 1 ps
  |.H_=>ag (qj (FL k).1) 1 1 ps
  |.H8=>ag (qh (FL k).1) 1 1 ps
  |.J4=>ag (tq (FL k).1) 1 1 ps
  |.M4=>ag (tW (FL k).1) 1 1 ps
  |.m6=>ag (tV (FL k).1) 1 1 ps
  |.H9=>ag (qi (FL k).1) 1 1 ps
  |.J5=>ag (tv (FL k).1) 1 1 ps
  |.Vc=>ag (yt (FL k).1) 1 1 ps
  |_=>.bad,fun f ps h=>match f with
  |.Wr=>fO (oA (FL k).1 (FL k).2.1) 4 7 ps h
  |.Ry=>fO (hV (FL k).1 (FL k).2.1) 2 7 ps h
  |.T6=>fO (oB (FL k).1 (FL k).2.1) 3 7 ps h
  |.K5=>fO (md (FL k).1) 2 4 ps h
  |.K1=>fO (mB (FL k).1 (FL k).2.1) 4 11 ps h
  |.u6=>fO (jt (FL k).1 (FL k).2.1) 3 8 ps h
  |.Q9=>fO (kU (FL k).1 (FL k).2.1) 5 9 ps h
  |.Tp=>fO (oz (FL k).1 (FL k).2.1) 6 17 ps h
  |.G9=>fO (iG (FL k).1) 3 4 ps h
  |.s6=>fO (eM (FL k).1) 3 6 ps h
  |.Ru=>fO (mL (FL k).1 (FL k).2.1) 3 5 ps h
  |_=>.bad,fun f ps h=>match f with
  |.J_=>lG (bN (FL k).1 (FL k).2.2 (ajW 2 (dl k))) 2 4 ps h
  |.j_=>Di (kZ (FL k).1) 2 2 ps h
  |.d8=>gM (eF (FL k).1 (FL k).2.2) 2 4 ps h
  |.g_=>gM (eR (FL k).1 (FL k).2.2 (ajW 2 (dl k))) 2 3 ps h
  |.j6=>gM (bM (FL k).1 (ajW 2 (dl k))) 2 3 ps h
  |.h_=>gM (dY (FL k).1 (FL k).2.2) 4 6 ps h
  |.i_=>gM (aB (FL k).1 (FL k).2.2 (ajW 2 (dl k))) 3 3 ps h
  |.f9=>gM (bH (FL k).1) 2 2 ps h
  |.j9=>gM (bA (FL k).1 (FL k).2.2) 2 2 ps h
  |_=>.bad)
abbrev X_(k:Nat):DD:=(FL k).2.2
abbrev F(k:Nat):CC:=(FL k).1
abbrev L(k:Nat):DD:=(FL k).2.1
set_option genSizeOf false in
abbrev M0(K:ajZ)(C:Addr):Prop:=ak1 K C=true/\ajJ K (.ref C) "__init__"=some (some (.builtin "object.__init__"))/\aj1 K (.ref C)=true
abbrev mC(G:SC)(x:Str)(a:Addr):Prop:=G.mg x=some (.ref a)
abbrev sM(G:SC)(x:Str)(l:Y1):Prop:=∃t,G.mg x=some (.str (S l) t)
structure Sys(G:SC) where
 adr:Fn->Addr
 fd:Fn->FuncData
 J1:Nat->Addr
 ok:∀f,Fun G.K (pY f) (yS f) (oJ f) (adr f) (fd f)
 bi:∀f,jM G.K (fd f) (lJ f) []
 m:∀f,EB f=true->G.mg (pY f)=some (.ref (adr f))
 n:∀i,G.mg (Kj i)=none
 Tf:sM G "FIGURES" [48,49,50,51,52,53,54,55,56,57]
 O_:sM G "LINE_LETTERS" [126,110]
 RL:sM G "LINE_SIGNS" [126,10]
 RJ:sM G "LINE_STOPS" [10]
 I_:∃t,G.mg "MOST_NUMBER_SIGNS"=some (.int 31 t)
 RD:∃t,G.mg "MOST_SIGNS"=some (.int 400 t)
 K4:∃t,G.mg "MOST_WORD_SIGNS"=some (.int 40 t)
 O9:sM G "NUMBER_SIGNS" [45,48,49,50,51,52,53,54,55,56,57]
 N7:sM G "PLAIN_LETTERS" [126,108,103,97,98,110]
 Rr:sM G "PLAIN_SIGNS" [126,60,62,38,124,10]
 Rq:sM G "PLAIN_STOPS" [10,38,60,62,124]
 M5:sM G "QUOTED_LETTERS" [94,113,110]
 O8:sM G "QUOTED_SIGNS" [94,34,10]
 Ve:sM G "SIGNS" aI
 RB:sM G "WORD_SIGNS" aM
 S8:GV G "TEXT_END" fN
 Sg:G.T 0=some (J1 0)
 Yu:mC G "Word" (J1 0)
 O6:G.T 1=some (J1 1)
 Xl:mC G "Number" (J1 1)
 O5:G.T 2=some (J1 2)
 Xk:mC G "Quoted" (J1 2)
 Rt:G.T 3=some (J1 3)
 XR:mC G "Plain" (J1 3)
 Sh:G.T 4=some (J1 4)
 Yv:mC G "Line" (J1 4)
 Xr:G.T 5=some (J1 5)
 V1:mC G "FormError" (J1 5)
 UW:G.T 7=some (J1 7)
 Ww:mC G "BadValue" (J1 7)
 WM:G.T 8=some (J1 8)
 X3:mC G "Clash" (J1 8)
 Vv:G.T 9=some (J1 9)
 W0:mC G "BadText" (J1 9)
 Vw:G.T 10=some (J1 10)
 W3:mC G "BadName" (J1 10)
 Vu:G.T 11=some (J1 11)
 WY:mC G "Unclear" (J1 11)
 J9:G.T 12=some (J1 12)
 Wq:mC G "NoFill" (J1 12)
 H7:G.T 604=some (J1 604)
 Vq:mC G "BackReader" (J1 604)
 RM:Cls G.K (J1 0)
 Ul:M0 G.K (J1 0)
 U0:bE G.K (J1 0) "begins" (adr .L_)
 Vm:bE G.K (J1 0) "coded" (adr .j7)
 VP:bE G.K (J1 0) "fits" (adr .M9)
 Uv:bE G.K (J1 0) "is_void" (adr .m6)
 Uu:bE G.K (J1 0) "meaning" (adr .G6)
 VN:bE G.K (J1 0) "read" (adr .j8)
 T9:bE G.K (J1 0) "spelling" (adr .C_)
 Tc:bE G.K (J1 0) "stretch_end" (adr .p8)
 M8:Cls G.K (J1 1)
 S5:M0 G.K (J1 1)
 Uc:bE G.K (J1 1) "begins" (adr .H_)
 Uy:bE G.K (J1 1) "coded" (adr .j7)
 U7:bE G.K (J1 1) "fits" (adr .G_)
 TV:bE G.K (J1 1) "is_void" (adr .m6)
 TQ:bE G.K (J1 1) "meaning" (adr .u9)
 U6:bE G.K (J1 1) "read" (adr .j8)
 Tn:bE G.K (J1 1) "spelling" (adr .v8)
 SM:bE G.K (J1 1) "stretch_end" (adr .m_)
 M7:Cls G.K (J1 2)
 SX:M0 G.K (J1 2)
 T_:bE G.K (J1 2) "begins" (adr .H8)
 Uw:bE G.K (J1 2) "coded" (adr .j7)
 U4:bE G.K (J1 2) "fits" (adr .J7)
 TJ:bE G.K (J1 2) "is_void" (adr .m6)
 TG:bE G.K (J1 2) "meaning" (adr .v7)
 U3:bE G.K (J1 2) "read" (adr .j8)
 Tj:bE G.K (J1 2) "spelling" (adr .v5)
 SJ:bE G.K (J1 2) "stretch_end" (adr .n8)
 P_:Cls G.K (J1 3)
 Ti:M0 G.K (J1 3)
 Ux:bE G.K (J1 3) "begins" (adr .J4)
 U5:bE G.K (J1 3) "coded" (adr .j7)
 Vo:bE G.K (J1 3) "fits" (adr .N5)
 Ub:bE G.K (J1 3) "is_void" (adr .H9)
 Ua:bE G.K (J1 3) "meaning" (adr .D_)
 Vn:bE G.K (J1 3) "read" (adr .j8)
 TP:bE G.K (J1 3) "spelling" (adr .A_)
 S9:bE G.K (J1 3) "stretch_end" (adr .n_)
 RN:Cls G.K (J1 4)
 Um:M0 G.K (J1 4)
 U8:bE G.K (J1 4) "begins" (adr .M4)
 Vp:bE G.K (J1 4) "coded" (adr .j7)
 V0:bE G.K (J1 4) "fits" (adr .Q0)
 UG:bE G.K (J1 4) "is_void" (adr .J5)
 Uz:bE G.K (J1 4) "meaning" (adr .G7)
 VR:bE G.K (J1 4) "read" (adr .j8)
 Ud:bE G.K (J1 4) "spelling" (adr .G3)
 Td:bE G.K (J1 4) "stretch_end" (adr .q8)
 B_:Cls G.K (J1 604)
 Vk:∀f∈Yr 604,wR G.K (J1 604) f
 Vl:Mk G.K (J1 604) (adr .j_)
 R0:bE G.K (J1 604) "read_nodes" (adr .d8)
 R9:bE G.K (J1 604) "read_text" (adr .g_)
 RZ:bE G.K (J1 604) "read_place" (adr .j6)
 RQ:bE G.K (J1 604) "read_rounds" (adr .h_)
 RX:bE G.K (J1 604) "read_choice" (adr .i_)
 R8:bE G.K (J1 604) "stands_at" (adr .f9)
 Sv:bE G.K (J1 604) "is_among" (adr .j9)
 K7:akT G.K (.ref (J1 12)) (.ref (J1 5))=some true
 cg_:wS G.K
 V4:nu G.K (J1 0)
 Uh:nu G.K (J1 1)
 Ug:nu G.K (J1 2)
 Va:nu G.K (J1 3)
 V5:nu G.K (J1 4)
 Ui:nu G.K (J1 12)
 Te:wO G.K (J1 12)
 O2:ajT G.K (.ref (J1 12)) (.ref (J1 10))=some ajt
 O1:ajT G.K (.ref (J1 12)) (.ref (J1 9))=some ajt
 M_:ajT G.K (.ref (J1 12)) (.ref (J1 7))=some ajt
 Q_:ajT G.K (.ref (J1 12)) (.ref (J1 8))=some ajt
 O7:ajT G.K (.ref (J1 12)) (.ref (J1 12))=some true
 N_:ajT G.K (.ref (J1 12)) (.ref (J1 11))=some ajt
 J6:ajT G.K (.ref (J1 12)) (.type "ValueError")=some true
 Wc:XIn G.K (J1 12) (adr .E_) "at"
section
variable{S:SC}{k:Nat}{X:Cx}
def ID(Y:Sys S):FJ S.K S.T kd_ sC_ sT_:=by
 refine⟨Y.cg_,fun C a h ha=>?_,fun C a h ha=>?_,fun C D a b r h ha hb=>?_,fun C t a r h ha=>?_⟩
 .unfold kd_ at h;split at h
  .cases Y.Sg.symm.trans ha;exact⟨Y.RM,Y.V4⟩
  .cases Y.O6.symm.trans ha;exact⟨Y.M8,Y.Uh⟩
  .cases Y.O5.symm.trans ha;exact⟨Y.M7,Y.Ug⟩
  .cases Y.Rt.symm.trans ha;exact⟨Y.P_,Y.Va⟩
  .cases Y.Sh.symm.trans ha;exact⟨Y.RN,Y.V5⟩
  .cases h
  .cases h
 .unfold kd_ at h;split at h
  .cases h
  .cases h
  .cases h
  .cases h
  .cases h
  .cases Y.J9.symm.trans ha;exact⟨Y.Te,Y.Ui⟩
  .cases h
 .refine uo (P:=fun C D r=>∀a b,S.T C=some a->S.T D=some b->ajT S.K (.ref a) (.ref b)=some r) ?_ h a b ha hb;exact⟨fun _ _ ha hb=>(by cases Y.J9.symm.trans ha;cases Y.Vw.symm.trans hb;exact Y.O2),⟨fun _ _ ha hb=>(by cases Y.J9.symm.trans ha;cases Y.Vv.symm.trans hb;exact Y.O1),⟨fun _ _ ha hb=>(by cases Y.J9.symm.trans ha;cases Y.UW.symm.trans hb;exact Y.M_),⟨fun _ _ ha hb=>(by cases Y.J9.symm.trans ha;cases Y.WM.symm.trans hb;exact Y.Q_),⟨fun _ _ ha hb=>(by cases Y.J9.symm.trans ha;cases Y.J9.symm.trans hb;exact Y.O7),⟨fun _ _ ha hb=>(by cases Y.J9.symm.trans ha;cases Y.Vu.symm.trans hb;exact Y.N_),True.intro⟩⟩⟩⟩⟩⟩
 .unfold sT_ at h;split at h
  .cases Y.J9.symm.trans ha;cases h;exact Y.J6
  .cases h
def qg(Y:Sys S):∀C Ca,jS C=true->S.T C=some Ca->akT S.K (.ref Ca) (.ref (Y.J1 5))=some true:=by
 intro C Ca h ha;unfold jS at h;split at h
 .cases Y.J9.symm.trans ha;exact Y.K7
 .cases h
def GS(Y:Sys S):∀C Ca,DR C=true->S.T C=some Ca->Zh C="at"/\∃fI,XIn S.K Ca fI "at":=by
 intro C Ca h ha;unfold DR at h;split at h
 .cases Y.J9.symm.trans ha;exact⟨rfl,_,Y.Wc⟩
 .cases h
def mG(Y:Sys S)(h1:X.toSC=S:=by rfl):OC X 604:=by subst h1;exact⟨_,Y.H7,Y.B_,Y.Vk⟩
def FK(Y:Sys S)(h1:X.toSC=S:=by rfl):ZN X 0 "Word":=by subst h1;exact⟨_,Y.Sg,Y.Ul.1,Y.Ul.2.1,Y.Ul.2.2,Y.Yu⟩
def Bl(Y:Sys S)(h1:X.toSC=S:=by rfl):ZN X 1 "Number":=by subst h1;exact⟨_,Y.O6,Y.S5.1,Y.S5.2.1,Y.S5.2.2,Y.Xl⟩
def Bk(Y:Sys S)(h1:X.toSC=S:=by rfl):ZN X 2 "Quoted":=by subst h1;exact⟨_,Y.O5,Y.SX.1,Y.SX.2.1,Y.SX.2.2,Y.Xk⟩
def CD(Y:Sys S)(h1:X.toSC=S:=by rfl):ZN X 3 "Plain":=by subst h1;exact⟨_,Y.Rt,Y.Ti.1,Y.Ti.2.1,Y.Ti.2.2,Y.XR⟩
def FM(Y:Sys S)(h1:X.toSC=S:=by rfl):ZN X 4 "Line":=by subst h1;exact⟨_,Y.Sh,Y.Um.1,Y.Um.2.1,Y.Um.2.2,Y.Yv⟩
def sc:∀f,mD (tJ f) (lJ f) (bf (oJ f)):=fun f=>by cases f<;>exact⟨rfl,rfl,rfl,by decide+kernel,rfl,by decide+kernel,by decide+kernel⟩
def Bm(Y:Sys S)(h1:X.toSC=S:=by rfl):ZI X 12 "NoFill":=by subst h1;exact⟨_,_,_,_,Y.J9,Y.Wq,EN (Y.ok .E_) (sc .E_) rfl rfl rfl rfl,Y.Wc,Y.bi .E_⟩
def clO:Fn->Nat
 |.d8=>604
 |.g_=>604
 |.j6=>604
 |.h_=>604
 |.i_=>604
 |.f9=>604
 |.j9=>604
 |.j_=>604
 |_=>0
def Nm:Fn->Bool
 |.d8=>true
 |.g_=>true
 |.j6=>true
 |.h_=>true
 |.i_=>true
 |.f9=>true
 |.j9=>true
 |_=>ajt
def Nn:Fn->Bool
 |.j_=>true
 |_=>ajt
def Qc:Fn->Bool
 |_=>ajt
def clN:Fn->Str
 |.j_=>"BackReader"
 |_=>""
structure Tb(Y:Sys S)(k:Nat):Prop where
 p:∀f,YT S (dl k) (Y.adr f) (Y.fd f) (lJ f) (F k f)
 l:∀f,XM S true (dl k) (Y.adr f) (Y.fd f) (lJ f) (L k f)
 x:∀f,XM S true (dl k) (Y.adr f) (Y.fd f) (lJ f) (X_ k f)
 h:∀f,Qc f=true->XM S ajt (dl k) (Y.adr f) (Y.fd f) (lJ f) (X_ k f)
structure Bu(Y:Sys S)(k:Nat)(A:Around):Prop extends Tb Y k where
 hr:fK (dl k+1) A
variable{Y:Sys S}{A:Around}{e o:Expr}{es:List Expr}{fo:Ex}{fs:Ax}{pos p0 apos:Pos}{x m:Str}{pl:Sem Bool}
def Bu.r(B:Bu Y k A):fK (dl k) A:=B.hr.mono (agQ _)
theorem om(Y:Sys S)(f:Fn)(h:Nm f=true):∃Ca,S.T (clO f)=some Ca/\Cls S.K Ca/\bE S.K Ca (pY f) (Y.adr f)/\pY f∉Yr (clO f):=by
 cases f with
 |d8=>exact⟨_,Y.H7,Y.B_,Y.R0,by decide⟩
 |g_=>exact⟨_,Y.H7,Y.B_,Y.R9,by decide⟩
 |j6=>exact⟨_,Y.H7,Y.B_,Y.RZ,by decide⟩
 |h_=>exact⟨_,Y.H7,Y.B_,Y.RQ,by decide⟩
 |i_=>exact⟨_,Y.H7,Y.B_,Y.RX,by decide⟩
 |f9=>exact⟨_,Y.H7,Y.B_,Y.R8,by decide⟩
 |j9=>exact⟨_,Y.H7,Y.B_,Y.Sv,by decide⟩
 |_=>cases h
theorem oi(Y:Sys S)(f:Fn)(h:Nn f=true):∃Ca,S.T (clO f)=some Ca/\Mk S.K Ca (Y.adr f)/\S.mg (clN f)=some (.ref Ca):=by
 cases f with
 |j_=>exact⟨_,Y.H7,Y.Vl,Y.Vq⟩
 |_=>cases h
structure Ja(S:SC)(X:Cx)(A:Around)(n x:Str)(y:Bool):Prop where
 a:X.toSC=S
 b:X.A=A
 c:n=x
 d:y=true
 e:Gl X x
 f:X.calm=true
 g:(x==("__debug__":Str))=ajt
structure Jo(S:SC)(X:Cx)(A:Around)(n x:Str)(y:Bool):Prop where
 a:X.toSC=S
 b:X.A=A
 c:n=x
 d:y=true
 e:X.calm=true
def zc(B:Bu Y k A)(f:Fn)(ha:RA X (e::es) fs)(h:Ja S X A (pY f) x (EB f):=by exact⟨rfl,rfl,rfl,rfl,rfl,rfl,by decide⟩)(j:J2 X e es pos:=by exact⟨rfl,rfl⟩):RE X (.Call (.Name x p0) (e::es) [] pos) (aJ (F k f) fs):=by obtain⟨rfl,rfl,rfl,hp,hg,hc,V6⟩:=h;exact GH ⟨_,_,_,_,B.p f,B.r,Y.m f hp,(Y.ok f).kp,Y.bi f⟩ hg ha hc V6 j.a j.b
def zc0(B:Bu Y k A)(f:Fn)(h:Ja S X A (pY f) x (EB f):=by exact⟨rfl,rfl,rfl,rfl,rfl,rfl,by decide⟩):RE X (.Call (.Name x p0) [] [] pos) (aJ (F k f) af):=by obtain⟨rfl,rfl,rfl,hp,hg,hc,V6⟩:=h;exact DE ⟨_,_,_,_,B.p f,B.r,Y.m f hp,(Y.ok f).kp,Y.bi f⟩ hg hc V6
def zd(B:Bu Y k A)(f:Fn)(ha:RA X (e::es) fs)(h:Ja S X A (pY f) x (EB f):=by exact⟨rfl,rfl,rfl,rfl,rfl,rfl,by decide⟩)(j:J2 X e es pos:=by exact⟨rfl,rfl⟩):RE X (.Call (.Name x p0) (e::es) [] pos) (bn (L k f) fs):=by obtain⟨rfl,rfl,rfl,hp,hg,hc,V6⟩:=h;exact xH ⟨_,_,_,_,_,B.l f,B.r,fun _=>hc,Y.m f hp,(Y.ok f).kp,Y.bi f⟩ hg ha V6 j.a j.b
def zx(B:Bu Y k A)(f:Fn)(ha:RA X (e::es) fs)(h:Ja S X A (pY f) x (EB f):=by exact⟨rfl,rfl,rfl,rfl,rfl,rfl,by decide⟩)(j:J2 X e es pos:=by exact⟨rfl,rfl⟩):RE X (.Call (.Name x p0) (e::es) [] pos) (bn (X_ k f) fs):=by obtain⟨rfl,rfl,rfl,hp,hg,hc,V6⟩:=h;exact xH ⟨_,_,_,_,_,B.x f,B.r,fun _=>hc,Y.m f hp,(Y.ok f).kp,Y.bi f⟩ hg ha V6 j.a j.b
def zo(B:Bu Y k A)(f:Fn)(ho:RE X o fo)(ha:RA X (e::es) fs)(h:Jo S X A (pY f) m (Nm f):=by exact⟨rfl,rfl,rfl,rfl,rfl⟩)(j:J2 X e es pos:=by exact⟨rfl,rfl⟩)(ht:eval (.Call (.Attribute o m apos) (e::es) [] pos) X.env=(do
   let ov <- eval o X.env
   standAt apos.atName
   let(f,first) <- akP [ov] (akJ ov m pl)
   callWith pos f first (akd pos (ajF (e::es) X.env)) (akS pos (akv [] X.env))):=by rfl):RE X (.Call (.Attribute o m apos) (e::es) [] pos) (bJ (clO f) (X_ k f) fo fs):=by
 obtain⟨rfl,rfl,rfl,hp,hc⟩:=h;obtain⟨_,a,b,c,d⟩:=om Y f hp;exact Dw (pl:=pl) ⟨_,_,_,_,_,_,a,b,c,d,B.x f,B.r,fun _=>hc,Y.bi f⟩ ho ha j.a j.b ht
def zk(B:Bu Y k A)(f:Fn)(ha:RA X (e::es) fs)(h:Ja S X A (clN f) x (Nn f):=by exact⟨rfl,rfl,rfl,rfl,rfl,rfl,by decide⟩)(j:J2 X e es pos:=by exact⟨rfl,rfl⟩):RE X (.Call (.Name x p0) (e::es) [] pos) (Ib (clO f) (X_ k f) fs):=by obtain⟨rfl,rfl,rfl,hp,hg,hc,V6⟩:=h;obtain⟨_,a,b,c⟩:=oi Y f hp;exact JU ⟨_,_,_,_,_,_,a,b,B.x f,B.hr,fun _=>hc,c,Y.bi f⟩ hg ha V6 j.a j.b
def CB(B:Bu Y k A)(h1:X.toSC=S:=by rfl)(h2:X.A=A:=by rfl):ZM X "begins" (sP (F k)):=by
 subst h1 h2;refine⟨fun C fn h=>?_⟩;unfold sP at h
 split at h
 .cases h;exact⟨_,_,_,_,_,Y.Sg,Y.RM,Y.U0,B.p .L_,B.r,Y.bi .L_⟩
 .cases h;exact⟨_,_,_,_,_,Y.O6,Y.M8,Y.Uc,B.p .H_,B.r,Y.bi .H_⟩
 .cases h;exact⟨_,_,_,_,_,Y.O5,Y.M7,Y.T_,B.p .H8,B.r,Y.bi .H8⟩
 .cases h;exact⟨_,_,_,_,_,Y.Rt,Y.P_,Y.Ux,B.p .J4,B.r,Y.bi .J4⟩
 .cases h;exact⟨_,_,_,_,_,Y.Sh,Y.RN,Y.U8,B.p .M4,B.r,Y.bi .M4⟩
 .cases h
def FH(B:Bu Y k A)(h1:X.toSC=S:=by rfl)(h2:X.A=A:=by rfl):ZM X "coded" (qK (F k)):=by
 subst h1 h2;refine⟨fun C fn h=>?_⟩;unfold qK at h
 split at h
 .cases h;exact⟨_,_,_,_,_,Y.Sg,Y.RM,Y.Vm,B.p .j7,B.r,Y.bi .j7⟩
 .cases h;exact⟨_,_,_,_,_,Y.O6,Y.M8,Y.Uy,B.p .j7,B.r,Y.bi .j7⟩
 .cases h;exact⟨_,_,_,_,_,Y.O5,Y.M7,Y.Uw,B.p .j7,B.r,Y.bi .j7⟩
 .cases h;exact⟨_,_,_,_,_,Y.Rt,Y.P_,Y.U5,B.p .j7,B.r,Y.bi .j7⟩
 .cases h;exact⟨_,_,_,_,_,Y.Sh,Y.RN,Y.Vp,B.p .j7,B.r,Y.bi .j7⟩
 .cases h
def Il(B:Bu Y k A)(h1:X.toSC=S:=by rfl)(h2:X.A=A:=by rfl):ZM X "fits" (pb (F k)):=by
 subst h1 h2;refine⟨fun C fn h=>?_⟩;unfold pb at h
 split at h
 .cases h;exact⟨_,_,_,_,_,Y.Sg,Y.RM,Y.VP,B.p .M9,B.r,Y.bi .M9⟩
 .cases h;exact⟨_,_,_,_,_,Y.O6,Y.M8,Y.U7,B.p .G_,B.r,Y.bi .G_⟩
 .cases h;exact⟨_,_,_,_,_,Y.O5,Y.M7,Y.U4,B.p .J7,B.r,Y.bi .J7⟩
 .cases h;exact⟨_,_,_,_,_,Y.Rt,Y.P_,Y.Vo,B.p .N5,B.r,Y.bi .N5⟩
 .cases h;exact⟨_,_,_,_,_,Y.Sh,Y.RN,Y.V0,B.p .Q0,B.r,Y.bi .Q0⟩
 .cases h
def zR(B:Bu Y k A)(h1:X.toSC=S:=by rfl)(h2:X.A=A:=by rfl):ZM X "is_void" (oZ (F k)):=by
 subst h1 h2;refine⟨fun C fn h=>?_⟩;unfold oZ at h
 split at h
 .cases h;exact⟨_,_,_,_,_,Y.Sg,Y.RM,Y.Uv,B.p .m6,B.r,Y.bi .m6⟩
 .cases h;exact⟨_,_,_,_,_,Y.O6,Y.M8,Y.TV,B.p .m6,B.r,Y.bi .m6⟩
 .cases h;exact⟨_,_,_,_,_,Y.O5,Y.M7,Y.TJ,B.p .m6,B.r,Y.bi .m6⟩
 .cases h;exact⟨_,_,_,_,_,Y.Rt,Y.P_,Y.Ub,B.p .H9,B.r,Y.bi .H9⟩
 .cases h;exact⟨_,_,_,_,_,Y.Sh,Y.RN,Y.UG,B.p .J5,B.r,Y.bi .J5⟩
 .cases h
def zQ(B:Bu Y k A)(h1:X.toSC=S:=by rfl)(h2:X.A=A:=by rfl):ZM X "meaning" (mw (F k)):=by
 subst h1 h2;refine⟨fun C fn h=>?_⟩;unfold mw at h
 split at h
 .cases h;exact⟨_,_,_,_,_,Y.Sg,Y.RM,Y.Uu,B.p .G6,B.r,Y.bi .G6⟩
 .cases h;exact⟨_,_,_,_,_,Y.O6,Y.M8,Y.TQ,B.p .u9,B.r,Y.bi .u9⟩
 .cases h;exact⟨_,_,_,_,_,Y.O5,Y.M7,Y.TG,B.p .v7,B.r,Y.bi .v7⟩
 .cases h;exact⟨_,_,_,_,_,Y.Rt,Y.P_,Y.Ua,B.p .D_,B.r,Y.bi .D_⟩
 .cases h;exact⟨_,_,_,_,_,Y.Sh,Y.RN,Y.Uz,B.p .G7,B.r,Y.bi .G7⟩
 .cases h
def Ik(B:Bu Y k A)(h1:X.toSC=S:=by rfl)(h2:X.A=A:=by rfl):ZM X "read" (wv (F k)):=by
 subst h1 h2;refine⟨fun C fn h=>?_⟩;unfold wv at h
 split at h
 .cases h;exact⟨_,_,_,_,_,Y.Sg,Y.RM,Y.VN,B.p .j8,B.r,Y.bi .j8⟩
 .cases h;exact⟨_,_,_,_,_,Y.O6,Y.M8,Y.U6,B.p .j8,B.r,Y.bi .j8⟩
 .cases h;exact⟨_,_,_,_,_,Y.O5,Y.M7,Y.U3,B.p .j8,B.r,Y.bi .j8⟩
 .cases h;exact⟨_,_,_,_,_,Y.Rt,Y.P_,Y.Vn,B.p .j8,B.r,Y.bi .j8⟩
 .cases h;exact⟨_,_,_,_,_,Y.Sh,Y.RN,Y.VR,B.p .j8,B.r,Y.bi .j8⟩
 .cases h
def yw(B:Bu Y k A)(h1:X.toSC=S:=by rfl)(h2:X.A=A:=by rfl):ZM X "spelling" (iw (F k)):=by
 subst h1 h2;refine⟨fun C fn h=>?_⟩;unfold iw at h
 split at h
 .cases h;exact⟨_,_,_,_,_,Y.Sg,Y.RM,Y.T9,B.p .C_,B.r,Y.bi .C_⟩
 .cases h;exact⟨_,_,_,_,_,Y.O6,Y.M8,Y.Tn,B.p .v8,B.r,Y.bi .v8⟩
 .cases h;exact⟨_,_,_,_,_,Y.O5,Y.M7,Y.Tj,B.p .v5,B.r,Y.bi .v5⟩
 .cases h;exact⟨_,_,_,_,_,Y.Rt,Y.P_,Y.TP,B.p .A_,B.r,Y.bi .A_⟩
 .cases h;exact⟨_,_,_,_,_,Y.Sh,Y.RN,Y.Ud,B.p .G3,B.r,Y.bi .G3⟩
 .cases h
def tF(B:Bu Y k A)(h1:X.toSC=S:=by rfl)(h2:X.A=A:=by rfl):ZM X "stretch_end" (iE (F k)):=by
 subst h1 h2;refine⟨fun C fn h=>?_⟩;unfold iE at h
 split at h
 .cases h;exact⟨_,_,_,_,_,Y.Sg,Y.RM,Y.Tc,B.p .p8,B.r,Y.bi .p8⟩
 .cases h;exact⟨_,_,_,_,_,Y.O6,Y.M8,Y.SM,B.p .m_,B.r,Y.bi .m_⟩
 .cases h;exact⟨_,_,_,_,_,Y.O5,Y.M7,Y.SJ,B.p .n8,B.r,Y.bi .n8⟩
 .cases h;exact⟨_,_,_,_,_,Y.Rt,Y.P_,Y.S9,B.p .n_,B.r,Y.bi .n_⟩
 .cases h;exact⟨_,_,_,_,_,Y.Sh,Y.RN,Y.Td,B.p .q8,B.r,Y.bi .q8⟩
 .cases h
end
def ck{N:Zl}{YZ scope:Scope}{t_:Y1}{vs M:Zl}(_:M=vs++t_.map fun i=>N.getD i "")(h:wz N YZ scope t_ vs M=true):hZ N YZ scope t_ vs M:=hZ.of h
def RR{S:SC}(Y:Sys S)(c:Bool)(k:Nat)(f:Fn)(b:Sx):Prop:=∀(X:Cx)(cd:Value)(A:Around)(s:Shared),X.toSC=S->fK (dl k+1) (A.deeper (akc (yS f) (bf (oJ f)) s.heap.objs.size (Y.adr f) cd))->XK (kQ c X (tJ f) (yS f) (bf (oJ f)) (Y.adr f) cd A s) (iX (oJ f)) b
section
variable{S:SC}{Y:Sys S}{c:Bool}{k:Nat}{f:Fn}{b:Sx}
def rz(T:Tb Y k)(h:∀(X:Cx)(Y:Sys X.toSC)(cd:Value)(A:Around)(s:Shared),Bu Y k (kQ c X (tJ f) (yS f) (bf (oJ f)) (Y.adr f) cd A s).A->(kQ c X (tJ f) (yS f) (bf (oJ f)) (Y.adr f) cd A s).A.units+64<akz->(∀i,X.mg (Kj i)=none)->XK (kQ c X (tJ f) (yS f) (bf (oJ f)) (Y.adr f) cd A s) (iX (oJ f)) b):RR Y c k f b:=fun X cd A s e hr=>by subst e;exact h X Y cd A s ⟨T,hr⟩ (hr.mono (agQ _)).units Y.n
def fp(h:RR Y true k f b):YT S (dl (k+1)) (Y.adr f) (Y.fd f) (lJ f) (ag b (lJ f).length (tJ f).length):=HJ (Y.ok f) (sc f) h
def fl(h:RR Y c k f b):XM S c (dl (k+1)) (Y.adr f) (Y.fd f) (lJ f) (fO b (lJ f).length (tJ f).length):=qG (Y.ok f) (sc f) h EP
def fg(h:RR Y c k f b):XM S c (dl (k+1)) (Y.adr f) (Y.fd f) (lJ f) (lG b (lJ f).length (tJ f).length):=qG (Y.ok f) (sc f) h IS
def fh(h:RR Y c k f b):XM S c (dl (k+1)) (Y.adr f) (Y.fd f) (lJ f) (gM b (lJ f).length (tJ f).length):=qG (Y.ok f) (sc f) h NG
def fi(h:RR Y c k f b):XM S c (dl (k+1)) (Y.adr f) (Y.fd f) (lJ f) (Di b (lJ f).length (tJ f).length):=qG (Y.ok f) (sc f) h NF
end
section
variable{S:SC}{Y:Sys S}{k:Nat}(T:Tb Y k)
include T
set_option maxHeartbeats 0 in
theorem Fx:Tb Y (k+1):=by
 refine⟨fun f=>?_,fun f=>?_,fun f=>?_,fun f h=>?_⟩<;>cases f<;>(first|exact .bad|(cases h;done)|refine fp (rz T fun X Y _ _ _ B hu n=>?_)|refine fp (b:=aQ (cK _)) (rz T fun X Y _ _ _ B hu n=>?_)|refine fl (rz T fun X Y _ _ _ B hu n=>?_)|refine fe (rz T fun X Y _ _ _ B hu n=>?_)|refine fg (rz T fun X Y _ _ _ B hu n=>?_)|refine fi (rz T fun X Y _ _ _ B hu n=>?_)|refine fh (rz T fun X Y _ _ _ B hu n=>?_))<;>
  (repeat' first
   |(refine(?_:XK _ _ _);first|refine zr ?_|refine Ap ?_|exact Gj|refine Dj ?_ ?_)
   |(refine(?_:RS _ _ _);first|refine Pc ?_|refine Mi ?_ ?_ ?_|refine Gp ?_|refine zf ?_ ?_ ?_|refine Dk ?_ ?_|refine Gn ?_ ?_ ?_|refine BI (Bm Y) B.r rfl ?_|refine JD (mG Y) rfl ?_ ?_|refine Dl ?_ ?_ ?_|refine JE ?_ ?_|refine xD (ck (by rfl) (by kernel_rfl)) ?_ (fun _ _=>?_) (fun _ _=>?_) rfl rfl (by with_unfolding_all rfl)|exact Dm|exact Gq|refine Gk (qg Y) ?_ (fun _=>?_) rfl rfl rfl Y.V1|refine xC (ck (by rfl) (by kernel_rfl)) ?_ (fun _ _=>?_) (fun _ _=>?_) rfl rfl (by with_unfolding_all rfl)|exact Go)
   |(refine(?_:RE _ _ _);first|(refine(?_:RE _ (.Name _ _) _);first|exact rv _|exact YL Y.RB|exact glI Y.RD|exact YL Y.Ve|exact YL Y.O8|exact YL Y.M5|exact YL Y.Rr|exact YL Y.N7|exact YL Y.RL|exact YL Y.O_|exact YL Y.Tf|exact YL Y.Rq|exact YL Y.RJ|exact glV Y.S8|exact glC Y.W3 Y.Vw|exact glC Y.W0 Y.Vv|exact glC Y.Ww Y.UW|exact glC Y.X3 Y.WM|exact glC Y.WY Y.Vu|exact glC Y.Wq Y.J9|exact zty (n .ValueError)|exact zty (n .list)|exact zty (n .tuple)|exact glI Y.K4|exact glI Y.I_|exact YL Y.O9)|(refine(?_:RE _ (.Constant _ _ _) _);first|exact JW|exact rst|exact JQ|exact Mq)|(refine(?_:RE _ (.Call (.Attribute _ _ _) _ _ _) _);first|refine pH CK ahv PySem.F.slot_list_append PySem.F.type_list_append Ci ?_ ?_|refine pH qS afP PySem.F.slot_str_join PySem.F.type_str_join He ?_ ?_|refine pH qS afP ahV ahU Hf ?_ ?_|refine zo B .d8 ?_ ?_|refine zo B .f9 ?_ ?_|refine pH Ji PySem.F.plainAttrs_dict ahW PySem.F.type_dict_get Kp ?_ ?_|refine zo B .g_ ?_ ?_|refine zo B .j9 ?_ ?_|refine pH qS afP ahV ahU Ei ?_ ?_|refine pH qS afP PySem.F.slot_str_startswith PySem.F.type_str_startswith rX ?_ ?_|refine zo B .j6 ?_ ?_|refine zo B .h_ ?_ ?_|refine zo B .i_ ?_ ?_|refine pH CK ahv ahu PySem.F.type_list_index Ch ?_ ?_|refine pH qS afP PySem.F.slot_str_lstrip PySem.F.type_str_lstrip zh ?_ ?_)|(refine(?_:RE _ (.Call _ _ _ _) _);first|refine zc B _ ?_|refine zd B _ ?_|refine zl (n .len) ?_|refine zt ME (n .int) ?_|refine zis (n .isinstance) (n .bool) ?_|refine zis (n .isinstance) (n .str) ?_|refine zt Mx (n .str) ?_|refine zb (MD (ID Y)) (n .isinstance) ?_|refine zis (n .isinstance) (n .list) ?_|refine zis (n .isinstance) (n .tuple) ?_|refine zb (Mz rfl) (n .max) ?_|refine zis (n .isinstance) (n .int) ?_|refine zt Kh (n .int) ?_|refine zb MK (n .abs) ?_|refine zk B .j_ ?_|refine zx B _ ?_|refine zb (Kg (ID Y)) (n .isinstance) ?_|refine zb GW (n .isinstance) ?_|refine zb (MI rfl) (n .all) ?_|refine zt GU (n .tuple) ?_|exact zc0 B _)|(refine(?_:RE _ (.Subscript _ _ _) _);first|refine Mo ?_ ?_|refine BM ?_ ?_ ?_)|(refine(?_:RE _ (.BinOp _ _ _ _) _);first|refine GJ ?_ ?_|refine JT ?_ ?_|refine GD ?_ ?_|refine JS ?_ ?_|refine JL ?_ ?_)|refine JK ?_|refine JV ?_|refine GC ?_|refine Dx ?_ ?_ ?_|refine req hu ?_ ?_|refine JX (mG Y) rfl ?_|refine JO ?_|refine GG (ck (by rfl) (by kernel_rfl)) ?_ (fun _ _=>?_) (fun _ _=>?_)|refine JY ?_ ?_|refine JR ?_|refine GF ?_|refine JN ?_ ?_|refine mP MA ?_ ?_ ?_|refine Mm ?_ ?_|refine GI ?_ ?_|refine Mp ?_|refine mP (MF (by exact hu)) (by with_unfolding_all rfl) ?_ ?_|refine Dy ?_|refine Dz (ck (by rfl) (by kernel_rfl)) ?_ (fun _ _=>?_) (fun _ _=>?_)|refine mi (Il B) ?_ ?_|refine mi (yw B) ?_ ?_|refine xG Iv Iv ?_ ?_ ?_|refine mi (Ik B) ?_ ?_|refine Mr (GS Y) ?_|refine mP MG ?_ ?_ ?_|refine mi (FH B) ?_ ?_|exact lH (FK Y) rfl|exact lH (Bl Y) rfl|exact lH (Bk Y) rfl|exact lH (CD Y) rfl|exact lH (FM Y) rfl|refine mP (vT hu) (by with_unfolding_all rfl) ?_ ?_|refine DA (ck (by rfl) (by kernel_rfl)) ?_ (fun _ _=>?_) (fun _ _=>?_)|refine mP Kf ?_ ?_ ?_|refine mP (Ke hu) ?_ ?_ ?_|refine JP ?_|refine Du ?_ ?_ ?_|refine xG Kf Kf ?_ ?_ ?_|refine GB ?_ ?_|refine yP rfl rfl (n .list) rfl (n .reversed) ?_|refine mi (tF B) ?_ ?_|refine mi (zQ B) ?_ ?_|refine xF (CB B) ?_|refine xF (zR B) ?_)
   |(refine(?_:RA _ _ _);first|refine ra1 ?_|refine qu ?_ ?_|exact yR)
   |(refine(?_:RT _ _ _);first|refine rte hu ?_ ?_|refine Jx ?_|refine Jy ?_|refine iP MA ?_ ?_ ?_|refine iP MC ?_ ?_ ?_|refine iP (Ke hu) ?_ ?_ ?_|refine iP (MF (by exact hu)) (by with_unfolding_all rfl) ?_ ?_|refine iP (MH hu) ?_ ?_ ?_|refine iP MG ?_ ?_ ?_|refine iP (vT hu) (by with_unfolding_all rfl) ?_ ?_|refine iP (Ke (by exact hu)) ?_ ?_ ?_|refine iP (vT (by exact hu)) (by with_unfolding_all rfl) ?_ ?_|refine iP Kc ?_ ?_ ?_|refine iP Pj ?_ ?_ ?_|refine RW.rt (De ?_ ?_)|refine RW.rt (Ir ?_ ?_))
   |(refine(?_:RW _ _ _);first|refine De ?_ ?_|refine Ir ?_ ?_|refine Gg ?_|refine Jv ?_)
   |(refine(?_:RG _ _ _);first|exact ky|refine Dr rfl ?_)
   |(refine(?_:RGs _ _ _);first|refine rA ?_ ?_|exact Ar)
   |(refine(?_:RO _ _ _);first|refine Gu ?_|exact Gv)
   |(refine(?_:RI _ _ _ _);first|refine JF ?_|refine BK rfl (n .range) ?_|refine Gw rfl (n .enumerate) ?_|refine JG rfl (n .reversed) ?_)
   |(refine(?_:YS _ _ _);first|exact JI|refine JH ?_)
   |(refine(?_:RPs _ _ _ _ _);first|refine Dn ?_ ?_ ?_|exact Gr)
   |exact yZ _)
end
theorem wM{S:SC}(Y:Sys S):∀k,Tb Y k
 |0=>⟨fun _=>.bad,fun _=>.bad,fun _=>.bad,fun _ _=>.bad⟩
 |k+1=>Fx (wM Y k)
def adP(K:ajZ)(C:Nat->Addr):Fn->Addr->Prop
 |.j7,a=>ajJ K (.ref (C 0)) "coded"=some (some (.ref a))/\ajJ K (.ref (C 1)) "coded"=some (some (.ref a))/\ajJ K (.ref (C 2)) "coded"=some (some (.ref a))/\ajJ K (.ref (C 3)) "coded"=some (some (.ref a))/\ajJ K (.ref (C 4)) "coded"=some (some (.ref a))/\W.isFn K (.ref a)=true/\aj1 K (.ref a)=true
 |.j_,a=>bE K (C 604) "__init__" a
 |.d8,a=>bE K (C 604) "read_nodes" a
 |.E_,a=>bE K (C 12) "__init__" a
 |.C_,a=>bE K (C 0) "spelling" a
 |.v8,a=>bE K (C 1) "spelling" a
 |.v5,a=>bE K (C 2) "spelling" a
 |.A_,a=>bE K (C 3) "spelling" a
 |.G3,a=>bE K (C 4) "spelling" a
 |.M9,a=>bE K (C 0) "fits" a
 |.G_,a=>bE K (C 1) "fits" a
 |.J7,a=>bE K (C 2) "fits" a
 |.N5,a=>bE K (C 3) "fits" a
 |.Q0,a=>bE K (C 4) "fits" a
 |.g_,a=>bE K (C 604) "read_text" a
 |.j6,a=>bE K (C 604) "read_place" a
 |.h_,a=>bE K (C 604) "read_rounds" a
 |.i_,a=>bE K (C 604) "read_choice" a
 |.f9,a=>bE K (C 604) "stands_at" a
 |.j8,a=>ajJ K (.ref (C 0)) "read"=some (some (.ref a))/\ajJ K (.ref (C 1)) "read"=some (some (.ref a))/\ajJ K (.ref (C 2)) "read"=some (some (.ref a))/\ajJ K (.ref (C 3)) "read"=some (some (.ref a))/\ajJ K (.ref (C 4)) "read"=some (some (.ref a))/\W.isFn K (.ref a)=true/\aj1 K (.ref a)=true
 |.j9,a=>bE K (C 604) "is_among" a
 |.p8,a=>bE K (C 0) "stretch_end" a
 |.m_,a=>bE K (C 1) "stretch_end" a
 |.n8,a=>bE K (C 2) "stretch_end" a
 |.n_,a=>bE K (C 3) "stretch_end" a
 |.q8,a=>bE K (C 4) "stretch_end" a
 |.G6,a=>bE K (C 0) "meaning" a
 |.u9,a=>bE K (C 1) "meaning" a
 |.v7,a=>bE K (C 2) "meaning" a
 |.D_,a=>bE K (C 3) "meaning" a
 |.G7,a=>bE K (C 4) "meaning" a
 |.L_,a=>bE K (C 0) "begins" a
 |.H_,a=>bE K (C 1) "begins" a
 |.H8,a=>bE K (C 2) "begins" a
 |.J4,a=>bE K (C 3) "begins" a
 |.M4,a=>bE K (C 4) "begins" a
 |.m6,a=>ajJ K (.ref (C 0)) "is_void"=some (some (.ref a))/\ajJ K (.ref (C 1)) "is_void"=some (some (.ref a))/\ajJ K (.ref (C 2)) "is_void"=some (some (.ref a))/\W.isFn K (.ref a)=true/\aj1 K (.ref a)=true
 |.H9,a=>bE K (C 3) "is_void" a
 |.J5,a=>bE K (C 4) "is_void" a
 |f,a=>W.nsIn K aj7 (pY f)=some (some (.ref a))
def us0(h:us.length=0):us= []:=List.eq_nil_of_length_eq_zero h
theorem ZW{n:Nat}(h:us.length=n+1):∃a r,us=a::r/\r.length=n:=by
 cases us with
 |nil=>cases h
 |cons a r=>exact⟨a,r,rfl,by simpa using h⟩
def us1(h:us.length=1):∃a,us= [a]:=by obtain⟨a,r,rfl,z⟩:=ZW h;obtain rfl:=us0 z;exact⟨a,rfl⟩
def us2(h:us.length=2):∃a b,us= [a,b]:=by obtain⟨a,r,rfl,z⟩:=ZW h;obtain⟨b,rfl⟩:=us1 z;exact⟨a,b,rfl⟩
def us3(h:us.length=3):∃a b c,us= [a,b,c]:=by obtain⟨a,r,rfl,z⟩:=ZW h;obtain⟨b,c,rfl⟩:=us2 z;exact⟨a,b,c,rfl⟩
def us4(h:us.length=4):∃a b c d,us= [a,b,c,d]:=by obtain⟨a,r,rfl,z⟩:=ZW h;obtain⟨b,c,d,rfl⟩:=us3 z;exact⟨a,b,c,d,rfl⟩
def us5(h:us.length=5):∃a b c d e,us= [a,b,c,d,e]:=by obtain⟨a,r,rfl,z⟩:=ZW h;obtain⟨b,c,d,e,rfl⟩:=us4 z;exact⟨a,b,c,d,e,rfl⟩
def us6(h:us.length=6):∃a b c d e f,us= [a,b,c,d,e,f]:=by obtain⟨a,r,rfl,z⟩:=ZW h;obtain⟨b,c,d,e,f,rfl⟩:=us5 z;exact⟨a,b,c,d,e,f,rfl⟩
def us7(h:us.length=7):∃a b c d e f g,us= [a,b,c,d,e,f,g]:=by obtain⟨a,r,rfl,z⟩:=ZW h;obtain⟨b,c,d,e,f,g,rfl⟩:=us6 z;exact⟨a,b,c,d,e,f,g,rfl⟩
def fq{K:ajZ}{Ad:Addr->Prop}{nm ql:Str}{st:Stmt}{ps:Zl}{f:Addr}{od an:Option Addr}{sl:Array (Option Value)}{oc kV dc pm cd ct:Value}(a:Ad f)(l:K.lookup f=some ⟨oc,od,.func (W.fnOf nm ql (qJ st) (iX st) (bf st) .none kV dc pm an cd ct),sl⟩)(c:W.codeIn K cd ql=true)(k:aj1 K (.ref f)=true)(b:∀(kV doc pm:Value)(an:Option Addr)(cdv ct:Value)(us:Z3),us.length=ps.length->bindArgs (W.fnOf nm ql (qJ st) (iX st) (bf st) .none kV doc pm an cdv ct) ⟨us,[]⟩=pure (ps.zip us)):∃a fd,Ad a/\Fun K nm ql st a fd/\jM K fd ps []:=⟨f,_,a,⟨⟨_,_,_,_,_,_,_,_,_,rfl,l,c⟩,k⟩,fun s us _ h=>by rw[aep]at h |-;exact .of_eq (b _ _ _ _ _ _ us h)⟩
abbrev nG(K:ajZ)(x:Str)(v:Value):Prop:=W.nsIn K aj7 x=some (some v)
def YK{o:Option Value}{x y:Str}{t:Tok}(h:o=some (.str x t))(e:x=y):∃t,o=some (.str y t):=by subst e;exact⟨t,h⟩
def LA{l:W.OpenLaw}{w:World}{K:ajZ}{h:Heap}{mg:Str->Option Value}{fa:Addr}(X:K.In h)(G:h.Ns aj7 mg)(hfa:mg "law"=some (.ref fa))
  {VF Tt Tr Ur VG K_ TY Us WL Vg Vh Vf G4:Addr} {YB WT Xx Xw S_ VK TF WR Wy Xg Xf Wl WQ Zj Xu:Tok}
  {Xc:Addr} {Ym:Nat} {Xv:Tok} (XD:nG K "Word" (.ref VF)) (RM:Cls K VF) (Ul:M0 K VF) (Wu:nG K "Number" (.ref Tt)) (M8:Cls K Tt) (S5:M0 K Tt) (Wt:nG K "Quoted" (.ref Tr)) (M7:Cls K Tr) (SX:M0 K Tr) (W8:nG K "Plain" (.ref Ur)) (P_:Cls K Ur) (Ti:M0 K Ur) (XF:nG K "Line" (.ref VG)) (RN:Cls K VG) (Um:M0 K VG) (T8:nG K "BackReader" (.ref K_)) (B_:Cls K K_) (T5:ak1 K K_=true) (T7:aj1 K (.ref K_)=true) (R5:ajJ K (.ref K_) "text"=some none) (S6:ajJ K (.ref K_) "at"=some none) (Uq:nG K "FormError" (.ref TY)) (Vb:nG K "BadValue" (.ref Us)) (W9:nG K "Clash" (.ref WL)) (VB:nG K "BadText" (.ref Vg)) (VD:nG K "BadName" (.ref Vh)) (Vz:nG K "Unclear" (.ref Vf)) (Wv:nG K "NoFill" (.ref G4)) (cg_:wS K) (V4:nu K VF) (Uh:nu K Tt) (Ug:nu K Tr) (Va:nu K Ur) (V5:nu K VG) (Ui:nu K G4) (O2:ajT K (.ref G4) (.ref Vh)=some ajt) (O1:ajT K (.ref G4) (.ref Vg)=some ajt) (M_:ajT K (.ref G4) (.ref Us)=some ajt) (Q_:ajT K (.ref G4) (.ref WL)=some ajt) (O7:ajT K (.ref G4) (.ref G4)=some true) (N_:ajT K (.ref G4) (.ref Vf)=some ajt) (J6:ajT K (.ref G4) (.type "ValueError")=some true) (Te:wO K G4) (K7:akT K (.ref G4) (.ref TY)=some true) (Wk:qQ K G4 [.type "ValueError",.type "Exception",.type "BaseException",.type "object"] "ValueError.__new__"=true) (Wj:aj1 K (.ref G4)=true) (Wi:Jh K G4=true) (Wh:ajJ K (.ref G4) "__setattr__"=some (some (.builtin "object.__setattr__"))) (Wg:ajJ K (.ref G4) "at"=some none) (Wf:W.hasDictIn K G4=true) (hf:∀f:Fn,∃a fd,adP K (fun i=>match i with|0=>VF|1=>Tt|2=>Tr|3=>Ur|4=>VG|604=>K_|12=>G4|_=>0) f a/\Fun K (pY f) (yS f) (oJ f) a fd/\jM K fd (lJ f) []) (Tf:nG K "FIGURES" (.str "0123456789" YB)) (O_:nG K "LINE_LETTERS" (.str "~n" WT)) (RL:nG K "LINE_SIGNS" (.str "~\n" Xx)) (RJ:nG K "LINE_STOPS" (.str "\n" Xw)) (I_:nG K "MOST_NUMBER_SIGNS" (.int 31 S_)) (RD:nG K "MOST_SIGNS" (.int 400 VK)) (K4:nG K "MOST_WORD_SIGNS" (.int 40 TF)) (O9:nG K "NUMBER_SIGNS" (.str "-0123456789" WR)) (N7:nG K "PLAIN_LETTERS" (.str "~lgabn" Wy)) (Rr:nG K "PLAIN_SIGNS" (.str "~<>&|\n" Xg)) (Rq:nG K "PLAIN_STOPS" (.str "\n&<>|" Xf)) (M5:nG K "QUOTED_LETTERS" (.str "^qn" Wl)) (O8:nG K "QUOTED_SIGNS" (.str "^\"\n" WQ)) (Ve:nG K "SIGNS" (.str "\n !\"#$&'()*+,-./0123456789:;<=>?@ABCDEFGHIJKLMNOPQRSTUVWXYZ[\\]^_`abcdefghijklmnopqrstuvwxyz{|}~" Zj)) (RB:nG K "WORD_SIGNS" (.str "0123456789ABCDEFGHIJKLMNOPQRSTUVWXYZabcdefghijklmnopqrstuvwxyz" Xu)) (S8:nG K "TEXT_END" (.ref Xc)) (Vy:K.lookup Xc=some { cls:=.type "tuple",data:=.seq #[.str "" Xv,.bool true] Ym }) (hn:∀i:Nt,W.nsIn K aj7 (Kj i)=some none):∃(fd:FuncData)(T:Nat->Option Addr),(∀(s:Shared)(u:Value),akE s fd ⟨[u],[]⟩ [("_law_script",u)])/\YT ⟨l.prog,w,K,mg,h,T⟩ (dl 30) fa fd ["_law_script"] (F 30 .law):=by
 have HB:=fun f=>(hf f).choose_spec.choose_spec.1
 let Y:Sys ⟨l.prog,w,K,mg,h,fun i=>match i with|0=>some VF|1=>some Tt|2=>some Tr|3=>some Ur|4=>some VG|5=>some TY|7=>some Us|8=>some WL|9=>some Vg|10=>some Vh|11=>some Vf|12=>some G4|604=>some K_|_=>none⟩:={
  adr:=fun f=>(hf f).choose
  fd:=fun f=>(hf f).choose_spec.choose
  ok:=fun f=>(hf f).choose_spec.choose_spec.2.1
  bi:=fun f=>(hf f).choose_spec.choose_spec.2.2
  m:=fun f hp=>afj X G (by have q:=(hf f).choose_spec.choose_spec.1;cases f<;>first|exact q|cases hp)
  n:=fun i=>W.mg_none_of X G (hn i)
  J1:=fun i=>match i with|0=>VF|1=>Tt|2=>Tr|3=>Ur|4=>VG|5=>TY|7=>Us|8=>WL|9=>Vg|10=>Vh|11=>Vf|12=>G4|604=>K_|_=>0
  Sg:=rfl
  Yu:=afj X G XD
  O6:=rfl
  Xl:=afj X G Wu
  O5:=rfl
  Xk:=afj X G Wt
  Rt:=rfl
  XR:=afj X G W8
  Sh:=rfl
  Yv:=afj X G XF
  Xr:=rfl
  V1:=afj X G Uq
  UW:=rfl
  Ww:=afj X G Vb
  WM:=rfl
  X3:=afj X G W9
  Vv:=rfl
  W0:=afj X G VB
  Vw:=rfl
  W3:=afj X G VD
  Vu:=rfl
  WY:=afj X G Vz
  J9:=rfl
  Wq:=afj X G Wv
  H7:=rfl
  Vq:=afj X G T8
  K7
  cg_
  V4
  Uh
  Ug
  Va
  V5
  Ui
  Te
  O2
  O1
  M_
  Q_
  O7
  N_
  J6
  Wc:=⟨.inl Wk,(HB .E_).1,(HB .E_).2,Wj,Wi,Wh,Wg,Wf,Te⟩
  Tf:=YK (afj X G Tf) (by kernel_rfl)
  O_:=YK (afj X G O_) (by kernel_rfl)
  RL:=YK (afj X G RL) (by kernel_rfl)
  RJ:=YK (afj X G RJ) (by kernel_rfl)
  I_:=⟨S_,(afj X G I_).trans (rfl)⟩
  RD:=⟨VK,(afj X G RD).trans (rfl)⟩
  K4:=⟨TF,(afj X G K4).trans (rfl)⟩
  O9:=YK (afj X G O9) (by kernel_rfl)
  N7:=YK (afj X G N7) (by kernel_rfl)
  Rr:=YK (afj X G Rr) (by kernel_rfl)
  Rq:=YK (afj X G Rq) (by kernel_rfl)
  M5:=YK (afj X G M5) (by kernel_rfl)
  O8:=YK (afj X G O8) (by kernel_rfl)
  Ve:=YK (afj X G Ve) (by kernel_rfl)
  RB:=YK (afj X G RB) (by kernel_rfl)
  S8:=⟨_,_,_,afj X G S8,X _ _ Vy,by show 2<=ajx;decide,fun _ _=>(.cons (.str _ _) (.cons (.bl _) .nil))⟩
  B_
  Vk:=fun f hf=>by
   simp only[Yr,aek,aeO,ajP]at hf;rcases hf with rfl|rfl
   .exact R5
   .exact S6
  Vl:=⟨T5,(HB .j_).1,(HB .j_).2,T7⟩
  R0:=(HB .d8)
  R9:=(HB .g_)
  RZ:=(HB .j6)
  RQ:=(HB .h_)
  RX:=(HB .i_)
  R8:=(HB .f9)
  Sv:=(HB .j9)
  RM
  Ul
  U0:=(HB .L_)
  Vm:=⟨(HB .j7).1,(HB .j7).2.2.2.2.2.1,(HB .j7).2.2.2.2.2.2⟩
  VP:=(HB .M9)
  Uv:=⟨(HB .m6).1,(HB .m6).2.2.2.1,(HB .m6).2.2.2.2⟩
  Uu:=(HB .G6)
  VN:=⟨(HB .j8).1,(HB .j8).2.2.2.2.2.1,(HB .j8).2.2.2.2.2.2⟩
  T9:=(HB .C_)
  Tc:=(HB .p8)
  M8
  S5
  Uc:=(HB .H_)
  Uy:=⟨(HB .j7).2.1,(HB .j7).2.2.2.2.2.1,(HB .j7).2.2.2.2.2.2⟩
  U7:=(HB .G_)
  TV:=⟨(HB .m6).2.1,(HB .m6).2.2.2.1,(HB .m6).2.2.2.2⟩
  TQ:=(HB .u9)
  U6:=⟨(HB .j8).2.1,(HB .j8).2.2.2.2.2.1,(HB .j8).2.2.2.2.2.2⟩
  Tn:=(HB .v8)
  SM:=(HB .m_)
  M7
  SX
  T_:=(HB .H8)
  Uw:=⟨(HB .j7).2.2.1,(HB .j7).2.2.2.2.2.1,(HB .j7).2.2.2.2.2.2⟩
  U4:=(HB .J7)
  TJ:=⟨(HB .m6).2.2.1,(HB .m6).2.2.2.1,(HB .m6).2.2.2.2⟩
  TG:=(HB .v7)
  U3:=⟨(HB .j8).2.2.1,(HB .j8).2.2.2.2.2.1,(HB .j8).2.2.2.2.2.2⟩
  Tj:=(HB .v5)
  SJ:=(HB .n8)
  P_
  Ti
  Ux:=(HB .J4)
  U5:=⟨(HB .j7).2.2.2.1,(HB .j7).2.2.2.2.2.1,(HB .j7).2.2.2.2.2.2⟩
  Vo:=(HB .N5)
  Ub:=(HB .H9)
  Ua:=(HB .D_)
  Vn:=⟨(HB .j8).2.2.2.1,(HB .j8).2.2.2.2.2.1,(HB .j8).2.2.2.2.2.2⟩
  TP:=(HB .A_)
  S9:=(HB .n_)
  RN
  Um
  U8:=(HB .M4)
  Vp:=⟨(HB .j7).2.2.2.2.1,(HB .j7).2.2.2.2.2.1,(HB .j7).2.2.2.2.2.2⟩
  V0:=(HB .Q0)
  UG:=(HB .J5)
  Uz:=(HB .G7)
  VR:=⟨(HB .j8).2.2.2.2.1,(HB .j8).2.2.2.2.2.1,(HB .j8).2.2.2.2.2.2⟩
  Ud:=(HB .G3)
  Td:=(HB .q8) }
 have e:=(Y.m .law rfl).symm.trans hfa;obtain rfl:Y.adr .law=fa:=by injection e with e1;injection e1
 exact⟨Y.fd .law,_,fun s v=>by obtain⟨_,_,_,_,_,_,_,_,_,e,_⟩:=(Y.ok .law).ex;rw[e];exact .of_eq rfl,(wM Y 30).p .law⟩
end Xb
namespace Z
open PySem PySem.Spec PyProof.Rows
variable{h:Y3}{ls:Ya}{α:Type}
theorem Res.K9{β:Type}(a:α)(h:Y3)(k:α->Y3->Res β):(Res.ok a h).bind k=k a h:=rfl
theorem OR(a:α)(h:Y3):(Res.ok a h).calm=.ok a h:=rfl
def FF(l:Y1):(S l).cps.toList=l:=by simp[S]
def cO(c:Nat)(x:Y1):pM [c] x=x.contains c:=by
 unfold pM aL;rw[aft,List.find?_isSome];simp only[afg,aee,ajE,aeL,true_and,afa];constructor
 .rintro⟨i,hi,hp⟩
  obtain⟨t,ht⟩:=afy.mp hp;have:c∈x.drop i:=by rw[<- ht];simp
  exact afc this
 .intro h;obtain⟨i,hi⟩:=List.mem_iff_getElem?.mp h
  have ZF:i<x.length:=by
   rcases aeR i x.length with q|q
   .exact q
   .rw[aeE q]at hi;cases hi
  refine⟨i,by lia,afy.mpr ⟨x.drop (i+1),?_⟩⟩;rw[aej ZF,afm]at hi;rw[<- hi,afn,<- aeZ ZF]
theorem BB(ls:Ya):lC (ls.map PV.str)=some ls:=by
 induction ls with
 |nil=>rfl
 |cons l r ih=>simp[lC,ih]
def eQ{xs:List α}{j:Int}{v:α}(h0:0<=j)(h:xs[j.toNat]? =some v):Sy xs j=some v:=by have:=(aer.mp h).1;simp only[Sy,Y0,ajz h0,ajz (show j<xs.length by lia)];exact h
def Ig(xs:List α)(v:α):Sy (xs++ [v]) (-1)=some v:=by
 have e:(-1+((xs.length+1:Nat):Int)).toNat=xs.length:=by lia
 unfold Sy Y0;rw[ajB ⋯,ajz (by simp only[aei,aev];lia),aei,aev,e];simp
section
variable(ρ:Ev)(h:Y3)
theorem Ro(v:PV):cK v ρ h=.ok v h:=rfl
theorem Qk:af ρ h=.ok [] h:=rfl
theorem NI:dG ρ h=.ok none h:=rfl
theorem OQ(res:Nat->Option (Y2->Out))(o:Ex)(as:Ax):kn res o as ρ h=(o ρ h).bind fun p h1=>match p with|.ins C []=>(match res C with|some fn=>(as ρ h1).bind fun ps h2=>aR fn (.ins C []::ps) h2|none=>.bad)|_=>.bad:=rfl
theorem OP:bh ρ h=.nx ρ h:=rfl
theorem LJ:vC ρ h=.bad:=rfl
theorem NJ(g:Gx)(body:Sx):bc g body [] ρ h=.nx ρ h:=rfl
theorem EQ(i:Nat)(p:PV):P0 i p ρ=some (ρ.set i (some p)):=rfl
end
section
variable(h:Y3)
theorem Qr(i:Int):aA h (.int i)=.int i:=rfl
theorem Ra(i:Bool):aA h (.bl i)=.bl i:=rfl
theorem Qo(i:Y1):aA h (.str i)=.str i:=rfl
theorem Qp:aA h .non=.non:=rfl
theorem Qn(i:Y2):aA h (.tup i)=.tup i:=rfl
theorem Qq(i:Y2):aA h (.lst i)=.lst i:=rfl
theorem Qt(i:List (PK×PV)):aA h (.dct i)=.dct i:=rfl
theorem Qs(c:Nat)(i:List (Str×PV)):aA h (.ins c i)=.ins c i:=rfl
theorem iW(xs:Y2)(r:Y3):aA (.lst xs::r) (.ref 0)=.ref 0:=rfl
theorem OY(i j:Int):oP (.int i) (.int j) h=.ok (.int (i - j)) h:=rfl
theorem Ko(i j:Int):jh (.int i) (.int j) h=if jO i j=true then .ok (.int (i * j)) h else .bad:=rfl
theorem QC(C:Int->Int->Bool)(g:Int->Int->Int)(i j:Int):pI C g (.int i) (.int j) h=if C i j=true then .ok (.int (g i j)) h else .bad:=rfl
theorem QD(i:Int):vR (.int i) h=.ok (.int (-i)) h:=rfl
theorem Qv(g:Int->Int->Bool)(i j:Int):yX g (.int i) (.int j) h=.ok (.bl (g i j)) h:=rfl
theorem Rm(p:PV):Wn p .non h=.ok (.bl (oj p)) h:=rfl
theorem QX(l:Y1)(i:Int):j5 (.str l) (.int i) h=match Sy l i with|some c=>if l.length<=ajx then .ok (.str [c]) h else .bad|none=>.bad:=rfl
theorem MT(l:Y1):bS [.str l] h=match(if l.length<=ajx then some l.length else none)with|some n=>.ok (.int n) h|none=>.bad:=rfl
theorem QF(l:Y2):bS [.tup l] h=.ok (.int l.length) h:=rfl
theorem IA(l:Y2):bS [.lst l] h=.ok (.int l.length) h:=rfl
@[simp] theorem MU(l:Y2):bS [.X5 l] h=.ok (.int l.length) h:=rfl
theorem Pp(ps:Y2):bY ps h=if ps.length<=ajx then .ok (.lst ps) h else .bad:=rfl
theorem Ow(ps:Y2):dD ps h=if ps.length<=ajx then .ok (.ref h.length) (h++ [.lst ps])else .bad:=rfl
theorem OU(ps:Y2):aW ps h=if ps.length<=ajx then .ok (.tup ps) h else .bad:=rfl
theorem Pg(ps:Y2):VL ps h=.ok (.lst ps) h:=rfl
theorem Ot(ps:Y2):jw ps h=.ok (.ref h.length) (h++ [.lst ps]):=rfl
theorem QY(b:Bool):oR [.bl b] h=.ok (.int (if b then 1 else 0)) h:=rfl
theorem Rb(i:Int):DN [.int i] h=.ok (.int (if i<0 then -i else i)) h:=rfl
theorem Qz(i:Int):xK [.int i] h=if i.natAbs.log2<1920 then .ok (.str (kx i)) h else .bad:=rfl
theorem Om(l:Y1):jA (.str l) h=.ok (l.map fun c=>PV.str [c]) h:=rfl
theorem Oo(l:Y2):jA (.lst l) h=.ok l h:=rfl
theorem HN(x y:Y1):lL (.str x) [.str y] h=.ok (.int (gh (aL y x 0))) h:=rfl
theorem OL(x:Y1):et h (.str x)=true:=rfl
theorem ON(i:Int):dK h (.int i)=some (.int i,h):=by simp[dK,PV.pure]
theorem Qj(i:Bool):dK h (.bl i)=some (.bl i,h):=by simp[dK,PV.pure]
theorem HF:dK h .non=some (.non,h):=by simp[dK,PV.pure]
theorem HE(i:Y1):dK h (.str i)=some (.str i,h):=by simp[dK,PV.pure]
theorem OO(c:Nat):dK h (.ins c [])=some (.ins c [],h):=by simp[dK,PV.pure,yT]
theorem Nx:Ws [] h=some ([],h):=rfl
theorem LI(p:PV)(r:Y2):Ws (p::r) h=match dK h p with|some (q,h1)=>(match Ws r h1 with|some (qs,h2)=>some (q::qs,h2)|none=>none)|none=>none:=rfl
theorem MM(a b:Y1):gW (.str a) (.str b) h=.ok (.bl (!pM a b)) h:=rfl
theorem Qy(b:Bool):oH h (.bl b)=some b:=rfl
theorem Kw(l:Y1):aV [.str l,.ty "str"] h=.ok (.bl true) h:=rfl
theorem Kx(l:Y1):aV [.str l,.ty "int"] h=.ok (.bl ajt) h:=rfl
theorem IF(l:Y1):aV [.str l,.ty "bool"] h=.ok (.bl ajt) h:=rfl
theorem KD(l:Int):aV [.int l,.ty "str"] h=.ok (.bl ajt) h:=rfl
theorem KG(l:Int):aV [.int l,.ty "int"] h=.ok (.bl true) h:=rfl
theorem II(l:Int):aV [.int l,.ty "bool"] h=.ok (.bl ajt) h:=rfl
theorem KL(l:Bool):aV [.bl l,.ty "str"] h=.ok (.bl ajt) h:=rfl
theorem KN(l:Bool):aV [.bl l,.ty "int"] h=.ok (.bl true) h:=rfl
theorem IK(l:Bool):aV [.bl l,.ty "bool"] h=.ok (.bl true) h:=rfl
theorem Ky:aV [.non,.ty "str"] h=.ok (.bl ajt) h:=rfl
theorem Kz:aV [.non,.ty "int"] h=.ok (.bl ajt) h:=rfl
theorem IG:aV [.non,.ty "bool"] h=.ok (.bl ajt) h:=rfl
theorem KA(l:Y2):aV [.lst l,.ty "str"] h=.ok (.bl ajt) h:=rfl
theorem KC(l:Y2):aV [.lst l,.ty "int"] h=.ok (.bl ajt) h:=rfl
theorem IH(l:Y2):aV [.lst l,.ty "bool"] h=.ok (.bl ajt) h:=rfl
theorem KH(l:List (PK×PV)):aV [.dct l,.ty "str"] h=.ok (.bl ajt) h:=rfl
theorem KJ(l:List (PK×PV)):aV [.dct l,.ty "int"] h=.ok (.bl ajt) h:=rfl
theorem IJ(l:List (PK×PV)):aV [.dct l,.ty "bool"] h=.ok (.bl ajt) h:=rfl
end
def szl:(ajx:Nat)=16777216:=by decide
theorem bB(fn:Y2->Out)(ps:Y2)(h:Y3):aR fn ps h=match Ws ps h with|some (qs,h2)=>(match fn qs with|.ok v=>.ok v h2|.bad=>.bad)|none=>.bad:=rfl
def mV{i j:Int}(h:VJ 18446744073709551616 j=true):jO i j=true:=by unfold jO;rw[h,aiO,ahN]
def rV{i j:Int}(h:VJ 18446744073709551616 i=true):jO i j=true:=by unfold jO;rw[h,aiO]
def iQ(a b:Y1)(h:Y3)(ha:∀c∈a,c<1114112)(hb:∀c∈b,c<1114112):v9 (.str a) (.str b) h=.ok (.bl (decide (a=b))) h:=by
 have ok:∀l:Y1,(∀c∈l,c<1114112)->Vx h (.str l)=true:=by intro l hl;unfold Vx Vr;simp only[toD,ajH,ajO];simp[akB,S];exact hl
 unfold v9;rw[ajz ⟨ok a ha,ok b hb⟩]
 have e:ajU (Vr h (.str a)) (Vr h (.str b))=decide (a=b):=by
  show ajU (toD (.str a)) (toD (.str b))=_;simp only[toD,ajU]
  by_cases q:a=b
  .subst q;simp
  .have:¬ S a=S b:=fun z=>q (Bj z);simp[q,this]
 rw[e]
def tA{xs:List α}{i:Int}(d:α)(h0:0<=i)(h1:i<(xs.length:Int)):Sy xs i=some (xs.getD i.toNat d):=by refine eQ h0 ?_;rw[aeG,aej ⋯];rfl
def oq{xs:List α}{n:Nat}{d:α}(h:n<xs.length):xs.getD n d∈xs:=by rw[aeG,aej h];exact afh h
theorem ms:∀ls:Ya,iK [] ls=ls.flatten
 |[]=>rfl
 |[x]=>by simp[iK]
 |x::y::r=>by show x++ []++iK [] (y::r)=_;rw[ms (y::r),aep];rfl
def nR{sep:Y1}{q:PV}(e:Yw h q=some (ls.map PV.str))(hz:(ls.map (fun l=>l.length)).sum+ls.length * sep.length<=16777216):eJ (.str sep) [q] h=.ok (.str (iK sep ls)) h:=by unfold eJ;simp only[e,BB,hz,ajA]
def GO(hz:(ls.map (fun l=>l.length)).sum<=16777216):eJ (.str []) [.lst (ls.map PV.str)] h=.ok (.str ls.flatten) h:=by rw[nR (ls:=ls) rfl (by simpa using hz),ms]
theorem yu(xs:Y2)(r:Y3)(p:PV):aZ (.ref 0) [p] (.lst xs::r)=if xs.length<ajx then .ok .non (.lst (xs++ [p])::r)else .bad:=rfl
theorem mX(xs:Y2)(r:Y3):cI (.lst xs::r) (.ref 0)=true:=rfl
def db(a b:Int)(h:Y3):v9 (.int a) (.int b) h=.ok (.bl (decide (a=b))) h:=by
 have ok:∀l:Int,Vx h (.int l)=true:=fun l=>by unfold Vx Vr;simp[toD,ajH,ajO]
 unfold v9;rw[ajz ⟨ok a,ok b⟩]
 have e:ajU (Vr h (.int a)) (Vr h (.int b))=decide (a=b):=by
  show ajU (toD (.int a)) (toD (.int b))=_;simp only[toD,ajU]
  by_cases q:a=b<;>simp[q]
 rw[e]
def gi(a b:Y1)(h:Y3)(ha:∀c∈a,c<1114112)(hb:∀c∈b,c<1114112):Tv (.str a) (.str b) h=.ok (.bl (!decide (a=b))) h:=by
 have e:=iQ a b h ha hb;unfold v9 at e;unfold Tv
 split at e
 .rename_i hc;rw[ajz hc];injection e with e1 e2
  injection e1 with e1
  rw[e1]
 .cases e
theorem CO(f:α->Y1)(n:Nat)(h:∀x,(f x).length<=n)(l:List α):((l.map f).map (fun l=>l.length)).sum<=l.length * n:=by
 induction l with
 |nil=>simp
 |cons a r ih=>
  rw[aeA,aeA,ahp,aeh,agz];have:=h a
  lia
variable{m:Nat}{raw b_:Y1}
section
open PySem.NumText (digitsVal AllDigits)
def kB{l:Y1}(h:Y3)(hl:∀c∈l,c<1114112):Vx h (.str l)=true:=by unfold Vx Vr;simp only[toD,ajH,ajO];simp[akB,S];exact hl
def wu(a b:Y1)(ha:∀c∈a,c<1114112)(hb:∀c∈b,c<1114112):ajU (toD (.str a)) (toD (.str b))=decide (a=b):=by
 have:=iQ a b [] ha hb;unfold v9 at this;rw[ajz ⟨kB [] ha,kB [] hb⟩]at this;injection this with this
 injection this
theorem wM:∀{ls:Ya},(∀l∈ls,∀c∈l,c<1114112)->(ls.map PV.str).all (Vx [])=true
 |[],_=>rfl
 |l::r,h=>by rw[aeA,afr,kB [] (h l (by simp)),wM fun z hz=>h z (aen _ hz)];rfl
section
variable(ρ:Ev)(h:Y3)
theorem QG(l:List (PK×PV)):bS [.dct l] h=.ok (.int l.length) h:=rfl
theorem OT(i j:Int):aE (.int i) (.int j) h=.ok (.int (i+j)) h:=rfl
theorem OS(a b:Y1):aE (.str a) (.str b) h=if a.length+b.length<=ajx then .ok (.str (a++b)) h else .bad:=rfl
theorem iL{p:PV}(hp:p.pure=true):dK h p=some (p,h):=by cases p<;>first|(simp[PV.pure]at hp;done)|simp[dK,hp]
theorem ar{p:PV}(hp:p.pure=true):aA h p=p:=by cases p<;>first|(simp[PV.pure]at hp;done)|rfl
end
section
variable{ρ:Ev}
theorem QZ(n:Nat)(gs:Zg)(ps:Y2):YF n gs (.tup ps) ρ=if ps.length=n then gs ps ρ else none:=rfl
theorem Rn:lQ [] ρ=some ρ:=rfl
theorem bC(l:Y1)(lo hi:Zp):rN (.str l) lo hi h=if l.length<=ajx then .ok (.str (cut l lo hi)) h else .bad:=rfl
theorem Kr(i j:Int):yW [.int i,.int j] h=.ok (.int (if j>i then j else i)) h:=rfl
end
section
variable(ρ:Ev)(h:Y3)(a K xa:PV)(b:Ev)(c d e f g i j k l m n o p q r s t u v y:Option PV)(w:Nat)(x I O:Ex)(z A:Sx)(B:PV->Y3->Res PV)(C:Y2->Y3->Res PV)(D:Ax)(E:Y2->Out)(G:Y2->Res PV)(H N:PV->PV->Y3->Res PV)(J:Y2)(L:Bool)(M W:Tx)(P Q:Ox)(R:PV->Zp->Zp->Y3->Res PV)(S:Zp)(T:Int)(U:Y3->PV->Bool)(V:PV->Y2->Y3->Res PV)(X:Y1)(Y:Gx)(a_:PV->PV->PV->Ev->Y3->SR)(xb:Zg)
theorem kv0:ac 0 (some a::b) h=.ok (aA h a) h:=rfl
theorem kv1:ac 1 (c::some a::b) h=.ok (aA h a) h:=rfl
theorem kv2:ac 2 (c::d::some a::b) h=.ok (aA h a) h:=rfl
theorem kv3:ac 3 (c::d::e::some a::b) h=.ok (aA h a) h:=rfl
theorem kv4:ac 4 (c::d::e::f::some a::b) h=.ok (aA h a) h:=rfl
theorem kv5:ac 5 (c::d::e::f::g::some a::b) h=.ok (aA h a) h:=rfl
theorem kv6:ac 6 (c::d::e::f::g::i::some a::b) h=.ok (aA h a) h:=rfl
theorem kv7:ac 7 (c::d::e::f::g::i::j::some a::b) h=.ok (aA h a) h:=rfl
theorem kv8:ac 8 (c::d::e::f::g::i::j::k::some a::b) h=.ok (aA h a) h:=rfl
theorem kv9:ac 9 (c::d::e::f::g::i::j::k::l::some a::b) h=.ok (aA h a) h:=rfl
theorem Rf:ac 10 (c::d::e::f::g::i::j::k::l::m::some a::b) h=.ok (aA h a) h:=rfl
theorem Re:ac 11 (c::d::e::f::g::i::j::k::l::m::n::some a::b) h=.ok (aA h a) h:=rfl
theorem Rd:ac 12 (c::d::e::f::g::i::j::k::l::m::n::o::some a::b) h=.ok (aA h a) h:=rfl
theorem Rc:ac 13 (c::d::e::f::g::i::j::k::l::m::n::o::p::some a::b) h=.ok (aA h a) h:=rfl
def Yo(i:Nat)(ρ:Ev)(r:Res PV):SR:=ey r fun v h1=>.nx (ρ.set i (some v)) h1
theorem OE:aG w x ρ h=Yo w ρ (x ρ h):=rfl
theorem ks0:Yo 0 (c::b) (.ok a h)=.nx (some a::b) h:=rfl
theorem ks1:Yo 1 (c::d::b) (.ok a h)=.nx (c::some a::b) h:=rfl
theorem ks2:Yo 2 (c::d::e::b) (.ok a h)=.nx (c::d::some a::b) h:=rfl
theorem ks3:Yo 3 (c::d::e::f::b) (.ok a h)=.nx (c::d::e::some a::b) h:=rfl
theorem ks4:Yo 4 (c::d::e::f::g::b) (.ok a h)=.nx (c::d::e::f::some a::b) h:=rfl
theorem ks5:Yo 5 (c::d::e::f::g::i::b) (.ok a h)=.nx (c::d::e::f::g::some a::b) h:=rfl
theorem ks6:Yo 6 (c::d::e::f::g::i::j::b) (.ok a h)=.nx (c::d::e::f::g::i::some a::b) h:=rfl
theorem ks7:Yo 7 (c::d::e::f::g::i::j::k::b) (.ok a h)=.nx (c::d::e::f::g::i::j::some a::b) h:=rfl
theorem ks8:Yo 8 (c::d::e::f::g::i::j::k::l::b) (.ok a h)=.nx (c::d::e::f::g::i::j::k::some a::b) h:=rfl
theorem ks9:Yo 9 (c::d::e::f::g::i::j::k::l::m::b) (.ok a h)=.nx (c::d::e::f::g::i::j::k::l::some a::b) h:=rfl
theorem Ri:Yo 10 (c::d::e::f::g::i::j::k::l::m::n::b) (.ok a h)=.nx (c::d::e::f::g::i::j::k::l::m::some a::b) h:=rfl
theorem Rh:Yo 11 (c::d::e::f::g::i::j::k::l::m::n::o::b) (.ok a h)=.nx (c::d::e::f::g::i::j::k::l::m::n::some a::b) h:=rfl
theorem Rg:Yo 12 (c::d::e::f::g::i::j::k::l::m::n::o::p::b) (.ok a h)=.nx (c::d::e::f::g::i::j::k::l::m::n::o::some a::b) h:=rfl
theorem PA:Yo w ρ (.exc a h)=.exc a h:=rfl
def Al(g:Sx)(r:SR):SR:=match r with
 |.nx ρ1 h1=>g ρ1 h1
 |.rt v h1=>.rt v h1
 |.bk ρ1 h1=>.bk ρ1 h1
 |.ct ρ1 h1=>.ct ρ1 h1
 |.exc v h1=>.exc v h1
 |.bad=>.bad
theorem OF:aw z A ρ h=Al A (z ρ h):=rfl
theorem QB:Al z (.nx ρ h)=z ρ h:=rfl
theorem QA:Al z (.rt a h)=.rt a h:=rfl
theorem Pb:Al z (.exc a h)=.exc a h:=rfl
def kg{α β:Type}(f:α->Y3->Res β)(r:Res α):Res β:=r.bind f
theorem QN{β:Type}(f:α->Y3->Res β)(a:α):kg f (.ok a h)=f a h:=rfl
theorem QM:c1 B x ρ h=kg B (x ρ h):=rfl
theorem Nc:cN C D ρ h=kg C (D ρ h):=rfl
theorem OJ:aJ E D ρ h=kg (aR E) (D ρ h):=rfl
theorem Nb:bn C D ρ h=kg (z_ C) (D ρ h):=rfl
theorem Hv:iO x ρ h=kg jA (x ρ h):=rfl
theorem Nf:vf D ρ h=kg ET (D ρ h):=rfl
theorem QJ:Yz x ρ h=kg Zt (x ρ h):=rfl
def k2(g:PV->PV->Y3->Res PV)(b:Ex)(ρ:Ev)(r:Res PV):Res PV:=r.bind fun x h1=>kg (g x) (b ρ h1)
theorem QL:c2 H x I ρ h=k2 H I ρ (x ρ h):=rfl
theorem QW:k2 H x ρ (.ok a h)=kg (H a) (x ρ h):=rfl
def kC2(x:PV)(r:Res Y2):Res Y2:=r.bind fun xs h2=>.ok (x::xs) h2
def kC(r:Ax)(ρ:Ev)(x:Res PV):Res Y2:=x.bind fun x h1=>kC2 x (r ρ h1)
theorem OI:aa x D ρ h=kC D ρ (x ρ h):=rfl
theorem QU:kC D ρ (.ok a h)=kC2 a (D ρ h):=rfl
theorem PY:kC2 a (.ok J h)=.ok (a::J) h:=rfl
def Nj(g:Ex)(ρ:Ev)(r:Res PV):Res PV:=r.bind fun p h1=>match p with|.bl b=>if b=true then g ρ h1 else .ok (.bl ajt) h1|_=>.bad
theorem Pz:jT x I ρ h=Nj I ρ (x ρ h):=rfl
theorem Qa:Nj x ρ (.ok (.bl L) h)=if L=true then x ρ h else .ok (.bl ajt) h:=rfl
def Ni(r:Res PV):Res PV:=r.bind fun p h1=>match p with|.bl b=>.ok (.bl (!b)) h1|_=>.bad
theorem Pw:Lq x ρ h=Ni (x ρ h):=rfl
theorem PJ:Ni (.ok (.bl L) h)=.ok (.bl (!L)) h:=rfl
def kIe(f g:Ex)(ρ:Ev)(r:Res Bool):Res PV:=r.bind fun b h1=>if b=true then f ρ h1 else g ρ h1
theorem Px:gG M x I ρ h=kIe x I ρ (M ρ h):=rfl
theorem PQ:kIe x I ρ (.ok L h)=if L=true then x ρ h else I ρ h:=rfl
def kH3(g':PV->PV->Y3->Res PV)(c:Ex)(ρ:Ev)(y:PV)(r:Res PV):Res PV:=r.bind fun z h3=>match z with|.bl ajt=>.ok (.bl ajt) h3|.bl true=>kg (g' y) (c ρ h3)|_=>.bad
def kH2(g g':PV->PV->Y3->Res PV)(c:Ex)(ρ:Ev)(x:PV)(r:Res PV):Res PV:=r.bind fun y h2=>kH3 g' c ρ y (g x y h2)
def kH1(g g':PV->PV->Y3->Res PV)(b c:Ex)(ρ:Ev)(r:Res PV):Res PV:=r.bind fun x h1=>kH2 g g' c ρ x (b ρ h1)
theorem Na:fD H N x I O ρ h=kH1 H N I O ρ (x ρ h):=rfl
theorem PT:kH1 H N x I ρ (.ok a h)=kH2 H N I ρ a (x ρ h):=rfl
theorem PS:kH2 H N x ρ a (.ok K h)=kH3 N x ρ K (H a K h):=rfl
theorem QS:kH3 H x ρ a (.ok (.bl L) h)=if L=true then kg (H a) (x ρ h)else .ok (.bl ajt) h:=by cases L<;>rfl
def kL2(f:PV->Zp->Zp->Y3->Res PV)(hi:Ox)(ρ:Ev)(p:PV)(r:Res Zp):Res PV:=r.bind fun l h2=>kg (f p l) (hi ρ h2)
def kL1(f:PV->Zp->Zp->Y3->Res PV)(lo hi:Ox)(ρ:Ev)(r:Res PV):Res PV:=r.bind fun p h1=>kL2 f hi ρ p (lo ρ h1)
theorem Pt:cL x P Q ρ h=kL1 rN P Q ρ (x ρ h):=rfl
theorem PM:kL1 R P Q ρ (.ok a h)=kL2 R Q ρ a (P ρ h):=rfl
theorem PL:kL2 R P ρ a (.ok S h)=kg (R a S) (P ρ h):=rfl
def kO(r:Res PV):Res Zp:=r.bind fun p h1=>match p with|.int i=>.ok (some i) h1|_=>.bad
theorem MZ:aS x ρ h=kO (x ρ h):=rfl
theorem Rk:kO (.ok (.int T) h)=.ok (some T) h:=rfl
def kM(recv:Y3->PV->Bool)(g:PV->Y2->Y3->Res PV)(as:Ax)(ρ:Ev)(r:Res PV):Res PV:=r.bind fun p h1=>if recv h1 p=true then kg (g p) (as ρ h1)else .bad
theorem QK:cM U V x D ρ h=kM U V D ρ (x ρ h):=rfl
theorem QQ:kM U V D ρ (.ok a h)=if U h a=true then kg (V a) (D ρ h)else .bad:=rfl
def kTo(h:Y3)(o:Option Bool):Res Bool:=match o with|some b=>.ok b h|none=>.bad
def kTr(r:Res PV):Res Bool:=r.bind fun p h1=>kTo h1 (oH h1 p)
theorem Oy:aU x ρ h=kTr (x ρ h):=rfl
theorem PF:kTr (.ok a h)=kTo h (oH h a):=rfl
theorem QO:kTo h (some L)=.ok L h:=rfl
def kCm(r:Res PV):Res Bool:=r.bind fun p h1=>match p with|.bl b=>.ok b h1|_=>.bad
theorem OA:au x ρ h=kCm (x ρ h):=rfl
theorem QT:kCm (.ok (.bl L) h)=.ok L h:=rfl
def kNt(r:Res Bool):Res Bool:=r.bind fun b h1=>.ok (!b) h1
theorem Oz:eG M ρ h=kNt (M ρ h):=rfl
theorem PI:kNt (.ok L h)=.ok (!L) h:=rfl
def kTa(g:Tx)(ρ:Ev)(r:Res Bool):Res Bool:=r.bind fun b h1=>if b=true then g ρ h1 else .ok ajt h1
theorem OB:cg M W ρ h=kTa W ρ (M ρ h):=rfl
theorem PG:kTa M ρ (.ok L h)=if L=true then M ρ h else .ok ajt h:=rfl
def kTu(g:Tx)(ρ:Ev)(r:Res Bool):Res Bool:=r.bind fun b h1=>if b=true then .ok true h1 else g ρ h1
theorem Ps:jY M W ρ h=kTu W ρ (M ρ h):=rfl
theorem PE:kTu M ρ (.ok L h)=if L=true then .ok true h else M ρ h:=rfl
def kR1(ps:Y2)(h1:Y3):Res Y2:=match ps with|[.int j]=>if VJ 4611686018427387904 j=true then .ok ((ajy j.toNat).map fun i=>PV.int (0+(i:Nat))) h1 else .bad|_=>.bad
theorem LG:cw D ρ h=kg kR1 (D ρ h):=rfl
theorem QP(j:Int):kR1 [.int j] h=if VJ 4611686018427387904 j=true then .ok ((ajy j.toNat).map fun i=>PV.int (0+(i:Nat))) h else .bad:=rfl
def kCo(t_:Y1)(tt:Tx)(te:Ex)(ρ:Ev)(r:Res Y2):Res Y2:=r.bind fun xs h1=>if xs.length<ajx then(cJ tt te (cU t_ ρ) xs h1).calm else .bad
theorem Ey:cy X D M x ρ h=kCo X M x ρ (D ρ h):=rfl
theorem Kv:kCo X M x ρ (.ok J h)=if J.length<ajx then(cJ M x (cU X ρ) J h).calm else .bad:=rfl
def kCp(t_:Y1)(tt:Tx)(te:Ex)(ρ:Ev)(r:Res Y2):Res Y2:=r.bind fun xs h1=>if xs.length<ajx then(jQ tt te (cU t_ ρ) xs h1).calm else .bad
theorem LH:tD X D M x ρ h=kCp X M x ρ (D ρ h):=rfl
theorem PX:kCp X M x ρ (.ok J h)=if J.length<ajx then(jQ M x (cU X ρ) J h).calm else .bad:=rfl
def kRt(r:Res PV):SR:=ey r fun v h1=>.rt v h1
theorem OG:aQ x ρ h=kRt (x ρ h):=rfl
theorem PH(v:PV):kRt (.ok v h)=.rt v h:=rfl
def kDr(ρ:Ev)(r:Res PV):SR:=ey r fun _ h1=>.nx ρ h1
theorem MY:cx x ρ h=kDr ρ (x ρ h):=rfl
theorem PW:kDr ρ (.ok a h)=.nx ρ h:=rfl
theorem OK:kDr ρ (.exc a h)=.exc a h:=rfl
def kIf(f g:Sx)(ρ:Ev)(r:Res Bool):SR:=Be r fun b h1=>if b=true then f ρ h1 else g ρ h1
theorem Pu:H6 M z A ρ h=kIf z A ρ (M ρ h):=rfl
theorem PP:kIf z A ρ (.ok L h)=if L=true then z ρ h else A ρ h:=rfl
def kFo(g:Gx)(body:Sx)(ρ:Ev)(r:Res Y2):SR:=IC r fun xs h1=>bc g body xs ρ h1
theorem OH:ik D Y z ρ h=kFo Y z ρ (D ρ h):=rfl
theorem PU:kFo Y z ρ (.ok J h)=bc Y z J ρ h:=rfl
def kX3(s:PV->PV->PV->Ev->Y3->SR)(ρ:Ev)(v o:PV)(r:Res PV):SR:=ey r fun i h3=>s v o i ρ h3
def kX2(s:PV->PV->PV->Ev->Y3->SR)(fi:Ex)(ρ:Ev)(v:PV)(r:Res PV):SR:=ey r fun o h2=>kX3 s ρ v o (fi ρ h2)
def kX1(s:PV->PV->PV->Ev->Y3->SR)(fo fi:Ex)(ρ:Ev)(r:Res PV):SR:=ey r fun v h1=>kX2 s fi ρ v (fo ρ h1)
theorem MX:jd x I O ρ h=kX1 lF x I ρ (O ρ h):=rfl
theorem OD:kb x I O ρ h=kX1 rj x I ρ (O ρ h):=rfl
theorem PD:kX1 a_ x I ρ (.ok a h)=kX2 a_ I ρ a (x ρ h):=rfl
theorem PC:kX2 a_ x ρ a (.ok K h)=kX3 a_ ρ a K (x ρ h):=rfl
theorem PB:kX3 a_ ρ a K (.ok xa h)=a_ a K xa ρ h:=rfl
def kAo(h:Y3)(o:Option Ev):SR:=match o with|some ρ1=>.nx ρ1 h|none=>.bad
def kAs(g:Gx)(ρ:Ev)(r:Res PV):SR:=ey r fun v h1=>kAo h1 (g v ρ)
theorem Py:yJ Y x ρ h=kAs Y ρ (x ρ h):=rfl
theorem PZ:kAs Y ρ (.ok a h)=kAo h (Y a ρ):=rfl
theorem QV:kAo h (some ρ)=.nx ρ h:=rfl
def kG(gs:Zg)(r:Y2)(o:Option Ev):Option Ev:=match o with|some ρ1=>gs r ρ1|none=>none
theorem Rj:eh Y xb (a::J) ρ=kG xb J (Y a ρ):=rfl
theorem Rl:kG xb J (some ρ)=xb J ρ:=rfl
def kIx(h:Y3)(o:Option PV):Res PV:=match o with|some v=>.ok (aA h v) h|none=>.bad
theorem QR:kIx h (some a)=.ok (aA h a) h:=rfl
theorem QH:j5 (.tup J) (.int T) h=kIx h (Sy J T):=rfl
theorem QI:j5 (.lst J) (.int T) h=kIx h (Sy J T):=rfl
end
section
variable(ρ:Ev)(h:Y3)(a b:PV)(w j:Nat)(x y:Ex)(z g:Sx)(C:Y2->Y3->Res PV)(D:Ax)(J:Y2)(o:Option (Nat×Y2))(f:Nat->Bool)(i:Nat)
def nMa(C:Y2->Y3->Res PV)(p:PV)(r:Res Y2):Res PV:=r.bind fun ps h2=>C (p::ps) h2
def nMo(w:Nat)(C:Y2->Y3->Res PV)(D:Ax)(ρ:Ev)(r:Res PV):Res PV:=r.bind fun p h1=>if(rQ w h1 p).isSome=true then nMa C p (D ρ h1)else .bad
theorem Oq:bJ w C x D ρ h=nMo w C D ρ (x ρ h):=by
 unfold bJ nMo
 cases x ρ h with
 |ok p h1=>
  show(match rQ w h1 p with|some _=>_|none=>_)=_
  cases q:rQ w h1 p with
  |none=>simp[Res.bind,q]
  |some _=>simp[Res.bind,q,nMa]
 |exc _ _=>rfl
 |bad=>rfl
theorem Pl:nMo w C D ρ (.ok a h)=if(rQ w h a).isSome=true then nMa C a (D ρ h)else .bad:=rfl
theorem Pm:nMa C a (.ok J h)=C (a::J) h:=rfl
def Kn(w j:Nat)(ρ:Ev)(v:PV)(r:Res PV):SR:=ey r fun o h2=>CX w j v o ρ h2
def MP(w j:Nat)(fo:Ex)(ρ:Ev)(r:Res PV):SR:=ey r fun v h1=>Kn w j ρ v (fo ρ h1)
theorem Op:ud w j x y ρ h=MP w j x ρ (y ρ h):=rfl
theorem Ov:MP w j x ρ (.ok a h)=Kn w j ρ a (x ρ h):=rfl
theorem Ou:Kn w j ρ a (.ok b h)=CX w j a b ρ h:=rfl
end
end
section
open PySem.NumText (digitsVal AllDigits)
section
variable(ρ:Ev)(h:Y3)
def dig(n:Nat):Y1:=(akp 10 n).map Char.toNat
def jy(mark raw b_:Y1)(c:Nat):Y1:=match aL [c] raw 0 with
 |some i=>mark++ [b_.getD i 0]
 |none=> [c]
def ig(mark raw b_ l:Y1):Y1:=(l.map (jy mark raw b_)).flatten
theorem wt(g:Gx)(body:Sx)(p:PV)(r:Y2)(ρ:Ev)(h:Y3):bc g body (p::r) ρ h=match g p ρ with
  |some ρ1=>(match body ρ1 h with
   |.nx ρ2 h2=>bc g body r ρ2 h2
   |.ct ρ2 h2=>bc g body r ρ2 h2
   |.bk ρ2 h2=>.nx ρ2 h2
   |.rt v h2=>.rt v h2
   |.exc v h2=>.exc v h2
   |.bad=>.bad)
  |none=>.bad:=rfl
@[simp] theorem Fy(a b:Y2):yY (.tup a) (.tup b) h=if a.isEmpty=ajt/\a.length+b.length<=ajx then .ok (.tup (a++b)) h else .bad:=rfl
theorem wi{l:Y2}(q:ai l=true):dK h (.tup l)=some (.tup l,h):=by simp[dK,PV.pure,q]
theorem vS{r:Y3}(hz:(ls.map (fun l=>l.length)).sum<=16777216):eJ (.str []) [.ref 0] (.lst (ls.map PV.str)::r)=.ok (.str ls.flatten) (.lst (ls.map PV.str)::r):=by rw[nR (ls:=ls) rfl (by simpa using hz),ms]
theorem AU(n:Nat):∀c∈dig n,48<=c/\c<=57:=by intro c hc;obtain⟨ch,h1,rfl⟩:=aeX.mp hc;exact PyProof.Rows.digit_range (Nat.isDigit_of_mem_toDigits ⋯ ⋯ h1)
theorem Ah(i:Int):kx i=if 0<=i then dig i.toNat else 45::dig (-i).toNat:=by
 unfold kx dig;rw[PyProof.Rows.signs_ofString,Int.toString_eq_repr,Int.repr_eq_if]
 split
 .rw[ai5]
 .rw[String.toList_append,aeP,ai5];rfl
theorem AO(l:Y1)(q:PV):pX (.str l) q h=v9 (.str l) q h:=rfl
end
end
end Z
open PySem Z
local macro_rules | `(tactic| simp $c:optConfig $[$d:discharger]? [EV,$xs,*] $[$l:location]?)=>do let z:=fun(s:String)=>s.splitOn.map fun n=>`Z++n.toName;let r:=fun(s:String)=>s.splitOn.map (·.toName);let a<-((z "Res.K9 OR Ro Qk NI OQ OP LJ NJ EQ Qr Ra Qo Qp Qn Qq Qt Qs iW OY Ko QC QD Qv Rm QX MT QF IA Pp Ow OU Pg Ot QY Rb Qz Om Oo HN OL ON Qj HF HE OO Nx LI MM Qy Kw Kx IF KD KG II KL KN IK Ky Kz IG KA KC IH KH KJ IJ szl QG OT OS QZ Rn Kr kv0 kv1 kv2 kv3 kv4 kv5 kv6 kv7 kv8 kv9 Rf Re Rd Rc OE ks0 ks1 ks2 ks3 ks4 ks5 ks6 ks7 ks8 ks9 Ri Rh Rg PA OF QB QA Pb QN QM Nc OJ Nb Hv Nf QJ QL QW OI QU PY Pz Qa Pw PJ Px PQ Na PT PS QS Pt PM PL MZ Rk QK QQ Oy PF QO OA QT Oz PI OB PG Ps PE LG QP Ey Kv LH PX OG PH MY PW OK Pu PP OH PU MX OD PD PC PB Py PZ QV Rj Rl QR QH QI Oq Pl Pm Op Ov Ou")++(r "List.getElem?_cons_zero List.getElem?_cons_succ List.set_cons_zero List.set_cons_succ List.map_cons List.map_nil List.append_nil List.nil_append List.cons_append if_true if_false reduceIte Bool.not_true Bool.not_false Bool.true_and Bool.false_and Bool.and_true Bool.and_false Bool.true_or Bool.false_or Bool.or_true Bool.or_false eq_self_iff_true true_and and_true Bool.false_eq_true reduceCtorEq List.length_cons List.length_nil List.replicate Nat.sub_self Nat.zero_add Option.isSome_some Nat.reduceAdd Nat.reduceLeDiff Int.reduceLT Int.reduceLE decide_true decide_false Int.reduceNeg Int.reducePow Nat.reducePow Int.reduceAdd Int.reduceMul Int.reduceSub Nat.reduceSub and_self Nat.reduceMul Nat.reduceEqDiff")).toArray.mapM fun n=>`(Lean.Parser.Tactic.simpLemma| $(Lean.mkIdent n):term);`(tactic| simp $c:optConfig $[$d:discharger]? only [$a,*,$xs,*] $[$l:location]?)
namespace Xb
open PySem Z
variable{K d i m n:Nat}{a b b_ ds l raw t x:Y1}{body:Sx}{f ls ss:Ya}{fn:Y2->Y3->Res PV}{h h1 h2:Y3}{o:PO}{p v:PV}{ps xs:Y2}{α:Type}{ρ ρ1:Ev}
noncomputable def sg(l:Y1):Bool:=l.all fun c=>decide (c<1114112)
def Mg(h:sg l=true):∀c∈l,c<1114112:=fun c hc=>ajG (aeM.mp h c hc)
def sgs(l:Ya):Bool:=l.all sg
theorem qc:oj .non=true:=rfl
theorem tM(i:Int):oj (.int i)=ajt:=rfl
theorem Qb(l:Y2):oj (.tup l)=ajt:=rfl
theorem AL:∀{l:Y2}(h:Y3),ai l=true->Ws l h=some (l,h)
 |[],_,_=>rfl
 |p::r,h,e=>by rw[ai,ael]at e;rw[Ws,iL h e.1];dsimp only;rw[AL h e.2]
def aH{fn:Y2->Out}(h:Y3)(hp:ai ps=true)(e:fn ps=.ok v):aR fn ps h=.ok v h:=by rw[bB,AL h hp];dsimp only;rw[e]
def at0(a:α)(l:List α):Sy (a::l) 0=some a:=eQ ⋯ rfl
def Xp(a b:α)(l:List α):Sy (a::b::l) 1=some b:=eQ ⋯ rfl
def at2(a b c:α)(l:List α):Sy (a::b::c::l) 2=some c:=eQ ⋯ rfl
theorem bl2(k:Nat):ajW 2 (dl (k+1))=true:=rfl
def eK(h:Y3)(p:v.pure=true):aP v h=.ok v:=by unfold aP;rw[iL h p]
noncomputable def wW:Y1:=[119,111,114,100]
noncomputable def wN:Y1:=[110,117,109,98,101,114]
theorem um(C:Fn->Y2->Out)(t:PV)(al:Y1)(h:Y3):∀(l:Y1)(o:Option PV),∃o',bc (P0 2) (fM C) (l.map fun c=>PV.str [c]) [t,PV.str al,o] h=if l.all al.contains=true then .nx [t,PV.str al,o'] h else .rt (.bl ajt) h
 |[],o=>⟨o,rfl⟩
 |c::r,o=>by
  obtain⟨o',e⟩:=um C t al h r (some (.str [c]));refine⟨o',?_⟩;rw[aeA,wt,afr]
  cases hc:al.contains c with
  |true=>simp[EV,fM,cO,hc];simpa only[fM,ahr]using e
  |false=>simp[EV,fM,cO,hc]
theorem Hk(k:Nat)(l al:Y1):F (k+1) .Rv [.str l,.str al]=.ok (.bl (l.all al.contains)):=by
 obtain⟨o',e⟩:=um (F k) (.str l) al [] l none;show ag (iZ (F k)) 2 3 [.str l,.str al]=_
 cases q:l.all al.contains with
 |true=>simp[EV,ag,iZ,e,q,aP]
 |false=>simp[EV,ag,iZ,e,q,aP]
theorem fW(k:Nat)(l:Y1)(n:Int)(hl:l.length<=16777216):F (k+2) .G5 [.str l,.int n]=.ok (.bl (decide ((l.length:Int)<=n)&&l.all aI.contains)):=by
 have e:=Hk k l aI;show ag (cW (F (k+1))) 2 2 [.str l,.int n]=_
 cases q:decide ((l.length:Int)<=n)with
 |true=>simp[EV,ag,cW,bB,hl,q,e,aP]
 |false=>simp[EV,ag,cW,bB,hl,q,e,aP]
def Ga{A B:Y1}(h:∀c∈l,c∈A)(s:∀c∈A,c∈B):l.all B.contains=true:=by rw[aeM];intro c hc;simpa using s c (h c hc)
def zN{A:Y1}(h:∀c∈l,c∈A):l.all A.contains=true:=Ga h fun _ h=>h
def dI:∀c∈aI,c<1114112:=by decide+kernel
def Bi:∀c∈aM,c∈aI:=by decide+kernel
def Ab(k:Nat)(l:Y1)(n:Nat)(ni:Int)(hi:ni=(n:Int))(hl:l.length<=n)(hn:n<=4000)(h:∀c∈l,c∈aI):F (k+2) .G5 [.str l,.int ni]=.ok (.bl true):=by subst hi;rw[fW k l n ⋯,ajw ⋯,zN h];rfl
def Br(k:Nat)(l:Y1)(h1:1<=l.length)(h2:l.length<=40)(h:∀c∈l,c∈aM):F (k+3) .M9 [.ins 0 [],.str l]=.ok (.bl true):=by
 show ag (bg (F (k+2))) 2 2 [.ins 0 [],.str l]=_;have e1:=Ab k l 40 40 rfl h2 ⋯ (fun c hc=>Bi c (h c hc));have e2:F (k+2) .Rv [.str l,.str aM]=.ok (.bl true):=by rw[Hk (k+1)];rw[zN h]
 have e3:Tv (.str l) (.str []) []=.ok (.bl true) []:=by
  rw[gi _ _ _ (fun c hc=>dI c (Bi c (h c hc))) (by simp)];have:l≠ []:=by intro z;subst z;simp at h1
  rw[ajv this];rfl
 simp[EV,ag,bg,bB,e1,e2,e3,aP]
def xP(k:Nat)(v:Int)(h1: -1000000000000000000000000000000<v)(h2:v<1000000000000000000000000000000):F (k+2) .G_ [.ins 1 [],.int v]=.ok (.bl true):=by
 show ag (aN (F (k+1))) 2 2 [.ins 1 [],.int v]=_
 have e:F (k+1) .Rp [.int v]=.ok (.bl true):=by show ag (dW (F k)) 1 1 [.int v]=_;have p1:decide (akC 10<18446744073709551616)=true:=rfl;have p2:decide ((if v<0 then -v else v)<1000000000000000000000000000000)=true:=ajw (by split<;>lia);simp[EV,ag,dW,aP,p1,p2,Int.reduceToNat]
 simp[EV,ag,aN,bB,e,aP]
def HV(a b:Y1)(r:Bool)(ha:∀c∈a,c<1114112)(hb:∀c∈b,c<1114112)(hr:decide (a=b)=r)(h:Y3):v9 (.str a) (.str b) h=.ok (.bl r) h:=by rw[iQ a b h ha hb,hr]
def LU(k:Nat):F (k+1) .SN [.str wW]=.ok (.ins 0 []):=by show ag (fS (F k)) 1 1 [.str wW]=_;have e:∀h,pX (.str wW) (.str [119,111,114,100]) h=.ok (.bl true) h:=fun h=>(AO _ _ _).trans (HV _ _ _ ⋯ ⋯ ⋯ h);simp[EV,ag,fS,lZ,e,aP]
def LX(k:Nat):F (k+1) .SN [.str wN]=.ok (.ins 1 []):=by show ag (fS (F k)) 1 1 [.str wN]=_;have e1:∀h,pX (.str wN) (.str [119,111,114,100]) h=.ok (.bl ajt) h:=fun h=>(AO _ _ _).trans (HV _ _ _ ⋯ ⋯ ⋯ h);have e2:∀h,pX (.str wN) (.str [110,117,109,98,101,114]) h=.ok (.bl true) h:=fun h=>(AO _ _ _).trans (HV _ _ _ ⋯ ⋯ ⋯ h);simp[EV,ag,fS,lZ,e1,e2,aP]
def mq{v:Int}(h1: -1000000000000000000000000000000<v)(h2:v<1000000000000000000000000000000):v.natAbs.log2<1920:=by
 have:v.natAbs<2 ^ 100:=by
  have:(1000000000000000000000000000000:Nat)<2 ^ 100:=by decide
  lia
 by_cases q:v.natAbs=0
 .rw[q];decide
 .have:=(Nat.log2_lt q).mpr this
  lia
abbrev QE:Y1->Y1:=ig [94] [94,34,10] [94,113,110]
abbrev PEs:Y1->Y1:=ig [126] [126,60,62,38,124,10] [126,108,103,97,98,110]
abbrev LE:Y1->Y1:=ig [126] [126,10] [126,110]
noncomputable def wQ:Y1:=[113,117,111,116,101,100]
noncomputable def wP:Y1:=[112,108,97,105,110]
noncomputable def wL:Y1:=[108,105,110,101]
def YM(a b:Y1)(r:Bool)(e:(a.all (fun c=>decide (c<1114112))&&b.all (fun c=>decide (c<1114112))&&(decide (a=b)==r))=true)(h:Y3):pX (.str a) (.str b) h=.ok (.bl r) h:=by simp only[ael,aeM,ajE,ajS]at e;exact(AO _ _ _).trans (HV a b r e.1.1 e.1.2 e.2 h)
def LV(k:Nat):F (k+1) .SN [.str wQ]=.ok (.ins 2 []):=by show ag (fS (F k)) 1 1 [.str wQ]=_;have e1:=YM wQ [119,111,114,100] ajt ⋯;have e2:=YM wQ [110,117,109,98,101,114] ajt ⋯;have e3:=YM wQ [113,117,111,116,101,100] true ⋯;simp[EV,ag,fS,lZ,e1,e2,e3,aP]
def LW(k:Nat):F (k+1) .SN [.str wP]=.ok (.ins 3 []):=by show ag (fS (F k)) 1 1 [.str wP]=_;have e1:=YM wP [119,111,114,100] ajt ⋯;have e2:=YM wP [110,117,109,98,101,114] ajt ⋯;have e3:=YM wP [113,117,111,116,101,100] ajt ⋯;have e4:=YM wP [112,108,97,105,110] true ⋯;simp[EV,ag,fS,lZ,e1,e2,e3,e4,aP]
def LY(k:Nat):F (k+1) .SN [.str wL]=.ok (.ins 4 []):=by show ag (fS (F k)) 1 1 [.str wL]=_;have e1:=YM wL [119,111,114,100] ajt ⋯;have e2:=YM wL [110,117,109,98,101,114] ajt ⋯;have e3:=YM wL [113,117,111,116,101,100] ajt ⋯;have e4:=YM wL [112,108,97,105,110] ajt ⋯;have e5:=YM wL [108,105,110,101] true ⋯;simp[EV,ag,fS,lZ,e1,e2,e3,e4,e5,aP]
def ca:Nat->Y1
 |0=>wW
 |1=>wN
 |2=>wQ
 |3=>wP
 |_=>wL
def zW(k i:Nat)(hi:i<5):F (k+1) .SN [.str (ca i)]=.ok (.ins i []):=by
 rcases(show i=0\/i=1\/i=2\/i=3\/i=4 by lia)with rfl|rfl|rfl|rfl|rfl
 .exact LU k
 .exact LX k
 .exact LV k
 .exact LW k
 .exact LY k
noncomputable def fZ:Nat->Fn
 |0=>.M9
 |1=>.G_
 |2=>.J7
 |3=>.N5
 |_=>.Q0
noncomputable def rd:Nat->Fn
 |0=>.C_
 |1=>.v8
 |2=>.v5
 |3=>.A_
 |_=>.G3
def NP(C:CC)(i:Nat)(hi:i<5):pb C i=some (C (fZ i)):=by rcases(show i=0\/i=1\/i=2\/i=3\/i=4 by lia)with rfl|rfl|rfl|rfl|rfl<;>rfl
def NO(C:CC)(i:Nat)(hi:i<5):iw C i=some (C (rd i)):=by rcases(show i=0\/i=1\/i=2\/i=3\/i=4 by lia)with rfl|rfl|rfl|rfl|rfl<;>rfl
def NQ(C:CC)(i:Nat)(hi:i<5):qK C i=some (C .j7):=by rcases(show i=0\/i=1\/i=2\/i=3\/i=4 by lia)with rfl|rfl|rfl|rfl|rfl<;>rfl
inductive Dv:PV->Prop
 |str (l:Y1) (h:l.length<=4000) (hc:∀c∈l,c<1114112):Dv (.str l)
 |int (i:Int):Dv (.int i)
 |bl (b:Bool):Dv (.bl b)
 |lst (xs:Y2) (p:ai xs=true):Dv (.lst xs)
 |dct (l:List (PK×PV)) (p:lI l=true):Dv (.dct l)
theorem Dv.pure{v:PV}(h:Dv v):v.pure=true:=by
 cases h with
 |str=>rfl
 |int=>rfl
 |bl=>rfl
 |lst xs p=>rw[PV.pure];exact p
 |dct l p=>rw[PV.pure];exact p
theorem vo(hv:Dv v)(n:Int):∃b:Bool,(∀k,F (k+2) .G5 [v,.int n]=.ok (.bl b))/\(b=true->∃l,v=.str l/\(l.length:Int)<=n/\∀c∈l,c∈aI):=by
 cases hv with
 |str l h hc=>refine⟨_,fun k=>fW k l n ⋯,fun e=>⟨l,rfl,?_⟩⟩;rw[ael,ajE,aeM]at e;exact⟨e.1,fun c hc=>by simpa using e.2 c hc⟩
 |int i=>refine⟨ajt,fun k=>?_,fun e=>by cases e⟩;show ag (cW (F (k+1))) 2 2 [.int i,.int n]=_;simp[EV,ag,cW,aP]
 |bl b=>refine⟨ajt,fun k=>?_,fun e=>by cases e⟩;show ag (cW (F (k+1))) 2 2 [.bl b,.int n]=_;simp[EV,ag,cW,aP]
 |lst xs p=>refine⟨ajt,fun k=>?_,fun e=>by cases e⟩;show ag (cW (F (k+1))) 2 2 [.lst xs,.int n]=_;simp[EV,ag,cW,aP]
 |dct l p=>refine⟨ajt,fun k=>?_,fun e=>by cases e⟩;show ag (cW (F (k+1))) 2 2 [.dct l,.int n]=_;simp[EV,ag,cW,aP]
def sI{c:Nat}(h:aL [c] raw 0=some i):i<raw.length:=by
 unfold aL at h;have h2:=List.find?_some h;have h1:=List.mem_of_find?_eq_some h;simp only[ael]at h2;have:=(afy.mp h2.2).length_le;simp only[aeh,aeJ,aeV]at this
 lia
theorem ER(C:Fn->Y2->Out)(t:PV)(mark raw b_:Y1)(hl:raw.length<=b_.length)(hz:b_.length<=1000)(hm:mark.length<=1000)(c:Nat)(o2:Option PV)(xs:Y2)(hx:xs.length<16777216):∃o2',
  iJ C [t,PV.str mark,PV.str raw,PV.str b_,PV.ref 0,PV.str [c],o2] [.lst xs]=.nx [t,PV.str mark,PV.str raw,PV.str b_,PV.ref 0,PV.str [c],o2'] [.lst (xs++ [.str (jy mark raw b_ c)])]:=by
 refine⟨some (.int (gh (aL [c] raw 0))),?_⟩;unfold jy
 cases q:aL [c] raw 0 with
 |none=>
  have d:decide ((-1:Int)<0)=true:=by decide
  simp[EV,iJ,q,gh,d,iW,yu,mX,hx]
 |some i=>
  have hi:=sI q;have d:decide ((i:Int)<0)=ajt:=ajv ⋯
  have e:Sy b_ (i:Int)=some (b_.getD i 0):=by have:=tA (xs:=b_) (i:=(i:Int)) 0 ⋯ ⋯;simpa using this
  have z1:b_.length<=16777216:=by lia
  have z2:mark.length+1<=16777216:=by lia
  simp[EV,iJ,q,gh,d,e,z1,z2,iW,yu,mX,hx]
theorem yg(C:Fn->Y2->Out)(t:PV)(mark raw b_:Y1)(hl:raw.length<=b_.length)(hz:b_.length<=1000)(hm:mark.length<=1000):∀(l:Y1)(o1 o2:Option PV)(xs:Y2),xs.length+l.length<16777216->∃o1' o2',
  bc (P0 5) (iJ C) (l.map fun c=>PV.str [c]) [t,PV.str mark,PV.str raw,PV.str b_,PV.ref 0,o1,o2] [.lst xs]=.nx [t,PV.str mark,PV.str raw,PV.str b_,PV.ref 0,o1',o2'] [.lst (xs++l.map fun c=>.str (jy mark raw b_ c))]
 |[],o1,o2,xs,_=>⟨o1,o2,by simp[EV,ajA]⟩
 |c::r,o1,o2,xs,hx=>by simp only[aeh]at hx;obtain⟨o3,t1⟩:=ER C t mark raw b_ hl hz hm c o2 xs ⋯;obtain⟨p,q,e⟩:=yg C t mark raw b_ hl hz hm r (some (.str [c])) o3 (xs++ [.str (jy mark raw b_ c)]) (by simp;lia);refine⟨p,q,?_⟩;rw[aeA,wt];simp[EQ,ag9,af8,t1];rw[e];simp
def sK(mark raw b_:Y1)(c:Nat):(jy mark raw b_ c).length<=mark.length+1:=by
 unfold jy
 split
 .simp
 .simp
def eU(k:Nat)(l mark raw b_:Y1)(hl:raw.length<=b_.length)(hz:b_.length<=1000)(hm:mark.length<=1000)(hn:l.length<=4000):F (k+1) .escaped [.str l,.str mark,.str raw,.str b_]=.ok (.str (ig mark raw b_ l)):=by
 show ag (pD (F k)) 4 7 [.str l,.str mark,.str raw,.str b_]=_;obtain⟨p,q,lp⟩:=yg (F k) (.str l) mark raw b_ hl hz hm l none none [] (by simp;lia);have mp:(l.map fun c=>PV.str (jy mark raw b_ c))=(l.map (jy mark raw b_)).map PV.str:=by simp[ahl]
 have jn:∀r,eJ (.str []) [.ref 0] (.lst ((l.map (jy mark raw b_)).map PV.str)::r)=.ok (.str (l.map (jy mark raw b_)).flatten) (.lst ((l.map (jy mark raw b_)).map PV.str)::r):=fun r=>vS (by
  have:=CO (jy mark raw b_) (mark.length+1) (sK mark raw b_) l;have:l.length * (mark.length+1)<=4000 * 1001:=Nat.mul_le_mul hn ⋯
  lia)
 rw[aeN,mp]at lp;simp[EV,ag,pD,aP,lp,jn,ig]
def lS(mark raw b_ l:Y1):(ig mark raw b_ l).length<=l.length * (mark.length+1):=by unfold ig;rw[aii];exact CO (jy mark raw b_) (mark.length+1) (sK mark raw b_) l
def HS{mark A:Y1}{P:Nat->Prop}(h:∀c∈l,c∈A)(ha:∀c∈A,∀x∈jy mark raw b_ c,P x):∀x∈ig mark raw b_ l,P x:=by intro x hx;unfold ig at hx;obtain⟨e,he,hxe⟩:=aiY.mp hx;obtain⟨c,hc,rfl⟩:=aeX.mp he;exact ha c (h c hc) x hxe
def CQ{v:Int}(h1: -1000000000000000000000000000000<v)(h2:v<1000000000000000000000000000000):(kx v).length<=1921:=by have:=PyProof.Rows.int_text_len_1921 (mq h1 h2);unfold kx;rw[ag1];exact this
def Gb(i:Int):∀c∈kx i,c∈aI:=fun c hc=>by
 have dg:∀n,(∀c∈dig n,48<=c/\c<=57):=fun n c hc=>AU _ c hc
 have d10:48<=c->c<=57->c∈aI:=fun h1 h2=>by rcases(show c=48\/c=49\/c=50\/c=51\/c=52\/c=53\/c=54\/c=55\/c=56\/c=57 by lia)with rfl|rfl|rfl|rfl|rfl|rfl|rfl|rfl|rfl|rfl<;>decide
 rw[Ah]at hc
 split at hc
 .have:=dg _ c hc;exact d10 this.1 this.2
 .rcases aek.mp hc with rfl|q
  .decide
  .have:=dg _ c q;exact d10 this.1 this.2
def zD(m:Nat)(raw b_ l:Y1)(hm:m∈aI)(h:∀c∈l,c∈aI)(hl:∀c∈b_,c∈aI)(hr:raw.length<=b_.length):∀x∈ig [m] raw b_ l,x∈aI:=by
 refine HS (A:=aI) h fun c hc x hx=>?_;unfold jy at hx
 split at hx
 .rcases aeF.mp hx with q|q
  .rw[aeo.mp q];exact hm
  .rename_i j hj
   cases e:b_[j]? with
   |none=>have:=sI hj;have:=List.getElem?_eq_none_iff.mp e;lia
   |some y=>simp[e]at q;subst q;exact hl _ (aex e)
 .rw[aeo.mp hx];exact hc
def tG(i:Nat)(v:PV)(b:Bool)(s:Y1):Prop:=(∀k,F (k+3) (fZ i) [.ins i [],v]=.ok (.bl b))/\(b=true->(∀k,F (k+2) (rd i) [.ins i [],v]=.ok (.str s))/\s.length<=2000/\∀c∈s,c∈aI)
def oK(k:Nat)(i:Int):F (k+1) .Rp [.int i]=.ok (.bl (decide ((if i<0 then -i else i)<1000000000000000000000000000000))):=by show ag (dW (F k)) 1 1 [.int i]=_;have p1:decide (akC 10<18446744073709551616)=true:=rfl;simp[EV,ag,dW,aP,p1,Int.reduceToNat]
theorem Nz(hv:Dv v):∃b s,tG 0 v b s:=by
 have pv:=hv.pure;obtain⟨b1,t1,t2⟩:=vo hv 40;have z:∀k h,aR (F (k+2) .G5) [v,.int 40] h=.ok (.bl b1) h:=fun k h=>aH h (by simp only[ai,pv];rfl) (t1 k)
 cases b1 with
 |false=>refine⟨ajt,[],fun k=>?_,fun e=>by cases e⟩;show ag (bg (F (k+2))) 2 2 [.ins 0 [],v]=_;simp[EV,ag,bg,ar _ pv,z,aP]
 |true=>
  obtain⟨l,rfl,hl,hs⟩:=t2 rfl;have lt:∀c∈l,c<1114112:=fun c hc=>dI c (hs c hc);have e3:∀h,Tv (.str l) (.str []) h=.ok (.bl (!decide (l= []))) h:=fun h=>gi _ _ _ lt (by simp);have e4:∀k h,aR (F (k+2) .Rv) [.str l,.str aM] h=.ok (.bl (l.all aM.contains)) h:=fun k h=>aH h rfl (Hk (k+1) l aM);refine⟨!decide (l= [])&&l.all aM.contains,l,fun k=>?_,fun e=>⟨fun k=>?_,by lia,hs⟩⟩
  .show ag (bg (F (k+2))) 2 2 [.ins 0 [],.str l]=_
   cases q:decide (l= [])with
   |true=>simp[EV,ag,bg,z,e3,q,aP]
   |false=>simp[EV,ag,bg,z,e3,e4,q,aP]
  .show ag (cX (F (k+1))) 2 2 [.ins 0 [],.str l]=_;simp[EV,ag,cX,aP]
theorem ND(hv:Dv v):∃b s,tG 1 v b s:=by
 cases hv with
 |int i=>
  refine⟨decide ((if i<0 then -i else i)<1000000000000000000000000000000),kx i,fun k=>?_,fun e=>?_⟩
  .show ag (aN (F (k+2))) 2 2 [.ins 1 [],.int i]=_;have e:=oK (k+1) i;simp[EV,ag,aN,bB,e,aP]
  .have e:=ajG e;have h1: -1000000000000000000000000000000<i:=by split at e<;>lia
   have h2:i<1000000000000000000000000000000:=by split at e<;>lia
   have lg:=mq h1 h2;refine⟨fun k=>?_,aeI (CQ h1 h2) ⋯,Gb i⟩;show ag (cF (F (k+1))) 2 2 [.ins 1 [],.int i]=_;simp[EV,ag,cF,lg,aP]
 |bl b=>refine⟨ajt,[],fun k=>?_,fun e=>by cases e⟩;show ag (aN (F (k+2))) 2 2 [.ins 1 [],.bl b]=_;simp[EV,ag,aN,aP]
 |str l h hc=>refine⟨ajt,[],fun k=>?_,fun e=>by cases e⟩;show ag (aN (F (k+2))) 2 2 [.ins 1 [],.str l]=_;simp[EV,ag,aN,aP]
 |lst l p=>refine⟨ajt,[],fun k=>?_,fun e=>by cases e⟩;show ag (aN (F (k+2))) 2 2 [.ins 1 [],.lst l]=_;simp[EV,ag,aN,aP]
 |dct l p=>refine⟨ajt,[],fun k=>?_,fun e=>by cases e⟩;show ag (aN (F (k+2))) 2 2 [.ins 1 [],.dct l]=_;simp[EV,ag,aN,aP]
theorem NC(i:Nat)(h2:2<=i)(h5:i<5)(hv:Dv v):∃b s,tG i v b s:=by
 have pv:=hv.pure;obtain⟨b,t1,t2⟩:=vo hv 400;have z:∀k h,aR (F (k+2) .G5) [v,.int 400] h=.ok (.bl b) h:=fun k h=>aH h (by simp only[ai,pv];rfl) (t1 k)
 have ft:∀k,F (k+3) (fZ i) [.ins i [],v]=.ok (.bl b):=fun k=>by
  rcases(show i=2\/i=3\/i=4 by lia)with rfl|rfl|rfl
  .show ag (aT (F (k+2))) 2 2 [.ins 2 [],v]=_;simp[EV,ag,aT,ar _ pv,z,aP]
  .show ag (aX (F (k+2))) 2 2 [.ins 3 [],v]=_;simp[EV,ag,aX,ar _ pv,z,aP]
  .show ag (bw (F (k+2))) 2 2 [.ins 4 [],v]=_;simp[EV,ag,bw,ar _ pv,z,aP]
 cases b with
 |false=>exact⟨ajt,[],ft,fun e=>by cases e⟩
 |true=>
  obtain⟨l,rfl,hl,hs⟩:=t2 rfl;have hl:l.length<=400:=by lia
  rcases(show i=2\/i=3\/i=4 by lia)with rfl|rfl|rfl
  .have q:=fun k=>eU k l [94] [94,34,10] [94,113,110] ⋯ ⋯ ⋯ ⋯;have le:=lS [94] [94,34,10] [94,113,110] l;have lt:=zD 94 [94,34,10] [94,113,110] l ⋯ hs ⋯ ⋯;have le:(QE l).length<=800:=aeI le (by simp only[aeh,aeJ];lia);refine⟨true,34::(QE l++ [34]),ft,fun _=>⟨fun k=>?_,by simp only[aeh,aei,aeJ];lia,fun c hc=>?_⟩⟩
   .show ag (cD (F (k+1))) 2 2 [.ins 2 [],.str l]=_;have a1:1+(QE l).length<=16777216:=by lia
    have a2:(QE l).length+1+1<=16777216:=by lia
    simp[EV,ag,cD,bB,q k,a1,aP,aeh,a2]
   .rcases aek.mp hc with rfl|hc
    .decide
    .rcases aeF.mp hc with hc|hc
     .exact lt c hc
     .rw[aeo.mp hc];decide
  .have q:=fun k=>eU k l [126] [126,60,62,38,124,10] [126,108,103,97,98,110] ⋯ ⋯ ⋯ ⋯;have le:=lS [126] [126,60,62,38,124,10] [126,108,103,97,98,110] l;refine⟨true,PEs l,ft,fun _=>⟨fun k=>?_,aeI le (by simp only[aeh,aeJ];lia),zD 126 _ _ l ⋯ hs ⋯ ⋯⟩⟩;show ag (cP (F (k+1))) 2 2 [.ins 3 [],.str l]=_;simp[EV,ag,cP,bB,q k,aP]
  .have q:=fun k=>eU k l [126] [126,10] [126,110] ⋯ ⋯ ⋯ ⋯;have le:=lS [126] [126,10] [126,110] l;refine⟨true,LE l,ft,fun _=>⟨fun k=>?_,aeI le (by simp only[aeh,aeJ];lia),zD 126 _ _ l ⋯ hs ⋯ ⋯⟩⟩;show ag (cY (F (k+1))) 2 2 [.ins 4 [],.str l]=_;simp[EV,ag,cY,bB,q k,aP]
def wn(i:Nat)(hi:i<5)(hv:Dv v):∃b s,tG i v b s:=by
 rcases(show i=0\/i=1\/2<=i by lia)with rfl|rfl|h
 .exact Nz hv
 .exact ND hv
 .exact NC i h hi hv
def HY(hi:i<5)(pv:v.pure=true){s:Y1}(f:tG i v true s)(k:Nat):F (k+4) .j7 [.ins i [],v]=.ok (.str s):=by have pi:(PV.ins i []).pure=true:=rfl;have z1:∀h,aR (F (k+3) (fZ i)) [.ins i [],v] h=.ok (.bl true) h:=fun h=>aH h (by simp only[ai,pv,pi];rfl) (f.1 k);have z2:∀h,aR (F (k+3) (rd i)) [.ins i [],v] h=.ok (.str s) h:=fun h=>aH h (by simp only[ai,pv,pi];rfl) ((f.2 rfl).1 (k+1));show ag (mf (F (k+3))) 2 2 [.ins i [],v]=_;simp[EV,ag,mf,NP _ i hi,NO _ i hi,ar _ pv,z1,z2,aP]
theorem OZ(h:Y3):yV (.str [94,94,34,113,10,110]) (.int 2) h=.ok (.str [94,34,10]) h:=rfl
theorem Pa(h:Y3):yV (.str [126,126,60,108,62,103,38,97,124,98,10,110]) (.int 2) h=.ok (.str [126,60,62,38,124,10]) h:=rfl
theorem BC(h:Y3):yV (.str [126,126,10,110]) (.int 2) h=.ok (.str [126,10]) h:=rfl
section
variable(C:Fn->Y2->Out)(w v:Option PV)(o2 o3:Option PV)(mk:Nat)(told raw b_:Y1)(hs:∀h,yV (.str told) (.int 2) h=.ok (.str raw) h)(h0:Sy told 0=some mk)(hT:∀i,i<raw.length->Sy told (2 * (i:Int)+1)=some (b_.getD i 0))(ht:told.length<=100)
include hs h0 hT ht
theorem Ht(c:Nat)(o7:Option PV)(acc:Y1)(ha:acc.length<=5000)(h:Y3):∃o7',iI C [w,v,o2,o3,PV.str told,PV.str acc,PV.str [c],o7] h=.nx [w,v,o2,o3,PV.str told,PV.str (acc++jy [mk] raw b_ c),PV.str [c],o7'] h:=by
 refine⟨some (.int (gh (aL [c] raw 0))),?_⟩;unfold jy
 cases q:aL [c] raw 0 with
 |none=>
  have d:decide ((-1:Int)<0)=true:=by decide
  have z:acc.length+1<=16777216:=by lia
  simp[EV,iI,hs,q,gh,d,z]
 |some i=>
  have hi:=sI q;have d:decide ((i:Int)<0)=ajt:=ajv ⋯;have e:=hT i hi;have z1:told.length<=16777216:=by lia
  have z2:acc.length+(1+1)<=16777216:=by lia
  have m2:jO 2 (i:Int)=true:=rfl;simp[EV,iI,hs,q,gh,d,e,h0,z1,z2,m2]
theorem qD(hr:raw.length<=b_.length)(h:Y3):∀(l:Y1)(o6 o7:Option PV)(acc:Y1),acc.length+2 * l.length<=5000->∃o6' o7',bc (P0 6) (iI C) (l.map fun c=>PV.str [c]) [w,v,o2,o3,PV.str told,PV.str acc,o6,o7] h=.nx [w,v,o2,o3,PV.str told,PV.str (acc++ig [mk] raw b_ l),o6',o7'] h
 |[],o6,o7,acc,_=>⟨o6,o7,by simp[bc,ig]⟩
 |c::r,o6,o7,acc,ha=>by simp only[aeh]at ha;obtain⟨p,t1⟩:=Ht C w v o2 o3 mk told raw b_ hs h0 hT ht c o7 acc ⋯ h;have l1:=sK [mk] raw b_ c;obtain⟨a,b,e⟩:=qD hr h r (some (.str [c])) p (acc++jy [mk] raw b_ c) (by simp at l1 |-;lia);refine⟨a,b,?_⟩;rw[aeA,wt];simp[EQ,ag9,af8,t1];rw[e];simp[ig]
end
abbrev tT:Y1:=[116,101,120,116]
abbrev tP:Y1:=[112,108,97,99,101]
abbrev tL:Y1:=[108,111,111,112]
abbrev tC:Y1:=[99,104,111,105,99,101]
set_option genInjectivity true in
inductive Nd where
 |text (s:Y1)
 |place (a:Y1) (f:Ya) (w:Nat)
 |loop (x:Y1) (a:Y1) (f:Ya) (ns:List Nd) (b:Y1)
 |choice (a:Y1) (f:Ya) (y n:List Nd)
noncomputable def N8(a:Y1)(f:Ya):PV:=.tup (.str a::f.map PV.str)
mutual
noncomputable def nd:Nd->PV
 |.text s=>.tup [.str tT,.str s]
 |.place a f w=>.tup [.str tP,N8 a f,.str (ca w)]
 |.loop x a f ns b=>.tup [.str tL,.str x,N8 a f,.tup (g8 ns),.str b]
 |.choice a f y n=>.tup [.str tC,N8 a f,.tup (g8 y),.tup (g8 n)]
noncomputable def g8:List Nd->Y2
 |[]=>[]
 |n::r=>nd n::g8 r
end
theorem eH:∀l:Ya,ai (l.map PV.str)=true
 |[]=>rfl
 |a::r=>by rw[aeA,ai,eH r];rfl
def kh(a:Y1)(f:Ya):(N8 a f).pure=true:=by unfold N8;rw[PV.pure,ai,eH];rfl
mutual
theorem iD:∀n:Nd,(nd n).pure=true
 |.text s=>by rw[nd];rfl
 |.place a f w=>by rw[nd];simp[PV.pure,ai,kh]
 |.loop x a f ns b=>by rw[nd];simp[PV.pure,ai,kh,bv ns]
 |.choice a f y n=>by rw[nd];simp[PV.pure,ai,kh,bv y,bv n]
theorem bv:∀l:List Nd,ai (g8 l)=true
 |[]=>by rw[g8];rfl
 |n::r=>by rw[g8,ai,iD n,bv r];rfl
end
theorem fH:∀l:List Nd,g8 l=l.map nd
 |[]=>by rw[g8];rfl
 |n::r=>by rw[g8,fH r];rfl
inductive Fl where
 |sc (v:PV)
 |lst (l:List Fl)
 |tup (b:Bool) (l:List Fl)
mutual
def K8:Fl->PV
 |.sc v=>v
 |.lst l=>.lst (aq l)
 |.tup b l=>.tup [.bl b,.lst (aq l)]
def aq:List Fl->Y2
 |[]=>[]
 |x::r=>K8 x::aq r
end
def Y7(v:PV):Prop:=(∃l,v=.str l)\/∃i,v=.int i
noncomputable def UL(w:Nat)(v:PV):Option Y1:=open Classical in if h:Y7 v/\∃s,tG w v true s then some h.2.choose else none
inductive VV:Nat->PV->Prop
 |str (n:Nat) (l:Y1) (h:l.length<=400) (hc:∀c∈l,c∈aI):VV n (.str l)
 |int (n:Nat) (i:Int):VV n (.int i)
 |bl (n:Nat) (b:Bool):VV n (.bl b)
 |lst (n:Nat) (xs:Y2) (h:∀x∈xs,VV n x) (l:xs.length<=1000):VV (n+1) (.lst xs)
 |dct (n:Nat) (l:List (PK×PV)) (h:∀x∈l,VV n x.2) (nd:(l.map (·.1)).Nodup) (ln:l.length<=1000) (kr:∀x∈l,x.1.isRight=true):VV (n+1) (.dct l)
theorem nP:∀{l:Y2},(∀x∈l,x.pure=true)->ai l=true
 |[],_=>rfl
 |a::r,h=>by rw[ai,h a (by simp),nP fun x hx=>h x (by simp[hx])];rfl
theorem VV.pure:∀{n:Nat}{v:PV},VV n v->v.pure=true
 |_,_,.str .. =>rfl
 |_,_,.int .. =>rfl
 |_,_,.bl .. =>rfl
 |_,_,.lst n xs h l=>by rw[PV.pure];exact nP fun x hx=>(h x hx).pure
 |_,_,.dct n l h _ _ _=>by rw[PV.pure,jg];exact nP fun x hx=>by obtain⟨y,hy,rfl⟩:=aeX.mp hx;exact(h y hy).pure
theorem VV.dv(h:VV n v):Dv v:=by
 have p:=h.pure
 cases h with
 |str _ l h hc=>exact .str _ ⋯ fun c hx=>dI c (hc c hx)
 |int _ i=>exact .int _
 |bl _ b=>exact .bl _
 |lst n xs h l=>exact .lst _ (by rw[PV.pure]at p;exact p)
 |dct n l h _ _ _=>exact .dct _ (by rw[PV.pure]at p;exact p)
def Rw(c:Bool)(e:(match v9 (.str a) (.str b) []with|.ok (.bl d) _=>d==c|_=>ajt)=true:=by kernel_rfl)(h:Y3):v9 (.str a) (.str b) h=.ok (.bl c) h:=by
 unfold v9 at e |-
 split at e
 .rename_i d h' z
  split at z
  .rename_i ok
   cases z
   have:Vx h (.str a)=true/\Vx h (.str b)=true:=ok;rw[ajz this];have q:=aiQ e;rw[show Vr h (.str a)=Vr [] (.str a)from rfl,show Vr h (.str b)=Vr [] (.str b)from rfl,q]
  .cases z
 .cases e
abbrev qE(a b:Y1)(c:Bool)(h:Y3):Prop:=v9 (.str a) (.str b) h=.ok (.bl c) h
def Vt(h:Y3):qE tT tT true h/\qE tP tT ajt h/\qE tP tP true h/\qE tL tT ajt h/\qE tL tP ajt h/\qE tL tL true h/\qE tC tT ajt h/\qE tC tP ajt h/\qE tC tL ajt h/\qE tP tL ajt h/\qE tC tC true h:=⟨Rw _ (h:=h),Rw _ (h:=h),Rw _ (h:=h),Rw _ (h:=h),Rw _ (h:=h),Rw _ (h:=h),Rw _ (h:=h),Rw _ (h:=h),Rw _ (h:=h),Rw _ (h:=h),Rw _ (h:=h)⟩
theorem yC(hv:Dv v)(n:∀l,v≠.str l)(m:Int)(k:Nat)(h:Y3):aR (F (k+2) .G5) [v,.int m] h=.ok (.bl ajt) h:=by
 obtain⟨b,t1,t2⟩:=vo hv m
 cases b with
 |false=>exact aH h (by simp only[ai,hv.pure];rfl) (t1 k)
 |true=>obtain⟨l,e,_⟩:=t2 rfl;exact absurd e (n l)
def KU{w:Nat}(hw:w<5)(hv:Dv v)(n:∀l,v≠.str l)(m:∀i,v≠.int i):F 3 (fZ w) [.ins w [],v]=.ok (.bl ajt):=by
 have pv:=hv.pure;have z:=fun(j:Int) h=>yC hv n j 0 h;rcases(show w=0\/w=1\/w=2\/w=3\/w=4 by lia)with rfl|rfl|rfl|rfl|rfl
 .show ag (bg (F 2)) 2 2 [.ins 0 [],v]=_;simp[EV,ag,bg,ar _ pv,z,aP]
 .show ag (aN (F 2)) 2 2 [.ins 1 [],v]=_
  cases hv with
  |str l=>exact absurd rfl (n l)
  |int i=>exact absurd rfl (m i)
  |bl b=>simp[EV,ag,aN,aP]
  |lst l p=>simp[EV,ag,aN,aP]
  |dct l p=>simp[EV,ag,aN,aP]
 .show ag (aT (F 2)) 2 2 [.ins 2 [],v]=_;simp[EV,ag,aT,ar _ pv,z,aP]
 .show ag (aX (F 2)) 2 2 [.ins 3 [],v]=_;simp[EV,ag,aX,ar _ pv,z,aP]
 .show ag (bw (F 2)) 2 2 [.ins 4 [],v]=_;simp[EV,ag,bw,ar _ pv,z,aP]
def fQ{w:Nat}{s:Y1}(e:UL w v=some s):tG w v true s:=by
 unfold UL at e
 split at e
 .rename_i h;cases e;exact h.2.choose_spec
 .cases e
def Fh{w:Nat}{s:Y1}(e:UL w v=some s):Y7 v:=by
 unfold UL at e
 split at e
 .rename_i h;exact h.1
 .cases e
theorem Fi{w:Nat}(hw:w<5)(hv:Dv v)(e:UL w v=none):∃s,tG w v ajt s:=by
 obtain⟨b,s,f⟩:=wn w hw hv
 cases b with
 |false=>exact⟨s,f⟩
 |true=>
  unfold UL at e
  split at e
  .cases e
  .rename_i h
   by_cases q:Y7 v
   .exact absurd ⟨q,s,f⟩ h
   .have:=KU hw hv (fun l z=>q (.inl ⟨l,z⟩)) fun i z=>q (.inr ⟨i,z⟩);rw[f.1 0]at this;cases this
section
variable{acc:Y2}
def NL(e:h[i]? =some (.lst acc)):aA h (.ref i)=.ref i:=by show(match h[i]? with|some (.Q5 q)=>q|_=>PV.ref i)=_;rw[e]
def IE(e:h[i]? =some (.lst acc)):cI h (.ref i)=true:=by unfold cI;simp[Yw,Yb,e]
def Fu(e:h[i]? =some (.lst acc))(x:PV)(hl:acc.length<16000000):aZ (.ref i) [x] h=.ok .non (h.set i (.lst (acc++ [x]))):=by
 have e2:pJ h (.ref i)=some (i,acc):=by unfold pJ;simp only[e]
 unfold aZ;rw[e2];dsimp only;rw[ajz (Nat.lt_trans hl ⋯)]
def LB(e:h[i]? =some (.lst acc))(ys:Y2)(hl:acc.length+ys.length<=16000000):aE (.ref i) (.lst ys) h=.ok (.lst (acc++ys)) h:=by show yY (.ref i) (.lst ys) h=_;unfold yY;simp only[Yb,e];rw[ajz (aeI hl ⋯)]
end
def fd(d:Nat)(p:PV):Prop:=(toD p).canLay0=true/\(toD p).depth<=d/\p.pure=true
def fds(d:Nat)(l:Y2):Prop:=ajK (jN l)=true/\akn (jN l)<=d/\ai l=true
def fJ(d:Nat):fds d []:=⟨by simp[jN,ajK],by simp[jN,akn],by simp[ai]⟩
def bI{l:Y2}(h:fd d p)(t:fds d l):fds d (p::l):=by
 refine⟨?_,?_,?_⟩
 .simp only[jN,ajK,h.1,t.1,ajp]
 .simp only[jN,akn];exact ajd.mpr ⟨h.2.1,t.2.1⟩
 .simp only[ai,h.2.2,t.2.2,ajp]
def AM{l:Y2}(h:fds d (p::l)):fd d p/\fds d l:=by obtain⟨a,b,c⟩:=h;simp only[jN,ajK,akn,ai,ael]at a b c;exact⟨⟨a.1,aeI (afV ..) b,c.1⟩,⟨a.2,aeI (afG ..) b,c.2⟩⟩
def wq{l:Y2}(h:fds d l):fd (d+1) (.lst l):=by
 refine⟨?_,?_,?_⟩
 .simp only[toD,ajH,h.1]
 .simp only[toD,ajO];have:=h.2.1;lia
 .simpa[PV.pure]using h.2.2
def kK{l:Y2}(h:fds d l):fd (d+1) (.tup l):=by
 refine⟨?_,?_,?_⟩
 .simp only[toD,ajH,h.1]
 .simp only[toD,ajO];have:=h.2.1;lia
 .simpa[PV.pure]using h.2.2
def NH(d:Nat)(b:Bool):fd d (.bl b):=⟨by simp[toD,ajH],by simp[toD,ajO],by simp[PV.pure]⟩
def gZ{e:Nat}(h:fd d p)(le:d<=e):fd e p:=⟨h.1,aeI h.2.1 le,h.2.2⟩
def or{e:Nat}{l:Y2}(h:fds d l)(le:d<=e):fds e l:=⟨h.1,aeI h.2.1 le,h.2.2⟩
def HU{l:Y2}(hl:fds 59 l)(h:Y3):v9 (.lst l) (.lst []) h=.ok (.bl l.isEmpty) h:=by
 have ok:Vx h (.lst l)=true:=by
  unfold Vx Vr;have:=hl.2.1;simp only[toD,ajH,ajO,hl.1,ahr,ajE]
  lia
 unfold v9;rw[ajz ⟨ok,rfl⟩]
 cases l<;>rfl
def iR(h:sg l=true):fd d (.str l):=⟨by simp only[toD,ajH];simp[akB,S];exact fun c hc=>Mg h c hc,by simp[toD,ajO],by simp[PV.pure]⟩
def KV(d:Nat)(i:Int):fd d (.int i):=⟨by simp[toD,ajH],by simp[toD,ajO],by simp[PV.pure]⟩
theorem yf{d:Nat}:∀{l:Ya},sgs l=true->fds d (l.map PV.str)
 |[],_=>fJ d
 |a::r,h=>by rw[sgs,afr,ael]at h;exact bI (iR h.1) (yf h.2)
theorem wk{α:Type}{tt:Tx}{te:Ex}{cp:Ev}{h:Y3}(f:α->PV)(T:α->Bool)(g:α->PV):∀l:List α,(∀x∈l,tt (some (f x)::cp) h=.ok (T x) h)->(∀x∈l,te (some (f x)::cp) h=.ok (g x) h)->cJ tt te cp (l.map f) h=.ok ((l.filter T).map g) h
 |[],_,_=>rfl
 |x::r,h1,h2=>by
  have ih:=wk f T g r (fun z hz=>h1 z (aen _ hz)) fun z hz=>h2 z (aen _ hz);rw[aeA,cJ,h1 x aeC];simp only[Res.K9]
  cases e:T x with
  |true=>rw[ajz rfl,h2 x aeC,List.filter_cons_of_pos e];simp only[Res.K9,ih,aeA]
  |false=>rw[ajB ⋯,ih,List.filter_cons_of_neg (by rw[e];decide)]
def Ks{te:Ex}{cp:Ev}(f g:α->PV)(l:List α)(h2:∀x∈l,te (some (f x)::cp) h=.ok (g x) h):cJ bQ te cp (l.map f) h=.ok (l.map g) h:=by rw[wk f (fun _=>true) g l (fun _ _=>rfl) h2,aij.mpr fun _ _=>rfl]
theorem kS{w:Nat}(hw:w<5)(hv:Dv v){B:Bool}{s:Y1}(h1:F 3 (fZ w) [.ins w [],v]=.ok (.bl B))(h2:B=true->F 2 (rd w) [.ins w [],v]=.ok (.str s)):UL w v=if B=true then some s else none:=by
 cases e:UL w v with
 |none=>
  obtain⟨t,f⟩:=Fi hw hv e;have:=f.1 0;rw[h1]at this
  cases B with
  |true=>cases this
  |false=>rfl
 |some t=>
  have f:=fQ e;have:=f.1 0;rw[h1]at this
  cases B with
  |false=>cases this
  |true=>
   have q:=(f.2 rfl).1 0;rw[h2 rfl]at q
   cases q
   rfl
noncomputable def mF:Option Y1->PV
 |some s=>.str s
 |none=>.non
def Og(c:Nat):bP.contains c=aM.contains c:=by
 have a:∀c∈bP,c∈aM:=by decide+kernel
 have b:∀c∈aM,c∈bP:=by decide+kernel
 rw[aft,afa,afa];exact⟨a c,b c⟩
def MW(k:Nat)(l:Y1)(hl:l.length<=400)(hc:∀c∈l,c∈aI):F (k+1) .O4 [.str wW,.str l]=.ok (mF (UL 0 (.str l))):=by
 have lt:∀c∈l,c<1114112:=fun c h=>dI c (hc c h);have dv:Dv (.str l):=.str l ⋯ lt;have all:l.all aI.contains=true:=aeM.mpr fun c h=>by simpa using hc c h
 have tx:∀h,aR (F 2 .G5) [.str l,.int 40] h=.ok (.bl (decide ((l.length:Int)<=40))) h:=fun h=>aH h rfl (by have:=fW 0 l 40 ⋯;rw[all,afw]at this;exact this);have e3:∀h,Tv (.str l) (.str []) h=.ok (.bl (!decide (l= []))) h:=fun h=>gi _ _ _ lt (by simp);have e4:∀h,aR (F 2 .Rv) [.str l,.str aM] h=.ok (.bl (l.all aM.contains)) h:=fun h=>aH h rfl (Hk 1 l aM)
 have h1:F 3 .M9 [.ins 0 [],.str l]=.ok (.bl (decide ((l.length:Int)<=40)&&(!decide (l= [])&&l.all aM.contains))):=by
  show ag (bg (F 2)) 2 2 [.ins 0 [],.str l]=_
  cases q:decide ((l.length:Int)<=40)<;>cases q2:decide (l= [])<;>simp[EV,ag,bg,tx,e3,e4,q,q2,aP]
 have h2:F 2 .C_ [.ins 0 [],.str l]=.ok (.str l):=by show ag (cX (F 1)) 2 2 [.ins 0 [],.str l]=_;simp[EV,ag,cX,aP]
 rw[kS (w:=0) ⋯ dv h1 fun _=>h2];have q1:=Rw (a:=wW) (b:=[110,117,109,98,101,114]) ajt;have q2:=Rw (a:=wW) (b:=[119,111,114,100]) true;have zl:l.length<=16777216:=by lia
 have g4:decide ((l.length:Int)>400)=ajt:=ajv ⋯
 have cm:∀h,cJ (lB (F k)) (pO (F k)) [PV.str bP] (l.map fun c=>PV.str [c]) h=.ok ((l.filter fun c=>!bP.contains c).map fun c=>PV.str [c]) h:=fun h=>wk _ (fun c=>!bP.contains c) _ l (fun c _=>by simp[EV,lB,cO]) fun c _=>rfl
 have fl:(l.filter fun c=>!bP.contains c).isEmpty=l.all aM.contains:=by rw[aft,agM,List.filter_eq_nil_iff,aeM];simp only[Og];exact⟨fun h c hc=>by simpa using h c hc,fun h c hc=>by simpa using h c hc⟩
 have fe:∀h,v9 (.lst ((l.filter fun c=>!bP.contains c).map fun c=>PV.str [c])) (.lst []) h=.ok (.bl (l.all aM.contains)) h:=fun h=>by
  have:=HU (l:=(l.filter fun c=>!bP.contains c).map fun c=>PV.str [c]) (by
   have:=yf (d:=59) (l:=(l.filter fun c=>!bP.contains c).map fun c=> [c]) (by unfold sgs;rw[ahL];exact aeM.mpr fun c hc=>by show sg [c]=true;unfold sg;simpa using lt c (ahR.mp hc).1)
   simpa[afe,ahl]using this) h
  rw[this,List.isEmpty_map,fl]
 have ne:decide (1<=(l.length:Int))=!decide (l= []):=by cases l<;>simp;lia
 have lm:(l.map fun c=>PV.str [c]).length<16777216:=by rw[aes];lia
 have cp:cU [2] [some (PV.str wW),some (PV.str l),some (PV.str bP),none,none,none,none,none]=[some (.str bP)]:=rfl;show ag (bF (F k)) 2 8 [.str wW,.str l]=_
 cases c1:decide (l= [])<;>cases c2:decide ((l.length:Int)<=40)<;>cases c3:l.all aM.contains<;>rw[c1]at ne<;>rw[c3]at fe<;>
  simp[EV,ag,bF,q1,q2,zl,g4,cm,lm,cp,fe,aP,c2,ne,mF]<;>rfl
theorem Ku(k:Nat)(i:Int):F (k+1) .O4 [.str wN,.int i]=.ok (mF (UL 1 (.int i))):=by
 have h1:F 3 .G_ [.ins 1 [],.int i]=.ok (.bl (decide ((if i<0 then -i else i)<1000000000000000000000000000000))):=by show ag (aN (F 2)) 2 2 [.ins 1 [],.int i]=_;have e:=oK 1 i;simp[EV,ag,aN,bB,e,aP]
 have sm:(if i<0 then -i else i)<1000000000000000000000000000000->i.natAbs.log2<1920:=fun e=>mq (by split at e<;>lia) (by split at e<;>lia)
 rw[kS (w:=1) (s:=kx i) ⋯ (.int i) h1 fun b=>by have lg:=sm (ajG b);show ag (cF (F 1)) 2 2 [.ins 1 [],.int i]=_;simp[EV,ag,cF,lg,aP]]
 have q1:=Rw (a:=wN) (b:=[110,117,109,98,101,114]) true;have p1:decide (akC 10<18446744073709551616)=true:=rfl;show ag (bF (F k)) 2 8 [.str wN,.int i]=_
 cases q:decide ((if i<0 then -i else i)<1000000000000000000000000000000)with
 |true=>have g:decide ((if i<0 then -i else i)>=1000000000000000000000000000000)=ajt:=ajv (by have:=ajG q;lia);have lg:=sm (ajG q);simp[EV,ag,bF,q1,p1,g,lg,aP,mF,Int.reduceToNat]
 |false=>have g:decide ((if i<0 then -i else i)>=1000000000000000000000000000000)=true:=ajw (by have:=of_decide_eq_false q;lia);simp[EV,ag,bF,q1,p1,g,aP,mF,Int.reduceToNat]
noncomputable def Zu:PV:=.dct [(.inr [113,117,111,116,101,100],.str [94,94,34,113,10,110]),(.inr [112,108,97,105,110],.str [126,126,60,108,62,103,38,97,124,98,10,110]),(.inr [108,105,110,101],.str [126,126,10,110])]
theorem nc(ρ:Ev)(h:Y3):mK [(cK (.str [113,117,111,116,101,100]),cK (.str [94,94,34,113,10,110])),(cK (.str [112,108,97,105,110]),cK (.str [126,126,60,108,62,103,38,97,124,98,10,110])),(cK (.str [108,105,110,101]),cK (.str [126,126,10,110]))] ρ h=.ok Zu h:=rfl
def zF(h:Y3):j5 Zu (.str wQ) h=.ok (.str [94,94,34,113,10,110]) h/\j5 Zu (.str wP) h=.ok (.str [126,126,60,108,62,103,38,97,124,98,10,110]) h/\j5 Zu (.str wL) h=.ok (.str [126,126,10,110]) h:=⟨rfl,rfl,rfl⟩
def Kt(k w:Nat)(hw:2<=w)(h5:w<5)(l:Y1)(hl:l.length<=400)(hc:∀c∈l,c∈aI):F (k+1) .O4 [.str (ca w),.str l]=.ok (mF (UL w (.str l))):=by
 have lt:∀c∈l,c<1114112:=fun c h=>dI c (hc c h);have dv:Dv (.str l):=.str l ⋯ lt;have all:l.all aI.contains=true:=aeM.mpr fun c h=>by simpa using hc c h
 have tx:∀h,aR (F 2 .G5) [.str l,.int 400] h=.ok (.bl true) h:=fun h=>aH h rfl (by have:=fW 0 l 400 ⋯;rw[all,afw,ajw ⋯]at this;exact this);have zl:l.length<=16777216:=by lia
 have lm:l.length<16777216:=by lia
 have g4:decide ((l.length:Int)>400)=ajt:=ajv ⋯;rcases(show w=2\/w=3\/w=4 by lia)with rfl|rfl|rfl
 .have ft:F 3 (fZ 2) [.ins 2 [],.str l]=.ok (.bl true):=by show ag (aT (F 2)) 2 2 [.ins 2 [],.str l]=_;simp[EV,ag,aT,tx,aP]
  have le:(QE l).length<=800:=aeI (lS [94] [94,34,10] [94,113,110] l) (by simp only[aeh,aeJ];lia);have a1:1+(QE l).length<=16777216:=by lia
  have a2:(QE l).length+1+1<=16777216:=by lia
  rw[kS (s:=34::(QE l++ [34])) ⋯ dv ft fun _=>by have q:=eU 0 l [94] [94,34,10] [94,113,110] ⋯ ⋯ ⋯ ⋯;show ag (cD (F 1)) 2 2 [.ins 2 [],.str l]=_;simp[EV,ag,cD,bB,q,a1,aP,aeh,a2]]
  have q1:=Rw (a:=wQ) (b:=[110,117,109,98,101,114]) ajt;have q2:=Rw (a:=wQ) (b:=[119,111,114,100]) ajt;have q3:=Rw (a:=wQ) (b:=[113,117,111,116,101,100]) true;obtain⟨o6,o7,lp⟩:=qD (F k) (some (.str wQ)) (some (.str l)) none none 94 [94,94,34,113,10,110] [94,34,10] [94,113,110] OZ rfl (by intro i hi;have:i<3:=hi;rcases(show i=0\/i=1\/i=2 by lia)with rfl|rfl|rfl<;>rfl) ⋯ ⋯ [] l none none [] (by simp;lia);have a3:1+(ig [94] [94,34,10] [94,113,110] l).length<=16777216:=a1;rw[aeN]at lp;show ag (bF (F k)) 2 8 [.str wQ,.str l]=_;simp[EV,ag,bF,q1,q2,q3,zl,g4,nc,(zF _).1,lp,aP,mF,a1,a2,a3,aeh]
 .have ft:F 3 (fZ 3) [.ins 3 [],.str l]=.ok (.bl true):=by show ag (aX (F 2)) 2 2 [.ins 3 [],.str l]=_;simp[EV,ag,aX,tx,aP]
  rw[kS (s:=PEs l) ⋯ dv ft fun _=>by have q:=eU 0 l [126] [126,60,62,38,124,10] [126,108,103,97,98,110] ⋯ ⋯ ⋯ ⋯;show ag (cP (F 1)) 2 2 [.ins 3 [],.str l]=_;simp[EV,ag,cP,bB,q,aP]]
  have q1:=Rw (a:=wP) (b:=[110,117,109,98,101,114]) ajt;have q2:=Rw (a:=wP) (b:=[119,111,114,100]) ajt;have q3:=Rw (a:=wP) (b:=[113,117,111,116,101,100]) ajt;obtain⟨o6,o7,lp⟩:=qD (F k) (some (.str wP)) (some (.str l)) none none 126 [126,126,60,108,62,103,38,97,124,98,10,110] [126,60,62,38,124,10] [126,108,103,97,98,110] Pa rfl (by intro i hi;have:i<6:=hi;rcases(show i=0\/i=1\/i=2\/i=3\/i=4\/i=5 by lia)with rfl|rfl|rfl|rfl|rfl|rfl<;>rfl) ⋯ ⋯ [] l none none [] (by simp;lia);rw[aeN]at lp;show ag (bF (F k)) 2 8 [.str wP,.str l]=_;simp[EV,ag,bF,q1,q2,q3,zl,g4,nc,(zF _).2.1,lp,aP,mF]
 .have ft:F 3 (fZ 4) [.ins 4 [],.str l]=.ok (.bl true):=by show ag (bw (F 2)) 2 2 [.ins 4 [],.str l]=_;simp[EV,ag,bw,tx,aP]
  rw[kS (s:=LE l) ⋯ dv ft fun _=>by have q:=eU 0 l [126] [126,10] [126,110] ⋯ ⋯ ⋯ ⋯;show ag (cY (F 1)) 2 2 [.ins 4 [],.str l]=_;simp[EV,ag,cY,bB,q,aP]]
  have q1:=Rw (a:=wL) (b:=[110,117,109,98,101,114]) ajt;have q2:=Rw (a:=wL) (b:=[119,111,114,100]) ajt;have q3:=Rw (a:=wL) (b:=[113,117,111,116,101,100]) ajt;obtain⟨o6,o7,lp⟩:=qD (F k) (some (.str wL)) (some (.str l)) none none 126 [126,126,10,110] [126,10] [126,110] BC rfl (by intro i hi;have:i<2:=hi;rcases(show i=0\/i=1 by lia)with rfl|rfl<;>rfl) ⋯ ⋯ [] l none none [] (by simp;lia);rw[aeN]at lp;show ag (bF (F k)) 2 8 [.str wL,.str l]=_;simp[EV,ag,bF,q1,q2,q3,zl,g4,nc,(zF _).2.2,lp,aP,mF]
def pf{w:Nat}(h:¬ Y7 v):UL w v=none:=by
 unfold UL
 split
 .rename_i q;exact absurd q.1 h
 .rfl
def O4(k w:Nat)(hw:w<5)(hv:VV n v):F (k+1) .O4 [.str (ca w),v]=.ok (mF (UL w v)):=by
 have abU:∀{v:PV},Dv v->w≠1->(∀l,v≠.str l)->UL w v=none:=fun{v} hv h1 hs=>by
  cases e:UL w v with
  |none=>rfl
  |some s=>
   have f:=(fQ e).1 0;have z:=fun(j:Int) h=>yC hv hs j 0 h;have pv:=hv.pure;exfalso;rcases(show w=0\/w=2\/w=3\/w=4 by lia)with rfl|rfl|rfl|rfl
   .have:F 3 (fZ 0) [.ins 0 [],v]=.ok (.bl ajt):=by show ag (bg (F 2)) 2 2 [.ins 0 [],v]=_;simp[EV,ag,bg,ar _ pv,z,aP]
    rw[f]at this;cases this
   .have:F 3 (fZ 2) [.ins 2 [],v]=.ok (.bl ajt):=by show ag (aT (F 2)) 2 2 [.ins 2 [],v]=_;simp[EV,ag,aT,ar _ pv,z,aP]
    rw[f]at this;cases this
   .have:F 3 (fZ 3) [.ins 3 [],v]=.ok (.bl ajt):=by show ag (aX (F 2)) 2 2 [.ins 3 [],v]=_;simp[EV,ag,aX,ar _ pv,z,aP]
    rw[f]at this;cases this
   .have:F 3 (fZ 4) [.ins 4 [],v]=.ok (.bl ajt):=by show ag (bw (F 2)) 2 2 [.ins 4 [],v]=_;simp[EV,ag,bw,ar _ pv,z,aP]
    rw[f]at this;cases this
 have Zn:∀{v:PV},v.pure=true->w≠1->(∀h,aV [v,.ty "str"] h=.ok (.bl ajt) h)->F (k+1) .O4 [.str (ca w),v]=.ok .non:=fun{v} pv h1 hs=>by
  have q1:∀h,v9 (.str (ca w)) (.str [110,117,109,98,101,114]) h=.ok (.bl ajt) h:=by rcases(show w=0\/w=2\/w=3\/w=4 by lia)with rfl|rfl|rfl|rfl<;>exact Rw ajt
  show ag (bF (F k)) 2 8 [.str (ca w),v]=_;simp[EV,ag,bF,q1,ar _ pv,hs,aP]
 by_cases h1:w=1
 .subst h1;have q1:=Rw (a:=wN) (b:=[110,117,109,98,101,114]) true
  cases hv with
  |int n i=>exact Ku k i
  |str n l h hc=>
   have:UL 1 (.str l)=none:=by
    cases e:UL 1 (.str l)with
    |none=>rfl
    |some s=>
     have f:=(fQ e).1 0
     have:F 3 (fZ 1) [.ins 1 [],.str l]=.ok (.bl ajt):=by show ag (aN (F 2)) 2 2 [.ins 1 [],.str l]=_;simp[EV,ag,aN,aP]
     rw[f]at this;cases this
   rw[this];show ag (bF (F k)) 2 8 [.str wN,.str l]=_;simp[EV,ag,bF,q1,aP,mF]
  |bl n b=>rw[pf (by rintro(⟨l,e⟩|⟨i,e⟩)<;>cases e)];show ag (bF (F k)) 2 8 [.str wN,.bl b]=_;simp[EV,ag,bF,q1,aP,mF]
  |lst n xs h l=>rw[pf (by rintro(⟨l,e⟩|⟨i,e⟩)<;>cases e)];show ag (bF (F k)) 2 8 [.str wN,.lst xs]=_;simp[EV,ag,bF,q1,aP,mF]
  |dct n d h nd ln kr=>rw[pf (by rintro(⟨l,e⟩|⟨i,e⟩)<;>cases e)];show ag (bF (F k)) 2 8 [.str wN,.dct d]=_;simp[EV,ag,bF,q1,aP,mF]
 .have pv:=hv.pure
  cases hv with
  |str n l h hc=>
   rcases(show w=0\/2<=w by lia)with rfl|h2
   .exact MW k l h hc
   .exact Kt k w h2 hw l h hc
  |int n i=>rw[abU (.int i) h1 (fun l e=>by cases e)];exact Zn rfl h1 fun _=>rfl
  |bl n b=>rw[pf (by rintro(⟨l,e⟩|⟨i,e⟩)<;>cases e)];exact Zn rfl h1 fun _=>rfl
  |lst n xs h l=>rw[pf (by rintro(⟨l,e⟩|⟨i,e⟩)<;>cases e)];exact Zn pv h1 fun _=>rfl
  |dct n d h nd ln kr=>rw[pf (by rintro(⟨l,e⟩|⟨i,e⟩)<;>cases e)];exact Zn pv h1 fun _=>rfl
def bR(h:Y3)(n:Nd):aA h (nd n)=nd n:=ar (h:=h) (iD n)
section
variable(h:Y3)
theorem pK(s:Y1):j5 (nd (.text s)) (.int 0) h=.ok (.str tT) h/\j5 (nd (.text s)) (.int 1) h=.ok (.str s) h:=by rw[nd];exact⟨rfl,rfl⟩
theorem yb(a:Y1)(f:Ya)(w:Nat):j5 (nd (.place a f w)) (.int 0) h=.ok (.str tP) h/\j5 (nd (.place a f w)) (.int 1) h=.ok (N8 a f) h/\j5 (nd (.place a f w)) (.int 2) h=.ok (.str (ca w)) h:=by rw[nd];exact⟨rfl,rfl,rfl⟩
theorem mI(x a:Y1)(f:Ya)(ns:List Nd)(b:Y1):j5 (nd (.loop x a f ns b)) (.int 0) h=.ok (.str tL) h/\j5 (nd (.loop x a f ns b)) (.int 1) h=.ok (.str x) h/\j5 (nd (.loop x a f ns b)) (.int 2) h=.ok (N8 a f) h/\j5 (nd (.loop x a f ns b)) (.int 3) h=.ok (.tup (g8 ns)) h/\j5 (nd (.loop x a f ns b)) (.int 4) h=.ok (.str b) h:=by rw[nd];exact⟨rfl,rfl,rfl,rfl,rfl⟩
theorem pL(a:Y1)(f:Ya)(y n:List Nd):j5 (nd (.choice a f y n)) (.int 0) h=.ok (.str tC) h/\j5 (nd (.choice a f y n)) (.int 1) h=.ok (N8 a f) h/\j5 (nd (.choice a f y n)) (.int 2) h=.ok (.tup (g8 y)) h/\j5 (nd (.choice a f y n)) (.int 3) h=.ok (.tup (g8 n)) h:=by rw[nd];exact⟨rfl,rfl,rfl,rfl⟩
end
theorem El(i n:Nat)(l2:Y2)(h2:ai l2=true):∀(l1:Y2),ai l1=true->Xy (l1++.ref i::l2)=[i]/\YX n (l1++.ref i::l2)=l1++.ref n::l2/\nT (l1++.ref i::l2)=true
 |[],_=>by
  have e:∀(l:Y2),ai l=true->Xy l= []/\(∀n,YX n l=l)/\nT l=true:=fun l hl=>by
   induction l with
   |nil=>exact⟨rfl,fun _=>rfl,rfl⟩
   |cons p r ih=>
    rw[ai,ael]at hl;obtain⟨a,b,c⟩:=ih hl.2;have np:∀i,p≠.ref i:=fun i e=>by have:=hl.1;subst e;simp[PV.pure]at this
    have e:nT (p::r)=(p.pure&&nT r):=by cases p<;>first|rfl|exact(np _ rfl).elim
    refine⟨?_,fun n=>?_,by rw[e,hl.1,c];rfl⟩
    .cases p<;>first|exact a|exact(np _ rfl).elim
    .cases p<;>first|exact aj0 _ (b n)|exact(np _ rfl).elim
  obtain⟨a,b,c⟩:=e l2 h2;refine⟨?_,?_,c⟩
  .show i::Xy l2=_;rw[a]
  .show PV.ref n::YX (n+1) l2=_;rw[b];rfl
 |p::r,h=>by
  rw[ai,ael]at h;obtain⟨a,b,c⟩:=El i n l2 h2 r h.2;have np:∀i,p≠.ref i:=fun i e=>by have:=h.1;subst e;simp[PV.pure]at this
  have e:nT (p::(r++.ref i::l2))=(p.pure&&nT (r++.ref i::l2)):=by cases p<;>first|rfl|exact(np _ rfl).elim
  rw[ae3];refine⟨?_,?_,by rw[e,h.1,c];rfl⟩
  .cases p<;>first|exact a|exact(np _ rfl).elim
  .cases p<;>first|exact aj0 _ b|exact(np _ rfl).elim
def dB(l1 l2:Y2){o':PO}(h1:ai l1=true)(h2:ai l2=true)(ho:h[i]? =some o)(oo:o.pure=true)(e:fn (l1++.ref 0::l2) [o]=.ok v [o'])(hv:v.pure=true)(ho':o'.pure=true):
  z_ fn (l1++.ref i::l2) h=.ok v (h.set i o'):=by
 obtain⟨q1,q2,q3⟩:=El i 0 l2 h2 l1 h1;have e4:lR h [i]=some [o]:=by simp[lR,ho]
 unfold z_;rw[q1,e4];dsimp only;rw[q3,q2,e];have e5:(true&&dJ [o]&&mU [i])=true:=by simp[dJ,oo,mU]
 rw[ajz e5];dsimp only;rw[ajz ⟨hv,by simp[dJ,ho'],rfl⟩];rfl
def sq{a b:Sx}(e:a ρ h=.nx ρ1 h1):aw a b ρ h=b ρ1 h1:=by unfold aw;rw[e]
def cC{g:Gx}{b:Sx}{r:Y2}{ρ2:Ev}(hg:g p ρ=some ρ1)(hb:b ρ1 h=.nx ρ2 h2):bc g b (p::r) ρ h=bc g b r ρ2 h2:=by simp only[bc,hg,hb]
noncomputable def Zz(i n:Nat):Y2:=(List.range' i n).map fun i=>PV.int (0+(i:Nat))
def It(n:Nat):(ajy n).map (fun i:Nat=>PV.int (0+i))=Zz 0 n:=by unfold Zz;rw[List.range_eq_range']
def Dp(i n:Nat):Zz i (n+1)=.int (0+i)::Zz (i+1) n:=by unfold Zz;rw[List.range'_succ];rfl
def Ft{x:PV}(e:xs[i]? =some x)(hx:x.pure=true)(h:Y3):j5 (.lst xs) (.int (0+i)) h=.ok x h:=by show(match Sy xs (0+i)with|some q=>Res.ok (aA h q) h|none=>.bad)=_;rw[eQ (v:=x) ⋯ (by rw[show(0+((i:Nat):Int)).toNat=i by lia];exact e)];dsimp only;rw[ar h hx]
def xn(l:Ya):(l.map (fun l=>l.length)).sum=l.flatten.length:=by rw[aii]
noncomputable def cv(cs:List Int):PV:=.lst (cs.map PV.int)
theorem iF(cs:List Int):(cv cs).pure=true:=by
 unfold cv;rw[PV.pure]
 induction cs with
 |nil=>rfl
 |cons a r ih=>rw[aeA,ai,ih];rfl
theorem fy(cs:List Int)(h:Y3):aA h (cv cs)=cv cs:=rfl
abbrev u_(n m:Int):PO:=.lst [.int n,.int m]
theorem ci(n m:Int):(u_ n m).pure=true:=rfl
theorem HZ(k:Nat)(cs:List Int)(hc:cs.length<=63)(n m:Int)(h0:0<=n)(h1:n<=1000000000):∃v,0<=v/\v<400000000/\L (k+1) .K5 [cv cs,.ref 0] [u_ n m]=.ok (.int v) [u_ (n+1) m]:=by
 have ix0:∀i:Int,j5 (.ref 0) (.int 0) [u_ i m]=.ok (.int i) [u_ i m]:=fun m=>rfl;have d0:∀i:Int,aA [u_ i m] (.ref 0)=.ref 0:=fun m=>rfl;have st:∀ ρ,lF (.int (n+1)) (.ref 0) (.int 0) ρ [u_ n m]=.nx ρ [u_ (n+1) m]:=fun ρ=>rfl;have ln:∀h,bS [.lst (cs.map PV.int)] h=.ok (.int cs.length) h:=fun h=>by rw[IA,aes]
 have m3:∀x:Int,jO x (n+1)=true:=fun x=>mV (bW.mpr ⟨by lia,by lia⟩);have m4:∀x:Int,jO x 48271=true:=fun x=>mV (bW.mpr ⟨by lia,by lia⟩);have fin:∀b:Int,0<=b * 48271 % 2147483647 / 7/\b * 48271 % 2147483647 / 7<400000000:=fun b=>by lia
 have ct:∀v:Int,kJ 1 (.int v) [u_ (n+1) m]=.ok (.int v) [u_ (n+1) m]:=fun v=>rfl
 cases cs with
 |nil=>
  refine⟨_,(fin (31 * (n+1) * (n+1)+7919 * (n+1))).1,(fin _).2,?_⟩;show fO (md (F k)) 2 4 [.lst [],.ref 0] [u_ n m]=_;have ln0:∀h,bS [.lst []] h=.ok (.int 0) h:=fun h=>rfl;have g0:decide ((0:Int)<0)=ajt:=by decide
  simp -implicitDefEqProofs[EV,fy,fO,md,m4,ix0,d0,st,ln0,m3,ct,Int.reduceLT]
 |cons a r=>
  have hl0:(0:Int)<(((a::r).length:Nat):Int):=by rw[aeh];lia
  have hl1:(((a::r).length:Nat):Int)<1073741824:=by lia
  have q0:0<=(n+1) % (((a::r).length:Nat):Int):=ag0 _ ⋯;have q1:(n+1) % (((a::r).length:Nat):Int)<(((a::r).length:Nat):Int):=agv _ hl0
  have ax:Sy ((a::r).map PV.int) ((n+1) % (((a::r).length:Nat):Int))=some (.int ((a::r).getD ((n+1) % (((a::r).length:Nat):Int)).toNat 0)):=by refine eQ q0 ?_;rw[aeY,aeG,aej ⋯];rfl
  have dv0:0<=(n+1) / (((a::r).length:Nat):Int):=Int.ediv_nonneg ⋯ ⋯;have dv1:(n+1) / (((a::r).length:Nat):Int)<=n+1:=Int.ediv_le_self _ ⋯;have m5:∀x:Int,jO x (1+(n+1) / (((a::r).length:Nat):Int))=true:=fun x=>mV (bW.mpr ⟨by lia,by lia⟩);have p3:decide ((0:Int)<(((a::r).length:Nat):Int))=true:=ajw hl0;have p4:decide ((0:Int)<(((a::r).length:Nat):Int)/\(((a::r).length:Nat):Int)<1073741824)=true:=ajw ⟨hl0,hl1⟩;unfold cv;generalize hL:(((a::r).length:Nat):Int)=Ln at*;generalize hC:(a::r).map PV.int=cl at*;refine⟨_,(fin (31 * (n+1) * (n+1)+7919 * (n+1)+(a::r).getD ((n+1) % Ln).toNat 0 * (1+(n+1) / Ln))).1,(fin _).2,?_⟩;show fO (md (F k)) 2 4 [.lst cl,.ref 0] [u_ n m]=_;simp -implicitDefEqProofs[EV,fy,fO,md,m4,ix0,d0,st,ln,p3,ax,m3,m5,p4,ct]
def bD(x:Int){m:Int}(h:0<m):0<=x % m/\x % m<m:=⟨ag0 _ ⋯,agv _ h⟩
theorem vZ{α:Type}{te:Ex}{cp:Ev}{h:Y3}(f:α->PV)(R:Y1->Prop):∀l:List α,(∀x∈l,∃s,R s/\te (some (f x)::cp) h=.ok (.str s) h)->∃ss:Ya,ss.length=l.length/\(∀s∈ss,R s)/\cJ bQ te cp (l.map f) h=.ok (ss.map PV.str) h
 |[],_=>⟨[],rfl,by simp,rfl⟩
 |x::r,hx=>by
  obtain⟨s,h1,h2⟩:=hx x aeC;obtain⟨ss,g0,g1,g2⟩:=vZ f R r fun z hz=>hx z (aen _ hz);refine⟨s::ss,by simp[g0],fun z hz=>?_,?_⟩
  .rcases aek.mp hz with q|q
   .subst q;exact h1
   .exact g1 z q
  .rw[aeA,cJ];simp only[bQ,Res.K9,ajA,h2,g2,aeA]
theorem qI{α β:Type}{te:Ex}{cp:Ev}{m:Int}{T:Y3}(f:α->PV)(g:β->PV)(R:β->Prop)(c:Int)(hc:0<=c)(hi:Int):∀(l:List α)(n:Int),0<=n->n+c * l.length<=hi->(∀x∈l,∀n,0<=n->n+c<=hi->∃y n',R y/\n<=n'/\n'<=n+c/\te (some (f x)::cp) (u_ n m::T)=.ok (g y) (u_ n' m::T))->
  ∃(ys:List β)(n':Int),ys.length=l.length/\(∀y∈ys,R y)/\n<=n'/\n'<=n+c * l.length/\cJ bQ te cp (l.map f) (u_ n m::T)=.ok (ys.map g) (u_ n' m::T)
 |[],n,_,_,_=>⟨[],n,rfl,by simp,agR _,by simp,rfl⟩
 |x::r,n,h0,hn,hx=>by
  have e:c * ((x::r).length:Int)=c * (r.length:Int)+c:=by rw[aeh,Int.natCast_add,Int.mul_add];simp
  have hr:0<=c * (r.length:Int):=Int.mul_nonneg hc ⋯;rw[e]at hn;obtain⟨y,n1,y1,y2,y3,y4⟩:=hx x aeC n h0 ⋯;obtain⟨ys,n2,z0,z1,z2,z3,z4⟩:=qI f g R c hc hi r n1 ⋯ ⋯ fun z hz=>hx z (aen _ hz);refine⟨y::ys,n2,by simp[z0],fun z hz=>?_,by lia,by rw[e];lia,?_⟩
  .rcases aek.mp hz with q|q
   .subst q;exact y1
   .exact z1 z q
  .rw[aeA,cJ];simp only[bQ,Res.K9,ajA,y4,z4,aeA]
def dA(k:Nat)(cs:List Int)(hc:cs.length<=63)(n m:Int)(h0:0<=n)(h1:n<=1000000000)(r:Y3):∃v,0<=v/\v<400000000/\z_ (L (k+1) .K5) [cv cs,.ref 0] (u_ n m::r)=.ok (.int v) (u_ (n+1) m::r):=by obtain⟨v,v0,v1,e⟩:=HZ k cs hc n m h0 h1;exact⟨v,v0,v1,dB (fn:=L (k+1) .K5) [cv cs] [] (by rw[ai,iF];rfl) rfl rfl (ci _ _) e rfl (ci _ _)⟩
def Ek(k:Nat):F (k+1) .K3 []=.ok (.str (gV++gU)):=by
 have le:(gV).length+(gU).length<=16777216:=by decide
 show ag (pC (F k)) 0 1 []=_;simp[EV,ag,pC,le,aP]
def gD(k:Nat)(h:Y3):aR (F (k+1) .K3) [] h=.ok (.str (gV++gU)) h:=aH h rfl (Ek k)
def Ck:(gV++gU).all (fun c=>aI.contains c)=true:=by decide
def yG(l:Y1)(hl:l.length<=1000)(i:Int)(h0:0<=i)(h1:i<l.length):∃c,c∈l/\∀h,j5 (.str l) (.int i) h=.ok (.str [c]) h:=by
 have hi:i.toNat<l.length:=by lia
 refine⟨l[i.toNat],afh hi,fun h=>?_⟩;show(match Sy l i with|some c=>if l.length<=ajx then Res.ok (PV.str [c]) h else .bad|none=>.bad)=_;rw[eQ (v:=l[i.toNat]) h0 (aej hi)];dsimp only;rw[ajz (by rw[szl];lia)]
def vY(i:Int)(h0:0<=i)(h1:i<95):∃c,c∈aI/\∀h,j5 (.str (gV++gU)) (.int i) h=.ok (.str [c]) h:=by
 have ln:(gV++gU).length=95:=by decide
 obtain⟨c,hc,e⟩:=yG (gV++gU) (by rw[ln];decide) i h0 (by rw[ln];exact h1);exact⟨c,by simpa using aeM.mp Ck c hc,e⟩
theorem zy(ss:Ya)(R:Nat->Prop)(h:∀s∈ss,∃c,R c/\s= [c]):ss.flatten.length=ss.length/\∀c∈ss.flatten,R c:=by
 induction ss with
 |nil=>exact⟨rfl,fun c hc=>by cases hc⟩
 |cons a r ih=>
  obtain⟨i1,i2⟩:=ih fun s hs=>h s (by simp[hs]);obtain⟨c,rc,rfl⟩:=h a (by simp);refine⟨by rw[ae4,aei,i1];simp;lia,fun d hd=>?_⟩;rw[ae4]at hd;rcases aeF.mp hd with q|q
  .rw[aeo]at q;rw[q];exact rc
  .exact i2 d q
def ya(hl:ss.flatten.length<=16000000)(h:Y3):eJ (.str []) [.lst (ss.map PV.str)] h=.ok (.str ss.flatten) h:=by rw[<- ms];refine nR rfl ?_;rw[xn,aeJ,Nat.mul_zero];lia
def Ac(k:Nat)(v:Int)(h0:0<=v)(h1:v<400000000):∃s:Y1,s≠ []/\s.length<=3/\(∀c∈s,c∈aI)/\F (k+2) .U9 [.int v]=.ok (.str s):=by
 have r0:=bD v (m:=3) ⋯;have be:VJ 4611686018427387904 (1+v % 3)=true:=bW.mpr ⋯;have ne3:((3:Int)==0)=ajt:=by decide
 obtain⟨ss,g0,g1,g2⟩:=vZ (te:=kL (F (k+1))) (cp:=cU [0] [PV.int v]) (h:=[]) (fun i:Nat=>PV.int (0+i)) (fun s=>∃c,c∈aI/\s= [c]) (ajy (1+v % 3).toNat) fun i hi=>by rw[afg]at hi;have b1:=bD (v / 300) (m:=94) ⋯;have q:=bD (v / 3+(0+(i:Int)) * (1+v / 300 % 94)) (m:=95) ⋯;obtain⟨c,hc,e⟩:=vY _ q.1 q.2;have mc:jO (0+(i:Int)) (1+v / 300 % 94)=true:=mV (bW.mpr ⟨by lia,by lia⟩);refine⟨[c],⟨c,hc,rfl⟩,?_⟩;show kL (F (k+1)) [PV.int (0+i),PV.int v] []=_;simp -implicitDefEqProofs[EV,kL,gD,mc,e]
 obtain⟨j1,j2⟩:=zy ss _ g1;have lr:(ajy (1+v % 3).toNat).length<16777216:=by rw[aeH];lia
 have sl:ss.length<=3:=by rw[g0,aeH];lia
 refine⟨ss.flatten,fun q=>by have z:=j1;rw[q,g0,aeH,aeJ]at z;lia,by rw[j1];exact sl,j2,?_⟩;have jn:=fun h=>ya (ss:=ss) (by rw[j1];lia) h;show ag (tf (F (k+1))) 1 1 [.int v]=_;simp -implicitDefEqProofs[EV,ag,tf,be,g2,jn,aes,lr,aP]
noncomputable def Rx(l:Y1):Bool:=l.all fun c=>decide (c<1114112)
theorem Qw(xs:Y2)(p:PV):aZ (.ref 0) [p] [.lst xs]=if xs.length<16777216 then .ok .non [.lst (xs++ [p])]else .bad:=rfl
def HO(acc:Y2)(h:ai acc=true):aP (.ref 0) [.lst acc]=.ok (.lst acc):=by unfold aP dK;simp only[afv,h,ajA]
theorem DP(f:Nat->Nat)(m:Nat):(((ajy m).map fun i=> [f i]).flatten)=(ajy m).map f:=by
 induction m with
 |zero=>rfl
 |succ m ih=>rw[List.range_succ,aeP,List.flatten_append,ih,aeP];rfl
def zi(n:Int):n % 3=0\/n % 3=1\/n % 3=2:=by lia
def qA(ha:Rx a=true)(hb:Rx b=true):Rx (a++b)=true:=by unfold Rx at*;rw[ai9,ha,hb];rfl
theorem iY{tt:Tx}{te:Ex}{cp:Ev}{h:Y3}{t:PV->Bool}{f:PV->PV}:∀(xs:Y2),(∀p∈xs,tt (some p::cp) h=.ok (t p) h)->(∀p∈xs,te (some p::cp) h=.ok (f p) h)->
  cJ tt te cp xs h=.ok ((xs.filter t).map f) h
 |[],_,_=>rfl
 |p::r,h1,h2=>by
  have ih:=iY r (fun q hq=>h1 q (aen _ hq)) (fun q hq=>h2 q (aen _ hq));rw[cJ,h1 p aeC]
  cases e:t p with
  |true=>simp only[Res.K9,ajA,h2 p aeC,ih,aiZ,e,aeA]
  |false=>simp only[Res.K9,aeS,ajQ,ih,aiZ,e]
def uP{te:Ex}{cp:Ev}{h:Y3}{f:PV->PV}(xs:Y2)(h2:∀p∈xs,te (some p::cp) h=.ok (f p) h):cJ bQ te cp xs h=.ok (xs.map f) h:=by have:=iY (tt:=bQ) (t:=fun _=>true) xs (fun _ _=>rfl) h2;rw[this,aij.mpr (fun _ _=>rfl)]
theorem Af:∀(l:Ya),(∀x∈l,x.length=1)->(l.map (fun l=>l.length)).sum=l.length
 |[],_=>rfl
 |x::r,h=>by rw[aeA,ahp,Af r (fun y hy=>h y (aen _ hy)),h x (aeC ..),aeh];lia
def Aw{m:Y1}(h:Rx l=true)(hm:∀c∈m,c∈l):Rx m=true:=by unfold Rx at*;rw[aeM]at*;exact fun c hc=>h c (hm c hc)
def qz(h:Rx l=true)(a b:Zp):Rx (cut l a b)=true:=Aw h fun c hc=>by unfold cut at hc;exact afc (aeU hc)
def kR(l:List α)(a b:Zp):(cut l a b).length<=l.length:=by
 unfold cut;rw[ae5,aeV]
 lia
def azA(i:Int):Nat:=cZ.getD (i % 26).toNat 0
def Fs(i:Int):Sy cZ (i % 26)=some (azA i):=tA 0 (ag0 _ ⋯) (by
 have:(cZ.length:Int)=26:=by decide
 rw[this];exact agv _ ⋯)
def Fq(i:Int):Rx [azA i]=true:=by
 have h0:=ag0 i (by decide:(26:Int)≠0);have h1:=agv i (by decide:(0:Int)<26);have e:cZ.length=26:=by decide
 have m:azA i∈cZ:=oq (by rw[e];lia);exact Aw (l:=cZ) ⋯ (fun c hc=>by rw[aeo.mp hc];exact m)
def Of:cZ.length<=16777216:=by decide
def yH(j:Nat):Y1:=match xK [.int (0+j)] []with
 |.ok (.str l) _=>l
 |_=> []
def Jk(h:Y3):((ajy 12).map fun j=>xK [.int (0+(j:Nat))] h)=(ajy 12).map fun j=>Res.ok (.str (yH j)) h:=by kernel_rfl
def Mf:((ajy 12).all fun j=>Rx (yH j)&&decide ((yH j).length<=2))=true:=by kernel_rfl
def Cg(k:Nat)(n:Int)(W:Y1)(hW:Rx W=true)(lW:W.length<=8)(j:Nat)(hj:j<12)(x6:Option PV)(acc:Y2)(ha:acc.length<16777216):∃l x6',Rx l=true/\
  fL (F k) [PV.int n,PV.str cZ,PV.str W,PV.int (n / 24 % 8),PV.ref 0,PV.int (0+j),x6] [.lst acc]=.nx [PV.int n,PV.str cZ,PV.str W,PV.int (n / 24 % 8),PV.ref 0,PV.int (0+j),x6'] [.lst (acc++ [.str l])]:=by
 have st:=fun h=>List.map_inj_left.mp (Jk h) j (afg.mpr hj);have so:=aeM.mp Mf j (afg.mpr hj);rw[ael]at so;have sl:(yH j).length<=2:=ajG so.2;have p1:decide ((0:Int)<192/\(192:Int)<1073741824)=true:=by decide
 have p2:decide ((0:Int)<26)=true:=by decide
 have p3:decide ((0:Int)<3)=true:=by decide
 have p4:decide ((0:Int)<3/\(3:Int)<1073741824)=true:=by decide
 have p5:decide ((0:Int)<8)=true:=by decide
 have m7:∀x:Int,jO 7 x=true:=fun x=>rV ⋯;have az:=Fs (n / 192+7 * (0+j)+1);have ao:=Fq (n / 192+7 * (0+j)+1);generalize azA (n / 192+7 * (0+j)+1)=s at az ao;have zl:=Of;have d0:∀xs:Y2,aA [.lst xs] (.ref 0)=.ref 0:=fun xs=>rfl;have li:∀xs,cI [.lst xs] (.ref 0)=true:=fun _=>rfl;have ap:=Qw;have wl:W.length<=16777216:=by lia
 have c1:=kR W none (some 1);have c2:=kR W none (some (n / 24 % 8));have c3:=kR W (some (n / 24 % 8+1)) none;have o1:Rx (cut W none (some 1)++yH j)=true:=qA (qz hW _ _) so.1;have o2:Rx (cut W none (some (n / 24 % 8))++[s]++cut W (some (n / 24 % 8+1)) none)=true:=qA (qA (qz hW _ _) ao) (qz hW _ _);have o3:Rx (cut ([s]++W) none (some (1+n / 3 % 8)))=true:=qz (qA ao hW) _ _;have l1:(cut W none (some 1)).length+(yH j).length<=16777216:=by lia
 have l2:(cut W none (some (n / 24 % 8))).length+1<=16777216:=by lia
 have l3:(cut W none (some (n / 24 % 8))).length+1+(cut W (some (n / 24 % 8+1)) none).length<=16777216:=by lia
 have l4:1+W.length<=16777216:=by lia
 have l5:W.length+1<=16777216:=by lia
 have l6:W.length<=16777215:=by lia
 obtain⟨l,ol,al⟩:∃l,Rx l=true/\Sy [PV.str (cut W none (some 1)++yH j),.str (cut W none (some (n / 24 % 8))++[s]++cut W (some (n / 24 % 8+1)) none),.str (cut ([s]++W) none (some (1+n / 3 % 8)))] (n % 3)=some (.str l):=by
  rcases zi n with q|q|q<;>rw[q]
  .exact⟨_,o1,rfl⟩
  .exact⟨_,o2,rfl⟩
  .exact⟨_,o3,rfl⟩
 rw[afn]at al;refine⟨l,some (.str [s]),ol,?_⟩;simp[EV,bC,fL,d0,li,p1,p2,p3,p4,p5,m7,az,zl,wl,st,l1,l2,l3,l4,l5,l6,aei,al,ap,ha]
theorem uj(k:Nat)(n:Int)(W:Y1)(hW:Rx W=true)(lW:W.length<=8):∀(js:Y1)(x5 x6:Option PV)(acc:Y2),(∀j∈js,j<12)->acc.length+js.length<16777216->∃(ls:Ya)(y5 y6:Option PV),ls.length=js.length/\(∀l∈ls,Rx l=true)/\
  bc (P0 5) (fL (F k)) (js.map fun j=>PV.int (0+(j:Nat))) [PV.int n,PV.str cZ,PV.str W,PV.int (n / 24 % 8),PV.ref 0,x5,x6] [.lst acc]=.nx [PV.int n,PV.str cZ,PV.str W,PV.int (n / 24 % 8),PV.ref 0,y5,y6] [.lst (acc++ls.map PV.str)]
 |[],x5,x6,acc,_,_=>⟨[],x5,x6,rfl,by simp,by simp[bc]⟩
 |j::r,x5,x6,acc,hj,hl=>by
  rw[aeh]at hl;obtain⟨l,x6',ol,e⟩:=Cg k n W hW lW j (hj j (aeC ..)) x6 acc ⋯;obtain⟨ls,y5,y6,e1,e2,e3⟩:=uj k n W hW lW r (some (.int (0+j))) x6' (acc++ [.str l]) (fun i hi=>hj i (aen _ hi)) (by rw[aei,aev];lia);refine⟨l::ls,y5,y6,by rw[aeh,aeh,e1],fun z hz=>?_,?_⟩
  .rcases aek.mp hz with q|q
   .rw[q];exact ol
   .exact e2 z q
  .rw[aeK]at e3;have g:(l::ls).map PV.str= [PV.str l]++ls.map PV.str:=rfl;rw[g,<- e3]
   show(match fL (F k) [PV.int n,PV.str cZ,PV.str W,PV.int (n / 24 % 8),PV.ref 0,PV.int (0+j),x6] [.lst acc]with
    |.nx ρ2 h2=>bc (P0 5) (fL (F k)) (r.map fun j=>PV.int (0+(j:Nat))) ρ2 h2
    |.ct ρ2 h2=>bc (P0 5) (fL (F k)) (r.map fun j=>PV.int (0+(j:Nat))) ρ2 h2
    |.bk ρ2 h2=>.nx ρ2 h2
    |.rt v h2=>.rt v h2
    |.exc v h2=>.exc v h2
    |.bad=>.bad)=_
   rw[e]
def ye(hv:v.pure=true):aP v []=.ok v:=eK _ hv
def HG(h:Y3)(hp:ai xs=true):dK h (.lst xs)=some (.lst xs,h):=iL h (by rw[PV.pure];exact hp)
def wi(h:Y3)(hp:ai xs=true):dK h (.tup xs)=some (.tup xs,h):=iL h (by rw[PV.pure];exact hp)
def Eg(k:Nat)(n:Int):∃ls:Ya,ls.length=12/\(∀l∈ls,Rx l=true)/\F (k+1) .V3 [.int n]=.ok (.lst (ls.map PV.str)):=by
 let f:Nat->Nat:=fun j=>azA (n / 192+5 * (0+(j:Int)))
 have hW:Rx ((ajy 8).map f)=true:=by unfold Rx;rw[aeM];intro c hc;obtain⟨j,_,rfl⟩:=aeX.mp hc;have:=Fq (n / 192+5 * (0+(j:Int)));unfold Rx at this;exact aeM.mp this _ (aeo.mpr rfl)
 have lW:((ajy 8).map f).length<=8:=by simp
 obtain⟨ls,y5,y6,e1,e2,e3⟩:=uj k n ((ajy 8).map f) hW lW (ajy 12) none none [] (fun j hj=>afg.mp hj) (by simp);rw[aeN]at e3;refine⟨ls,by rw[e1,aeH],e2,?_⟩;show ag (pB (F k)) 1 7 [.int n]=_;have p1:decide ((0:Int)<192/\(192:Int)<1073741824)=true:=by decide
 have p2:decide ((0:Int)<26)=true:=by decide
 have p3:decide ((0:Int)<24/\(24:Int)<1073741824)=true:=by decide
 have p5:decide ((0:Int)<8)=true:=by decide
 have m5:∀x:Int,jO 5 x=true:=fun x=>rV ⋯;have zl:=Of
 have cm:∀h,cJ bQ (lX (F k)) [PV.str cZ,PV.int n] ((ajy (aj8 8)).map fun i=>PV.int (0+(i:Nat))) h=.ok (((ajy 8).map fun i=> [f i]).map PV.str) h:=fun h=>by
  rw[uP (f:=fun p=>match p with|.int i=>.str [azA (n / 192+5 * i)]|_=>.non) _ (fun p hp=>by obtain⟨i,hi,rfl⟩:=aeX.mp hp;have Xp:=Fs (n / 192+5 * (0+(i:Int)));simp[EV,lX,p1,p2,m5,Xp,zl]),afe,afe]
  rfl
 have b8:VJ 4611686018427387904 8=true:=rfl;have b12:VJ 4611686018427387904 12=true:=rfl
 have jn:∀h,eJ (.str []) [.lst (((ajy 8).map fun i=> [f i]).map PV.str)] h=.ok (.str ((ajy 8).map fun i=> [f i]).flatten) h:=fun h=>GO (by rw[Af _ (fun x hx=>by obtain⟨c,_,rfl⟩:=aeX.mp hx;rfl),aes,aeH];decide)
 have ln:((ajy (aj8 8)).map fun i=>PV.int (0+(i:Nat))).length<16777216:=by decide
 have cp:∀ ρ:Ev,cU [1,0] (some (PV.int n)::some (.str cZ)::ρ)=[some (.str cZ),some (.int n)]:=fun _=>rfl;have r12:(ajy (aj8 12))=ajy 12:=rfl;have fr:aP (.ref 0) [.lst (ls.map PV.str)]=.ok (.lst (ls.map PV.str)):=HO _ (eH ls);have d0:∀xs:Y2,aA [.lst xs] (.ref 0)=.ref 0:=fun xs=>rfl;have om:=DP f 8;simp[EV,ag,pB,b8,b12,ln,cp,cm,jn,om,p3,p5,r12,e3,d0,fr]
abbrev Si:=Y1×Ya×Nat
noncomputable def it(x:Si):PV:=.tup [.tup ((x.1::x.2.1).map PV.str),.str [x.2.2]]
noncomputable def knd:Y1:=[116,119,110,98,108,109]
def CU(x:Si):Prop:=Rx x.1=true/\(∀l∈x.2.1,Rx l=true)/\x.2.2∈knd
noncomputable def je(ps:Ya)(ls:Ya)(j:Nat):Si:=match ps with
 |[]=>(ls.getD j [],[],[116,119,110,98].getD j 0)
 |p::r=>(p,r++ [ls.getD j []],[116,119,110,98].getD j 0)
def Gs(ps ls:Ya)(j:Nat):it (je ps ls j)=.tup [.tup ((ps++ [ls.getD j []]).map PV.str),.str [[116,119,110,98].getD j 0]]:=by cases ps<;>rfl
def kF(h:∀l∈ls,Rx l=true)(j:Nat):Rx (ls.getD j [])=true:=by
 rcases aeR j ls.length with q|q
 .exact h _ (oq q)
 .rw[aeG,aeE q];rfl
theorem vG{ps:Ya}(hp:∀l∈ps,Rx l=true)(hl:∀l∈ls,Rx l=true)(j:Nat)(hj:j<4):CU (je ps ls j):=by
 have k4: [116,119,110,98].getD j 0∈knd:=by rcases(by lia:j=0\/j=1\/j=2\/j=3)with rfl|rfl|rfl|rfl<;>decide
 cases ps with
 |nil=>exact⟨kF hl j,by simp[je],k4⟩
 |cons p r=>
  refine⟨hp p (aeC ..),fun l hm=>?_,k4⟩;rcases aeF.mp hm with q|q
  .exact hp l (aen _ q)
  .rw[aeo.mp q];exact kF hl j
theorem FE(ps:Ya)(h4:ps.length<=4)(x:Y1)(h:Y3):aE (.tup (ps.map PV.str)) (.tup [.str x]) h=.ok (.tup ((ps++ [x]).map PV.str)) h:=by
 cases ps with
 |nil=>rfl
 |cons p r=>show yY (.tup (PV.str p::r.map PV.str)) (.tup [.str x]) h=_;rw[aeh]at h4;rw[Fy,ajz ⟨rfl,by rw[szl,aeh,aes,aeh,aeJ];lia⟩];rw[aeP];rfl
def yM(k:Nat)(ps ls:Ya)(Yy:ls.length=12)(h4:ps.length<=4):F (k+1) .Wx [.tup (ps.map PV.str),.lst (ls.map PV.str)]=.ok (.lst ((ajy 4).map fun j=>it (je ps ls j))):=by
 show ag (wG (F k)) 2 2 [.tup (ps.map PV.str),.lst (ls.map PV.str)]=_;have ad:=FE ps h4
 have cm:∀h,cJ bQ (oX (F k)) [PV.tup (ps.map PV.str),PV.lst (ls.map PV.str)] ((ajy (aj8 4)).map fun i=>PV.int (0+(i:Nat))) h=.ok ((ajy 4).map fun j=>it (je ps ls j)) h:=fun h=>by
  rw[uP (f:=fun p=>match p with|.int i=>it (je ps ls i.toNat)|_=>.non) _ (fun p hp=>by
   obtain⟨i,hi,rfl⟩:=aeX.mp hp;have hi4:i<4:=afg.mp hi
   have a1:Sy (ls.map PV.str) (0+(i:Int))=some (.str (ls.getD i [])):=eQ ⋯ (by rw[aeY,aeG,show(0+(i:Int)).toNat=i by lia,aej ⋯];rfl)
   have a2:Sy [116,119,110,98] (0+(i:Int))=some ([116,119,110,98].getD i 0):=eQ ⋯ (by rw[aeG,show(0+(i:Int)).toNat=i by lia,aej (by simpa using hi4)];rfl)
   have e0:(0+(i:Int)).toNat=i:=by lia
   have l4:(4:Nat)<=16777216:=by decide
   simp[EV,oX,ad,a1,a2,e0,Gs]),afe]
  rfl
 have b4:VJ 4611686018427387904 4=true:=rfl;have ln:((ajy (aj8 4)).map fun i=>PV.int (0+(i:Nat))).length<16777216:=by decide
 have cp:∀a b:Option PV,cU [0,1] [a,b]=[a,b]:=fun a b=>by cases a<;>cases b<;>rfl
 have pu:∀xs:List Si,ai (xs.map it)=true:=fun xs=>by
  induction xs with
  |nil=>rfl
  |cons x r ih=>rw[aeA,ai,ih,afw];show ai [PV.tup ((x.1::x.2.1).map PV.str),.str [x.2.2]]=true;simp only[ai,PV.pure,eH,afw]
 have fr:aP (.lst ((ajy 4).map fun j=>it (je ps ls j))) []=.ok (.lst ((ajy 4).map fun j=>it (je ps ls j))):=ye (by
  rw[PV.pure];have:=pu ((ajy 4).map fun j=>je ps ls j)
  rwa [afe]at this)
 simp[EV,ag,wG,b4,ln,cp,cm,fr]
theorem nZ:∀xs:List Si,ai (xs.map it)=true
 |[]=>rfl
 |x::r=>by rw[aeA,ai,nZ r,afw];show ai [PV.tup ((x.1::x.2.1).map PV.str),.str [x.2.2]]=true;simp only[ai,PV.pure,eH,afw]
def DY(j:Nat)(h:j<ls.length):Sy (ls.map PV.str) (j:Int)=some (.str (ls.getD j [])):=eQ ⋯ (by rw[aeY,aeG,ae7,aej h];rfl)
noncomputable def b7(ls:Ya):Ya:=(ajy 7).map fun j=>ls.getD j []
def wI(ls:Ya)(j:Nat)(hj:j<7):ls.getD j []∈b7 ls:=aeX.mpr ⟨j,afg.mpr hj,rfl⟩
def CZ(k:Nat)(ls:Ya)(Yy:ls.length=12)(ho:∀l∈ls,Rx l=true):∃sc:List Si,sc.length=10/\(∀x∈sc,CU x/\x.1∈b7 ls/\x.2.1.length<=1)/\F (k+2) .V2 [.lst (ls.map PV.str)]=.ok (.lst (sc.map it)):=by
 have r1:=yM k [] ls Yy (by simp);have r2:=yM k [ls.getD 4 []] ls Yy (by simp);have fl:=fun h=>HG h (eH ls);have f0:∀h,dK h (.tup [])=some (.tup [],h):=fun h=>wi h rfl;have f1:∀x h,dK h (.tup [.str x])=some (.tup [.str x],h):=fun x h=>wi h rfl;have n4:Sy (ls.map PV.str) 4=some (.str (ls.getD 4 [])):=DY 4 ⋯;have n5:Sy (ls.map PV.str) 5=some (.str (ls.getD 5 [])):=DY 5 ⋯;have n6:Sy (ls.map PV.str) 6=some (.str (ls.getD 6 [])):=DY 6 ⋯
 let sc:List Si:=((ajy 4).map fun j=>je [] ls j)++((ajy 4).map fun j=>je [ls.getD 4 []] ls j)++[(ls.getD 5 [],[],108),(ls.getD 6 [],[],109)];have e1:((ajy 4).map fun j=>it (je [] ls j)).length=4:=by simp
 have e2:((ajy 4).map fun j=>it (je [ls.getD 4 []] ls j)).length=4:=by simp
 refine⟨sc,by simp[sc],fun x hx=>?_,?_⟩
 .rcases aeF.mp hx with q|q
  .rcases aeF.mp q with q|q
   .obtain⟨j,hj,rfl⟩:=aeX.mp q;have hj:=afg.mp hj;exact⟨vG (by simp) ho j hj,wI ls j ⋯,aeL _⟩
   .obtain⟨j,hj,rfl⟩:=aeX.mp q;exact⟨vG (fun l hl=>by rw[aeo.mp hl];exact kF ho 4) ho j (afg.mp hj),wI ls 4 ⋯,aeB _⟩
  .rcases aek.mp q with q|q
   .rw[q];exact⟨⟨kF ho 5,by simp,(by decide:108∈knd)⟩,wI ls 5 ⋯,aeL _⟩
   .rw[aeo.mp q];exact⟨⟨kF ho 6,by simp,(by decide:109∈knd)⟩,wI ls 6 ⋯,aeL _⟩
 .have em:sc.map it=((ajy 4).map fun j=>it (je [] ls j))++((ajy 4).map fun j=>it (je [ls.getD 4 []] ls j))++[.tup [.tup [.str (ls.getD 5 [])],.str [108]],.tup [.tup [.str (ls.getD 6 [])],.str [109]]]:=by simp only[sc,aeP,afe];rfl
  have fr:aP (.lst (sc.map it)) []=.ok (.lst (sc.map it)):=ye (by rw[PV.pure];exact nZ sc);rw[em]at fr |-;show ag (pq (F (k+1))) 1 1 [.lst (ls.map PV.str)]=_;rw[ag5]at r1;rw[aeA,ag5]at r2;generalize((ajy 4).map fun j=>it (je [] ls j))=R1 at*;generalize((ajy 4).map fun j=>it (je [ls.getD 4 []] ls j))=R2 at*;have l1:R1.length+R2.length<=16777216:=by lia
  have l2:R1.length+R2.length+2<=16777216:=by lia
  have al:∀(a b:Y2)(h:Y3),a.length+b.length<=16777216->aE (.lst a) (.lst b) h=.ok (.lst (a++b)) h:=fun a b h q=>by show(if a.length+b.length<=ajx then _ else _)=_;rw[ajz (by rw[szl];exact q)]
  have a1:=fun h=>al R1 R2 h l1;have a2:=fun h=>al (R1++R2) [.tup [.tup [.str (ls.getD 5 [])],.str [108]],.tup [.tup [.str (ls.getD 6 [])],.str [109]]] h (by rw[aei];simpa using l2);simp[EV,ag,pq,a1,a2,bB,fl,f0,f1,n4,n5,n6,r1,r2,l1,l2,aei,fr]
mutual
noncomputable def dN:Nd->Nat
 |.text _=>0
 |.place _ _ _=>0
 |.loop _ _ _ ns _=>M6 ns+1
 |.choice _ _ y n=>max (M6 y) (M6 n)+1
noncomputable def M6:List Nd->Nat
 |[]=>0
 |n::r=>max (dN n) (M6 r)
end
noncomputable def hdT:List Nd->Bool
 |.text _::_=>true
 |_=>ajt
noncomputable def fo:List Nd->Bool
 |[]=>true
 |.choice .. ::r=>hdT r&&fo r
 |_::r=>fo r
def sgn(s:Y1):Prop:=∀c∈s,c∈aI
mutual
def SQ:Nd->Prop
 |.text s=>s≠ []/\sgn s
 |.place _ _ w=>w<5
 |.loop _ _ _ ns b=>hdT ns=true/\fo ns=true/\O3 ns/\sgn b
 |.choice _ _ y n=>(y= []\/hdT y=true)/\(n= []\/hdT n=true)/\fo y=true/\fo n=true/\O3 y/\O3 n
def O3:List Nd->Prop
 |[]=>True
 |n::r=>SQ n/\O3 r
end
mutual
noncomputable def uN:Nd->Nat
 |.text s=>s.length
 |.place _ _ _=>2000
 |.loop _ _ _ ns b=>3 * (uS ns+b.length)+1
 |.choice _ _ y n=>uS y+uS n+1
noncomputable def uS:List Nd->Nat
 |[]=>0
 |n::r=>uN n+uS r
end
mutual
noncomputable def tN:Nd->Nat
 |.text s=>s.length
 |.place _ _ _=>0
 |.loop _ _ _ _ _=>0
 |.choice _ _ _ _=>0
noncomputable def tS:List Nd->Nat
 |[]=>0
 |n::r=>tN n+tS r
end
theorem qX:∀a b:List Nd,tS (a++b)=tS a+tS b
 |[],b=>by rw[tS];simp
 |n::r,b=>by rw[ae3,tS,tS,qX r b];lia
theorem vk:∀a b:List Nd,uS (a++b)=uS a+uS b
 |[],b=>by rw[uS];simp
 |n::r,b=>by rw[ae3,uS,uS,vk r b];lia
theorem AH{a:List Nd}(b:List Nd)(h:hdT a=true):hdT (a++b)=true:=by
 cases a with
 |nil=>cases h
 |cons n r=>cases n<;>first|rfl|cases h
theorem sH:∀{a b:List Nd},fo a=true->fo b=true->fo (a++b)=true
 |[],b,_,h=>h
 |n::r,b,h,k=>by
  cases n with
  |choice a f y n=>rw[fo,ael]at h;rw[ae3,fo,AH b h.1,sH h.2 k];rfl
  |text s=>exact sH (a:=r) h k
  |place a f w=>exact sH (a:=r) h k
  |loop x a f ns b=>exact sH (a:=r) h k
theorem KR(u u':Y1)(R:List Nd):∀B:List Nd,fo (B++.text u::R)=(fo (B++ [.text u'])&&fo R)
 |[]=>by show fo R=(fo []&&fo R);rfl
 |n::r=>by
  have ih:=KR u u' R r
  cases n with
  |choice a f y n=>
   have h:hdT (r++.text u::R)=hdT (r++ [.text u']):=by
    cases r with
    |nil=>rfl
    |cons x t=>cases x<;>rfl
   rw[ae3,ae3,fo,fo,ih,h,Bool.and_assoc]
  |text s=>exact ih
  |place a f w=>exact ih
  |loop x a f ns b=>exact ih
theorem nA:∀{l:List Nd},(∀n∈l,SQ n)->O3 l
 |[],_=>by rw[O3];trivial
 |n::r,h=>by rw[O3];exact⟨h n (by simp),nA fun m hm=>h m (by simp[hm])⟩
theorem sO{d:Nat}:∀{l:List Nd},(∀n∈l,dN n<=d)->M6 l<=d
 |[],_=>by rw[M6];lia
 |n::r,h=>by rw[M6];exact ajd.mpr ⟨h n (by simp),sO fun m hm=>h m (by simp[hm])⟩
structure Zf(d:Nat)(n:Nd):Prop where
 td:SQ n
 dp:dN n<=d
 fq:fd (2 * d+3) (nd n)
structure Nk(d c e:Nat)(l:List Nd):Prop where
 al:∀n∈l,Zf d n
 fo:fo l=true
 t1:tS l<=c
 ln:l.length<=c
 ub:uS l<=e
def Nk.app{c e c2 e2:Nat}{a b:List Nd}(x:Nk d c e a)(y:Nk d c2 e2 b):Nk d (c+c2) (e+e2) (a++b):=⟨fun n h=>by
 rcases aeF.mp h with q|q
 .exact x.al n q
 .exact y.al n q,sH x.fo y.fo,by rw[qX];have:=x.t1;have:=y.t1;lia,by rw[aei];have:=x.ln;have:=y.ln;lia,by rw[vk];have:=x.ub;have:=y.ub;lia⟩
def Zf.mono{e:Nat}{n:Nd}(x:Zf d n)(h:d<=e):Zf e n:=⟨x.td,aeI x.dp h,gZ x.fq ⋯⟩
theorem Nk.mono{d d2 c c2 e e2:Nat}{l:List Nd}(x:Nk d c e l)(h:d<=d2)(k:c<=c2)(m:e<=e2):Nk d2 c2 e2 l:=⟨fun n hn=>(x.al n hn).mono h,x.fo,aeI x.t1 k,aeI x.ln k,aeI x.ub m⟩
def CV{s:Y1}(h:sgn s):sg s=true:=aeM.mpr fun c hc=>ajw (dI c (h c hc))
def qB(d:Nat){s:Y1}(n:s≠ [])(h:sgn s):Zf d (.text s):=⟨by rw[SQ];exact⟨n,h⟩,aeL _,by rw[nd];exact gZ (kK (bI (iR (d:=2) ⋯) (bI (iR (CV h)) (fJ 2)))) ⋯⟩
def Nk.nil(d c e:Nat):Nk d c e []:=⟨fun n h=>(nomatch h),rfl,by rw[tS];lia,aeL _,by rw[uS];lia⟩
theorem Nk.text{d c e:Nat}{s:Y1}(n:s≠ [])(h:sgn s)(l:s.length<=c)(c1:1<=c)(l2:s.length<=e):Nk d c e [.text s]:=⟨fun n hn=>by rw[aeo]at hn;rw[hn];exact qB d ‹_› h,rfl,by rw[tS,tS,tN];lia,c1,by rw[uS,uS,uN];lia⟩
theorem Nk.fds{d c e:Nat}{l:List Nd}(h:Nk d c e l):Xb.fds (2 * d+3) (l.map nd):=by
 have:∀l:List Nd,(∀n∈l,Zf d n)->Xb.fds (2 * d+3) (l.map nd):=fun l=>by
  induction l with
  |nil=>exact fun _=>fJ _
  |cons n r ih=>exact fun h=>bI (h n (by simp)).fq (ih fun m hm=>h m (by simp[hm]))
 exact this l h.al
noncomputable def Wa:Nd->Bool
 |.text _=>true
 |_=>ajt
noncomputable def kT:Nd->Y1
 |.text _=>tT
 |.place .. =>tP
 |.loop .. =>tL
 |.choice .. =>tC
theorem Hc(n:Nd)(h:Y3):j5 (nd n) (.int 0) h=.ok (.str (kT n)) h:=by
 cases n with
 |text s=>exact(pK h s).1
 |place a f w=>exact(yb h a f w).1
 |loop x a f ns b=>exact(mI h x a f ns b).1
 |choice a f y n=>exact(pL h a f y n).1
theorem Ez(n:Nd)(h:Y3):v9 (.str (kT n)) (.str tT) h=.ok (.bl (Wa n)) h:=by
 have tg:=Vt h
 cases n with
 |text s=>exact tg.1
 |place a f w=>exact tg.2.1
 |loop x a f ns b=>exact tg.2.2.2.1
 |choice a f y n=>exact tg.2.2.2.2.2.2.1
def Kl{l:Y2}(hl:fds 59 l):Tv (.ref 0) (.lst []) [.lst l]=.ok (.bl (!l.isEmpty)) [.lst l]:=by
 have ok:Vx [.lst l] (.ref 0)=true:=by
  unfold Vx Vr;have:=hl.2.1;simp only[afv,ajH,ajO,hl.1,ahr,ajE]
  lia
 unfold Tv;rw[ajz ⟨ok,rfl⟩]
 cases l<;>rfl
noncomputable def tB(l:List Nd):Nd->List Nd
 |.text s=>match l.getLast? with
  |some (.text t)=>l.dropLast++ [.text (t++s)]
  |_=>l++ [.text s]
 |n=>l++ [n]
def Bh{l:List Nd}{n:Nd}(h:Wa n=ajt):tB l n=l++ [n]:=by cases n<;>first|rfl|cases h
def FD(n:Nd):tB [] n= [n]:=by cases n<;>rfl
theorem FA{l:List Nd}{m n:Nd}(h:Wa m=ajt):tB (l++ [m]) n=l++ [m]++[n]:=by
 cases n with
 |text s=>rw[tB,ah8];cases m<;>first|rfl|cases h
 |_=>rfl
def FC(l:List Nd)(u s:Y1):tB (l++ [.text u]) (.text s)=l++ [.text (u++s)]:=by rw[tB,ah8,List.dropLast_concat]
theorem Ih(acc:List Nd)(n:Nd):tB acc n=acc++ [n]\/∃B u s,acc=B++ [.text u]/\n=.text s/\tB acc n=B++ [.text (u++s)]:=by
 cases t:Wa n with
 |false=>exact .inl (Bh t)
 |true=>
  obtain⟨s,rfl⟩:∃s,n=.text s:=by cases n<;>first|exact⟨_,rfl⟩|cases t
  rcases ahY acc with rfl|⟨B,m,rfl⟩
  .exact .inl (FD _)
  .rw[ahZ]
   cases tm:Wa m with
   |false=>exact .inl (FA tm)
   |true=>
    obtain⟨u,rfl⟩:∃u,m=.text u:=by cases m<;>first|exact⟨_,rfl⟩|cases tm
    exact .inr ⟨B,u,s,rfl,rfl,FC ..⟩
theorem DQ(k:Nat)(v:PV)(acc:List Nd)(n:Nd)(hf:fds 59 (acc.map nd))(hl:acc.length<16777216)(ht:tS acc+tN n<=1000000):gK (F k) [v,PV.ref 0,nd n] [.lst (acc.map nd)]=.nx [v,PV.ref 0,nd n] [.lst ((tB acc n).map nd)]:=by
 have d0:∀xs:Y2,aA [.lst xs] (.ref 0)=.ref 0:=fun xs=>rfl;have li:∀xs,cI [.lst xs] (.ref 0)=true:=fun _=>rfl;have ne:=Kl hf;have k0:=Hc
 have ap:aZ (.ref 0) [nd n] [.lst (acc.map nd)]=.ok .non [.lst ((acc++ [n]).map nd)]:=by rw[yu,ajz (by rw[aes];exact afu hl ⋯),aeP];rfl
 cases t:Wa n with
 |false=>rw[Bh t];simp[EV,gK,bR,k0,Ez,t,d0,li,ap]
 |true=>
  obtain⟨s,rfl⟩:∃s,n=.text s:=by cases n<;>first|exact⟨_,rfl⟩|cases t
  rcases ahY acc with rfl|⟨B,m,rfl⟩
  .rw[FD];have e0:(!(([]:List Nd).map nd).isEmpty)=ajt:=rfl;rw[e0]at ne;simp only[ag5]at ne ap |-;simp[EV,gK,bR,k0,Ez,t,d0,li,ne,ap]
  .rw[ahZ]at ne ap hl ht |-;have e0:(!((B++ [m]).map nd).isEmpty)=true:=by simp
   rw[e0]at ne
   have ixl:j5 (.ref 0) (.int (-1)) [.lst ((B++ [m]).map nd)]=.ok (nd m) [.lst ((B++ [m]).map nd)]:=by
    show(match Sy ((B++ [m]).map nd) (-1)with|some v=>Res.ok (aA [.lst ((B++ [m]).map nd)] v) [.lst ((B++ [m]).map nd)]|none=>.bad)=_;have q:Sy ((B++ [m]).map nd) (-1)=some (nd m):=by rw[aeP];exact Ig _ _
    rw[q];show Res.ok (aA _ (nd m)) _=_;rw[bR]
   cases tm:Wa m with
   |false=>rw[FA tm];simp[EV,gK,bR,k0,Ez,t,tm,d0,li,ne,ixl,ap]
   |true=>
    obtain⟨u,rfl⟩:∃u,m=.text u:=by cases m<;>first|exact⟨_,rfl⟩|cases tm
    rw[FC];have al:u.length+s.length<=16777216:=by rw[qX]at ht;simp only[tS,tN]at ht;lia
    have st:∀ ρ v,lF v (.ref 0) (.int (-1)) ρ [.lst ((B++ [Nd.text u]).map nd)]=.nx ρ [.lst (B.map nd++ [v])]:=fun ρ v=>by
     show(match Y0 ((B++ [Nd.text u]).map nd).length (-1)with|some j=>SR.nx ρ [.lst (((B++ [Nd.text u]).map nd).set j v)]|none=>.bad)=_;have:Y0 ((B++ [Nd.text u]).map nd).length (-1)=some B.length:=by unfold Y0;simp;lia
     rw[this];dsimp only;rw[aeP]
     congr 3
     rw[afT _ _ (by simp)];simp
    have i1:∀z h,j5 (nd (.text z)) (.int 1) h=.ok (.str z) h:=fun z h=>by rw[nd];rfl
    have ma:(B++ [Nd.text (u++s)]).map nd=B.map nd++ [.tup [.str tT,.str (u++s)]]:=by simp[nd]
    simp[EV,gK,bR,k0,Ez,t,tm,d0,li,ne,ixl,st,i1,al,ma]
theorem Np(u u':Y1)(R R' B:List Nd):hdT (B++.text u::R)=hdT (B++.text u'::R'):=by
 cases B with
 |nil=>rfl
 |cons x t=>cases x<;>rfl
def Kk{c e:Nat}{acc r:List Nd}{n:Nd}(h:Nk d c e (acc++n::r)):Nk d c e (tB acc n++r)/\(hdT (acc++n::r)=true->hdT (tB acc n++r)=true):=by
 rcases Ih acc n with e|⟨C,u,s,rfl,rfl,e⟩<;>rw[e]
 .rw[aeK];exact⟨h,id⟩
 .have hu:=(h.al (.text u) (by simp)).td;have hs:=(h.al (.text s) (by simp)).td;rw[SQ]at hu hs;refine⟨⟨fun z hz=>?_,?_,?_,?_,?_⟩,fun q=>?_⟩
  .rw[aeK]at hz;rcases aeF.mp hz with q|q
   .exact h.al z (by simp[q])
   .rcases aek.mp q with q|q
    .subst q
     exact qB d (by simp[hu.1]) fun c hc=>by
      rcases aeF.mp hc with q|q
      .exact hu.2 c q
      .exact hs.2 c q
    .exact h.al z (by simp[show z∈r from q])
  .have:=h.fo;rw[aeK]at this |-;rw[afn,KR u u]at this;rw[afn,KR (u++s) u];exact this
  .have:=h.t1;simp only[qX,tS,tN,aei]at this |-
   lia
  .have:=h.ln;simp only[aei,aeh,aeJ]at this |-
   lia
  .have:=h.ub;simp only[vk,uS,uN,aei]at this |-
   lia
  .rw[aeK]at q |-;rw[afn]at q |-;rw[Np _ u _ (.text s::r)];exact q
theorem xO(k:Nat){d c e:Nat}(hd:d<=28)(hc:c<=1000000)(v:PV):∀(r acc:List Nd)(x2:Option PV),Nk d c e (acc++r)->∃V9 y2,Nk d c e V9/\(hdT (acc++r)=true->hdT V9=true)/\(acc++r= []->V9= [])/\bc (P0 2) (gK (F k)) (r.map nd) [v,PV.ref 0,x2] [.lst (acc.map nd)]=.nx [v,PV.ref 0,y2] [.lst (V9.map nd)]
 |[],acc,x2,h=>⟨acc,x2,by rw[aep]at h;exact h,by rw[aep];exact id,by rw[aep];exact id,by rw[ag5,bc]⟩
 |n::r,acc,x2,h=>by
  have fq:=h.fds
  have h0:Xb.fds (2 * d+3) (acc.map nd):=by
   have:∀(a b:Y2),Xb.fds (2 * d+3) (a++b)->Xb.fds (2 * d+3) a:=fun a=>by
    induction a with
    |nil=>exact fun _ _=>fJ _
    |cons x a ih=>exact fun b z=>bI (AM z).1 (ih b (AM z).2)
   rw[aeP]at fq;exact this _ _ fq
  have ln:=h.ln;have t1:=h.t1;rw[aei]at ln;rw[qX,tS]at t1;have s1:=DQ k v acc n ⟨h0.1,by have:=h0.2.1;lia,h0.2.2⟩ ⋯ ⋯;obtain⟨na,hh⟩:=Kk h;obtain⟨ac0,y2,r1,r3,r4,r2⟩:=xO k hd hc v r _ (some (nd n)) na;refine⟨ac0,y2,r1,fun q=>r3 (hh q),fun q=>by simp at q,?_⟩;rw[aeA];exact Eq.trans (cC rfl s1) r2
def dP(l:List Nd):(PV.lst (g8 l)).pure=true:=by rw[PV.pure];exact bv l
def nS(k:Nat){c e:Nat}(hd:d<=28)(hc:c<=1000000)(l:List Nd)(h:Nk d c e l):∃l',Nk d c e l'/\(hdT l=true->hdT l'=true)/\(l= []->l'= [])/\∀h,aR (F (k+1) .Ue) [.lst (g8 l)] h=.ok (.tup (g8 l')) h:=by
 obtain⟨l',y2,r1,r3,r4,r2⟩:=xO k hd hc (.lst (g8 l)) l [] none h;refine⟨l',r1,r3,r4,fun h=>aH h (by rw[ai,dP];rfl) ?_⟩;have lp:=dP l;have r2:bc (P0 2) (gK (F k)) (g8 l) [PV.lst (g8 l),PV.ref 0,none] [.lst []]=.nx [PV.lst (g8 l),PV.ref 0,y2] [.lst (g8 l')]:=by rw[fH l,fH l'];rw[fH l]at r2;exact r2
 have d0:∀xs:Y2,aA [.lst xs] (.ref 0)=.ref 0:=fun xs=>rfl;have tp:vQ [.ref 0] [.lst (g8 l')]=.ok (.tup (g8 l')) [.lst (g8 l')]:=rfl;have si:∀h,jA (.lst (g8 l)) h=.ok (g8 l) h:=fun _=>rfl;show ag (wH (F k)) 1 3 [.lst (g8 l)]=_;simp[EV,ag,wH,ar _ lp,si,r2,d0,tp];exact eK _ (by rw[PV.pure];exact bv l')
theorem HQ{l:Ya}(h:∀s∈l,Rx s=true):fds 1 (l.map PV.str):=by
 induction l with
 |nil=>exact fJ 1
 |cons a r ih=>exact bI (iR (h a (by simp))) (ih fun s hs=>h s (by simp[hs]))
def zC(ha:Rx a=true)(hf:∀s∈f,Rx s=true):fd 2 (N8 a f):=kK (bI (iR ha) (HQ hf))
theorem wo{d:Nat}:∀{l:List Nd},(∀n∈l,fd d (nd n))->fds d (g8 l)
 |[],_=>by rw[g8];exact fJ d
 |n::r,h=>by rw[g8];exact bI (h n (by simp)) (wo fun m hm=>h m (by simp[hm]))
def Jf:∀w,w<5->sg (ca w)=true:=by decide
def Ea(d:Nat){w:Nat}(ha:Rx a=true)(hf:∀s∈f,Rx s=true)(hw:w<5):Zf d (.place a f w):=⟨by rw[SQ];exact hw,aeL _,by rw[nd];exact gZ (kK (bI (iR (d:=2) ⋯) (bI (zC ha hf) (bI (iR (Jf w hw)) (fJ 2))))) ⋯⟩
def GZ{c e:Nat}{ns:List Nd}(h:Nk d c e ns)(ht:hdT ns=true)(hx:Rx x=true)(ha:Rx a=true)(hf:∀s∈f,Rx s=true)(hb:sgn b):Zf (d+1) (.loop x a f ns b):=⟨by
  rw[SQ];exact⟨ht,h.fo,nA fun n hn=>(h.al n hn).td,hb⟩,by
  rw[dN];have:=sO fun n hn=>(h.al n hn).dp;lia,by
  rw[nd];have q:=kK (wo fun n hn=>(h.al n hn).fq);exact gZ (kK (bI (iR ⋯) (bI (iR hx) (bI (gZ (zC ha hf) ⋯) (bI q (bI (iR (CV hb)) (fJ _))))))) ⋯⟩
def BZ{c e:Nat}{y n:List Nd}(h:Nk d c e y)(k:Nk d c e n)(hy:y= []\/hdT y=true)(hn:n= []\/hdT n=true)(ha:Rx a=true)(hf:∀s∈f,Rx s=true):Zf (d+1) (.choice a f y n):=⟨by
  rw[SQ];exact⟨hy,hn,h.fo,k.fo,nA fun n hn=>(h.al n hn).td,nA fun n hn=>(k.al n hn).td⟩,by
  rw[dN];have:=sO fun n hn=>(h.al n hn).dp;have:=sO fun n hn=>(k.al n hn).dp;have:=ajd.mpr ⟨‹M6 y<=d›, ‹M6 n<=d›⟩;lia,by
  rw[nd];have q:=kK (wo fun n hn=>(h.al n hn).fq);have r:=kK (wo fun n hn=>(k.al n hn).fq);exact gZ (kK (bI (iR ⋯) (bI (gZ (zC ha hf) ⋯) (bI q (bI r (fJ _)))))) ⋯⟩
def Jg(k:Nat)(c:Nat)(hc:c=116\/c=119\/c=110)(v:Int):∃w,w<5/\F (k+1) .Xm [.str [c],.int v]=.ok (.str (ca w)):=by
 have p5:=bD v (m:=5) ⋯;have p3:=bD v (m:=3) ⋯;have p4:=bD v (m:=4) ⋯;have ru:F (k+1) .Xm [.str [c],.int v]=ag (mA (F k)) 2 2 [.str [c],.int v]:=rfl
 obtain⟨w5,h5,e5⟩:∃w,w<5/\∀h,j5 (.lst [.str [119,111,114,100],.str [110,117,109,98,101,114],.str [113,117,111,116,101,100],.str [112,108,97,105,110],.str [108,105,110,101]]) (.int (v % 5)) h=.ok (.str (ca w)) h:=by
  rcases(show v % 5=0\/v % 5=1\/v % 5=2\/v % 5=3\/v % 5=4 by lia)with q|q|q|q|q<;>rw[q]
  .exact⟨0,by decide,fun _=>rfl⟩
  .exact⟨1,by decide,fun _=>rfl⟩
  .exact⟨2,by decide,fun _=>rfl⟩
  .exact⟨3,by decide,fun _=>rfl⟩
  .exact⟨4,by decide,fun _=>rfl⟩
 obtain⟨w3,h3,e3⟩:∃w,w<5/\∀h,j5 (.lst [.str [112,108,97,105,110],.str [113,117,111,116,101,100],.str [108,105,110,101]]) (.int (v % 3)) h=.ok (.str (ca w)) h:=by
  rcases(show v % 3=0\/v % 3=1\/v % 3=2 by lia)with q|q|q<;>rw[q]
  .exact⟨3,by decide,fun _=>rfl⟩
  .exact⟨2,by decide,fun _=>rfl⟩
  .exact⟨4,by decide,fun _=>rfl⟩
 obtain⟨w4,h4,e4⟩:∃w,w<5/\∀h,j5 (.lst [.str [119,111,114,100],.str [112,108,97,105,110],.str [113,117,111,116,101,100],.str [108,105,110,101]]) (.int (v % 4)) h=.ok (.str (ca w)) h:=by
  rcases(show v % 4=0\/v % 4=1\/v % 4=2\/v % 4=3 by lia)with q|q|q|q<;>rw[q]
  .exact⟨0,by decide,fun _=>rfl⟩
  .exact⟨3,by decide,fun _=>rfl⟩
  .exact⟨2,by decide,fun _=>rfl⟩
  .exact⟨4,by decide,fun _=>rfl⟩
 rw[ru];have ep:=fun h=>db (v / 64 % 9) 1 h
 by_cases q:v / 64 % 9=1
 .refine⟨w5,h5,?_⟩;rw[ajw q]at ep;simp[EV,ag,mA,ep,e5,aP]
 .rw[ajv q]at ep;rcases hc with rfl|rfl|rfl
  .have ff:∀h,lL (.str [110,116,119]) [.str [116]] h=.ok (.int 1) h:=fun _=>rfl;have ix:∀h,j5 (.lst [.str [110,117,109,98,101,114],.str (ca w3),.str (ca w4)]) (.int 1) h=.ok (.str (ca w3)) h:=fun _=>rfl;refine⟨w3,h3,?_⟩;simp[EV,ag,mA,ep,e3,e4,ff,ix,aP]
  .have ff:∀h,lL (.str [110,116,119]) [.str [119]] h=.ok (.int 2) h:=fun _=>rfl;have ix:∀h,j5 (.lst [.str [110,117,109,98,101,114],.str (ca w3),.str (ca w4)]) (.int 2) h=.ok (.str (ca w4)) h:=fun _=>rfl;refine⟨w4,h4,?_⟩;simp[EV,ag,mA,ep,e3,e4,ff,ix,aP]
  .have ff:∀h,lL (.str [110,116,119]) [.str [110]] h=.ok (.int 0) h:=fun _=>rfl;have ix:∀h,j5 (.lst [.str [110,117,109,98,101,114],.str (ca w3),.str (ca w4)]) (.int 0) h=.ok (.str (ca 1)) h:=fun _=>rfl;refine⟨1,by decide,?_⟩;simp[EV,ag,mA,ep,e3,e4,ff,ix,aP]
noncomputable def dPl:PV:=.dct [(.inr [112,108,97,105,110],.str [10,38,60,62,124]),(.inr [108,105,110,101],.str [10,10,10,10,10])]
theorem Le(ρ:Ev)(h:Y3):mK [(aaC,abe),(aaG,adG)] ρ h=.ok dPl h:=rfl
theorem NS(h:Y3):sw h dPl=true:=rfl
def HW(w:Nat)(hw:w<5):∃s:Y1,s.length=5/\(∀c∈s,c∈aI)/\∀h,rP dPl [.str (ca w),.str [32,46,59,60,10]] h=.ok (.str s) h:=by
 rcases(show w=0\/w=1\/w=2\/w=3\/w=4 by lia)with rfl|rfl|rfl|rfl|rfl
 .exact⟨_,rfl,by decide,fun _=>rfl⟩
 .exact⟨_,rfl,by decide,fun _=>rfl⟩
 .exact⟨_,rfl,by decide,fun _=>rfl⟩
 .exact⟨_,rfl,by decide,fun _=>rfl⟩
 .exact⟨_,rfl,by decide,fun _=>rfl⟩
def DI(k:Nat)(d:Nat)(ha:Rx a=true)(hf:∀s∈f,Rx s=true)(c:Nat)(hc:c=116\/c=119\/c=110)(v:Int)(h0:0<=v)(h1:v<400000000):∃ns,Nk d 5 2004 ns/\F (k+3) .Un [N8 a f,.str [c],.bl true,.int v]=.ok (.lst (g8 ns)):=by
 obtain⟨w,hw,we⟩:=Jg (k+1) c hc v;have we:∀h,aR (F (k+2) .Xm) [.str [c],.int v] h=.ok (.str (ca w)) h:=fun h=>aH h rfl we;have pl:=Ea (w:=w) d ha hf hw;have d7:0<=v / 7/\v / 7<400000000:=by lia
 obtain⟨s,sn,sl,sc,te⟩:=Ac k (v / 7) d7.1 d7.2;have te:∀h,aR (F (k+2) .U9) [.int (v / 7)] h=.ok (.str s) h:=fun h=>aH h rfl te;obtain⟨z,zl,zc,ze⟩:=HW w hw;have p5:=bD (v / 576) (m:=5) ⋯;obtain⟨q,hq,qe⟩:=yG z ⋯ (v / 576 % 5) p5.1 (by rw[zl];exact p5.2);have dp:∀h,aA h (N8 a f)=N8 a f:=fun _=>rfl;have pn:PV.tup [.str [112,108,97,99,101],N8 a f,.str (ca w)]=nd (.place a f w):=by rw[nd]
 have tn:∀s:Y1,PV.tup [.str [116,101,120,116],.str s]=nd (.text s):=fun s=>by rw[nd]
 have ts:sgn ([q]++s):=fun c hc=>by
  rcases aeF.mp hc with x|x
  .rw[aeo]at x;rw[x];exact zc q hq
  .exact sc c x
 have N2:Nk d 5 2004 [.place a f w,.text ([q]++s)]:=⟨fun n hn=>by
  rcases aek.mp hn with rfl|hn
  .exact pl
  .rw[aeo]at hn;rw[hn];exact qB d (by simp) ts,rfl,by simp only[tS,tN,aei,aev];lia,by simp,by simp only[uS,uN,aei,aev];lia⟩
 have le:1+s.length<=16777216:=by lia
 have ru:F (k+3) .Un [N8 a f,.str [c],.bl true,.int v]=ag (pA (F (k+2))) 4 7 [N8 a f,.str [c],.bl true,.int v]:=rfl;have r2:PV.lst [nd (.place a f w),nd (.text (q::s))]=.lst (g8 [.place a f w,.text ([q]++s)]):=by rw[g8,g8,g8];rfl
 rw[ru];refine⟨_,N2,?_⟩;simp[EV,ag,pA,we,dp,pn,bR,Le,NS,ze,qe,te,tn,le,aev,afn,r2];exact eK _ (by rw[PV.pure];exact bv _)
noncomputable def HB(n m:Int)(js:Y3)(xs:Y2):Y3:=u_ n m::(js++ [.lst xs])
section
variable(n m:Int)(js:Y3)(xs:Y2)
theorem ji:(HB n m js xs)[js.length+1]? =some (.lst xs):=by show(js++ [PO.lst xs])[js.length]? =_;simp
theorem EH(ys:Y2):(HB n m js xs).set (js.length+1) (.lst ys)=HB n m js ys:=by show u_ n m::(js++ [PO.lst xs]).set js.length _=_;rw[afT _ _ ⋯,afR];rfl
theorem jE:aA (HB n m js xs) (.ref (js.length+1))=.ref (js.length+1):=NL (ji ..)
theorem sB:aA (HB n m js xs) (.ref 0)=.ref 0:=rfl
theorem IM:j5 (.ref 0) (.int 0) (HB n m js xs)=.ok (.int n) (HB n m js xs):=rfl
theorem wg:cI (HB n m js xs) (.ref (js.length+1))=true:=IE (ji ..)
theorem sD(p:PV)(h:xs.length<16000000):aZ (.ref (js.length+1)) [p] (HB n m js xs)=.ok .non (HB n m js (xs++ [p])):=by rw[Fu (ji ..) p h,EH]
theorem KO:Yb (HB n m js xs) (.ref (js.length+1))=some xs:=by show(match(HB n m js xs)[js.length+1]? with|some (.lst xs)=>some xs|_=>none)=_;rw[ji]
theorem KP:(HB n m js xs).length=js.length+2:=by unfold HB;simp
theorem zB(ys:Y2)(h:xs.length+ys.length<=16777216):jC (.ref (js.length+1)) (.lst ys) (HB n m js xs)=.ok (.ref ((js++ [PO.lst xs]).length+1)) (HB n m (js++ [.lst xs]) (xs++ys)):=by have e:Yb (HB n m js xs) (.lst ys)=some ys:=rfl;unfold jC;simp only[KO,e];rw[ajz (by rw[szl];exact h),KP,aei,aev];unfold HB;rw[ae3]
theorem NV(v:PV)(T:Y3):wx 1 v (u_ n m::T)=.ok v [u_ n m]:=by unfold wx;rw[ajz (by rw[ael];exact⟨rfl,by rw[aje,aeh];lia⟩)];rfl
theorem EI(h:ai xs=true):kJ 1 (.ref (js.length+1)) (HB n m js xs)=.ok (.lst xs) [u_ n m]:=by
 have f:dK (HB n m js xs) (.ref (js.length+1))=some (.lst xs,(HB n m js xs).set (js.length+1) (.Q5 (.lst xs))):=by unfold dK;simp only[ji,h,ajA]
 unfold kJ;rw[f];exact NV n m _ _
theorem HP(hv:v.pure=true)(T:Y3):kJ 1 v (u_ n m::T)=.ok v [u_ n m]:=by unfold kJ;rw[iL _ hv];exact NV n m _ _
end
abbrev av(sc:List Si)(ls:Ya)(u:Bool):PV:=.tup [.lst (sc.map it),.lst (ls.map PV.str),.bl u]
def qM(sc:List Si)(ls:Ya)(u:Bool):(av sc ls u).pure=true:=by simp[PV.pure,ai,nZ,eH]
abbrev YW:Y1:=[116,119,110]
noncomputable def KDs:Ya:=[[],YW,[108,109],[98]]
noncomputable def CW:Y2:=[.str [],.str YW,.str YW,.str [108,109],.str [108,109],.str [98],.str [98]]
def xw(j:Int)(h0:0<=j)(h1:j<7):∃kd,kd∈KDs/\(j<3->kd= []\/kd=YW)/\∀h,j5 (.lst CW) (.int j) h=.ok (.str kd) h:=by
 rcases(show j=0\/j=1\/j=2\/j=3\/j=4\/j=5\/j=6 by lia)with rfl|rfl|rfl|rfl|rfl|rfl|rfl
 .exact⟨[],by decide,fun _=>.inl rfl,fun _=>rfl⟩
 .exact⟨YW,by decide,fun _=>.inr rfl,fun _=>rfl⟩
 .exact⟨YW,by decide,fun _=>.inr rfl,fun _=>rfl⟩
 .exact⟨[108,109],by decide,fun q=>by lia,fun _=>rfl⟩
 .exact⟨[108,109],by decide,fun q=>by lia,fun _=>rfl⟩
 .exact⟨[98],by decide,fun q=>by lia,fun _=>rfl⟩
 .exact⟨[98],by decide,fun q=>by lia,fun _=>rfl⟩
def Ng{kd:Y1}(h:kd∈KDs):Rx kd=true:=by simp only[KDs,aek,aeO,ajP]at h;rcases h with rfl|rfl|rfl|rfl<;>decide
def Nh(v deep n m:Int)(js:Y3)(xs:Y2):∃kd:Y1,kd∈KDs/\(deep<1->kd= []\/kd=YW)/\∀(x0 x2 x4 x5 x7 x8 x9 T3:Option PV),
  aaz [x0,PV.ref 0,x2,PV.int deep,x4,x5,PV.int v,x7,x8,x9,T3] (HB n m js xs)=.ok (.str kd) (HB n m js xs):=by
 have i0:=IM n m js xs;have d0:=sB n m js xs;have q3:=bD v (m:=3) ⋯;have q7:=bD v (m:=7) ⋯;obtain⟨k3,m3,t3,e3⟩:=xw (v % 3) q3.1 ⋯;obtain⟨k7,m7,_,e7⟩:=xw (v % 7) q7.1 q7.2;unfold CW at e3 e7;have lt:∀h,Tw (.int deep) (.int 1) h=.ok (.bl (decide (deep<1))) h:=fun _=>rfl;have gt:∀h,ZD (.int n) (.int 24) h=.ok (.bl (decide (24<n))) h:=fun _=>rfl;have ior:∀(a b:Ex)(ρ:Ev)(h:Y3),Yg a b ρ h=(a ρ h).bind fun p h1=>(match p with|.bl c=>if c=true then .ok (.bl true) h1 else b ρ h1|_=>.bad):=fun _ _ _ _=>rfl;have n1:∀h,j5 (.lst [.int 7,.int 3]) (.int 1) h=.ok (.int 3) h:=fun _=>rfl;have n0:∀h,j5 (.lst [.int 7,.int 3]) (.int 0) h=.ok (.int 7) h:=fun _=>rfl
 by_cases hd:deep<1
 .refine⟨k3,m3,fun _=>t3 q3.2,fun x0 x2 x4 x5 x7 x8 x9 T3=>?_⟩;rw[ajw hd]at lt;simp[EV,ior,lt,n1,e3]
 .rw[ajv hd]at lt
  by_cases hn:24<n
  .refine⟨k3,m3,fun q=>absurd q hd,fun x0 x2 x4 x5 x7 x8 x9 T3=>?_⟩;rw[ajw hn]at gt;simp[EV,ior,lt,d0,i0,gt,n1,e3]
  .refine⟨k7,m7,fun q=>absurd q hd,fun x0 x2 x4 x5 x7 x8 x9 T3=>?_⟩;rw[ajv hn]at gt;simp[EV,ior,lt,d0,i0,gt,n0,e7]
noncomputable def kj(kd:Y1)(sc:List Si):List Si:=sc.filter fun x=>kd.contains x.2.2
def HK(k:Nat)(kd:Y1)(hk:Rx kd=true)(sc:List Si)(h:Y3):cJ (gL (F k)) (jH (F k)) [PV.str kd] (sc.map it) h=.ok ((kj kd sc).map it) h:=by
 have:=iY (tt:=gL (F k)) (te:=jH (F k)) (cp:=[PV.str kd]) (h:=h) (t:=fun p=>match p with|.tup [_,.str [c]]=>kd.contains c|_=>ajt) (f:=fun p=>p) (sc.map it) (fun p hp=>by
  obtain⟨x,hx,rfl⟩:=aeX.mp hp;have ne:=gi kd [] h (fun c hc=>ajG (aeM.mp hk c hc)) (by simp);have i1:=cO x.2.2 kd;have x1:j5 (it x) (.int 1) h=.ok (.str [x.2.2]) h:=rfl;have iN:Wz (.str [x.2.2]) (.str kd) h=.ok (.bl (kd.contains x.2.2)) h:=by rw[<- i1];rfl
  have di:aA h (it x)=it x:=rfl;show _=Res.ok (kd.contains x.2.2) h
  cases z:kd.contains x.2.2 with
  |false=>rw[z]at iN;simp[EV,gL,di,x1,iN]
  |true=>
   rw[z]at iN
   have nk:decide (kd= [])=ajt:=by
    cases kd with
    |nil=>simp at z
    |cons a b=>simp
   rw[nk]at ne;simp[EV,gL,di,x1,iN,ne]) (fun p hp=>by
  obtain⟨x,hx,rfl⟩:=aeX.mp hp;rfl)
 rw[this,ajr,ai8];rfl
theorem GN(fs:List Si)(v:Int):(∃x∈fs,Sy (fs.map it++ [.tup [.non,.str []]]) (v / 7 % (if(fs.length:Int)>1 then(fs.length:Int)else 1))=some (it x))\/(fs= []/\Sy (fs.map it++ [.tup [.non,.str []]]) (v / 7 % (if(fs.length:Int)>1 then(fs.length:Int)else 1))=some (.tup [.non,.str []])):=by
 cases fs with
 |nil=>exact .inr ⟨rfl,by
   have e:v / 7 % (if(([]:List Si).length:Int)>1 then(([]:List Si).length:Int)else 1)=0:=by simp[Int.emod_one]
   rw[e];rfl⟩
 |cons a r=>
  left
  generalize hm:(if((a::r).length:Int)>1 then((a::r).length:Int)else 1)=m
  have m1:0<m/\m<=((a::r).length:Int):=by
   rw[aeh]at hm |-
   split at hm<;>lia
  have h0:=bD (v / 7) m1.1;generalize v / 7 % m=j at h0;have hj:j.toNat<(a::r).length:=by lia
  refine⟨(a::r)[j.toNat],afh hj,eQ h0.1 ?_⟩;rw[aez (by rw[aes];exact hj),aeY,aej hj];rfl
def fC{f:Ex}(e:f ρ h=.ok v h1):aG i f ρ h=.nx (ρ.set i (some v)) h1:=by unfold aG;rw[e];rfl
def Got(r:Res PV)(n m:Int)(d c e u:Nat):Prop:=∃ns n',r=.ok (.lst (g8 ns)) [u_ n' m]/\Nk d e u ns/\n<=n'/\n'<=n+(c:Int)
def ZP(sc:List Si):Prop:=∀x∈sc,CU x/\x.2.1.length<=1
def vV(a b:List Nd):g8 (a++b)=g8 a++g8 b:=by rw[fH,fH,fH,aeP]
def iC(a:List Nd):(g8 a).length=a.length:=by rw[fH,aes]
def qN(a b:Y2)(h:Y3)(q:a.length+b.length<=16777216):aE (.lst a) (.lst b) h=.ok (.lst (a++b)) h:=by show(if a.length+b.length<=ajx then _ else _)=_;rw[ajz (by rw[szl];exact q)]
def pE(C:CC)(D:DD):Sx:=(H6 ad6 (cx (cM cI aZ (ac 4) (aa (cN aW (aa aam (aa (aJ (C .U9) (aa acF af)) af))) af))) (H6 ad2 (aG 4 (c2 jC (ac 4) (aJ (C .Un) abP))) (H6 ad1 (aG 4 (c2 jC (ac 4) (bn (D .Q9) acB))) (aG 4 (c2 jC (ac 4) (bn (D .Tp) acf))))))
theorem EA(a:Y1)(f:Ya):oj (N8 a f)=ajt:=rfl
theorem Nl:oj .non=true:=rfl
theorem rK(h:Y3)(a:Y1)(f:Ya):aA h (N8 a f)=N8 a f:=rfl
def zA(c:Nat)(h:Y3):Wz (.str [c]) (.str [116,119,110]) h=.ok (.bl (YW.contains c)) h:=by rw[<- cO];rfl
section
variable(k:Nat)(n n' m v:Int)(js:Y3)(A ns:List Nd)(hA:A.length<=1000)(hn:ns.length<=1000)(y0 y1 y2 y3 y5 y7 y8 ZR:Option PV)
include hA
theorem Bz(d U:Nat)(hU:3<=U)(h0:0<=v)(h1:v<400000000):∃ns,Nk d 5 U ns/\
  pE (F (k+2)) (L (k+2)) [y0,y1,y2,y3,PV.ref (js.length+1),y5,PV.int v,y7,y8,some .non,ZR] (HB n m js (g8 A))=.nx [y0,y1,y2,y3,PV.ref (js.length+1),y5,PV.int v,y7,y8,some .non,ZR] (HB n m js (g8 (A++ns))):=by
 have q7:0<=v / 7/\v / 7<400000000:=by lia
 obtain⟨s,sn,sl,sc,te⟩:=Ac k (v / 7) q7.1 q7.2;have te:∀h,aR (F (k+2) .U9) [.int (v / 7)] h=.ok (.str s) h:=fun h=>aH h rfl te;refine⟨[.text s],Nk.text sn sc ⋯ ⋯ ⋯,?_⟩;have tn:PV.tup [.str [116,101,120,116],.str s]=nd (.text s):=by rw[nd]
 have d4:=jE n m js (g8 A);have li:=wg n m js (g8 A);have ap:=sD n m js (g8 A) (nd (.text s)) (by rw[iC];lia);have e:g8 (A++ [.text s])=g8 A++ [nd (.text s)]:=by rw[vV];rfl
 rw[e];simp[EV,pE,Nl,d4,li,te,tn,ap]
theorem yF(d:Nat)(ha:Rx a=true)(hf:∀s∈f,Rx s=true)(c:Nat)(hc:c=116\/c=119\/c=110)(a0 a1:PV)(h0:0<=v)(h1:v<400000000):∃ns,Nk d 5 2004 ns/\
  pE (F (k+3)) (L (k+3)) [y0,y1,PV.tup [a0,a1,.bl true],y3,PV.ref (js.length+1),y5,PV.int v,y7,y8,N8 a f,PV.str [c]] (HB n m js (g8 A))=.nx [y0,y1,PV.tup [a0,a1,.bl true],y3,PV.ref ((js++ [PO.lst (g8 A)]).length+1),y5,PV.int v,y7,y8,N8 a f,PV.str [c]] (HB n m (js++ [.lst (g8 A)]) (g8 (A++ns))):=by
 have q:0<=v / 49/\v / 49<400000000:=by lia
 obtain⟨ns,nk,e⟩:=DI k d ha hf c hc (v / 49) q.1 q.2;have e:∀h,aR (F (k+3) .Un) [N8 a f,.str [c],.bl true,.int (v / 49)] h=.ok (.lst (g8 ns)) h:=fun h=>aH h (by simp[ai,kh,PV.pure]) e;refine⟨ns,nk,?_⟩;have d4:=jE n m js (g8 A);have ix:∀h,j5 (.tup [a0,a1,.bl true]) (.int 2) h=.ok (.bl true) h:=fun _=>rfl;have i1:YW.contains c=true:=by rcases hc with rfl|rfl|rfl<;>rfl
 have ad:=zB n m js (g8 A) (g8 ns) (by rw[iC,iC];have:=nk.ln;lia);rw[vV];simp[EV,pE,EA,rK,zA,i1,d4,ix,e,ad]
include hn
theorem xm(deep:Int)(cs:List Int)(w p:Y2)(hw:(PV.tup w).pure=true)(a:Y1)(f:Ya)(e:L k .Q9 [cv cs,.ref 0,.tup w,N8 a f,.int deep] [u_ n m]=.ok (.lst (g8 ns)) [u_ n' m]):
  pE (F k) (L k) [cv cs,PV.ref 0,PV.tup w,PV.int deep,PV.ref (js.length+1),y5,PV.int v,y7,y8,N8 a f,PV.str [98]] (HB n m js (g8 A))=.nx [cv cs,PV.ref 0,PV.tup w,PV.int deep,PV.ref ((js++ [PO.lst (g8 A)]).length+1),y5,PV.int v,y7,y8,N8 a f,PV.str [98]] (HB n' m (js++ [.lst (g8 A)]) (g8 (A++ns))):=by
 have d4:=jE n m js (g8 A);have d0:=sB n m js (g8 A);have i1:YW.contains 98=ajt:=rfl;have eb:∀h,v9 (.str [98]) (.str [98]) h=.ok (.bl true) h:=fun h=>iQ _ _ h ⋯ ⋯;have cc:z_ (L k .Q9) [cv cs,.ref 0,.tup w,N8 a f,.int deep] (HB n m js (g8 A))=.ok (.lst (g8 ns)) (HB n' m js (g8 A)):=dB (fn:=L k .Q9) [cv cs] [.tup w,N8 a f,.int deep] (by rw[ai,iF];rfl) (by rw[ai,hw,ai,kh];rfl) rfl (ci _ _) e (dP ns) (ci _ _);have ad:=zB n' m js (g8 A) (g8 ns) (by rw[iC,iC];lia);rw[vV];simp[EV,pE,EA,rK,fy,zA,i1,d4,d0,eb,cc,ad]
theorem BA(deep:Int)(c:Nat)(hc:c=108\/c=109)(cs:List Int)(w p:Y2)(hw:(PV.tup w).pure=true)(a:Y1)(f:Ya)(e:L k .Tp [cv cs,.ref 0,.tup w,N8 a f,.str [c],.int deep] [u_ n m]=.ok (.lst (g8 ns)) [u_ n' m]):
  pE (F k) (L k) [cv cs,PV.ref 0,PV.tup w,PV.int deep,PV.ref (js.length+1),y5,PV.int v,y7,y8,N8 a f,PV.str [c]] (HB n m js (g8 A))=.nx [cv cs,PV.ref 0,PV.tup w,PV.int deep,PV.ref ((js++ [PO.lst (g8 A)]).length+1),y5,PV.int v,y7,y8,N8 a f,PV.str [c]] (HB n' m (js++ [.lst (g8 A)]) (g8 (A++ns))):=by
 have d4:=jE n m js (g8 A);have d0:=sB n m js (g8 A);have i1:YW.contains c=ajt:=by rcases hc with rfl|rfl<;>rfl
 have eb:∀h,v9 (.str [c]) (.str [98]) h=.ok (.bl ajt) h:=fun h=>by rcases hc with rfl|rfl<;>exact iQ _ _ h ⋯ ⋯
 have cc:z_ (L k .Tp) [cv cs,.ref 0,.tup w,N8 a f,.str [c],.int deep] (HB n m js (g8 A))=.ok (.lst (g8 ns)) (HB n' m js (g8 A)):=dB (fn:=L k .Tp) [cv cs] [.tup w,N8 a f,.str [c],.int deep] (by rw[ai,iF];rfl) (by rw[ai,hw,ai,kh];rfl) rfl (ci _ _) e (dP ns) (ci _ _);have ad:=zB n' m js (g8 A) (g8 ns) (by rw[iC,iC];lia);rw[vV];simp[EV,pE,EA,rK,fy,zA,i1,d4,d0,eb,cc,ad]
end
abbrev CLA(k:Nat)(cs:List Int)(sc:List Si)(ls:Ya)(d c U:Nat)(m:Int):Prop:=1<=d->∀n:Int,0<=n->n+(c:Int)<=1000000->∀a f,Rx a=true->(∀s∈f,Rx s=true)->f.length<=1->Got (L (k+4) .Q9 [cv cs,.ref 0,av sc ls true,N8 a f,.int d] [u_ n m]) n m d c 5 U/\∀q,q=108\/q=109->Got (L (k+4) .Tp [cv cs,.ref 0,av sc ls true,N8 a f,.str [q],.int d] [u_ n m]) n m d c 5 U
def za(k:Nat)(cs:List Int)(hc:cs.length<=63)(sc:List Si)(hs:ZP sc)(sl:sc.length<=100)(ls:Ya)(d c U:Nat)(hU:2004<=U)(m:Int)
  (CL:CLA k cs sc ls d c U m)
  (n:Int) (h0:0<=n) (h1:n+1+(c:Int)<=1000000) (js:Y3) (A:List Nd) (hA:A.length<=1000) (x5 x6 x7 x8 x9 T3:Option PV):
  ∃(Zb:Y3)(E:List Nd)(n':Int)(y6 y7 y8 y9 ZR:Option PV),iH (F (k+4)) (L (k+4)) [cv cs,PV.ref 0,av sc ls true,PV.int d,PV.ref (js.length+1),x5,x6,x7,x8,x9,T3] (HB n m js (g8 A))=.nx [cv cs,PV.ref 0,av sc ls true,PV.int d,PV.ref (Zb.length+1),x5,y6,y7,y8,y9,ZR] (HB n' m Zb (g8 (A++E)))/\Nk d 5 U E/\n<=n'/\n'<=n+1+(c:Int):=by
 obtain⟨v,v0,v1,ce⟩:=dA (k+3) cs hc n m h0 ⋯ (js++ [.lst (g8 A)]);have ce:z_ (L (k+4) .K5) [cv cs,.ref 0] (HB n m js (g8 A))=.ok (.int v) (HB (n+1) m js (g8 A)):=ce;obtain⟨kd,km,kd0,ke⟩:=Nh v d (n+1) m js (g8 A);have ft:=HK (k+4) kd (Ng km) sc (HB (n+1) m js (g8 A));have d0:=sB n m js (g8 A)
 have e6:aG 6 (bn (L (k+4) .K5) aaF) [cv cs,PV.ref 0,av sc ls true,PV.int d,PV.ref (js.length+1),x5,x6,x7,x8,x9,T3] (HB n m js (g8 A))=.nx [cv cs,PV.ref 0,av sc ls true,PV.int d,PV.ref (js.length+1),x5,PV.int v,x7,x8,x9,T3] (HB (n+1) m js (g8 A)):=by simp[EV,fy,d0,ce]
 have e7:=fC (i:=7) (ke (some (cv cs)) (some (av sc ls true)) (some (.ref (js.length+1))) x5 x7 x8 x9 T3);have lf:(kj kd sc).length<=100:=aeI (agG _ _) sl;have ix0:∀h,j5 (av sc ls true) (.int 0) h=.ok (.lst (sc.map it)) h:=fun _=>rfl;have ln:(sc.map it).length<16777216:=by rw[aes];lia
 have cp:∀(a b c d e f g' i j l:Option PV),cU [7] [a,b,c,d,e,f,g',some (PV.str kd),i,j,l]=[some (.str kd)]:=fun _ _ _ _ _ _ _ _ _ _=>rfl
 have e8:aG 8 (cN VL (cy [7] (iO abg) (gL (F (k+4))) (jH (F (k+4))))) [cv cs,PV.ref 0,av sc ls true,PV.int d,PV.ref (js.length+1),x5,PV.int v,PV.str kd,x8,x9,T3] (HB (n+1) m js (g8 A))=.nx [cv cs,PV.ref 0,av sc ls true,PV.int d,PV.ref (js.length+1),x5,PV.int v,PV.str kd,PV.lst ((kj kd sc).map it),x9,T3] (HB (n+1) m js (g8 A)):=by generalize sc.map it=S at*;simp[EV,ix0,ln,cp,ft]
 have ll:∀h,bS [.lst ((kj kd sc).map it)] h=.ok (.int ((kj kd sc).length:Nat)) h:=fun h=>by rw[IA,aes]
 have al:=fun h=>qN ((kj kd sc).map it) [.tup [.non,.str []]] h (by rw[aes,aev];lia)
 have mp:decide ((0:Int)<if((kj kd sc).length:Int)>1 then((kj kd sc).length:Int)else 1)=true:=by
  apply ajw
  split<;>lia
 have go:∀(P:PV)(O:Y1),Sy ((kj kd sc).map it++ [.tup [.non,.str []]]) (v / 7 % (if((kj kd sc).length:Int)>1 then((kj kd sc).length:Int)else 1))=some (.tup [P,.str O])->yJ adv abd [cv cs,PV.ref 0,av sc ls true,PV.int d,PV.ref (js.length+1),x5,PV.int v,PV.str kd,PV.lst ((kj kd sc).map it),x9,T3] (HB (n+1) m js (g8 A))=.nx [cv cs,PV.ref 0,av sc ls true,PV.int d,PV.ref (js.length+1),x5,PV.int v,PV.str kd,PV.lst ((kj kd sc).map it),P,PV.str O] (HB (n+1) m js (g8 A)):=fun P O e=>by generalize(kj kd sc).map it=fl at*;generalize(kj kd sc).length=fn at*;simp[EV,ll,al,mp,e]
 have wp:(av sc ls true).pure=true:=qM sc ls true;unfold iH;rw[sq e6,sq e7];simp only[ag9,af8];rw[sq e8];rcases GN (kj kd sc) v with⟨x,hx,e⟩|⟨_,e⟩
 .rw[sq (go _ _ e)];obtain⟨m1,m2⟩:=ahR.mp hx;obtain⟨ok,xl⟩:=hs x m1;obtain⟨o1,o2,o3⟩:=ok
  by_cases t:x.2.2=116\/x.2.2=119\/x.2.2=110
  .obtain⟨ns,nk,e3⟩:=yF (k+1) (n+1) m v js A hA (some (cv cs)) (some (.ref 0)) (some (.int d)) x5 (some (.str kd)) (some (.lst ((kj kd sc).map it))) d o1 o2 x.2.2 t (.lst (sc.map it)) (.lst (ls.map PV.str)) v0 v1;exact⟨_,ns,n+1,_,_,_,_,_,e3,nk.mono (aeB _) (aeB _) hU,by lia,by lia⟩
  .have J0:1<=d:=by
    rcases Nat.eq_zero_or_pos d with q|q
    .exfalso;rcases kd0 ⋯with r|r
     .rw[r]at m2;simp at m2
     .rw[r]at m2;exact t (by simpa using m2)
    .exact q
   obtain⟨ch,lp⟩:=CL J0 (n+1) ⋯ ⋯ x.1 x.2.1 o1 o2 xl
   by_cases q:x.2.2=98
   .obtain⟨ns,n',e,nk,l1,l2⟩:=ch;have e3:=xm (k+4) (n+1) n' m v js A ns hA (by have:=nk.ln;lia) x5 (some (.str kd)) (some (.lst ((kj kd sc).map it))) d cs _ [] wp x.1 x.2.1 e;rw[q];exact⟨_,ns,n',_,_,_,_,_,e3,nk,by lia,by lia⟩
   .have q2:x.2.2=108\/x.2.2=109:=by
     simp only[knd,aek,aeO,ajP]at o3
     lia
    obtain⟨ns,n',e,nk,l1,l2⟩:=lp x.2.2 q2;have e3:=BA (k+4) (n+1) n' m v js A ns hA (by have:=nk.ln;lia) x5 (some (.str kd)) (some (.lst ((kj kd sc).map it))) d x.2.2 q2 cs _ [] wp x.1 x.2.1 e;exact⟨_,ns,n',_,_,_,_,_,e3,nk,by lia,by lia⟩
 .rw[sq (go _ _ e)];obtain⟨ns,nk,e3⟩:=Bz (k+2) (n+1) m v js A hA (some (cv cs)) (some (.ref 0)) (some (av sc ls true)) (some (.int d)) x5 (some (.str kd)) (some (.lst ((kj kd sc).map it))) (some (.str [])) d U ⋯ v0 v1;exact⟨_,ns,n+1,_,_,_,_,_,e3,nk,by lia,by lia⟩
theorem rT(k:Nat)(cs:List Int)(hc:cs.length<=63)(sc:List Si)(hs:ZP sc)(sl:sc.length<=100)(ls:Ya)(d c U:Nat)(hU:2004<=U)(m:Int)
  (CL:CLA k cs sc ls d c U m):
  ∀(xs:Y2)(n:Int)(js:Y3)(A:List Nd)(x5 x6 x7 x8 x9 T3:Option PV),0<=n->n+((xs.length * (1+c):Nat):Int)<=1000000->A.length+5 * xs.length<=1000->
  ∃(Zb:Y3)(E:List Nd)(n':Int)(y5 y6 y7 y8 y9 ZR:Option PV),bc (P0 5) (iH (F (k+4)) (L (k+4))) xs [cv cs,PV.ref 0,av sc ls true,PV.int d,PV.ref (js.length+1),x5,x6,x7,x8,x9,T3] (HB n m js (g8 A))=.nx [cv cs,PV.ref 0,av sc ls true,PV.int d,PV.ref (Zb.length+1),y5,y6,y7,y8,y9,ZR] (HB n' m Zb (g8 (A++E)))/\Nk d (5 * xs.length) (xs.length * U) E/\n<=n'/\n'<=n+((xs.length * (1+c):Nat):Int)
 |[],n,js,A,x5,x6,x7,x8,x9,T3,h0,h1,hA=>⟨js,[],n,x5,x6,x7,x8,x9,T3,by rw[aep];rfl,Nk.nil d _ _,by lia,by lia⟩
 |x::r,n,js,A,x5,x6,x7,x8,x9,T3,h0,h1,hA=>by
  have e:(x::r).length * (1+c)=r.length * (1+c)+(1+c):=by rw[aeh,agz]
  rw[e]at h1;rw[aeh]at hA;generalize hT:r.length * (1+c)=T at h1 e;obtain⟨js1,B1,n1,a6,a7,a8,a9,a10,e1,f1,p1,q1⟩:=za k cs hc sc hs sl ls d c U hU m CL n h0 ⋯ js A ⋯ (some x) x6 x7 x8 x9 T3;have fn:=f1.ln;obtain⟨js2,B2,n2,b5,b6,b7,b8,b9,b10,e2,f2,p2,q2⟩:=rT k cs hc sc hs sl ls d c U hU m CL r n1 js1 (A++B1) (some x) a6 a7 a8 a9 a10 ⋯ (by rw[hT];lia) (by rw[aei];lia);rw[aeK]at e2;rw[hT]at q2;exact⟨js2,B1++B2,n2,b5,b6,b7,b8,b9,b10,(cC rfl e1).trans e2,(f1.app f2).mono (aeB _) (by rw[aeh];lia) (by rw[aeh,agz,Nat.add_comm];exact aeB _),by lia,by rw[e];lia⟩
def gB{f:Sx}{np:Nat}{r:Res PV}(hl:ps.length=np)(e:f (ps.map some++aju (n - ps.length) none) h=.rt v h1)(g:kJ h.length v h1=r):fO f np n ps h=r:=by unfold fO;rw[ajz hl,e];exact g
def xQ(k:Nat)(cs:List Int)(hc:cs.length<=63)(sc:List Si)(hs:ZP sc)(sl:sc.length<=100)(ls:Ya)(d c U:Nat)(hU:2004<=U)(m:Int)
  (CL:CLA k cs sc ls d c U m)
  (n:Int) (h0:0<=n) (h1:n+((5+4 * c:Nat):Int)<=1000000):Got (L (k+5) .K1 [cv cs,.ref 0,av sc ls true,.int d] [u_ n m]) n m d (5+4 * c) 20 (4 * U):=by
 obtain⟨v,v0,v1,ce⟩:=dA (k+3) cs hc n m h0 ⋯ [.lst []];have ce:z_ (L (k+4) .K5) [cv cs,.ref 0] (HB n m [] [])=.ok (.int v) (HB (n+1) m [] []):=ce;have v4:=bD (v / 5) (m:=4) ⋯;have be:VJ 4611686018427387904 (1+v / 5 % 4)=true:=bW.mpr ⟨by lia,by lia⟩
 have lx:1<=((ajy (1+v / 5 % 4).toNat).map fun i:Nat=>PV.int (0+i)).length/\((ajy (1+v / 5 % 4).toNat).map fun i:Nat=>PV.int (0+i)).length<=4:=by rw[aes,aeH];lia
 generalize hx:((ajy (1+v / 5 % 4).toNat).map fun i:Nat=>PV.int (0+i))=xs at lx;have m4:xs.length * (1+c)<=4 * (1+c):=afJ _ lx.2;obtain⟨Zb,E,n',y5,y6,y7,y8,y9,ZR,lp,nk,l1,l2⟩:=rT k cs hc sc hs sl ls d c U hU m CL xs (n+1) [] [] none none none none none none ⋯ ⋯ (by rw[aeJ];lia);rw[aeN]at lp;refine⟨E,n',?_,nk.mono (aeB _) ⋯ (afJ _ lx.2),by lia,by lia⟩;have d0:=sB n m [] [];have lp:bc (P0 5) (iH (F (k+4)) (L (k+4))) xs [cv cs,PV.ref 0,av sc ls true,PV.int d,PV.ref 1,none,none,none,none,none,none] (HB (n+1) m [] [])=_:=lp;have e4:aG 4 aaW [cv cs,PV.ref 0,av sc ls true,PV.int d,none,none,none,none,none,none,none] [u_ n m]=.nx [cv cs,PV.ref 0,av sc ls true,PV.int d,PV.ref 1,none,none,none,none,none,none] (HB n m [] []):=rfl;show fO (mB (F (k+4)) (L (k+4))) 4 11 [cv cs,.ref 0,av sc ls true,.int d] [u_ n m]=_;refine gB (h1:=HB n' m Zb (g8 E)) (v:=.ref (Zb.length+1)) rfl ?_ (EI n' m Zb (g8 E) (bv E));show mB (F (k+4)) (L (k+4)) [cv cs,PV.ref 0,av sc ls true,PV.int d,none,none,none,none,none,none,none] [u_ n m]=_;unfold mB;rw[sq e4];have dr:=jE n' m Zb (g8 E);simp[EV,fy,d0,ce,be,hx,lp,dr]
section
variable(n m:Int)(js:Y3)(xs:Y2)
theorem AI(i:Int)(e:Sy xs i=some v)(hv:v.pure=true):j5 (.ref (js.length+1)) (.int i) (HB n m js xs)=.ok v (HB n m js xs):=by
 have a:Y5 (HB n m js xs) (.ref (js.length+1))=none:=by unfold Y5;dsimp only;rw[ji]
 have b:Yw (HB n m js xs) (.ref (js.length+1))=some xs:=by unfold Yw Yb;dsimp only;rw[ji]
 have c:aA (HB n m js xs) v=v:=ar _ hv;unfold j5;dsimp only;rw[a];dsimp only;rw[b];dsimp only;rw[e];dsimp only;rw[c]
theorem EG(i:Int)(j:Nat)(v:PV)(ρ:Ev)(e:Y0 xs.length i=some j):lF v (.ref (js.length+1)) (.int i) ρ (HB n m js xs)=.nx ρ (HB n m js (xs.set j v)):=by
 have l:pJ (HB n m js xs) (.ref (js.length+1))=some (js.length+1,xs):=by unfold pJ;dsimp only;rw[ji]
 unfold lF;rw[l];dsimp only;rw[e];dsimp only;rw[EH]
end
def lM(i:Int)(h0:0<=i)(h1:i<95):∃c,sgn [c]/\∀h,j5 (.str (gV++gU)) (.int i) h=.ok (.str [c]) h:=by obtain⟨c,hc,e⟩:=vY i h0 h1;exact⟨c,fun x hx=>by rw[aeo]at hx;rw[hx];exact hc,e⟩
def qU(s:Y1):PV.tup [.str [116,101,120,116],.str s]=nd (.text s):=by rw[nd]
def rU{c e:Nat}{l:List Nd}{s:Nat}(h:Nk d c e l)(hs:sgn [s]):Nk d (c+1) (e+1) (.text [s]::l):=((Nk.text (c:=1) (e:=1) (ai0 _ _) hs (aeB _) (aeB _) (aeB _)).app h).mono (aeB _) ⋯ ⋯
def DZ{e:Nat}{x:Nd}(hx:Zf d x)(t:tN x=0){s:Nat}(hs:sgn [s])(hu:uN x+1<=e):Nk d 5 e [x,.text [s]]:=⟨fun n hn=>by
 rcases aek.mp hn with rfl|hn
 .exact hx
 .rw[aeo]at hn;rw[hn];exact qB d (ai0 _ _) hs,by cases x<;>rfl,by rw[tS,tS,tS,t,tN];simp,by simp,by rw[uS,uS,uS,uN];simp;lia⟩
def Zy(l:List Nd):Prop:=l= []\/hdT l=true
def zJ(n m v:Int)(js:Y3)(A E:List Nd){c e:Nat}(fA:Nk d c e A)(fE:Nk d c e E)(sA:Zy A)(sE:Zy E)(x0 x1 x2 x3 x4 x6 x8:Option PV):∃A' E',Nk d c e A'/\Nk d c e E'/\Zy A'/\Zy E'/\
  H6 acO ab_ bh [x0,x1,x2,x3,x4,PV.int v,x6,PV.ref (js.length+1),x8] (HB n m js [.lst (g8 A),.lst (g8 E)])=.nx [x0,x1,x2,x3,x4,PV.int v,x6,PV.ref (js.length+1),x8] (HB n m js [.lst (g8 A'),.lst (g8 E')]):=by
 have dr:=jE n m js [.lst (g8 A),.lst (g8 E)]
 by_cases q:v / 95 % 3=1
 .rcases(by lia:v / 285 % 2=0\/v / 285 % 2=1)with r|r
  .refine⟨[],E,Nk.nil d c e,fE,.inl rfl,sE,?_⟩;have st:=fun ρ=>EG n m js [.lst (g8 A),.lst (g8 E)] 0 0 (.lst []) ρ rfl;rw[g8];simp[EV,db,q,r,dr,st]
  .refine⟨A,[],fA,Nk.nil d c e,sA,.inl rfl,?_⟩;have st:=fun ρ=>EG n m js [.lst (g8 A),.lst (g8 E)] 1 1 (.lst []) ρ rfl;rw[g8];simp[EV,db,q,r,dr,st]
 .refine⟨A,E,fA,fE,sA,sE,?_⟩;simp[EV,db,q]
def zI(k:Nat)(n m v w:Int)(w0:0<=w)(js:Y3)(A E:List Nd){e:Nat}(hd:d<=28)(fA:Nk d 21 e A)(fE:Nk d 21 e E)(sA:Zy A)(sE:Zy E)(a:Y1)(f:Ya)(ha:Rx a=true)(hf:∀s∈f,Rx s=true)(a0 a1:PV)(x0 x1 x4 x8:Option PV):∃ns,Nk (d+1) 5 (2 * e+2) ns/\
  (aw (aG 8 (cN aW (aa aaQ (aa (ac 3) (aa (aJ (F (k+1) .Ue) acG) (aa (aJ (F (k+1) .Ue) acI) af))))))
  (aw abr
  (aQ (cN bY (aa (ac 8) (aa (cN aW (aa aam (aa (c2 j5 (aJ (F (k+1) .K3) af) adz) af))) af)))))) [x0,x1,PV.tup [a0,a1,.bl true],N8 a f,x4,PV.int v,PV.int w,PV.ref (js.length+1),x8] (HB n m js [.lst (g8 A),.lst (g8 E)])=.rt (.lst (g8 ns)) (HB n m js [.lst (g8 A),.lst (g8 E)]):=by
 obtain⟨A2,gA,hA1,hA2,eA⟩:=nS k hd ⋯ A fA;obtain⟨E2,gE,hE1,hE2,eE⟩:=nS k hd ⋯ E fE;have i0:=AI n m js [.lst (g8 A),.lst (g8 E)] 0 rfl (dP A);have i1:=AI n m js [.lst (g8 A),.lst (g8 E)] 1 rfl (dP E);have dr:=jE n m js [.lst (g8 A),.lst (g8 E)];have cn:PV.tup [.str [99,104,111,105,99,101],N8 a f,.tup (g8 A2),.tup (g8 E2)]=nd (.choice a f A2 E2):=by rw[nd]
 have e8:aG 8 (cN aW (aa aaQ (aa (ac 3) (aa (aJ (F (k+1) .Ue) acG) (aa (aJ (F (k+1) .Ue) acI) af))))) [x0,x1,PV.tup [a0,a1,.bl true],N8 a f,x4,PV.int v,PV.int w,PV.ref (js.length+1),x8] (HB n m js [.lst (g8 A),.lst (g8 E)])=.nx [x0,x1,PV.tup [a0,a1,.bl true],N8 a f,x4,PV.int v,PV.int w,PV.ref (js.length+1),nd (.choice a f A2 E2)] (HB n m js [.lst (g8 A),.lst (g8 E)]):=by simp[EV,rK,dr,i0,i1,eA,eE,cn]
 rw[sq e8];have x1':=BZ gA gE (sA.elim (fun q=>.inl (hA2 q)) fun q=>.inr (hA1 q)) (sE.elim (fun q=>.inl (hE2 q)) fun q=>.inr (hE1 q)) ha hf;have ix:∀h,j5 (.tup [a0,a1,.bl true]) (.int 2) h=.ok (.bl true) h:=fun _=>rfl;have q9:=bD (w+2) (m:=95) ⋯;obtain⟨c,cc,ce⟩:=lM _ q9.1 q9.2;have mk:=gD k;have n2:PV.lst [nd (.choice a f A2 E2),nd (.text [c])]=.lst (g8 [.choice a f A2 E2,.text [c]]):=by rw[g8,g8,g8]
 have f2:=DZ (e:=2 * e+2) (s:=c) x1' rfl cc (by rw[uN];have:=gA.ub;have:=gE.ub;lia);generalize Nd.choice a f A2 E2=N at*;refine⟨_,f2,?_⟩;simp[EV,ix,bR,mk,ce,qU,n2]
def wA(k:Nat)(cs:List Int)(sc:List Si)(ls:Ya)(d:Nat)(n1 n2 n3 m:Int)(A E:List Nd)
  (eA:L k .K1 [cv cs,.ref 0,av sc ls true,.int d] [u_ n1 m]=.ok (.lst (g8 A)) [u_ n2 m]) (eE:L k .K1 [cv cs,.ref 0,av sc ls true,.int d] [u_ n2 m]=.ok (.lst (g8 E)) [u_ n3 m]):
  cJ bQ (df (F k) (L k)) [cv cs,PV.ref 0,av sc ls true,PV.int ((d+1:Nat):Int)] ((ajy (aj8 2)).map fun i:Nat=>PV.int (0+i)) [u_ n1 m]=.ok [.lst (g8 A),.lst (g8 E)] [u_ n3 m]:=by
 have sd:((d+1:Nat):Int) - 1=(d:Int):=by lia
 have pr:ai [av sc ls true,.int d]=true:=by rw[ai,qM];rfl
 have cA:z_ (L k .K1) [cv cs,.ref 0,av sc ls true,.int d] [u_ n1 m]=.ok (.lst (g8 A)) [u_ n2 m]:=dB (fn:=L k .K1) [cv cs] [av sc ls true,.int d] (by rw[ai,iF];rfl) pr rfl (ci _ _) eA (dP A) (ci _ _);have cE:z_ (L k .K1) [cv cs,.ref 0,av sc ls true,.int d] [u_ n2 m]=.ok (.lst (g8 E)) [u_ n3 m]:=dB (fn:=L k .K1) [cv cs] [av sc ls true,.int d] (by rw[ai,iF];rfl) pr rfl (ci _ _) eE (dP E) (ci _ _);have d0:∀n,aA [u_ n m] (.ref 0)=.ref 0:=fun _=>rfl
 have s1:∀i:PV,df (F k) (L k) [i,cv cs,PV.ref 0,av sc ls true,PV.int ((d+1:Nat):Int)] [u_ n1 m]=.ok (.lst (g8 A)) [u_ n2 m]:=fun i=>by simp[EV,df,fy,d0,sd,cA]
 have s2:∀i:PV,df (F k) (L k) [i,cv cs,PV.ref 0,av sc ls true,PV.int ((d+1:Nat):Int)] [u_ n2 m]=.ok (.lst (g8 E)) [u_ n3 m]:=fun i=>by simp[EV,df,fy,d0,sd,cE]
 show cJ bQ (df (F k) (L k)) _ [PV.int (0+((0:Nat):Int)),PV.int (0+((1:Nat):Int))] [u_ n1 m]=_;simp only[cJ,bQ,Res.K9,ajA,s1,s2]
def wB(k:Nat)(n m w:Int)(A E:List Nd)(lA:A.length<=1000)(lE:E.length<=1000):∃c e,sgn [c]/\sgn [e]/\
  cJ bQ (de (F (k+1))) [PV.ref 1,PV.int w] ((ajy (aj8 2)).map fun i:Nat=>PV.int (0+i)) (HB n m [] [.lst (g8 A),.lst (g8 E)])=.ok [.lst (g8 (.text [c]::A)),.lst (g8 (.text [e]::E))] (HB n m [] [.lst (g8 A),.lst (g8 E)]):=by
 have q0:=bD (w+0) (m:=95) ⋯;have q1:=bD (w+1) (m:=95) ⋯;obtain⟨c,cc,ce⟩:=lM _ q0.1 q0.2;obtain⟨e,ec,ee⟩:=lM _ q1.1 q1.2;refine⟨c,e,cc,ec,?_⟩;have mk:=gD k;have i0:j5 (.ref 1) (.int 0) (HB n m [] [.lst (g8 A),.lst (g8 E)])=.ok (.lst (g8 A)) (HB n m [] [.lst (g8 A),.lst (g8 E)]):=AI n m [] [.lst (g8 A),.lst (g8 E)] 0 rfl (dP A);have i1:j5 (.ref 1) (.int 1) (HB n m [] [.lst (g8 A),.lst (g8 E)])=.ok (.lst (g8 E)) (HB n m [] [.lst (g8 A),.lst (g8 E)]):=AI n m [] [.lst (g8 A),.lst (g8 E)] 1 rfl (dP E);have dr:aA (HB n m [] [.lst (g8 A),.lst (g8 E)]) (.ref 1)=.ref 1:=rfl;have z1:=fun h=>qN [nd (.text [c])] (g8 A) h (by rw[iC,aev];lia);have z2:=fun h=>qN [nd (.text [e])] (g8 E) h (by rw[iC,aev];lia);rw[g8,g8];generalize g8 A=xA at*;generalize g8 E=xE at*;generalize HB n m [] [.lst xA,.lst xE]=hh at*
 have s1:de (F (k+1)) [PV.int 0,PV.ref 1,PV.int w] hh=.ok (.lst (nd (.text [c])::xA)) hh:=by simp[EV,de,mk,ce,dr,i0,qU,z1]
 have s2:de (F (k+1)) [PV.int 1,PV.ref 1,PV.int w] hh=.ok (.lst (nd (.text [e])::xE)) hh:=by simp[EV,de,mk,ee,dr,i1,qU,z2]
 show cJ bQ (de (F (k+1))) _ [PV.int 0,PV.int 1] hh=_;simp only[cJ,bQ,Res.K9,ajA,s1,s2]
def Cy(k:Nat)(cs:List Int)(hc:cs.length<=63)(sc:List Si)(ls:Ya)(d c U:Nat)(hd:d<=25)(m:Int)(NA:∀n:Int,0<=n->n+(c:Int)<=1000000->Got (L (k+1) .K1 [cv cs,.ref 0,av sc ls true,.int d] [u_ n m]) n m d c 20 U)(a:Y1)(f:Ya)(ha:Rx a=true)(hf:∀s∈f,Rx s=true)(n:Int)(h0:0<=n)(h1:n+((1+2 * c:Nat):Int)<=1000000):
  Got (L (k+2) .Q9 [cv cs,.ref 0,av sc ls true,N8 a f,.int ((d+1:Nat):Int)] [u_ n m]) n m (d+1) (1+2 * c) 5 (2 * (U+1)+2):=by
 obtain⟨v,v0,v1,ce⟩:=dA k cs hc n m h0 ⋯ [];obtain⟨A,n1,eA,fA,a1,a2⟩:=NA (n+1) ⋯ ⋯;obtain⟨E,n2,eE,fE,b1,b2⟩:=NA n1 ⋯ ⋯;have cm:=wA (k+1) cs sc ls d (n+1) n1 n2 m A E eA eE;have p9:=bD v (m:=95) ⋯;have d0:∀n,aA [u_ n m] (.ref 0)=.ref 0:=fun _=>rfl
 have e5:aG 5 (bn (L (k+1) .K5) aaF) [cv cs,PV.ref 0,av sc ls true,N8 a f,PV.int ((d+1:Nat):Int),none,none,none,none] [u_ n m]=.nx [cv cs,PV.ref 0,av sc ls true,N8 a f,PV.int ((d+1:Nat):Int),PV.int v,none,none,none] [u_ (n+1) m]:=by simp[EV,fy,d0,ce]
 have e6:aG 6 (c2 bt (ac 5) aaL) [cv cs,PV.ref 0,av sc ls true,N8 a f,PV.int ((d+1:Nat):Int),PV.int v,none,none,none] [u_ (n+1) m]=.nx [cv cs,PV.ref 0,av sc ls true,N8 a f,PV.int ((d+1:Nat):Int),PV.int v,PV.int (v % 95),none,none] [u_ (n+1) m]:=by simp[EV,ajA]
 generalize v % 95=w at*;have b2':VJ 4611686018427387904 2=true:=rfl;have ln:((ajy (aj8 2)).map fun i:Nat=>PV.int (0+i)).length<16777216:=by decide
 have cp:∀(x3 x5 x6 x7 x8:Option PV),cU [0,1,2,4] [some (cv cs),some (.ref 0),some (av sc ls true),x3,some (.int ((d+1:Nat):Int)),x5,x6,x7,x8]=[some (cv cs),some (.ref 0),some (av sc ls true),some (.int ((d+1:Nat):Int))]:=fun _ _ _ _ _=>rfl;have nw:jw [.lst (g8 A),.lst (g8 E)] [u_ n2 m]=.ok (.ref 1) (HB n2 m [] [.lst (g8 A),.lst (g8 E)]):=rfl
 have e7:aG 7 (cN jw (cy [0,1,2,4] ab1 bQ (df (F (k+1)) (L (k+1))))) [cv cs,PV.ref 0,av sc ls true,N8 a f,PV.int ((d+1:Nat):Int),PV.int v,PV.int w,none,none] [u_ (n+1) m]=.nx [cv cs,PV.ref 0,av sc ls true,N8 a f,PV.int ((d+1:Nat):Int),PV.int v,PV.int w,PV.ref 1,none] (HB n2 m [] [.lst (g8 A),.lst (g8 E)]):=fC (by
  have q:∀ ρ,cU [0,1,2,4] ρ=[some (cv cs),some (.ref 0),some (av sc ls true),some (.int ((d+1:Nat):Int))]->cN jw (cy [0,1,2,4] ab1 bQ (df (F (k+1)) (L (k+1)))) ρ [u_ (n+1) m]=jw [.lst (g8 A),.lst (g8 E)] [u_ n2 m]:=fun ρ cq=>by simp[EV,b2',ln,cq,cm]
  exact(q _ (cp _ _ _ _ _)).trans nw)
 have at2:∀h,j5 (av sc ls true) (.int 2) h=.ok (.bl true) h:=fun _=>rfl
 have fin:∀(js:Y3)(X Y:List Nd),Nk d 21 (U+1) X->Nk d 21 (U+1) Y->Zy X->Zy Y->H6 (aU abR) (aG 7 (cN jw (cy [7,6] ab1 bQ (de (F (k+1)))))) bh [cv cs,PV.ref 0,av sc ls true,N8 a f,PV.int ((d+1:Nat):Int),PV.int v,PV.int w,PV.ref 1,none] (HB n2 m [] [.lst (g8 A),.lst (g8 E)])=.nx [cv cs,PV.ref 0,av sc ls true,N8 a f,PV.int ((d+1:Nat):Int),PV.int v,PV.int w,PV.ref (js.length+1),none] (HB n2 m js [.lst (g8 X),.lst (g8 Y)])->Got (L (k+2) .Q9 [cv cs,.ref 0,av sc ls true,N8 a f,.int ((d+1:Nat):Int)] [u_ n m]) n m (d+1) (1+2 * c) 5 (2 * (U+1)+2):=fun js X Y fX fY sX sY e7b=>by obtain⟨X',Y',fX',fY',sX',sY',e9⟩:=zJ n2 m v js X Y fX fY sX sY (some (cv cs)) (some (.ref 0)) (some (av sc ls true)) (some (N8 a f)) (some (.int ((d+1:Nat):Int))) (some (.int w)) none;obtain⟨ns,fw,e10⟩:=zI k n2 m v w p9.1 js X' Y' ⋯ fX' fY' sX' sY' a f ha hf (.lst (sc.map it)) (.lst (ls.map PV.str)) (some (cv cs)) (some (.ref 0)) (some (.int ((d+1:Nat):Int))) none;refine⟨ns,n2,?_,fw,by lia,by lia⟩;show fO (kU (F (k+1)) (L (k+1))) 5 9 [cv cs,.ref 0,av sc ls true,N8 a f,.int ((d+1:Nat):Int)] [u_ n m]=_;refine gB (h1:=HB n2 m js [.lst (g8 X'),.lst (g8 Y')]) (v:=.lst (g8 ns)) rfl ?_ (HP n2 m (dP ns) _);show kU (F (k+1)) (L (k+1)) [cv cs,PV.ref 0,av sc ls true,N8 a f,PV.int ((d+1:Nat):Int),none,none,none,none] [u_ n m]=_;unfold kU;rw[sq e5,sq e6,sq e7,sq e7b,sq e9];exact e10
 obtain⟨c1,Vs,x1,x2,ah⟩:=wB k n2 m w A E (by have:=fA.ln;lia) (by have:=fE.ln;lia);refine fin [.lst [.lst (g8 A),.lst (g8 E)]] (.text [c1]::A) (.text [Vs]::E) (rU fA x1) (rU fE x2) (.inr rfl) (.inr rfl) ?_
 have t:∀g:Sx,H6 (aU abR) g bh [cv cs,PV.ref 0,av sc ls true,N8 a f,PV.int ((d+1:Nat):Int),PV.int v,PV.int w,PV.ref 1,none] (HB n2 m [] [.lst (g8 A),.lst (g8 E)])=g [cv cs,PV.ref 0,av sc ls true,N8 a f,PV.int ((d+1:Nat):Int),PV.int v,PV.int w,PV.ref 1,none] (HB n2 m [] [.lst (g8 A),.lst (g8 E)]):=fun g=>by simp[EV,at2]
 rw[t];have cp2:∀(x0 x1 x2 x3 x4 x5 x8:Option PV),cU [7,6] [x0,x1,x2,x3,x4,x5,some (PV.int w),some (.ref 1),x8]=[some (.ref 1),some (.int w)]:=fun _ _ _ _ _ _ _=>rfl;have nw2:∀a_:Y2,jw a_ (HB n2 m [] [.lst (g8 A),.lst (g8 E)])=.ok (.ref 2) (HB n2 m [.lst [.lst (g8 A),.lst (g8 E)]] a_):=fun _=>rfl;refine fC ?_
 have q:∀ ρ:Ev,cU [7,6] ρ=[some (.ref 1),some (.int w)]->(cN jw (cy [7,6] ab1 bQ (de (F (k+1))))) ρ (HB n2 m [] [.lst (g8 A),.lst (g8 E)])=jw [.lst (g8 (.text [c1]::A)),.lst (g8 (.text [Vs]::E))] (HB n2 m [] [.lst (g8 A),.lst (g8 E)]):=fun ρ cq=>by simp[EV,b2',ln,cq,ah]
 exact(q _ (cp2 _ _ _ _ _ _ _)).trans (nw2 _)
def MO(j:Nat)(hj:j<ls.length)(h:Y3):j5 (.lst (ls.map PV.str)) (.int (0+j)) h=.ok (.str (ls.getD j [])) h:=by refine Ft ?_ rfl h;rw[aeY,aej hj,aeG,aej hj];rfl
def DX(j:Nat)(hj:j<ls.length)(h:Y3):j5 (.lst (ls.map PV.str)) (.int j) h=.ok (.str (ls.getD j [])) h:=by
 have:=MO j hj h
 rwa [Int.zero_add]at this
def Mv(a:Y1)(f:Ya)(h:Y3):j5 (N8 a f) (.int 0) h=.ok (.str a) h:=by show(match Sy (PV.str a::f.map PV.str) 0 with|some v=>Res.ok (aA h v) h|none=>.bad)=_;rw[at0];rfl
noncomputable def W6(nm:Y1)(sc:List Si):List Si:=sc.filter fun x=>!decide (x.1=nm)
def DS(h:Rx l=true):∀c∈l,c<1114112:=fun c hc=>ajG (aeM.mp h c hc)
def ED(k:Nat)(nm:Y1)(hn:Rx nm=true)(h:Y3)(sc:List Si)(hk:∀x∈sc,CU x):cJ (ij (F k)) (jm (F k)) [PV.str nm] (sc.map it) h=.ok ((W6 nm sc).map it) h:=by
 have:=iY (tt:=ij (F k)) (te:=jm (F k)) (cp:=[PV.str nm]) (h:=h) (t:=fun p=>match p with|.tup [.tup (.str a::_),_]=>!decide (a=nm)|_=>ajt) (f:=fun p=>p) (sc.map it) (fun p hp=>by
  obtain⟨x,hx,rfl⟩:=aeX.mp hp;have ne:=gi x.1 nm h (DS (hk x hx).1) (DS hn);have i1:j5 (it x) (.int 0) h=.ok (N8 x.1 x.2.1) h:=rfl;have i2:j5 (N8 x.1 x.2.1) (.int 0) h=.ok (.str x.1) h:=Mv ..;have di:aA h (it x)=it x:=rfl;show _=Res.ok (!decide (x.1=nm)) h;simp[EV,ij,di,i1,i2,ne]) (fun p hp=>by
  obtain⟨x,hx,rfl⟩:=aeX.mp hp;rfl)
 rw[this,ajr,ai8];rfl
def Nq(n m:Int)(js:Y3)(xs:Y2)(h:ai xs=true):Zt (.ref (js.length+1)) (HB n m js xs)=.ok (.lst xs) (u_ n m::(js++ [PO.Q5 (.lst xs)])):=by
 have f:dK (HB n m js xs) (.ref (js.length+1))=some (.lst xs,(HB n m js xs).set (js.length+1) (.Q5 (.lst xs))):=by unfold dK;simp only[ji,h,ajA]
 have a:uu (HB n m js xs) (.ref (js.length+1))=none:=by unfold uu;simp only[ji]
 have e:(HB n m js xs).set (js.length+1) (.Q5 (.lst xs))=u_ n m::(js++ [PO.Q5 (.lst xs)]):=by show u_ n m::(js++ [PO.lst xs]).set js.length _=_;rw[afT _ _ ⋯,afR];rfl
 unfold Zt fzP;simp only[a,f];rw[e]
def zv(k:Nat)(n m:Int)(sc:List Si)(hs:sc.length<=1000)(hok:ZP sc)(ls:Ya)(Yy:ls.length=12)(ho:∀l∈ls,Rx l=true)(nm:Y1)(hn:Rx nm=true)(c:Nat)(hc:c=108\/c=109)(x0 x1 x2 x3 x5 x6 x7 x9 x12 x13 ZS Y9 Yj:Option PV):∃(js:Y3)(WX:List Si),ZP WX/\WX.length<=sc.length+5/\
  H6 adb (aG 11 (c2 jC (c2 aE (ac 11) (aJ (F (k+1) .Wx) (aa acS ac_))) abD)) abK [x0,x1,x2,x3,PV.str [c],x5,x6,x7,PV.lst (ls.map PV.str),x9,PV.str nm,PV.ref 1,x12,x13,ZS,Y9,Yj] (HB n m [] ((W6 nm sc).map it))=.nx [x0,x1,x2,x3,PV.str [c],x5,x6,x7,PV.lst (ls.map PV.str),x9,PV.str nm,PV.ref (js.length+1),x12,x13,ZS,Y9,Yj] (HB n m js (WX.map it)):=by
 have fl:(W6 nm sc).length<=sc.length:=agG _ _;have fm:∀x∈W6 nm sc,CU x/\x.2.1.length<=1:=fun x hx=>hok x (ahR.mp hx).1;have fl1:((W6 nm sc).map it).length<=1000:=by rw[aes];lia
 rcases hc with rfl|rfl
 .have eb:∀h,v9 (.str [108]) (.str [108]) h=.ok (.bl true) h:=fun h=>iQ _ _ h ⋯ ⋯;have r1:=yM k [nm] ls Yy (by simp);have r1:∀h,aR (F (k+1) .Wx) [.tup [.str nm],.lst (ls.map PV.str)] h=.ok (.lst ((ajy 4).map fun j=>it (je [nm] ls j))) h:=fun h=>aH h (by simp[ai,PV.pure,eH]) r1;have n7:∀h,j5 (.lst (ls.map PV.str)) (.int 7) h=.ok (.str (ls.getD 7 [])) h:=DX 7 (ls:=ls) ⋯;have dr:aA (HB n m [] ((W6 nm sc).map it)) (.ref 1)=.ref 1:=rfl;refine⟨[.lst ((W6 nm sc).map it)],W6 nm sc++((ajy 4).map fun j=>je [nm] ls j)++[(nm,[ls.getD 7 []],109)],fun x hx=>?_,by simp;lia,?_⟩
  .rcases aeF.mp hx with q|q
   .rcases aeF.mp q with q|q
    .exact fm x q
    .obtain⟨j,hj,rfl⟩:=aeX.mp q;exact⟨vG (fun l hl=>by rw[aeo.mp hl];exact hn) ho j (afg.mp hj),aeB _⟩
   .rw[aeo.mp q];exact⟨⟨hn,fun l hl=>by rw[aeo.mp hl];exact kF ho 7,(by decide:109∈knd)⟩,aeB _⟩
  .have em:(W6 nm sc++((ajy 4).map fun j=>je [nm] ls j)++[(nm,[ls.getD 7 []],109)]).map it=(W6 nm sc).map it++((ajy 4).map fun j=>it (je [nm] ls j))++[.tup [.tup [.str nm,.str (ls.getD 7 [])],.str [109]]]:=by simp only[aeP,afe];rfl
   rw[em];have l2:((ajy 4).map fun j=>it (je [nm] ls j)).length=4:=by simp
   generalize(W6 nm sc).map it=X at*;generalize((ajy 4).map fun j=>it (je [nm] ls j))=R at*;have ad:aE (.ref 1) (.lst R) (HB n m [] X)=.ok (.lst (X++R)) (HB n m [] X):=LB (ji n m [] X) R ⋯
   have am:∀p,jC (.lst (X++R)) (.lst [p]) (HB n m [] X)=.ok (.ref 2) (HB n m [.lst X] (X++R++ [p])):=fun p=>by have e1:Yb (HB n m [] X) (.lst (X++R))=some (X++R):=rfl;have e2:Yb (HB n m [] X) (.lst [p])=some [p]:=rfl;unfold jC;simp only[e1,e2];rw[ajz (by rw[szl,aei,aev];lia)];rfl
   generalize hH:HB n m [.lst X] (X++R++ [.tup [.tup [.str nm,.str (ls.getD 7 [])],.str [109]]])=H;have am':=am (.tup [.tup [.str nm,.str (ls.getD 7 [])],.str [109]]);rw[hH]at am';generalize HB n m [] X=h0 at*;simp[EV,eb,dr,r1,n7,ad,am']
 .have eb:∀h,v9 (.str [109]) (.str [108]) h=.ok (.bl ajt) h:=fun h=>iQ _ _ h ⋯ ⋯;have dr:aA (HB n m [] ((W6 nm sc).map it)) (.ref 1)=.ref 1:=rfl;have li:cI (HB n m [] ((W6 nm sc).map it)) (.ref 1)=true:=rfl;have ap:∀p,aZ (.ref 1) [p] (HB n m [] ((W6 nm sc).map it))=.ok .non (HB n m [] ((W6 nm sc).map it++ [p])):=fun p=>sD n m [] ((W6 nm sc).map it) p ⋯;refine⟨[],W6 nm sc++ [(nm,[],119)],fun x hx=>?_,by simp;lia,?_⟩
  .rcases aeF.mp hx with q|q
   .exact fm x q
   .rw[aeo.mp q];exact⟨⟨hn,by simp,(by decide:119∈knd)⟩,aeL _⟩
  .have em:(W6 nm sc++ [(nm,[],119)]).map it=(W6 nm sc).map it++ [.tup [.tup [.str nm],.str [119]]]:=by rw[aeP];rfl
   rw[em];have ap':=ap (.tup [.tup [.str nm],.str [119]]);generalize hH:HB n m [] ((W6 nm sc).map it++ [.tup [.tup [.str nm],.str [119]]])=H at*;generalize HB n m [] ((W6 nm sc).map it)=h0 at*;simp[EV,eb,dr,li,ap',aeJ]
def Eo(k:Nat)(v:Int)(A:List Nd){e:Nat}(hd:d<=28)(nm:Y1)(hn:Rx nm=true)(fA:Nk d 20 e A)(a:Y1)(f:Ya)(ha:Rx a=true)(hf:∀s∈f,Rx s=true)(h:Y3)(x0 x1 x2 x4 x5 x7 x8 Uk x13 ZS Y9 Yj:Option PV):∃ns,Nk (d+1) 5 (3 * (e+4)+2) ns/\
  (aw (aG 13 (c2 j5 (aJ (F (k+1) .K3) af) adJ))
  (aw (aG 14 abl)
  (aw (aG 15 (c2 j5 (aJ (F (k+1) .K3) af) abk))
  (aw aaZ
  (aw (aG 16 (cN aW (aa aaH (aa (ac 10) (aa (ac 3) (aa (aJ (F (k+1) .Ue) adK) aay))))))
  (aw abB
  (aQ (cN bY (aa (ac 16) (aa (cN aW (aa aam (aa (c2 j5 (aJ (F (k+1) .K3) af) ady) af))) af)))))))))) [x0,x1,x2,N8 a f,x4,x5,PV.int v,x7,x8,PV.bl true,PV.str nm,Uk,PV.lst (g8 A),x13,ZS,Y9,Yj] h=.rt (.lst (g8 ns)) h:=by
 have mk:=gD k;have q1:=bD (v / 12) (m:=95) ⋯;obtain⟨c1,cc1,s1⟩:=lM _ q1.1 q1.2;have q2:=bD (v / 12+1+(1+v / 1140 % 94) % 94) (m:=95) ⋯;obtain⟨Vs,cc2,s2⟩:=lM _ q2.1 q2.2;have q3:=bD (v / 12+(1+v / 1140 % 94)) (m:=95) ⋯;obtain⟨c3,cc3,s3⟩:=lM _ q3.1 q3.2;have e13:aG 13 (c2 j5 (aJ (F (k+1) .K3) af) adJ) [x0,x1,x2,N8 a f,x4,x5,PV.int v,x7,x8,PV.bl true,PV.str nm,Uk,PV.lst (g8 A),x13,ZS,Y9,Yj] h=.nx [x0,x1,x2,N8 a f,x4,x5,PV.int v,x7,x8,PV.bl true,PV.str nm,Uk,PV.lst (g8 A),PV.str [c1],ZS,Y9,Yj] h:=fC (by simp[EV,mk,s1]);have e14:aG 14 abl [x0,x1,x2,N8 a f,x4,x5,PV.int v,x7,x8,PV.bl true,PV.str nm,Uk,PV.lst (g8 A),PV.str [c1],ZS,Y9,Yj] h=.nx [x0,x1,x2,N8 a f,x4,x5,PV.int v,x7,x8,PV.bl true,PV.str nm,Uk,PV.lst (g8 A),PV.str [c1],PV.int (1+v / 1140 % 94),Y9,Yj] h:=fC (by simp[EV,ajA])
 have e15:aG 15 (c2 j5 (aJ (F (k+1) .K3) af) abk) [x0,x1,x2,N8 a f,x4,x5,PV.int v,x7,x8,PV.bl true,PV.str nm,Uk,PV.lst (g8 A),PV.str [c1],PV.int (1+v / 1140 % 94),Y9,Yj] h=.nx [x0,x1,x2,N8 a f,x4,x5,PV.int v,x7,x8,PV.bl true,PV.str nm,Uk,PV.lst (g8 A),PV.str [c1],PV.int (1+v / 1140 % 94),PV.str [Vs],Yj] h:=fC (by
  have k14:∀ ρ:Ev,ρ=[x0,x1,x2,some (N8 a f),x4,x5,some (.int v),x7,x8,some (.bl true),some (.str nm),Uk,some (.lst (g8 A)),some (.str [c1]),some (.int (1+v / 1140 % 94)),Y9,Yj]->ac 14 ρ h=.ok (.int (1+v / 1140 % 94)) h:=fun ρ e=>by rw[e];rfl
  simp[EV,mk,k14,s2])
 rw[sq e13,sq e14,sq e15]
 obtain⟨A1,f1,hA1,e12⟩:∃A1,Nk d 21 (e+1) A1/\hdT A1=true/\aaZ [x0,x1,x2,N8 a f,x4,x5,PV.int v,x7,x8,PV.bl true,PV.str nm,Uk,PV.lst (g8 A),PV.str [c1],PV.int (1+v / 1140 % 94),PV.str [Vs],Yj] h=.nx [x0,x1,x2,N8 a f,x4,x5,PV.int v,x7,x8,PV.bl true,PV.str nm,Uk,PV.lst (g8 A1),PV.str [c1],PV.int (1+v / 1140 % 94),PV.str [Vs],Yj] h:=by have al:=fun h=>qN [nd (.text [c1])] (g8 A) h (by rw[iC,aev];have:=fA.ln;lia);refine⟨.text [c1]::A,rU fA cc1,rfl,?_⟩;rw[g8];simp[EV,qU,al]
 rw[sq e12];obtain⟨A2,g2,hh1,hh2,eo⟩:=nS k hd ⋯ A1 f1
 obtain⟨b,hb,bl,ab⟩:∃b,sgn b/\b.length<=3/\∀h,j5 (.lst [.str [],.str [c1,44,32],.str [Vs,c1],.str [Vs]]) (.int (v / 7 % 4)) h=.ok (.str b) h:=by
  have y1:c1∈aI:=cc1 c1 aeC;have y2:Vs∈aI:=cc2 Vs aeC;rcases(show v / 7 % 4=0\/v / 7 % 4=1\/v / 7 % 4=2\/v / 7 % 4=3 by lia)with q|q|q|q<;>rw[q]
  .exact⟨[],fun c hc=>(nomatch hc),by decide,fun _=>rfl⟩
  .exact⟨[c1,44,32],fun c hc=>by
    simp only[aek,aeO,ajP]at hc;rcases hc with rfl|rfl|rfl
    .exact y1
    .decide
    .decide,by simp,fun _=>rfl⟩
  .exact⟨[Vs,c1],fun c hc=>by
    simp only[aek,aeO,ajP]at hc;rcases hc with rfl|rfl
    .exact y2
    .exact y1,by simp,fun _=>rfl⟩
  .exact⟨[Vs],cc2,by simp,fun _=>rfl⟩
 have ln:PV.tup [.str [108,111,111,112],.str nm,N8 a f,.tup (g8 A2),.str b]=nd (.loop nm a f A2 b):=by rw[nd]
 have e16:aG 16 (cN aW (aa aaH (aa (ac 10) (aa (ac 3) (aa (aJ (F (k+1) .Ue) adK) aay))))) [x0,x1,x2,N8 a f,x4,x5,PV.int v,x7,x8,PV.bl true,PV.str nm,Uk,PV.lst (g8 A1),PV.str [c1],PV.int (1+v / 1140 % 94),PV.str [Vs],Yj] h=.nx [x0,x1,x2,N8 a f,x4,x5,PV.int v,x7,x8,PV.bl true,PV.str nm,Uk,PV.lst (g8 A1),PV.str [c1],PV.int (1+v / 1140 % 94),PV.str [Vs],nd (.loop nm a f A2 b)] h:=fC (by
  have k13:∀ ρ:Ev,ρ=[x0,x1,x2,some (N8 a f),x4,x5,some (.int v),x7,x8,some (.bl true),some (.str nm),Uk,some (.lst (g8 A1)),some (.str [c1]),some (.int (1+v / 1140 % 94)),some (.str [Vs]),Yj]->ac 15 ρ h=.ok (.str [Vs]) h:=fun ρ e=>by rw[e];rfl
  simp[EV,rK,k13,eo,ab,ln])
 rw[sq e16];have y1:=GZ g2 (hh1 hA1) hn ha hf hb;have n2:PV.lst [nd (.loop nm a f A2 b),nd (.text [c3])]=.lst (g8 [.loop nm a f A2 b,.text [c3]]):=by rw[g8,g8,g8]
 have f2:=DZ (e:=3 * (e+4)+2) (s:=c3) y1 rfl cc3 (by rw[uN];have:=g2.ub;lia);generalize Nd.loop nm a f A2 b=N at*;have k14:∀ ρ:Ev,ρ=[x0,x1,x2,some (N8 a f),x4,x5,some (.int v),x7,x8,some (.bl true),some (.str nm),Uk,some (.lst (g8 A1)),some (.str [c1]),some (.int (1+v / 1140 % 94)),some (.str [Vs]),some (nd N)]->ac 14 ρ h=.ok (.int (1+v / 1140 % 94)) h:=fun ρ e=>by rw[e];rfl
 have k16:∀ ρ:Ev,ρ=[x0,x1,x2,some (N8 a f),x4,x5,some (.int v),x7,x8,some (.bl true),some (.str nm),Uk,some (.lst (g8 A1)),some (.str [c1]),some (.int (1+v / 1140 % 94)),some (.str [Vs]),some (nd N)]->ac 16 ρ h=.ok (nd N) h:=fun ρ e=>by rw[e];exact aj0 (fun p=>Res.ok p h) (bR h N)
 refine⟨_,f2,?_⟩;simp[EV,k14,k16,mk,s3,qU,n2]
def Ho(k:Nat)(cs:List Int)(hc:cs.length<=63)(sc:List Si)(hok:ZP sc)(ls:Ya)(Yy:ls.length=12)(ho:∀l∈ls,Rx l=true)(d c U:Nat)(hd:d<=25)(m:Int)(hs:sc.length<=900)(NA:∀nm WX,Rx nm=true->ZP WX->WX.length<=sc.length+5->∀n:Int,0<=n->n+(c:Int)<=1000000->Got (L (k+1) .K1 [cv cs,.ref 0,av WX ls true,.int d] [u_ n m]) n m d c 20 U)(a:Y1)(f:Ya)(ha:Rx a=true)(hf:∀s∈f,Rx s=true)(q:Nat)(hq:q=108\/q=109)(n:Int)(h0:0<=n)(h1:n+((1+2 * c:Nat):Int)<=1000000):
  Got (L (k+2) .Tp [cv cs,.ref 0,av sc ls true,N8 a f,.str [q],.int ((d+1:Nat):Int)] [u_ n m]) n m (d+1) (1+2 * c) 5 (3 * (U+4)+2):=by
 obtain⟨v,v0,v1,ce⟩:=dA k cs hc n m h0 ⋯ [];have q12:=bD v (m:=12) ⋯
 obtain⟨nm,hn,ni⟩:∃nm,Rx nm=true/\∀h,j5 (.lst (ls.map PV.str)) (.int (v % 12)) h=.ok (.str nm) h:=⟨ls.getD (v % 12).toNat [],kF ho _,fun h=>by
  have:=DX (v % 12).toNat (ls:=ls) ⋯ h
  rwa [show(((v % 12).toNat:Nat):Int)=v % 12 by lia]at this⟩
 have d0:∀n,aA [u_ n m] (.ref 0)=.ref 0:=fun _=>rfl
 have e6:aG 6 (bn (L (k+1) .K5) aaF) [cv cs,PV.ref 0,av sc ls true,N8 a f,PV.str [q],PV.int ((d+1:Nat):Int),none,none,none,none,none,none,none,none,none,none,none] [u_ n m]=.nx [cv cs,PV.ref 0,av sc ls true,N8 a f,PV.str [q],PV.int ((d+1:Nat):Int),PV.int v,none,none,none,none,none,none,none,none,none,none] [u_ (n+1) m]:=by simp[EV,fy,d0,ce]
 have e7:yJ acR (ac 2) [cv cs,PV.ref 0,av sc ls true,N8 a f,PV.str [q],PV.int ((d+1:Nat):Int),PV.int v,none,none,none,none,none,none,none,none,none,none] [u_ (n+1) m]=.nx [cv cs,PV.ref 0,av sc ls true,N8 a f,PV.str [q],PV.int ((d+1:Nat):Int),PV.int v,PV.lst (sc.map it),PV.lst (ls.map PV.str),PV.bl true,none,none,none,none,none,none,none] [u_ (n+1) m]:=rfl;have e10:aG 10 acT [cv cs,PV.ref 0,av sc ls true,N8 a f,PV.str [q],PV.int ((d+1:Nat):Int),PV.int v,PV.lst (sc.map it),PV.lst (ls.map PV.str),PV.bl true,none,none,none,none,none,none,none] [u_ (n+1) m]=.nx [cv cs,PV.ref 0,av sc ls true,N8 a f,PV.str [q],PV.int ((d+1:Nat):Int),PV.int v,PV.lst (sc.map it),PV.lst (ls.map PV.str),PV.bl true,PV.str nm,none,none,none,none,none,none] [u_ (n+1) m]:=fC (by simp[EV,ni]);have ic:=ED (k+1) nm hn [u_ (n+1) m] sc fun x hx=>(hok x hx).1;have ln:(sc.map it).length<16777216:=by rw[aes];lia
 have e11:aG 11 (cN jw (cy [10] (iO (ac 7)) (ij (F (k+1))) (jm (F (k+1))))) [cv cs,PV.ref 0,av sc ls true,N8 a f,PV.str [q],PV.int ((d+1:Nat):Int),PV.int v,PV.lst (sc.map it),PV.lst (ls.map PV.str),PV.bl true,PV.str nm,none,none,none,none,none,none] [u_ (n+1) m]=.nx [cv cs,PV.ref 0,av sc ls true,N8 a f,PV.str [q],PV.int ((d+1:Nat):Int),PV.int v,PV.lst (sc.map it),PV.lst (ls.map PV.str),PV.bl true,PV.str nm,PV.ref 1,none,none,none,none,none] (HB (n+1) m [] ((W6 nm sc).map it)):=fC (by
  have z:∀ ρ:Ev,cU [10] ρ=[some (.str nm)]->ac 7 ρ [u_ (n+1) m]=.ok (.lst (sc.map it)) [u_ (n+1) m]->cN jw (cy [10] (iO (ac 7)) (ij (F (k+1))) (jm (F (k+1)))) ρ [u_ (n+1) m]=jw ((W6 nm sc).map it) [u_ (n+1) m]:=fun ρ cq c7=>by
   generalize sc.map it=S at*
   have y:iO (ac 7) ρ [u_ (n+1) m]=.ok S [u_ (n+1) m]:=by rw[Hv,c7];simp[EV,ajA]
   rw[Nc,Ey,y,Kv,ajz (by rw[szl];lia),cq,ic];simp[EV,ajA]
  exact(z _ rfl rfl).trans rfl)
 obtain⟨js,WX,S2,l2,acK⟩:=zv k (n+1) m sc ⋯ hok ls Yy ho nm hn q hq (some (cv cs)) (some (.ref 0)) (some (av sc ls true)) (some (N8 a f)) (some (.int ((d+1:Nat):Int))) (some (.int v)) (some (.lst (sc.map it))) (some (.bl true)) none none none none none;obtain⟨A,n',eA,fA,p1,p2⟩:=NA nm WX hn S2 l2 (n+1) ⋯ ⋯;have fz:=Nq (n+1) m js (WX.map it) (nZ WX);have sd:((d+1:Nat):Int) - 1=(d:Int):=by lia
 have cA:z_ (L (k+1) .K1) [cv cs,.ref 0,av WX ls true,.int d] (u_ (n+1) m::(js++ [PO.Q5 (.lst (WX.map it))]))=.ok (.lst (g8 A)) (u_ n' m::(js++ [PO.Q5 (.lst (WX.map it))])):=dB (fn:=L (k+1) .K1) [cv cs] [av WX ls true,.int d] (by rw[ai,iF];rfl) (by rw[ai,qM];rfl) rfl (ci _ _) eA (dP A) (ci _ _);have d1:=jE (n+1) m js (WX.map it);have d0':=sB (n+1) m js (WX.map it)
 have e12:aG 12 (bn (L (k+1) .K1) abz) [cv cs,PV.ref 0,av sc ls true,N8 a f,PV.str [q],PV.int ((d+1:Nat):Int),PV.int v,PV.lst (sc.map it),PV.lst (ls.map PV.str),PV.bl true,PV.str nm,PV.ref (js.length+1),none,none,none,none,none] (HB (n+1) m js (WX.map it))=.nx [cv cs,PV.ref 0,av sc ls true,N8 a f,PV.str [q],PV.int ((d+1:Nat):Int),PV.int v,PV.lst (sc.map it),PV.lst (ls.map PV.str),PV.bl true,PV.str nm,PV.ref (js.length+1),PV.lst (g8 A),none,none,none,none] (u_ n' m::(js++ [PO.Q5 (.lst (WX.map it))])):=fC (by simp[EV,fy,d0',d1,fz,sd,cA])
 obtain⟨ns,nk,e13⟩:=Eo k v A ⋯ nm hn fA a f ha hf (u_ n' m::(js++ [PO.Q5 (.lst (WX.map it))])) (some (cv cs)) (some (.ref 0)) (some (av sc ls true)) (some (.str [q])) (some (.int ((d+1:Nat):Int))) (some (.lst (sc.map it))) (some (.lst (ls.map PV.str))) (some (.ref (js.length+1))) none none none none;refine⟨ns,n',?_,nk,by lia,by lia⟩;show fO (oz (F (k+1)) (L (k+1))) 6 17 [cv cs,.ref 0,av sc ls true,N8 a f,.str [q],.int ((d+1:Nat):Int)] [u_ n m]=_;refine gB (h1:=u_ n' m::(js++ [PO.Q5 (.lst (WX.map it))])) (v:=.lst (g8 ns)) rfl ?_ (HP n' m (dP ns) _);show oz (F (k+1)) (L (k+1)) [cv cs,PV.ref 0,av sc ls true,N8 a f,PV.str [q],PV.int ((d+1:Nat):Int),none,none,none,none,none,none,none,none,none,none,none] [u_ n m]=_;unfold oz;rw[sq e6,sq e7,sq e10,sq e11,sq acK,sq e12];exact e13
noncomputable def nC:Nat->Nat
 |0=>5
 |d+1=>5+4 * (1+2 * nC d)
noncomputable def nU:Nat->Nat
 |0=>2004
 |d+1=>3 * (4 * nU d+4)+2
theorem Iy:∀d,2004<=nU d
 |0=>aeB _
 |d+1=>by have:=Iy d;rw[nU];lia
theorem oT(cs:List Int)(hc:cs.length<=63)(ls:Ya)(Yy:ls.length=12)(ho:∀l∈ls,Rx l=true)(m:Int):∀(d k:Nat)(sc:List Si),d<=25->ZP sc->sc.length+5 * d<=100->∀n:Int,0<=n->n+(nC d:Int)<=1000000->Got (L (k+2 * d+5) .K1 [cv cs,.ref 0,av sc ls true,.int d] [u_ n m]) n m d (nC d) 20 (4 * nU d)
 |0,k,sc,_,hs,sl,n,h0,h1=>xQ k cs hc sc hs ⋯ ls 0 0 2004 (aeB _) m (fun q=>by lia) n h0 h1
 |d+1,k,sc,hd,hs,sl,n,h0,h1=>by
  refine xQ (k+2 * (d+1)) cs hc sc hs ⋯ ls (d+1) (1+2 * nC d) (nU (d+1)) (Iy _) m (fun _ n2 h2 h3 a f ha hf hl=>?_) n h0 h1;have e:k+2 * (d+1)+4=(k+2 * d+4)+2:=by lia
  rw[e];have up:∀{r:Res PV}{n:Int}{u:Nat},Got r n m (d+1) (1+2 * nC d) 5 u->u<=nU (d+1)->Got r n m (d+1) (1+2 * nC d) 5 (nU (d+1)):=(by intro _ _ _;rintro ⟨ns,n',a1,a2,a3,a4⟩ q;exact ⟨ns,n',a1,a2.mono (aeB _) (aeB _) q,a3,a4⟩)
  exact⟨up (Cy (k+2 * d+4) cs hc sc ls d (nC d) (4 * nU d) ⋯ m (fun n3 h4 h5=>oT cs hc ls Yy ho m d k sc ⋯ hs ⋯ n3 h4 h5) a f ha hf n2 h2 h3) (by rw[nU];lia),
   fun q hq=>up (Ho (k+2 * d+4) cs hc sc hs ls Yy ho d (nC d) (4 * nU d) ⋯ m ⋯ (fun nm WX hn S2 l2 n3 h4 h5=>oT cs hc ls Yy ho m d k WX ⋯ S2 ⋯ n3 h4 h5) a f ha hf q hq n2 h2 h3) (by rw[nU];lia)⟩
def HH(k:Nat)(cs:List Int)(hc:cs.length<=63)(w:Int)(n m:Int)(h0:0<=n)(h1:n<=900000):∃(l:List Nd)(ls:Ya)(n':Int),Nk 3 1000 14000000 l/\n<=n'/\n'<=n+4000/\L (k+12) .Wr [cv cs,.ref 0,.int w,.bl true] [u_ n m]=.ok (.tup [.tup (g8 l),.lst (ls.map PV.str)]) [u_ n' m]:=by
 obtain⟨ls,Yy,ho,ne⟩:=Eg (k+10) w;have ne:∀h,aR (F (k+11) .V3) [.int w] h=.ok (.lst (ls.map PV.str)) h:=fun h=>aH h rfl ne;have lsp:(PV.lst (ls.map PV.str)).pure=true:=by rw[PV.pure];exact eH ls
 obtain⟨sc,s10,sok,se⟩:=CZ (k+9) ls Yy ho;have se:∀h,aR (F (k+11) .V2) [.lst (ls.map PV.str)] h=.ok (.lst (sc.map it)) h:=fun h=>aH h (by rw[ai,lsp];rfl) se;have n3:nC 3=3217:=by decide
 have u3:4 * nU 3<=14000000:=by decide
 obtain⟨l,n1,le,nk,p1,p2⟩:=oT cs hc ls Yy ho m 3 k sc ⋯ (fun x hx=>⟨(sok x hx).1,(sok x hx).2.2⟩) ⋯ n h0 ⋯;have le:z_ (L (k+11) .K1) [cv cs,.ref 0,av sc ls true,.int 3] [u_ n m]=.ok (.lst (g8 l)) [u_ n1 m]:=dB (fn:=L (k+11) .K1) [cv cs] [av sc ls true,.int 3] (by rw[ai,iF];rfl) (by rw[ai,qM];rfl) rfl (ci _ _) le (dP l) (ci _ _);obtain⟨l3,nk3,_,_,eo⟩:=nS (k+10) ⋯ ⋯ l nk;refine⟨l3,ls,n1,nk3.mono (aeB _) ⋯ u3,by lia,by lia,?_⟩;have d0:∀n,aA [u_ n m] (.ref 0)=.ref 0:=fun _=>rfl;show fO (oA (F (k+11)) (L (k+11))) 4 7 [cv cs,.ref 0,.int w,.bl true] [u_ n m]=_;refine gB (h1:=[u_ n1 m]) (v:=.tup [.tup (g8 l3),.lst (ls.map PV.str)]) rfl ?_ (HP _ _ (by simp[PV.pure,ai,bv,eH]) []);show oA (F (k+11)) (L (k+11)) [cv cs,PV.ref 0,PV.int w,PV.bl true,none,none,none] [u_ n m]=_;simp[EV,oA,fy,d0,ar _ lsp,ne,se,le,eo]
def EC(xs:List Int)(j:Int)(h0:0<=j)(h1:j<xs.length):∃i,i∈xs/\∀h,j5 (.lst (xs.map PV.int)) (.int j) h=.ok (.int i) h:=by
 have hj:j.toNat<xs.length:=by lia
 refine⟨xs[j.toNat],afh hj,fun h=>?_⟩;show(match Sy (xs.map PV.int) j with|some q=>Res.ok (aA h q) h|none=>.bad)=_;rw[eQ (v:=.int xs[j.toNat]) h0 (by rw[aeY,aej hj];rfl)];rfl
abbrev big:Int:=1000000000000000000000000000000
def Ct(k:Nat)(v:Int)(h0:0<=v)(h1:v<400000000):∃i, -big<i/\i<big/\F (k+1) .U_ [.int v]=.ok (.int i):=by
 have p6:=bD (v / 7) (m:=6) ⋯;obtain⟨i,im,e⟩:=EC [v % 21 - 10,v % 100000,0 - v % 1000000007,v * 5429316803059692481 % 1000000000000000000000000000000,999999999999999999999999999999 - v % 3,0] (v / 7 % 6) p6.1 (by simpa using p6.2);have e:∀h,j5 (.lst [.int (v % 21 - 10),.int (v % 100000),.int (0 - v % 1000000007),.int (v * 5429316803059692481 % 1000000000000000000000000000000),.int (999999999999999999999999999999 - v % 3),.int 0]) (.int (v / 7 % 6)) h=.ok (.int i) h:=e
 have ib: -big<i/\i<big:=by simp only[aek,aeO,ajP]at im;unfold big;rcases im with rfl|rfl|rfl|rfl|rfl|rfl<;>lia
 refine⟨i,ib.1,ib.2,?_⟩;have p1:decide (akC 10<18446744073709551616)=true:=rfl;have p2:decide (akC 48271<18446744073709551616)=true:=rfl;have mc:jO v 5429316803059692481=true:=rV (bW.mpr ⟨by lia,by lia⟩);have pw:(48271:Int) ^ (aj8 4)=5429316803059692481:=by decide
 have pt:(10:Int) ^ (aj8 30)=1000000000000000000000000000000:=by decide
 show ag (nj (F k)) 1 1 [.int v]=_;simp -implicitDefEqProofs[EV,ag,nj,p1,p2,mc,pw,pt,Int.reduceToNat,Int.reducePow,e,aP]
def Je:bP.all (fun c=>aM.contains c)=true:=by decide
def Jd(i:Int)(h0:0<=i)(h1:i<62):∃c,c∈aM/\∀h,j5 (.str bP) (.int i) h=.ok (.str [c]) h:=by
 have ln:(bP).length=62:=by decide
 obtain⟨c,hc,e⟩:=yG bP (by rw[ln];decide) i h0 (by rw[ln];exact h1);exact⟨c,by simpa using aeM.mp Je c hc,e⟩
def xu{te:Ex}{cp:Ev}(A:Y1)(m:Int)(h0:0<=m)(h1:m<=400)(hx:∀i:Nat,(i:Int)<m->∃c,c∈A/\te (some (.int (0+i))::cp) []=.ok (.str [c]) []):∃ss:Ya,cJ bQ te cp ((ajy m.toNat).map fun i:Nat=>PV.int (0+i)) []=.ok (ss.map PV.str) []/\(∀h,eJ (.str []) [.lst (ss.map PV.str)] h=.ok (.str ss.flatten) h)/\(ss.flatten.length:Int)=m/\∀c∈ss.flatten,c∈A:=by
 obtain⟨ss,g0,g1,g2⟩:=vZ (te:=te) (cp:=cp) (h:=[]) (fun i:Nat=>PV.int (0+i)) (fun s=>∃c,c∈A/\s= [c]) (ajy m.toNat) fun i hi=>by rw[afg]at hi;obtain⟨c,hc,e⟩:=hx i ⋯;exact⟨[c],⟨c,hc,rfl⟩,e⟩
 obtain⟨j1,j2⟩:=zy ss _ g1;have sl:ss.length=m.toNat:=by rw[g0,aeH]
 exact⟨ss,g2,fun h=>ya (by rw[j1];lia) h,by rw[j1,sl];lia,j2⟩
def zH{w:Nat}(hw:w<5)(hv:Dv v)(hs:Y7 v)(ft:F 3 (fZ w) [.ins w [],v]=.ok (.bl true)):∃s,UL w v=some s:=by
 obtain⟨b,s,f⟩:=wn w hw hv;have:=f.1 0;rw[ft]at this
 cases this
 unfold UL;rw[dif_pos ⟨hs,s,f⟩];exact⟨_,rfl⟩
def EU(h:l.length<=400)(hc:∀c∈l,c∈aI):Dv (.str l):=(VV.str 0 l h hc).dv
def NW(h1:1<=l.length)(h2:l.length<=40)(hc:∀c∈l,c∈aM):∃s,UL 0 (.str l)=some s:=zH ⋯ (EU ⋯ fun c q=>Bi c (hc c q)) (.inl ⟨l,rfl⟩) (Br 0 l h1 h2 hc)
def NY{i:Int}(h1: -big<i)(h2:i<big):∃s,UL 1 (.int i)=some s:=zH ⋯ (VV.int 0 i).dv (.inr ⟨i,rfl⟩) (xP 1 i h1 h2)
def NX{w:Nat}(h2:2<=w)(h5:w<5)(h:l.length<=400)(hc:∀c∈l,c∈aI):∃s,UL w (.str l)=some s:=zH h5 (EU h hc) (.inl ⟨l,rfl⟩) (by
 have z:∀h,aR (F 2 .G5) [.str l,.int 400] h=.ok (.bl true) h:=fun hp=>aH hp rfl (Ab 0 l 400 400 rfl h ⋯ hc);rcases(show w=2\/w=3\/w=4 by lia)with rfl|rfl|rfl
 .show ag (aT (F 2)) 2 2 [.ins 2 [],.str l]=_;simp[EV,ag,aT,z,aP]
 .show ag (aX (F 2)) 2 2 [.ins 3 [],.str l]=_;simp[EV,ag,aX,z,aP]
 .show ag (bw (F 2)) 2 2 [.ins 4 [],.str l]=_;simp[EV,ag,bw,z,aP])
def eq1(x:Int):∃b,∀h,v9 (.int x) (.int 1) h=.ok (.bl b) h:=⟨decide (x=1),fun h=>db x 1 h⟩
noncomputable def kW:Nat->Nat
 |0=>119
 |1=>110
 |_=>116
def wX(k:Nat)(w:Nat)(hw:w<5)(v:Int)(h0:0<=v)(h1:v<400000000):∃x,VV 0 x/\Y7 x/\(∃s,UL w x=some s)/\F (k+2) .TX [.str [kW w],.int v]=.ok x:=by
 obtain⟨b3,q3⟩:=eq1 (v / 40 % 6);obtain⟨b4,q4⟩:=eq1 (v / 40 % 24);obtain⟨b5,q5⟩:=eq1 (v / 40 % 36);obtain⟨i,i1,i2,fe⟩:=Ct k v h0 h1;have fe:∀h,aR (F (k+1) .U_) [.int v] h=.ok (.int i) h:=fun h=>aH h rfl fe;have e0:∀c,F (k+2) .TX [.str [c],.int v]=match(ko (F (k+1))) [PV.str [c],PV.int v,none,none] []with|.nx _ _=>.ok .non|.rt v h=>aP v h|_=>.bad:=fun _=>rfl
 have aew:=bD (v / 9) (m:=61) ⋯;have ae1:=bD (v / 9) (m:=94) ⋯;rcases(show w=0\/w=1\/2<=w by lia)with rfl|rfl|w2
 .obtain⟨m,hm0,hm1,me⟩:∃m:Int,1<=m/\m<=40/\∀h,j5 (.lst [.int (1+v % 6),.int (1+v % 40),.int 40]) (.int ((if b3=true then 1 else 0)+(if b4=true then 1 else 0))) h=.ok (.int m) h:=by
   cases b3<;>cases b4
   .exact⟨1+v % 6,by lia,by lia,fun _=>rfl⟩
   .exact⟨1+v % 40,by lia,by lia,fun _=>rfl⟩
   .exact⟨1+v % 40,by lia,by lia,fun _=>rfl⟩
   .exact⟨40,by lia,by lia,fun _=>rfl⟩
  obtain⟨ss,cm,jn,sl,sm⟩:=xu (te:=lV (F (k+1))) (cp:=[PV.str bP,PV.int v]) aM m ⋯ ⋯ fun i hi=>by have q:=bD (v / 240+(0+(i:Int)) * (1+v / 9 % 61)) (m:=62) ⋯;obtain⟨z,hz,e⟩:=Jd _ q.1 q.2;have mc:jO (0+(i:Int)) (1+v / 9 % 61)=true:=mV (bW.mpr ⟨by lia,by lia⟩);refine⟨z,hz,?_⟩;simp -implicitDefEqProofs[EV,lV,mc,e]
  refine⟨.str ss.flatten,.str 0 _ ⋯ (fun c q=>Bi c (sm c q)),.inl ⟨_,rfl⟩,NW ⋯ ⋯ sm,?_⟩;have be:VJ 4611686018427387904 m=true:=bW.mpr ⋯;have lr:(ajy m.toNat).length<16777216:=by rw[aeH];lia
  have cp1:∀(x:Option PV)(ρ:Ev),cU [2,1] (some (.str [119])::some (.int v)::some (.str bP)::ρ)=[some (.str bP),some (.int v)]:=fun _ _=>rfl;have cp1:∀(ρ:Ev),cU [2,1] (some (.str [119])::some (.int v)::some (.str bP)::ρ)=[some (.str bP),some (.int v)]:=fun _=>rfl;rw[show kW 0=119 from rfl,e0];unfold ko;simp -implicitDefEqProofs[EV,Rw (a:=[119]) (b:=[110]) ajt,Rw (a:=[119]) (b:=[119]) true,q3,q4,me,be,cp1,cm,jn,aes,lr];exact eK _ rfl
 .refine⟨.int i,.int 0 i,.inr ⟨i,rfl⟩,NY i1 i2,?_⟩;rw[show kW 1=110 from rfl,e0];unfold ko;simp -implicitDefEqProofs[EV,Rw (a:=[110]) (b:=[110]) true,fe];exact eK _ rfl
 .obtain⟨m,hm0,hm1,me⟩:∃m:Int,0<=m/\m<=400/\∀h,j5 (.lst [.int (v % 7),.int (v % 40),.int (400 - v % 3)]) (.int ((if b3=true then 1 else 0)+(if b5=true then 1 else 0))) h=.ok (.int m) h:=by
   cases b3<;>cases b5
   .exact⟨v % 7,by lia,by lia,fun _=>rfl⟩
   .exact⟨v % 40,by lia,by lia,fun _=>rfl⟩
   .exact⟨v % 40,by lia,by lia,fun _=>rfl⟩
   .exact⟨400 - v % 3,by lia,by lia,fun _=>rfl⟩
  obtain⟨ss,cm,jn,sl,sm⟩:=xu (te:=lU (F (k+1))) (cp:=[PV.int v]) aI m hm0 hm1 fun i hi=>by have q:=bD (v / 240+(0+(i:Int)) * (1+v / 9 % 94)) (m:=95) ⋯;obtain⟨z,hz,e⟩:=vY _ q.1 q.2;have mc:jO (0+(i:Int)) (1+v / 9 % 94)=true:=mV (bW.mpr ⟨by lia,by lia⟩);refine⟨z,hz,?_⟩;simp -implicitDefEqProofs[EV,lU,gD,mc,e]
  refine⟨.str ss.flatten,.str 0 _ ⋯ sm,.inl ⟨_,rfl⟩,NX w2 hw ⋯ sm,?_⟩;have be:VJ 4611686018427387904 m=true:=bW.mpr ⋯;have lr:(ajy m.toNat).length<16777216:=by rw[aeH];lia
  have cp1:∀ ρ:Ev,cU [1] (some (.str [116])::some (.int v)::ρ)=[some (.int v)]:=fun _=>rfl;have kw:kW w=116:=by rcases(show w=2\/w=3\/w=4 by lia)with rfl|rfl|rfl<;>rfl
  rw[kw,e0];unfold ko;simp -implicitDefEqProofs[EV,Rw (a:=[116]) (b:=[110]) ajt,Rw (a:=[116]) (b:=[119]) ajt,q3,q5,me,be,cp1,cm,jn,aes,lr];exact eK _ rfl
mutual
def Ze:Nd->Fl->Prop
 |.text _,_=>False
 |.place _ _ w,x=>∃v s,x=.sc v/\VV 0 v/\Y7 v/\UL w v=some s
 |.loop _ _ _ ns _,x=>∃xs:List (List Fl),x=.lst (xs.map Fl.lst)/\xs.length<=3/\∀ys∈xs,X6 ns ys
 |.choice _ _ y n,x=>∃b ys,x=.tup b ys/\(b=true->X6 y ys)/\(b=ajt->X6 n ys)
def X6:List Nd->List Fl->Prop
 |[],ys=>ys= []
 |n::r,ys=>(Wa n=true/\X6 r ys)\/∃x t,ys=x::t/\Ze n x/\X6 r t
end
theorem fP:∀l:List Fl,aq l=l.map K8
 |[]=>by rw[aq];rfl
 |x::r=>by rw[aq,fP r];rfl
def fj(a b:List Fl):aq (a++b)=aq a++aq b:=by rw[fP,fP,fP,aeP]
def eY(a:List Fl):(aq a).length=a.length:=by rw[fP,aes]
def Hn{g:Gx}{b:Sx}{r:Y2}{ρ2:Ev}(hg:g p ρ=some ρ1)(hb:b ρ1 h=.ct ρ2 h2):bc g b (p::r) ρ h=bc g b r ρ2 h2:=by simp only[bc,hg,hb]
noncomputable def dFi:PV:=.dct [(.inr [119,111,114,100],.str [119]),(.inr [110,117,109,98,101,114],.str [110])]
theorem Lg(ρ:Ev)(h:Y3):mK [(aao,ach),(aaw,adw)] ρ h=.ok dFi h:=rfl
theorem NT(h:Y3):sw h dFi=true:=rfl
def HX(w:Nat)(hw:w<5)(h:Y3):rP dFi [.str (ca w),.str [116]] h=.ok (.str [kW w]) h:=by rcases(show w=0\/w=1\/w=2\/w=3\/w=4 by lia)with rfl|rfl|rfl|rfl|rfl<;>rfl
def Drw(cs:List Int)(K:Nat)(l:List Nd):Prop:=∀n m:Int,0<=n->n+(uS l:Int)<=1000000000->∃ys n',X6 l ys/\ai (aq ys)=true/\n<=n'/\n'<=n+(uS l:Int)/\L K .T6 [cv cs,.ref 0,.tup (g8 l)] [u_ n m]=.ok (.lst (aq ys)) [u_ n' m]
noncomputable def gw:Nd->List (List Nd)
 |.loop _ _ _ ns _=> [ns]
 |.choice _ _ y n=> [y,n]
 |_=> []
section
variable(cs:List Int)(hc:cs.length<=63)(m:Int)
theorem ou{cs:List Int}{l:List Nd}(D:Drw cs K l)(n m:Int)(T:Y3)(h0:0<=n)(h1:n+(uS l:Int)<=1000000000):∃ys n',X6 l ys/\ai (aq ys)=true/\n<=n'/\n'<=n+(uS l:Int)/\z_ (L K .T6) [cv cs,.ref 0,.tup (g8 l)] (u_ n m::T)=.ok (.lst (aq ys)) (u_ n' m::T):=by obtain⟨ys,n',a,b,c,d,e⟩:=D n m h0 h1;exact⟨ys,n',a,b,c,d,dB (fn:=L K .T6) [cv cs] [.tup (g8 l)] (by rw[ai,iF];rfl) (by rw[ai,PV.pure,bv];rfl) rfl (ci _ _) e (by rw[PV.pure];exact b) (ci _ _)⟩
include hc
theorem Cs(k:Nat)(nn:Nd)(td:SQ nn)(D:∀l∈gw nn,Drw cs (k+2) l)(n:Int)(h0:0<=n)(h1:n+(uN nn:Int)<=1000000000)(acc:List Fl)(ha:acc.length<=15000000)(X2 x5 x6:Option PV)(r:Y2)(x4:Option PV):∃(ys:List Fl)(n':Int)(y5 y6:Option PV),((Wa nn=true/\ys= [])\/∃x,ys= [x]/\Ze nn x)/\ai (aq ys)=true/\n<=n'/\n'<=n+(uN nn:Int)/\
  bc (P0 4) (eS (F (k+2)) (L (k+2))) (nd nn::r) [cv cs,PV.ref 0,X2,PV.ref 1,x4,x5,x6] (HB n m [] (aq acc))=bc (P0 4) (eS (F (k+2)) (L (k+2))) r [cv cs,PV.ref 0,X2,PV.ref 1,nd nn,y5,y6] (HB n' m [] (aq (acc++ys))):=by
 have k0:=Hc nn;have tg:=Vt;have d0:=sB
 cases nn with
 |text s=>refine⟨[],n,x5,x6,.inl ⟨rfl,rfl⟩,rfl,agR _,by lia,?_⟩;rw[aep];refine Hn rfl ?_;simp[EV,eS,bR,k0,kT,Vt];rfl
 |place a f w=>
  rw[SQ]at td;rw[uN]at h1 |-;obtain⟨v,v0,v1,ce⟩:=dA (k+1) cs hc n m h0 ⋯ [.lst (aq acc)];have ce:z_ (L (k+2) .K5) [cv cs,.ref 0] (HB n m [] (aq acc))=.ok (.int v) (HB (n+1) m [] (aq acc)):=ce;obtain⟨x,xv,xs,⟨s,xc⟩,ve⟩:=wX k w td v v0 v1;have ve:∀h,aR (F (k+2) .TX) [.str [kW w],.int v] h=.ok x h:=fun h=>aH h rfl ve;refine⟨[.sc x],n+1,some (.int v),x6,.inr ⟨.sc x,rfl,by rw[Ze];exact⟨x,s,rfl,xv,xs,xc⟩⟩,by rw[aq,aq,K8,ai,xv.pure];rfl,by lia,by lia,cC rfl ?_⟩;have i2:=fun h=>(yb h a f w).2.2;have dr:=jE (n+1) m [] (aq acc);have li:=wg (n+1) m [] (aq acc);have ap:=sD (n+1) m [] (aq acc) x (by rw[eY];lia);have fe:aq (acc++ [.sc x])=aq acc++ [x]:=by rw[fj,aq,aq,K8]
  rw[fe];simp only[aeJ]at dr li ap;simp[EV,eS,bR,k0,kT,Vt,fy,d0,ce,Lg,NT,i2,HX w td,ve,dr,li,ap]
 |choice a f y nn=>
  rw[uN]at h1 |-;obtain⟨v,v0,v1,ce⟩:=dA (k+1) cs hc n m h0 ⋯ [.lst (aq acc)];have ce:z_ (L (k+2) .K5) [cv cs,.ref 0] (HB n m [] (aq acc))=.ok (.int v) (HB (n+1) m [] (aq acc)):=ce;have e3:=fun h=>(tg h).2.2.2.2.2.2.2.2.2.2;have hy:=D y (by simp[gw]);have hn:=D nn (by simp[gw])
  obtain⟨b,a_,ys,n2,bz,zf,pz,p1,p2,ixz,call⟩:∃(b:Bool)(a_:List Nd)(ys:List Fl)(n2:Int),decide (v / 5 % 2=0)=b/\((b=true->X6 y ys)/\(b=ajt->X6 nn ys))/\ai (aq ys)=true/\n+1<=n2/\n2<=n+1+(uS y:Int)+(uS nn:Int)/\(∀h,j5 (nd (.choice a f y nn)) (.int (2+v / 5 % 2)) h=.ok (.tup (g8 a_)) h)/\z_ (L (k+2) .T6) [cv cs,.ref 0,.tup (g8 a_)] (HB (n+1) m [] (aq acc))=.ok (.lst (aq ys)) (HB n2 m [] (aq acc)):=by
   by_cases q:v / 5 % 2=0
   .obtain⟨ys,n2,a1,a2,a3,a4,a5⟩:=ou hy (n+1) m [.lst (aq acc)] ⋯ ⋯;exact⟨true,y,ys,n2,ajw q,⟨fun _=>a1,fun z=>by cases z⟩,a2,a3,by lia,fun h=>by rw[q];exact(pL h a f y nn).2.2.1,a5⟩
   .obtain⟨ys,n2,a1,a2,a3,a4,a5⟩:=ou hn (n+1) m [.lst (aq acc)] ⋯ ⋯;exact⟨ajt,nn,ys,n2,ajv q,⟨fun z=>(by cases z),fun _=>a1⟩,a2,a3,by lia,fun h=>by rw[show v / 5 % 2=1 by lia];exact(pL h a f y nn).2.2.2,a5⟩
  refine⟨[.tup b ys],n2,some (.int v),x6,.inr ⟨.tup b ys,rfl,by rw[Ze];exact⟨b,ys,rfl,zf.1,zf.2⟩⟩,by rw[aq,aq,K8];simp[ai,PV.pure,pz],by lia,by lia,cC rfl ?_⟩;have dr:=jE n2 m [] (aq acc);have dr1:=jE (n+1) m [] (aq acc);have li:=wg (n+1) m [] (aq acc);have ap:=sD n2 m [] (aq acc) (.tup [.bl b,.lst (aq ys)]) (by rw[eY];lia);have fe:aq (acc++ [.tup b ys])=aq acc++ [.tup [.bl b,.lst (aq ys)]]:=by rw[fj,aq,aq,K8]
  rw[fe];simp only[aeJ]at dr dr1 li ap;unfold qE at e3;simp[EV,eS,bR,k0,kT,Vt,e3,fy,d0,ce,db,bz,ixz,call,dr,dr1,li,ap]
 |loop x a f ns b=>
  rw[uN]at h1 |-;obtain⟨v,v0,v1,ce⟩:=dA (k+1) cs hc n m h0 ⋯ [.lst (aq acc)];have ce:z_ (L (k+2) .K5) [cv cs,.ref 0] (HB n m [] (aq acc))=.ok (.int v) (HB (n+1) m [] (aq acc)):=ce;have e3:∀h,v9 (.str tL) (.str tC) h=.ok (.bl ajt) h:=fun h=>Rw ajt (h:=h);have hy:=D ns (by simp[gw]);have q6:=bD (v / 5) (m:=6) ⋯;obtain⟨z,zm,ze⟩:=EC [0,1,2,3,1,2] (v / 5 % 6) q6.1 (by simpa using q6.2);have ze:∀h,j5 (.lst [.int 0,.int 1,.int 2,.int 3,.int 1,.int 2]) (.int (v / 5 % 6)) h=.ok (.int z) h:=ze
  have z3:0<=z/\z<=3:=by
   simp only[aek,aeO,ajP]at zm
   lia
  have lt:∀h,Tw (.int (n+1)) (.int 150) h=.ok (.bl (decide (n+1<150))) h:=fun _=>rfl;have ib:∀(x:Bool) h,oR [.bl x] h=.ok (.int (if x=true then 1 else 0)) h:=fun x _=>rfl
  obtain⟨t,t3,te,tb⟩:∃t:Nat,t<=3/\z * (if decide (n+1<150)=true then 1 else 0)=(t:Int)/\VJ 4611686018427387904 (t:Int)=true:=by
   by_cases q:n+1<150
   .exact⟨z.toNat,by lia,by rw[ajw q,ajz rfl];lia,bW.mpr ⋯⟩
   .exact⟨0,by lia,by rw[ajv q,ajB ⋯];lia,by decide⟩
  have mm:∀h,jh (.int z) (.int (if decide (n+1<150)=true then 1 else 0)) h=.ok (.int (t:Int)) h:=fun h=>by rw[<- te];refine(Ko _ _ _).trans ?_;rw[ajz (mV (bW.mpr (by split<;>lia)))]
  have i0:=IM (n+1) m [] (aq acc)
  obtain⟨xs,n2,xl,xp,p1,p2,ex⟩:=qI (te:=kP (F (k+2)) (L (k+2))) (cp:=[cv cs,PV.ref 0,nd (.loop x a f ns b)]) (m:=m) (T:=[.lst (aq acc)]) (fun i:Nat=>PV.int (0+i)) (fun ys:List Fl=>.lst (aq ys)) (fun ys=>X6 ns ys/\ai (aq ys)=true) (uS ns) ⋯ 1000000000 (ajy t) (n+1) ⋯ (by
   rw[aeH];have:(uS ns:Int) * (t:Int)<=(uS ns:Int) * 3:=af7 ⋯ ⋯
   lia) (fun i _ n3 h3 h4=>by
   obtain⟨ys,n4,a1,a2,a3,a4,a5⟩:=ou hy n3 m [.lst (aq acc)] h3 h4;refine⟨ys,n4,⟨a1,a2⟩,a3,a4,?_⟩;have i3:=fun h=>(mI h x a f ns b).2.2.2.1;have d0':aA (u_ n3 m:: [.lst (aq acc)]) (.ref 0)=.ref 0:=rfl;simp[EV,kP,fy,bR,d0',i3,a5])
  have p2:n2<=n+1+3 * (uS ns:Int):=by
   rw[aeH]at p2;have:(uS ns:Int) * (t:Int)<=(uS ns:Int) * 3:=af7 ⋯ ⋯
   lia
  have ex:cJ bQ (kP (F (k+2)) (L (k+2))) [cv cs,PV.ref 0,nd (.loop x a f ns b)] ((ajy t).map fun i:Nat=>PV.int (0+i)) (HB (n+1) m [] (aq acc))=.ok (xs.map fun ys:List Fl=>PV.lst (aq ys)) (HB n2 m [] (aq acc)):=ex
  have fx:K8 (.lst (xs.map Fl.lst))=.lst (xs.map fun ys:List Fl=>PV.lst (aq ys)):=by
   rw[K8,fP,afe]
   congr 1
  have pxs:ai (xs.map fun ys:List Fl=>PV.lst (aq ys))=true:=nP fun p hp=>by obtain⟨y,hy,rfl⟩:=aeX.mp hp;rw[PV.pure];exact(xp y hy).2
  refine⟨[.lst (xs.map Fl.lst)],n2,some (.int v),some (.int (t:Int)),.inr ⟨_,rfl,by rw[Ze];exact⟨xs,rfl,by rw[xl,aeH];exact t3,fun ys hys=>(xp ys hys).1⟩⟩,by rw[aq,aq,fx,ai,PV.pure,pxs];rfl,by lia,by lia,cC rfl ?_⟩;have dr:=jE n2 m [] (aq acc);have dr1:=jE (n+1) m [] (aq acc);have li:=wg (n+1) m [] (aq acc);have ap:=sD n2 m [] (aq acc) (.lst (xs.map fun ys:List Fl=>PV.lst (aq ys))) (by rw[eY];lia);have fe:aq (acc++ [.lst (xs.map Fl.lst)])=aq acc++ [.lst (xs.map fun ys:List Fl=>PV.lst (aq ys))]:=by rw[fj,aq,aq,fx]
  rw[fe];simp only[aeJ]at dr dr1 li ap;have lr:((ajy t).map fun i:Nat=>PV.int (0+i)).length<16777216:=by rw[aes,aeH];lia
  have tn:((t:Int)).toNat=t:=ae7 t;have cp:∀(y2 y3 y5 y6:Option PV),cU [0,1,4] [some (cv cs),some (.ref 0),y2,y3,some (nd (.loop x a f ns b)),y5,y6]=[some (cv cs),some (.ref 0),some (nd (.loop x a f ns b))]:=fun _ _ _ _=>rfl;have ndd:=bR;generalize hN:nd (.loop x a f ns b)=N at*;have dN:∀h,aA h N=N:=fun h=>by rw[<- hN];exact ndd h _
  simp[EV,eS,dN,k0,kT,Vt,e3,fy,d0,ce,ze,i0,lt,ib,mm,tb,tn,lr,cp,ex,dr,dr1,li,ap]
theorem uK(k:Nat)(X2:Option PV):∀(l:List Nd)(n:Int)(acc:List Fl)(x4 x5 x6:Option PV),O3 l->(∀nn∈l,∀l'∈gw nn,Drw cs (k+2) l')->0<=n->n+(uS l:Int)<=1000000000->acc.length+l.length<=15000000->∃(ys:List Fl)(n':Int)(y4 y5 y6:Option PV),X6 l ys/\ai (aq ys)=true/\n<=n'/\n'<=n+(uS l:Int)/\
  bc (P0 4) (eS (F (k+2)) (L (k+2))) (g8 l) [cv cs,PV.ref 0,X2,PV.ref 1,x4,x5,x6] (HB n m [] (aq acc))=.nx [cv cs,PV.ref 0,X2,PV.ref 1,y4,y5,y6] (HB n' m [] (aq (acc++ys)))
 |[],n,acc,x4,x5,x6,_,_,h0,h1,ha=>⟨[],n,x4,x5,x6,by rw[X6],rfl,agR _,by lia,by rw[g8,aep];rfl⟩
 |nn::l,n,acc,x4,x5,x6,td,D,h0,h1,ha=>by
  rw[O3]at td;rw[uS]at h1 |-;rw[aeh]at ha;obtain⟨ys,n1,y5,y6,a1,a2,a3,a4,a5⟩:=Cs cs hc m k nn td.1 (D nn (by simp)) n h0 ⋯ acc ⋯ X2 x5 x6 (g8 l) x4
  have yl:ys.length<=1:=by
   rcases a1 with⟨_,rfl⟩|⟨x,rfl,_⟩
   .exact aeL _
   .exact aeB _
  obtain⟨zs,n2,z4,z5,z6,b1,b2,b3,b4,b5⟩:=uK k X2 l n1 (acc++ys) (some (nd nn)) y5 y6 td.2 (fun z hz=>D z (by simp[hz])) ⋯ ⋯ (by rw[aei];lia);refine⟨ys++zs,n2,z4,z5,z6,?_,?_,by lia,by lia,?_⟩
  .rw[X6];rcases a1 with⟨q,rfl⟩|⟨x,rfl,q⟩
   .exact .inl ⟨q,b1⟩
   .exact .inr ⟨x,zs,rfl,q,b1⟩
  .rw[fj]
   have:∀(a b:Y2),ai a=true->ai b=true->ai (a++b)=true:=fun a=>by
    induction a with
    |nil=>exact fun b _ h=>h
    |cons x a ih=>exact fun b h k=>by rw[ai,ael]at h;rw[ae3,ai,h.1,ih b h.2 k];rfl
   exact this _ _ a2 b2
  .rw[g8,a5,b5,aeK]
theorem yh(k:Nat)(l:List Nd)(td:O3 l)(ll:l.length<=14000000)(D:∀nn∈l,∀l'∈gw nn,Drw cs (k+2) l'):Drw cs (k+3) l:=fun n m h0 h1=>by obtain⟨ys,n',y4,y5,y6,a1,a2,a3,a4,a5⟩:=uK cs hc m k (some (.tup (g8 l))) l n [] none none none td D h0 h1 (by rw[aeJ];lia);rw[aeN]at a5;refine⟨ys,n',a1,a2,a3,a4,?_⟩;show fO (oB (F (k+2)) (L (k+2))) 3 7 [cv cs,.ref 0,.tup (g8 l)] [u_ n m]=_;refine gB (h1:=HB n' m [] (aq ys)) (v:=.ref ([]:Y3).length.succ) rfl ?_ (EI n' m [] (aq ys) a2);show oB (F (k+2)) (L (k+2)) [cv cs,PV.ref 0,PV.tup (g8 l),none,none,none,none] [u_ n m]=_;have e3:aG 3 aaW [cv cs,PV.ref 0,PV.tup (g8 l),none,none,none,none] [u_ n m]=.nx [cv cs,PV.ref 0,PV.tup (g8 l),PV.ref 1,none,none,none] (HB n m [] []):=rfl;have si:∀h,jA (.tup (g8 l)) h=.ok (g8 l) h:=fun _=>rfl;have a5:bc (P0 4) (eS (F (k+2)) (L (k+2))) (g8 l) [cv cs,PV.ref 0,PV.tup (g8 l),PV.ref 1,none,none,none] (HB n m [] [])=_:=a5;have dr:=jE n' m [] (aq ys);simp only[aeJ]at dr;unfold oB;rw[sq e3];simp[EV,si,a5,dr]
end
def mZ{nn:Nd}{l:List Nd}(h:l∈gw nn):M6 l<dN nn:=by
 cases nn<;>simp only[gw,aek,aeO,ajP]at h
 .subst h;rw[dN];lia
 .rcases h with rfl|rfl<;>rw[dN]<;>lia
theorem iS{nn:Nd}:∀{l:List Nd},nn∈l->dN nn<=M6 l
 |m::r,h=>by
  rw[M6];rcases aek.mp h with rfl|h
  .lia
  .have:=iS h;lia
theorem ku{nn:Nd}:∀{l:List Nd},nn∈l->O3 l->SQ nn
 |m::r,h,t=>by
  rw[O3]at t;rcases aek.mp h with rfl|h
  .exact t.1
  .exact ku h t.2
def qW{nn:Nd}{l:List Nd}(h:l∈gw nn)(t:SQ nn):O3 l:=by
 cases nn<;>simp only[gw,aek,aeO,ajP]at h
 .subst h;rw[SQ]at t;exact t.2.2.1
 .rw[SQ]at t;rcases h with rfl|rfl
  .exact t.2.2.2.2.1
  .exact t.2.2.2.2.2
def qR{nn:Nd}{l:List Nd}(h:l∈gw nn):uS l<=uN nn:=by
 cases nn<;>simp only[gw,aek,aeO,ajP]at h
 .subst h;rw[uN];lia
 .rcases h with rfl|rfl<;>rw[uN]<;>lia
theorem lq{nn:Nd}:∀{l:List Nd},nn∈l->uN nn<=uS l
 |m::r,h=>by
  rw[uS];rcases aek.mp h with rfl|h
  .lia
  .have:=lq h;lia
theorem gY:∀{l:List Nd},O3 l->l.length<=uS l
 |[],_=>aeL _
 |n::r,t=>by
  rw[O3]at t;have:=gY t.2
  have:1<=uN n:=by
   cases n with
   |text s=>have:=t.1;rw[SQ]at this;rw[uN];exact Nat.pos_of_ne_zero fun q=>this.1 (List.length_eq_zero_iff.mp q)
   |place a f w=>rw[uN];decide
   |loop x a f ns b=>rw[uN];lia
   |choice a f y n=>rw[uN];lia
  rw[uS,aeh];lia
theorem AT(cs:List Int)(hc:cs.length<=63)(k:Nat):∀(d:Nat)(l:List Nd),O3 l->M6 l<=d->uS l<=14000000->Drw cs (k+d+3) l
 |0,l,t,hd,hu=>yh cs hc k l t (aeI (gY t) hu) fun nn hn l' Zq=>by have:=mZ Zq;have:=iS hn;lia
 |d+1,l,t,hd,hu=>yh cs hc (k+d+1) l t (aeI (gY t) hu) fun nn hn l' Zq=>by have:=mZ Zq;have:=iS hn;have:=qR Zq;have:=lq hn;exact AT cs hc k d l' (qW Zq (ku hn t)) ⋯ ⋯
def SpL(K:Nat)(l:List Nd):Prop:=∀ys,X6 l ys->ai (aq ys)=true->∃t,sgn t/\t.length<=uS l/\F K .spelt [.tup (g8 l),.lst (aq ys)]=.ok (.str t)
def SpN(K:Nat)(nn:Nd):Prop:=∀x,Ze nn x->(K8 x).pure=true->∃t,sgn t/\t.length<=uN nn/\F K .Tg [nd nn,K8 x]=.ok (.str t)
def fF(h:sgn a)(k:sgn b):sgn (a++b):=fun c hc=>by
 rcases aeF.mp hc with q|q
 .exact h c q
 .exact k c q
def nE{l:List Nd}(S:SpL K l){ys:List Fl}(f:X6 l ys)(p:ai (aq ys)=true):∃t,sgn t/\t.length<=uS l/\∀h,aR (F K .spelt) [.tup (g8 l),.lst (aq ys)] h=.ok (.str t) h:=by obtain⟨t,a,b,c⟩:=S ys f p;exact⟨t,a,b,fun h=>aH h (by rw[ai,PV.pure,bv,ai,PV.pure,p];rfl) c⟩
def Gf(k:Nat)(a:Y1)(f:Ya)(w:Nat)(hw:w<5):SpN (k+5) (.place a f w):=fun x fx px=>by rw[Ze]at fx;obtain⟨u,s,rfl,uv,us,uc⟩:=fx;have f':=fQ uc;have pv:u.pure=true:=uv.pure;have pi:(PV.ins w []).pure=true:=rfl;have y:∀h,aR (F (k+4) .SN) [.str (ca w)] h=.ok (.ins w []) h:=fun h=>aH h rfl (zW (k+3) w hw);have q:∀h,aR (F (k+4) .j7) [.ins w [],u] h=.ok (.str s) h:=fun h=>aH h (by simp only[ai,pv,pi];rfl) (HY hw pv f' k);have i:=fun h=>yb h a f w;refine⟨s,(f'.2 rfl).2.2,by rw[uN];exact(f'.2 rfl).2.1,?_⟩;rw[K8];show ag (dh (F (k+4))) 2 2 [nd (.place a f w),u]=_;simp[EV,ag,dh,bR,(i _).1,(i _).2.2,(Vt _).2.2.1,y,q,NQ _ w hw,ar _ pv,aP]
theorem Dc(k:Nat)(a:Y1)(f:Ya)(y n:List Nd)(hy:SpL k y)(hn:SpL k n):SpN (k+1) (.choice a f y n):=fun x fx px=>by
 rw[Ze]at fx;obtain⟨b,ys,rfl,f1,f2⟩:=fx;have i:=fun h=>pL h a f y n;have tg:=Vt;rw[K8]at px |-;have xp:ai (aq ys)=true:=by simpa[PV.pure,ai]using px
 have i0:∀h,j5 (.tup [.bl b,.lst (aq ys)]) (.int 0) h=.ok (.bl b) h:=fun _=>rfl;have i1:∀h,j5 (.tup [.bl b,.lst (aq ys)]) (.int 1) h=.ok (.lst (aq ys)) h:=fun _=>rfl
 cases b with
 |true=>obtain⟨t,t1,t2,q⟩:=nE hy (f1 rfl) xp;refine⟨t,t1,by rw[uN];lia,?_⟩;show ag (dh (F k)) 2 2 [nd (.choice a f y n),.tup [.bl true,.lst (aq ys)]]=_;simp[EV,ag,dh,bR,(i _).1,(i _).2.2.1,i0,i1,(tg _).2.2.2.2.2.2.2.1,(tg _).2.2.2.2.2.2.2.2.1,ar _ px,q,aP]
 |false=>obtain⟨t,t1,t2,q⟩:=nE hn (f2 rfl) xp;refine⟨t,t1,by rw[uN];lia,?_⟩;show ag (dh (F k)) 2 2 [nd (.choice a f y n),.tup [.bl ajt,.lst (aq ys)]]=_;simp[EV,ag,dh,bR,(i _).1,(i _).2.2.2,i0,i1,(tg _).2.2.2.2.2.2.2.1,(tg _).2.2.2.2.2.2.2.2.1,ar _ px,q,aP]
theorem xZ(b:Y1)(hb:sgn b)(M:Nat):∀ts:Ya,(∀t∈ts,sgn t/\t.length<=M)->sgn (iK b ts)/\(iK b ts).length<=ts.length * (M+b.length)
 |[],_=>⟨fun c hc=>(nomatch hc),aeL _⟩
 |[t],h=>⟨(h t (by simp)).1,by have:=(h t (by simp)).2;show t.length<=1 * (M+b.length);lia⟩
 |t::u::r,h=>by
  obtain⟨i1,i2⟩:=xZ b hb M (u::r) fun z hz=>h z (aen _ hz)
  have e:iK b (t::u::r)=t++(b++iK b (u::r)):=by
   rw[iK]
   .rw[aeK]
   .simp
  have h1:=h t (by simp);have m:(t::u::r).length * (M+b.length)=(u::r).length * (M+b.length)+(M+b.length):=by rw[aeh,agz]
  rw[e,m];refine⟨fF h1.1 (fF hb i1),?_⟩;rw[aei,aei];lia
def Jt(k:Nat)(x a:Y1)(f:Ya)(ns:List Nd)(b:Y1)(hb:sgn b)(hu:uN (.loop x a f ns b)<=16000000)(hn:SpL k ns):SpN (k+1) (.loop x a f ns b):=fun z fz pz=>by
 rw[Ze]at fz;obtain⟨xs,rfl,x3,fx⟩:=fz;have i:=fun h=>mI h x a f ns b;have tg:=Vt
 have fl:K8 (.lst (xs.map Fl.lst))=.lst (xs.map fun ys:List Fl=>PV.lst (aq ys)):=by
  rw[K8,fP,afe]
  congr 1
 rw[fl]at pz |-
 have px:∀ys∈xs,ai (aq ys)=true:=by
  have:∀l:List (List Fl),ai (l.map fun ys:List Fl=>PV.lst (aq ys))=true->∀ys∈l,ai (aq ys)=true:=fun l=>by
   induction l with
   |nil=>exact fun _ y hy=>nomatch hy
   |cons q l ih=>
    intro h y hy;rw[aeA,ai,ael]at h;rcases aek.mp hy with rfl|hy
    .simpa[PV.pure]using h.1
    .exact ih h.2 y hy
  exact this xs (by simpa[PV.pure]using pz)
 have i3:=fun h=>(i h).2.2.2.1
 obtain⟨ss,s1,s2,s3⟩:=vZ (te:=jk (F k)) (cp:=[nd (.loop x a f ns b)]) (h:=[]) (fun ys:List Fl=>PV.lst (aq ys)) (fun s=>sgn s/\s.length<=uS ns) xs fun ys hys=>by obtain⟨t,t1,t2,q⟩:=nE hn (fx ys hys) (px ys hys);refine⟨t,⟨t1,t2⟩,?_⟩;simp[EV,jk,bR,i3,q]
 obtain⟨j1,j2⟩:=xZ b hb (uS ns) ss s2;have m3:ss.length * (uS ns+b.length)<=3 * (uS ns+b.length):=afJ _ ⋯;rw[uN]at hu;refine⟨iK b ss,j1,by rw[uN];lia,?_⟩
 have sm:(ss.map (fun l=>l.length)).sum<=ss.length * uS ns:=by
  have:∀l:Ya,(∀s∈l,sgn s/\s.length<=uS ns)->(l.map (fun l=>l.length)).sum<=l.length * uS ns:=fun l=>by
   induction l with
   |nil=>exact fun _=>aeL _
   |cons q l ih=>intro h;have:=ih fun s hs=>h s (by simp[hs]);have:=(h q (by simp)).2;rw[aeA,ahp,aeh,agz];lia
  exact this ss s2
 have jn:∀h,eJ (.str b) [.lst (ss.map PV.str)] h=.ok (.str (iK b ss)) h:=fun h=>nR rfl (by
  rw[Nat.mul_add]at m3
  lia)
 have ln:(xs.map fun ys:List Fl=>PV.lst (aq ys)).length<16777216:=by rw[aes];lia
 have ip:=(i [])
 have cp:∀y1:Option PV,cU [0] [some (nd (.loop x a f ns b)),y1]=[some (nd (.loop x a f ns b))]:=fun _=>rfl;show ag (dh (F k)) 2 2 [nd (.loop x a f ns b),.lst (xs.map fun ys:List Fl=>PV.lst (aq ys))]=_;generalize(xs.map fun ys:List Fl=>PV.lst (aq ys))=XS at*;simp[EV,ag,dh,bR,(i _).1,(i _).2.2.2.2,(tg _).2.2.2.1,(tg _).2.2.2.2.1,(tg _).2.2.2.2.2.1,ln,cp,s3,jn,aP]
theorem mN(k:Nat)(x0:Option PV):∀(l:List Nd)(ys zs:List Fl)(ps:Ya)(x4:Option PV),X6 l ys->O3 l->ai (aq (zs++ys))=true->(∀nn∈l,Wa nn=ajt->SpN k nn)->ps.length+l.length<=15000000->∃(ts:Ya)(p:Int)(y4:Option PV),(∀t∈ts,sgn t)/\ts.flatten.length<=uS l/\
  bc (P0 4) (jW (F k)) (g8 l) [x0,PV.lst (aq (zs++ys)),PV.ref 0,PV.int (zs.length:Nat),x4] [.lst (ps.map PV.str)]=.nx [x0,PV.lst (aq (zs++ys)),PV.ref 0,PV.int p,y4] [.lst ((ps++ts).map PV.str)]
 |[],ys,zs,ps,x4,fr,td,pp,_,hl=>⟨[],_,x4,fun t h=>(nomatch h),aeL _,by rw[g8,aep];rfl⟩
 |nn::l,ys,zs,ps,x4,fr,td,pp,S,hl=>by
  rw[O3]at td;rw[aeh]at hl;rw[X6]at fr;have k0:=Hc nn;have kt:=Ez nn;have ps1:(ps.map PV.str).length<16777216:=by rw[aes];lia
  rcases fr with⟨q,fr⟩|⟨x,t,rfl,fx,fr⟩
  .obtain⟨s,rfl⟩:∃s,nn=.text s:=by cases nn<;>first|exact⟨_,rfl⟩|cases q
   have ts:=td.1;rw[SQ]at ts;obtain⟨us,p,y4,a1,a2,a3⟩:=mN k x0 l ys zs (ps++ [s]) (some (nd (.text s))) fr td.2 pp (fun z hz=>S z (by simp[hz])) (by rw[aei,aev];lia);refine⟨s::us,p,y4,fun t ht=>?_,by rw[uS,uN,ae4,aei];lia,?_⟩
   .rcases aek.mp ht with rfl|ht
    .exact ts.2
    .exact a1 t ht
   .rw[g8];have e:ps++s::us=ps++ [s]++us:=by simp
    rw[e,<- a3];refine cC rfl ?_;have i1:=fun h=>(pK h s).2;simp[EV,jW,bR,k0,kt,Wa,i1,iW,yu,mX,ps1,aeP]
  .have nt:Wa nn=ajt:=by cases nn<;>first|rfl|(rw[Ze]at fx;exact fx.elim)
   have pz:(K8 x).pure=true:=by
    have:∀(a:List Fl),ai (aq (a++x::t))=true->(K8 x).pure=true:=fun a=>by
     induction a with
     |nil=>exact fun h=>by rw[aeN,aq,ai,ael]at h;exact h.1
     |cons b a ih=>exact fun h=>by rw[ae3,aq,ai,ael]at h;exact ih h.2
    exact this zs pp
   obtain⟨s,s1,s2,se⟩:=S nn (by simp) nt x fx pz;have se:∀h,aR (F k .Tg) [nd nn,K8 x] h=.ok (.str s) h:=fun h=>aH h (by rw[ai,iD,ai,pz];rfl) se;have ez:zs++x::t=(zs++ [x])++t:=by simp
   obtain⟨us,p,y4,a1,a2,a3⟩:=mN k x0 l t (zs++ [x]) (ps++ [s]) (some (nd nn)) fr td.2 (by rw[<- ez];exact pp) (fun z hz=>S z (by simp[hz])) (by rw[aei,aev];lia);rw[<- ez]at a3
   have ix:∀h,j5 (.lst (aq (zs++x::t))) (.int (zs.length:Nat)) h=.ok (K8 x) h:=fun h=>by show(match Sy (aq (zs++x::t)) (zs.length:Nat)with|some q=>Res.ok (aA h q) h|none=>.bad)=_;rw[eQ (v:=K8 x) ⋯ (by rw[ae7,fP,aeP,aeD (by simp)];simp)];dsimp only;rw[ar h pz]
   have pc:((zs.length:Nat):Int)+1=(((zs++ [x]).length:Nat):Int):=by simp
   refine⟨s::us,p,y4,fun t ht=>?_,by rw[uS,ae4,aei];lia,?_⟩
   .rcases aek.mp ht with rfl|ht
    .exact s1
    .exact a1 t ht
   .rw[g8];have e:ps++s::us=ps++ [s]++us:=by simp
    rw[e,<- a3];refine cC rfl ?_;simp[EV,jW,bR,k0,kt,nt,ix,ar _ pz,se,iW,yu,mX,ps1,aeP,pc]
def CT(k:Nat)(l:List Nd)(td:O3 l)(hu:uS l<=14000000)(S:∀nn∈l,Wa nn=ajt->SpN k nn):SpL (k+1) l:=fun ys fr pp=>by
 obtain⟨ts,p,y4,a1,a2,a3⟩:=mN k (some (.tup (g8 l))) l ys [] [] none fr td pp S (by rw[aeJ];have:=gY td;lia);rw[aeN,aeN]at a3;refine⟨ts.flatten,fun c hc=>?_,a2,?_⟩
 .obtain⟨t,h1,h2⟩:=aiY.mp hc;exact a1 t h1 c h2
 .show ag (wF (F k)) 2 5 [.tup (g8 l),.lst (aq ys)]=_;have a3:bc (P0 4) (jW (F k)) (g8 l) [PV.tup (g8 l),PV.lst (aq ys),PV.ref 0,PV.int 0,none] [.lst []]=.nx [PV.tup (g8 l),PV.lst (aq ys),PV.ref 0,PV.int p,y4] [.lst (ts.map PV.str)]:=a3;have si:∀h,jA (.tup (g8 l)) h=.ok (g8 l) h:=fun _=>rfl;have jn:eJ (.str []) [.ref 0] [.lst (ts.map PV.str)]=.ok (.str ts.flatten) [.lst (ts.map PV.str)]:=vS (by rw[xn];lia);simp[EV,ag,wF,si,a3,iW,jn,aP]
theorem qq(k:Nat):∀(d:Nat)(l:List Nd),O3 l->M6 l<=d->uS l<=14000000->SpL (k+2 * d+6) l
 |d,l,t,hd,hu=>CT (k+2 * d+5) l t hu fun nn hn nt=>by
  have t1:=ku hn t;have d1:=iS hn;have u1:=lq hn
  cases nn with
  |text s=>cases nt
  |place a f w=>rw[SQ]at t1;exact Gf (k+2 * d) a f w t1
  |choice a f y n=>
   obtain⟨d',rfl⟩:∃d',d=d'+1:=⟨d - 1,by rw[dN]at d1;lia⟩
   have sy:=qq k d' y (qW (by simp[gw]) t1) (by have:=mZ (nn:=.choice a f y n) (l:=y) (by simp[gw]);lia) (by have:=qR (nn:=.choice a f y n) (l:=y) (by simp[gw]);lia);have sn:=qq k d' n (qW (by simp[gw]) t1) (by have:=mZ (nn:=.choice a f y n) (l:=n) (by simp[gw]);lia) (by have:=qR (nn:=.choice a f y n) (l:=n) (by simp[gw]);lia);exact Dc (k+2 * d'+6) a f y n sy sn
  |loop x a f ns b=>
   obtain⟨d',rfl⟩:∃d',d=d'+1:=⟨d - 1,by rw[dN]at d1;lia⟩
   have sn:=qq k d' ns (qW (by simp[gw]) t1) (by have:=mZ (nn:=.loop x a f ns b) (l:=ns) (by simp[gw]);lia) (by have:=qR (nn:=.loop x a f ns b) (l:=ns) (by simp[gw]);lia);rw[SQ]at t1;exact Jt (k+2 * d'+6) x a f ns b t1.2.2.2 ⋯ sn
def ng(t:List α)(b:Nat):cut t none (some (b:Int))=t.take b:=by
 unfold cut;rw[Z.Vd];show(t.drop 0).take (min b t.length - 0)=_;rw[afq,Nat.sub_zero]
 by_cases h:b<=t.length
 .rw[agW h]
 .rw[agK (show t.length<=b by lia),aiX,ae6 ⋯]
def lY(t:List α)(a:Nat):cut t (some (a:Int)) none=t.drop a:=by
 unfold cut;rw[Z.Vd];show(t.drop (min a t.length)).take (t.length - min a t.length)=_
 have e:t.drop (min a t.length)=t.drop a:=by
  by_cases h:a<=t.length
  .rw[agW h]
  .rw[agK ⋯,af6,afz ⋯]
 rw[e];exact ae6 (by rw[aeV];lia)
def oy(t:List α)(a b:Nat):cut t (some (a:Int)) (some (b:Int))=(t.drop a).take (b - a):=by
 unfold cut;rw[Z.Vd,Z.Vd]
 by_cases h:a<=t.length
 .rw[agW h]
  by_cases k:b<=t.length
  .rw[agW k]
  .rw[agK (show t.length<=b by lia),ae6 (by rw[aeV];lia),ae6 (by rw[aeV];lia)]
 .rw[agK (show t.length<=a by lia),af6,afz (show t.length<=a by lia),ajk,ajk]
def rh(h:sgn t)(n:Nat):sgn (t.take n):=fun c hc=>h c (aeU hc)
def ka(h:sgn t)(n:Nat):sgn (t.drop n):=fun c hc=>h c (afc hc)
def Ma(t:Y1)(a b:Nat)(h:a<=b):(t.take a).length+(t.drop b).length<=t.length:=by rw[ae5,aeV];lia
def Bc(k:Nat)(t:Y1)(ht:sgn t)(hl:t.length<=15000000)(v:Int):∃u,sgn u/\u.length<=t.length+1/\F (k+2) .Q7 [.str t,.int v]=.ok (.str u):=by
 have qa:=bD (v / 7) (m:=(t.length:Int)+1) ⋯;obtain⟨a,ea,al⟩:∃a:Nat,v / 7 % ((t.length:Int)+1)=(a:Int)/\a<=t.length:=⟨(v / 7 % ((t.length:Int)+1)).toNat,by lia,by lia⟩
 have q9:=bD (v / 50021) (m:=95) ⋯;obtain⟨c0,cc0,e0⟩:=lM _ q9.1 q9.2;have mk:=gD k;have tl:∀h,bS [.str t] h=.ok (.int (t.length:Nat)) h:=fun h=>by rw[MT,ajz (by rw[szl];lia)]
 have p1:decide ((0:Int)<(t.length:Int)+1)=true:=ajw ⋯;have ne:∀h,Tv (.str t) (.str []) h=.ok (.bl (!decide (t= []))) h:=fun h=>gi _ _ _ (fun c hc=>dI c (ht c hc)) (by simp)
 have pm:∀h,bt (.int (v / 7)) (.int ((t.length:Int)+1)) h=.ok (.int (a:Int)) h:=fun h=>by rw[<- ea];show(if decide ((0:Int)<(t.length:Int)+1)=true then _ else _)=_;rw[ajz p1]
 have e2:aG 2 acZ [PV.str t,PV.int v,none,none,none,none] []=.nx [PV.str t,PV.int v,PV.int (a:Int),none,none,none] []:=by simp[EV,tl,pm]
 have e3:aG 3 (c2 j5 (aJ (F (k+1) .K3) af) acU) [PV.str t,PV.int v,PV.int (a:Int),none,none,none] []=.nx [PV.str t,PV.int v,PV.int (a:Int),PV.str [c0],none,none] []:=by simp[EV,mk,e0]
 obtain⟨c,cc,e3b⟩:∃c,sgn [c]/\H6 abW acg bh [PV.str t,PV.int v,PV.int (a:Int),PV.str [c0],none,none] []=.nx [PV.str t,PV.int v,PV.int (a:Int),PV.str [c],none,none] []:=by
  by_cases q:v / 7 % 3=1
  .by_cases z:t= []
   .refine⟨c0,cc0,?_⟩;rw[ajw z]at ne;simp[EV,db,q,ne]
   .have tp:0<t.length:=aif.mpr z;have q2:=bD (v / 11) (m:=(t.length:Int)) ⋯;have hj:(v / 11 % (t.length:Int)).toNat<t.length:=by lia
    refine⟨t[(v / 11 % (t.length:Int)).toNat],fun x hx=>by rw[aeo]at hx;rw[hx];exact ht _ (afh hj),?_⟩;rw[ajv z]at ne;have p2:decide ((0:Int)<(t.length:Int))=true:=ajw ⋯
    have pm2:∀h,bt (.int (v / 11)) (.int (t.length:Int)) h=.ok (.int (v / 11 % (t.length:Int))) h:=fun h=>by show(if decide ((0:Int)<(t.length:Int))=true then _ else _)=_;rw[ajz p2]
    have ix:∀h,j5 (.str t) (.int (v / 11 % (t.length:Int))) h=.ok (.str [t[(v / 11 % (t.length:Int)).toNat]]) h:=fun h=>by show(match Sy t (v / 11 % (t.length:Int))with|some c=>if t.length<=ajx then Res.ok (PV.str [c]) h else .bad|none=>.bad)=_;rw[eQ (v:=t[(v / 11 % (t.length:Int)).toNat]) q2.1 (aej hj)];dsimp only;rw[ajz (by rw[szl];lia)]
    simp[EV,db,q,ne,tl,pm2,ix]
  .refine⟨c0,cc0,?_⟩;simp[EV,db,q]
 have e4:aG 4 adp [PV.str t,PV.int v,PV.int (a:Int),PV.str [c],none,none] []=.nx [PV.str t,PV.int v,PV.int (a:Int),PV.str [c],PV.int (v % 7),none] []:=by simp[EV,ajA]
 have zl:t.length<=16777216:=by lia
 have c1:=ng t a;have tk:=List.length_take_le a t;have td:=fun b=>Ma t a b;have sa:=rh ht a;have ru:F (k+2) .Q7 [.str t,.int v]=match jU (F (k+1)) [PV.str t,PV.int v,none,none,none,none] []with|.nx _ _=>.ok .non|.rt v h=>aP v h|_=>.bad:=rfl
 rw[ru];unfold jU;rw[sq e2,sq e3,sq e3b,sq e4];have Z6:∀h,Tw (.int (v % 7)) (.int 3) h=.ok (.bl (decide (v % 7<3))) h:=fun _=>rfl;rcases(show v % 7=0\/v % 7=1\/v % 7=2\/v % 7=3\/v % 7=4\/v % 7=5\/v % 7=6 by lia)with q|q|q|q|q|q|q<;>rw[q]at Z6 |-
 .refine⟨t,ht,by lia,?_⟩;simp[EV,db,aP]
 .refine⟨t.take a++ [c]++t.drop a,fF (fF sa cc) (ka ht a),by rw[aei,aei,aev];have:=td a (aeB _);lia,?_⟩;have e:(a:Int)+1 - 1=(a:Int):=by lia
  have Vs:=lY t a;have l1:(t.take a).length+1<=16777216:=by lia
  have l2:(t.take a).length+1+(t.drop a).length<=16777216:=by have:=td a (aeB _);lia
  simp[EV,db,Int.reduceEq,Z6,bC,zl,c1,e,Vs,aei,l1,l2,aP]
 .refine⟨t.take a++ [c]++t.drop (a+1),fF (fF sa cc) (ka ht _),by rw[aei,aei,aev];have:=td (a+1) ⋯;lia,?_⟩;have e:(a:Int)+2 - 1=((a+1:Nat):Int):=by lia
  have Vs:=lY t (a+1);have l1:(t.take a).length+1<=16777216:=by lia
  have l2:(t.take a).length+1+(t.drop (a+1)).length<=16777216:=by have:=td (a+1) ⋯;lia
  simp[EV,db,Int.reduceEq,Z6,bC,zl,c1,e,Vs,aei,l1,l2,aP]
 .refine⟨t.take a++t.drop (a+1),fF sa (ka ht _),by rw[aei];have:=td (a+1) ⋯;lia,?_⟩;have e:(a:Int)+1=((a+1:Nat):Int):=by lia
  have Vs:=lY t (a+1);have l2:(t.take a).length+(t.drop (a+1)).length<=16777216:=by have:=td (a+1) ⋯;lia
  simp[EV,db,Int.reduceEq,Z6,bC,zl,c1,e,Vs,l2,aP]
 .have e1:(a:Int)+1=((a+1:Nat):Int):=by lia
  have e2:(a:Int)+2=((a+2:Nat):Int):=by lia
  have Vs:=lY t (a+2);have c3:=oy t (a+1) (a+2);have c4:=oy t a (a+1);have l3:((t.drop (a+1)).take (a+2 - (a+1))).length<=1:=by rw[ae5];lia
  have l4:((t.drop a).take (a+1 - a)).length<=1:=by rw[ae5];lia
  have s3:sgn ((t.drop (a+1)).take (a+2 - (a+1))):=rh (ka ht _) _;have s4:sgn ((t.drop a).take (a+1 - a)):=rh (ka ht _) _
  have lsum:(t.take a).length+((t.drop (a+1)).take (a+2 - (a+1))).length+((t.drop a).take (a+1 - a)).length+(t.drop (a+2)).length<=t.length+1:=by simp only[ae5,aeV];lia
  generalize(t.drop (a+1)).take (a+2 - (a+1))=X at*;generalize(t.drop a).take (a+1 - a)=Y at*;refine⟨t.take a++(X++Y)++t.drop (a+2),fF (fF sa (fF s3 s4)) (ka ht _),by simp only[aei];lia,?_⟩;have l1:X.length+Y.length<=16777216:=by lia
  have l2:(t.take a).length+(X.length+Y.length)<=16777216:=by lia
  have l5:(t.take a).length+(X.length+Y.length)+(t.drop (a+2)).length<=16777216:=by lia
  simp[EV,db,Int.reduceEq,Z6,bC,zl,c1,e1,e2,Vs,c3,c4,aei,l1,l2,l5,aP]
 .refine⟨t.take a,sa,by lia,?_⟩;simp[EV,db,Int.reduceEq,Z6,bC,zl,c1,aP]
 .refine⟨t++ [c],fF ht cc,by rw[aei,aev];lia,?_⟩;have l1:t.length+1<=16777216:=by lia
  simp[EV,db,Int.reduceEq,Z6,l1,aP]
def Ip{t:Tx}{h h1 h2:Y3}(e:t ρ h=.ok true h1)(b:body ρ h1=.rt v h2):bo t body ρ h=.rt v h2:=by
 have:whl t body 1 ρ h=.rt v h2:=by rw[whl,e];simp only[Fp,ajA,b]
 rw[mh t body (n:=1) (by rw[this];intro z;cases z),this]
theorem nN{t:Tx}{text:Y1}{p:Nat->Bool}{mk:Nat->Ev}{h:Y3}
  (ht:∀i:Nat,i<=text.length->t (mk i) h=.ok (match text[i]? with|some c=>p c|none=>ajt) h) (hb:∀i:Nat,i<text.length->body (mk i) h=.nx (mk (i+1)) h):
  ∀i:Nat,i<=text.length->bo t body (mk i) h=.nx (mk (i+((text.drop i).takeWhile p).length)) h:=by
 intro i hi
 induction hn:text.length - i generalizing i with
 |zero=>
  have:i=text.length:=by lia
  subst this;have e:=ht text.length (aeB _);rw[aeE (aeB _)]at e;rw[gQ e,af6];rfl
 |succ n ih=>
  have hl:i<text.length:=by lia
  have e:=ht i hi;rw[aej hl]at e;rw[aeZ hl]
  cases q:p text[i]with
  |false=>
   have e:t (mk i) h=.ok ajt h:=by rw[e];simp only[q]
   rw[gQ e,afB,q];rfl
  |true=>
   have e:t (mk i) h=.ok true h:=by rw[e];simp only[q]
   rw[afB,ajz (by rw[q])];refine eI e (hb i hl) ?_ nofun;rw[ih (i+1) ⋯ ⋯];have:i+1+((text.drop (i+1)).takeWhile p).length=i+(text[i]::(text.drop (i+1)).takeWhile p).length:=by rw[aeh];lia
   rw[this]
theorem Kb(c:Nat)(x:Y1)(i:Nat): [c].isPrefixOf (x.drop i)=decide (x[i]? =some c):=by
 rw[aft,ajE]
 cases e:x.drop i with
 |nil=>have:x.length<=i:=ah9.mp e;simp[List.isPrefixOf,this]
 |cons a r=>
  have:x[i]? =some a:=by have:=agX (l:=x) (i:=i);rw[e]at this;simpa using this.symm
  rw[this];show(c==a&&true)=true↔some a=some c;rw[afw,ajS,afm];exact⟨Eq.symm,Eq.symm⟩
theorem gx{c:Nat}:∀{s:Y1},c∈s->∃a b,s=a++c::b/\(∀z∈a,z≠c)
 |[],h=>by cases h
 |z::r,h=>by
  by_cases q:z=c
  .subst q;exact⟨[],r,rfl,by simp⟩
  .obtain⟨a,b,e,n⟩:=gx (c:=c) (s:=r) (by rcases aek.mp h with w|w;exact absurd w.symm q;exact w)
   exact⟨z::a,b,by rw[e];rfl,by
    intro y hy;rcases aek.mp hy with w|w
    .rw[w];exact q
    .exact n y w⟩
def jF{c:Nat}{lo:Nat}(h:c∈x.drop lo):aL [c] x lo=some (lo+((x.drop lo).takeWhile (· !=c)).length):=by
 unfold aL;rw[ahq];obtain⟨a,b,e,n⟩:=gx h
 have tw:(x.drop lo).takeWhile (· !=c)=a:=by rw[e,afN (by intro z hz;simpa using n z hz)];simp
 rw[tw]
 have ln:x.length=lo+a.length+1+b.length:=by
  have:(x.drop lo).length=a.length+(b.length+1):=by rw[e];simp
  rw[aeV]at this
  lia
 have at_:∀j,x[lo+j]? =(a++c::b)[j]? :=fun j=>by rw[<- e,agu]
 refine⟨?_,afg.mpr ⋯,fun j hj=>?_⟩
 .rw[Kb,at_,ael];refine⟨ajw ⋯,ajw ?_⟩;rw[aeD (aeB _),afR];rfl
 .rw[agD,ah0]
  by_cases q:lo<=j
  .right
   obtain⟨d,rfl⟩:=ahA q;rw[Kb,at_];apply ajv;have hd:d<a.length:=by lia
   rw[aez hd];intro z;exact n _ (aex z) rfl
  .left
   exact ajv q
def jG{c:Nat}{lo:Nat}(h:c∉x.drop lo):aL [c] x lo=none:=by
 unfold aL;rw[aiy];intro j hj;rw[Kb,ael,ajE,ajE]
 rintro⟨q,e⟩
 apply h;obtain⟨d,rfl⟩:=ahA q;rw[<- agu]at e;exact aex e
def uJ(x y:Y1)(i:Nat):oW x y (i:Int)=gh (aL y x i):=by
 unfold oW Txt.find3
 have:ak0 (S x).length (i:Int)=i:=by
  unfold ak0;rw[ajB ⋯]
  lia
 rw[this,Z.mS]
 cases aL y x i<;>rfl
def lD(x:Y1)(c i:Nat):nB x [c] (i:Int)=decide (x[i]? =some c):=by
 unfold nB Txt.startswith3
 have:ak0 (S x).length (i:Int)=i:=by
  unfold ak0;rw[ajB ⋯]
  lia
 rw[this,dH,dH,aft,ael,ajE,ajE]
 have e:akg (S x) (S [c]) i=((x.drop i).take 1==[c]):=by unfold akg;rw[dH];show(x.toArray.extract i (i+1)==[c].toArray)=_;rw[aft,ajS,ajS,<- ahC];simp[List.extract_eq_drop_take]
 rw[e,ajS];constructor
 .rintro⟨_,q⟩
  have:=agu (xs:=x) (i:=i) (j:=0);rw[Nat.add_zero]at this;rw[<- this]
  cases y:x.drop i with
  |nil=>rw[y]at q;simp at q
  |cons a r=>rw[y]at q;simpa using q
 .intro q
  have hl:i<x.length:=by
   rcases aeR i x.length with w|w
   .exact w
   .rw[aeE w]at q;cases q
  refine⟨by show i+1<=x.length;exact hl,?_⟩;have:=agu (xs:=x) (i:=i) (j:=0);rw[Nat.add_zero,q]at this
  cases y:x.drop i with
  |nil=>rw[y]at this;cases this
  |cons a r=>rw[y]at this;simpa using this
def eX{xs:List α}(h:i<xs.length):Sy xs (i:Int)=some xs[i]:=eQ ⋯ (by rw[ae7,aej h])
def gX(a b:Nat):decide ((a:Int)<(b:Int))=decide (a<b):=by rw[aft,ajE,ajE];lia
def Lh(l:Y1)(a b:Nat):cut (a::l++ [b]) (some 1) (some (-1))=l:=by
 unfold cut
 have e1:Z.RP (a::l++ [b]).length 0 (some 1)=1:=by have:=Z.Vd (a::l++ [b]).length 0 1;rw[show((1:Nat):Int)=1 from rfl]at this;rw[this];simp
 have e2:Z.RP (a::l++ [b]).length (a::l++ [b]).length (some (-1))=l.length+1:=by
  unfold Z.RP;simp only[aei,aeh,aeJ]
  split<;>lia
 rw[e1,e2];simp
theorem CN(t:Y1)(i:Nat):(t.drop i).take 1=match t[i]? with|some c=> [c]|none=> []:=by
 cases e:t.drop i with
 |nil=>rw[aeE (ah9.mp e)];rfl
 |cons a r=>
  have:t[i]? =some a:=by have:=agX (l:=t) (i:=i);rw[e]at this;simpa using this.symm
  rw[this];rfl
theorem vq{p:Nat->Bool}:∀{s:Y1},(∀c∈s,p c=true)->s.takeWhile p=s
 |[],_=>rfl
 |a::r,h=>by rw[afB,ajz (h a aeC),vq fun c hc=>h c (aen _ hc)]
def Jj(s:Y1):(s.takeWhile (· !=34)).length<s.length↔34∈s:=by
 constructor
 .intro h
  by_cases q:34∈s
  .exact q
  .exfalso
   have:s.takeWhile (· !=34)=s:=vq fun c hc=>by have:c≠34:=fun z=>q (z▸hc);simpa using this
   rw[this]at h;lia
 .intro h;obtain⟨a,b,e,n⟩:=gx h
  have tw:s.takeWhile (· !=34)=a:=by rw[e,afN (by intro z hz;simpa using n z hz)];simp
  rw[tw,e];simp
def YJ(t:Y1)(i:Nat):Prop:=t[i]? =some 34/\34∈t.drop (i+1)
instance(t:Y1)(i:Nat):Decidable (YJ t i):=by unfold YJ;infer_instance
noncomputable def BO(t:Y1)(i:Nat):Nat:=i+1+((t.drop (i+1)).takeWhile (· !=34)).length
theorem qp(p:Nat->Bool):∀l:Y1,l.take (l.takeWhile p).length=l.takeWhile p
 |[]=>rfl
 |a::r=>by
  rw[afB]
  split
  .rw[aeh,af2,qp p r]
  .rfl
theorem lw{p:Nat->Bool}{c:Nat}:∀{l:Y1},c∈l.takeWhile p->c∈l/\p c=true
 |[],h=>by cases h
 |a::r,h=>by
  rw[afB]at h
  split at h
  .rcases aek.mp h with w|w
   .rw[w];exact⟨aeC,by assumption⟩
   .exact⟨aen _ (lw w).1,(lw w).2⟩
  .cases h
def zY(t:Y1)(i:Nat)(p:Nat->Bool):((t.drop i).takeWhile p).length<=t.length:=by
 have:=(ahJ p (l:=t.drop i)).length_le;rw[aeV]at this
 lia
def Ut(m:Nat)(raw b_:Y1):Y1->Option Y1
 |[]=>some []
 |[c]=>if c=m then none else some [c]
 |c::d::r=>if c=m then(match aL [d] b_ 0 with
   |none=>none
   |some p=>(Ut m raw b_ r).map (raw.getD p 0:: ·))
  else(Ut m raw b_ (d::r)).map (c:: ·)
theorem jX{c:Nat}{r:Y1}(h:c≠m):Ut m raw b_ (c::r)=(Ut m raw b_ r).map (c:: ·):=by
 cases r with
 |nil=>simp[Ut,h]
 |cons d r=>rw[Ut,ajB h]
def ny{r:Y1}:Ut m raw b_ (m::d::r)=(match aL [d] b_ 0 with|none=>none|some p=>(Ut m raw b_ r).map (raw.getD p 0:: ·)):=by rw[Ut,ajz rfl]
structure TbE(m:Nat)(raw b_:Y1):Prop where
 ten:(10:Nat)≠m
 mr:m∈raw
 tr:(10:Nat)∈raw
 go:∀p,p<b_.length->jy [m] raw b_ (raw.getD p 0)=[m,b_.getD p 0]
 bk:∀p,p<raw.length->aL [b_.getD p 0] b_ 0=some p
 rl:raw.length<=b_.length
def sJ{c:Nat}{p:Nat}(h:aL [c] x 0=some p):p<x.length/\x.getD p 0=c:=by
 by_cases q:c∈x.drop 0
 .rw[jF q]at h;have h:=aeW h;rw[afq]at q h;obtain⟨a,b,e,n⟩:=gx q
  have tw:x.takeWhile (· !=c)=a:=by rw[e,afN (by intro z hz;simpa using n z hz)];simp
  rw[tw,ag4]at h;subst h;refine⟨by rw[e];simp,?_⟩;rw[e,aeG,aeD (aeB _),afR];rfl
 .rw[jG q]at h;cases h
def yd{c:Nat}:aL [c] x 0=none↔c∉x:=by
 constructor
 .intro h q;rw[jF (by rw[afq];exact q)]at h;cases h
 .intro h;exact jG (by rw[afq];exact h)
def Cu(mark raw b_:Y1)(c:Nat)(l:Y1):ig mark raw b_ (c::l)=jy mark raw b_ c++ig mark raw b_ l:=by unfold ig;rw[aeA,ae4]
theorem lh(tb:TbE m raw b_):∀l:Y1,Ut m raw b_ (ig [m] raw b_ l)=some l
 |[]=>rfl
 |c::l=>by
  rw[Cu];unfold jy
  cases e:aL [c] raw 0 with
  |none=>have:c≠m:=fun z=>yd.mp e (z▸tb.mr);show Ut m raw b_ (c::ig [m] raw b_ l)=_;rw[jX this,lh tb l];rfl
  |some p=>obtain⟨f1,f2⟩:=sJ e;show Ut m raw b_ (m::b_.getD p 0::ig [m] raw b_ l)=_;rw[ny,tb.bk p f1];simp only[lh tb l,agV,f2]
def Mb:TbE 94 [94,34,10] [94,113,110]:=by constructor<;>decide+kernel
def Mc:TbE 126 [126,60,62,38,124,10] [126,108,103,97,98,110]:=by constructor<;>decide+kernel
def Md:TbE 126 [126,10] [126,110]:=by constructor<;>decide+kernel
theorem cR(x y:Y1)(h:Y3):Wz (.str x) (.str y) h=.ok (.bl (pM x y)) h:=rfl
theorem dq(x y:Y1)(i:Int)(h:Y3):mR (.str x) [.str y,.int i] h=.ok (.int (oW x y i)) h:=rfl
theorem dM(x y:Y1)(i:Int)(h:Y3):lK (.str x) [.str y,.int i] h=.ok (.bl (nB x y i)) h:=rfl
theorem vj(hr:∀p,p<b_.length->p<raw.length):∀(s u:Y1),Ut m raw b_ s=some u->(∀c∈u,c∈s\/c∈raw)/\u.length<=s.length
 |[],u,h=>by simp only[Ut,afm]at h;subst h;simp
 |[c],u,h=>by
  by_cases q:m=c
  .subst q;simp[Ut]at h
  .have q:c≠m:=fun z=>q z.symm;rw[jX q]at h;simp only[Ut,agV,afm]at h;subst h;simp
 |c::d::r,u,h=>by
  by_cases q:m=c
  .subst q;rw[ny]at h
   cases e:aL [d] b_ 0 with
   |none=>rw[e]at h;cases h
   |some p=>
    rw[e]at h;simp only[ae2]at h;obtain⟨u',h1,rfl⟩:=h;obtain⟨i1,i2⟩:=vj hr r u' h1;refine⟨fun x hx=>?_,by simp;lia⟩;rcases aek.mp hx with rfl|hx
    .right;exact oq (hr p (sJ e).1)
    .rcases i1 x hx with w|w
     .left;simp[w]
     .right;exact w
  .have q:c≠m:=fun z=>q z.symm;rw[jX q]at h;simp only[ae2]at h;obtain⟨u',h1,rfl⟩:=h;obtain⟨i1,i2⟩:=vj hr (d::r) u' h1;refine⟨fun x hx=>?_,by simp at i2 |-;lia⟩;rcases aek.mp hx with rfl|hx
   .left;simp
   .rcases i1 x hx with w|w
    .left;exact aen _ w
    .right;exact w
theorem qx:∀u:Y1,(u.map fun c=> [c]).flatten=u
 |[]=>rfl
 |c::r=>by rw[aeA,ae4,qx r];rfl
theorem xN:∀u:Y1,((u.map fun c=> [c]).map (fun l=>l.length)).sum=u.length
 |[]=>rfl
 |c::r=>by rw[aeA,aeA,ahp,xN r,aeh];simp;lia
def ww(l:List α)(a b:Nat)(_:a<=l.length):cut l (some (a:Int)) (some (b:Int))=(l.drop a).take (b - a):=oy l a b
def NU(t:Y1)(i:Nat)(h:YJ t i):cut t (some (i:Int)) (some ((BO t i+1:Nat):Int))=34::((t.drop (i+1)).takeWhile (· !=34)++[34]):=by
 obtain⟨h1,h2⟩:=h
 have hl:i<t.length:=by
  rcases aeR i t.length with w|w
  .exact w
  .rw[aeE w]at h1;cases h1
 obtain⟨a,b,e,n⟩:=gx h2
 have tw:(t.drop (i+1)).takeWhile (· !=34)=a:=by rw[e,afN (by intro z hz;simpa using n z hz)];simp
 have dr:t.drop i=34::(a++34::b):=by rw[aeZ hl,e];rw[aej hl]at h1;rw[aeW h1]
 unfold BO;rw[tw,ww t i _ ⋯,dr,show i+1+a.length+1 - i=a.length+1+1 from by lia,af2,List.take_append];simp;exact ae6 ⋯
def IV(x:Y1):cut (34::(x++ [34])) (some 1) (some (-1))=x:=Lh x 34 34
def vD(k:Nat)(t al:Y1)(i:Nat)(hi:i<=t.length)(hz:t.length<=16777216):F (k+1) .R7 [.str t,.int (i:Nat),.str al]=.ok (.int ((i+((t.drop i).takeWhile al.contains).length:Nat):Int)):=by
 show ag (kX (F k)) 3 3 [.str t,.int i,.str al]=_
 have w:=nN (t:=cg abO ad5) (body:=jb (F k)) (text:=t) (p:=al.contains) (mk:=fun i=> [PV.str t,PV.int (i:Int),PV.str al]) (h:=[])
  (fun j hj=>by
   rcases aeR j t.length with q|q
   .have a:=eX q;have l:decide (j<t.length)=true:=ajw q;simp[EV,cR,dq,dM,bC,hz,a,gX,l,cO,aej q]
   .have l:decide (j<t.length)=ajt:=ajv ⋯;simp[EV,cR,dq,dM,bC,hz,gX,l,aeE q])
  (fun j _=>by simp[EV,cR,dq,dM,bC,jb];rfl) i hi
 simp[EV,cR,dq,dM,bC,ag,kX,w,aP]
def sZ(k:Nat)(t al:Y1)(i:Nat)(hi:i<=t.length)(hz:t.length<=16777216):F (k+1) .Tq [.str t,.int (i:Nat),.str al]=.ok (.int ((i+((t.drop i).takeWhile fun c=>!al.contains c).length:Nat):Int)):=by
 show ag (kY (F k)) 3 3 [.str t,.int i,.str al]=_
 have w:=nN (t:=cg abO ad4) (body:=jc (F k)) (text:=t) (p:=fun c=>!al.contains c) (mk:=fun i=> [PV.str t,PV.int (i:Int),PV.str al]) (h:=[])
  (fun j hj=>by
   rcases aeR j t.length with q|q
   .have a:=eX q;have l:decide (j<t.length)=true:=ajw q;simp[EV,cR,dq,dM,bC,hz,a,gX,l,cO,aej q]
   .have l:decide (j<t.length)=ajt:=ajv ⋯;simp[EV,cR,dq,dM,bC,hz,gX,l,aeE q])
  (fun j _=>by simp[EV,cR,dq,dM,bC,jc];rfl) i hi
 simp[EV,cR,dq,dM,bC,ag,kY,w,aP]
def Pe(k:Nat)(t:Y1)(i:Nat):F (k+1) .n8 [.ins 2 [],.str t,.int i]=.ok (.int (if YJ t i then((BO t i+1:Nat):Int)else(i:Int))):=by
 show ag (cS (F k)) 3 4 [.ins 2 [],.str t,.int i]=_;have e1:oW t [34] ((i:Int)+1)=gh (aL [34] t (i+1)):=uJ t [34] (i+1);have e2:=lD t 34 i
 by_cases h1:t[i]? =some 34
 .have d1:decide (t[i]? =some 34)=true:=ajw h1
  by_cases h2:34∈t.drop (i+1)
  .have f:=jF h2;have g:decide ((gh (some (i+1+((t.drop (i+1)).takeWhile (· !=34)).length)))<0)=ajt:=ajv (by show¬ ((_:Nat):Int)<0;lia);rw[ajz ⟨h1,h2⟩];simp[EV,cR,dq,dM,bC,ag,cS,e1,e2,d1,f,g,aP];rfl
  .have f:=jG h2;have g:decide ((gh none)<0)=true:=by decide
   rw[ajB (fun z=>h2 z.2)];simp[EV,cR,dq,dM,bC,ag,cS,e1,e2,d1,f,g,aP]
 .have d1:decide (t[i]? =some 34)=ajt:=ajv h1;rw[ajB (fun z=>h1 z.1)];simp[EV,cR,dq,dM,bC,ag,cS,e1,e2,d1,aP]
section
variable(C:Fn->Y2->Out)(t raw b_:Y1)(m:Nat)
abbrev uM(i:Nat)(o:Option PV):Ev:=[PV.str t,PV.str [m],PV.str raw,PV.str b_,PV.ref 0,PV.int (i:Int),o]
abbrev uT:Tx:=au adu
theorem sg1{a b:Nat}(ha:a<1114112)(hb:b<1114112)(h:Y3):v9 (.str [a]) (.str [b]) h=.ok (.bl (decide (a=b))) h:=by
 rw[iQ _ _ _ (by simpa using ha) (by simpa using hb)]
 congr 2
 rw[aft];simp
theorem uA(i:Nat)(hi:i<t.length)(hz:t.length<=16777216)(o:Option PV)(xs:Y2)(hx:xs.length<16777216)(hc:t[i]<1114112)(hm:m<1114112)(q:t[i]≠m):
  bK C (uM t raw b_ m i o) [.lst xs]=.nx (uM t raw b_ m (i+1) o) [.lst (xs++ [.str [t[i]]])]:=by
 have a:=eX hi;have e:=sg1 hc hm;have d:decide (t[i]=m)=ajt:=ajv q;simp[EV,cR,dq,dM,bC,bK,uM,a,hz,e,d,iW,yu,mX,hx];rfl
theorem uB3(i:Nat)(hi:i<t.length)(hz:t.length<=16777216)(o:Option PV)(xs:Y2)(hc:t[i]<1114112)(hm:m<1114112)(q:t[i]=m)(hl:i+1=t.length):
  bK C (uM t raw b_ m i o) [.lst xs]=.rt .non [.lst xs]:=by
 have a:=eX hi;have e:=sg1 hc hm;have d:decide (t[i]=m)=true:=ajw q;have l:decide ((i:Int)+1<(t.length:Int))=ajt:=ajv ⋯;have g:decide ((-1:Int)<0)=true:=by decide
 simp[EV,cR,dq,dM,bC,bK,uM,a,hz,e,d,l,g]
theorem uB2(i:Nat)(hi:i<t.length)(hz:t.length<=16777216)(o:Option PV)(xs:Y2)(hc:t[i]<1114112)(hm:m<1114112)(q:t[i]=m)(hl:i+1<t.length)(hf:aL [t[i+1]] b_ 0=none):
  bK C (uM t raw b_ m i o) [.lst xs]=.rt .non [.lst xs]:=by
 have a:=eX hi;have a2:Sy t ((i:Int)+1)=some t[i+1]:=eX hl;have e:=sg1 hc hm;have d:decide (t[i]=m)=true:=ajw q;have l:decide ((i:Int)+1<(t.length:Int))=true:=ajw ⋯;have g:decide ((gh none)<0)=true:=by decide
 simp[EV,cR,dq,dM,bC,bK,uM,a,a2,hz,e,d,l,hf,g]
theorem uB1(i:Nat)(hi:i<t.length)(hz:t.length<=16777216)(o:Option PV)(xs:Y2)(hx:xs.length<16777216)(hc:t[i]<1114112)(hm:m<1114112)(q:t[i]=m)(hl:i+1<t.length)(p:Nat)(hf:aL [t[i+1]] b_ 0=some p)(hp:p<raw.length)(Z9:raw.length<=16777216):
  bK C (uM t raw b_ m i o) [.lst xs]=.nx (uM t raw b_ m (i+2) (some (.int (p:Int)))) [.lst (xs++ [.str [raw.getD p 0]])]:=by
 have a:=eX hi;have a2:Sy t ((i:Int)+1)=some t[i+1]:=eX hl;have e:=sg1 hc hm;have d:decide (t[i]=m)=true:=ajw q;have l:decide ((i:Int)+1<(t.length:Int))=true:=ajw ⋯;have g:decide ((gh (some p))<0)=ajt:=ajv (by show¬ ((p:Nat):Int)<0;lia);have a3:Sy raw (gh (some p))=some (raw.getD p 0):=tA 0 (by show 0<=((p:Nat):Int);lia) (by show((p:Nat):Int)<_;lia);simp[EV,cR,dq,dM,bC,bK,uM,a,a2,a3,hz,Z9,e,d,l,hf,g,iW,yu,mX,hx];rfl
theorem FV(hz:t.length<=16777216)(hc:∀c∈t,c<1114112)(hm:m<1114112)(hr:b_.length<=raw.length)(Z9:raw.length<=16777216):∀(n i:Nat),t.length - i<=n->i<=t.length->∀(o:Option PV)(xs:Y2),xs.length+(t.length - i)<16777216->
  (∀u,Ut m raw b_ (t.drop i)=some u->∃o',bo uT (bK C) (uM t raw b_ m i o) [.lst xs]=.nx (uM t raw b_ m t.length o') [.lst (xs++u.map fun c=>PV.str [c])])/\
  (Ut m raw b_ (t.drop i)=none->∃h',bo uT (bK C) (uM t raw b_ m i o) [.lst xs]=.rt .non h'):=by
 intro n
 induction n with
 |zero=>
  intro i hn hi o xs hx;have:i=t.length:=by lia
  subst this;have l:decide (t.length<t.length)=ajt:=ajv ⋯;have e:uT (uM t raw b_ m t.length o) [.lst xs]=.ok ajt [.lst xs]:=by simp[EV,cR,dq,dM,bC,uM,uT,hz,gX,l]
  rw[af6];refine⟨fun u hu=>⟨o,?_⟩,fun hu=>by simp[Ut]at hu⟩;simp only[Ut,afm]at hu;subst hu;rw[gQ e];simp
 |succ n ih=>
  intro i hn hi o xs hx;rcases aeR i t.length with hl|hl
  .have l:decide (i<t.length)=true:=ajw hl;have e:uT (uM t raw b_ m i o) [.lst xs]=.ok true [.lst xs]:=by simp[EV,cR,dq,dM,bC,uM,uT,hz,gX,l]
   have hci:=hc _ (afh hl);have dr:t.drop i=t[i]::t.drop (i+1):=aeZ hl
   by_cases q:t[i]=m
   .rcases aeR (i+1) t.length with h2|h2
    .have dr2:t.drop (i+1)=t[i+1]::t.drop (i+2):=aeZ h2;rw[dr,dr2,q,ny]
     cases hf:aL [t[i+1]] b_ 0 with
     |none=>refine⟨fun u hu=>(by cases hu),fun _=>⟨_,Ip e (uB2 C t raw b_ m i hl hz o xs hci hm q h2 hf)⟩⟩
     |some p=>
      have hp:p<raw.length:=afu (sJ hf).1 hr;have b:=uB1 C t raw b_ m i hl hz o xs ⋯ hci hm q h2 p hf hp Z9;obtain⟨i1,i2⟩:=ih (i+2) ⋯ ⋯ (some (.int (p:Int))) (xs++ [.str [raw.getD p 0]]) (by simp;lia);refine⟨fun u hu=>?_,fun hu=>?_⟩
      .simp only[ae2]at hu;obtain⟨u',h1,rfl⟩:=hu;obtain⟨o',w⟩:=i1 u' h1;exact⟨o',eI e b (by rw[w];simp) nofun⟩
      .simp only[ahH]at hu;obtain⟨h',w⟩:=i2 hu;exact⟨h',eI e b w nofun⟩
    .have:i+1=t.length:=by lia
     rw[dr,this,af6,q];refine⟨fun u hu=>by simp[Ut]at hu,fun _=>⟨_,Ip e (uB3 C t raw b_ m i hl hz o xs hci hm q this)⟩⟩
   .rw[dr,jX q];have b:=uA C t raw b_ m i hl hz o xs ⋯ hci hm q;obtain⟨i1,i2⟩:=ih (i+1) ⋯ ⋯ o (xs++ [.str [t[i]]]) (by simp;lia);refine⟨fun u hu=>?_,fun hu=>?_⟩
    .simp only[ae2]at hu;obtain⟨u',h1,rfl⟩:=hu;obtain⟨o',w⟩:=i1 u' h1;exact⟨o',eI e b (by rw[w];simp) nofun⟩
    .simp only[ahH]at hu;obtain⟨h',w⟩:=i2 hu;exact⟨h',eI e b w nofun⟩
  .have:i=t.length:=by lia
   subst this;have l:decide (t.length<t.length)=ajt:=ajv ⋯;have e:uT (uM t raw b_ m t.length o) [.lst xs]=.ok ajt [.lst xs]:=by simp[EV,cR,dq,dM,bC,uM,uT,hz,gX,l]
   rw[af6];refine⟨fun u hu=>⟨o,?_⟩,fun hu=>by simp[Ut]at hu⟩;simp only[Ut,afm]at hu;subst hu;rw[gQ e];simp
theorem CJ(k:Nat)(hz:t.length<=16000000)(hc:∀c∈t,c<1114112)(hm:m<1114112)(hr:b_.length<=raw.length)(Z9:raw.length<=16777216):
  F (k+1) .unescaped [.str t,.str [m],.str raw,.str b_]=.ok (match Ut m raw b_ t with|some u=>.str u|none=>.non):=by
 show ag (jJ (F k)) 4 7 [.str t,.str [m],.str raw,.str b_]=_;obtain⟨i1,i2⟩:=FV (F k) t raw b_ m ⋯ hc hm hr Z9 t.length 0 ⋯ ⋯ none [] (by simp;lia);rw[afq]at i1 i2
 cases q:Ut m raw b_ t with
 |none=>obtain⟨h',w⟩:=i2 q;have w:bo uT (bK (F k)) [PV.str t,PV.str [m],PV.str raw,PV.str b_,PV.ref 0,PV.int 0,none] [.lst []]=_:=w;simp[EV,cR,dq,dM,bC,ag,jJ,w,aP]
 |some u=>
  obtain⟨o',w⟩:=i1 u q;have w:bo uT (bK (F k)) [PV.str t,PV.str [m],PV.str raw,PV.str b_,PV.ref 0,PV.int 0,none] [.lst []]=_:=w;have hu:u.length<=t.length:=(vj (fun p hp=>afu hp hr) t u q).2
  have jn:∀r,eJ (.str []) [.ref 0] (.lst ((u.map fun c=> [c]).map PV.str)::r)=.ok (.str (u.map fun c=> [c]).flatten) (.lst ((u.map fun c=> [c]).map PV.str)::r):=fun r=>vS (by rw[xN];lia)
  have mp:(u.map fun c=>PV.str [c])=(u.map fun c=> [c]).map PV.str:=by simp[ahl]
  simp[EV,cR,dq,dM,bC,ag,jJ,w,mp,jn,iW,qx,aP]
end
noncomputable def oS(o:Option Y1):PV:=match o with|some u=>.str u|none=>.non
theorem EK(o:Option Y1)(h:Y3):dK h (oS o)=some (oS o,h):=by
 cases o with
 |none=>exact HF _
 |some u=>exact HE _ _
def EX(o:Option Y1)(h:Y3):aA h (oS o)=oS o:=by cases o<;>rfl
def vh(k m:Nat)(t raw b_:Y1)(hz:t.length<=16000000)(hc:∀c∈t,c<1114112)(hm:m<1114112)(hr:b_.length<=raw.length)(Z9:raw.length<=16777216):F (k+1) .unescaped [.str t,.str [m],.str raw,.str b_]=.ok (oS (Ut m raw b_ t)):=by
 rw[CJ t raw b_ m k hz hc hm hr Z9]
 cases Ut m raw b_ t<;>rfl
def uh(k:Nat)(x t:Y1)(hx:cut x (some 1) (some (-1))=t)(hxz:x.length<=16777216)(hz:t.length<=16000000)(hc:∀c∈t,c<1114112):F (k+2) .v7 [.ins 2 [],.str x]=.ok (oS (Ut 94 [94,34,10] [94,113,110] t)):=by show ag (iB (F (k+1))) 2 2 [.ins 2 [],.str x]=_;have e:=vh k 94 t [94,34,10] [94,113,110] hz hc ⋯ ⋯ ⋯;simp[EV,cR,dq,dM,bC,ag,iB,hx,hxz,bB,e,EX,EK,aP]
def DH(k:Nat)(t:Y1)(hz:t.length<=16000000)(hc:∀c∈t,c<1114112):F (k+2) .D_ [.ins 3 [],.str t]=.ok (oS (Ut 126 [126,60,62,38,124,10] [126,108,103,97,98,110] t)):=by show ag (iU (F (k+1))) 2 2 [.ins 3 [],.str t]=_;have e:=vh k 126 t [126,60,62,38,124,10] [126,108,103,97,98,110] hz hc ⋯ ⋯ ⋯;simp[EV,cR,dq,dM,bC,ag,iU,bB,e,EX,EK,aP]
def Hs(k:Nat)(t:Y1)(hz:t.length<=16000000)(hc:∀c∈t,c<1114112):F (k+2) .G7 [.ins 4 [],.str t]=.ok (oS (Ut 126 [126,10] [126,110] t)):=by show ag (jv (F (k+1))) 2 2 [.ins 4 [],.str t]=_;have e:=vh k 126 t [126,10] [126,110] hz hc ⋯ ⋯ ⋯;simp[EV,cR,dq,dM,bC,ag,jv,bB,e,EX,EK,aP]
def FU(k:Nat)(l:Y1):F (k+1) .G6 [.ins 0 [],.str l]=.ok (.str l):=by show ag (ju (F k)) 2 2 [.ins 0 [],.str l]=_;simp[EV,cR,dq,dM,bC,ag,ju,aP]
def FT(k:Nat)(t:Y1)(i:Nat)(hi:i<=t.length)(hz:t.length<=16777216):F (k+2) .p8 [.ins 0 [],.str t,.int i]=.ok (.int ((i+((t.drop i).takeWhile aM.contains).length:Nat):Int)):=by show ag (gH (F (k+1))) 3 3 [.ins 0 [],.str t,.int i]=_;have e:=vD k t aM i hi hz;simp[EV,cR,dq,dM,bC,ag,gH,bB,e,aP]
def DG(k:Nat)(t:Y1)(i:Nat)(hi:i<=t.length)(hz:t.length<=16777216):F (k+2) .n_ [.ins 3 [],.str t,.int i]=.ok (.int ((i+((t.drop i).takeWhile fun c=>![10,38,60,62,124].contains c).length:Nat):Int)):=by show ag (gq (F (k+1))) 3 3 [.ins 3 [],.str t,.int i]=_;have e:=sZ k t [10,38,60,62,124] i hi hz;simp[EV,cR,dq,dM,bC,ag,gq,bB,e,aP]
def Hr(k:Nat)(t:Y1)(i:Nat)(hi:i<=t.length)(hz:t.length<=16777216):F (k+2) .q8 [.ins 4 [],.str t,.int i]=.ok (.int ((i+((t.drop i).takeWhile fun c=>![10].contains c).length:Nat):Int)):=by show ag (gJ (F (k+1))) 3 3 [.ins 4 [],.str t,.int i]=_;have e:=sZ k t [10] i hi hz;simp[EV,cR,dq,dM,bC,ag,gJ,bB,e,aP]
abbrev dGT:=([48,49,50,51,52,53,54,55,56,57]:Y1).contains
def BW(k:Nat)(t:Y1)(i:Nat)(hi:i<=t.length)(hz:t.length<=16777216)(h:t[i]? ≠some 45):F (k+2) .m_ [.ins 1 [],.str t,.int i]=.ok (.int ((i+((t.drop i).takeWhile dGT).length:Nat):Int)):=by show ag (cT (F (k+1))) 3 3 [.ins 1 [],.str t,.int i]=_;have e:=vD k t [48,49,50,51,52,53,54,55,56,57] i hi hz;have e2:=lD t 45 i;have d1:decide (t[i]? =some 45)=ajt:=ajv h;simp[EV,cR,dq,dM,bC,ag,cT,e2,d1,bB,e,aP]
def BV(k:Nat)(t:Y1)(i:Nat)(hi:i<t.length)(hz:t.length<=16777216)(h:t[i]? =some 45):F (k+2) .m_ [.ins 1 [],.str t,.int i]=.ok (.int ((i+1+((t.drop (i+1)).takeWhile dGT).length:Nat):Int)):=by show ag (cT (F (k+1))) 3 3 [.ins 1 [],.str t,.int i]=_;have e:F (k+1) .R7 [.str t,.int ((i:Int)+1),.str [48,49,50,51,52,53,54,55,56,57]]=_:=vD k t [48,49,50,51,52,53,54,55,56,57] (i+1) hi hz;have e2:=lD t 45 i;have d1:decide (t[i]? =some 45)=true:=ajw h;simp[EV,cR,dq,dM,bC,ag,cT,e2,d1,bB,e,aP]
def spW:Nat->Y1->Y1
 |2,l=>34::(QE l++ [34])
 |3,l=>PEs l
 |_,l=>LE l
def Lm(w:Nat)(hw:2<=w)(h5:w<5)(l:Y1)(hl:l.length<=400)(hc:∀c∈l,c∈aI):UL w (.str l)=some (spW w l):=by
 have lt:∀c∈l,c<1114112:=fun c h=>dI c (hc c h);have dv:Dv (.str l):=.str l ⋯ lt;have all:l.all aI.contains=true:=aeM.mpr fun c h=>by simpa using hc c h
 have tx:∀h,aR (F 2 .G5) [.str l,.int 400] h=.ok (.bl true) h:=fun h=>aH h rfl (by have:=fW 0 l 400 ⋯;rw[all,afw,ajw ⋯]at this;exact this);rcases(show w=2\/w=3\/w=4 by lia)with rfl|rfl|rfl
 .have ft:F 3 (fZ 2) [.ins 2 [],.str l]=.ok (.bl true):=by show ag (aT (F 2)) 2 2 [.ins 2 [],.str l]=_;simp[EV,ag,aT,tx,aP]
  have le:(QE l).length<=800:=aeI (lS [94] [94,34,10] [94,113,110] l) (by simp only[aeh,aeJ];lia);have a1:1+(QE l).length<=16777216:=by lia
  have a2:(QE l).length+1+1<=16777216:=by lia
  rw[kS (s:=34::(QE l++ [34])) ⋯ dv ft fun _=>by have q:=eU 0 l [94] [94,34,10] [94,113,110] ⋯ ⋯ ⋯ ⋯;show ag (cD (F 1)) 2 2 [.ins 2 [],.str l]=_;simp[EV,ag,cD,bB,q,a1,aP,aeh,a2]]
  rfl
 .have ft:F 3 (fZ 3) [.ins 3 [],.str l]=.ok (.bl true):=by show ag (aX (F 2)) 2 2 [.ins 3 [],.str l]=_;simp[EV,ag,aX,tx,aP]
  rw[kS (s:=PEs l) ⋯ dv ft fun _=>by have q:=eU 0 l [126] [126,60,62,38,124,10] [126,108,103,97,98,110] ⋯ ⋯ ⋯ ⋯;show ag (cP (F 1)) 2 2 [.ins 3 [],.str l]=_;simp[EV,ag,cP,bB,q,aP]]
  rfl
 .have ft:F 3 (fZ 4) [.ins 4 [],.str l]=.ok (.bl true):=by show ag (bw (F 2)) 2 2 [.ins 4 [],.str l]=_;simp[EV,ag,bw,tx,aP]
  rw[kS (s:=LE l) ⋯ dv ft fun _=>by have q:=eU 0 l [126] [126,10] [126,110] ⋯ ⋯ ⋯ ⋯;show ag (cY (F 1)) 2 2 [.ins 4 [],.str l]=_;simp[EV,ag,cY,bB,q,aP]]
  rfl
def Ll{s:Y1}(hl:l.length<=400)(hc:∀c∈l,c∈aI)(e:UL 0 (.str l)=some s):s=l:=by
 have f:=fQ e;have q:=(f.2 rfl).1 0
 have h2:F 2 (rd 0) [.ins 0 [],.str l]=.ok (.str l):=by show ag (cX (F 1)) 2 2 [.ins 0 [],.str l]=_;simp[EV,ag,cX,aP]
 rw[h2]at q;injection q with q
 injection q with q
 exact q.symm
def Lo{i:Int}{s:Y1}(e:UL 1 (.int i)=some s): -big<i/\i<big/\s=kx i:=by
 have f:=fQ e
 have h1:F 3 (fZ 1) [.ins 1 [],.int i]=.ok (.bl (decide ((if i<0 then -i else i)<1000000000000000000000000000000))):=by show ag (aN (F 2)) 2 2 [.ins 1 [],.int i]=_;have e:=oK 1 i;simp[EV,ag,aN,bB,e,aP]
 have q:=f.1 0;rw[h1]at q;injection q with q
 injection q with q
 have q:=ajG q;have b: -big<i/\i<big:=by unfold big;split at q<;>lia
 refine⟨b.1,b.2,?_⟩;have lg:=mq b.1 b.2
 have h2:F 2 (rd 1) [.ins 1 [],.int i]=.ok (.str (kx i)):=by show ag (cF (F 1)) 2 2 [.ins 1 [],.int i]=_;simp[EV,ag,cF,lg,aP]
 have p:=(f.2 rfl).1 0;rw[h2]at p;injection p with p
 injection p with p
 exact p.symm
theorem Lj{w:Nat}(hw:w<5)(h1:w≠1)(i:Int):UL w (.int i)=none:=by
 cases e:UL w (.int i)with
 |none=>rfl
 |some s=>
  exfalso;have f:=(fQ e).1 0;have hv:Dv (.int i):=.int i;have z:=fun(j:Int) h=>yC hv (fun l q=>by cases q) j 0 h;have pv:(PV.int i).pure=true:=rfl;rcases(show w=0\/w=2\/w=3\/w=4 by lia)with rfl|rfl|rfl|rfl
  .have:F 3 (fZ 0) [.ins 0 [],.int i]=.ok (.bl ajt):=by show ag (bg (F 2)) 2 2 [.ins 0 [],.int i]=_;simp[EV,ag,bg,ar _ pv,z,aP]
   rw[f]at this;cases this
  .have:F 3 (fZ 2) [.ins 2 [],.int i]=.ok (.bl ajt):=by show ag (aT (F 2)) 2 2 [.ins 2 [],.int i]=_;simp[EV,ag,aT,ar _ pv,z,aP]
   rw[f]at this;cases this
  .have:F 3 (fZ 3) [.ins 3 [],.int i]=.ok (.bl ajt):=by show ag (aX (F 2)) 2 2 [.ins 3 [],.int i]=_;simp[EV,ag,aX,ar _ pv,z,aP]
   rw[f]at this;cases this
  .have:F 3 (fZ 4) [.ins 4 [],.int i]=.ok (.bl ajt):=by show ag (bw (F 2)) 2 2 [.ins 4 [],.int i]=_;simp[EV,ag,bw,ar _ pv,z,aP]
   rw[f]at this;cases this
theorem Lk(l:Y1):UL 1 (.str l)=none:=by
 cases e:UL 1 (.str l)with
 |none=>rfl
 |some s=>
  have f:=(fQ e).1 0
  have:F 3 (fZ 1) [.ins 1 [],.str l]=.ok (.bl ajt):=by show ag (aN (F 2)) 2 2 [.ins 1 [],.str l]=_;simp[EV,ag,aN,aP]
  rw[f]at this;cases this
def Cd(w:Nat)(v:PV)(s:Y1):Prop:=VV 0 v/\UL w v=some s
def jo{w:Nat}(hw:w<5){s:Y1}(c:Cd w v s):(w=0/\v=.str s)\/(w=1/\∃i,v=.int i/\ -big<i/\i<big/\s=kx i)\/(2<=w/\∃l,v=.str l/\l.length<=400/\sgn l/\s=spW w l):=by
 obtain⟨vv,e⟩:=c;rcases Fh e with⟨l,rfl⟩|⟨i,rfl⟩
 .cases vv with
  |str _ _ hl hc=>
   rcases(show w=0\/w=1\/2<=w by lia)with rfl|rfl|h2
   .exact .inl ⟨rfl,by rw[Ll hl hc e]⟩
   .rw[Lk]at e;cases e
   .rw[Lm w h2 hw l hl hc]at e
    cases e
    exact .inr (.inr ⟨h2,l,rfl,hl,hc,rfl⟩)
 .by_cases q:w=1
  .subst q;obtain⟨a,b,c⟩:=Lo e;exact .inr (.inl ⟨rfl,i,rfl,a,b,c⟩)
  .rw[Lj hw q]at e;cases e
open PySem.NumText (digitsVal AllDigits)
def La(n:Nat):dig n≠ []:=by
 unfold dig;intro h;have:akp 10 n= []:=by simpa using h
 exact absurd this (by
  rcases aeR n 10 with q|q
  .rw[ahy q];simp
  .have t:akp 10 (n / 10)++akp 10 (n % 10)=akp 10 (10 * (n / 10)+n % 10):=Nat.toDigits_append_toDigits ⋯ ⋯ (Nat.mod_lt n ⋯);rw[Nat.div_add_mod]at t;rw[<- t,ahy (Nat.mod_lt n ⋯)];simp)
theorem Hw(x:Y1)(h:Y3):ui [.str x] h=(match tQ x with|some n=>if x.length<=640 then .ok (.int n) h else .bad|none=>.bad):=rfl
theorem uL:∀(cs:Y1)(a:Nat),AllDigits cs->a * 10 ^ cs.length<=cs.foldl (fun acc c=>acc * 10+(c - 48)) a/\cs.foldl (fun acc c=>acc * 10+(c - 48)) a<(a+1) * 10 ^ cs.length
 |[],a,_=>by simp
 |c::r,a,h=>by
  have hc:=h c aeC;obtain⟨l,u⟩:=uL r (a * 10+(c - 48)) fun z hz=>h z (aen _ hz);have e:10 ^ (c::r).length=10 * 10 ^ r.length:=by rw[aeh,Nat.pow_succ,ahI]
  rw[agY,e];refine⟨aeI ?_ l,afu u ?_⟩
  .rw[<- ajj];exact afJ _ ⋯
  .rw[<- ajj];exact afJ _ ⋯
def NK{c:Nat}{r:Y1}(h:AllDigits (c::r))(hc:c≠48):10 ^ r.length<=digitsVal (c::r):=by
 have hd:=h c aeC;have:=(uL r (0 * 10+(c - 48)) fun z hz=>h z (aen _ hz)).1;refine aeI ?_ this;have:1<=0 * 10+(c - 48):=by lia
 calc 10 ^ r.length=1 * 10 ^ r.length:=(Nat.one_mul _).symm
  _<=_:=afJ _ this
def xk:∀c:Nat,48<=c->c<=57->(Char.ofNat c).toNat=c:=by
 intro c h1 h2;have:c=48\/c=49\/c=50\/c=51\/c=52\/c=53\/c=54\/c=55\/c=56\/c=57:=by lia
 rcases this with rfl|rfl|rfl|rfl|rfl|rfl|rfl|rfl|rfl|rfl<;>decide
theorem Lc{cs:Y1}(h:AllDigits cs):dig (digitsVal cs)=match cs.dropWhile (· ==48)with|[]=>[48]|ds=>ds:=by
 unfold dig;rw[PySem.NumText.toDigits_all cs h];have sub:∀c∈cs.dropWhile (· ==48),48<=c/\c<=57:=fun c hc=>h c ((ahK _).subset hc)
 cases e:cs.dropWhile (· ==48)with
 |nil=>rfl
 |cons a r=>
  rw[e]at sub;simp only[afe]
  conv=>rhs;rw[<- List.map_id (a::r)]
  apply List.map_congr_left;intro c hc;exact xk c (sub c hc).1 (sub c hc).2
def Cv{c:Nat}{r:Y1}(h:AllDigits (c::r)):dig (digitsVal (c::r))=c::r↔(c≠48\/r= []):=by
 rw[Lc h]
 by_cases q:c=48
 .subst q;rw[aik,ajz (by rfl)];constructor
  .intro e
   right
   have ln:(r.dropWhile (· ==48)).length<=r.length:=(ahK _).length_le
   cases y:r.dropWhile (· ==48)with
   |nil=>rw[y]at e;simpa using e
   |cons a z=>rw[y]at e ln;simp only at e;rw[e]at ln;simp only[aeh]at ln;lia
  .rintro(w|w)
   .exact absurd rfl w
   .subst w;rfl
 .rw[aik,ajB (by simpa using q)];simp[q]
theorem oY(n:Nat):∃c r,dig n=c::r/\(c≠48\/r= [])/\AllDigits (c::r)/\digitsVal (c::r)=n:=by
 have hd:AllDigits (dig n):=AU n;have hv:digitsVal (dig n)=n:=W.KIN.val_back n
 cases e:dig n with
 |nil=>exact absurd e (La n)
 |cons c r=>rw[e]at hd hv;refine⟨c,r,rfl,?_,hd,hv⟩;rw[<- Cv hd,hv,e]
def jD{s:Y1}(h:AllDigits s)(hn:s≠ [])(hl:s.length<=4300):tQ s=some ((digitsVal s:Nat):Int):=by unfold tQ;exact PySem.intText_digits (x:=S s) (by show AllDigits s;exact h) hn (by rw[dH];exact hl)
def sx{s:Y1}(h:AllDigits s)(hn:s≠ [])(hl:s.length<4300):tQ (45::s)=some (-((digitsVal s:Nat):Int)):=by unfold tQ;exact PySem.intText_neg (x:=S (45::s)) (cs:=s) rfl h hn (by rw[dH,aeh];lia)
def in2{s:Y1}(hs:∀c∈s,c<1114112)(h:Y3):Wz (.str s) (.tup [.str [],.str [45]]) h=.ok (.bl (decide ([]=s)||decide ([45]=s))) h:=by
 have e:BS (.str s) (.tup [.str [],.str [45]]) h=some (decide ([]=s)||decide ([45]=s)):=by show(if Vx [] (.str s)=true/\ [PV.str [],.str [45]].all (Vx [])=true then some ([PV.str [],.str [45]].any fun y=>ajU (toD y) (toD (.str s)))else none)=_;rw[ajz ⟨kB [] hs,by simp[kB [] (l:=[]) (by simp),kB [] (l:=[45]) ⋯]⟩];simp only[agr,ajs,ajm,wu [] s (by simp) hs,wu [45] s ⋯ hs]
 unfold Wz;rw[e]
def BY(k:Nat)(s:Y1)(hs:∀c∈s,c<1114112)(hz:s.length<=16777216)(h:s= []\/s= [45]\/31<s.length):F (k+1) .u9 [.ins 1 [],.str s]=.ok .non:=by
 show ag (dC (F k)) 2 2 [.ins 1 [],.str s]=_;have e:=in2 hs
 by_cases q:s= []\/s= [45]
 .have d:(decide ([]=s)||decide ([45]=s))=true:=by rcases q with rfl|rfl<;>decide
  simp[EV,Hw,ag,dC,e,d,aP]
 .have d:(decide ([]=s)||decide ([45]=s))=ajt:=by rw[agS];exact⟨ajv fun z=>q (.inl z.symm),ajv fun z=>q (.inr z.symm)⟩
  have d2:decide ((31:Int)<(s.length:Int))=true:=ajw (by rcases h with w|w|w;exact absurd (.inl w) q;exact absurd (.inr w) q;lia);simp[EV,Hw,ag,dC,e,d,hz,d2,aP]
def BX(k:Nat)(s:Y1)(v:Int)(hs:∀c∈s,c<1114112)(q1:s≠ [])(q2:s≠ [45])(hl:s.length<=31)(hv:tQ s=some v):F (k+1) .u9 [.ins 1 [],.str s]=.ok (.int v):=by
 show ag (dC (F k)) 2 2 [.ins 1 [],.str s]=_;have e:=in2 hs
 have d:(decide ([]=s)||decide ([45]=s))=ajt:=by rw[agS];exact⟨ajv fun z=>q1 z.symm,ajv fun z=>q2 z.symm⟩
 have d2:decide ((31:Int)<(s.length:Int))=ajt:=ajv ⋯;have hz:s.length<=16777216:=by lia
 have h6:s.length<=640:=by lia
 simp[EV,Hw,ag,dC,e,d,hz,d2,hv,h6,aP]
def str_int{i:Int}(h1: -big<i)(h2:i<big):tQ (kx i)=some i/\kx i≠ []/\kx i≠ [45]/\(kx i).length<=31:=by
 unfold big at h1 h2;have ten:(10:Nat) ^ 30=1000000000000000000000000000000:=by decide
 have sz:∀n:Nat,n<1000000000000000000000000000000->(dig n).length<=30:=fun n hn=>by
  obtain⟨c,r,e,k,ad,dv⟩:=oY n;rw[e];rcases k with k|k
  .have g:=NK ad k;rw[dv]at g;rcases aeR (c::r).length 31 with q|q
   .lia
   .have:10 ^ 30<=10 ^ r.length:=Nat.pow_le_pow_right ⋯ (by rw[aeh]at q;lia)
    lia
  .subst k;simp
 rw[Ah]
 split
 .rename_i q;obtain⟨c,r,e,k,ad,dv⟩:=oY i.toNat;have l:=sz i.toNat ⋯;refine⟨?_,?_,?_,by lia⟩
  .rw[e]at l |-;rw[jD ad (by simp) ⋯,dv]
   congr 1;lia
  .rw[e];simp
  .rw[e];intro z;have:=ad c (by simp);have:c=45:=(List.cons.inj z).1
   lia
 .rename_i q;obtain⟨c,r,e,k,ad,dv⟩:=oY (-i).toNat;have l:=sz (-i).toNat ⋯;refine⟨?_,by simp,?_,by rw[aeh];lia⟩
  .rw[e]at l |-;rw[sx ad (by simp) ⋯,dv]
   congr 1;lia
  .rw[e];simp
def Wm(w:Nat)(t:Y1)(i:Nat):Nat:=
 match w with
 |0=>i+((t.drop i).takeWhile (aM).contains).length
 |1=>if t[i]? =some 45 then i+1+((t.drop (i+1)).takeWhile dGT).length else i+((t.drop i).takeWhile dGT).length
 |2=>if YJ t i then BO t i+1 else i
 |3=>i+((t.drop i).takeWhile fun c=>![10,38,60,62,124].contains c).length
 |_=>i+((t.drop i).takeWhile fun c=>![10].contains c).length
def T4(w:Nat)(t:Y1)(i:Nat):Y1:=(t.drop i).take (Wm w t i - i)
open Classical in
noncomputable def WK(w:Nat)(t:Y1)(i:Nat):Option (PV×Nat):=if h:∃v,Cd w v (T4 w t i)then some (h.choose,Wm w t i)else none
theorem xr(t:Y1)(i:Nat):Wm 1 t i=if t[i]? =some 45 then i+1+((t.drop (i+1)).takeWhile dGT).length else i+((t.drop i).takeWhile dGT).length:=rfl
theorem tZ(t:Y1)(i:Nat):Wm 2 t i=if YJ t i then BO t i+1 else i:=rfl
def xg(t:Y1)(i:Nat)(p:Nat->Bool)(hi:i<=t.length):i+((t.drop i).takeWhile p).length<=t.length:=by
 have:=(ahJ p (l:=t.drop i)).length_le;rw[aeV]at this
 lia
def lP{c:Nat}(h:t[i]? =some c):i<t.length:=by
 rcases aeR i t.length with w|w
 .exact w
 .rw[aeE w]at h;cases h
def CS{w:Nat}(hi:i<=t.length):i<=Wm w t i/\Wm w t i<=t.length:=by
 unfold Wm
 split
 .exact⟨by lia,xg t i _ hi⟩
 .split
  .rename_i q;have:=lP q;exact⟨by lia,xg t (i+1) _ ⋯⟩
  .exact⟨by lia,xg t i _ hi⟩
 .split
  .rename_i q;have:=lP q.1;have:=(Jj (t.drop (i+1))).mpr q.2;rw[aeV]at this;unfold BO
   lia
  .lia
 .exact⟨by lia,xg t i _ hi⟩
 .exact⟨by lia,xg t i _ hi⟩
noncomputable def seF:Nat->Fn
 |0=>.p8
 |1=>.m_
 |2=>.n8
 |3=>.n_
 |_=>.q8
noncomputable def Z4:Nat->Fn
 |0=>.G6
 |1=>.u9
 |2=>.v7
 |3=>.D_
 |_=>.G7
def EY(C:CC)(i:Nat)(hi:i<5):iE C i=some (C (seF i))/\mw C i=some (C (Z4 i))/\pb C i=some (C (fZ i))/\iw C i=some (C (rd i)):=by rcases(show i=0\/i=1\/i=2\/i=3\/i=4 by lia)with rfl|rfl|rfl|rfl|rfl<;>exact⟨rfl,rfl,rfl,rfl⟩
def Js(k w:Nat)(hw:w<5)(t:Y1)(i:Nat)(hi:i<=t.length)(hz:t.length<=16000000):F (k+2) (seF w) [.ins w [],.str t,.int i]=.ok (.int ((Wm w t i:Nat):Int)):=by
 have WD:t.length<=16777216:=by lia
 rcases(show w=0\/w=1\/w=2\/w=3\/w=4 by lia)with rfl|rfl|rfl|rfl|rfl
 .exact FT k t i hi WD
 .unfold Wm
  by_cases q:t[i]? =some 45
  .rw[ajz q];exact BV k t i (lP q) WD q
  .rw[ajB q];exact BW k t i hi WD q
 .have:=Pe (k+1) t i;unfold Wm
  split at this
  .rename_i q;rw[ajz q];exact this
  .rename_i q;rw[ajB q];exact this
 .exact DG k t i hi WD
 .exact Hr k t i hi WD
def CR(t:Y1)(i:Nat)(p:Nat->Bool):(t.drop i).take (i+((t.drop i).takeWhile p).length - i)=(t.drop i).takeWhile p:=by rw[ahB,qp]
def Ai(w:Nat)(t:Y1)(i:Nat):(T4 w t i).length<=t.length:=by unfold T4;rw[ae5,aeV];lia
def vy{w:Nat}(h:sgn t):sgn (T4 w t i):=fun c hc=>h c (afc (aeU hc))
def Io(hi:i<=t.length)(q:YJ t i):T4 2 t i=34::((t.drop (i+1)).takeWhile (· !=34)++[34]):=by have:=NU t i q;rw[ww t i _ hi]at this;unfold T4;rw[tZ,ajz q];exact this
def Mn(m:PV):Prop:=m=.non\/(∃l,m=.str l/\l.length<=16000000/\sgn l)\/∃j,m=.int j
theorem Ej{s:Y1}(hs:sgn s)(hr:∀c∈raw,c∈aI)(hl:b_.length<=raw.length)(hz:s.length<=16000000):Mn (oS (Ut m raw b_ s)):=by
 cases e:Ut m raw b_ s with
 |none=>exact .inl rfl
 |some u=>obtain⟨a,b⟩:=vj (fun p hp=>afu hp hl) s u e;exact .inr (.inl ⟨u,rfl,by lia,fun c hc=>(a c hc).elim (hs c) (hr c)⟩)
def qH{s:Y1}(h:∀c∈s,c∈([48,49,50,51,52,53,54,55,56,57]:Y1)):AllDigits s:=by
 intro c hc;have:=h c hc;simp at this
 omega
def Kq(k w:Nat)(hw:w<5)(t:Y1)(ht:sgn t)(i:Nat)(hi:i<=t.length)(hz:t.length<=16000000):∃m,F (k+2) (Z4 w) [.ins w [],.str (T4 w t i)]=.ok m/\Mn m/\∀v,Cd w v (T4 w t i)->m=v:=by
 have sl:=Ai w t i;have sg:=vy (w:=w) (i:=i) ht;have lt:∀c∈T4 w t i,c<1114112:=fun c h=>dI c (sg c h);rcases(show w=0\/w=1\/w=2\/w=3\/w=4 by lia)with rfl|rfl|rfl|rfl|rfl
 .refine⟨_,FU (k+1) _,.inr (.inl ⟨_,rfl,by lia,sg⟩),fun v c=>?_⟩;rcases jo hw c with⟨_,e⟩|⟨z,_⟩|⟨z,_⟩
  .exact e.symm
  .cases z
  .lia
 .have inj:∀v,Cd 1 v (T4 1 t i)->∃j,v=.int j/\ -big<j/\j<big/\T4 1 t i=kx j:=fun v c=>by
   rcases jo hw c with⟨z,_⟩|⟨_,e⟩|⟨z,_⟩
   .cases z
   .exact e
   .lia
  by_cases q:T4 1 t i= []\/T4 1 t i= [45]\/31<(T4 1 t i).length
  .refine⟨.non,BY (k+1) _ lt ⋯ q,.inl rfl,fun v c=>?_⟩;obtain⟨j,rfl,j1,j2,e⟩:=inj v c;obtain⟨_,a,b,l⟩:=str_int j1 j2;rw[<- e]at a b l;rcases q with q|q|q
   .exact absurd q a
   .exact absurd q b
   .lia
  .have q1:T4 1 t i≠ []:=fun z=>q (.inl z);have q2:T4 1 t i≠ [45]:=fun z=>q (.inr (.inl z));have q3:(T4 1 t i).length<=31:=ahz fun z=>q (.inr (.inr z))
   obtain⟨j,e⟩:∃j,tQ (T4 1 t i)=some j:=by
    unfold T4 at q1 q2 q3 |-;rw[xr]at q1 q2 q3 |-
    by_cases p:t[i]? =some 45
    .rw[ajz p]at q1 q2 q3 |-;have hl:=lP p
     have e:(t.drop i).take (i+1+((t.drop (i+1)).takeWhile dGT).length - i)=45::(t.drop (i+1)).takeWhile dGT:=by rw[show i+1+((t.drop (i+1)).takeWhile dGT).length - i=((t.drop (i+1)).takeWhile dGT).length+1 from by lia,aeZ hl,af2,qp];rw[aej hl]at p;rw[aeW p]
     rw[e]at q1 q2 q3 |-;have ad:=qH fun c (h:c∈(t.drop (i+1)).takeWhile dGT)=>afa.mp (lw h).2;rw[aeh]at q3;exact⟨_,sx ad (fun z=>q2 (by rw[z])) ⋯⟩
    .rw[ajB p,CR]at q1 q2 q3 |-;have ad:=qH fun c (h:c∈(t.drop i).takeWhile dGT)=>afa.mp (lw h).2;exact⟨_,jD ad q1 ⋯⟩
   refine⟨.int j,BX (k+1) _ j lt q1 q2 q3 e,.inr (.inr ⟨j,rfl⟩),fun v c=>?_⟩;obtain⟨j',rfl,j1,j2,e2⟩:=inj v c;have:=(str_int j1 j2).1;rw[<- e2,e]at this;rw[aeW this]
 .by_cases q:YJ t i
  .have e:=Io hi q;have ln:((t.drop (i+1)).takeWhile (· !=34)).length<=t.length:=zY t (i+1) _;have sg2:sgn ((t.drop (i+1)).takeWhile (· !=34)):=fun c h=>ht c (afc (lw h).1);refine⟨_,uh k _ _ (by rw[e];exact IV _) ⋯ ⋯ (fun c h=>dI c (sg2 c h)),Ej sg2 (by decide+kernel) ⋯ ⋯,fun v c=>?_⟩;rcases jo hw c with⟨z,_⟩|⟨z,_⟩|⟨_,l,rfl,_,_,e2⟩
   .cases z
   .cases z
   .rw[e]at e2
    have:(t.drop (i+1)).takeWhile (· !=34)=ig [94] [94,34,10] [94,113,110] l:=by have e2:34::((t.drop (i+1)).takeWhile (· !=34)++[34])=34::(ig [94] [94,34,10] [94,113,110] l++ [34]):=e2;simpa using e2
    rw[this,lh Mb];rfl
  .have e:T4 2 t i= []:=by unfold T4;rw[tZ,ajB q,afR,agB]
   rw[e];refine⟨_,uh k [] [] rfl (by simp) (by simp) (by simp),.inr (.inl ⟨[],rfl,by simp,fun c h=>(nomatch h)⟩),fun v c=>?_⟩;rcases jo hw c with⟨z,_⟩|⟨z,_⟩|⟨_,l,_,_,_,e2⟩
   .cases z
   .cases z
   .cases e2
 .refine⟨_,DH k _ ⋯ lt,Ej sg (by decide+kernel) ⋯ ⋯,fun v c=>?_⟩;rcases jo hw c with⟨z,_⟩|⟨z,_⟩|⟨_,l,rfl,_,_,e2⟩
  .cases z
  .cases z
  .rw[e2];show oS (Ut 126 _ _ (ig [126] [126,60,62,38,124,10] [126,108,103,97,98,110] l))=_;rw[lh Mc];rfl
 .refine⟨_,Hs k _ ⋯ lt,Ej sg (by decide+kernel) ⋯ ⋯,fun v c=>?_⟩;rcases jo hw c with⟨z,_⟩|⟨z,_⟩|⟨_,l,rfl,_,_,e2⟩
  .cases z
  .cases z
  .rw[e2];show oS (Ut 126 _ _ (ig [126] [126,10] [126,110] l))=_;rw[lh Md];rfl
noncomputable def rdV:Option (PV×Nat)->PV
 |some (v,e)=>.tup [v,.int e]
 |none=>.non
def xI{w:Nat}(c:Cd w v (T4 w t i))(h:∀v',Cd w v' (T4 w t i)->v=v'):WK w t i=some (v,Wm w t i):=by
 have ex:∃v,Cd w v (T4 w t i):=⟨v,c⟩
 unfold WK;rw[dif_pos ex,<- h _ ex.choose_spec]
def jf{w:Nat}(h:∀v,¬ Cd w v (T4 w t i)):WK w t i=none:=by unfold WK;rw[dif_neg (by rintro ⟨v,c⟩;exact h v c)]
def FX(k:Nat)(n:Int)(h:Y3):aR (F (k+2) .G5) [.non,.int n] h=.ok (.bl ajt) h:=aH h rfl (by show ag (cW (F (k+1))) 2 2 [.non,.int n]=_;simp[EV,ag,cW,aP])
def xf(k:Nat)(l:Y1)(n:Int)(hn:n<=4000)(h1:4000<l.length)(hl:l.length<=16000000)(h:Y3):aR (F (k+2) .G5) [.str l,.int n] h=.ok (.bl ajt) h:=aH h rfl (by rw[fW k l n ⋯,ajv ⋯];rfl)
def HM(k w:Nat)(hw:w<5):F (k+3) (fZ w) [.ins w [],.non]=.ok (.bl ajt):=by
 have z:=fun n h=>FX k n h;rcases(show w=0\/w=1\/w=2\/w=3\/w=4 by lia)with rfl|rfl|rfl|rfl|rfl
 .show ag (bg (F (k+2))) 2 2 [.ins 0 [],.non]=_;simp[EV,ag,bg,z,aP]
 .show ag (aN (F (k+2))) 2 2 [.ins 1 [],.non]=_;simp[EV,ag,aN,aP]
 .show ag (aT (F (k+2))) 2 2 [.ins 2 [],.non]=_;simp[EV,ag,aT,z,aP]
 .show ag (aX (F (k+2))) 2 2 [.ins 3 [],.non]=_;simp[EV,ag,aX,z,aP]
 .show ag (bw (F (k+2))) 2 2 [.ins 4 [],.non]=_;simp[EV,ag,bw,z,aP]
def EO(k w:Nat)(hw:w<5)(l:Y1)(h1:4000<l.length)(hl:l.length<=16000000):F (k+3) (fZ w) [.ins w [],.str l]=.ok (.bl ajt):=by
 have z:=xf k l 40 ⋯ h1 hl;have z4:=xf k l 400 ⋯ h1 hl;rcases(show w=0\/w=1\/w=2\/w=3\/w=4 by lia)with rfl|rfl|rfl|rfl|rfl
 .show ag (bg (F (k+2))) 2 2 [.ins 0 [],.str l]=_;simp[EV,ag,bg,z,aP]
 .show ag (aN (F (k+2))) 2 2 [.ins 1 [],.str l]=_;simp[EV,ag,aN,aP]
 .show ag (aT (F (k+2))) 2 2 [.ins 2 [],.str l]=_;simp[EV,ag,aT,z4,aP]
 .show ag (aX (F (k+2))) 2 2 [.ins 3 [],.str l]=_;simp[EV,ag,aX,z4,aP]
 .show ag (bw (F (k+2))) 2 2 [.ins 4 [],.str l]=_;simp[EV,ag,bw,z4,aP]
def Oa{w:Nat}{s:Y1}(hv:Y7 v)(hw:w<5)(f:tG w v true s)(vv:VV 0 v):Cd w v s:=by
 refine⟨vv,?_⟩;have:UL w v=if true=true then some s else none:=kS hw vv.dv (f.1 0) fun _=>(f.2 rfl).1 0
 rw[this,ajz rfl]
def KS{w:Nat}(hw:w<5){s:Y1}(hc:sgn l)(hl:l.length<=4000)(f:tG w (.str l) true s):VV 0 (.str l):=by
 refine .str 0 l (ahz fun q=>?_) hc
 have z:∀n:Int,n<=400->∀h,aR (F 2 .G5) [.str l,.int n] h=.ok (.bl ajt) h:=fun n hn h=>aH h rfl (by rw[fW 0 l n ⋯,ajv ⋯];rfl)
 have z1:=z 40 ⋯;have z4:=z 400 ⋯;have g:=f.1 0
 have:F 3 (fZ w) [.ins w [],.str l]=.ok (.bl ajt):=by
  rcases(show w=0\/w=1\/w=2\/w=3\/w=4 by lia)with rfl|rfl|rfl|rfl|rfl
  .show ag (bg (F 2)) 2 2 [.ins 0 [],.str l]=_;simp[EV,ag,bg,z1,aP]
  .show ag (aN (F 2)) 2 2 [.ins 1 [],.str l]=_;simp[EV,ag,aN,aP]
  .show ag (aT (F 2)) 2 2 [.ins 2 [],.str l]=_;simp[EV,ag,aT,z4,aP]
  .show ag (aX (F 2)) 2 2 [.ins 3 [],.str l]=_;simp[EV,ag,aX,z4,aP]
  .show ag (bw (F 2)) 2 2 [.ins 4 [],.str l]=_;simp[EV,ag,bw,z4,aP]
 rw[g]at this;cases this
section
variable(k w:Nat)(hw:w<5)(t:Y1)(i e:Nat)(s:Y1)(hz:t.length<=16777216)(uh1:F (k+4) (seF w) [.ins w [],.str t,.int i]=.ok (.int e))(uh2:cut t (some (i:Int)) (some (e:Int))=s)(m:PV)(mp:m.pure=true)(uh3:F (k+4) (Z4 w) [.ins w [],.str s]=.ok m)
include hw hz uh1 uh2 mp uh3
theorem vL(h4:F (k+4) (fZ w) [.ins w [],m]=.ok (.bl ajt)):F (k+5) .j8 [.ins w [],.str t,.int i]=.ok .non:=by obtain⟨d1,d2,d3,d4⟩:=EY (F (k+4)) w hw;have pi:(PV.ins w []).pure=true:=rfl;have c1:∀h,aR (F (k+4) (seF w)) [.ins w [],.str t,.int i] h=.ok (.int e) h:=fun h=>aH h rfl uh1;have c3:∀h,aR (F (k+4) (Z4 w)) [.ins w [],.str s] h=.ok m h:=fun h=>aH h rfl uh3;have c4:∀h,aR (F (k+4) (fZ w)) [.ins w [],m] h=.ok (.bl ajt) h:=fun h=>aH h (by simp only[ai,mp,pi];rfl) h4;show ag (gI (F (k+4))) 3 6 [.ins w [],.str t,.int i]=_;simp[EV,bC,ag,gI,d1,d2,d3,d4,hz,ar _ mp,uh2,c1,c3,c4,aP]
theorem GA(h4:F (k+4) (fZ w) [.ins w [],m]=.ok (.bl true))(sp:Y1)(h5:F (k+4) (rd w) [.ins w [],m]=.ok (.str sp))(hs:∀c∈s,c<1114112)(hp:∀c∈sp,c<1114112)(h6:sp≠s):F (k+5) .j8 [.ins w [],.str t,.int i]=.ok .non:=by
 obtain⟨d1,d2,d3,d4⟩:=EY (F (k+4)) w hw;have pi:(PV.ins w []).pure=true:=rfl;have c1:∀h,aR (F (k+4) (seF w)) [.ins w [],.str t,.int i] h=.ok (.int e) h:=fun h=>aH h rfl uh1;have c3:∀h,aR (F (k+4) (Z4 w)) [.ins w [],.str s] h=.ok m h:=fun h=>aH h rfl uh3;have c4:∀h,aR (F (k+4) (fZ w)) [.ins w [],m] h=.ok (.bl true) h:=fun h=>aH h (by simp only[ai,mp,pi];rfl) h4;have c5:∀h,aR (F (k+4) (rd w)) [.ins w [],m] h=.ok (.str sp) h:=fun h=>aH h (by simp only[ai,mp,pi];rfl) h5;have n6:∀h,Tv (.str sp) (.str s) h=.ok (.bl true) h:=fun h=>by rw[gi _ _ _ hp hs,ajv h6];rfl
 show ag (gI (F (k+4))) 3 6 [.ins w [],.str t,.int i]=_;simp[EV,bC,ag,gI,d1,d2,d3,d4,hz,ar _ mp,uh2,c1,c3,c4,c5,n6,aP]
theorem Dt(h4:F (k+4) (fZ w) [.ins w [],m]=.ok (.bl true))(h5:F (k+4) (rd w) [.ins w [],m]=.ok (.str s))(hs:∀c∈s,c<1114112):F (k+5) .j8 [.ins w [],.str t,.int i]=.ok (.tup [m,.int e]):=by
 obtain⟨d1,d2,d3,d4⟩:=EY (F (k+4)) w hw;have pi:(PV.ins w []).pure=true:=rfl;have c1:∀h,aR (F (k+4) (seF w)) [.ins w [],.str t,.int i] h=.ok (.int e) h:=fun h=>aH h rfl uh1;have c3:∀h,aR (F (k+4) (Z4 w)) [.ins w [],.str s] h=.ok m h:=fun h=>aH h rfl uh3;have c4:∀h,aR (F (k+4) (fZ w)) [.ins w [],m] h=.ok (.bl true) h:=fun h=>aH h (by simp only[ai,mp,pi];rfl) h4;have c5:∀h,aR (F (k+4) (rd w)) [.ins w [],m] h=.ok (.str s) h:=fun h=>aH h (by simp only[ai,mp,pi];rfl) h5;have n6:∀h,Tv (.str s) (.str s) h=.ok (.bl ajt) h:=fun h=>by rw[gi _ _ _ hs hs,ajw rfl];rfl
 have fz:∀h,aP (.tup [m,.int e]) h=.ok (.tup [m,.int e]):=fun h=>eK h (by simp only[PV.pure,ai,mp];rfl);show ag (gI (F (k+4))) 3 6 [.ins w [],.str t,.int i]=_;simp[EV,bC,ag,gI,d1,d2,d3,d4,hz,ar _ mp,uh2,c1,c3,c4,c5,n6];exact fz _
end
def CI(k w:Nat)(hw:w<5)(t:Y1)(ht:sgn t)(i:Nat)(hi:i<=t.length)(hz:t.length<=16000000):F (k+5) .j8 [.ins w [],.str t,.int i]=.ok (rdV (WK w t i)):=by
 have WD:t.length<=16777216:=by lia
 have h1:=Js (k+2) w hw t i hi hz;have h2:cut t (some (i:Int)) (some ((Wm w t i:Nat):Int))=T4 w t i:=ww t i _ hi;obtain⟨m,h3,mn,uq⟩:=Kq (k+2) w hw t ht i hi hz;have lt:∀c∈T4 w t i,c<1114112:=fun c h=>dI c (vy ht c h)
 have gen:∀{m:PV},Dv m->Y7 m->F (k+4) (Z4 w) [.ins w [],.str (T4 w t i)]=.ok m->(∀v,Cd w v (T4 w t i)->m=v)->(∀s,tG w m true s->VV 0 m)->F (k+5) .j8 [.ins w [],.str t,.int i]=.ok (rdV (WK w t i)):=fun{m} dv sc h3 uq vv=>by
  obtain⟨b,s,f⟩:=wn w hw dv
  cases b with
  |false=>
   rw[jf fun v c=>by
    have e:=uq v c;have g:=(fQ c.2).1 0;rw[<- e,f.1 0]at g
    cases g]
   exact vL k w hw t i _ _ WD h1 h2 m dv.pure h3 (f.1 (k+1))
  |true=>
   have g:=f.2 rfl
   by_cases q:s=T4 w t i
   .subst q;rw[xI (Oa sc hw f (vv _ f)) uq];exact Dt k w hw t i _ _ WD h1 h2 m dv.pure h3 (f.1 (k+1)) (g.1 (k+2)) lt
   .rw[jf fun v c=>by
     have e:=uq v c;have g2:=(fQ c.2)
     rw[<- e]at g2;have a:=(g2.2 rfl).1 0;rw[g.1 0]at a;injection a with a
     injection a with a
     exact q a]
    exact GA k w hw t i _ _ WD h1 h2 m dv.pure h3 (f.1 (k+1)) s (g.1 (k+2)) lt (fun c hc=>dI c (g.2.2 c hc)) q
 rcases mn with rfl|⟨l,rfl,hl,hc⟩|⟨j,rfl⟩
 .rw[jf fun v c=>by
   have e:=uq v c;have:=c.1;rw[<- e]at this
   cases this]
  exact vL k w hw t i _ _ WD h1 h2 .non rfl h3 (HM (k+1) w hw)
 .by_cases q:l.length<=4000
  .exact gen (.str l q fun c h=>dI c (hc c h)) (.inl ⟨l,rfl⟩) h3 uq fun s f=>KS hw hc q f
  .rw[jf fun v c=>by
    have e:=uq v c;have:=c.1;rw[<- e]at this
    cases this with
    |str _ _ h _=>lia]
   exact vL k w hw t i _ _ WD h1 h2 (.str l) rfl h3 (EO (k+1) w hw l ⋯ hl)
 .exact gen (.int j) (.inr ⟨j,rfl⟩) h3 uq fun s f=>.int 0 j
def gO(w c:Nat):Bool:=
 match w with
 |0=>(aM).contains c
 |1=>dGT c
 |3=>![10,38,60,62,124].contains c
 |_=>![10].contains c
theorem AD(a b:Y1)(h:Y3):gj (.str a) (.str b) h=.ok (.bl (!decide (b<a))) h:=rfl
def LS:∀c∈aI,(aM).contains c=(dGT c||((!decide (([c]:Y1)<[97])&&!decide (([122]:Y1)<[c]))||(!decide (([c]:Y1)<[65])&&!decide (([90]:Y1)<[c])))):=by decide+kernel
noncomputable def dGo:PV:=.dct [(.inr [112,108,97,105,110],.str [10,38,60,62,124]),(.inr [108,105,110,101],.str [10])]
theorem Fa(ρ:Ev)(h:Y3):mK [(aaC,abe),(aaG,abN)] ρ h=.ok dGo h:=rfl
def EZ(h:Y3):j5 dGo (.str wP) h=.ok (.str [10,38,60,62,124]) h/\j5 dGo (.str wL) h=.ok (.str [10]) h:=⟨rfl,rfl⟩
theorem Eb(x y:Y1)(h:Y3):gW (.str x) (.str y) h=.ok (.bl (!pM x y)) h:=rfl
def AZ{a c:Ex}{b:Bool}(e:a ρ h=.ok (.bl b) h):Yg a c ρ h=if b=true then .ok (.bl true) h else c ρ h:=by
 unfold Yg;rw[e]
 cases b<;>rfl
def wD{a c:Ex}{b:Bool}(e:a ρ h=.ok (.bl b) h):jT a c ρ h=if b=true then c ρ h else .ok (.bl ajt) h:=by
 unfold jT;rw[e]
 cases b<;>rfl
def NZ{g g':PV->PV->Y3->Res PV}{a b c:Ex}{x y z:PV}{b1 b2:Bool}(ea:a ρ h=.ok x h)(eb:b ρ h=.ok y h)(ec:c ρ h=.ok z h)(e1:g x y h=.ok (.bl b1) h)(e2:g' y z h=.ok (.bl b2) h):fD g g' a b c ρ h=.ok (.bl (b1&&b2)) h:=by
 unfold fD;rw[ea];simp only[Res.K9];rw[eb];simp only[Res.K9];rw[e1];simp only[Res.K9]
 cases b1
 .rfl
 .dsimp only;rw[ec];simp only[Res.K9];rw[e2];rfl
def AJ(k w:Nat)(hw:w=0\/w=1\/w=3\/w=4)(c:Nat)(hc:c∈aI):F (k+1) .Rz [.str (ca w),.str [c]]=.ok (.bl (gO w c)):=by
 rcases hw with rfl|rfl|rfl|rfl
 .have q1:=Rw (a:=wW) (b:=[112,108,97,105,110]) ajt;have q2:=Rw (a:=wW) (b:=[108,105,110,101]) ajt;have q3:=Rw (a:=wW) (b:=[119,111,114,100]) true;have e:=LS c hc;show ag (dU (F k)) 2 2 [.str wW,.str [c]]=.ok (.bl ((aM).contains c));rw[e]
  have p0:c2 Wz (ac 1) aaP [PV.str wW,PV.str [c]] []=.ok (.bl (dGT c)) []:=by simp[EV,cR,cO]
  have p1:c2 v9 (ac 0) aao [PV.str wW,PV.str [c]] []=.ok (.bl true) []:=by simp[EV,q3]
  have p2:=NZ (g:=gj) (g':=gj) (a:=cK (.str [97])) (b:=ac 1) (c:=cK (.str [122])) (ρ:=[PV.str wW,PV.str [c]]) (h:=[]) rfl rfl rfl (AD [97] [c] []) (AD [c] [122] []);have p3:=NZ (g:=gj) (g':=gj) (a:=cK (.str [65])) (b:=ac 1) (c:=cK (.str [90])) (ρ:=[PV.str wW,PV.str [c]]) (h:=[]) rfl rfl rfl (AD [65] [c] []) (AD [c] [90] []);have p4:=AZ (c:=fD gj gj (cK (.str [65])) (ac 1) (cK (.str [90]))) p2;have p5:=wD (c:=Yg abC abG) p1;have p6:=AZ (c:=jT (c2 v9 (ac 0) aao) aaA) p0;rw[p5,p4,p3]at p6
  have p7:Yg (c2 Wz (ac 1) aaP) adL [PV.str wW,PV.str [c]] []=.ok (.bl (dGT c||((!decide (([c]:Y1)<[97])&&!decide (([122]:Y1)<[c]))||(!decide (([c]:Y1)<[65])&&!decide (([90]:Y1)<[c]))))) []:=by
   rw[p6]
   cases dGT c
   .rw[ajB ⋯,ajz rfl]
    cases(!decide (([c]:Y1)<[97])&&!decide (([122]:Y1)<[c]))<;>rfl
   .rfl
  simp[EV,ag,dU,q1,q2];rw[p7];rfl
 .have q1:=Rw (a:=wN) (b:=[112,108,97,105,110]) ajt;have q2:=Rw (a:=wN) (b:=[108,105,110,101]) ajt;have q3:=Rw (a:=wN) (b:=[119,111,114,100]) ajt;have p0:∀h,Wz (.str [c]) (.str [48,49,50,51,52,53,54,55,56,57]) h=.ok (.bl (dGT c)) h:=fun h=>by rw[cR,cO]
  show ag (dU (F k)) 2 2 [.str wN,.str [c]]=.ok (.bl (dGT c))
  have p1:c2 Wz (ac 1) aaP [PV.str wN,PV.str [c]] []=.ok (.bl (dGT c)) []:=by simp[EV,cR,cO]
  have p2:c2 v9 (ac 0) aao [PV.str wN,PV.str [c]] []=.ok (.bl ajt) []:=by simp[EV,q3]
  have p5:=wD (c:=Yg abC abG) p2;have p6:=AZ (c:=jT (c2 v9 (ac 0) aao) aaA) p1;rw[p5]at p6;simp[EV,ag,dU,q1,q2];rw[p6]
  cases dGT c<;>simp only[ajz,aeS, ↓reduceIte]<;>rfl
 .have q1:=Rw (a:=wP) (b:=[112,108,97,105,110]) true;show ag (dU (F k)) 2 2 [.str wP,.str [c]]=.ok (.bl (![10,38,60,62,124].contains c));simp[EV,ag,dU,q1,Fa,(EZ _).1,Eb,cO,aP]
 .have q1:=Rw (a:=wL) (b:=[112,108,97,105,110]) ajt;have q2:=Rw (a:=wL) (b:=[108,105,110,101]) true;show ag (dU (F k)) 2 2 [.str wL,.str [c]]=.ok (.bl (![10].contains c));simp[EV,ag,dU,q1,q2,Fa,(EZ _).2,Eb,cO,aP]
def AA(x:Y1)(c:Nat):kD x [c]=x.drop (x.takeWhile ([c]:Y1).contains).length:=by
 unfold kD akG;rw[PyProof.Rows.stripBy_eq,StrLaws.strSub_toList]
 have e1:((S x).cps.toList.takeWhile (S [c]).cps.contains).length=(x.takeWhile ([c]:Y1).contains).length:=by
  rw[FF]
  congr 2
  funext z
  rw[<- Array.contains_toList,FF]
 show((S x).cps.toList.drop ((S x).cps.toList.takeWhile (S [c]).cps.contains).length).take ((S x).length - ((S x).cps.toList.takeWhile (S [c]).cps.contains).length)=_;rw[e1,FF];rw[dH];exact ae6 (by rw[aeV];lia)
theorem tw0{c:Nat}:∀{ds:Y1},c∉ds->ds.takeWhile ([c]:Y1).contains= []
 |[],_=>rfl
 |a::r,h=>by
  have:([c]:Y1).contains a=ajt:=by rw[aiP];intro z;have:=afa.mp z;rw[aeo]at this;exact h (by rw[this];simp)
  rw[afB,this];rfl
def zE(h:AllDigits ds):45∉ds:=fun z=>by have:=h 45 z;lia
def Pr(h:AllDigits ds):kD ds [45]=ds:=by rw[AA,tw0 (zE h)];rfl
def Pq(h:AllDigits ds):kD (45::ds) [45]=ds:=by have:([45]:Y1).contains 45=true:=rfl;rw[AA,afB,this,ajz rfl,tw0 (zE h)];rfl
def dv0(ds:Y1):digitsVal (48::ds)=digitsVal ds:=by unfold PySem.NumText.digitsVal;rw[agY]
def GY(h:AllDigits ds):tQ (48::ds.take 31)=some ((digitsVal (ds.take 31):Nat):Int):=by
 rw[jD (fun c hc=>by
  rcases aek.mp hc with rfl|hc
  .lia
  .exact h c (aeU hc)) (by simp) (by rw[aeh,ae5];lia),dv0]
def Hi(k:Nat)(b:Bool)(ds s:Y1)(h:AllDigits ds)(hs:s=if b=true then 45::ds else ds)(hz:ds.length<=16000000):F (k+1) .R4 [.str wN,.str s]=.ok (.int (if b=true then -((digitsVal (ds.take 31):Nat):Int)else((digitsVal (ds.take 31):Nat):Int))):=by
 have q1:=Rw (a:=wN) (b:=[110,117,109,98,101,114]) true
 have e1:kD s [45]=ds:=by
  rw[hs]
  cases b
  .exact Pr h
  .exact Pq h
 have sl:s.length<=16777216:=by rw[hs];cases b<;>simp<;>lia
 have dl:ds.length<=16777216:=by lia
 have lp:∀h,qw (.str s) [.str [45]] h=.ok (.str ds) h:=fun h=>by show(if s.length<=ajx then Res.ok (PV.str (kD s [45])) h else .bad)=_;rw[e1,ajz (by rw[szl];exact sl)]
 have ct:cut ds none (some (31:Int))=ds.take 31:=ng ds 31;have cs:cut s none (some (1:Int))=s.take 1:=ng s 1;have dt:AllDigits (ds.take 31):=fun c hc=>h c (aeU hc);have sm:1+(ds.take 31).length<=16777216:=by rw[ae5];lia
 have na:=GY h;have ln:(48::ds.take 31).length<=640:=by rw[aeh,ae5];lia
 have it:∀h,ui [.str (48::ds.take 31)] h=.ok (.int ((digitsVal (ds.take 31):Nat):Int)) h:=fun h=>by rw[Hw,na];dsimp only;rw[ajz ln]
 have eq:∀h,v9 (.str (s.take 1)) (.str [45]) h=.ok (.bl b) h:=fun hp=>by
  have lt:∀c∈s.take 1,c<1114112:=fun c hc=>by
   have:=aeU hc;rw[hs]at this
   cases b
   .have:=h c this;lia
   .rcases aek.mp this with rfl|q
    .decide
    .have:=h c q;lia
  rw[iQ _ _ _ lt ⋯]
  congr 2
  cases b
  .rw[hs,ajB ⋯];apply ajv;intro z;have:(45:Nat)∈ds.take 1:=by rw[z];simp
   exact zE h (aeU this)
  .rw[hs];rfl
 have m2:jO 2 (if b=true then 1 else 0)=true:=rV ⋯
 have m3:jO ((digitsVal (ds.take 31):Nat):Int) (1 - 2 * (if b=true then 1 else 0))=true:=by
  unfold jO
  cases b<;>simp[show VJ 18446744073709551616 1=true from by decide,show VJ 18446744073709551616 (-1)=true from by decide]
 have fv:((digitsVal (ds.take 31):Nat):Int) * (1 - 2 * (if b=true then 1 else 0))=if b=true then -((digitsVal (ds.take 31):Nat):Int)else((digitsVal (ds.take 31):Nat):Int):=by
  cases b
  .rw[ajB ⋯,ajB ⋯];lia
  .rw[ajz rfl,ajz rfl];lia
 have ib:∀h,oR [.bl b] h=.ok (.int (if b=true then 1 else 0)) h:=fun h=>by cases b<;>rfl
 have ad:∀h,aE (.str [48]) (.str (ds.take 31)) h=.ok (.str (48::ds.take 31)) h:=fun h=>by
  have:aE (.str [48]) (.str (ds.take 31)) h=if[48].length+(ds.take 31).length<=ajx then .ok (.str ([48]++ds.take 31)) h else .bad:=rfl
  rw[this,ajz (by rw[szl];exact sm)];rfl
 show ag (eO (F k)) 2 6 [.str wN,.str s]=_;simp[EV,bC,ag,eO,q1,lp,dl,sl,ct,cs,ad,it,eq,ib,m2,m3,fv,aP]
def jx(m:Nat)(raw b_:Y1):Y1->Y1
 |[]=>[]
 |[c]=>[c]
 |c::d::r=>if c=m then raw.getD ((aL [d] b_ 0).getD 0) 0::jx m raw b_ r else c::jx m raw b_ (d::r)
theorem sh{c:Nat}{r:Y1}(h:c≠m):jx m raw b_ (c::r)=c::jx m raw b_ r:=by
 cases r with
 |nil=>rfl
 |cons d r=>rw[jx,ajB h]
def rZ{r:Y1}:jx m raw b_ (m::d::r)=raw.getD ((aL [d] b_ 0).getD 0) 0::jx m raw b_ r:=by rw[jx,ajz rfl]
theorem rY:∀(s u:Y1),Ut m raw b_ s=some u->jx m raw b_ s=u
 |[],u,h=>by simp only[Ut,afm]at h;subst h;rfl
 |[c],u,h=>by
  by_cases q:m=c
  .subst q;simp[Ut]at h
  .have q:c≠m:=fun z=>q z.symm;rw[jX q]at h;simp only[Ut,agV,afm]at h;subst h;rfl
 |c::d::r,u,h=>by
  by_cases q:m=c
  .subst q;rw[ny]at h;rw[rZ]
   cases e:aL [d] b_ 0 with
   |none=>rw[e]at h;cases h
   |some p=>rw[e]at h;simp only[ae2]at h;obtain⟨u',h1,rfl⟩:=h;rw[rY r u' h1];rfl
  .have q:c≠m:=fun z=>q z.symm;rw[jX q]at h;simp only[ae2]at h;obtain⟨u',h1,rfl⟩:=h;rw[sh q,rY (d::r) u' h1]
theorem vW(h0:0<raw.length)(hr:b_.length<=raw.length):∀(s:Y1),(∀c∈jx m raw b_ s,c∈s\/c∈raw)/\(jx m raw b_ s).length<=s.length
 |[]=>⟨fun c h=>(nomatch h),aeB _⟩
 |[c]=>⟨fun x h=>.inl h,aeB _⟩
 |c::d::r=>by
  by_cases q:m=c
  .subst q;obtain⟨a,b⟩:=vW h0 hr r;rw[rZ];refine⟨fun x hx=>?_,by simp only[aeh];lia⟩;rcases aek.mp hx with rfl|hx
   .refine .inr (oq ?_)
    cases e:aL [d] b_ 0 with
    |none=>exact h0
    |some p=>exact afu (sJ e).1 hr
   .rcases a x hx with z|z
    .exact .inl (by simp[z])
    .exact .inr z
  .have q:c≠m:=fun z=>q z.symm;obtain⟨a,b⟩:=vW h0 hr (d::r);rw[sh q];refine⟨fun x hx=>?_,by simp only[aeh]at b |-;lia⟩;rcases aek.mp hx with rfl|hx
   .exact .inl (by simp)
   .rcases a x hx with z|z
    .exact .inl (aen _ z)
    .exact .inr z
theorem Jl(h:Y3):rM (.str [94,94,34,113,10,110]) (some 1) (.int 2) h=.ok (.str [94,113,110]) h:=rfl
theorem Jm(h:Y3):rM (.str [126,126,60,108,62,103,38,97,124,98,10,110]) (some 1) (.int 2) h=.ok (.str [126,108,103,97,98,110]) h:=rfl
theorem Jn(h:Y3):rM (.str [126,126,10,110]) (some 1) (.int 2) h=.ok (.str [126,110]) h:=rfl
def Ia{a:Ex}{lo:Ox}{st:Ex}{l:Zp}{y:PV}(ea:a ρ h=.ok p h)(el:lo ρ h=.ok l h)(es:st ρ h=.ok y h)(e:rM p l y h=.ok v h):yq a lo st ρ h=.ok v h:=by unfold yq;rw[ea];simp only[Res.K9];rw[el];simp only[Res.K9];rw[es];simp only[Res.K9];exact e
section
variable(C:Fn->Y2->Out)(w s0:PV)(inner told raw b_:Y1)(m:Nat)
abbrev mE(i:Nat)(acc:Y1):Ev:=[w,s0,PV.str told,PV.str inner,PV.str acc,PV.int (i:Int)]
abbrev mT:Tx:=au abo
theorem Hm(hz:inner.length<=16777216)(i:Nat)(acc:Y1):mT (mE w s0 inner told i acc) []=.ok (decide (i<inner.length)) []:=by simp[EV,mT,mE,hz,gX]
variable(hz:inner.length<=16000000)(hc:∀c∈inner,c<1114112)
include hz hc
theorem Hl(ht:told= [])(i:Nat)(acc:Y1)(hi:i<inner.length)(ha:acc.length<=16000000):bV C (mE w s0 inner told i acc) []=.nx (mE w s0 inner told (i+1) (acc++ [inner[i]])) []:=by
 have a:=eX hi;subst ht;have ne:∀h,Tv (.str []) (.str []) h=.ok (.bl ajt) h:=fun h=>by rw[gi _ _ _ (by simp) (by simp)];rfl
 have z1:inner.length<=16777216:=by lia
 have z2:acc.length+1<=16777216:=by lia
 simp[EV,bV,mE,ne,a,z1,z2];rfl
theorem Bq(ht:told= []):bo mT (bV C) (mE w s0 inner told 0 []) []=.nx (mE w s0 inner told inner.length inner) []:=by
 have r:=nN (t:=mT) (body:=bV C) (text:=inner) (p:=fun _=>true) (mk:=fun i=>mE w s0 inner told i (inner.take i)) (h:=[])
  (fun i hi=>by
   rw[Hm w s0 inner told ⋯]
   congr 1
   rcases aeR i inner.length with q|q
   .rw[aej q];exact ajw q
   .rw[aeE q];exact ajv ⋯)
  (fun i hi=>by rw[Hl C w s0 inner told hz hc ht i _ hi (by rw[ae5];lia),List.take_append_getElem hi]) 0 (aeL _)
 rw[afq,vq (fun _ _=>rfl),ag4,aiX,agB]at r;exact r
variable(hm:m<1114112)(t0:Sy told 0=some m)(tz:told.length<=100)(tn:told≠ [])(tl:∀c∈told,c<1114112)(tp:∀h,rM (.str told) (some 1) (.int 2) h=.ok (.str b_) h)(tr:∀p,(p=0\/p<b_.length)->Sy told (2 * (p:Int))=some (raw.getD p 0))(r0:raw.getD 0 0=m)(q63:aL [63] b_ 0=none)
include hm t0 tz tn tl
theorem Po(i:Nat)(acc:Y1)(hi:i<inner.length)(ha:acc.length<=16000000)(q:inner[i]≠m):bV C (mE w s0 inner told i acc) []=.nx (mE w s0 inner told (i+1) (acc++ [inner[i]])) []:=by
 have a:=eX hi;have ne:∀h,Tv (.str told) (.str []) h=.ok (.bl true) h:=fun h=>by rw[gi _ _ _ tl (by simp),ajv tn];rfl
 have z1:inner.length<=16777216:=by lia
 have z2:acc.length+1<=16777216:=by lia
 have z3:told.length<=16777216:=by lia
 have e:=fun h=>sg1 (hc _ (afh hi)) hm h;have d:decide (inner[i]=m)=ajt:=ajv q;simp only[d]at e;simp[EV,bV,mE,ne,a,t0,e,z1,z2,z3];rfl
include tp tr r0 q63
theorem MQ(i:Nat)(acc:Y1)(hi:i<inner.length)(ha:acc.length<=16000000)(q:inner[i]=m)(d:Nat)(hd:(inner++ [63])[i+1]? =some d):bV C (mE w s0 inner told i acc) []=.nx (mE w s0 inner told (i+2) (acc++ [raw.getD ((aL [d] b_ 0).getD 0) 0])) []:=by
 have a:=eX hi;have ne:∀h,Tv (.str told) (.str []) h=.ok (.bl true) h:=fun h=>by rw[gi _ _ _ tl (by simp),ajv tn];rfl
 have z1:inner.length<=16777216:=by lia
 have z2:acc.length+1<=16777216:=by lia
 have z3:told.length<=16777216:=by lia
 have z4:inner.length+1<=16777216:=by lia
 have e:=fun h=>sg1 (hc _ (afh hi)) hm h;have d1:decide (inner[i]=m)=true:=ajw q;simp only[d1]at e;have a2:Sy (inner++ [63]) ((i:Int)+1)=some d:=eQ ⋯ (by rw[show((i:Int)+1).toNat=i+1 by lia];exact hd);have fl:∀p,aL [d] b_ 0=some p->p<b_.length:=fun p e=>(sJ e).1
 obtain⟨p,pe,pl⟩:∃p,(aL [d] b_ 0).getD 0=p/\(p=0\/p<b_.length):=by
  cases f:aL [d] b_ 0 with
  |none=>exact⟨0,rfl,.inl rfl⟩
  |some p=>exact⟨p,rfl,.inr (fl p f)⟩
 have mx:(if gh (aL [d] b_ 0)>0 then gh (aL [d] b_ 0)else 0)=(p:Int):=by
  rw[<- pe]
  cases f:aL [d] b_ 0 with
  |none=>rfl
  |some p=>
   show(if((p:Nat):Int)>0 then((p:Nat):Int)else 0)=((p:Nat):Int)
   split<;>lia
 have pm:∀h,yW [.int 0,.int (gh (aL [d] b_ 0))] h=.ok (.int (p:Int)) h:=fun h=>by rw[Kr,mx]
 have a3:=tr p pl;have m2:jO 2 (p:Int)=true:=rV ⋯;have st:yq (ac 2) acA aal [w,s0,PV.str told,PV.str inner,PV.str acc,PV.int ((i:Int)+1)] []=.ok (.str b_) []:=Ia (p:=.str told) (l:=some 1) (y:=.int 2) rfl rfl rfl (tp []);rw[pe];have ln:(inner++ [63]).length<=16777216:=by rw[aei];simpa using z4
 simp[EV,bV,mE,ne,a,t0,e,z1,z2,z3,z4,a2,st,HN,pm,m2,a3,ln];rfl
theorem zq:∀(n i:Nat)(acc:Y1),inner.length - i<=n->acc.length+(inner.length - i)<=16000000->∃j,bo mT (bV C) (mE w s0 inner told i acc) []=.nx (mE w s0 inner told j (acc++jx m raw b_ (inner.drop i))) []:=by
 intro n
 induction n with
 |zero=>intro i acc hn ha;refine⟨i,?_⟩;rw[afz ⋯,jx,aep];refine gQ ?_;rw[Hm w s0 inner told ⋯,ajv ⋯]
 |succ n ih=>
  intro i acc hn ha;rcases aeR i inner.length with hl|hl
  .have e:mT (mE w s0 inner told i acc) []=.ok true []:=by rw[Hm w s0 inner told ⋯,ajw hl]
   have dr:inner.drop i=inner[i]::inner.drop (i+1):=aeZ hl
   by_cases q:inner[i]=m
   .rcases aeR (i+1) inner.length with h2|h2
    .have dr2:inner.drop (i+1)=inner[i+1]::inner.drop (i+2):=aeZ h2;have b:=MQ C w s0 inner told raw b_ m hz hc hm t0 tz tn tl tp tr r0 q63 i acc hl ⋯ q inner[i+1] (by rw[aez h2,aej h2]);obtain⟨j,w'⟩:=ih (i+2) (acc++ [raw.getD ((aL [inner[i+1]] b_ 0).getD 0) 0]) ⋯ (by rw[aei,aev];lia);refine⟨j,?_⟩;rw[dr,dr2,q,rZ];exact eI e b (by rw[w'];simp) nofun
    .have h3:i+1=inner.length:=by lia
     have b:=MQ C w s0 inner told raw b_ m hz hc hm t0 tz tn tl tp tr r0 q63 i acc hl ⋯ q 63 (by rw[aeD ⋯,h3,afR];rfl);obtain⟨j,w'⟩:=ih (i+2) (acc++ [raw.getD ((aL [63] b_ 0).getD 0) 0]) ⋯ (by rw[aei,aev];lia);refine⟨j,?_⟩;rw[afz ⋯,jx,aep,q63]at w';rw[q63]at b;rw[dr,afz ⋯,jx,q];have r0':raw.getD ((none:Option Nat).getD 0) 0=m:=r0;rw[r0']at b w';exact eI e b w' nofun
   .have b:=Po C w s0 inner told m hz hc hm t0 tz tn tl i acc hl ⋯ q;obtain⟨j,w'⟩:=ih (i+1) (acc++ [inner[i]]) ⋯ (by rw[aei,aev];lia);refine⟨j,?_⟩;rw[dr,sh q];exact eI e b (by rw[w'];simp) nofun
  .refine⟨i,?_⟩;rw[afz hl,jx,aep];refine gQ ?_;rw[Hm w s0 inner told ⋯,ajv ⋯]
end
def OV:∀p:Nat,(p=0\/p<([94,113,110]:Y1).length)->Sy ([94,94,34,113,10,110]:Y1) (2 * (p:Int))=some (([94,34,10]:Y1).getD p 0):=fun p hp=>by
 have:p<3:=by rcases hp with rfl|q;decide;exact q
 rcases(show p=0\/p=1\/p=2 by lia)with rfl|rfl|rfl<;>rfl
def OW:∀p:Nat,(p=0\/p<([126,108,103,97,98,110]:Y1).length)->Sy ([126,126,60,108,62,103,38,97,124,98,10,110]:Y1) (2 * (p:Int))=some (([126,60,62,38,124,10]:Y1).getD p 0):=fun p hp=>by
 have:p<6:=by rcases hp with rfl|q;decide;exact q
 rcases(show p=0\/p=1\/p=2\/p=3\/p=4\/p=5 by lia)with rfl|rfl|rfl|rfl|rfl|rfl<;>rfl
def OX:∀p:Nat,(p=0\/p<([126,110]:Y1).length)->Sy ([126,126,10,110]:Y1) (2 * (p:Int))=some (([126,10]:Y1).getD p 0):=fun p hp=>by
 have:p<2:=by rcases hp with rfl|q;decide;exact q
 rcases(show p=0\/p=1 by lia)with rfl|rfl<;>rfl
def Hu(k w:Nat)(hw:w<5)(h1:w≠1)(l:Y1)(hl:400<l.length)(hz:l.length<=16000000):F (k+1) .O4 [.str (ca w),.str l]=.ok .non:=by
 have q1:∀h,v9 (.str (ca w)) (.str [110,117,109,98,101,114]) h=.ok (.bl ajt) h:=by rcases(show w=0\/w=2\/w=3\/w=4 by lia)with rfl|rfl|rfl|rfl<;>exact Rw ajt
 have g4:decide ((l.length:Int)>400)=true:=ajw ⋯;have zl:l.length<=16777216:=by lia
 show ag (bF (F k)) 2 8 [.str (ca w),.str l]=_;simp[EV,ag,bF,q1,zl,g4,aP]
theorem AW(h:Y3):sw h Zu=true:=rfl
def qL(h:Y3):rP Zu [.str wW,.str []] h=.ok (.str []) h/\rP Zu [.str wQ,.str []] h=.ok (.str [94,94,34,113,10,110]) h/\rP Zu [.str wP,.str []] h=.ok (.str [126,126,60,108,62,103,38,97,124,98,10,110]) h/\rP Zu [.str wL,.str []] h=.ok (.str [126,126,10,110]) h:=⟨rfl,rfl,rfl,rfl⟩
def Hg(k:Nat)(s:Y1)(hc:sgn s)(hz:s.length<=16000000):F (k+1) .R4 [.str wW,.str s]=.ok (.str s):=by have q1:=Rw (a:=wW) (b:=[110,117,109,98,101,114]) ajt;have q2:=Rw (a:=wW) (b:=[113,117,111,116,101,100]) ajt;have lp:=Bq (F k) (.str wW) (.str s) s [] hz (fun c h=>dI c (hc c h)) rfl;have lp:bo adR (bV (F k)) [PV.str wW,PV.str s,PV.str [],PV.str s,PV.str [],PV.int 0] []=_:=lp;show ag (eO (F k)) 2 6 [.str wW,.str s]=_;simp[EV,ag,eO,q1,q2,nc,AW,(qL _).1,lp,aP]
def vX(k:Nat)(s inner:Y1)(hi:cut s (some 1) (some (-1))=inner)(hc:sgn inner)(hz:inner.length<=16000000)(hs:s.length<=16777216):F (k+1) .R4 [.str wQ,.str s]=.ok (.str (jx 94 [94,34,10] [94,113,110] inner)):=by have q1:=Rw (a:=wQ) (b:=[110,117,109,98,101,114]) ajt;have q2:=Rw (a:=wQ) (b:=[113,117,111,116,101,100]) true;obtain⟨j,lp⟩:=zq (F k) (.str wQ) (.str s) inner [94,94,34,113,10,110] [94,34,10] [94,113,110] 94 hz (fun c h=>dI c (hc c h)) ⋯ rfl ⋯ ⋯ ⋯ Jl OV rfl rfl inner.length 0 [] ⋯ (by simp;lia);rw[afq,aeN]at lp;have lp:bo adR (bV (F k)) [PV.str wQ,PV.str s,PV.str [94,94,34,113,10,110],PV.str inner,PV.str [],PV.int 0] []=_:=lp;show ag (eO (F k)) 2 6 [.str wQ,.str s]=_;simp[EV,bC,ag,eO,q1,q2,nc,AW,(qL _).2.1,hi,hs,lp,aP]
def Hh(k:Nat)(s:Y1)(hc:sgn s)(hz:s.length<=16000000):F (k+1) .R4 [.str wP,.str s]=.ok (.str (jx 126 [126,60,62,38,124,10] [126,108,103,97,98,110] s)):=by have q1:=Rw (a:=wP) (b:=[110,117,109,98,101,114]) ajt;have q2:=Rw (a:=wP) (b:=[113,117,111,116,101,100]) ajt;obtain⟨j,lp⟩:=zq (F k) (.str wP) (.str s) s [126,126,60,108,62,103,38,97,124,98,10,110] [126,60,62,38,124,10] [126,108,103,97,98,110] 126 hz (fun c h=>dI c (hc c h)) ⋯ rfl ⋯ ⋯ ⋯ Jm OW rfl rfl s.length 0 [] ⋯ (by simp;lia);rw[afq,aeN]at lp;have lp:bo adR (bV (F k)) [PV.str wP,PV.str s,PV.str [126,126,60,108,62,103,38,97,124,98,10,110],PV.str s,PV.str [],PV.int 0] []=_:=lp;show ag (eO (F k)) 2 6 [.str wP,.str s]=_;simp[EV,ag,eO,q1,q2,nc,AW,(qL _).2.2.1,lp,aP]
def Hj(k:Nat)(s:Y1)(hc:sgn s)(hz:s.length<=16000000):F (k+1) .R4 [.str wL,.str s]=.ok (.str (jx 126 [126,10] [126,110] s)):=by have q1:=Rw (a:=wL) (b:=[110,117,109,98,101,114]) ajt;have q2:=Rw (a:=wL) (b:=[113,117,111,116,101,100]) ajt;obtain⟨j,lp⟩:=zq (F k) (.str wL) (.str s) s [126,126,10,110] [126,10] [126,110] 126 hz (fun c h=>dI c (hc c h)) ⋯ rfl ⋯ ⋯ ⋯ Jn OX rfl rfl s.length 0 [] ⋯ (by simp;lia);rw[afq,aeN]at lp;have lp:bo adR (bV (F k)) [PV.str wL,PV.str s,PV.str [126,126,10,110],PV.str s,PV.str [],PV.int 0] []=_:=lp;show ag (eO (F k)) 2 6 [.str wL,.str s]=_;simp[EV,ag,eO,q1,q2,nc,AW,(qL _).2.2.2,lp,aP]
def Mt(w:Nat)(x:PV):Prop:=(w≠1/\∃l,x=.str l/\l.length<=16000000/\sgn l)\/(w=1/\∃j,x=.int j)
def Eh{w:Nat}(h1:w≠1){s:Y1}(hs:sgn s)(hr:∀c∈raw,c∈aI)(h0:0<raw.length)(hl:b_.length<=raw.length)(hz:s.length<=16000000):Mt w (.str (jx m raw b_ s)):=by obtain⟨a,b⟩:=vW (m:=m) h0 hl s;exact .inl ⟨h1,_,rfl,by lia,fun c hc=>(a c hc).elim (hs c) (hr c)⟩
def Cj(k w:Nat)(hw:w<5)(t:Y1)(ht:sgn t)(i:Nat)(hi:i<=t.length)(hz:t.length<=16000000):∃x,F (k+1) .R4 [.str (ca w),.str (T4 w t i)]=.ok x/\Mt w x/\∀v,Cd w v (T4 w t i)->x=v:=by
 have sl:=Ai w t i;have sg:=vy (w:=w) (i:=i) ht;rcases(show w=0\/w=1\/w=2\/w=3\/w=4 by lia)with rfl|rfl|rfl|rfl|rfl
 .refine⟨_,Hg k _ sg ⋯,.inl ⟨by decide,_,rfl,by lia,sg⟩,fun v c=>?_⟩;rcases jo hw c with⟨_,e⟩|⟨z,_⟩|⟨z,_⟩
  .exact e.symm
  .cases z
  .lia
 .obtain⟨b,ds,ad,e,dl⟩:∃(b:Bool)(ds:Y1),PySem.NumText.AllDigits ds/\T4 1 t i=(if b=true then 45::ds else ds)/\ds.length<=t.length:=by
   unfold T4;rw[xr]
   by_cases p:t[i]? =some 45
   .rw[ajz p];have hl:=lP p;refine⟨true,(t.drop (i+1)).takeWhile dGT,qH fun c h=>afa.mp (lw h).2,?_,zY ..⟩;rw[ajz rfl,show i+1+((t.drop (i+1)).takeWhile dGT).length - i=((t.drop (i+1)).takeWhile dGT).length+1 from by lia,aeZ hl,af2,qp];rw[aej hl]at p;rw[aeW p]
   .rw[ajB p,CR];exact⟨ajt,_,qH fun c h=>afa.mp (lw h).2,rfl,zY ..⟩
  refine⟨_,Hi k b ds _ ad e ⋯,.inr ⟨rfl,_,rfl⟩,fun v c=>?_⟩;rcases jo hw c with⟨z,_⟩|⟨_,j,rfl,j1,j2,e2⟩|⟨z,_⟩
  .cases z
  .obtain⟨a1,a2,a3,a4⟩:=str_int j1 j2;rw[<- e2,e]at a1 a2 a3 a4
   cases b
   .rw[ajB ⋯]at a1 a2 a4 |-;rw[ajB ⋯]at a3;rw[ae6 a4];rw[jD ad a2 ⋯]at a1;rw[aeW a1]
   .rw[ajz rfl]at a1 a2 a3 a4 |-;rw[aeh]at a4;rw[ae6 ⋯];rw[sx ad (fun z=>a3 (by rw[z])) ⋯]at a1;rw[aeW a1]
  .lia
 .by_cases q:YJ t i
  .have e:=Io hi q;have ln:((t.drop (i+1)).takeWhile (· !=34)).length<=t.length:=zY t (i+1) _;have sg2:sgn ((t.drop (i+1)).takeWhile (· !=34)):=fun c h=>ht c (afc (lw h).1);refine⟨_,vX k _ _ (by rw[e];exact IV _) sg2 ⋯ ⋯,Eh ⋯ sg2 (by decide+kernel) ⋯ ⋯ ⋯,fun v c=>?_⟩;rcases jo hw c with⟨z,_⟩|⟨z,_⟩|⟨_,l,rfl,_,_,e2⟩
   .cases z
   .cases z
   .rw[e]at e2
    have:(t.drop (i+1)).takeWhile (· !=34)=ig [94] [94,34,10] [94,113,110] l:=by have e2:34::((t.drop (i+1)).takeWhile (· !=34)++[34])=34::(ig [94] [94,34,10] [94,113,110] l++ [34]):=e2;simpa using e2
    rw[this,rY _ _ (lh Mb l)]
  .have e:T4 2 t i= []:=by unfold T4;rw[tZ,ajB q,afR,agB]
   rw[e];refine⟨_,vX k [] [] rfl (fun c h=>(nomatch h)) (by simp) (by simp),.inl ⟨by decide,[],rfl,by simp,fun c h=>(nomatch h)⟩,fun v c=>?_⟩;rcases jo hw c with⟨z,_⟩|⟨z,_⟩|⟨_,l,_,_,_,e2⟩
   .cases z
   .cases z
   .cases e2
 .refine⟨_,Hh k _ sg ⋯,Eh ⋯ sg (by decide+kernel) ⋯ ⋯ ⋯,fun v c=>?_⟩;rcases jo hw c with⟨z,_⟩|⟨z,_⟩|⟨_,l,rfl,_,_,e2⟩
  .cases z
  .cases z
  .rw[e2];show PV.str (jx 126 _ _ (ig [126] [126,60,62,38,124,10] [126,108,103,97,98,110] l))=_;rw[rY _ _ (lh Mc l)]
 .refine⟨_,Hj k _ sg ⋯,Eh ⋯ sg (by decide+kernel) ⋯ ⋯ ⋯,fun v c=>?_⟩;rcases jo hw c with⟨z,_⟩|⟨z,_⟩|⟨_,l,rfl,_,_,e2⟩
  .cases z
  .cases z
  .rw[e2];show PV.str (jx 126 _ _ (ig [126] [126,10] [126,110] l))=_;rw[rY _ _ (lh Md l)]
def Ed{s:Y1}(hs:∀c∈s,c<1114112)(h:Y3):Tv .non (.str s) h=.ok (.bl true) h:=by
 have ok:Vx h (.str s)=true:=by unfold Vx Vr;simp only[toD,ajH,ajO];simp[akB,S];exact hs
 unfold Tv;rw[ajz ⟨rfl,ok⟩];rfl
def Cw(k w:Nat)(hw:w<5){x:PV}(mx:Mt w x){s:Y1}(hs:∀c∈s,c<1114112):∃y,F (k+1) .O4 [.str (ca w),x]=.ok y/\y.pure=true/\∃b,(∀h,Tv y (.str s) h=.ok (.bl b) h)/\(b=ajt->Cd w x s)/\(b=true->¬ Cd w x s):=by
 have gen:VV 0 x->∃y,F (k+1) .O4 [.str (ca w),x]=.ok y/\y.pure=true/\∃b,(∀h,Tv y (.str s) h=.ok (.bl b) h)/\(b=ajt->Cd w x s)/\(b=true->¬ Cd w x s):=fun vv=>by
  refine⟨_,O4 k w hw vv,?_,?_⟩
  .cases UL w x<;>rfl
  .cases e:UL w x with
   |none=>exact⟨true,fun h=>Ed hs h,fun z=>by(cases z),fun _ c=>by rw[c.2]at e;cases e⟩
   |some a=>
    have la:∀c∈a,c<1114112:=fun c hc=>dI c (((fQ e).2 rfl).2.2 c hc)
    by_cases q:a=s
    .subst q;exact⟨ajt,fun h=>by rw[mF,gi _ _ _ la la,ajw rfl];rfl,fun _=>⟨vv,e⟩,fun z=>by cases z⟩
    .exact⟨true,fun h=>by rw[mF,gi _ _ _ la hs,ajv q];rfl,fun z=>by(cases z),fun _ c=>by rw[c.2]at e;exact q (aeW e).symm⟩
 rcases mx with⟨h1,l,rfl,hl,hc⟩|⟨rfl,j,rfl⟩
 .by_cases q:l.length<=400
  .exact gen (.str 0 l q hc)
  .refine⟨.non,Hu k w hw h1 l ⋯ hl,rfl,true,fun h=>Ed hs h,fun z=>by(cases z),fun _ c=>?_⟩;have:=c.1
   cases this with
   |str _ _ z _=>lia
 .exact gen (.int 0 j)
noncomputable def dS(a:Int)(n:PV):PO:=.dct [(.inr [97,116],.int a),(.inr [110,111],n)]
section
variable(a b p:Int)(n:PV)(T:Y3)(ρ:Ev)
theorem dsA:j5 (.ref 0) (.str [97,116]) (dS a n::T)=.ok (.int a) (dS a n::T):=rfl
theorem Qm:j5 (.ref 0) (.str [110,111]) (dS a .non::T)=.ok .non (dS a .non::T):=rfl
theorem Ql:j5 (.ref 0) (.str [110,111]) (dS a (.int p)::T)=.ok (.int p) (dS a (.int p)::T):=rfl
theorem stA:rj (.int b) (.ref 0) (.str [97,116]) ρ (dS a n::T)=.nx ρ (dS b n::T):=rfl
theorem stN:rj (.int p) (.ref 0) (.str [110,111]) ρ (dS a .non::T)=.nx ρ (dS a (.int p)::T):=rfl
theorem dsD:aA (dS a n::T) (.ref 0)=.ref 0:=rfl
end
theorem AN(ht:sgn t)(i c:Nat)(hc:c<1114112)(h:Y3):v9 (.str ((t.drop i).take 1)) (.str [c]) h=.ok (.bl (decide (t[i]? =some c))) h:=by
 rw[iQ _ _ _ (fun x hx=>dI x (ht x (afc (aeU hx)))) (by simpa using hc),CN]
 congr 2
 cases e:t[i]? with
 |none=>simp
 |some a=>simp
def yk(t:Y1)(i:Nat):cut t (some (i:Int)) (some ((i:Int)+1))=(t.drop i).take 1:=by have:=oy t i (i+1);rw[ahB]at this;exact this
noncomputable abbrev pW(k:Nat):Sx:=bo (cg ad9 (cg ad8 (aU (aJ (F k .Rz) ac2)))) (ii (F k))
def vO(k w:Nat)(hw:w=0\/w=1\/w=3\/w=4)(t:Y1)(ht:sgn t)(hz:t.length<=16000000)(x3:Option PV)(H:Y3)(j:Nat)(hj:j<=t.length)(d0:aA H (.ref 0)=.ref 0):pW (k+1) [PV.str (ca w),PV.str t,PV.ref 0,x3,PV.int (j:Nat),none] H=.nx [PV.str (ca w),PV.str t,PV.ref 0,x3,PV.int ((j+((t.drop j).takeWhile (gO w)).length:Nat):Int),none] H:=by
 have q:∀h,Tv (.str (ca w)) (.str [113,117,111,116,101,100]) h=.ok (.bl true) h:=fun h=>by rcases hw with rfl|rfl|rfl|rfl<;>(rw[gi _ _ _ ⋯ ⋯];rfl)
 have z1:t.length<=16777216:=by lia
 exact nN (text:=t) (p:=gO w) (mk:=fun j=> [PV.str (ca w),PV.str t,PV.ref 0,x3,PV.int (j:Nat),none]) (h:=H)
  (fun i hi=>by
   rcases aeR i t.length with hl|hl
   .have a:=eX hl;have l:decide (i<t.length)=true:=ajw hl;have g:∀h,aR (F (k+1) .Rz) [.str (ca w),.str [t[i]]] h=.ok (.bl (gO w t[i])) h:=fun h=>aH h rfl (AJ k w hw _ (ht _ (afh hl)));simp[EV,q,z1,a,gX,l,g,aej hl]
   .have l:decide (i<t.length)=ajt:=ajv ⋯;simp[EV,q,z1,gX,l,aeE hl])
  (fun i hi=>by simp[EV,ii];rfl) j hj
noncomputable abbrev pT(k:Nat):Sx:=(aw (aG 5 (aJ (F k .R4) ad_))
  (aw (H6 (jY (cg acV abn) (au (c2 Tv (aJ (F k .O4) (aa (ac 0) abw)) abE))) aec bh)
  (aw aed
  (aQ (ac 5)))))
def PR(w:Nat)(t:Y1)(i:Nat)(x:PV)(o:PO):Prop:=match WK w t i with
 |some (v,e)=>x=v/\o=dS e .non
 |none=>∃e:Int,o=dS e (.int i)
def Ms(t:Y1)(i:Nat)(q:¬ YJ t i):WK 2 t i=none:=jf fun v c=>by
 have e:T4 2 t i= []:=by unfold T4;rw[tZ,ajB q,afR,agB]
 rw[e]at c;rcases jo ⋯ c with⟨z,_⟩|⟨z,_⟩|⟨_,l,_,_,_,e2⟩
 .cases z
 .cases z
 .cases e2
def Hd{w:Nat}{x:PV}(h:Mt w x):x.pure=true:=by rcases h with⟨_,l,rfl,_,_⟩|⟨_,j,rfl⟩<;>rfl
theorem As(k w:Nat)(hw:w<5)(t:Y1)(ht:sgn t)(hz:t.length<=16000000)(i:Nat)(hi:i<=t.length)(h2:w=2->YJ t i):∃x o,x.pure=true/\PR w t i x o/\pT (k+1) [PV.str (ca w),PV.str t,PV.ref 0,PV.int (i:Nat),PV.int ((Wm w t i:Nat):Int),none] [dS i .non]=.rt x [o]:=by
 obtain⟨x,me,mt,uq⟩:=Cj k w hw t ht i hi hz;have lt:∀c∈T4 w t i,c<1114112:=fun c h=>dI c (vy ht c h);obtain⟨y,ce,yp,b,ne,c1,c2⟩:=Cw k w hw mt lt;have xp:=Hd mt;have ct:cut t (some (i:Int)) (some ((Wm w t i:Nat):Int))=T4 w t i:=ww t i _ hi;have me:∀h,aR (F (k+1) .R4) [.str (ca w),.str (T4 w t i)] h=.ok x h:=fun h=>aH h rfl me;have ce:∀h,aR (F (k+1) .O4) [.str (ca w),x] h=.ok y h:=fun h=>aH h (by simp only[ai,xp];rfl) ce;have z1:t.length<=16777216:=by lia
 obtain⟨bq,eq,hb⟩:∃bq,(∀h,v9 (.str (ca w)) (.str [113,117,111,116,101,100]) h=.ok (.bl bq) h)/\(bq=true->w=2):=by
  rcases(show w=0\/w=1\/w=2\/w=3\/w=4 by lia)with rfl|rfl|rfl|rfl|rfl
  .exact⟨ajt,Rw ajt,fun z=>by cases z⟩
  .exact⟨ajt,Rw ajt,fun z=>by cases z⟩
  .exact⟨true,Rw true,fun _=>rfl⟩
  .exact⟨ajt,Rw ajt,fun z=>by cases z⟩
  .exact⟨ajt,Rw ajt,fun z=>by cases z⟩
 have e0:bq=true->decide (((Wm w t i:Nat):Int)=0)=ajt:=fun z=>by have:=hb z;subst this;rw[tZ,ajz (h2 rfl)];exact ajv ⋯
 have d0:=dsD;have ez:=fun h=>db ((Wm w t i:Nat):Int) 0 h
 cases b with
 |false=>
  have R:WK w t i=some (x,Wm w t i):=xI (c1 rfl) uq;refine⟨x,dS (Wm w t i:Nat) .non,xp,by unfold PR;rw[R];exact⟨rfl,rfl⟩,?_⟩
  cases z:decide (((Wm w t i:Nat):Int)=0)with
  |false=>simp only[z]at ez;simp[EV,bC,pT,z1,ct,me,ce,ne,ez,ar _ xp,ar _ yp,d0,stA,stN]
  |true=>
   cases bq with
   |true=>rw[e0 rfl]at z;cases z
   |false=>simp only[z]at ez;simp[EV,bC,pT,z1,ct,me,ce,ne,ez,eq,ar _ xp,ar _ yp,d0,stA,stN]
 |true=>
  have R:WK w t i=none:=jf fun v c=>by have:=uq v c;subst this;exact c2 rfl c
  refine⟨x,dS (Wm w t i:Nat) (.int i),xp,by unfold PR;rw[R];exact⟨_,rfl⟩,?_⟩
  cases z:decide (((Wm w t i:Nat):Int)=0)with
  |false=>simp only[z]at ez;simp[EV,bC,pT,z1,ct,me,ce,ne,ez,ar _ xp,ar _ yp,d0,stA,stN]
  |true=>
   cases bq with
   |true=>rw[e0 rfl]at z;cases z
   |false=>simp only[z]at ez;simp[EV,bC,pT,z1,ct,me,ce,ne,ez,eq,ar _ xp,ar _ yp,d0,stA,stN]
def GL{w:Nat}{x:PV}(h:PR w t i x o):o.pure=true:=by
 unfold PR at h
 split at h
 .rw[h.2];rfl
 .obtain⟨e,rfl⟩:=h;rfl
def Nu(w:Nat)(hw:w=0\/w=3\/w=4)(t:Y1)(i:Nat):i+((t.drop i).takeWhile (gO w)).length=Wm w t i:=by rcases hw with rfl|rfl|rfl<;>rfl
def EP{x:PV}(xp:x.pure=true)(op:o.pure=true):kJ 1 x [o]=.ok x [o]:=by
 have e:(dJ [o]&&ajW 1 1)=true:=by simp[dJ,op]
 unfold kJ;rw[iL _ xp];show(if(dJ [o]&&ajW 1 1)=true then Res.ok x [o]else .bad)=_;rw[ajz e]
def rL(k w:Nat)(hw:w<5)(t:Y1)(ht:sgn t)(hz:t.length<=16000000)(i:Nat)(hi:i<=t.length):∃x o,x.pure=true/\PR w t i x o/\L (k+2) .s6 [.str (ca w),.str t,.ref 0] [dS i .non]=.ok x [o]:=by
 have run:∀{x:PV}{o:PO},x.pure=true->PR w t i x o->eM (F (k+1)) [PV.str (ca w),PV.str t,PV.ref 0,none,none,none] [dS i .non]=.rt x [o]->∃x o,x.pure=true/\PR w t i x o/\L (k+2) .s6 [.str (ca w),.str t,.ref 0] [dS i .non]=.ok x [o]:=fun{x o} xp pr e=>⟨x,o,xp,pr,by show fO (eM (F (k+1))) 3 6 [.str (ca w),.str t,.ref 0] [dS i .non]=_;exact gB rfl e (EP xp (GL pr))⟩
 have z1:t.length<=16777216:=by lia
 have d0:=dsD;have ia:=dsA;have c1:=yk t i
 have s1:aG 3 aaI [PV.str (ca w),PV.str t,PV.ref 0,none,none,none] [dS i .non]=.nx [PV.str (ca w),PV.str t,PV.ref 0,PV.int (i:Nat),none,none] [dS i .non]:=by simp[EV,d0,ia]
 have s2:aG 4 (ac 3) [PV.str (ca w),PV.str t,PV.ref 0,PV.int (i:Nat),none,none] [dS i .non]=.nx [PV.str (ca w),PV.str t,PV.ref 0,PV.int (i:Nat),PV.int (i:Nat),none] [dS i .non]:=by simp[EV,ajA]
 by_cases h2:w=2
 .subst h2;have q1:=Rw (a:=wQ) (b:=[113,117,111,116,101,100]) true;have Y4:=fun h=>AN ht i 34 ⋯ h;have f3:oW t [34] ((i:Int)+1)=gh (aL [34] t (i+1)):=uJ t [34] (i+1);have nq:∀h,Tv (.str wQ) (.str [113,117,111,116,101,100]) h=.ok (.bl ajt) h:=fun h=>by rw[gi _ _ _ ⋯ ⋯];rfl
  have lp:∀e:Int,pW (k+1) [PV.str wQ,PV.str t,PV.ref 0,PV.int (i:Nat),PV.int e,none] [dS i .non]=.nx [PV.str wQ,PV.str t,PV.ref 0,PV.int (i:Nat),PV.int e,none] [dS i .non]:=fun e=>gQ (by simp[EV,nq])
  by_cases q:YJ t i
  .have d1:decide (t[i]? =some 34)=true:=ajw q.1;have f:=jF q.2
   have ef:gh (some (i+1+((t.drop (i+1)).takeWhile (· !=34)).length))+1=((Wm 2 t i:Nat):Int):=by rw[tZ,ajz q];rfl
   simp only[d1]at Y4;obtain⟨x,o,xp,pr,te⟩:=As k 2 ⋯ t ht hz i hi fun _=>q;refine run xp pr ?_
   have s3:H6 abn aax aav [PV.str wQ,PV.str t,PV.ref 0,PV.int (i:Nat),PV.int (i:Nat),none] [dS i .non]=.nx [PV.str wQ,PV.str t,PV.ref 0,PV.int (i:Nat),PV.int ((Wm 2 t i:Nat):Int),none] [dS i .non]:=by simp[EV,bC,dq,q1,z1,c1,Y4,f3,f,ef]
   unfold eM;exact(sq s1).trans ((sq s2).trans ((sq s3).trans ((sq (lp _)).trans te)))
  .have R:=Ms t i q
   have s3:H6 abn aax aav [PV.str wQ,PV.str t,PV.ref 0,PV.int (i:Nat),PV.int (i:Nat),none] [dS i .non]=.nx [PV.str wQ,PV.str t,PV.ref 0,PV.int (i:Nat),PV.int 0,none] [dS i .non]:=by
    by_cases h1:t[i]? =some 34
    .have d1:decide (t[i]? =some 34)=true:=ajw h1;have f:=jG (fun z=>q ⟨h1,z⟩:(34:Nat)∉t.drop (i+1));have ef:gh none+1=0:=rfl;simp only[d1]at Y4;simp[EV,bC,dq,q1,z1,c1,Y4,f3,f,ef]
    .have d1:decide (t[i]? =some 34)=ajt:=ajv h1;simp only[d1]at Y4;simp[EV,bC,dq,q1,z1,c1,Y4]
   have c0:cut t (some (i:Int)) (some (0:Int))=[]:=by have:=oy t i 0;rw[Nat.zero_sub,agB]at this;exact this
   have me:∀h,aR (F (k+1) .R4) [.str wQ,.str []] h=.ok (.str []) h:=fun h=>aH h rfl (vX k [] [] rfl (fun c h=>(nomatch h)) (by simp) (by simp));have ez:∀h,v9 (.int 0) (.int 0) h=.ok (.bl true) h:=fun h=>rfl;have st:=stN;have sa:=stA;refine run (x:=.str []) (o:=dS 0 (.int i)) rfl (by unfold PR;rw[R];exact⟨0,rfl⟩) ?_;unfold eM;refine(sq s1).trans ((sq s2).trans ((sq s3).trans ((sq (lp _)).trans ?_)));simp[EV,bC,z1,c0,me,ez,q1,d0,st,sa]
 .have q1:∀h,v9 (.str (ca w)) (.str [113,117,111,116,101,100]) h=.ok (.bl ajt) h:=by rcases(show w=0\/w=1\/w=3\/w=4 by lia)with rfl|rfl|rfl|rfl<;>exact Rw ajt
  obtain⟨x,o,xp,pr,te⟩:=As k w hw t ht hz i hi fun z=>absurd z h2;refine run xp pr ?_;unfold eM
  by_cases h1:w=1
  .subst h1;have q2:=Rw (a:=wN) (b:=[110,117,109,98,101,114]) true;have e45:=fun h=>AN ht i 45 ⋯ h
   by_cases q:t[i]? =some 45
   .have d1:decide (t[i]? =some 45)=true:=ajw q;simp only[d1]at e45;have lp:=vO k 1 ⋯ t ht hz (some (.int i)) [dS i .non] (i+1) (lP q) (dsD ..);have es:i+1+((t.drop (i+1)).takeWhile (gO 1)).length=Wm 1 t i:=by rw[xr,ajz q];rfl
    rw[es]at lp;refine(sq s1).trans ((sq s2).trans ((sq ?_).trans ((sq lp).trans te)));have q1:=Rw (a:=wN) (b:=[113,117,111,116,101,100]) ajt;show _=SR.nx [PV.str wN,PV.str t,PV.ref 0,PV.int (i:Nat),PV.int ((i:Int)+1),none] [dS i .non];simp[EV,bC,ca,q1,q2,z1,c1,e45]
   .have d1:decide (t[i]? =some 45)=ajt:=ajv q;simp only[d1]at e45;have lp:=vO k 1 ⋯ t ht hz (some (.int i)) [dS i .non] i hi (dsD ..);have es:i+((t.drop i).takeWhile (gO 1)).length=Wm 1 t i:=by rw[xr,ajB q];rfl
    rw[es]at lp;refine(sq s1).trans ((sq s2).trans ((sq ?_).trans ((sq lp).trans te)));have q1:=Rw (a:=wN) (b:=[113,117,111,116,101,100]) ajt;simp[EV,bC,ca,q1,q2,z1,c1,e45]
  .have q2:∀h,v9 (.str (ca w)) (.str [110,117,109,98,101,114]) h=.ok (.bl ajt) h:=by rcases(show w=0\/w=3\/w=4 by lia)with rfl|rfl|rfl<;>exact Rw ajt
   have lp:=vO k w ⋯ t ht hz (some (.int i)) [dS i .non] i hi (dsD ..);rw[Nu w ⋯]at lp;refine(sq s1).trans ((sq s2).trans ((sq ?_).trans ((sq lp).trans te)));simp[EV,q1,q2]
noncomputable def Xi(t:Y1):Y1->Nat->Except Nat Nat
 |[],i=>.ok i
 |c::r,i=>if t[i]? =some c then Xi t r (i+1)else .error i
noncomputable def J0:List Nd->Nat
 |.text (c::_)::_=>c
 |_=>0
noncomputable def Ys(c:Nat):Y1->Nat
 |[]=>c
 |b::_=>b
def YD(step:Nat->Except Nat (List Fl×Nat))(t b:Y1)(cb:Nat):Nat->Nat->Except Nat (List (List Fl)×Nat)
 |0,j=>.ok ([],j)
 |f+1,j=>if t[j]? =some cb then(match Xi t b j with
   |.error p=>.error p
   |.ok j1=>match step j1 with
    |.error p=>.error p
    |.ok (vs,j2)=>match YD step t b cb f j2 with
     |.error p=>.error p
     |.ok (ws,l)=>.ok (vs::ws,l))
  else .ok ([],j)
mutual
noncomputable def VH(t:Y1):Nd->List Nd->Nat->Except Nat (List Fl×Nat)
 |.text s,_,i=>match Xi t s i with
  |.ok j=>.ok ([],j)
  |.error p=>.error p
 |.place _ _ w,_,i=>match WK w t i with
  |some (v,e)=>.ok ([.sc v],e)
  |none=>.error i
 |.loop _ _ _ ns b,_,i=>if t[i]? =some (J0 ns)then(match bX t ns i with
   |.error p=>.error p
   |.ok (vs,j)=>match YD (fun x=>bX t ns x) t b (Ys (J0 ns) b) (t.length+1) j with
    |.error p=>.error p
    |.ok (ws,l)=>.ok ([.lst ((vs::ws).map Fl.lst)],l))
  else .ok ([.lst []],i)
 |.choice _ _ y n,r,i=>if t[i]? =some (J0 (y++r))then(match bX t y i with
   |.error p=>.error p
   |.ok (vs,j)=>.ok ([.tup true vs],j))
  else if t[i]? =some (J0 (n++r))then(match bX t n i with
   |.error p=>.error p
   |.ok (vs,j)=>.ok ([.tup ajt vs],j))
  else .error i
noncomputable def bX(t:Y1):List Nd->Nat->Except Nat (List Fl×Nat)
 |[],i=>.ok ([],i)
 |n::r,i=>match VH t n r i with
  |.error p=>.error p
  |.ok (vs,j)=>match bX t r j with
   |.error p=>.error p
   |.ok (us,l)=>.ok (vs++us,l)
end
theorem mQ{t:Y1}:∀{s:Y1}{i j:Nat},Xi t s i=.ok j->i<=t.length->j=i+s.length/\j<=t.length
 |[],i,j,h,hi=>by
  rw[Xi]at h
  cases h
  exact⟨rfl,hi⟩
 |c::r,i,j,h,hi=>by
  rw[Xi]at h
  split at h
  .rename_i q;obtain⟨a,b⟩:=mQ h (lP q);exact⟨by rw[a,aeh];lia,b⟩
  .cases h
theorem xj(k:Nat)(t:Y1)(ht:sgn t)(hz:t.length<=16000000)(x0:Option PV):∀(s:Y1)(i:Nat)(x3:Option PV),sgn s->i<=t.length->match Xi t s i with
  |.ok j=>∃y3,bc (P0 3) (cG (F k)) (s.map fun c=>PV.str [c]) [x0,PV.str t,PV.ref 0,x3] [dS i .non]=.nx [x0,PV.str t,PV.ref 0,y3] [dS j .non]
  |.error p=>bc (P0 3) (cG (F k)) (s.map fun c=>PV.str [c]) [x0,PV.str t,PV.ref 0,x3] [dS i .non]=.rt .non [dS p (.int p)]
 |[],i,x3,_,_=>⟨x3,rfl⟩
 |c::r,i,x3,hs,hi=>by
  have z1:t.length<=16777216:=by lia
  have d0:=dsD;have ia:=dsA;have sa:=stA;have st:=stN;have c1:=yk t i
  have ne:∀h,Tv (.str ((t.drop i).take 1)) (.str [c]) h=.ok (.bl (!decide (t[i]? =some c))) h:=fun h=>by
   rw[gi _ _ _ (fun x hx=>dI x (ht x (afc (aeU hx)))) (by simpa using dI c (hs c (by simp))),CN]
   congr 3
   cases e:t[i]? with
   |none=>simp
   |some a=>simp
  rw[aeA,Xi]
  by_cases q:t[i]? =some c
  .rw[ajz q];have d1:decide (t[i]? =some c)=true:=ajw q;simp only[d1]at ne;have ih:=xj k t ht hz x0 r (i+1) (some (.str [c])) (fun x hx=>hs x (by simp[hx])) (lP q)
   have step:cG (F k) [x0,PV.str t,PV.ref 0,PV.str [c]] [dS i .non]=.nx [x0,PV.str t,PV.ref 0,PV.str [c]] [dS ((i+1:Nat):Int) .non]:=by simp[EV,bC,cG,d0,ia,z1,c1,ne,sa,ajn];rfl
   split at ih
   .rename_i j e;obtain⟨y3,g⟩:=ih;exact⟨y3,(cC rfl step).trans g⟩
   .rename_i p e;exact(cC rfl step).trans ih
  .rw[ajB q];have d1:decide (t[i]? =some c)=ajt:=ajv q;simp only[d1]at ne
   have step:cG (F k) [x0,PV.str t,PV.ref 0,PV.str [c]] [dS i .non]=.rt .non [dS i (.int i)]:=by simp[EV,bC,cG,Dd,d0,ia,z1,c1,ne,st,ajg]
   dsimp only
   show(match cG (F k) [x0,PV.str t,PV.ref 0,PV.str [c]] [dS i .non]with
    |.nx ρ2 h2=>bc _ _ _ ρ2 h2|.ct ρ2 h2=>bc _ _ _ ρ2 h2|.bk ρ2 h2=>.nx ρ2 h2|.rt v h2=>.rt v h2|.exc v h2=>.exc v h2|.bad=>.bad)=_
   rw[step]
def vr(k:Nat)(t:Y1)(ht:sgn t)(hz:t.length<=16000000)(s:Y1)(hs:sgn s)(i:Nat)(hi:i<=t.length):L (k+1) .G9 [.str s,.str t,.ref 0] [dS i .non]=.ok .non [match Xi t s i with|.ok j=>dS j .non|.error p=>dS p (.int p)]:=by
 have lp:=xj k t ht hz (some (.str s)) s i none hs hi;show fO (iG (F k)) 3 4 [.str s,.str t,.ref 0] [dS i .non]=_;have si:∀h,jA (.str s) h=.ok (s.map fun c=>PV.str [c]) h:=fun _=>rfl
 split at lp
 .rename_i j e;obtain⟨y3,g⟩:=lp;have ct:wx 1 .non [dS j .non]=.ok .non [dS j .non]:=rfl;simp[EV,fO,iG,si,g,ct]
 .rename_i p e;have ct:kJ 1 .non [dS p (.int p)]=.ok .non [dS p (.int p)]:=rfl;simp[EV,fO,iG,si,lp,ct]
mutual
def gN:Nd->Fl->Prop
 |.text _,_=>False
 |.place _ _ _,x=>∃v,x=.sc v/\VV 0 v/\Y7 v
 |.loop _ _ _ ns _,x=>∃xs:List (List Fl),x=.lst (xs.map Fl.lst)/\xs.length<=16000001/\∀ys∈xs,gS ns ys
 |.choice _ _ y n,x=>∃b ys,x=.tup b ys/\(b=true->gS y ys)/\(b=ajt->gS n ys)
def gS:List Nd->List Fl->Prop
 |[],ys=>ys= []
 |n::r,ys=>(Wa n=true/\gS r ys)\/∃x t,ys=x::t/\gN n x/\gS r t
end
def kA{w:Nat}{e:Nat}(h:WK w t i=some (v,e))(hi:i<=t.length):i<=e/\e<=t.length/\VV 0 v/\Y7 v:=by
 unfold WK at h
 split at h
 .rename_i q;have c:=q.choose_spec;injection h with h
  injection h with h1 h2
  rw[h1]at c;rw[<- h2];exact⟨(CS hi).1,(CS hi).2,c.1,Fh c.2⟩
 .cases h
theorem vM{step:Nat->Except Nat (List Fl×Nat)}{t b:Y1}{cb:Nat}{P:List Fl->Prop}(S:∀i ys j,i<=t.length->step i=.ok (ys,j)->i<j/\j<=t.length/\P ys):∀(f j:Nat)(ws:List (List Fl))(l:Nat),j<=t.length->YD step t b cb f j=.ok (ws,l)->j<=l/\l<=t.length/\ws.length+j<=l/\∀ys∈ws,P ys
 |0,j,ws,l,hj,h=>by
  rw[YD]at h
  cases h
  exact⟨aeB _,hj,by simp,fun ys h=>(nomatch h)⟩
 |f+1,j,ws,l,hj,h=>by
  rw[YD]at h
  split at h
  .split at h
   .cases h
   .rename_i j1 e1;obtain⟨a1,a2⟩:=mQ e1 hj
    split at h
    .cases h
    .rename_i vs j2 e2;obtain⟨b1,b2,b3⟩:=S _ _ _ a2 e2
     split at h
     .cases h
     .rename_i ws' l' e3
      cases h
      obtain⟨c1,c2,c3,c4⟩:=vM S f j2 _ _ b2 e3;refine⟨by lia,c2,by rw[aeh];lia,fun ys hy=>?_⟩;rcases aek.mp hy with rfl|hy
      .exact b3
      .exact c4 ys hy
  .cases h
   exact⟨aeB _,hj,by simp,fun ys h=>(nomatch h)⟩
section
variable(t:Y1)(hz:t.length<=16000000)
include hz
mutual
theorem rD:∀(n:Nd)(r:List Nd)(i:Nat)(ys:List Fl)(j:Nat),SQ n->i<=t.length->VH t n r i=.ok (ys,j)->i<=j/\j<=t.length/\(Wa n=true->i<j)/\((Wa n=true/\ys= [])\/∃x,ys= [x]/\gN n x)
 |.text s,r,i,ys,j,td,hi,h=>by
  rw[SQ]at td;rw[VH]at h
  split at h
  .rename_i j' e
   cases h
   obtain⟨a,b⟩:=mQ e hi;have:0<s.length:=aif.mpr td.1;exact⟨by lia,b,fun _=>by lia,.inl ⟨rfl,rfl⟩⟩
  .cases h
 |.place a f w,r,i,ys,j,td,hi,h=>by
  rw[VH]at h
  split at h
  .rename_i v e q
   cases h
   obtain⟨a,b,c,d⟩:=kA q hi;exact⟨a,b,fun z=>by(cases z),.inr ⟨_,rfl,by rw[gN];exact⟨v,rfl,c,d⟩⟩⟩
  .cases h
 |.loop x a f ns b,r,i,ys,j,td,hi,h=>by
  rw[SQ]at td
  have S:∀i ys j,i<=t.length->bX t ns i=.ok (ys,j)->i<j/\j<=t.length/\gS ns ys:=fun i ys j hi h=>by obtain⟨a,b,c,d⟩:=dO ns i ys j td.2.2.1 hi h;exact⟨c td.1,b,d⟩
  rw[VH]at h
  split at h
  .split at h
   .cases h
   .rename_i vs j1 e1;obtain⟨b1,b2,b3⟩:=S _ _ _ hi e1
    split at h
    .cases h
    .rename_i ws l e2
     cases h
     obtain⟨c1,c2,c3,c4⟩:=vM S _ _ _ _ b2 e2;refine⟨by lia,c2,fun z=>by(cases z),.inr ⟨_,rfl,?_⟩⟩;rw[gN];refine⟨vs::ws,rfl,by rw[aeh];lia,fun ys hy=>?_⟩;rcases aek.mp hy with rfl|hy
     .exact b3
     .exact c4 ys hy
  .cases h
   refine⟨aeB _,hi,fun z=>by(cases z),.inr ⟨_,rfl,?_⟩⟩;rw[gN];exact⟨[],rfl,by simp,fun ys h=>(nomatch h)⟩
 |.choice a f y n,r,i,ys,j,td,hi,h=>by
  rw[SQ]at td;rw[VH]at h
  split at h
  .split at h
   .cases h
   .rename_i vs j1 e1
    cases h
    obtain⟨a,b,c,d⟩:=dO y i vs j td.2.2.2.2.1 hi e1;refine⟨a,b,fun z=>by(cases z),.inr ⟨_,rfl,?_⟩⟩;rw[gN];exact⟨true,vs,rfl,fun _=>d,fun z=>by cases z⟩
  .split at h
   .split at h
    .cases h
    .rename_i vs j1 e1
     cases h
     obtain⟨a,b,c,d⟩:=dO n i vs j td.2.2.2.2.2 hi e1;refine⟨a,b,fun z=>by(cases z),.inr ⟨_,rfl,?_⟩⟩;rw[gN];exact⟨ajt,vs,rfl,fun z=>by(cases z),fun _=>d⟩
   .cases h
theorem dO:∀(l:List Nd)(i:Nat)(ys:List Fl)(j:Nat),O3 l->i<=t.length->bX t l i=.ok (ys,j)->i<=j/\j<=t.length/\(hdT l=true->i<j)/\gS l ys
 |[],i,ys,j,td,hi,h=>by
  rw[bX]at h
  cases h
  exact⟨aeB _,hi,fun z=>by(cases z),by rw[gS]⟩
 |n::r,i,ys,j,td,hi,h=>by
  rw[O3]at td;rw[bX]at h
  split at h
  .cases h
  .rename_i vs j1 e1;obtain⟨a1,a2,a3,a4⟩:=rD n r i vs j1 td.1 hi e1
   split at h
   .cases h
   .rename_i us l e2
    cases h
    obtain⟨b1,b2,b3,b4⟩:=dO r j1 us j td.2 a2 e2;refine⟨by lia,b2,fun z=>?_,?_⟩
    .have:Wa n=true:=by cases n<;>first|rfl|cases z
     have:=a3 this
     lia
    .rw[gS];rcases a4 with⟨q,rfl⟩|⟨x,rfl,g⟩
     .exact .inl ⟨q,b4⟩
     .exact .inr ⟨x,us,rfl,g,b4⟩
end
end
mutual
theorem qF:∀(n:Nd)(x:Fl),gN n x->(K8 x).pure=true
 |.text _,x,h=>by rw[gN]at h;exact h.elim
 |.place _ _ _,x,h=>by rw[gN]at h;obtain⟨v,rfl,vv,_⟩:=h;rw[K8];exact vv.pure
 |.loop _ _ _ ns _,x,h=>by
  rw[gN]at h;obtain⟨xs,rfl,_,g⟩:=h;rw[K8,PV.pure,fP,afe]
  have:∀l:List (List Fl),(∀ys∈l,gS ns ys)->ai (l.map (K8∘Fl.lst))=true:=fun l=>by
   induction l with
   |nil=>exact fun _=>rfl
   |cons a l ih=>intro q;have ga:=eT ns a (q a (by simp));rw[aeA,ai,ih fun ys hy=>q ys (by simp[hy])];show((K8 (.lst a)).pure&&true)=true;rw[K8,PV.pure,ga];rfl
  exact this xs g
 |.choice _ _ y n,x,h=>by
  rw[gN]at h;obtain⟨b,ys,rfl,g1,g2⟩:=h
  have:ai (aq ys)=true:=by
   cases b with
   |true=>exact eT y ys (g1 rfl)
   |false=>exact eT n ys (g2 rfl)
  rw[K8];simp[PV.pure,ai,this]
theorem eT:∀(l:List Nd)(ys:List Fl),gS l ys->ai (aq ys)=true
 |[],ys,h=>by rw[gS]at h;subst h;rfl
 |n::r,ys,h=>by
  rw[gS]at h;rcases h with⟨_,h⟩|⟨x,t,rfl,g,h⟩
  .exact eT r ys h
  .rw[aq,ai,qF n x g,eT r t h];rfl
end
def RS:Except Nat (List Fl×Nat)->PV->PO->Prop
 |.ok (ys,j),x,o=>x=.lst (aq ys)/\o=dS j .non
 |.error p,_,o=>∃e:Int,o=dS e (.int p)
def R1:Except Nat (List Fl×Nat)->PV->PO->Prop
 |.ok (ys,j),x,o=>(∃f,ys= [f]/\x=K8 f)/\o=dS j .non
 |.error p,_,o=>∃e:Int,o=dS e (.int p)
def nH(a:Int)(n:PV)(fs:Y2):Y3:=[dS a n,.lst fs]
section
variable(a b p:Int)(n:PV)(fs:Y2)(ρ:Ev)
theorem nhA:j5 (.ref 0) (.str [97,116]) (nH a n fs)=.ok (.int a) (nH a n fs):=rfl
theorem Ha:j5 (.ref 0) (.str [110,111]) (nH a .non fs)=.ok .non (nH a .non fs):=rfl
theorem Ec:j5 (.ref 0) (.str [110,111]) (nH a (.int p) fs)=.ok (.int p) (nH a (.int p) fs):=rfl
theorem Pk:rj (.int p) (.ref 0) (.str [110,111]) ρ (nH a .non fs)=.nx ρ (nH a (.int p) fs):=rfl
theorem tK:aA (nH a n fs) (.ref 0)=.ref 0:=rfl
theorem zg:aA (nH a n fs) (.ref 1)=.ref 1:=rfl
theorem nhI:cI (nH a n fs) (.ref 1)=true:=rfl
theorem xS(x:PV)(h:fs.length<16000000):aZ (.ref 1) [x] (nH a n fs)=.ok .non (nH a n (fs++ [x])):=by rw[Fu (h:=nH a n fs) (i:=1) (acc:=fs) rfl x h];rfl
theorem xR(hp:ai fs=true)(hn:(dS a n).pure=true):kJ 1 (.ref 1) (nH a n fs)=.ok (.lst fs) [dS a n]:=by
 have f:dK (nH a n fs) (.ref 1)=some (.lst fs,[dS a n,.Q5 (.lst fs)]):=by unfold dK nH;simp only[af5,afv,hp,ajA];rfl
 have e:(dJ [dS a n]&&ajW 1 2)=true:=by simp[dJ,hn]
 unfold kJ;rw[f];show(if(dJ [dS a n]&&ajW 1 2)=true then Res.ok (PV.lst fs) [dS a n]else .bad)=_;rw[ajz e]
end
theorem hM(a:Int):(dS a .non).pure=true:=rfl
theorem sN(a p:Int):(dS a (.int p)).pure=true:=rfl
def gF(l:Y2)(hl:ai l=true){a:Int}{n:PV}{fs:Y2}(hn:(dS a n).pure=true){a':Int}{n':PV}(hn':(dS a' n').pure=true)(hv:v.pure=true)(e:fn (l++ [.ref 0]) [dS a n]=.ok v [dS a' n']):z_ fn (l++ [.ref 0]) (nH a n fs)=.ok v (nH a' n' fs):=
 dB (fn:=fn) l [] hl rfl (h:=nH a n fs) (i:=0) (o:=dS a n) (o':=dS a' n') rfl hn e hv hn'
def No(hx:∀c∈x,c<1114112)(ha:∀c∈a,c<1114112)(hb:∀c∈b,c<1114112)(h:Y3):gW (.str x) (.lst [.str a,.str b]) h=.ok (.bl (!(decide (a=x)||decide (b=x)))) h:=by
 have e:BS (.str x) (.lst [.str a,.str b]) h=some (decide (a=x)||decide (b=x)):=by show(if Vx [] (.str x)=true/\ [PV.str a,.str b].all (Vx [])=true then some ([PV.str a,.str b].any fun y=>ajU (toD y) (toD (.str x)))else none)=_;rw[ajz ⟨kB [] hx,by simp[kB [] ha,kB [] hb]⟩];simp only[agr,ajs,ajm,wu a x ha hx,wu b x hb hx]
 unfold gW;rw[e]
def EE(a b c:Nat)(h:Y3)(hc:c=a\/c=b):mj (.lst [.str [a],.str [b]]) [.str [c]] h=.ok (.int (if c=a then 0 else 1)) h:=by
 have e:mj (.lst [.str [a],.str [b]]) [.str [c]] h=if([[a],[b]]:Ya).length<=ajx/\([[a],[b]]:Ya).idxOf [c]<([[a],[b]]:Ya).length then .ok (.int (([[a],[b]]:Ya).idxOf [c]:Nat)) h else .bad:=rfl
 rw[e]
 by_cases q:c=a
 .subst q;rw[ajz rfl];have:([[c],[b]]:Ya).idxOf [c]=0:=by rw[List.idxOf_cons_self]
  rw[this,ajz ⟨by rw[szl];simp,by simp⟩];rfl
 .have hb:c=b:=hc.resolve_left q;subst hb;rw[ajB q]
  have:([[a],[c]]:Ya).idxOf [c]=1:=by
   have q':(a==c)=ajt:=by simpa using fun z:a=c=>q z.symm
   simp[ahS,q']
  rw[this,ajz ⟨by rw[szl];simp,by simp⟩];rfl
theorem uF{l:List Nd}(h:hdT l=true)(td:O3 l):∃c s r,l=.text (c::s)::r/\J0 l=c/\c∈aI:=by
 cases l with
 |nil=>cases h
 |cons n r=>
  cases n with
  |text s=>
   rw[O3]at td;have t1:=td.1;rw[SQ]at t1
   cases s with
   |nil=>exact absurd rfl t1.1
   |cons c s=>exact⟨c,s,r,rfl,rfl,t1.2 c (by simp)⟩
  |place a f w=>cases h
  |loop x a f ns b=>cases h
  |choice a f y n=>cases h
theorem vU:∀a b:List Nd,g8 (a++b)=g8 a++g8 b
 |[],b=>by rw[g8];rfl
 |n::a,b=>by rw[ae3,g8,g8,vU a b];rfl
theorem Ae:∀{a b:List Nd},O3 a->O3 b->O3 (a++b)
 |[],_,_,h=>h
 |n::a,b,h,k=>by rw[O3]at h;rw[ae3,O3];exact⟨h.1,Ae h.2 k⟩
def Aj(side r:List Nd)(hs:side= []\/hdT side=true)(ts:O3 side)(hr:hdT r=true)(tr:O3 r):∃c s q,side++r=.text (c::s)::q/\J0 (side++r)=c/\c∈aI:=by
 refine uF ?_ (Ae ts tr);rcases hs with rfl|hs
 .exact hr
 .exact AH r hs
def Fb(pre:List Nd)(n:Nd)(r:List Nd)(h:Y3):rN (.tup (g8 (pre++n::r))) (some ((pre.length:Nat)+1:Int)) none h=.ok (.tup (g8 r)) h:=by
 have e:cut (g8 (pre++n::r)) (some (((pre.length+1:Nat)):Int)) none=g8 r:=by
  rw[lY,fH,fH,<- ajl]
  congr 1
  rw[List.drop_append];simp
 have h1:Z.RP (g8 (pre++n::r)).length 0 (some (((pre.length+1:Nat)):Int))≠0:=by
  rw[Z.Vd,fH,aes,aei,aeh]
  lia
 show rN (.tup (g8 (pre++n::r))) (some (((pre.length+1:Nat)):Int)) none h=_;unfold rN;dsimp only;rw[ajB (fun z=>h1 z.1),e]
def AG(k:Nat)(pre:List Nd)(n:Nd)(r side:List Nd){c:Nat}{s:Y1}{q:List Nd}(e:side++r=.text (c::s)::q)(z:(c::s).length<=16777216)(zs:(side++r).length<=16777216)(h:Y3):gc (F k) [PV.tup (g8 side),PV.tup (g8 (pre++n::r)),PV.int (pre.length:Nat)] h=.ok (.str [c]) h:=by
 have cr:=Fb pre n r
 have ap:∀h,aE (.tup (g8 side)) (.tup (g8 r)) h=.ok (.tup (g8 (side++r))) h:=fun h=>by
  cases side with
  |nil=>rw[g8];rfl
  |cons x side=>rw[vU];show yY (.tup (g8 (x::side))) (.tup (g8 r)) h=_;rw[Fy,ajz ⟨by rw[g8];rfl,by rw[szl,<- aei,<- vU,fH,aes];exact zs⟩]
 have i0:∀h,j5 (.tup (g8 (side++r))) (.int 0) h=.ok (nd (.text (c::s))) h:=fun h=>by rw[e,g8];show(match Sy (nd (.text (c::s))::g8 q) 0 with|some v=>Res.ok (aA h v) h|none=>.bad)=_;rw[at0];show Res.ok (aA h _) h=_;rw[bR]
 have i1:=fun h=>(pK h (c::s)).2
 have i2:∀h,j5 (.str (c::s)) (.int 0) h=.ok (.str [c]) h:=fun h=>by show(match Sy (c::s) 0 with|some v=>if(c::s).length<=ajx then Res.ok (PV.str [v]) h else .bad|none=>.bad)=_;rw[at0];dsimp only;rw[ajz (by rw[szl];exact z)]
 simp[EV,gc,cr,ap,i0,i1,i2]
theorem oh(h:Y3):rO .non .non h=.ok (.bl ajt) h:=rfl
theorem og(i:Int)(h:Y3):rO (.int i) .non h=.ok (.bl true) h:=rfl
def nV{g:Gx}{b:Sx}{r:Y2}(hg:g p ρ=some ρ1)(hb:b ρ1 h=.rt v h2):bc g b (p::r) ρ h=.rt v h2:=by simp only[bc,hg,hb]
theorem cB{x:PV}(xp:x.pure=true):∀l:Y2,ai l=true->ai (l++ [x])=true
 |[],_=>by rw[aeN,ai,xp];rfl
 |b::l,h=>by rw[ai,ael]at h;rw[ae3,ai,h.1,cB xp l h.2];rfl
def Oj(r:SR)(l:Option PV)(t:Option PV)(p:Nat):Prop:=∃(e:Int)(fs:Y2),ai fs=true/\((∃x4 x5 x6 x7,r=.nx [l,t,PV.ref 0,PV.ref 1,x4,x5,x6,x7] (nH e (.int p) fs))\/r=.rt (.ref 1) (nH e (.int p) fs))
abbrev Zd:Gx:=YF 2 acC
section
variable(K:Nat)(l tt:Option PV)
theorem Cf(p:Nat)(e:Int)(fs:Y2)(hp:ai fs=true):∀(k0:Nat)(xs:Y2)(x4 x5 x6 x7:Option PV),Oj (bc Zd (aK (F K) (L K)) (Vi k0 xs) [l,tt,PV.ref 0,PV.ref 1,x4,x5,x6,x7] (nH e (.int p) fs)) l tt p
 |_,[],x4,x5,x6,x7=>⟨e,fs,hp,.inl ⟨x4,x5,x6,x7,rfl⟩⟩
 |k0,x::xs,x4,x5,x6,x7=>by
  refine⟨e,fs,hp,.inr ?_⟩;have d0:=tK;have d1:=zg;have n1:=Ec
  have st:aK (F K) (L K) [l,tt,PV.ref 0,PV.ref 1,PV.int (k0:Nat),x,x6,x7] (nH e (.int p) fs)=.rt (.ref 1) (nH e (.int p) fs):=by simp[EV,oh,og,aK,d0,d1,n1]
  rw[Vi];exact nV rfl st
theorem IT{k0:Nat}{x:PV}{x4 x5 x6 x7 y4 y5 y6 y7:Option PV}(e:aK (F K) (L K) [l,tt,PV.ref 0,PV.ref 1,PV.int (k0:Nat),x,x6,x7] h=.nx [l,tt,PV.ref 0,PV.ref 1,y4,y5,y6,y7] h2):bc Zd (aK (F K) (L K)) (Vi k0 (x::xs)) [l,tt,PV.ref 0,PV.ref 1,x4,x5,x6,x7] h=bc Zd (aK (F K) (L K)) (Vi (k0+1) xs) [l,tt,PV.ref 0,PV.ref 1,y4,y5,y6,y7] h2:=by rw[Vi];exact cC rfl e
end
section
variable(t:Y1)(ht:sgn t)(hz:t.length<=16000000)
def NR(K:Nat)(l:List Nd):Prop:=∀i,i<=t.length->∃x o,x.pure=true/\o.pure=true/\RS (bX t l i) x o/\L K .u6 [.tup (g8 l),.str t,.ref 0] [dS i .non]=.ok x [o]
def LR(K:Nat)(n:Nd):Prop:=∀i r,i<=t.length->∃x o,x.pure=true/\o.pure=true/\R1 (VH t n r i) x o/\L K .Ru [nd n,.str t,.ref 0] [dS i .non]=.ok x [o]
theorem Aq{r:Except Nat (List Fl×Nat)}{x:PV}(h:RS r x o):∃a n,o=dS a n:=by
 unfold RS at h
 split at h
 .exact⟨_,_,h.2⟩
 .obtain⟨e,h⟩:=h;exact⟨_,_,h⟩
theorem Mu{r:Except Nat (List Fl×Nat)}{x:PV}(h:R1 r x o):∃a n,o=dS a n:=by
 unfold R1 at h
 split at h
 .exact⟨_,_,h.2⟩
 .obtain⟨e,h⟩:=h;exact⟨_,_,h⟩
include ht hz
theorem Hb(k:Nat)(nn:Nd)(r pre:List Nd)(td:SQ nn)(tr:O3 r)(hf:∀a f y n,nn=.choice a f y n->hdT r=true)(hu:uS (nn::r)<=14000000)(S:∀l∈gw nn,NR t (k+2) l)(Lr:∀x a f ns b,nn=.loop x a f ns b->LR t (k+2) nn)(i:Nat)(hi:i<=t.length)(acc:List Fl)(hp:ai (aq acc)=true)(ha:acc.length<=15000000)(x6 x7:Option PV):∃o:SR,aK (F (k+2)) (L (k+2)) [PV.tup (g8 (pre++nn::r)),PV.str t,PV.ref 0,PV.ref 1,PV.int (pre.length:Nat),nd nn,x6,x7] (nH i .non (aq acc))=o/\
  match VH t nn r i with
  |.ok (ys,j)=>∃y4 y5 y6 y7,ai (aq (acc++ys))=true/\o=.nx [PV.tup (g8 (pre++nn::r)),PV.str t,PV.ref 0,PV.ref 1,y4,y5,y6,y7] (nH j .non (aq (acc++ys)))
  |.error p=>∃e fs,ai fs=true/\((∃y4 y5 y6 y7,o=.nx [PV.tup (g8 (pre++nn::r)),PV.str t,PV.ref 0,PV.ref 1,y4,y5,y6,y7] (nH e (.int p) fs))\/o=.rt (.ref 1) (nH e (.int p) fs)):=by
 have k0:=Hc nn;have d0:=tK;have d1:=zg;have n0:=Ha;have li:=nhI;have ia:=nhA;have tp:(PV.str t).pure=true:=rfl;refine⟨_,rfl,?_⟩
 cases nn with
 |text s=>
  rw[SQ]at td;have tr:=vr (k+1) t ht hz s td.2 i hi;have i1:=fun h=>(pK h s).2;rw[VH]
  split
  .rename_i ys j e
   split at e
   .rename_i j' e'
    cases e
    rw[e']at tr;have cl:z_ (L (k+2) .G9) [.str s,.str t,.ref 0] (nH i .non (aq acc))=.ok .non (nH j .non (aq acc)):=gF [.str s,.str t] rfl (hM _) (hM _) rfl tr;refine⟨some (.int (pre.length:Nat)),some (nd (.text s)),x6,x7,by rw[aep];exact hp,?_⟩;rw[aep];simp[EV,oh,og,aK,bR,k0,kT,Vt,i1,d0,d1,n0,cl]
   .cases e
  .rename_i p e
   split at e
   .cases e
   .rename_i p' e'
    cases e
    rw[e']at tr;have cl:z_ (L (k+2) .G9) [.str s,.str t,.ref 0] (nH i .non (aq acc))=.ok .non (nH p (.int p) (aq acc)):=gF [.str s,.str t] rfl (hM _) (sN _ _) rfl tr;refine⟨(p:Nat),aq acc,hp,.inl ⟨some (.int (pre.length:Nat)),some (nd (.text s)),x6,x7,?_⟩⟩;simp[EV,oh,og,aK,bR,k0,kT,Vt,i1,d0,d1,n0,cl]
 |place a f w=>
  rw[SQ]at td;obtain⟨x,o,xp,pr,pe⟩:=rL k w td t ht hz i hi;have i2:=fun h=>(yb h a f w).2.2;unfold PR at pr;rw[VH];have fl:(aq acc).length<16000000:=by rw[eY];lia
  split
  .rename_i ys j e
   split at e
   .rename_i v e' q
    cases e
    rw[q]at pr;obtain⟨rfl,rfl⟩:=pr;have cl:z_ (L (k+2) .s6) [.str (ca w),.str t,.ref 0] (nH i .non (aq acc))=.ok x (nH j .non (aq acc)):=gF [.str (ca w),.str t] rfl (hM _) (hM _) xp pe;have ap:=xS j .non (aq acc) x fl;have fe:aq (acc++ [.sc x])=aq acc++ [x]:=by rw[fj,aq,aq,K8]
    refine⟨some (.int (pre.length:Nat)),some (nd (.place a f w)),x6,x7,?_,?_⟩
    .rw[fe];exact cB xp _ hp
    .rw[fe];simp[EV,oh,og,aK,bR,k0,kT,Vt,i2,d0,d1,n0,li,cl,ap,ar _ xp]
   .cases e
  .rename_i p e
   split at e
   .cases e
   .rename_i q
    cases e
    rw[q]at pr;obtain⟨e',rfl⟩:=pr;have cl:z_ (L (k+2) .s6) [.str (ca w),.str t,.ref 0] (nH i .non (aq acc))=.ok x (nH e' (.int i) (aq acc)):=gF [.str (ca w),.str t] rfl (hM _) (sN _ _) xp pe;have ap:=xS e' (.int i) (aq acc) x fl;refine⟨e',aq acc++ [x],?_,.inl ⟨some (.int (pre.length:Nat)),some (nd (.place a f w)),x6,x7,?_⟩⟩
    .exact cB xp _ hp
    .simp[EV,oh,og,aK,bR,k0,kT,Vt,i2,d0,d1,n0,li,cl,ap,ar _ xp]
 |loop x0 a f ns b=>
  obtain⟨x,o,xp,op,pr,pe⟩:=Lr x0 a f ns b rfl i r hi;obtain⟨oa,on,rfl⟩:=Mu pr;have fl:(aq acc).length<16000000:=by rw[eY];lia
  have cl:z_ (L (k+2) .Ru) [nd (.loop x0 a f ns b),.str t,.ref 0] (nH i .non (aq acc))=.ok x (nH oa on (aq acc)):=gF [nd (.loop x0 a f ns b),.str t] (by simp only[ai,iD,tp,afw]) (hM _) op xp pe;have ap:=xS oa on (aq acc) x fl
  have res:aK (F (k+2)) (L (k+2)) [PV.tup (g8 (pre++.loop x0 a f ns b::r)),PV.str t,PV.ref 0,PV.ref 1,PV.int (pre.length:Nat),nd (.loop x0 a f ns b),x6,x7] (nH i .non (aq acc))=.nx [PV.tup (g8 (pre++.loop x0 a f ns b::r)),PV.str t,PV.ref 0,PV.ref 1,PV.int (pre.length:Nat),nd (.loop x0 a f ns b),x6,x7] (nH oa on (aq acc++ [x])):=by simp[EV,oh,og,aK,bR,k0,kT,Vt,d0,d1,n0,li,cl,ap,ar _ xp]
  rw[res];unfold R1 at pr
  split
  .rename_i ys j e;rw[e]at pr;obtain⟨⟨fv,rfl,rfl⟩,po⟩:=pr;have fe:aq (acc++ [fv])=aq acc++ [K8 fv]:=by rw[fj,aq,aq]
   have:nH oa on (aq acc++ [K8 fv])=nH j .non (aq acc++ [K8 fv]):=by unfold nH;rw[po]
   rw[this,fe];exact⟨_,_,_,_,cB xp _ hp,rfl⟩
  .rename_i p e;rw[e]at pr;obtain⟨e',po⟩:=pr;have:nH oa on (aq acc++ [x])=nH e' (.int p) (aq acc++ [x]):=by unfold nH;rw[po]
   rw[this];exact⟨e',_,cB xp _ hp,.inl ⟨_,_,_,_,rfl⟩⟩
 |choice a f y n=>
  rw[SQ]at td;have hr:=hf a f y n rfl;obtain⟨c1,s1,q1,y1,y2,y3⟩:=Aj y r td.1 td.2.2.2.2.1 hr tr;obtain⟨c2,s2,q2,n1,n2,n3⟩:=Aj n r td.2.1 td.2.2.2.2.2 hr tr;have fl:(aq acc).length<16000000:=by rw[eY];lia
  have z1:t.length<=16777216:=by lia
  have us:uS y+uS n+1+uS r<=14000000:=by rw[uS,uN]at hu;exact hu
  have szt:∀side:List Nd,O3 side->uS side+uS r<=14000000->∀c s q,side++r=.text (c::s)::q->(c::s).length<=16777216/\(side++r).length<=16777216:=fun side ts ul c s q e=>by have a1:=gY ts;have a2:=gY tr;have a3:uS (side++r)=uS side+uS r:=vk side r;rw[e,uS,uN]at a3;rw[aei];exact⟨by lia,by lia⟩
  have h1:=fun h=>AG (k+2) pre (.choice a f y n) r y y1 (szt y td.2.2.2.2.1 ⋯ _ _ _ y1).1 (szt y td.2.2.2.2.1 ⋯ _ _ _ y1).2 h;have h2:=fun h=>AG (k+2) pre (.choice a f y n) r n n1 (szt n td.2.2.2.2.2 ⋯ _ _ _ n1).1 (szt n td.2.2.2.2.2 ⋯ _ _ _ n1).2 h;have sl:∀h,rN (nd (.choice a f y n)) (some 2) (some 4) h=.ok (.tup [.tup (g8 y),.tup (g8 n)]) h:=fun h=>by rw[nd];rfl
  have cm:∀h,cJ bQ (gc (F (k+2))) [PV.tup (g8 (pre++.choice a f y n::r)),PV.int (pre.length:Nat)] [.tup (g8 y),.tup (g8 n)] h=.ok [.str [c1],.str [c2]] h:=fun h=>by simp only[cJ,bQ,Res.K9,ajA,h1,h2]
  have cu:=yk t i;have tk:∀c∈(t.drop i).take 1,c<1114112:=fun c hc=>dI c (ht c (afc (aeU hc)))
  have dk:∀c:Nat,decide ([c]=(t.drop i).take 1)=decide (t[i]? =some c):=fun c=>by
   rw[CN]
   cases e:t[i]? with
   |none=>simp
   |some a=>simp[eq_comm]
  have ni:∀h,gW (.str ((t.drop i).take 1)) (.lst [.str [c1],.str [c2]]) h=.ok (.bl (!(decide (t[i]? =some c1)||decide (t[i]? =some c2)))) h:=fun h=>by rw[No tk (by simpa using dI _ y3) (by simpa using dI _ n3),dk,dk]
  have cp:cU [0,4] [some (.tup (g8 (pre++.choice a f y n::r))),some (.str t),some (.ref 0),some (.ref 1),some (.int (pre.length:Nat)),some (nd (.choice a f y n)),x6,x7]=[some (.tup (g8 (pre++.choice a f y n::r))),some (.int (pre.length:Nat))]:=rfl;have si:∀h,jA (.tup [.tup (g8 y),.tup (g8 n)]) h=.ok [.tup (g8 y),.tup (g8 n)] h:=fun _=>rfl;have ok:∀h,VL [.str [c1],.str [c2]] h=.ok (.lst [.str [c1],.str [c2]]) h:=fun h=>rfl;have l2:(2:Nat)<16777216:=by decide
  have il:∀h,cI h (.lst [.str [c1],.str [c2]])=true:=fun _=>rfl;have sn:=Pk;have iy:=fun h=>(pL h a f y n).2.2.1;have il2:=fun h=>(pL h a f y n).2.2.2
  have side:∀(b:Bool)(a_:List Nd)(m:Int),NR t (k+2) a_->(∀h,v9 (.int m) (.int 0) h=.ok (.bl b) h)->(∀h,j5 (nd (.choice a f y n)) (.int (2+m)) h=.ok (.tup (g8 a_)) h)->(∃c:Nat,t[i]? =some c/\(∀h,mj (.lst [.str [c1],.str [c2]]) [.str [c]] h=.ok (.int m) h))->(t[i]? =some c1\/t[i]? =some c2)->∃x oa on,x.pure=true/\(dS oa on).pure=true/\RS (bX t a_ i) x (dS oa on)/\aK (F (k+2)) (L (k+2)) [PV.tup (g8 (pre++.choice a f y n::r)),PV.str t,PV.ref 0,PV.ref 1,PV.int (pre.length:Nat),nd (.choice a f y n),x6,x7] (nH i .non (aq acc))=.nx [PV.tup (g8 (pre++.choice a f y n::r)),PV.str t,PV.ref 0,PV.ref 1,PV.int (pre.length:Nat),nd (.choice a f y n),PV.lst [.str [c1],.str [c2]],PV.int m] (nH oa on (aq acc++ [.tup [.bl b,x]])):=fun b a_ m nr em im ⟨c,tc,ic⟩ yes=>by
   obtain⟨x,o,xp,op,rs,pe⟩:=nr i hi;obtain⟨oa,on,rfl⟩:=Aq rs;refine⟨x,oa,on,xp,op,rs,?_⟩
   have dn:(!(decide (t[i]? =some c1)||decide (t[i]? =some c2)))=ajt:=by
    rcases yes with q|q
    .rw[ajw q];rfl
    .rw[ajw q,ahN];rfl
   rw[dn]at ni;have cl:z_ (L (k+2) .u6) [.tup (g8 a_),.str t,.ref 0] (nH i .non (aq acc))=.ok x (nH oa on (aq acc)):=gF [.tup (g8 a_),.str t] (by rw[ai,PV.pure,bv];rfl) (hM _) op xp pe;have ap:=xS oa on (aq acc) (.tup [.bl b,x]) fl;have at':Sy t (i:Int)=some c:=eQ ⋯ (by rw[ae7];exact tc);have tpd:∀h,aA h (.tup [.bl b,x])=.tup [.bl b,x]:=fun h=>ar h (by simp[PV.pure,ai,xp])
   have tup:∀h,aW [.bl b,x] h=.ok (.tup [.bl b,x]) h:=fun h=>by first|rfl|(unfold aW;simp[ar h xp])
   simp[EV,bC,oh,og,aK,bR,k0,kT,Vt,d0,d1,n0,sl,si,cp,cm,ok,l2,ia,z1,cu,ni,il,at',ic,li,em,im,cl,ap,ar _ xp]
  rw[VH,y2,n2]
  by_cases qy:t[i]? =some c1
  .obtain⟨x,oa,on,xp,op,rs,res⟩:=side true y 0 (S y (by simp[gw])) (fun _=>rfl) (fun h=>iy h) ⟨c1,qy,fun h=>by rw[EE c1 c2 c1 h (.inl rfl),ajz rfl]⟩ (.inl qy);rw[res,ajz qy];have xq:(PV.tup [.bl true,x]).pure=true:=by simp[PV.pure,ai,xp]
   unfold RS at rs
   split
   .rename_i ys j e
    split at e
    .cases e
    .rename_i vs j' e'
     cases e
     rw[e']at rs;obtain⟨rfl,po⟩:=rs;have fe:aq (acc++ [.tup true vs])=aq acc++ [.tup [.bl true,.lst (aq vs)]]:=by rw[fj,aq,aq,K8]
     have:nH oa on (aq acc++ [.tup [.bl true,.lst (aq vs)]])=nH j .non (aq acc++ [.tup [.bl true,.lst (aq vs)]]):=by unfold nH;rw[po]
     rw[this,fe];exact⟨_,_,_,_,cB xq _ hp,rfl⟩
   .rename_i p e
    split at e
    .rename_i p' e'
     cases e
     rw[e']at rs;obtain⟨e',po⟩:=rs;have:nH oa on (aq acc++ [.tup [.bl true,x]])=nH e' (.int p) (aq acc++ [.tup [.bl true,x]]):=by unfold nH;rw[po]
     rw[this];exact⟨e',_,cB xq _ hp,.inl ⟨_,_,_,_,rfl⟩⟩
    .cases e
  .rw[ajB qy]
   by_cases qn:t[i]? =some c2
   .have cne:c2≠c1:=fun z=>qy (by rw[<- z];exact qn);obtain⟨x,oa,on,xp,op,rs,res⟩:=side ajt n 1 (S n (by simp[gw])) (fun _=>rfl) (fun h=>il2 h) ⟨c2,qn,fun h=>by rw[EE c1 c2 c2 h (.inr rfl),ajB cne]⟩ (.inr qn);rw[res,ajz qn];have xq:(PV.tup [.bl ajt,x]).pure=true:=by simp[PV.pure,ai,xp]
    unfold RS at rs
    split
    .rename_i ys j e
     split at e
     .cases e
     .rename_i vs j' e'
      cases e
      rw[e']at rs;obtain⟨rfl,po⟩:=rs;have fe:aq (acc++ [.tup ajt vs])=aq acc++ [.tup [.bl ajt,.lst (aq vs)]]:=by rw[fj,aq,aq,K8]
      have:nH oa on (aq acc++ [.tup [.bl ajt,.lst (aq vs)]])=nH j .non (aq acc++ [.tup [.bl ajt,.lst (aq vs)]]):=by unfold nH;rw[po]
      rw[this,fe];exact⟨_,_,_,_,cB xq _ hp,rfl⟩
    .rename_i p e
     split at e
     .rename_i p' e'
      cases e
      rw[e']at rs;obtain⟨e',po⟩:=rs;have:nH oa on (aq acc++ [.tup [.bl ajt,x]])=nH e' (.int p) (aq acc++ [.tup [.bl ajt,x]]):=by unfold nH;rw[po]
      rw[this];exact⟨e',_,cB xq _ hp,.inl ⟨_,_,_,_,rfl⟩⟩
     .cases e
   .rw[ajB qn];dsimp only;rw[ajv qy,ajv qn]at ni;refine⟨(i:Nat),aq acc,hp,.inr ?_⟩;simp[EV,bC,oh,og,aK,bR,k0,kT,Vt,d0,d1,n0,sl,si,cp,cm,ok,l2,ia,z1,cu,ni,il,sn]
end
def uI{y n r:List Nd}(h:fo (.choice a f y n::r)=true):hdT r=true:=by rw[fo,ael]at h;exact h.1
theorem IP{n:Nd}{r:List Nd}(h:fo (n::r)=true):fo r=true:=by
 cases n with
 |choice a f y n=>rw[fo,ael]at h;exact h.2
 |text s=>exact h
 |place a f w=>exact h
 |loop x a f ns b=>exact h
section
variable(t:Y1)(ht:sgn t)(hz:t.length<=16000000)
include ht hz
theorem xT(k:Nat):∀(r pre:List Nd)(acc:List Fl)(i:Nat)(x4 x5 x6 x7:Option PV),O3 r->fo r=true->uS r<=14000000->(∀nn∈r,∀l∈gw nn,NR t (k+2) l)->(∀nn∈r,∀x a f ns b,nn=.loop x a f ns b->LR t (k+2) nn)->i<=t.length->ai (aq acc)=true->acc.length+r.length<=15000000->
  match bX t r i with
  |.ok (ys,j)=>∃y4 y5 y6 y7,ai (aq (acc++ys))=true/\bc Zd (aK (F (k+2)) (L (k+2))) (Vi pre.length (g8 r)) [PV.tup (g8 (pre++r)),PV.str t,PV.ref 0,PV.ref 1,x4,x5,x6,x7] (nH i .non (aq acc))=.nx [PV.tup (g8 (pre++r)),PV.str t,PV.ref 0,PV.ref 1,y4,y5,y6,y7] (nH j .non (aq (acc++ys)))
  |.error p=>Oj (bc Zd (aK (F (k+2)) (L (k+2))) (Vi pre.length (g8 r)) [PV.tup (g8 (pre++r)),PV.str t,PV.ref 0,PV.ref 1,x4,x5,x6,x7] (nH i .non (aq acc))) (some (.tup (g8 (pre++r)))) (some (.str t)) p
 |[],pre,acc,i,x4,x5,x6,x7,td,hf,hu,S,Lr,hi,hp,ha=>by rw[bX];exact⟨x4,x5,x6,x7,by rw[aep];exact hp,by rw[g8,Vi,aep,aep];rfl⟩
 |nn::r,pre,acc,i,x4,x5,x6,x7,td,hf,hu,S,Lr,hi,hp,ha=>by
  rw[O3]at td;rw[aeh]at ha;obtain⟨o,oe,m⟩:=Hb t ht hz k nn r pre td.1 td.2 (fun a f y n e=>by rw[e]at hf;exact uI hf) hu (S nn (by simp)) (Lr nn (by simp)) i hi acc hp ⋯ x6 x7;have ur:uS r<=14000000:=by rw[uS]at hu;lia
  have ep:pre++nn::r=(pre++ [nn])++r:=by simp
  have pl:(pre++ [nn]).length=pre.length+1:=by simp
  rw[bX]
  cases e:VH t nn r i with
  |error p=>
   rw[e]at m;obtain⟨ee,fs,fp,m⟩:=m;dsimp only;rcases m with⟨y4,y5,y6,y7,rfl⟩|rfl
   .have st:=IT (k+2) (some (.tup (g8 (pre++nn::r)))) (some (.str t)) (x4:=x4) (x5:=x5) (k0:=pre.length) (xs:=g8 r) oe;have g:=Cf (k+2) (some (.tup (g8 (pre++nn::r)))) (some (.str t)) p ee fs fp (pre.length+1) (g8 r) y4 y5 y6 y7;rw[g8,st];exact g
   .refine⟨ee,fs,fp,.inr ?_⟩;rw[g8,Vi];exact nV rfl oe
  |ok q=>
   obtain⟨vs,j⟩:=q;rw[e]at m;obtain⟨y4,y5,y6,y7,hp2,rfl⟩:=m;have st:=IT (k+2) (some (.tup (g8 (pre++nn::r)))) (some (.str t)) (x4:=x4) (x5:=x5) (k0:=pre.length) (xs:=g8 r) oe;obtain⟨b1,b2,b3,b4⟩:=rD t hz nn r i vs j td.1 hi e
   have vl:vs.length<=1:=by rcases b4 with⟨_,rfl⟩|⟨x,rfl,_⟩<;>simp
   have ih:=xT k r (pre++ [nn]) (acc++vs) j y4 y5 y6 y7 td.2 (IP hf) ur (fun z hz=>S z (by simp[hz])) (fun z hz=>Lr z (by simp[hz])) b2 hp2 (by rw[aei];lia);rw[<- ep,pl]at ih;dsimp only;rw[g8,st]
   cases e2:bX t r j with
   |error p=>rw[e2]at ih;exact ih
   |ok q=>obtain⟨us,l⟩:=q;rw[e2]at ih;obtain⟨z4,z5,z6,z7,hp3,g⟩:=ih;rw[aeK]at hp3 g;exact⟨z4,z5,z6,z7,hp3,g⟩
theorem Iw(k:Nat)(l:List Nd)(td:O3 l)(hf:fo l=true)(hu:uS l<=14000000)(S:∀nn∈l,∀z∈gw nn,NR t (k+2) z)(Lr:∀nn∈l,∀x a f ns b,nn=.loop x a f ns b->LR t (k+2) nn):NR t (k+3) l:=fun i hi=>by
 have lp:=xT t ht hz k l [] [] i none none none none td hf hu S Lr hi rfl (by have:=gY td;simp;lia);rw[aeN]at lp;have ru:L (k+3) .u6 [.tup (g8 l),.str t,.ref 0] [dS i .non]=fO (jt (F (k+2)) (L (k+2))) 3 8 [.tup (g8 l),.str t,.ref 0] [dS i .non]:=rfl;have en:∀h,ET [.tup (g8 l)] h=.ok (Vi 0 (g8 l)) h:=fun _=>rfl;have d1:=zg;have mk:aG 3 aaW [PV.tup (g8 l),PV.str t,PV.ref 0,none,none,none,none,none] [dS i .non]=.nx [PV.tup (g8 l),PV.str t,PV.ref 0,PV.ref 1,none,none,none,none] (nH i .non []):=rfl
 have fr:∀r,bc Zd (aK (F (k+2)) (L (k+2))) (Vi 0 (g8 l)) [PV.tup (g8 l),PV.str t,PV.ref 0,PV.ref 1,none,none,none,none] (nH i .non [])=r->ik (vf aaq) Zd (aK (F (k+2)) (L (k+2))) [PV.tup (g8 l),PV.str t,PV.ref 0,PV.ref 1,none,none,none,none] (nH i .non [])=r:=fun r e=>by rw[<- e];rfl
 cases e:bX t l i with
 |ok q=>obtain⟨ys,j⟩:=q;rw[e]at lp;obtain⟨y4,y5,y6,y7,hp,g⟩:=lp;rw[aeN]at hp g;refine⟨.lst (aq ys),dS j .non,by rw[PV.pure];exact hp,rfl,⟨rfl,rfl⟩,?_⟩;rw[ru];refine gB rfl ((sq mk).trans ((sq (fr _ g)).trans ?_)) (xR j .non (aq ys) hp rfl);show aQ (ac 3) [PV.tup (g8 l),PV.str t,PV.ref 0,PV.ref 1,y4,y5,y6,y7] (nH j .non (aq ys))=_;simp[EV,d1]
 |error p=>
  rw[e]at lp;obtain⟨ee,fs,fp,m⟩:=lp;refine⟨.lst fs,dS ee (.int p),by rw[PV.pure];exact fp,rfl,⟨ee,rfl⟩,?_⟩;rw[ru];rcases m with⟨y4,y5,y6,y7,g⟩|g
  .refine gB rfl ((sq mk).trans ((sq (fr _ g)).trans ?_)) (xR ee (.int p) fs fp rfl);show aQ (ac 3) [PV.tup (g8 l),PV.str t,PV.ref 0,PV.ref 1,y4,y5,y6,y7] (nH ee (.int p) fs)=_;simp[EV,d1]
  .refine gB rfl ((sq mk).trans ?_) (xR ee (.int p) fs fp rfl);have:=fr _ g;unfold aw;rw[this]
theorem ML(k:Nat)(l:List Nd)(e:Int)(p:Nat):L (k+3) .u6 [.tup (g8 l),.str t,.ref 0] [dS e (.int p)]=.ok (.lst []) [dS e (.int p)]:=by
 have ru:L (k+3) .u6 [.tup (g8 l),.str t,.ref 0] [dS e (.int p)]=fO (jt (F (k+2)) (L (k+2))) 3 8 [.tup (g8 l),.str t,.ref 0] [dS e (.int p)]:=rfl;have d1:=zg;have mk:aG 3 aaW [PV.tup (g8 l),PV.str t,PV.ref 0,none,none,none,none,none] [dS e (.int p)]=.nx [PV.tup (g8 l),PV.str t,PV.ref 0,PV.ref 1,none,none,none,none] (nH e (.int p) []):=rfl
 have fr:∀r,bc Zd (aK (F (k+2)) (L (k+2))) (Vi 0 (g8 l)) [PV.tup (g8 l),PV.str t,PV.ref 0,PV.ref 1,none,none,none,none] (nH e (.int p) [])=r->ik (vf aaq) Zd (aK (F (k+2)) (L (k+2))) [PV.tup (g8 l),PV.str t,PV.ref 0,PV.ref 1,none,none,none,none] (nH e (.int p) [])=r:=fun r e=>by rw[<- e];rfl
 rw[ru];refine gB (h1:=nH e (.int p) []) (v:=.ref 1) rfl ((sq mk).trans ?_) (xR e (.int p) [] rfl rfl)
 cases l with
 |nil=>rw[g8]at fr |-;have:=fr _ rfl;rw[Vi,bc]at this;refine(sq this).trans ?_;simp[EV,d1]
 |cons n r=>
  have d0:=tK;have n1:=Ec
  have st:aK (F (k+2)) (L (k+2)) [PV.tup (g8 (n::r)),PV.str t,PV.ref 0,PV.ref 1,PV.int (0:Nat),nd n,none,none] (nH e (.int p) [])=.rt (.ref 1) (nH e (.int p) []):=by simp[EV,oh,og,aK,d0,d1,n1]
  have g:bc Zd (aK (F (k+2)) (L (k+2))) (Vi 0 (g8 (n::r))) [PV.tup (g8 (n::r)),PV.str t,PV.ref 0,PV.ref 1,none,none,none,none] (nH e (.int p) [])=.rt (.ref 1) (nH e (.int p) []):=by
   have e1:Vi 0 (g8 (n::r))=.tup [.int (0:Nat),nd n]::Vi 1 (g8 r):=by rw[g8,Vi]
   rw[e1];exact nV rfl st
  have:=fr _ g;unfold aw;rw[this]
end
mutual
theorem Nv:∀(n:Nd)(x:Fl),gN n x->fd (2 * dN n+1) (K8 x)
 |.text _,x,h=>by rw[gN]at h;exact h.elim
 |.place _ _ _,x,h=>by
  rw[gN]at h;obtain⟨v,rfl,vv,sc⟩:=h;rw[K8];rcases sc with⟨l,rfl⟩|⟨j,rfl⟩
  .cases vv with
   |str _ _ _ hc=>exact iR (aeM.mpr fun c h=>ajw (dI c (hc c h)))
  .exact KV _ j
 |.loop _ _ _ ns _,x,h=>by
  rw[gN]at h;obtain⟨xs,rfl,_,g⟩:=h;rw[K8,fP,afe,dN]
  have:∀l:List (List Fl),(∀ys∈l,gS ns ys)->fds (2 * M6 ns+2) (l.map (K8∘Fl.lst)):=fun l=>by
   induction l with
   |nil=>exact fun _=>fJ _
   |cons a l ih=>intro q;have ga:=uG ns a (q a (by simp));rw[aeA];refine bI ?_ (ih fun ys hy=>q ys (by simp[hy]));show fd _ (K8 (.lst a));rw[K8];exact wq ga
  exact gZ (wq (this xs g)) ⋯
 |.choice _ _ y n,x,h=>by
  rw[gN]at h;obtain⟨b,ys,rfl,g1,g2⟩:=h;rw[K8,dN]
  have:fds (2 * max (M6 y) (M6 n)+1) (aq ys):=by
   cases b with
   |true=>exact or (uG y ys (g1 rfl)) (by have:=afV (M6 y) (M6 n);lia)
   |false=>exact or (uG n ys (g2 rfl)) (by have:=afG (M6 y) (M6 n);lia)
  exact gZ (kK (bI (NH _ b) (bI (wq this) (fJ _)))) ⋯
theorem uG:∀(l:List Nd)(ys:List Fl),gS l ys->fds (2 * M6 l+1) (aq ys)
 |[],ys,h=>by rw[gS]at h;subst h;exact fJ _
 |n::r,ys,h=>by
  rw[gS]at h;rw[M6];rcases h with⟨_,h⟩|⟨x,t,rfl,g,h⟩
  .exact or (uG r ys h) (by have:=afG (dN n) (M6 r);lia)
  .rw[aq];exact bI (gZ (Nv n x g) (by have:=afV (dN n) (M6 r);lia)) (or (uG r t h) (by have:=afG (dN n) (M6 r);lia))
end
def Ix{a:Int}{n:PV}{l:Y2}(hl:fds 59 l):Tv (.ref 1) (.lst []) (nH a n l)=.ok (.bl (!l.isEmpty)) (nH a n l):=by
 have ok:Vx (nH a n l) (.ref 1)=true:=by
  unfold Vx Vr nH;have:=hl.2.1;simp only[af5,afv,ajH,ajO,hl.1,ahr,ajE]
  lia
 unfold Tv;rw[ajz ⟨ok,rfl⟩]
 cases l<;>rfl
noncomputable def rvs(ws:List (List Fl)):Y2:=ws.map fun ys=>PV.lst (aq ys)
def gR(ws:List (List Fl)):aq (ws.map Fl.lst)=rvs ws:=by
 rw[fP,afe];unfold rvs
 congr 1
def nK(ws:List (List Fl))(vs:List Fl):rvs (ws++ [vs])=rvs ws++ [.lst (aq vs)]:=by unfold rvs;rw[aeP];rfl
theorem cj(ns:List Nd):∀ws:List (List Fl),(∀ys∈ws,gS ns ys)->ai (rvs ws)=true
 |[],_=>rfl
 |a::r,h=>by show ai (.lst (aq a)::rvs r)=true;rw[ai,PV.pure,eT ns a (h a (by simp)),cj ns r fun ys hy=>h ys (by simp[hy])];rfl
theorem Dg(ns:List Nd){d:Nat}(hd:2 * M6 ns+2<=d):∀ws:List (List Fl),(∀ys∈ws,gS ns ys)->fds d (rvs ws)
 |[],_=>fJ d
 |a::r,h=>bI (gZ (wq (uG ns a (h a (by simp)))) ⋯) (Dg ns hd r fun ys hy=>h ys (by simp[hy]))
theorem is0(h:Y3):Wn .non .non h=.ok (.bl true) h:=rfl
theorem is1(i:Int)(h:Y3):Wn (.int i) .non h=.ok (.bl ajt) h:=rfl
noncomputable abbrev lT:Tx:=cg abF ad3
section
variable(t:Y1)(ht:sgn t)(hz:t.length<=16000000)(n:Nd)
abbrev lE(c:Nat):Ev:=[nd n,PV.str t,PV.ref 0,PV.ref 1,PV.str [c]]
theorem Ew(c:Nat)(e:Int)(p:Nat)(fs:Y2):lT (lE t n c) (nH e (.int p) fs)=.ok ajt (nH e (.int p) fs):=by have d0:=tK;have n1:=Ec;simp[EV,lT,lE,d0,n1,tM,aeS,ajQ]
include ht hz
theorem Eu(c:Nat)(hc:c∈aI)(j:Nat)(fs:Y2):lT (lE t n c) (nH j .non fs)=.ok (decide (t[j]? =some c)) (nH j .non fs):=by
 have d0:=tK;have n0:=Ha;have ia:=nhA;have cu:=yk t j;have z1:t.length<=16777216:=by lia
 have e:=fun h=>AN ht j c (dI c hc) h;simp[EV,bC,lT,lE,d0,n0,qc,ajA,ia,cu,z1,e]
end
section
variable(t:Y1)(ht:sgn t)(hz:t.length<=16000000)
include ht hz
theorem AB(k:Nat)(x0:Y1)(a:Y1)(f:Ya)(ns:List Nd)(b:Y1)(hb:sgn b)(td:O3 ns)(hd:hdT ns=true)(dd:M6 ns<=20)(N:NR t (k+3) ns)(cb:Nat)(hc:cb∈aI):∀(g:Nat)(ws:List (List Fl))(j:Nat),ws≠ []->(∀ys∈ws,gS ns ys)->ws.length<=j->j<=t.length->t.length<j+g->
  match YD (fun x=>bX t ns x) t b cb g j with
  |.ok (vs,l)=>bo lT (cH (F (k+3)) (L (k+3))) (lE t (.loop x0 a f ns b) cb) (nH j .non (rvs ws))=.nx (lE t (.loop x0 a f ns b) cb) (nH l .non (rvs (ws++vs)))
  |.error p=>∃e fs,ai fs=true/\bo lT (cH (F (k+3)) (L (k+3))) (lE t (.loop x0 a f ns b) cb) (nH j .non (rvs ws))=.nx (lE t (.loop x0 a f ns b) cb) (nH e (.int p) fs)
 |0,ws,j,hw,hg,wl,hj,hf=>by lia
 |g+1,ws,j,hw,hg,wl,hj,hf=>by
  have ly:=Eu t ht hz (.loop x0 a f ns b) cb hc j (rvs ws);rw[YD]
  by_cases q:t[j]? =some cb
  .rw[ajz q];rw[ajw q]at ly;have d0:=tK;have d1:=zg;have li:=nhI;have i3:=fun h=>(mI h x0 a f ns b).2.2.2.1;have i4:=fun h=>(mI h x0 a f ns b).2.2.2.2;have ne:=fun(A:Int)(n:PV)=>Ix (a:=A) (n:=n) (Dg ns (by lia:2 * M6 ns+2<=59) ws hg)
   have we:(!(rvs ws).isEmpty)=true:=by cases ws with
    |nil=>exact absurd rfl hw
    |cons z w=>rfl
   simp only[we]at ne;have wp:=cj ns ws hg;have aaJ:(rvs ws).length=ws.length:=by unfold rvs;rw[aes]
   have w1:1<=ws.length:=by cases ws with
    |nil=>exact absurd rfl hw
    |cons z w=>simp
   have fl:(rvs ws).length<16000000\/(rvs ws).length<=16000000:=.inr ⋯;have tr:=vr (k+2) t ht hz b hb j hj;have ln:∀(A:Int)(n:PV)(fs:Y2),fs.length<=16000001->bS [.ref 1] (nH A n fs)=.ok (.int (fs.length:Nat)) (nH A n fs):=fun A n fs h=>rfl
   have ll:(rvs ws).length<16000000:=by
    rw[aaJ];have:j<t.length:=lP q
    lia
   have e1:∀(x:PV) h,v9 (.int (((rvs ws++ [x]).length:Nat):Int)) (.int 1) h=.ok (.bl ajt) h:=fun x h=>by
    rw[db];have:(((rvs ws++ [x]).length:Nat):Int)≠1:=by rw[aei,aev,aaJ];lia
    rw[ajv this]
   have body:∀(o:PO)(x:PV)(oa:Int)(on:PV)(ja:Int)(jn:PV),z_ (L (k+3) .G9) [.str b,.str t,.ref 0] (nH j .non (rvs ws))=.ok .non (nH ja jn (rvs ws))->x.pure=true->z_ (L (k+3) .u6) [.tup (g8 ns),.str t,.ref 0] (nH ja jn (rvs ws))=.ok x (nH oa on (rvs ws))->cH (F (k+3)) (L (k+3)) (lE t (.loop x0 a f ns b) cb) (nH j .non (rvs ws))=.nx (lE t (.loop x0 a f ns b) cb) (nH oa on (rvs ws++ [x])):=fun o x oa on ja jn c1 xp c2=>by have ap:=xS oa on (rvs ws) x ll;have ln:=ln oa on (rvs ws++ [x]) (by rw[aei,aev];lia);have e1:=e1 x;simp[EV,cH,lE,bR,d0,d1,li,i3,i4,ne,c1,c2,ar _ xp,ap,ln,e1]
   cases e:Xi t b j with
   |error p=>rw[e]at tr;have c1:z_ (L (k+3) .G9) [.str b,.str t,.ref 0] (nH j .non (rvs ws))=.ok .non (nH p (.int p) (rvs ws)):=gF [.str b,.str t] rfl (hM _) (sN _ _) rfl tr;have c2:z_ (L (k+3) .u6) [.tup (g8 ns),.str t,.ref 0] (nH p (.int p) (rvs ws))=.ok (.lst []) (nH p (.int p) (rvs ws)):=gF [.tup (g8 ns),.str t] (by rw[ai,PV.pure,bv];rfl) (sN _ _) (sN _ _) rfl (ML t ht hz k ns p p);have bd:=body (dS 0 .non) _ _ _ _ _ c1 rfl c2;refine⟨(p:Nat),rvs ws++ [.lst []],cB rfl _ wp,?_⟩;exact eI ly bd (gQ (Ew t (.loop x0 a f ns b) cb _ _ _)) nofun
   |ok j1=>
    rw[e]at tr;obtain⟨a1,a2⟩:=mQ e hj;have c1:z_ (L (k+3) .G9) [.str b,.str t,.ref 0] (nH j .non (rvs ws))=.ok .non (nH j1 .non (rvs ws)):=gF [.str b,.str t] rfl (hM _) (hM _) rfl tr;obtain⟨x,o,xp,op,rs,pe⟩:=N j1 a2;obtain⟨oa,on,rfl⟩:=Aq rs;have c2:z_ (L (k+3) .u6) [.tup (g8 ns),.str t,.ref 0] (nH j1 .non (rvs ws))=.ok x (nH oa on (rvs ws)):=gF [.tup (g8 ns),.str t] (by rw[ai,PV.pure,bv];rfl) (hM _) op xp pe;have bd:=body (dS 0 .non) _ _ _ _ _ c1 xp c2;dsimp only
    cases e2:bX t ns j1 with
    |error p=>
     rw[e2]at rs;obtain⟨e',po⟩:=rs;have eq:nH oa on (rvs ws++ [x])=nH e' (.int p) (rvs ws++ [x]):=by unfold nH;rw[po]
     rw[eq]at bd;exact⟨e',rvs ws++ [x],cB xp _ wp,eI ly bd (gQ (Ew t (.loop x0 a f ns b) cb _ _ _)) nofun⟩
    |ok v=>
     obtain⟨vs,j2⟩:=v;rw[e2]at rs;obtain⟨rfl,po⟩:=rs;obtain⟨b1,b2,b3,b4⟩:=dO t hz ns j1 vs j2 td a2 e2;have b3:=b3 hd;have eq:nH oa on (rvs ws++ [.lst (aq vs)])=nH j2 .non (rvs (ws++ [vs])):=by rw[nK];unfold nH;rw[po]
     rw[eq]at bd
     have ih:=AB k x0 a f ns b hb td hd dd N cb hc g (ws++ [vs]) j2 (by simp) (fun ys hy=>by
      rcases aeF.mp hy with z|z
      .exact hg ys z
      .rw[aeo.mp z];exact b4) (by rw[aei,aev];lia) b2 ⋯
     dsimp only
     cases e3:YD (fun x=>bX t ns x) t b cb g j2 with
     |error p=>rw[e3]at ih;obtain⟨e',fs,fp,ih⟩:=ih;exact⟨e',fs,fp,eI ly bd ih nofun⟩
     |ok u=>obtain⟨us,l⟩:=u;rw[e3]at ih;dsimp only at ih;rw[aeK]at ih;exact eI ly bd ih nofun
  .rw[ajB q];rw[ajv q]at ly;dsimp only;rw[aep];exact gQ ly
end
theorem Lp{c:Nat}(hc:c∈aI)(hb:sgn b):Ys c b∈aI:=by
 cases b with
 |nil=>exact hc
 |cons x b=>exact hb x (by simp)
section
variable(t:Y1)(ht:sgn t)(hz:t.length<=16000000)
include ht hz
theorem MS(k:Nat)(x0:Y1)(a:Y1)(f:Ya)(ns:List Nd)(b:Y1)(hb:sgn b)(td:O3 ns)(hd:hdT ns=true)(dd:M6 ns<=20)(hu:uS ns+b.length<=14000000)(N:NR t (k+3) ns):LR t (k+4) (.loop x0 a f ns b):=fun i r hi=>by
 obtain⟨c,s,q,he,h1,cs⟩:=uF hd td;have cbs:=Lp (b:=b) cs hb;have ru:L (k+4) .Ru [nd (.loop x0 a f ns b),.str t,.ref 0] [dS i .non]=fO (mL (F (k+3)) (L (k+3))) 3 5 [nd (.loop x0 a f ns b),.str t,.ref 0] [dS i .non]:=rfl;have d0:=tK;have d1:=zg;have li:=nhI;have i3:=fun h=>(mI h x0 a f ns b).2.2.2.1;have i4:=fun h=>(mI h x0 a f ns b).2.2.2.2
 have sl:(c::s).length<=16777216:=by
  have:uS ns<=14000000:=by lia
  rw[he,uS,uN]at this
  lia
 have j0:∀h,j5 (.tup (g8 ns)) (.int 0) h=.ok (nd (.text (c::s))) h:=fun h=>by rw[he,g8];show(match Sy (nd (.text (c::s))::g8 q) 0 with|some v=>Res.ok (aA h v) h|none=>.bad)=_;rw[at0];show Res.ok (aA h _) h=_;rw[bR]
 have j1:=fun h=>(pK h (c::s)).2
 have fst:∀(z:Y1)(y:Nat),(y::z).length<=16777216->∀h,j5 (.str (y::z)) (.int 0) h=.ok (.str [y]) h:=fun z y hz h=>by show(match Sy (y::z) 0 with|some v=>if(y::z).length<=ajx then Res.ok (PV.str [v]) h else .bad|none=>.bad)=_;rw[at0];dsimp only;rw[ajz (by rw[szl];exact hz)]
 have j2:=fst s c sl;have mk:aG 3 aaW [nd (.loop x0 a f ns b),PV.str t,PV.ref 0,none,none] [dS i .non]=.nx [nd (.loop x0 a f ns b),PV.str t,PV.ref 0,PV.ref 1,none] (nH i .non []):=rfl
 have m4:aG 4 ac4 [nd (.loop x0 a f ns b),PV.str t,PV.ref 0,PV.ref 1,none] (nH i .non [])=.nx (lE t (.loop x0 a f ns b) c) (nH i .non []):=by simp[EV,lE,bR,i3,j0,j1,j2]
 have fin:∀{e:Int}{on:PV}{fs:Y2}{c':Nat},bo lT (cH (F (k+3)) (L (k+3))) (lE t (.loop x0 a f ns b) c) (nH i .non [])=.nx (lE t (.loop x0 a f ns b) c') (nH e on fs)->ai fs=true->(dS e on).pure=true->L (k+4) .Ru [nd (.loop x0 a f ns b),.str t,.ref 0] [dS i .non]=.ok (.lst fs) [dS e on]:=fun{e on fs c'} w fp op=>by rw[ru];refine gB rfl ((sq mk).trans ((sq m4).trans ((sq w).trans ?_))) (xR e on fs fp op);simp[EV,lE,d1]
 have ly:=Eu t ht hz (.loop x0 a f ns b) c cs i [];rw[VH,h1]
 by_cases p:t[i]? =some c
 .rw[ajz p];rw[ajw p]at ly;obtain⟨x,o,xp,op,rs,pe⟩:=N i hi;obtain⟨oa,on,rfl⟩:=Aq rs;have c2:z_ (L (k+3) .u6) [.tup (g8 ns),.str t,.ref 0] (nH i .non [])=.ok x (nH oa on []):=gF [.tup (g8 ns),.str t] (by rw[ai,PV.pure,bv];rfl) (hM _) op xp pe
  have body:cH (F (k+3)) (L (k+3)) (lE t (.loop x0 a f ns b) c) (nH i .non [])=.nx (lE t (.loop x0 a f ns b) (Ys c b)) (nH oa on [x]):=by
   have ne:Tv (.ref 1) (.lst []) (nH i .non [])=.ok (.bl ajt) (nH i .non []):=Ix (fJ 59);have ap:aZ (.ref 1) [x] (nH oa on [])=.ok .non (nH oa on [x]):=xS oa on [] x ⋯;have ln:bS [.ref 1] (nH oa on [x])=.ok (.int 1) (nH oa on [x]):=rfl;have e1:∀h,v9 (.int 1) (.int 1) h=.ok (.bl true) h:=fun h=>rfl;have bl:b.length+1<=16777216:=by lia
   have jn:∀h,j5 (.str (b++ [c])) (.int 0) h=.ok (.str [Ys c b]) h:=fun h=>by
    cases b with
    |nil=>exact fst [] c (by simp) h
    |cons y b=>exact fst (b++ [c]) y (by simp at bl |-;lia) h
   simp[EV,cH,lE,bR,d0,d1,li,i3,i4,ne,c2,ar _ xp,ap,ln,e1,bl,jn]
  cases e:bX t ns i with
  |error z=>
   rw[e]at rs;obtain⟨e',po⟩:=rs;have eq:nH oa on [x]=nH e' (.int z) [x]:=by unfold nH;rw[po]
   rw[eq]at body;exact⟨.lst [x],dS e' (.int z),by simp[PV.pure,ai,xp],rfl,⟨e',rfl⟩,fin (eI ly body (gQ (Ew t (.loop x0 a f ns b) _ _ _ _)) nofun) (by rw[ai,xp];rfl) rfl⟩
  |ok v=>
   obtain⟨vs,j⟩:=v;rw[e]at rs;obtain⟨rfl,po⟩:=rs;obtain⟨b1,b2,b3,b4⟩:=dO t hz ns i vs j td hi e;have b3:=b3 hd;have eq:nH oa on [.lst (aq vs)]=nH j .non (rvs [vs]):=by unfold nH;rw[po];rfl
   rw[eq]at body;have ih:=AB t ht hz k x0 a f ns b hb td hd dd N (Ys c b) cbs (t.length+1) [vs] j (by simp) (fun ys hy=>by rw[aeo.mp hy];exact b4) (by simp;lia) b2 ⋯;dsimp only
   cases e3:YD (fun x=>bX t ns x) t b (Ys c b) (t.length+1) j with
   |error z=>rw[e3]at ih;obtain⟨e',fs,fp,ih⟩:=ih;exact⟨.lst fs,dS e' (.int z),by rw[PV.pure];exact fp,rfl,⟨e',rfl⟩,fin (eI ly body ih nofun) fp rfl⟩
   |ok u=>
    obtain⟨us,l⟩:=u;rw[e3]at ih;dsimp only at ih
    have S:∀i ys j,i<=t.length->bX t ns i=.ok (ys,j)->i<j/\j<=t.length/\gS ns ys:=fun i ys j hi h=>by obtain⟨a,b,c,d⟩:=dO t hz ns i ys j td hi h;exact⟨c hd,b,d⟩
    obtain⟨c1,Vs,c3,c4⟩:=vM S _ _ _ _ b2 e3
    have gp:ai (rvs ([vs]++us))=true:=cj ns _ fun ys hy=>by
     rcases aeF.mp hy with z|z
     .rw[aeo.mp z];exact b4
     .exact c4 ys z
    refine⟨.lst (rvs ([vs]++us)),dS l .non,by rw[PV.pure];exact gp,rfl,⟨⟨_,rfl,?_⟩,rfl⟩,fin (eI ly body ih nofun) gp rfl⟩;rw[K8,gR];rfl
 .rw[ajB p];rw[ajv p]at ly;exact⟨.lst [],dS i .non,rfl,rfl,⟨⟨.lst [],rfl,by rw[K8,aq]⟩,rfl⟩,fin (gQ ly) rfl rfl⟩
theorem DV:∀(d k:Nat)(l:List Nd),d<=20->O3 l->fo l=true->M6 l<=d->uS l<=14000000->NR t (k+2 * d+3) l
 |0,k,l,d20,td,hf,hd,hu=>Iw t ht hz k l td hf hu (fun nn hn z WD=>by
   have d1:=iS hn;have:=mZ WD
   lia) fun nn hn x a f ns b e=>by
   have d1:=iS hn;rw[e,dN]at d1
   lia
 |d+1,k,l,d20,td,hf,hd,hu=>by
  have g:∀k,∀nn∈l,∀z∈gw nn,NR t (k+2 * d+3) z:=fun k nn hn z WD=>by
   have t1:=ku hn td;have d1:=iS hn;have u1:=lq hn
   have fz:fo z=true:=by
    cases nn with
    |text s=>simp[gw]at WD
    |place a f w=>simp[gw]at WD
    |loop x a f ns b=>rw[SQ]at t1;simp only[gw,aeo]at WD;subst WD;exact t1.2.1
    |choice a f y n=>
     rw[SQ]at t1;simp only[gw,aek,aeO,ajP]at WD;rcases WD with rfl|rfl
     .exact t1.2.2.1
     .exact t1.2.2.2.1
   exact DV d k z ⋯ (qW WD t1) fz (by have:=mZ WD;lia) (by have:=qR WD;lia)
  have e:k+2 * (d+1)+3=(k+2 * d+2)+3:=by lia
  rw[e];refine Iw t ht hz _ l td hf hu (fun nn hn z WD=>?_) fun nn hn x a f ns b e=>?_
  .have:=g (k+1) nn hn z WD;have e2:k+1+2 * d+3=k+2 * d+2+2:=by lia
   rw[e2]at this;exact this
  .subst e;have t1:=ku hn td;have d1:=iS hn;have u1:=lq hn;rw[SQ]at t1;rw[dN]at d1;rw[uN]at u1;exact MS t ht hz (k+2 * d) x a f ns b t1.2.2.2 t1.2.2.1 t1.1 ⋯ ⋯ (g k _ hn ns (by simp[gw]))
end
noncomputable def Xd(t:Y1)(l:List Nd):Except Nat (List Fl):=match bX t l 0 with
 |.error p=>.error p
 |.ok (ys,j)=>if j<t.length then .error j else .ok ys
def jB{f:Sx}{np:Nat}{r:PV}(hl:ps.length=np)(e:f (ps.map some++aju (n - ps.length) none) []=.rt v h1)(g:aP v h1=.ok r):ag f np n ps=.ok r:=by unfold ag;rw[ajz hl,e];exact g
noncomputable def iM:Except Nat (List Fl)->PV
 |.ok ys=>.tup [.lst (aq ys)]
 |.error p=>.lst [.int p]
theorem KY(k:Nat)(t:Y1)(ht:sgn t)(hz:t.length<=16000000)(l:List Nd)(td:O3 l)(N:NR t (k+1) l):F (k+2) .Xn [.tup (g8 l),.str t]=.ok (iM (Xd t l)):=by
 obtain⟨x,o,xp,op,rs,pe⟩:=N 0 (aeL _);obtain⟨oa,on,rfl⟩:=Aq rs;have ru:F (k+2) .Xn [.tup (g8 l),.str t]=ag (jK (F (k+1)) (L (k+1))) 2 4 [.tup (g8 l),.str t]:=rfl;have mk:aG 2 abX [PV.tup (g8 l),PV.str t,none,none] []=.nx [PV.tup (g8 l),PV.str t,PV.ref 0,none] [dS (0:Nat) .non]:=rfl;have cl:z_ (L (k+1) .u6) [.tup (g8 l),.str t,.ref 0] [dS (0:Nat) .non]=.ok x [dS oa on]:=dB (fn:=L (k+1) .u6) [.tup (g8 l),.str t] [] (by rw[ai,PV.pure,bv];rfl) rfl (h:=[dS (0:Nat) .non]) (i:=0) rfl rfl pe xp op;have d0:=dsD;have ia:=dsA;have i0:=Qm;have i1:=Ql;have sn:=stN;have z1:t.length<=16777216:=by lia
 rw[ru];unfold Xd
 cases e:bX t l 0 with
 |error p=>
  rw[e]at rs;obtain⟨e',po⟩:=rs;rw[po]at cl;have fz:∀h,aP (.lst [.int p]) h=.ok (.lst [.int p]):=fun h=>eK h rfl
  have:jK (F (k+1)) (L (k+1)) [PV.tup (g8 l),PV.str t,none,none] []=.rt (.lst [.int p]) [dS e' (.int p)]:=by unfold jK;refine(sq mk).trans ?_;simp[EV,d0,cl,i1,is1,tM,aeS,ajQ,ar _ xp]
  exact jB rfl this (fz _)
 |ok q=>
  obtain⟨ys,j⟩:=q;rw[e]at rs;obtain⟨rfl,po⟩:=rs;rw[po]at cl;dsimp only
  by_cases q:j<t.length
  .rw[ajz q];have dj:decide ((j:Int)<(t.length:Int))=true:=ajw ⋯
   have:jK (F (k+1)) (L (k+1)) [PV.tup (g8 l),PV.str t,none,none] []=.rt (.lst [.int j]) [dS j (.int j)]:=by unfold jK;refine(sq mk).trans ?_;simp[EV,d0,cl,ia,i0,i1,is0,is1,qc,tM,sn,z1,dj,ajA,aeS,ajQ,ar _ xp]
   exact jB rfl this (eK _ rfl)
  .rw[ajB q];have dj:decide ((j:Int)<(t.length:Int))=ajt:=ajv ⋯
   have tp:(PV.tup [.lst (aq ys)]).pure=true:=by rw[PV.pure]at xp;simp[PV.pure,ai,xp]
   have:jK (F (k+1)) (L (k+1)) [PV.tup (g8 l),PV.str t,none,none] []=.rt (.tup [.lst (aq ys)]) [dS j .non]:=by unfold jK;refine(sq mk).trans ?_;simp[EV,d0,cl,ia,i0,i1,is0,is1,qc,tM,sn,z1,dj,ajA,aeS,ajQ,ar _ xp]
   exact jB rfl this (eK _ tp)
def Gc(k:Nat):F (k+1) .signs []=.ok (.str aI):=by kernel_rfl
def flt(f:Nat->Bool):Y1:=(aI).filter f
def my(k:Nat)(l m:Y1):F (k+2) .o8 [.str l,.str m]=.ok (.str (flt fun c=>l.contains c||m.contains c)):=by
 have s1:∀h,aR (F (k+1) .signs) [] h=.ok (.str aI) h:=fun h=>aH h rfl (Gc k)
 have cm:∀h,cJ (gP (F (k+1))) (hK (F (k+1))) [PV.str l,PV.str m] ((aI).map fun c=>PV.str [c]) h=.ok (((flt fun c=>l.contains c||m.contains c).map fun c=> [c]).map PV.str) h:=fun h=>by
  rw[wk (fun c=>PV.str [c]) (fun c=>l.contains c||m.contains c) (fun c=>PV.str [c]) aI (fun c _=>by
   simp[EV,gP,cR,cO]
   cases l.contains c<;>simp only[aiO,ajo,ajA,aeS,ajQ]) (fun c _=>by simp[EV,hK])]
  rw[afe];rfl
 have hl:(flt fun c=>l.contains c||m.contains c).length<=95:=aeI (agG _ _) ⋯;have jn:∀h,eJ (.str []) [.lst (((flt fun c=>l.contains c||m.contains c).map fun c=> [c]).map PV.str)] h=.ok (.str ((flt fun c=>l.contains c||m.contains c).map fun c=> [c]).flatten) h:=fun h=>ya (by rw[qx];lia) h;have cp:cU [0,1] [some (PV.str l),some (.str m)]=[some (.str l),some (.str m)]:=rfl;have si:∀h,jA (.str aI) h=.ok ((aI).map fun c=>PV.str [c]) h:=fun _=>rfl;have ln:((aI).map fun c=>PV.str [c]).length<16777216:=by rw[aes];decide
 show ag (iT (F (k+1))) 2 2 [.str l,.str m]=_;simp[EV,ag,iT,s1,si,cp,cm,jn,ln,qx,aP]
def Lu(k:Nat)(c:Nat)(hc:c∈aI):F (k+2) .o8 [.str [],.str [c]]=.ok (.str [c]):=by
 rw[my]
 congr 2
 have:∀c∈aI,(flt fun d=>([]:Y1).contains d||([c]:Y1).contains d)=[c]:=by decide+kernel
 exact this c hc
def Ls(k:Nat)(c:Nat)(hc:c∈aI):F (k+2) .o8 [.str [c],.str []]=.ok (.str [c]):=by
 rw[my]
 congr 2
 have:∀c∈aI,(flt fun d=>([c]:Y1).contains d||([]:Y1).contains d)=[c]:=by decide+kernel
 exact this c hc
def wbg:Nat->Y1
 |0=>aM
 |1=> [45,48,49,50,51,52,53,54,55,56,57]
 |2=> [34]
 |3=>(aI).filter fun c=>![10,38,60,62,124].contains c
 |_=>(aI).filter fun c=>![10].contains c
theorem Ef(k:Nat)(a:Y1)(f:Ya):∀w,w<5->F (k+6) .Q6 [nd (.place a f w)]=.ok (.tup [.str (wbg w),.bl (decide (3<=w))])
 |0,_=>by kernel_rfl
 |1,_=>by kernel_rfl
 |2,_=>by kernel_rfl
 |3,_=>by kernel_rfl
 |4,_=>by kernel_rfl
 |n+5,h=>absurd h ⋯
def kI(s:Y1)(b:Bool)(h:Y3):aP (.tup [.str s,.bl b]) h=.ok (.tup [.str s,.bl b]):=eK h (by simp[PV.pure,ai])
def sU(s:Y1)(b:Bool)(h:Y3):aA h (.tup [.str s,.bl b])=.tup [.str s,.bl b]:=ar h (by simp[PV.pure,ai])
def Ay(k:Nat){c:Nat}{s:Y1}(h:sgn (c::s))(hl:s.length<=15000000):F (k+1) .Q6 [nd (.text (c::s))]=.ok (.tup [.str [c],.bl ajt]):=by
 have e2:∀hh,v9 (.str (c::s)) (.str []) hh=.ok (.bl ajt) hh:=fun hh=>by rw[iQ (c::s) [] hh (fun x hx=>dI x (h x hx)) (by simp)];rfl
 have i0:=fun h=>(pK h (c::s)).1;have i1:=fun h=>(pK h (c::s)).2;have ct:cut (c::s) none (some (1:Int))=[c]:=ng (c::s) 1;have z1:s.length+1<=16777216:=by lia
 have tp:∀h,aW [.str [c],.bl ajt] h=.ok (.tup [.str [c],.bl ajt]) h:=fun _=>rfl;show ag (ei (F k)) 1 6 [nd (.text (c::s))]=_;simp[EV,bC,ag,ei,bR,i0,i1,Vt,e2,ct,z1,aeh];exact kI _ _ _
def NB(K:Nat)(n:Nd):Prop:=∃s b,F K .Q6 [nd n]=.ok (.tup [.str s,.bl b])
def Az{n:Nd}{s:Y1}{b:Bool}(e:F K .Q6 [nd n]=.ok (.tup [.str s,.bl b]))(h:Y3):aR (F K .Q6) [nd n] h=.ok (.tup [.str s,.bl b]) h:=aH h (by rw[ai,iD];rfl) e
def Ly(k:Nat):F (k+1) .begins [.tup []]=.ok (.tup [.str [],.bl true]):=by kernel_rfl
def Bb(k:Nat){c:Nat}{s:Y1}{r:List Nd}(h:sgn (c::s))(hl:s.length<=15000000):F (k+3) .begins [.tup (g8 (.text (c::s)::r))]=.ok (.tup [.str [c],.bl ajt]):=by
 have nb:=Az (Ay (k+1) h hl);have sb:∀hh,aR (F (k+2) .o8) [.str [],.str [c]] hh=.ok (.str [c]) hh:=fun hh=>aH hh rfl (Lu k c (h c (by simp)))
 have st:dZ (F (k+2)) [PV.tup (g8 (.text (c::s)::r)),PV.str [],nd (.text (c::s)),none] []=.rt (.tup [.str [c],.bl ajt]) []:=by have tp:∀h,aW [.str [c],.bl ajt] h=.ok (.tup [.str [c],.bl ajt]) h:=fun _=>rfl;simp[EV,dZ,bR,nb,sb,at0,Xp,sU]
 have lp:bc (P0 2) (dZ (F (k+2))) (g8 (.text (c::s)::r)) [PV.tup (g8 (.text (c::s)::r)),PV.str [],none,none] []=.rt (.tup [.str [c],.bl ajt]) []:=by
  have e:g8 (.text (c::s)::r)=nd (.text (c::s))::g8 r:=by rw[g8]
  rw[e]at st |-;exact nV rfl st
 have si:∀h,jA (.tup (g8 (.text (c::s)::r))) h=.ok (g8 (.text (c::s)::r)) h:=fun _=>rfl;show ag (kq (F (k+2))) 1 4 [.tup (g8 (.text (c::s)::r))]=_;simp[EV,ag,kq,si,lp];exact kI _ _ _
theorem Lx(k:Nat)(n:Nd)(N:NB (k+2) n):∃s b,F (k+3) .begins [.tup [nd n]]=.ok (.tup [.str s,.bl b]):=by
 obtain⟨s,b,nb⟩:=N;have nb:=Az nb;have sb:∀hh,aR (F (k+2) .o8) [.str [],.str s] hh=.ok (.str (flt fun c=>([]:Y1).contains c||s.contains c)) hh:=fun hh=>aH hh rfl (my k [] s);generalize(flt fun c=>([]:Y1).contains c||s.contains c)=s2 at sb;refine⟨s2,b,?_⟩;have tp:∀b h,aW [.str s2,.bl b] h=.ok (.tup [.str s2,.bl b]) h:=fun _ _=>rfl;have si:∀h,jA (.tup [nd n]) h=.ok [nd n] h:=fun _=>rfl;have dt:∀h,aA h (.tup [nd n])=.tup [nd n]:=fun h=>ar h (by rw[PV.pure,ai,iD];rfl);show ag (kq (F (k+2))) 1 4 [.tup [nd n]]=_
 cases b with
 |false=>
  have st:dZ (F (k+2)) [PV.tup [nd n],PV.str [],nd n,none] []=.rt (.tup [.str s2,.bl ajt]) []:=by simp[EV,dZ,bR,nb,sb,at0,Xp,sU]
  have lp:bc (P0 2) (dZ (F (k+2))) [nd n] [PV.tup [nd n],PV.str [],none,none] []=.rt (.tup [.str s2,.bl ajt]) []:=nV rfl st;simp[EV,ag,kq,si,dt,lp];exact kI _ _ _
 |true=>
  have st:dZ (F (k+2)) [PV.tup [nd n],PV.str [],nd n,none] []=.nx [PV.tup [nd n],PV.str s2,nd n,PV.tup [.str s,.bl true]] []:=by simp[EV,dZ,bR,nb,sb,at0,Xp,sU]
  have lp:bc (P0 2) (dZ (F (k+2))) [nd n] [PV.tup [nd n],PV.str [],none,none] []=.nx [PV.tup [nd n],PV.str s2,nd n,PV.tup [.str s,.bl true]] []:=(cC rfl st).trans rfl;simp[EV,ag,kq,si,dt,lp];exact kI _ _ _
noncomputable def bp(s:Y1)(b:Bool):PV:=.tup [.str s,.bl b]
def iz(s:Y1)(b:Bool):(bp s b).pure=true:=by simp[bp,PV.pure,ai]
def mz(k:Nat)(l:List Nd)(hl:l= []\/hdT l=true)(td:O3 l)(hu:uS l<=14000000):∃s b,F (k+3) .begins [.tup (g8 l)]=.ok (bp s b)/\(l= []->s= []/\b=true)/\(hdT l=true->s= [J0 l]/\b=ajt):=by
 rcases hl with rfl|h
 .exact⟨[],true,by rw[g8];exact Ly (k+2),fun _=>⟨rfl,rfl⟩,fun z=>by cases z⟩
 .obtain⟨c,s,q,e,h1,cs⟩:=uF h td;rw[h1];subst e;rw[O3,SQ]at td;rw[uS,uN,aeh]at hu;exact⟨[c],ajt,Bb k td.1.2 ⋯,fun z=>by(cases z),fun _=>⟨rfl,rfl⟩⟩
theorem Km(k:Nat)(n:Nd)(td:SQ n)(hu:uN n<=14000000):NB (k+6) n:=by
 cases n with
 |text s=>
  rw[SQ]at td;rw[uN]at hu
  cases s with
  |nil=>exact absurd rfl td.1
  |cons c s=>rw[aeh]at hu;exact⟨_,_,Ay (k+5) td.2 ⋯⟩
 |place a f w=>rw[SQ]at td;exact⟨_,_,Ef k a f w td⟩
 |loop x a f ns b=>rw[SQ]at td;rw[uN]at hu;obtain⟨c,s,q,e,h1,cs⟩:=uF td.1 td.2.2.1;obtain⟨s',b',be,_,b2⟩:=mz (k+2) ns (.inr td.1) td.2.2.1 ⋯;obtain⟨rfl,rfl⟩:=b2 td.1;rw[h1]at be;have be:∀h,aR (F (k+5) .begins) [.tup (g8 ns)] h=.ok (bp [c] ajt) h:=fun h=>aH h (by rw[ai,PV.pure,bv];rfl) be;have sb:∀hh,aR (F (k+5) .o8) [.str [c],.str []] hh=.ok (.str [c]) hh:=fun hh=>aH hh rfl (Ls (k+3) c cs);have i:=fun h=>mI h x a f ns b;have dt:∀h,aA h (.tup (g8 ns))=.tup (g8 ns):=fun _=>rfl;refine⟨[c],true,?_⟩;show ag (ei (F (k+5))) 1 6 [nd (.loop x a f ns b)]=_;unfold bp at be;simp[EV,ag,ei,bR,(i _).1,(i _).2.2.2.1,Vt,dt,be,sb,at0,Xp,sU];exact kI _ _ _
 |choice a f y n=>
  rw[SQ]at td;rw[uN]at hu;obtain⟨s1,b1,y1,_,_⟩:=mz (k+2) y td.1 td.2.2.2.2.1 ⋯;obtain⟨s2,b2,n1,_,_⟩:=mz (k+2) n td.2.1 td.2.2.2.2.2 ⋯;have y1:∀h,aR (F (k+5) .begins) [.tup (g8 y)] h=.ok (bp s1 b1) h:=fun h=>aH h (by rw[ai,PV.pure,bv];rfl) y1;have n1:∀h,aR (F (k+5) .begins) [.tup (g8 n)] h=.ok (bp s2 b2) h:=fun h=>aH h (by rw[ai,PV.pure,bv];rfl) n1;have sb:∀hh,aR (F (k+5) .o8) [.str s1,.str s2] hh=.ok (.str (flt fun c=>s1.contains c||s2.contains c)) hh:=fun hh=>aH hh rfl (my (k+3) s1 s2);have i:=fun h=>pL h a f y n;have dt:∀l h,aA h (.tup (g8 l))=.tup (g8 l):=fun _ _=>rfl;generalize(flt fun c=>s1.contains c||s2.contains c)=s3 at sb;refine⟨s3,b1||b2,?_⟩
  have or':Yg adl adk [nd (.choice a f y n),none,none,none,bp s1 b1,bp s2 b2] []=.ok (.bl (b1||b2)) []:=by
   rw[AZ (b:=b1) (by unfold bp;simp[EV,Xp,sU])]
   cases b1
   .rw[ajB ⋯];unfold bp;simp[EV,Xp,sU,ajo]
   .rfl
  show ag (ei (F (k+5))) 1 6 [nd (.choice a f y n)]=_;unfold bp at y1 n1 or';simp[EV,ag,ei,bR,(i _).1,(i _).2.2.1,(i _).2.2.2,Vt,dt,y1,n1,sb,at0,Xp,sU,or'];exact kI _ _ _
def Oe(k:Nat)(l:PV)(lp:l.pure=true)(s fs:Y1)(fb:Bool)(h:F (k+3) .begins [l]=.ok (bp s true)):F (k+4) .K6 [l,bp fs fb]=.ok (bp (flt fun c=>s.contains c||fs.contains c) fb):=by have be:∀hh,aR (F (k+3) .begins) [l] hh=.ok (bp s true) hh:=fun hh=>aH hh (by rw[ai,lp];rfl) h;have sb:∀hh,aR (F (k+3) .o8) [.str s,.str fs] hh=.ok (.str (flt fun c=>s.contains c||fs.contains c)) hh:=fun hh=>aH hh rfl (my (k+1) s fs);unfold bp at be |-;show ag (hX (F (k+3))) 2 3 [l,.tup [.str fs,.bl fb]]=_;simp[EV,ag,hX,ar _ lp,be,sb,at0,Xp,sU];exact kI _ _ _
def Lw(k:Nat)(l:PV)(lp:l.pure=true)(s fs:Y1)(fb:Bool)(h:F (k+3) .begins [l]=.ok (bp s ajt)):F (k+4) .K6 [l,bp fs fb]=.ok (bp s ajt):=by have be:∀hh,aR (F (k+3) .begins) [l] hh=.ok (bp s ajt) hh:=fun hh=>aH hh (by rw[ai,lp];rfl) h;unfold bp at be |-;show ag (hX (F (k+3))) 2 3 [l,.tup [.str fs,.bl fb]]=_;simp[EV,ag,hX,ar _ lp,be,at0,Xp,sU];exact kI _ _ _
theorem Lv(k:Nat)(n:Nd)(td:SQ n)(hu:uN n<=14000000)(fs:Y1)(fb:Bool):∃s b,F (k+8) .K6 [.tup [nd n],bp fs fb]=.ok (bp s b)/\∀r,hdT (n::r)=true->s= [J0 (n::r)]/\b=ajt:=by
 have lp:(PV.tup [nd n]).pure=true:=by rw[PV.pure,ai,iD];rfl
 cases e:Wa n with
 |true=>
  obtain⟨s,rfl⟩:∃s,n=.text s:=by cases n<;>first|exact⟨_,rfl⟩|cases e
  rw[SQ]at td;rw[uN]at hu
  cases s with
  |nil=>exact absurd rfl td.1
  |cons c s=>rw[aeh]at hu;have:=Bb (k+4) (r:=[]) td.2 ⋯;rw[g8,g8]at this;exact⟨[c],ajt,Lw (k+4) _ lp [c] fs fb this,fun r _=>⟨rfl,rfl⟩⟩
 |false=>
  obtain⟨s,b,h⟩:=Lx (k+4) n (Km k n td hu)
  cases b with
  |true=>exact⟨_,_,Oe (k+4) _ lp s fs fb h,fun r z=>by cases n<;>first|(simp[Wa]at e;done)|(simp[hdT]at z;done)⟩
  |false=>exact⟨_,_,Lw (k+4) _ lp s fs fb h,fun r z=>by cases n<;>first|(simp[Wa]at e;done)|(simp[hdT]at z;done)⟩
def Ba(k:Nat)(y r:List Nd)(hy:y= []\/hdT y=true)(ty:O3 y)(hu:uS y<=14000000)(hr:hdT r=true)(tr:O3 r):F (k+4) .K6 [.tup (g8 y),bp [J0 r] ajt]=.ok (bp [J0 (y++r)] ajt):=by
 have lp:(PV.tup (g8 y)).pure=true:=by rw[PV.pure];exact bv y
 obtain⟨s,b,e,e0,e1⟩:=mz k y hy ty hu;rcases hy with rfl|h
 .obtain⟨rfl,rfl⟩:=e0 rfl;obtain⟨c,s,q,_,h1,cs⟩:=uF hr tr;have:=Oe k _ lp [] [J0 r] ajt e;rw[this];have g:∀c∈aI,(flt fun d=>([]:Y1).contains d||([c]:Y1).contains d)=[c]:=by decide+kernel
  rw[aeN,h1,g c cs]
 .obtain⟨rfl,rfl⟩:=e1 h;rw[Lw k _ lp _ _ _ e];obtain⟨c,s,q,rfl,h1,cs⟩:=uF h ty;rfl
mutual
noncomputable def Vj:Nd->List Nd->PV
 |.text s,_=>.tup [.str tT,.str s]
 |.place _ _ w,_=>.tup [.str tP,.ins w []]
 |.loop _ _ _ ns b,_=>.tup [.str tL,.str [J0 ns],.lst (bj ns),.str b]
 |.choice _ _ y n,r=>.tup [.str tC,.tup [bp [J0 (y++r)] ajt,.lst (bj y)],.tup [bp [J0 (n++r)] ajt,.lst (bj n)]]
noncomputable def bj:List Nd->Y2
 |[]=>[]
 |n::r=>Vj n r::bj r
end
mutual
theorem nQ:∀(n:Nd)(r:List Nd),(Vj n r).pure=true
 |.text s,r=>rfl
 |.place a f w,r=>rfl
 |.loop x a f ns b,r=>by rw[Vj];simp[PV.pure,ai,dw ns]
 |.choice a f y n,r=>by rw[Vj];simp[bp,PV.pure,ai,dw y,dw n]
theorem dw:∀(l:List Nd),ai (bj l)=true
 |[]=>rfl
 |n::r=>by rw[bj,ai,nQ n r,dw r];rfl
end
def FW:List Nd->Y2->Prop
 |[],fs=>fs= []
 |n::r,fs=>∃s b t,fs=bp s b::t/\(hdT r=true->s= [J0 r]/\b=ajt)/\FW r t
theorem wh:∀(l:List Nd)(fs:Y2),FW l fs->ai fs=true
 |[],fs,h=>by rw[FW]at h;subst h;rfl
 |n::r,fs,h=>by rw[FW]at h;obtain⟨s,b,t,rfl,_,h⟩:=h;rw[ai,iz,wh r t h];rfl
theorem AK(k:Nat)(x0 x1:Option PV):∀(m r:List Nd)(ts:Y2)(s:Y1)(b:Bool)(x4:Option PV),(∀n∈m,SQ n/\uN n<=14000000)->FW r ts.reverse->(hdT r=true->s= [J0 r]/\b=ajt)->ts.length+m.length<=15000000->∃us s' b' y4,FW (m.reverse++r) us.reverse/\bc (P0 4) (gu (F (k+8))) (m.map nd) [x0,x1,PV.ref 0,bp s b,x4] [.lst ts]=.nx [x0,x1,PV.ref 0,bp s' b',y4] [.lst us]
 |[],r,ts,s,b,x4,td,fw,hd,hl=>⟨ts,s,b,x4,fw,rfl⟩
 |n::m,r,ts,s,b,x4,td,fw,hd,hl=>by
  rw[aeh]at hl;have tn:=td n (by simp);obtain⟨s2,b2,be,h2⟩:=Lv k n tn.1 tn.2 s b;have be:∀h,aR (F (k+8) .K6) [.tup [nd n],bp s b] h=.ok (bp s2 b2) h:=fun h=>aH h (by simp[ai,PV.pure,iD,iz]) be;have sl:ts.length<16777216:=by lia
  have dp:=fun h=>ar h (iz s b)
  have st:gu (F (k+8)) [x0,x1,PV.ref 0,bp s b,nd n] [.lst ts]=.nx [x0,x1,PV.ref 0,bp s2 b2,nd n] [.lst (ts++ [bp s b])]:=by have tp:∀h,aW [nd n] h=.ok (.tup [nd n]) h:=fun _=>rfl;simp[EV,gu,bR,dp,iW,yu,mX,sl,be]
  obtain⟨us,s',b',y4,f2,e⟩:=AK k x0 x1 m (n::r) (ts++ [bp s b]) s2 b2 (some (nd n)) (fun z hz=>td z (by simp[hz])) (by rw[List.reverse_append,List.reverse_singleton,afn,FW];exact⟨s,b,ts.reverse,rfl,hd,fw⟩) (h2 r) (by rw[aei,aev];lia)
  refine⟨us,s',b',y4,?_,?_⟩
  .rw[ahj,aeK];exact f2
  .rw[aeA];exact(cC rfl st).trans e
def wj(k:Nat)(l:List Nd)(td:O3 l)(hu:uS l<=14000000)(s:Y1)(b:Bool):∃fs,FW l fs/\F (k+9) .Uj [.tup (g8 l),bp s b]=.ok (.lst fs):=by
 obtain⟨us,s',b',y4,fw,e⟩:=AK k (some (.tup (g8 l))) (some (bp s b)) l.reverse [] [] s b none (fun n hn=>by have hn:=List.mem_reverse.mp hn;exact⟨ku hn td,by have:=lq hn;lia⟩) (by rw[List.reverse_nil,FW]) (fun z=>by cases z) (by have:=gY td;simp;lia)
 rw[List.reverse_reverse,aep]at fw;refine⟨us.reverse,fw,?_⟩;have up:ai us.reverse=true:=wh l _ fw
 have rv:∀h,Ds [.tup (g8 l)] h=.ok (l.reverse.map nd) h:=fun h=>by show Res.ok (g8 l).reverse h=_;rw[fH,List.map_reverse]
 have dp:=fun h=>ar h (iz s b);have mk:aG 2 aaW [PV.tup (g8 l),bp s b,none,none,none] []=.nx [PV.tup (g8 l),bp s b,PV.ref 0,none,none] [.lst []]:=rfl
 have s3:aG 3 (ac 1) [PV.tup (g8 l),bp s b,PV.ref 0,none,none] [.lst []]=.nx [PV.tup (g8 l),bp s b,PV.ref 0,bp s b,none] [.lst []]:=by simp[EV,dp]
 have lp:ik (Ii aaq) (P0 4) (gu (F (k+8))) [PV.tup (g8 l),bp s b,PV.ref 0,bp s b,none] [.lst []]=.nx [PV.tup (g8 l),bp s b,PV.ref 0,bp s' b',y4] [.lst us]:=by rw[<- e];have:Ii aaq [PV.tup (g8 l),bp s b,PV.ref 0,bp s b,none] [.lst []]=.ok (l.reverse.map nd) [.lst []]:=rv _;unfold ik;rw[this];rfl
 have rt:aQ (Fk aaB) [PV.tup (g8 l),bp s b,PV.ref 0,bp s' b',y4] [.lst us]=.rt (.lst us.reverse) [.lst us]:=rfl;show ag (pS (F (k+8))) 2 5 [.tup (g8 l),bp s b]=_;exact jB rfl ((sq mk).trans ((sq s3).trans ((sq lp).trans rt))) (eK _ (by rw[PV.pure];exact up))
def PN(K:Nat)(l:List Nd):Prop:=∀s b,F K .q_ [.tup (g8 l),bp s b]=.ok (.lst (bj l))
def P1(K:Nat)(n:Nd)(r:List Nd):Prop:=∀s b,(hdT r=true->s= [J0 r]/\b=ajt)->F K .prepared [nd n,bp s b]=.ok (Vj n r)
def qv{l:List Nd}(h:PN K l)(s:Y1)(b:Bool)(hh:Y3):aR (F K .q_) [.tup (g8 l),bp s b] hh=.ok (.lst (bj l)) hh:=aH hh (by simp[ai,PV.pure,bv,iz]) (h s b)
theorem Ob(k:Nat)(x a:Y1)(f:Ya)(ns:List Nd)(b:Y1)(hb:sgn b)(bl:b.length<=15000000)(hd:hdT ns=true)(td:O3 ns)(hu:uS ns<=14000000)(s:Y1)(u:Bool):∃s2,F (k+9) .R3 [nd (.loop x a f ns b),bp s u]=.ok (bp s2 u):=by
 obtain⟨s',b',be,_,b2⟩:=mz (k+5) ns (.inr hd) td hu;obtain⟨rfl,rfl⟩:=b2 hd;have be:∀h,aR (F (k+8) .begins) [.tup (g8 ns)] h=.ok (.tup [.str [J0 ns],.bl ajt]) h:=fun h=>aH h (by rw[ai,PV.pure,bv];rfl) be;have sb:∀z hh,aR (F (k+8) .o8) [.str s,.str z] hh=.ok (.str (flt fun c=>s.contains c||z.contains c)) hh:=fun z hh=>aH hh rfl (my (k+6) s z);have i:=fun h=>mI h x a f ns b;have z1:b.length<=16777216:=by lia
 have ct:=ng b 1;have tp:∀z h,aP (.tup [.str z,.bl u]) h=.ok (.tup [.str z,.bl u]):=fun z h=>kI z u h;show∃s2,ag (gC (F (k+8))) 2 3 [nd (.loop x a f ns b),.tup [.str s,.bl u]]=.ok (.tup [.str s2,.bl u])
 cases b with
 |nil=>have tr:∀h,oH h (.str [])=some ajt:=fun _=>rfl;refine⟨flt fun c=>s.contains c|| [J0 ns].contains c,?_⟩;simp[EV,bC,ag,gC,bR,(i _).2.2.2.1,(i _).2.2.2.2,tr,be,sb,at0,Xp,sU];exact tp _ _
 |cons c b=>
  have tr:∀h,oH h (.str (c::b))=some true:=fun _=>by rw[aeh]at bl;simp[oH,szl];lia
  refine⟨flt fun d=>s.contains d||((c::b).take 1).contains d,?_⟩;have ct:cut (c::b) none (some (1:Int))=(c::b).take 1:=ng (c::b) 1;generalize(c::b).take 1=q at*;generalize c::b=bb at*;simp[EV,bC,ag,gC,bR,(i _).2.2.2.1,(i _).2.2.2.2,tr,be,sb,at0,Xp,sU,z1,ct];exact tp _ _
def Av(k:Nat)(s:Y1)(r:List Nd):P1 (k+1) (.text s) r:=fun z b _=>by have eP:∀h,v9 (.str tT) (.str tP) h=.ok (.bl ajt) h:=Rw ajt;have eL:∀h,v9 (.str tT) (.str tL) h=.ok (.bl ajt) h:=Rw ajt;have eC:∀h,v9 (.str tT) (.str tC) h=.ok (.bl ajt) h:=Rw ajt;have i0:=fun h=>(pK h s).1;show ag (eW (F k)) 2 5 [nd (.text s),bp z b]=.ok (.tup [.str tT,.str s]);simp[EV,ag,eW,bR,i0,eP,eL,eC];rw[nd];exact eK _ rfl
def xL(k:Nat)(a:Y1)(f:Ya)(w:Nat)(hw:w<5)(r:List Nd):P1 (k+2) (.place a f w) r:=fun z b _=>by have i:=fun h=>yb h a f w;have eP:∀h,v9 (.str tP) (.str tP) h=.ok (.bl true) h:=Rw true;have y:∀h,aR (F (k+1) .SN) [.str (ca w)] h=.ok (.ins w []) h:=fun h=>aH h rfl (zW k w hw);have di:∀h,aA h (.ins w [])=.ins w []:=fun _=>rfl;show ag (eW (F (k+1))) 2 5 [nd (.place a f w),bp z b]=.ok (.tup [.str tP,.ins w []]);simp[EV,ag,eW,bR,(i _).1,(i _).2.2,eP,y,di];exact eK _ rfl
def GR(k:Nat)(x a:Y1)(f:Ya)(ns:List Nd)(b:Y1)(hb:sgn b)(bl:b.length<=15000000)(hd:hdT ns=true)(td:O3 ns)(hu:uS ns<=14000000)(N:PN (k+9) ns)(r:List Nd):P1 (k+10) (.loop x a f ns b) r:=fun z u _=>by obtain⟨s2,br⟩:=Ob k x a f ns b hb bl hd td hu z u;have br:∀h,aR (F (k+9) .R3) [nd (.loop x a f ns b),bp z u] h=.ok (bp s2 u) h:=fun h=>aH h (by simp[ai,iD,iz]) br;obtain⟨s',b',be,_,b2⟩:=mz (k+6) ns (.inr hd) td hu;obtain⟨rfl,rfl⟩:=b2 hd;have be:∀h,aR (F (k+9) .begins) [.tup (g8 ns)] h=.ok (.tup [.str [J0 ns],.bl ajt]) h:=fun h=>aH h (by rw[ai,PV.pure,bv];rfl) be;have pn:=qv N s2 u;have i:=fun h=>mI h x a f ns b;have eP:∀h,v9 (.str tL) (.str tP) h=.ok (.bl ajt) h:=Rw ajt;have eL:∀h,v9 (.str tL) (.str tL) h=.ok (.bl true) h:=Rw true;have dp:=fun h=>ar h (iz z u);have pp:(Vj (.loop x a f ns b) r).pure=true:=nQ _ _;rw[Vj]at pp |-;show ag (eW (F (k+9))) 2 5 [nd (.loop x a f ns b),bp z u]=_;simp[EV,ag,eW,bR,(i _).1,(i _).2.2.2.1,(i _).2.2.2.2,eP,eL,dp,br,pn,be,at0,Xp];exact eK _ pp
def BU(k:Nat)(a:Y1)(f:Ya)(y n:List Nd)(ty:y= []\/hdT y=true)(tn:n= []\/hdT n=true)(sy:O3 y)(sn:O3 n)(uy:uS y<=14000000)(un:uS n<=14000000)(Y:PN (k+4) y)(N:PN (k+4) n)(r:List Nd)(hr:hdT r=true)(tr:O3 r):P1 (k+5) (.choice a f y n) r:=fun z u hz=>by obtain⟨rfl,rfl⟩:=hz hr;have by':∀h,aR (F (k+4) .K6) [.tup (g8 y),bp [J0 r] ajt] h=.ok (bp [J0 (y++r)] ajt) h:=fun h=>aH h (by simp[ai,PV.pure,bv,iz]) (Ba k y r ty sy uy hr tr);have bn':∀h,aR (F (k+4) .K6) [.tup (g8 n),bp [J0 r] ajt] h=.ok (bp [J0 (n++r)] ajt) h:=fun h=>aH h (by simp[ai,PV.pure,bv,iz]) (Ba k n r tn sn un hr tr);have py:=qv Y [J0 r] ajt;have pn:=qv N [J0 r] ajt;have i:=fun h=>pL h a f y n;have eP:∀h,v9 (.str tC) (.str tP) h=.ok (.bl ajt) h:=Rw ajt;have eL:∀h,v9 (.str tC) (.str tL) h=.ok (.bl ajt) h:=Rw ajt;have eC:∀h,v9 (.str tC) (.str tC) h=.ok (.bl true) h:=Rw true;have dt:∀l h,aA h (.tup (g8 l))=.tup (g8 l):=fun _ _=>rfl;have dp:=fun h=>ar h (iz [J0 r] ajt);have pp:(Vj (.choice a f y n) r).pure=true:=nQ _ _;rw[Vj]at pp |-;have q1:∀h,aA h (.tup [bp [J0 (y++r)] ajt,.lst (bj y)])=.tup [bp [J0 (y++r)] ajt,.lst (bj y)]:=fun h=>ar h (by simp[PV.pure,ai,iz,dw]);have q2:∀h,aA h (.tup [bp [J0 (n++r)] ajt,.lst (bj n)])=.tup [bp [J0 (n++r)] ajt,.lst (bj n)]:=fun h=>ar h (by simp[PV.pure,ai,iz,dw]);show ag (eW (F (k+4))) 2 5 [nd (.choice a f y n),bp [J0 r] ajt]=_;simp[EV,ag,eW,bR,(i _).1,(i _).2.2.1,(i _).2.2.2,eP,eL,eC,dt,dp,by',bn',py,pn,q1,q2];exact eK _ pp
theorem Au(k:Nat):∀(r:List Nd)(pre fs:Y2)(h:Y3),FW r fs->O3 r->(∀q1 n q2,r=q1++n::q2->P1 k n q2)->jQ bQ (eV (F k)) [PV.lst (pre++fs)] (Vi pre.length (g8 r)) h=.ok (bj r) h
 |[],pre,fs,h,fw,td,P=>by rw[g8,Vi,bj];rfl
 |n::r,pre,fs,h,fw,td,P=>by
  rw[FW]at fw;obtain⟨s,b,t,rfl,hd,fw⟩:=fw;rw[O3]at td;have p1:=P [] n r rfl s b hd;have p1:∀h,aR (F k .prepared) [nd n,bp s b] h=.ok (Vj n r) h:=fun h=>aH h (by simp[ai,iD,iz]) p1;have e1:g8 (n::r)=nd n::g8 r:=by rw[g8]
  have ix:∀h,j5 (.lst (pre++bp s b::t)) (.int (pre.length:Nat)) h=.ok (bp s b) h:=fun h=>by show(match Sy (pre++bp s b::t) (pre.length:Nat)with|some q=>Res.ok (aA h q) h|none=>.bad)=_;rw[eQ (v:=bp s b) ⋯ (by rw[ae7,aeD (by simp)];simp)];dsimp only;rw[ar h (iz s b)]
  have te:∀h,eV (F k) [PV.int (pre.length:Nat),nd n,PV.lst (pre++bp s b::t)] h=.ok (Vj n r) h:=fun h=>by simp[EV,eV,bR,ix,p1]
  have ih:=Au k r (pre++ [bp s b]) t h fw td.2 fun q1 m q2 e=>P (n::q1) m q2 (by rw[e];rfl);have ea:(pre++ [bp s b])++t=pre++bp s b::t:=by simp
  have el:(pre++ [bp s b]).length=pre.length+1:=by simp
  rw[ea,el]at ih;rw[e1,Vi,bj];unfold jQ;simp only[bQ,Res.K9,ajA,te,ih]
def Iu(k:Nat)(l:List Nd)(td:O3 l)(hu:uS l<=14000000)(P:∀q1 n q2,l=q1++n::q2->P1 (k+9) n q2):PN (k+10) l:=fun s b=>by
 obtain⟨fs,fw,fe⟩:=wj k l td hu s b;have fp:=wh l fs fw;have fe:∀h,aR (F (k+9) .Uj) [.tup (g8 l),bp s b] h=.ok (.lst fs) h:=fun h=>aH h (by simp[ai,PV.pure,bv,iz]) fe;have cm:=fun h=>Au (k+9) l [] fs h fw td P;simp only[aeN,aeJ]at cm;have en:∀h,ET [.tup (g8 l)] h=.ok (Vi 0 (g8 l)) h:=fun _=>rfl
 have el:∀(l:Y2)(i:Nat),(Vi i l).length=l.length:=fun l=>by
  induction l with
  |nil=>exact fun _=>rfl
  |cons a l ih=>exact fun i=>by rw[Vi,aeh,aeh,ih]
 have ln:(Vi 0 (g8 l)).length<16777216:=by rw[el,fH,aes];have:=gY td;lia
 have dp:=fun h=>ar h (iz s b);have cp:cU [2] [some (PV.tup (g8 l)),some (bp s b),some (.lst fs)]=[some (.lst fs)]:=rfl;show ag (iA (F (k+9))) 2 3 [.tup (g8 l),bp s b]=_;simp[EV,ag,iA,dp,fe,en,ln,cp,cm];exact eK _ (by rw[PV.pure];exact dw l)
theorem IQ{a:Y1}{f:Ya}{y n q2:List Nd}:∀{q1:List Nd},fo (q1++.choice a f y n::q2)=true->hdT q2=true
 |[],h=>uI h
 |m::q1,h=>IQ (q1:=q1) (IP (n:=m) h)
theorem Im{n:Nd}{q2:List Nd}:∀{q1:List Nd},O3 (q1++n::q2)->O3 q2
 |[],h=>by rw[aeN,O3]at h;exact h.2
 |m::q1,h=>by rw[ae3,O3]at h;exact Im h.2
theorem vP:∀(d k:Nat)(l:List Nd),O3 l->fo l=true->M6 l<=d->uS l<=14000000->PN (k+2 * d+10) l
 |0,k,l,td,hf,hd,hu=>Iu k l td hu fun q1 n q2 e=>by
  have hn:n∈l:=by rw[e];simp
  have t1:=ku hn td;have d1:=iS hn
  cases n with
  |text s=>exact Av (k+8) s q2
  |place a f w=>rw[SQ]at t1;exact xL (k+7) a f w t1 q2
  |loop x a f ns b=>rw[dN]at d1;lia
  |choice a f y n=>rw[dN]at d1;lia
 |d+1,k,l,td,hf,hd,hu=>by
  have e:k+2 * (d+1)+10=(k+2 * d+2)+10:=by lia
  rw[e];refine Iu (k+2 * d+2) l td hu fun q1 n q2 e=>?_;have hn:n∈l:=by rw[e];simp
  have t1:=ku hn td;have d1:=iS hn;have u1:=lq hn
  cases n with
  |text s=>exact Av (k+2 * d+10) s q2
  |place a f w=>rw[SQ]at t1;exact xL (k+2 * d+9) a f w t1 q2
  |loop x a f ns b=>rw[SQ]at t1;rw[dN]at d1;rw[uN]at u1;exact GR (k+2 * d+1) x a f ns b t1.2.2.2 ⋯ t1.1 t1.2.2.1 ⋯ (vP d k ns t1.2.2.1 t1.2.1 ⋯ ⋯) q2
  |choice a f y n=>rw[SQ]at t1;rw[dN]at d1;rw[uN]at u1;have m1:=afV (M6 y) (M6 n);have m2:=afG (M6 y) (M6 n);exact BU (k+2 * d+6) a f y n t1.1 t1.2.1 t1.2.2.2.2.1 t1.2.2.2.2.2 ⋯ ⋯ (vP d k y t1.2.2.2.2.1 t1.2.2.1 ⋯ ⋯) (vP d k n t1.2.2.2.2.2 t1.2.2.2.1 ⋯ ⋯) q2 (IQ (by rw[<- e];exact hf)) (Im (by rw[<- e];exact td))
noncomputable def bO(t:Y1)(i:Int):PO:=.obj 604 [.str t,.int i]
def V_(T:Y3):Prop:=∀o∈T,∃xs,o=.lst xs/\ai xs=true
section
variable(t:Y1)(i:Int)(T:Y3)
theorem yr:dz 604 0 (.ref 0) (bO t i::T)=.ok (.str t) (bO t i::T):=rfl
theorem pR:dz 604 1 (.ref 0) (bO t i::T)=.ok (.int i) (bO t i::T):=rfl
theorem sW:aA (bO t i::T) (.ref 0)=.ref 0:=rfl
theorem Oc(j:Int)(ρ:Ev):CX 604 1 (.int j) (.ref 0) ρ (bO t i::T)=.nx ρ (bO t j::T):=rfl
theorem Od{o:Ex}{as:Ax}(eo:o ρ (bO t i::T)=.ok (.ref 0) (bO t i::T))(ea:as ρ (bO t i::T)=.ok ps (bO t i::T)):bJ 604 fn o as ρ (bO t i::T)=fn (.ref 0::ps) (bO t i::T):=by unfold bJ;rw[eo];simp only[Res.K9];show((as ρ (bO t i::T)).bind fun ps h2=>fn (.ref 0::ps) h2)=_;rw[ea];rfl
theorem MR(hT:V_ T)(n:Nat):T.all (Z5 n)=true:=by
 rw[aeM];intro o ho;obtain⟨xs,rfl,hp⟩:=hT o ho;show xs.all (Yn n)=true
 have:∀l:Y2,ai l=true->l.all (Yn n)=true:=fun l=>by
  induction l with
  |nil=>exact fun _=>rfl
  |cons a l ih=>
   intro h;rw[ai,ael]at h;rw[afr,ih h.2,afw]
   cases a<;>first|exact h.1|(simp[PV.pure]at h;done)
 exact this xs hp
theorem yj(hT:V_ T)(v:PV)(U:Y3):sQ (T.length+1) v ((bO t i::T)++U)=.ok v (bO t i::T):=by
 have tk:((bO t i::T)++U).take (T.length+1)=bO t i::T:=by have:(bO t i::T).length=T.length+1:=rfl;rw[<- this,ah7]
 unfold sQ;rw[tk,ajz];rw[afr,MR T hT]
 have:ajW (T.length+1) ((bO t i::T)++U).length=true:=by rw[aje,aei,aeh];lia
 rw[this];rfl
theorem kl(hT:V_ T)(e:PV)(he:e.pure=true)(U:Y3):Fd (T.length+1) e ((bO t i::T)++U)=.exc e (bO t i::T):=by
 have tk:((bO t i::T)++U).take (T.length+1)=bO t i::T:=by have:(bO t i::T).length=T.length+1:=rfl;rw[<- this,ah7]
 unfold Fd;rw[tk,ajz];rw[afr,MR T hT]
 have:ajW (T.length+1) ((bO t i::T)++U).length=true:=by rw[aje,aei,aeh];lia
 rw[this,he];rfl
end
section
variable{f:Sx}{np:Nat}{r:Res PV}
def fG(hl:ps.length=np)(e:f (ps.map some++aju (n - ps.length) none) h=.rt v h1)(g:qf h.length v h1=r):gM f np n ps h=r:=by unfold gM;rw[ajz hl,e];exact g
def Gi(hl:ps.length=np)(e:f (ps.map some++aju (n - ps.length) none) h=.nx ρ h1)(g:sQ h.length .non h1=r):gM f np n ps h=r:=by unfold gM;rw[ajz hl,e];exact g
def fV(hl:ps.length=np)(e:f (ps.map some++aju (n - ps.length) none) h=.exc v h1)(g:Fd h.length v h1=r):gM f np n ps h=r:=by unfold gM;rw[ajz hl,e];exact g
end
theorem sV(t:Y1)(i:Int)(T:Y3):(rQ 604 (bO t i::T) (.ref 0)).isSome=true:=rfl
def pN(t:Y1)(i:Int)(T:Y3)(hT:V_ T)(v:PV)(hv:v.pure=true)(U:Y3):qf (T.length+1) v ((bO t i::T)++U)=.ok v (bO t i::T):=by
 have:Yn (T.length+1) v=true:=by cases v<;>first|exact hv|(simp[PV.pure]at hv;done)
 unfold qf;rw[ajz this];exact yj t i T hT v U
def qC{g:Gx}{b:Sx}{r:Y2}(hg:g p ρ=some ρ1)(hb:b ρ1 h=.exc v h2):bc g b (p::r) ρ h=.exc v h2:=by simp only[bc,hg,hb]
section
variable(t:Y1)(ht:sgn t)(hz:t.length<=16000000)
include ht hz
theorem vx(k:Nat)(c:Nat)(i:Nat)(hi:i<=t.length)(T:Y3)(hT:V_ T):X_ (k+1) .f9 [.ref 0,.str [c]] (bO t (i:Nat)::T)=.ok (.bl (decide (t[i]? =some c))) (bO t (i:Nat)::T):=by
 have f0:=yr t i T;have f1:=pR t i T;have d0:=sW t i T;have z1:t.length<=16777216:=by lia
 have ct:sQ (T.length+1) (.bl (decide (t[i]? =some c))) (bO t (i:Nat)::T)=.ok (.bl (decide (t[i]? =some c))) (bO t (i:Nat)::T):=by have:=yj t i T hT (.bl (decide (t[i]? =some c))) [];rw[aep]at this;exact this
 have lt:c2 Tw aat abM [PV.ref 0,PV.str [c]] (bO t (i:Nat)::T)=.ok (.bl (decide (i<t.length))) (bO t (i:Nat)::T):=by simp[EV,d0,f0,f1,z1,gX]
 have an:=wD (c:=c2 Wz adI (ac 1)) lt
 have val:jT (c2 Tw aat abM) acs [PV.ref 0,PV.str [c]] (bO t (i:Nat)::T)=.ok (.bl (decide (t[i]? =some c))) (bO t (i:Nat)::T):=by
  rw[an];rcases aeR i t.length with q|q
  .have a:=eX q;rw[ajw q,ajz rfl]
   have e:([c]:Y1).contains t[i]=decide (t[i]? =some c):=by rw[aej q,aft,afa,ajE];simp
   simp[EV,d0,f0,f1,z1,a,cR,cO,e]
  .have l:decide (i<t.length)=ajt:=ajv ⋯;have e:decide (t[i]? =some c)=ajt:=by rw[aeE q];rfl
   rw[l,e,ajB ⋯]
 show gM (bH (F k)) 2 2 [.ref 0,.str [c]] (bO t (i:Nat)::T)=_
 have this:bH (F k) [PV.ref 0,PV.str [c]] (bO t (i:Nat)::T)=.rt (.bl (decide (t[i]? =some c))) (bO t (i:Nat)::T):=by unfold bH;show ey _ _=_;rw[val];rfl
 refine fG rfl this ?_;have:=pN t i T hT (.bl (decide (t[i]? =some c))) rfl [];rw[aep]at this;exact this
theorem zT(k:Nat)(x1:Option PV)(T:Y3)(hT:V_ T):∀(s:Y1)(i:Nat)(x2:Option PV),sgn s->i<=t.length->match Xi t s i with
  |.ok j=>∃y2,bc (P0 2) (aY (F (k+1)) (X_ (k+1)) true) (s.map fun c=>PV.str [c]) [PV.ref 0,x1,x2] (bO t (i:Nat)::T)=.nx [PV.ref 0,x1,y2] (bO t (j:Nat)::T)
  |.error p=>bc (P0 2) (aY (F (k+1)) (X_ (k+1)) true) (s.map fun c=>PV.str [c]) [PV.ref 0,x1,x2] (bO t (i:Nat)::T)=.exc (.N6 12 (.int p)) (bO t (p:Nat)::T)
 |[],i,x2,hs,hi=>⟨x2,rfl⟩
 |c::r,i,x2,hs,hi=>by
  have st:=vx t ht hz k c i hi T hT;have d0:=sW t i T;have f1:=pR t i T;have bs:=Oc t i T;have ob:=sV t i T;have rz:cQ true 12 acd [PV.ref 0,x1,PV.str [c]] (bO t (i:Nat)::T)=.exc (.N6 12 (.int i)) (bO t (i:Nat)::T):=rfl;rw[aeA,Xi]
  by_cases q:t[i]? =some c
  .rw[ajz q];rw[ajw q]at st;have ih:=zT k x1 T hT r (i+1) (some (.str [c])) (fun x hx=>hs x (by simp[hx])) (lP q)
   have step:aY (F (k+1)) (X_ (k+1)) true [PV.ref 0,x1,PV.str [c]] (bO t (i:Nat)::T)=.nx [PV.ref 0,x1,PV.str [c]] (bO t ((i+1:Nat):Int)::T):=by simp[EV,aY,ob,ajA,st,d0,f1,bs,ajn];rfl
   split at ih
   .rename_i j e;obtain⟨y2,g⟩:=ih;exact⟨y2,(cC rfl step).trans g⟩
   .exact(cC rfl step).trans ih
  .rw[ajB q];rw[ajv q]at st
   have step:aY (F (k+1)) (X_ (k+1)) true [PV.ref 0,x1,PV.str [c]] (bO t (i:Nat)::T)=.exc (.N6 12 (.int i)) (bO t (i:Nat)::T):=by simp[EV,aY,ob,ajA,st,d0,f1,rz,ajg]
   dsimp only;exact qC rfl step
end
def xrT(t:Y1)(T:Y3):Except Nat Nat->Res PV
 |.ok j=>.ok .non (bO t (j:Nat)::T)
 |.error p=>.exc (.N6 12 (.int p)) (bO t (p:Nat)::T)
theorem gb(p:Int):(PV.N6 12 (.int p)).pure=true:=rfl
def Qu(C:CC)(i:Nat)(hi:i<5):wv C i=some (C .j8):=by rcases(show i=0\/i=1\/i=2\/i=3\/i=4 by lia)with rfl|rfl|rfl|rfl|rfl<;>rfl
section
variable(t:Y1)(ht:sgn t)(hz:t.length<=16000000)
include ht hz
theorem xt(k:Nat)(s:Y1)(hs:sgn s)(i:Nat)(hi:i<=t.length)(T:Y3)(hT:V_ T):X_ (k+2) .g_ [.ref 0,.str s] (bO t (i:Nat)::T)=xrT t T (Xi t s i):=by
 have lp:=zT t ht hz k (some (.str s)) T hT s i none hs hi
 have fr:∀r,bc (P0 2) (aY (F (k+1)) (X_ (k+1)) true) (s.map fun c=>PV.str [c]) [PV.ref 0,PV.str s,none] (bO t (i:Nat)::T)=r->eR (F (k+1)) (X_ (k+1)) true [PV.ref 0,PV.str s,none] (bO t (i:Nat)::T)=r:=fun r e=>by rw[<- e];rfl
 show gM (eR (F (k+1)) (X_ (k+1)) (ajW 2 (dl (k+1)))) 2 3 [.ref 0,.str s] (bO t (i:Nat)::T)=_;rw[bl2]
 split at lp
 .rename_i j e;obtain⟨y2,g⟩:=lp;rw[e];refine Gi rfl (fr _ g) ?_;have:=yj t j T hT .non [];rw[aep]at this;exact this
 .rename_i p e;rw[e];refine fV rfl (fr _ lp) ?_;have:=kl t p T hT (.N6 12 (.int p)) (gb _) [];rw[aep]at this;exact this
theorem xp(k:Nat)(w:Nat)(hw:w<5)(i:Nat)(hi:i<=t.length)(T:Y3)(hT:V_ T):X_ (k+6) .j6 [.ref 0,.ins w []] (bO t (i:Nat)::T)=match WK w t i with
  |some (v,e)=>.ok v (bO t (e:Nat)::T)
  |none=>.exc (.N6 12 (.int i)) (bO t (i:Nat)::T):=by
 have wr:=CI k w hw t ht i hi hz;have dm:=Qu (F (k+5)) w hw;have f0:=yr t i T;have f1:=pR t i T;have d0:=sW t i T;have di:∀h,aA h (.ins w [])=.ins w []:=fun _=>rfl;show gM (bM (F (k+5)) (ajW 2 (dl (k+5)))) 2 3 [.ref 0,.ins w []] (bO t (i:Nat)::T)=_;rw[bl2]
 cases e:WK w t i with
 |none=>
  rw[e]at wr;have wr:∀h,aR (F (k+5) .j8) [.ins w [],.str t,.int i] h=.ok .non h:=fun h=>aH h rfl wr;have rz:cQ true 12 acd [PV.ref 0,PV.ins w [],some .non] (bO t (i:Nat)::T)=.exc (.N6 12 (.int i)) (bO t (i:Nat)::T):=rfl
  have b:bM (F (k+5)) true [PV.ref 0,PV.ins w [],none] (bO t (i:Nat)::T)=.exc (.N6 12 (.int i)) (bO t (i:Nat)::T):=by simp[EV,bM,dm,di,d0,f0,f1,wr,is0,qc,ajA,rz]
  refine fV rfl b ?_;have:=kl t i T hT (.N6 12 (.int i)) (gb _) [];rw[aep]at this;exact this
 |some q=>
  obtain⟨v,j⟩:=q;rw[e]at wr;obtain⟨_,_,vv,_⟩:=kA e hi;have vp:=vv.pure;have wr:∀h,aR (F (k+5) .j8) [.ins w [],.str t,.int i] h=.ok (.tup [v,.int j]) h:=fun h=>aH h rfl wr;have tp:(PV.tup [v,.int j]).pure=true:=by simp[PV.pure,ai,vp]
  have bs:=Oc t i T;have Wa:∀h,Wn (.tup [v,.int j]) .non h=.ok (.bl ajt) h:=fun _=>rfl
  have b:bM (F (k+5)) true [PV.ref 0,PV.ins w [],none] (bO t (i:Nat)::T)=.rt v (bO t (j:Nat)::T):=by have dj:=sW t j T;simp[EV,bM,dm,di,d0,dj,f0,f1,wr,Wa,Qb,aeS,ajQ,ar _ tp,ar _ vp,at0,Xp,bs]
  refine fG rfl b ?_;have:=pN t j T hT v vp [];rw[aep]at this;exact this
end
def iV{T:Y3}(h:V_ T)(hp:ai xs=true):V_ (T++ [.lst xs]):=fun o ho=>by
 rcases aeF.mp ho with q|q
 .exact h o q
 .rw[aeo.mp q];exact⟨xs,rfl,hp⟩
def rH(t:Y1)(i:Int)(T:Y3)(xs:Y2):Y3:=bO t i::(T++ [.lst xs])
section
variable(t:Y1)(i:Int)(T:Y3)(xs:Y2)
theorem vI:(rH t i T xs)[T.length+1]? =some (.lst xs):=by show(T++ [PO.lst xs])[T.length]? =_;simp
theorem pG:aA (rH t i T xs) (.ref 0)=.ref 0:=rfl
theorem vJ:aA (rH t i T xs) (.ref (T.length+1))=.ref (T.length+1):=NL (vI ..)
theorem BL:cI (rH t i T xs) (.ref (T.length+1))=true:=IE (vI ..)
theorem pF:(rQ 604 (rH t i T xs) (.ref 0)).isSome=true:=rfl
theorem vK(p:PV)(h:xs.length<16000000):aZ (.ref (T.length+1)) [p] (rH t i T xs)=.ok .non (rH t i T (xs++ [p])):=by
 rw[Fu (vI ..) p h]
 congr 1
 unfold rH;rw[af8,afT _ _ (aeB _),afR];rfl
theorem oM(hT:V_ T)(hp:ai xs=true):qf (T.length+1) (.ref (T.length+1)) (rH t i T xs)=.ok (.lst xs) (bO t i::T):=by
 have n:Yn (T.length+1) (.ref (T.length+1))=ajt:=by show decide (T.length+1<T.length+1)=ajt;exact ajv ⋯
 have f:dK (rH t i T xs) (.ref (T.length+1))=some (.lst xs,(rH t i T xs).set (T.length+1) (.Q5 (.lst xs))):=by unfold dK;simp only[vI,hp,ajA]
 have st:(rH t i T xs).set (T.length+1) (.Q5 (.lst xs))=(bO t i::T)++[.Q5 (.lst xs)]:=by unfold rH;rw[af8,afT _ _ (aeB _),afR];rfl
 unfold qf;rw[n,ajB ⋯,f];dsimp only;rw[st];exact yj t i T hT _ _
end
def Pf(n:Nd)(r:List Nd)(h:Y3):j5 (Vj n r) (.int 0) h=.ok (.str (kT n)) h:=by cases n<;>(rw[Vj];rfl)
def Mw(n:Nd)(r:List Nd)(h:Y3):aA h (Vj n r)=Vj n r:=ar h (nQ n r)
def xrS(t:Y1)(T:Y3):Except Nat (List Fl×Nat)->Res PV
 |.ok (ys,j)=>.ok (.lst (aq ys)) (bO t (j:Nat)::T)
 |.error p=>.exc (.N6 12 (.int p)) (bO t (p:Nat)::T)
def xr1(t:Y1)(T:Y3):Except Nat (List Fl×Nat)->Res PV
 |.ok (f::_,j)=>.ok (K8 f) (bO t (j:Nat)::T)
 |.ok ([],_)=>.bad
 |.error p=>.exc (.N6 12 (.int p)) (bO t (p:Nat)::T)
section
variable(t:Y1)(ht:sgn t)(hz:t.length<=16000000)
def XN(K:Nat)(l:List Nd):Prop:=∀i T,i<=t.length->V_ T->X_ K .d8 [.ref 0,.lst (bj l)] (bO t (i:Nat)::T)=xrS t T (bX t l i)
def XL(K:Nat)(x a:Y1)(f:Ya)(ns:List Nd)(b:Y1):Prop:=∀i T r,i<=t.length->V_ T->X_ K .h_ [.ref 0,.str [J0 ns],.lst (bj ns),.str b] (bO t (i:Nat)::T)=xr1 t T (VH t (.loop x a f ns b) r i)
def XC(K:Nat)(a:Y1)(f:Ya)(y n r:List Nd):Prop:=∀i T,i<=t.length->V_ T->X_ K .i_ [.ref 0,.tup [bp [J0 (y++r)] ajt,.lst (bj y)],.tup [bp [J0 (n++r)] ajt,.lst (bj n)]] (bO t (i:Nat)::T)=xr1 t T (VH t (.choice a f y n) r i)
include ht hz
theorem FP(k:Nat)(n:Nd)(r:List Nd)(td:SQ n)(HL:∀x a f ns b,n=.loop x a f ns b->XL t (k+6) x a f ns b)(HC:∀a f y m,n=.choice a f y m->XC t (k+6) a f y m r)(i:Nat)(hi:i<=t.length)(T:Y3)(hT:V_ T)(acc:List Fl)(hp:ai (aq acc)=true)(ha:acc.length<=15000000)(x1:Option PV):ak (F (k+6)) (X_ (k+6)) [PV.ref 0,x1,PV.ref (T.length+1),Vj n r] (rH t i T (aq acc))=match VH t n r i with
  |.ok (ys,j)=>.nx [PV.ref 0,x1,PV.ref (T.length+1),Vj n r] (rH t j T (aq (acc++ys)))
  |.error p=>.exc (.N6 12 (.int p)) (rH t p T (aq acc)):=by
 have k0:=Pf n r;have dn:=Mw n r;have d0:=pG t i T (aq acc);have d1:=vJ t i T (aq acc);have li:=BL t i T (aq acc);have ob:=pF t i T (aq acc);have Yd:=iV hT hp;have fl:(aq acc).length<16000000:=by rw[eY];lia
 have ap:=fun(j:Nat) x=>vK t j T (aq acc) x fl
 cases n with
 |text s=>
  rw[SQ]at td;have tr:=xt t ht hz (k+4) s td.2 i hi _ Yd;have tr:X_ (k+6) .g_ [.ref 0,.str s] (rH t i T (aq acc))=_:=tr;have i1:∀h,j5 (Vj (.text s) r) (.int 1) h=.ok (.str s) h:=fun h=>by rw[Vj];rfl
  rw[VH]
  cases e:Xi t s i with
  |ok j=>rw[e]at tr;unfold xrT at tr;dsimp only at tr |-;rw[aep];simp[EV,ak,dn,k0,kT,Vt,i1,d0,ob,ajA,tr];rfl
  |error p=>rw[e]at tr;unfold xrT at tr;dsimp only at tr |-;simp[EV,ak,dn,k0,kT,Vt,i1,d0,ob,ajA,tr];rfl
 |place a f w=>
  rw[SQ]at td;have tr:=xp t ht hz k w td i hi _ Yd;have tr:X_ (k+6) .j6 [.ref 0,.ins w []] (rH t i T (aq acc))=_:=tr;have i1:∀h,j5 (Vj (.place a f w) r) (.int 1) h=.ok (.ins w []) h:=fun h=>by rw[Vj];rfl
  rw[VH]
  cases e:WK w t i with
  |some q=>
   obtain⟨v,j⟩:=q;rw[e]at tr;have tr:X_ (k+6) .j6 [.ref 0,.ins w []] (rH t i T (aq acc))=.ok v (rH t j T (aq acc)):=tr;have vp:=(kA e hi).2.2.1.pure;dsimp only;have fe:aq (acc++ [.sc v])=aq acc++ [v]:=by rw[fj,aq,aq,K8]
   rw[fe];simp[EV,ak,dn,k0,kT,Vt,i1,d0,d1,li,ob,ajA,tr,ar _ vp,ap]
  |none=>rw[e]at tr;have tr:X_ (k+6) .j6 [.ref 0,.ins w []] (rH t i T (aq acc))=.exc (.N6 12 (.int i)) (rH t i T (aq acc)):=tr;dsimp only;simp[EV,ak,dn,k0,kT,Vt,i1,d0,d1,li,ob,ajA,tr];rfl
 |loop x a f ns b=>
  have tr:=HL x a f ns b rfl i _ r hi Yd;have tr:X_ (k+6) .h_ [.ref 0,.str [J0 ns],.lst (bj ns),.str b] (rH t i T (aq acc))=_:=tr;have i1:∀h,j5 (Vj (.loop x a f ns b) r) (.int 1) h=.ok (.str [J0 ns]) h:=fun h=>by rw[Vj];rfl
  have i2:∀h,j5 (Vj (.loop x a f ns b) r) (.int 2) h=.ok (.lst (bj ns)) h:=fun h=>by rw[Vj];rfl
  have i3:∀h,j5 (Vj (.loop x a f ns b) r) (.int 3) h=.ok (.str b) h:=fun h=>by rw[Vj];rfl
  cases e:VH t (.loop x a f ns b) r i with
  |ok q=>
   obtain⟨ys,j⟩:=q;obtain⟨_,_,_,gg⟩:=rD t hz _ r i ys j td hi e;rcases gg with⟨z,_⟩|⟨fv,rfl,gn⟩
   .cases z
   rw[e]at tr;have tr:X_ (k+6) .h_ [.ref 0,.str [J0 ns],.lst (bj ns),.str b] (rH t i T (aq acc))=.ok (K8 fv) (rH t j T (aq acc)):=tr;have vp:=qF _ _ gn;dsimp only;have fe:aq (acc++ [fv])=aq acc++ [K8 fv]:=by rw[fj,aq,aq]
   rw[fe];simp[EV,ak,dn,k0,kT,Vt,i1,i2,i3,d0,d1,li,ob,ajA,tr,ar _ vp,ap]
  |error p=>rw[e]at tr;have tr:X_ (k+6) .h_ [.ref 0,.str [J0 ns],.lst (bj ns),.str b] (rH t i T (aq acc))=.exc (.N6 12 (.int p)) (rH t p T (aq acc)):=tr;dsimp only;simp[EV,ak,dn,k0,kT,Vt,i1,i2,i3,d0,d1,li,ob,ajA,tr];rfl
 |choice a f y n=>
  have tr:=HC a f y n rfl i _ hi Yd;have tr:X_ (k+6) .i_ [.ref 0,.tup [bp [J0 (y++r)] ajt,.lst (bj y)],.tup [bp [J0 (n++r)] ajt,.lst (bj n)]] (rH t i T (aq acc))=_:=tr;have q1:∀h,aA h (.tup [bp [J0 (y++r)] ajt,.lst (bj y)])=.tup [bp [J0 (y++r)] ajt,.lst (bj y)]:=fun h=>ar h (by simp[PV.pure,ai,iz,dw]);have q2:∀h,aA h (.tup [bp [J0 (n++r)] ajt,.lst (bj n)])=.tup [bp [J0 (n++r)] ajt,.lst (bj n)]:=fun h=>ar h (by simp[PV.pure,ai,iz,dw]);have i1:∀h,j5 (Vj (.choice a f y n) r) (.int 1) h=.ok (.tup [bp [J0 (y++r)] ajt,.lst (bj y)]) h:=fun h=>by rw[Vj];show Res.ok (aA h _) h=_;rw[q1]
  have i2:∀h,j5 (Vj (.choice a f y n) r) (.int 2) h=.ok (.tup [bp [J0 (n++r)] ajt,.lst (bj n)]) h:=fun h=>by rw[Vj];show Res.ok (aA h _) h=_;rw[q2]
  cases e:VH t (.choice a f y n) r i with
  |ok q=>
   obtain⟨ys,j⟩:=q;obtain⟨_,_,_,gg⟩:=rD t hz _ r i ys j td hi e;rcases gg with⟨z,_⟩|⟨fv,rfl,gn⟩
   .cases z
   rw[e]at tr;have tr:X_ (k+6) .i_ [.ref 0,.tup [bp [J0 (y++r)] ajt,.lst (bj y)],.tup [bp [J0 (n++r)] ajt,.lst (bj n)]] (rH t i T (aq acc))=.ok (K8 fv) (rH t j T (aq acc)):=tr;have vp:=qF _ _ gn;dsimp only;have fe:aq (acc++ [fv])=aq acc++ [K8 fv]:=by rw[fj,aq,aq]
   rw[fe];simp[EV,ak,dn,k0,kT,Vt,i1,i2,q1,q2,d0,d1,li,ob,ajA,tr,ar _ vp,ap]
  |error p=>rw[e]at tr;have tr:X_ (k+6) .i_ [.ref 0,.tup [bp [J0 (y++r)] ajt,.lst (bj y)],.tup [bp [J0 (n++r)] ajt,.lst (bj n)]] (rH t i T (aq acc))=.exc (.N6 12 (.int p)) (rH t p T (aq acc)):=tr;dsimp only;simp[EV,ak,dn,k0,kT,Vt,i1,i2,q1,q2,d0,d1,li,ob,ajA,tr];rfl
theorem zU(k:Nat)(x1:Option PV)(T:Y3)(hT:V_ T):∀(l:List Nd)(acc:List Fl)(i:Nat)(x3:Option PV),O3 l->(∀q1 n q2,l=q1++n::q2->(∀x a f ns b,n=.loop x a f ns b->XL t (k+6) x a f ns b)/\∀a f y m,n=.choice a f y m->XC t (k+6) a f y m q2)->i<=t.length->ai (aq acc)=true->acc.length+l.length<=15000000->
  match bX t l i with
  |.ok (ys,j)=>∃y3,ai (aq (acc++ys))=true/\bc (P0 3) (ak (F (k+6)) (X_ (k+6))) (bj l) [PV.ref 0,x1,PV.ref (T.length+1),x3] (rH t i T (aq acc))=.nx [PV.ref 0,x1,PV.ref (T.length+1),y3] (rH t j T (aq (acc++ys)))
  |.error p=>∃fs,ai fs=true/\bc (P0 3) (ak (F (k+6)) (X_ (k+6))) (bj l) [PV.ref 0,x1,PV.ref (T.length+1),x3] (rH t i T (aq acc))=.exc (.N6 12 (.int p)) (rH t p T fs)
 |[],acc,i,x3,td,H,hi,hp,ha=>by rw[bX];exact⟨x3,by rw[aep];exact hp,by rw[bj,aep];rfl⟩
 |n::r,acc,i,x3,td,H,hi,hp,ha=>by
  rw[O3]at td;rw[aeh]at ha;have h0:=H [] n r rfl;have tn:=FP t ht hz k n r td.1 h0.1 h0.2 i hi T hT acc hp ⋯ x1;rw[bX,bj]
  cases e:VH t n r i with
  |error p=>rw[e]at tn;exact⟨aq acc,hp,qC rfl tn⟩
  |ok q=>
   obtain⟨vs,j⟩:=q;rw[e]at tn;obtain⟨b1,b2,b3,b4⟩:=rD t hz n r i vs j td.1 hi e
   have vl:vs.length<=1/\ai (aq (acc++vs))=true:=by
    rcases b4 with⟨_,rfl⟩|⟨x,rfl,g⟩
    .exact⟨by simp,by rw[aep];exact hp⟩
    .refine⟨by simp,?_⟩;rw[fj,aq,aq];exact cB (qF _ _ g) _ hp
   have ih:=zU k x1 T hT r (acc++vs) j (some (Vj n r)) td.2 (fun q1 m q2 e=>H (n::q1) m q2 (by rw[e];rfl)) b2 vl.2 (by rw[aei];lia);dsimp only
   cases e2:bX t r j with
   |error p=>rw[e2]at ih;obtain⟨fs,fp,g⟩:=ih;exact⟨fs,fp,(cC rfl tn).trans g⟩
   |ok q=>obtain⟨us,l⟩:=q;rw[e2]at ih;obtain⟨y3,p3,g⟩:=ih;rw[aeK]at p3 g;exact⟨y3,p3,(cC rfl tn).trans g⟩
theorem wT(k:Nat)(l:List Nd)(td:O3 l)(hu:uS l<=14000000)(H:∀q1 n q2,l=q1++n::q2->(∀x a f ns b,n=.loop x a f ns b->XL t (k+6) x a f ns b)/\∀a f y m,n=.choice a f y m->XC t (k+6) a f y m q2):XN t (k+7) l:=fun i T hi hT=>by
 have lp:=zU t ht hz k (some (.lst (bj l))) T hT l [] i none td H hi rfl (by have:=gY td;simp;lia);have mk:aG 2 aaW [PV.ref 0,PV.lst (bj l),none,none] (bO t (i:Nat)::T)=.nx [PV.ref 0,PV.lst (bj l),PV.ref (T.length+1),none] (rH t i T []):=rfl
 have fr:∀r,bc (P0 3) (ak (F (k+6)) (X_ (k+6))) (bj l) [PV.ref 0,PV.lst (bj l),PV.ref (T.length+1),none] (rH t i T [])=r->ik acu (P0 3) (ak (F (k+6)) (X_ (k+6))) [PV.ref 0,PV.lst (bj l),PV.ref (T.length+1),none] (rH t i T [])=r:=fun r e=>by rw[<- e];rfl
 show gM (eF (F (k+6)) (X_ (k+6))) 2 4 [.ref 0,.lst (bj l)] (bO t (i:Nat)::T)=_
 cases e:bX t l i with
 |ok q=>obtain⟨ys,j⟩:=q;rw[e]at lp;obtain⟨y3,hp,g⟩:=lp;rw[aeN]at hp g;have d1:=vJ t j T (aq ys);refine fG rfl ((sq mk).trans ((sq (fr _ g)).trans ?_)) (oM t j T (aq ys) hT hp);show aQ (ac 2) [PV.ref 0,PV.lst (bj l),PV.ref (T.length+1),y3] (rH t j T (aq ys))=_;simp[EV,d1]
 |error p=>rw[e]at lp;obtain⟨fs,fp,g⟩:=lp;refine fV rfl ((sq mk).trans ?_) (kl t p T hT (.N6 12 (.int p)) (gb _) [.lst fs]);have:=fr _ g;unfold aw;rw[this];rfl
theorem Fw(k:Nat)(c:Nat)(i:Nat)(hi:i<=t.length)(T:Y3)(hT:V_ T):X_ (k+2) .j9 [.ref 0,bp [c] ajt] (bO t (i:Nat)::T)=.ok (.bl (decide (t[i]? =some c))) (bO t (i:Nat)::T):=by
 have st:=vx t ht hz k c i hi T hT;have f0:=yr t i T;have f1:=pR t i T;have d0:=sW t i T;have ob:=sV t i T;have z1:t.length<=16777216:=by lia
 have dp:=fun h=>ar h (iz [c] ajt);have i0:∀h,j5 (bp [c] ajt) (.int 0) h=.ok (.str [c]) h:=fun _=>rfl;have i1:∀h,j5 (bp [c] ajt) (.int 1) h=.ok (.bl ajt) h:=fun _=>rfl
 have fin:∀b,qf (bO t (i:Nat)::T).length (.bl b) (bO t (i:Nat)::T)=.ok (.bl b) (bO t (i:Nat)::T):=fun b=>by have:=pN t i T hT (.bl b) rfl [];rw[aep]at this;exact this
 show gM (bA (F (k+1)) (X_ (k+1))) 2 2 [.ref 0,bp [c] ajt] (bO t (i:Nat)::T)=_;have eq:=fun h=>db (i:Int) (t.length:Int) h;refine fG rfl ?_ (fin _);show bA (F (k+1)) (X_ (k+1)) [PV.ref 0,bp [c] ajt] (bO t (i:Nat)::T)=_
 by_cases q:i=t.length
 .have e:decide (t[i]? =some c)=ajt:=by rw[q,aeE (aeB _)];rfl
  have d:decide ((i:Int)=(t.length:Int))=true:=ajw ⋯;rw[e];simp only[d]at eq;simp[EV,bA,d0,f0,f1,z1,eq,dp,i1]
 .have d:decide ((i:Int)=(t.length:Int))=ajt:=ajv ⋯;simp only[d]at eq;simp[EV,bA,d0,f0,f1,z1,eq,dp,i0,ob,ajA,st]
theorem LO(k:Nat)(a:Y1)(f:Ya)(y n r:List Nd)(ty:O3 y)(tn:O3 n)(Y:XN t (k+2) y)(N:XN t (k+2) n):XC t (k+3) a f y n r:=fun i T hi hT=>by
 have ay:=Fw t ht hz k (J0 (y++r)) i hi T hT;have an:=Fw t ht hz k (J0 (n++r)) i hi T hT;have sy:=Y i T hi hT;have sn:=N i T hi hT;have d0:=sW t i T;have ob:=sV t i T;have q1:∀h,aA h (.tup [bp [J0 (y++r)] ajt,.lst (bj y)])=.tup [bp [J0 (y++r)] ajt,.lst (bj y)]:=fun h=>ar h (by simp[PV.pure,ai,iz,dw]);have q2:∀h,aA h (.tup [bp [J0 (n++r)] ajt,.lst (bj n)])=.tup [bp [J0 (n++r)] ajt,.lst (bj n)]:=fun h=>ar h (by simp[PV.pure,ai,iz,dw]);have dp:=fun c h=>ar h (iz [c] ajt);have YG:∀l h,aA h (.lst (bj l))=.lst (bj l):=fun _ _=>rfl;show gM (aB (F (k+2)) (X_ (k+2)) (ajW 2 (dl (k+2)))) 3 3 [.ref 0,.tup [bp [J0 (y++r)] ajt,.lst (bj y)],.tup [bp [J0 (n++r)] ajt,.lst (bj n)]] (bO t (i:Nat)::T)=_;rw[bl2,VH]
 have side:∀(b:Bool)(a_:List Nd),O3 a_->X_ (k+2) .d8 [.ref 0,.lst (bj a_)] (bO t (i:Nat)::T)=xrS t T (bX t a_ i)->(∀v h1,X_ (k+2) .d8 [.ref 0,.lst (bj a_)] (bO t (i:Nat)::T)=.ok v h1->v.pure=true->(∀h,aA h v=v)->aB (F (k+2)) (X_ (k+2)) true [PV.ref 0,PV.tup [bp [J0 (y++r)] ajt,.lst (bj y)],PV.tup [bp [J0 (n++r)] ajt,.lst (bj n)]] (bO t (i:Nat)::T)=.rt (.tup [.bl b,v]) h1)->(∀v h1,X_ (k+2) .d8 [.ref 0,.lst (bj a_)] (bO t (i:Nat)::T)=.exc v h1->aB (F (k+2)) (X_ (k+2)) true [PV.ref 0,PV.tup [bp [J0 (y++r)] ajt,.lst (bj y)],PV.tup [bp [J0 (n++r)] ajt,.lst (bj n)]] (bO t (i:Nat)::T)=.exc v h1)->gM (aB (F (k+2)) (X_ (k+2)) true) 3 3 [.ref 0,.tup [bp [J0 (y++r)] ajt,.lst (bj y)],.tup [bp [J0 (n++r)] ajt,.lst (bj n)]] (bO t (i:Nat)::T)=xr1 t T (match bX t a_ i with|.error p=>.error p|.ok (vs,j)=>.ok ([.tup b vs],j)):=fun b a_ tz zs ok er=>by
  cases e:bX t a_ i with
  |ok q=>
   obtain⟨ys,j⟩:=q;rw[e]at zs;have vp:(PV.lst (aq ys)).pure=true:=by rw[PV.pure];exact eT a_ ys (dO t hz a_ i ys j tz hi e).2.2.2
   refine fG rfl (ok _ _ zs vp fun h=>ar h vp) ?_;have:=pN t j T hT (.tup [.bl b,.lst (aq ys)]) (by simp only[PV.pure,ai]at vp |-;rw[vp];rfl) [];rw[aep]at this;show qf (T.length+1) _ _=.ok (K8 (.tup b ys)) _;rw[K8];exact this
  |error p=>rw[e]at zs;refine fV rfl (er _ _ zs) ?_;have:=kl t p T hT (.N6 12 (.int p)) (gb _) [];rw[aep]at this;exact this
 by_cases qy:t[i]? =some (J0 (y++r))
 .rw[ajz qy];rw[ajw qy]at ay
  exact side true y ty sy (fun v h1 e vp dv=>by
   simp[EV,aB,d0,ob,q1,q2,at0,Xp,dp,YG,ajA,ay,e,ar _ vp]) fun v h1 e=>by
   simp[EV,aB,d0,ob,q1,q2,at0,Xp,dp,YG,ajA,ay,e]
   first|rfl|skip
 .rw[ajB qy];rw[ajv qy]at ay
  by_cases qn:t[i]? =some (J0 (n++r))
  .rw[ajz qn];rw[ajw qn]at an
   exact side ajt n tn sn (fun v h1 e vp dv=>by
    simp[EV,aB,d0,ob,q1,q2,at0,Xp,dp,YG,ajA,ay,an,e,ar _ vp]) fun v h1 e=>by
    simp[EV,aB,d0,ob,q1,q2,at0,Xp,dp,YG,ajA,ay,an,e]
    first|rfl|skip
  .rw[ajB qn];rw[ajv qn]at an;have rz:cQ true 12 acd [PV.ref 0,PV.tup [bp [J0 (y++r)] ajt,.lst (bj y)],PV.tup [bp [J0 (n++r)] ajt,.lst (bj n)]] (bO t (i:Nat)::T)=.exc (.N6 12 (.int i)) (bO t (i:Nat)::T):=rfl
   have b:aB (F (k+2)) (X_ (k+2)) true [PV.ref 0,PV.tup [bp [J0 (y++r)] ajt,.lst (bj y)],PV.tup [bp [J0 (n++r)] ajt,.lst (bj n)]] (bO t (i:Nat)::T)=.exc (.N6 12 (.int i)) (bO t (i:Nat)::T):=by simp[EV,aB,d0,ob,q1,q2,at0,Xp,dp,YG,ajA,ay,an,rz]
   refine fV rfl b ?_;have:=kl t i T hT (.N6 12 (.int i)) (gb _) [];rw[aep]at this;exact this
end
def xy{t:Tx}{h h1 h2:Y3}(e:t ρ h=.ok true h1)(b:body ρ h1=.exc v h2):bo t body ρ h=.exc v h2:=by
 have:whl t body 1 ρ h=.exc v h2:=by rw[whl,e];show(match body ρ h1 with|.nx ρ2 h2=>_|.ct ρ2 h2=>_|.bk ρ2 h2=>_|.rt v h2=>_|.exc v h2=>_|.bad=>_)=_;rw[b]
 rw[mh t body (n:=1) (by rw[this];intro z;cases z),this]
section
variable(t:Y1)(ht:sgn t)(hz:t.length<=16000000)
abbrev rE(T:Y3)(c:Nat)(ns:List Nd)(b:Y1)(g:Bool):Ev:=[PV.ref 0,PV.str [c],PV.lst (bj ns),PV.str b,PV.ref (T.length+1),PV.bl g]
include ht hz
theorem FO(k:Nat)(T:Y3)(hT:V_ T)(ns:List Nd)(b:Y1)(hb:sgn b)(bl:b.length<=15000000)(td:O3 ns)(hd:hdT ns=true)(N:XN t (k+2) ns):∀(g:Nat)(ws:List (List Fl))(j:Nat),(∀ys∈ws,gS ns ys)->ws.length<=j->j<=t.length->t.length<=j+g->
  match bX t ns j with
  |.error p=>∃fs,ai fs=true/\bo aa5 (aj (F (k+2)) (X_ (k+2))) (rE T (J0 ns) ns b true) (rH t j T (rvs ws))=.exc (.N6 12 (.int p)) (rH t p T fs)
  |.ok (vs,j2)=>match YD (fun x=>bX t ns x) t b (Ys (J0 ns) b) g j2 with
   |.error p=>∃fs,ai fs=true/\bo aa5 (aj (F (k+2)) (X_ (k+2))) (rE T (J0 ns) ns b true) (rH t j T (rvs ws))=.exc (.N6 12 (.int p)) (rH t p T fs)
   |.ok (us,l)=>bo aa5 (aj (F (k+2)) (X_ (k+2))) (rE T (J0 ns) ns b true) (rH t j T (rvs ws))=.nx (rE T (J0 ns) ns b ajt) (rH t l T (rvs (ws++vs::us))):=fun g=>by
 induction g with
 |zero=>
  intro ws j hg wl hj hf;have jl:j=t.length:=by lia
  cases e:bX t ns j with
  |ok q=>
   obtain⟨vs,j2⟩:=q;obtain⟨b1,b2,b3,b4⟩:=dO t hz ns j vs j2 td hj e;have:=b3 hd
   lia
  |error p=>
   have Yd:=iV hT (cj ns ws hg);have rn:=N j (T++ [.lst (rvs ws)]) hj Yd;rw[e]at rn;have rn:X_ (k+2) .d8 [.ref 0,.lst (bj ns)] (rH t j T (rvs ws))=.exc (.N6 12 (.int p)) (rH t p T (rvs ws)):=rn;have d0:=pG t j T (rvs ws);have d1:=vJ t j T (rvs ws);have li:=BL t j T (rvs ws);have ob:=pF t j T (rvs ws)
   have body:aj (F (k+2)) (X_ (k+2)) (rE T (J0 ns) ns b true) (rH t j T (rvs ws))=.exc (.N6 12 (.int p)) (rH t p T (rvs ws)):=by simp[EV,aj,rE,d0,d1,li,ob,ajA,rn];rfl
   exact⟨rvs ws,cj ns ws hg,xy rfl body⟩
 |succ g ih=>
  intro ws j hg wl hj hf;have wp:=cj ns ws hg;have Yd:=iV hT wp;have rn:=N j (T++ [.lst (rvs ws)]) hj Yd;have d0:=fun(j:Nat) ws=>pG t j T (rvs ws);have d1:=fun(j:Nat) ws=>vJ t j T (rvs ws);have li:=fun(j:Nat) ws=>BL t j T (rvs ws);have ob:=fun(j:Nat) ws=>pF t j T (rvs ws)
  cases e:bX t ns j with
  |error p=>
   rw[e]at rn;have rn:X_ (k+2) .d8 [.ref 0,.lst (bj ns)] (rH t j T (rvs ws))=.exc (.N6 12 (.int p)) (rH t p T (rvs ws)):=rn
   have body:aj (F (k+2)) (X_ (k+2)) (rE T (J0 ns) ns b true) (rH t j T (rvs ws))=.exc (.N6 12 (.int p)) (rH t p T (rvs ws)):=by simp[EV,aj,rE,d0,d1,li,ob,ajA,rn];rfl
   exact⟨rvs ws,wp,xy rfl body⟩
  |ok q=>
   obtain⟨vs,j2⟩:=q;obtain⟨b1,b2,b3,b4⟩:=dO t hz ns j vs j2 td hj e;have b3:=b3 hd;rw[e]at rn;have rn:X_ (k+2) .d8 [.ref 0,.lst (bj ns)] (rH t j T (rvs ws))=.ok (.lst (aq vs)) (rH t j2 T (rvs ws)):=rn
   have hg':∀ys∈ws++ [vs],gS ns ys:=fun ys hy=>by
    rcases aeF.mp hy with z|z
    .exact hg ys z
    .rw[aeo.mp z];exact b4
   have wp':=cj ns (ws++ [vs]) hg'
   have ap:aZ (.ref (T.length+1)) [.lst (aq vs)] (rH t j2 T (rvs ws))=.ok .non (rH t j2 T (rvs (ws++ [vs]))):=by rw[nK];exact vK t j2 T (rvs ws) _ (by unfold rvs;rw[aes];lia)
   have hT2:=iV hT wp';have st:∀c,X_ (k+2) .f9 [.ref 0,.str [c]] (rH t j2 T (rvs (ws++ [vs])))=.ok (.bl (decide (t[j2]? =some c))) (rH t j2 T (rvs (ws++ [vs]))):=fun c=>vx t ht hz (k+1) c j2 b2 _ hT2;have XQ:=xt t ht hz k b hb j2 b2 _ hT2;have XQ:X_ (k+2) .g_ [.ref 0,.str b] (rH t j2 T (rvs (ws++ [vs])))=_:=XQ
   obtain⟨tb,_,hcb⟩:∃tb:Bool,(∀h,oH h (.str b)=some tb)/\∀ ρ h,ρ=rE T (J0 ns) ns b true->gG aby aaO (ac 1) ρ h=.ok (.str [Ys (J0 ns) b]) h:=by
    cases b with
    |nil=>exact⟨ajt,fun _=>rfl,fun ρ h e=>by subst e;rfl⟩
    |cons c b=>
     rw[aeh]at bl;have tr:∀h,oH h (.str (c::b))=some true:=fun _=>by simp[oH,szl];lia
     have ct:cut (c::b) none (some (1:Int))=[c]:=ng (c::b) 1;have z1:b.length+1<=16777216:=by lia
     refine⟨true,tr,fun ρ h e=>?_⟩;subst e;simp[EV,bC,rE,tr,ct,aeh,z1,Ys]
   have e5:∀ ρ h,ρ=rE T (J0 ns) ns b true->h=rH t j2 T (rvs (ws++ [vs]))->aG 5 (bJ 604 (X_ (k+2) .f9) (ac 0) (aa (gG aby aaO (ac 1)) af)) ρ h=.nx (rE T (J0 ns) ns b (decide (t[j2]? =some (Ys (J0 ns) b)))) h:=fun ρ h e1 e2=>by
    have ea:aa (gG aby aaO (ac 1)) af ρ h=.ok [.str [Ys (J0 ns) b]] h:=by show((gG aby aaO (ac 1) ρ h).bind fun _ _=>_)=_;rw[hcb ρ h e1];rfl
    have mm:bJ 604 (X_ (k+2) .f9) (ac 0) (aa (gG aby aaO (ac 1)) af) ρ h=.ok (.bl (decide (t[j2]? =some (Ys (J0 ns) b)))) h:=by subst e2;have:=Od t j2 (T++ [.lst (rvs (ws++ [vs]))]) (fn:=X_ (k+2) .f9) (o:=ac 0) (ρ:=ρ) (by rw[e1];rfl) ea;exact this.trans (st _)
    unfold aG;rw[mm,e1];rfl
   have a1:cx (cM cI aZ (ac 4) (aa (bJ 604 (X_ (k+2) .d8) (ac 0) aaB) af)) (rE T (J0 ns) ns b true) (rH t j T (rvs ws))=.nx (rE T (J0 ns) ns b true) (rH t j2 T (rvs (ws++ [vs]))):=by simp[EV,rE,d0,d1,li,ob,ajA,rn,ap]
   dsimp only;rw[YD];have ew:ws++vs::([]:List (List Fl))=ws++ [vs]:=rfl
   by_cases q:t[j2]? =some (Ys (J0 ns) b)
   .rw[ajz q];have YQ:=e5 _ _ rfl rfl;rw[ajw q]at YQ
    cases e3:Xi t b j2 with
    |error p=>
     rw[e3]at XQ;have XQ:X_ (k+2) .g_ [.ref 0,.str b] (rH t j2 T (rvs (ws++ [vs])))=.exc (.N6 12 (.int p)) (rH t p T (rvs (ws++ [vs]))):=XQ
     have a3:H6 aa5 (cx (bJ 604 (X_ (k+2) .g_) (ac 0) aaD)) bh (rE T (J0 ns) ns b true) (rH t j2 T (rvs (ws++ [vs])))=.exc (.N6 12 (.int p)) (rH t p T (rvs (ws++ [vs]))):=by simp[EV,rE,d0,ob,ajA,XQ]
     have body:aj (F (k+2)) (X_ (k+2)) (rE T (J0 ns) ns b true) (rH t j T (rvs ws))=.exc (.N6 12 (.int p)) (rH t p T (rvs (ws++ [vs]))):=(sq a1).trans ((sq YQ).trans a3);exact⟨rvs (ws++ [vs]),wp',xy rfl body⟩
    |ok j3=>
     rw[e3]at XQ;obtain⟨c1,c2⟩:=mQ e3 b2;have XQ:X_ (k+2) .g_ [.ref 0,.str b] (rH t j2 T (rvs (ws++ [vs])))=.ok .non (rH t j3 T (rvs (ws++ [vs]))):=XQ
     have a3:H6 aa5 (cx (bJ 604 (X_ (k+2) .g_) (ac 0) aaD)) bh (rE T (J0 ns) ns b true) (rH t j2 T (rvs (ws++ [vs])))=.nx (rE T (J0 ns) ns b true) (rH t j3 T (rvs (ws++ [vs]))):=by
      simp[EV,rE,d0,ob,ajA,XQ]
      try rfl
     have body:aj (F (k+2)) (X_ (k+2)) (rE T (J0 ns) ns b true) (rH t j T (rvs ws))=.nx (rE T (J0 ns) ns b true) (rH t j3 T (rvs (ws++ [vs]))):=(sq a1).trans ((sq YQ).trans a3);have ih:=ih (ws++ [vs]) j3 hg' (by rw[aei,aev];lia) c2 ⋯;dsimp only
     cases e4:bX t ns j3 with
     |error p=>rw[e4]at ih;obtain⟨fs,fp,ih⟩:=ih;exact⟨fs,fp,eI rfl body ih nofun⟩
     |ok u=>
      obtain⟨vs3,j4⟩:=u;rw[e4]at ih;dsimp only at ih |-
      cases e6:YD (fun x=>bX t ns x) t b (Ys (J0 ns) b) g j4 with
      |error p=>rw[e6]at ih;obtain⟨fs,fp,ih⟩:=ih;exact⟨fs,fp,eI rfl body ih nofun⟩
      |ok u=>obtain⟨us,l⟩:=u;rw[e6]at ih;dsimp only at ih |-;rw[aeK]at ih;exact eI rfl body ih nofun
   .rw[ajB q];have YQ:=e5 _ _ rfl rfl;rw[ajv q]at YQ;dsimp only;have a3:H6 aa5 (cx (bJ 604 (X_ (k+2) .g_) (ac 0) aaD)) bh (rE T (J0 ns) ns b ajt) (rH t j2 T (rvs (ws++ [vs])))=.nx (rE T (J0 ns) ns b ajt) (rH t j2 T (rvs (ws++ [vs]))):=rfl;have body:aj (F (k+2)) (X_ (k+2)) (rE T (J0 ns) ns b true) (rH t j T (rvs ws))=.nx (rE T (J0 ns) ns b ajt) (rH t j2 T (rvs (ws++ [vs]))):=(sq a1).trans ((sq YQ).trans a3);exact eI rfl body (gQ rfl) nofun
theorem LN(k:Nat)(x a:Y1)(f:Ya)(ns:List Nd)(b:Y1)(hb:sgn b)(bl:b.length<=15000000)(td:O3 ns)(hd:hdT ns=true)(N:XN t (k+2) ns):XL t (k+3) x a f ns b:=fun i T r hi hT=>by
 have Yd:V_ (T++ [.lst []]):=iV hT rfl;have st:X_ (k+2) .f9 [.ref 0,.str [J0 ns]] (rH t i T [])=.ok (.bl (decide (t[i]? =some (J0 ns)))) (rH t i T []):=vx t ht hz (k+1) (J0 ns) i hi _ Yd;have d0:=pG t i T [];have ob:=pF t i T [];have mk:aG 4 aaW [PV.ref 0,PV.str [J0 ns],PV.lst (bj ns),PV.str b,none,none] (bO t (i:Nat)::T)=.nx [PV.ref 0,PV.str [J0 ns],PV.lst (bj ns),PV.str b,PV.ref (T.length+1),none] (rH t i T []):=rfl
 have s5:aG 5 (bJ 604 (X_ (k+2) .f9) (ac 0) aak) [PV.ref 0,PV.str [J0 ns],PV.lst (bj ns),PV.str b,PV.ref (T.length+1),none] (rH t i T [])=.nx (rE T (J0 ns) ns b (decide (t[i]? =some (J0 ns)))) (rH t i T []):=by simp[EV,rE,d0,ob,ajA,st]
 have rt:∀(l:Nat)(ws:List (List Fl)),aQ (ac 4) (rE T (J0 ns) ns b ajt) (rH t l T (rvs ws))=.rt (.ref (T.length+1)) (rH t l T (rvs ws)):=fun l ws=>by have d1:=vJ t (l:Nat) T (rvs ws);simp[EV,rE,d1]
 show gM (dY (F (k+2)) (X_ (k+2))) 4 6 [.ref 0,.str [J0 ns],.lst (bj ns),.str b] (bO t (i:Nat)::T)=_;rw[VH]
 by_cases q:t[i]? =some (J0 ns)
 .rw[ajz q];rw[ajw q]at s5;have lp:=FO t ht hz k T hT ns b hb bl td hd N (t.length+1) [] i (fun ys h=>(nomatch h)) (by simp) hi ⋯
  cases e:bX t ns i with
  |error p=>rw[e]at lp;obtain⟨fs,fp,lp⟩:=lp;refine fV rfl ((sq mk).trans ((sq s5).trans ?_)) (kl t p T hT (.N6 12 (.int p)) (gb _) [.lst fs]);have lp:bo aa5 (aj (F (k+2)) (X_ (k+2))) (rE T (J0 ns) ns b true) (rH t i T [])=_:=lp;unfold aw;rw[lp];rfl
  |ok v=>
   obtain⟨vs,j⟩:=v;rw[e]at lp;obtain⟨b1,b2,b3,b4⟩:=dO t hz ns i vs j td hi e;dsimp only at lp |-
   cases e2:YD (fun x=>bX t ns x) t b (Ys (J0 ns) b) (t.length+1) j with
   |error p=>rw[e2]at lp;obtain⟨fs,fp,lp⟩:=lp;refine fV rfl ((sq mk).trans ((sq s5).trans ?_)) (kl t p T hT (.N6 12 (.int p)) (gb _) [.lst fs]);have lp:bo aa5 (aj (F (k+2)) (X_ (k+2))) (rE T (J0 ns) ns b true) (rH t i T [])=_:=lp;unfold aw;rw[lp];rfl
   |ok u=>
    obtain⟨us,l⟩:=u;rw[e2]at lp;dsimp only at lp |-
    have S:∀i ys j,i<=t.length->bX t ns i=.ok (ys,j)->i<j/\j<=t.length/\gS ns ys:=fun i ys j hi h=>by obtain⟨a,b,c,d⟩:=dO t hz ns i ys j td hi h;exact⟨c hd,b,d⟩
    obtain⟨c1,Vs,c3,c4⟩:=vM S _ _ _ _ b2 e2
    have gp:ai (rvs (vs::us))=true:=cj ns _ fun ys hy=>by
     rcases aek.mp hy with z|z
     .rw[z];exact b4
     .exact c4 ys z
    have lp:bo aa5 (aj (F (k+2)) (X_ (k+2))) (rE T (J0 ns) ns b true) (rH t i T [])=.nx (rE T (J0 ns) ns b ajt) (rH t l T (rvs (vs::us))):=lp;refine fG rfl ((sq mk).trans ((sq s5).trans ((sq lp).trans (rt l _)))) ?_;have:=oM t l T (rvs (vs::us)) hT gp;show qf (T.length+1) _ _=.ok (K8 (.lst ((vs::us).map Fl.lst))) _;rw[K8,gR];exact this
 .rw[ajB q];rw[ajv q]at s5;have r0:=rt i [];refine fG rfl ((sq mk).trans ((sq s5).trans ((sq (gQ rfl)).trans r0))) ?_;have:=oM t i T [] hT rfl;show qf (T.length+1) _ _=.ok (K8 (.lst [])) _;rw[K8,aq];exact this
theorem vg:∀(d k:Nat)(l:List Nd),O3 l->fo l=true->M6 l<=d->uS l<=14000000->XN t (k+2 * d+7) l
 |0,k,l,td,hf,hd,hu=>wT t ht hz k l td hu fun q1 n q2 e=>by
  have hn:n∈l:=by rw[e];simp
  have d1:=iS hn;refine⟨fun x a f ns b e=>?_,fun a f y m e=>?_⟩
  .rw[e,dN]at d1;lia
  .rw[e,dN]at d1;lia
 |d+1,k,l,td,hf,hd,hu=>by
  have e:k+2 * (d+1)+7=(k+2 * d+2)+7:=by lia
  rw[e];refine wT t ht hz (k+2 * d+2) l td hu fun q1 n q2 e=>?_;have hn:n∈l:=by rw[e];simp
  have t1:=ku hn td;have d1:=iS hn;have u1:=lq hn;refine⟨fun x a f ns b e=>?_,fun a f y m e=>?_⟩
  .subst e;rw[SQ]at t1;rw[dN]at d1;rw[uN]at u1;exact LN t ht hz (k+2 * d+5) x a f ns b t1.2.2.2 ⋯ t1.2.2.1 t1.1 (vg d k ns t1.2.2.1 t1.2.1 ⋯ ⋯)
  .subst e;rw[SQ]at t1;rw[dN]at d1;rw[uN]at u1;have m1:=afV (M6 y) (M6 m);have m2:=afG (M6 y) (M6 m);exact LO t ht hz (k+2 * d+5) a f y m q2 t1.2.2.2.2.1 t1.2.2.2.2.2 (vg d k y t1.2.2.2.2.1 t1.2.2.1 ⋯ ⋯) (vg d k m t1.2.2.2.2.2 t1.2.2.2.1 ⋯ ⋯)
end
theorem nz:PV.tup fN=bp [] true:=rfl
theorem uk(k:Nat)(x0:Option PV)(t:Y1):aG 2 (Ib 604 (X_ (k+1) .j_) aak) [x0,PV.str t,none,none] []=.nx [x0,PV.str t,PV.ref 0,none] [bO t (0:Nat)]:=rfl
def xd(k:Nat)(t:Y1)(ht:sgn t)(hz:t.length<=16000000)(h:Y3):aR (F (k+2) .G5) [.str t,.int (t.length:Nat)] h=.ok (.bl true) h:=aH h rfl (by have:=fW k t (t.length:Nat) ⋯;rw[this,ajw (agR _),zN ht];rfl)
section
variable{f:Sx}{np:Nat}{r:Res PV}
def Ao(hl:ps.length=np)(e:f (ps.map some++aju (n - ps.length) none) h=.rt v h1)(g:kJ h.length v h1=r):lG f np n ps h=r:=by unfold lG;rw[ajz hl,e];exact g
def vF(hl:ps.length=np)(e:f (ps.map some++aju (n - ps.length) none) h=.exc v h1)(g:Fe h.length v h1=r):lG f np n ps h=r:=by unfold lG;rw[ajz hl,e];exact g
end
section
variable(t:Y1)(ht:sgn t)(hz:t.length<=16000000)
include ht hz
theorem Ic(k:Nat)(l:List Nd)(td:O3 l)(P:PN (k+2) l)(N:XN t (k+2) l):X_ (k+3) .J_ [.tup (g8 l),.str t] []=match Xd t l with
  |.ok ys=>.ok (.lst (aq ys)) []
  |.error p=>.exc (.N6 12 (.int p)) []:=by
 have z1:t.length<=16777216:=by lia
 have tx:=xd k t ht hz;have pn:=qv P [] true;have rn:=N 0 [] (aeL _) (fun o h=>(nomatch h));have d0:=fun i:Nat=>sW t i [];have ob:=fun i:Nat=>sV t i [];have f1:=fun i:Nat=>pR t i [];have dp:=fun h=>ar h (iz [] true)
 have s1:H6 (jY (eG (aU (cN aV (aa (ac 1) (aa (cK (.ty "str")) af))))) (eG (aU (aJ (F (k+2) .G5) ace)))) (cQ true 12 acP) bh [PV.tup (g8 l),PV.str t,none,none] []=.nx [PV.tup (g8 l),PV.str t,none,none] []:=by simp[EV,z1,tx]
 have mk:=uk (k+1) (some (.tup (g8 l))) t;have run:X_ (k+3) .J_ [.tup (g8 l),.str t] []=lG (bN (F (k+2)) (X_ (k+2)) true) 2 4 [.tup (g8 l),.str t] []:=rfl;rw[run];unfold Xd;have env:bN (F (k+2)) (X_ (k+2)) true ([PV.tup (g8 l),.str t].map some++aju (4 - [PV.tup (g8 l),.str t].length) none) []=bN (F (k+2)) (X_ (k+2)) true [PV.tup (g8 l),PV.str t,none,none] []:=rfl;have un:∀v h1,bN (F (k+2)) (X_ (k+2)) true [PV.tup (g8 l),PV.str t,none,none] []=.rt v h1->lG (bN (F (k+2)) (X_ (k+2)) true) 2 4 [.tup (g8 l),.str t] []=kJ 0 v h1:=fun v h1 e=>Ao rfl (env.trans e) rfl;have ux:∀v h1,bN (F (k+2)) (X_ (k+2)) true [PV.tup (g8 l),PV.str t,none,none] []=.exc v h1->lG (bN (F (k+2)) (X_ (k+2)) true) 2 4 [.tup (g8 l),.str t] []=Fe 0 v h1:=fun v h1 e=>vF rfl (env.trans e) rfl
 cases e:bX t l 0 with
 |error p=>
  rw[e]at rn;have rn:X_ (k+2) .d8 [.ref 0,.lst (bj l)] [bO t (0:Nat)]=.exc (.N6 12 (.int p)) [bO t p]:=rn
  have s3:aG 3 (bJ 604 (X_ (k+2) .d8) (ac 2) (aa (aJ (F (k+2) .q_) (aa (ac 0) (aa (cK (.tup fN)) af))) af)) [PV.tup (g8 l),PV.str t,PV.ref 0,none] [bO t (0:Nat)]=.exc (.N6 12 (.int p)) [bO t p]:=by
   rw[nz];simp[EV,d0,dp,pn,ob,ajA,rn]
   try rfl
  rw[ux (.N6 12 (.int p)) [bO t p] ((sq s1).trans ((sq mk).trans (by unfold aw;rw[s3])))];rfl
 |ok q=>
  obtain⟨ys,j⟩:=q;rw[e]at rn;have rn:X_ (k+2) .d8 [.ref 0,.lst (bj l)] [bO t (0:Nat)]=.ok (.lst (aq ys)) [bO t j]:=rn;have vp:(PV.lst (aq ys)).pure=true:=by rw[PV.pure];exact eT l ys (dO t hz l 0 ys j td (aeL _) e).2.2.2
  have s3:aG 3 (bJ 604 (X_ (k+2) .d8) (ac 2) (aa (aJ (F (k+2) .q_) (aa (ac 0) (aa (cK (.tup fN)) af))) af)) [PV.tup (g8 l),PV.str t,PV.ref 0,none] [bO t (0:Nat)]=.nx [PV.tup (g8 l),PV.str t,PV.ref 0,PV.lst (aq ys)] [bO t j]:=by rw[nz];simp[EV,d0,dp,pn,ob,ajA,rn]
  dsimp only
  by_cases q:j<t.length
  .rw[ajz q];have dj:decide ((j:Int)<(t.length:Int))=true:=ajw ⋯;have rz:cQ true 12 acv [PV.tup (g8 l),PV.str t,PV.ref 0,PV.lst (aq ys)] [bO t j]=.exc (.N6 12 (.int j)) [bO t j]:=rfl
   have s4:H6 abZ (cQ true 12 acv) bh [PV.tup (g8 l),PV.str t,PV.ref 0,PV.lst (aq ys)] [bO t j]=.exc (.N6 12 (.int j)) [bO t j]:=by simp[EV,d0,f1,z1,dj,rz]
   rw[ux (.N6 12 (.int j)) [bO t j] ((sq s1).trans ((sq mk).trans ((sq s3).trans (by unfold aw;rw[s4]))))];rfl
  .rw[ajB q];have dj:decide ((j:Int)<(t.length:Int))=ajt:=ajv ⋯
   have s4:H6 abZ (cQ true 12 acv) bh [PV.tup (g8 l),PV.str t,PV.ref 0,PV.lst (aq ys)] [bO t j]=.nx [PV.tup (g8 l),PV.str t,PV.ref 0,PV.lst (aq ys)] [bO t j]:=by simp[EV,d0,f1,z1,dj]
   rw[un (.lst (aq ys)) [bO t j] ((sq s1).trans ((sq mk).trans ((sq s3).trans ((sq s4).trans rfl))))];unfold kJ;rw[iL _ vp];rfl
end
def Fj(ps:Y2)(hp:ai ps=true)(hv:v.pure=true)(h:Y3):(fn ps []=.ok v []->z_ fn ps h=.ok v h)/\(fn ps []=.exc v []->z_ fn ps h=.exc v h):=by
 have e:∀(l:Y2),ai l=true->Xy l= []/\(∀n,YX n l=l)/\nT l=true:=fun l hl=>by
  induction l with
  |nil=>exact⟨rfl,fun _=>rfl,rfl⟩
  |cons p r ih=>
   rw[ai,ael]at hl;obtain⟨a,b,c⟩:=ih hl.2;have np:∀i,p≠.ref i:=fun i e=>by have:=hl.1;subst e;simp[PV.pure]at this
   have e:nT (p::r)=(p.pure&&nT r):=by cases p<;>first|rfl|exact(np _ rfl).elim
   refine⟨?_,fun n=>?_,by rw[e,hl.1,c];rfl⟩
   .cases p<;>first|exact a|exact(np _ rfl).elim
   .cases p<;>first|exact aj0 _ (b n)|exact(np _ rfl).elim
 obtain⟨q1,q2,q3⟩:=e ps hp;refine⟨fun g=>?_,fun g=>?_⟩<;>
 .unfold z_;rw[q1];have g0:lR h []=some []:=rfl;rw[g0];dsimp only;have e5:(true&&dJ ([]:Y3)&&mU ([]:Y1))=true:=rfl;rw[q3,q2,g,ajz e5];dsimp only;rw[ajz ⟨hv,rfl,rfl⟩];rfl
def Aa(k:Nat)(f x v:PV)(fp:f.pure=true)(xp:x.pure=true)(vp:v.pure=true)(h:X_ k .J_ [f,x] []=.ok v []):F (k+1) .Q8 [f,x]=.ok (.tup [v]):=by
 have cl:=fun hh=>(Fj (fn:=X_ k .J_) [f,x] (by simp[ai,fp,xp]) vp hh).1 h;have tp:(PV.tup [v]).pure=true:=by simp[PV.pure,ai,vp]
 have ru:F (k+1) .Q8 [f,x]=ag (jq (F k) (X_ k)) 2 4 [f,x]:=rfl;rw[ru];refine jB (h1:=[]) (v:=.tup [v]) rfl ?_ (eK _ tp);show jq (F k) (X_ k) [f,x,none,none] []=_
 have g:aQ (cN aW (aa (bn (X_ k .J_) aaF) af)) [f,x,none,none] []=.rt (.tup [v]) []:=by simp[EV,ar _ fp,ar _ xp,cl]
 unfold jq ua;rw[g]
def qo(k:Nat)(f x v:PV)(fp:f.pure=true)(xp:x.pure=true)(vp:v.pure=true)(h:X_ k .J_ [f,x] []=.exc (.N6 12 v) []):F (k+1) .Q8 [f,x]=.ok (.lst [v]):=by
 have ep:(PV.N6 12 v).pure=true:=vp;have cl:=fun hh=>(Fj (fn:=X_ k .J_) [f,x] (by simp[ai,fp,xp]) ep hh).2 h;have tp:(PV.lst [v]).pure=true:=by simp[PV.pure,ai,vp]
 have ru:F (k+1) .Q8 [f,x]=ag (jq (F k) (X_ k)) 2 4 [f,x]:=rfl;rw[ru];refine jB (h1:=[]) (v:=.lst [v]) rfl ?_ (eK _ tp);show jq (F k) (X_ k) [f,x,none,none] []=_
 have g:aQ (cN aW (aa (bn (X_ k .J_) aaF) af)) [f,x,none,none] []=.exc (.N6 12 v) []:=by
  simp[EV,ar _ fp,ar _ xp,cl]
  try rfl
 unfold jq ua;rw[g];rfl
theorem FZ(k:Nat)(t:Y1)(ht:sgn t)(hz:t.length<=16000000)(l:List Nd)(td:O3 l)(P:PN (k+2) l)(N:XN t (k+2) l):F (k+4) .Q8 [.tup (g8 l),.str t]=.ok (iM (Xd t l)):=by
 have b:=Ic t ht hz k l td P N;have fp:(PV.tup (g8 l)).pure=true:=by rw[PV.pure];exact bv l
 cases e:Xd t l with
 |ok ys=>
  rw[e]at b
  have vp:(PV.lst (aq ys)).pure=true:=by
   unfold Xd at e
   cases e2:bX t l 0 with
   |error p=>rw[e2]at e;cases e
   |ok q=>
    obtain⟨zs,j⟩:=q;rw[e2]at e;dsimp only at e
    split at e
    .cases e
    .cases e
     rw[PV.pure];exact eT l _ (dO t hz l 0 _ j td (aeL _) e2).2.2.2
  exact Aa (k+3) _ _ _ fp rfl vp b
 |error p=>rw[e]at b;exact qo (k+3) _ _ _ fp rfl rfl b
def vB(k:Nat)(v:PV)(n1:∀h,oQ [v,.tup [.ty "list",.ty "tuple"]] h=.ok (.bl ajt) h)(vp:v.pure=true)(b:Bool)(n2:∀h,aV [v,.ty "bool"] h=.ok (.bl b) h)(e:∀h,v9 v v h=.ok (.bl true) h):F (k+1) .G8 [v,v]=.ok (.bl true):=by
 have eb:∀h,v9 (.bl b) (.bl b) h=.ok (.bl true) h:=fun h=>by cases b<;>rfl
 have dv:=fun h=>ar h vp;have tu:aW [.ty "list",.ty "tuple"] []=.ok (.tup [.ty "list",.ty "tuple"]) []:=rfl;show ag (jr (F k)) 2 2 [v,v]=_;simp[EV,ag,jr,dv,n1,n2,eb,e,aP]
def xx(k:Nat)(s:Y1)(hs:∀c∈s,c<1114112):F (k+1) .G8 [.str s,.str s]=.ok (.bl true):=vB k _ (fun _=>rfl) rfl ajt (fun _=>rfl) fun h=>by rw[iQ s s h hs hs,ajw rfl]
def nJ(k:Nat)(i:Int):F (k+1) .G8 [.int i,.int i]=.ok (.bl true):=vB k _ (fun _=>rfl) rfl ajt (fun _=>rfl) fun h=>by rw[db,ajw rfl]
def Ak(k:Nat)(b:Bool):F (k+1) .G8 [.bl b,.bl b]=.ok (.bl true):=vB k _ (fun _=>rfl) rfl true (fun _=>rfl) fun h=>by cases b<;>rfl
theorem ry(k:Nat)(X:PV)(xs:Y2)(hp:ai xs=true)(hx:∀(i:Nat) x,xs[i]? =some x->∀h,j5 X (.int (0+i)) h=.ok x h)(dX:∀h,aA h X=X)(S:∀x∈xs,F k .G8 [x,x]=.ok (.bl true)):∀(n i:Nat),i+n<=xs.length->∀h,cJ bQ (kN (F k)) [X,X] (Zz i n) h=.ok (aju n (.bl true)) h
 |0,i,hi,h=>rfl
 |n+1,i,hi,h=>by
  have ih:=ry k X xs hp hx dX S n (i+1) ⋯ h;have hl:i<xs.length:=by lia
  have g:=aej hl;have m:=afh hl
  have xp:xs[i].pure=true:=by
   have:∀(l:Y2),ai l=true->∀x∈l,x.pure=true:=fun l=>by
    induction l with
    |nil=>exact fun _ x hx=>nomatch hx
    |cons a l ih=>
     intro h x hx;rw[ai,ael]at h;rcases aek.mp hx with rfl|hx
     .exact h.1
     .exact ih h.2 x hx
   exact this xs hp _ m
  have sm:∀h,aR (F k .G8) [xs[i],xs[i]] h=.ok (.bl true) h:=fun h=>aH h (by simp[ai,xp]) (S _ m);have ix:=hx i _ g
  have te:∀h,kN (F k) [PV.int (0+i),X,X] h=.ok (.bl true) h:=fun h=>by simp[EV,kN,dX,ix,ar _ xp,sm]
  rw[Dp,cJ];simp only[bQ,Res.K9,ajA,te,ih,ae0]
def Bg(n:Nat)(h:Y3):GQ [.lst (aju n (.bl true))] h=.ok (.bl true) h:=by
 have b:∀n:Nat,jI (aju n adx)=some (aju n true):=fun n=>by
  induction n with
  |zero=>rfl
  |succ n ih=>rw[ae0,ae0,jI,ih];rfl
 have a:∀n:Nat,(aju n true).all id=true:=fun n=>by
  induction n with
  |zero=>rfl
  |succ n ih=>rw[ae0,afr,ih];rfl
 show(match jI (aju n adx)with|some bs=>Res.ok (PV.bl (bs.all id)) h|none=>.bad)=_;rw[b];dsimp only;rw[a]
def gz(k:Nat)(xs:Y2)(hp:ai xs=true)(hl:xs.length<=16000001)(S:∀x∈xs,F k .G8 [x,x]=.ok (.bl true)):F (k+1) .G8 [.lst xs,.lst xs]=.ok (.bl true):=by
 have hx:∀(i:Nat) x,xs[i]? =some x->∀h,j5 (.lst xs) (.int (0+i)) h=.ok x h:=fun i x e h=>Ft e (by
  have:∀(l:Y2),ai l=true->∀x∈l,x.pure=true:=fun l=>by
   induction l with
   |nil=>exact fun _ x hx=>nomatch hx
   |cons a l ih=>
    intro h x hx;rw[ai,ael]at h;rcases aek.mp hx with rfl|hx
    .exact h.1
    .exact ih h.2 x hx
  exact this xs hp x (aex e)) h
 have dX:∀h,aA h (.lst xs)=.lst xs:=fun _=>rfl;have cm:=ry k (.lst xs) xs hp hx dX S xs.length 0 ⋯;rw[<- It]at cm;have n1:∀h,oQ [.lst xs,.tup [.ty "list",.ty "tuple"]] h=.ok (.bl true) h:=fun _=>rfl;have n2:∀h,aV [.lst xs,.ty "list"] h=.ok (.bl true) h:=fun _=>rfl;have n3:∀h,aV [.lst xs,.ty "tuple"] h=.ok (.bl ajt) h:=fun _=>rfl;have e1:∀h,Tv (.bl true) (.bl true) h=.ok (.bl ajt) h:=fun _=>rfl;have e2:∀h,Tv (.bl ajt) (.bl ajt) h=.ok (.bl ajt) h:=fun _=>rfl;have el:∀h,v9 (.int (xs.length:Nat)) (.int (xs.length:Nat)) h=.ok (.bl true) h:=fun h=>by rw[db,ajw rfl]
 have al:=Bg xs.length;have cp:cU [0,1] [some (PV.lst xs),some (.lst xs)]=[some (.lst xs),some (.lst xs)]:=rfl;have ln:xs.length<16777216:=by lia
 have ln2:((ajy xs.length).map fun i:Nat=>PV.int (0+i)).length<16777216:=by simpa using ln
 have ls:(aju xs.length adx).length<16777216:=by simpa using ln
 have be:VJ 4611686018427387904 (xs.length:Int)=true:=bW.mpr ⟨by lia,by lia⟩;show ag (jr (F k)) 2 2 [.lst xs,.lst xs]=_;simp[EV,ag,jr,dX,n1,n2,n3,e1,e2,el,cp,cm,al,ln,ln2,ls,be,ae7,ajA,aP]
def Lz{x:PV}(e:xs[i]? =some x)(hx:x.pure=true)(h:Y3):j5 (.tup xs) (.int (0+i)) h=.ok x h:=by show(match Sy xs (0+i)with|some q=>Res.ok (aA h q) h|none=>.bad)=_;rw[eQ (v:=x) ⋯ (by rw[show(0+((i:Nat):Int)).toNat=i by lia];exact e)];dsimp only;rw[ar h hx]
def nF(k:Nat)(xs:Y2)(hp:ai xs=true)(hl:xs.length<=16000001)(S:∀x∈xs,F k .G8 [x,x]=.ok (.bl true)):F (k+1) .G8 [.tup xs,.tup xs]=.ok (.bl true):=by
 have hx:∀(i:Nat) x,xs[i]? =some x->∀h,j5 (.tup xs) (.int (0+i)) h=.ok x h:=fun i x e h=>Lz e (by
  have:∀(l:Y2),ai l=true->∀x∈l,x.pure=true:=fun l=>by
   induction l with
   |nil=>exact fun _ x hx=>nomatch hx
   |cons a l ih=>
    intro h x hx;rw[ai,ael]at h;rcases aek.mp hx with rfl|hx
    .exact h.1
    .exact ih h.2 x hx
  exact this xs hp x (aex e)) h
 have dX:∀h,aA h (.tup xs)=.tup xs:=fun h=>ar h (by rw[PV.pure];exact hp);have cm:=ry k (.tup xs) xs hp hx dX S xs.length 0 ⋯;rw[<- It]at cm;have n1:∀h,oQ [.tup xs,.tup [.ty "list",.ty "tuple"]] h=.ok (.bl true) h:=fun _=>rfl;have n2:∀h,aV [.tup xs,.ty "list"] h=.ok (.bl ajt) h:=fun _=>rfl;have n3:∀h,aV [.tup xs,.ty "tuple"] h=.ok (.bl true) h:=fun _=>rfl;have e1:∀h,Tv (.bl true) (.bl true) h=.ok (.bl ajt) h:=fun _=>rfl;have e2:∀h,Tv (.bl ajt) (.bl ajt) h=.ok (.bl ajt) h:=fun _=>rfl;have el:∀h,v9 (.int (xs.length:Nat)) (.int (xs.length:Nat)) h=.ok (.bl true) h:=fun h=>by rw[db,ajw rfl]
 have al:=Bg xs.length;have cp:cU [0,1] [some (PV.tup xs),some (.tup xs)]=[some (.tup xs),some (.tup xs)]:=rfl;have ln:xs.length<16777216:=by lia
 have ln2:((ajy xs.length).map fun i:Nat=>PV.int (0+i)).length<16777216:=by simpa using ln
 have ls:(aju xs.length adx).length<16777216:=by simpa using ln
 have be:VJ 4611686018427387904 (xs.length:Int)=true:=bW.mpr ⟨by lia,by lia⟩;show ag (jr (F k)) 2 2 [.tup xs,.tup xs]=_;simp[EV,ag,jr,dX,n1,n2,n3,e1,e2,el,cp,cm,al,ln,ln2,ls,be,ae7,ajA,aP]
theorem sG:∀(l:List Nd)(ys:List Fl),gS l ys->ys.length<=l.length
 |[],ys,h=>by rw[gS]at h;subst h;exact aeB _
 |n::r,ys,h=>by
  rw[gS]at h;rcases h with⟨_,h⟩|⟨z,t,rfl,g,h⟩
  .have:=sG r ys h;rw[aeh];lia
  .have:=sG r t h;rw[aeh,aeh];lia
mutual
theorem HD:∀(n:Nd)(x:Fl),SQ n->uN n<=14000000->gN n x->∀k,F (k+2 * dN n+1) .G8 [K8 x,K8 x]=.ok (.bl true)
 |.text _,x,td,hu,h=>by rw[gN]at h;exact h.elim
 |.place _ _ _,x,td,hu,h=>fun k=>by
  rw[gN]at h;obtain⟨v,rfl,vv,sc⟩:=h;rw[K8];rcases sc with⟨l,rfl⟩|⟨j,rfl⟩
  .cases vv with
   |str _ _ _ hc=>exact xx _ l fun c h=>dI c (hc c h)
  .exact nJ _ j
 |.loop _ _ _ ns _,x,td,hu,h=>fun k=>by
  rw[SQ]at td;have ls:=gY td.2.2.1;rw[gN]at h;rw[uN]at hu;obtain⟨xs,rfl,xl,g⟩:=h
  have gp:ai (aq (xs.map Fl.lst))=true:=by rw[gR];exact cj ns xs g
  rw[K8,dN];have e:k+2 * (M6 ns+1)+1=(k+2 * M6 ns+1+1)+1:=by lia
  rw[e];refine gz _ _ gp (by rw[eY,aes];exact xl) fun y hy=>?_;rw[gR]at hy;unfold rvs at hy;obtain⟨ys,hys,rfl⟩:=aeX.mp hy;have gy:=g ys hys;exact gz _ _ (eT ns ys gy) (by rw[eY];have:=sG ns ys gy;lia) (kH ns ys td.2.2.1 ⋯ gy k)
 |.choice _ _ y n,x,td,hu,h=>fun k=>by
  rw[SQ]at td;rw[gN]at h;rw[uN]at hu;have ly:y.length<=14000000:=by have:=gY td.2.2.2.2.1;lia
  have ln:n.length<=14000000:=by have:=gY td.2.2.2.2.2;lia
  obtain⟨b,ys,rfl,g1,g2⟩:=h;rw[K8,dN];have e:k+2 * (max (M6 y) (M6 n)+1)+1=(k+2 * max (M6 y) (M6 n)+1+1)+1:=by lia
  have m1:=afV (M6 y) (M6 n);have m2:=afG (M6 y) (M6 n)
  have sm:ai (aq ys)=true/\ys.length<=14000000/\∀x∈aq ys,F (k+2 * max (M6 y) (M6 n)+1) .G8 [x,x]=.ok (.bl true):=by
   cases b with
   |true=>
    have s:=kH y ys td.2.2.2.2.1 ⋯ (g1 rfl) (k+2 * (max (M6 y) (M6 n) - M6 y));have e2:k+2 * (max (M6 y) (M6 n) - M6 y)+2 * M6 y+1=k+2 * max (M6 y) (M6 n)+1:=by lia
    rw[e2]at s;exact⟨eT y ys (g1 rfl),aeI (sG y ys (g1 rfl)) ly,s⟩
   |false=>
    have s:=kH n ys td.2.2.2.2.2 ⋯ (g2 rfl) (k+2 * (max (M6 y) (M6 n) - M6 n));have e2:k+2 * (max (M6 y) (M6 n) - M6 n)+2 * M6 n+1=k+2 * max (M6 y) (M6 n)+1:=by lia
    rw[e2]at s;exact⟨eT n ys (g2 rfl),aeI (sG n ys (g2 rfl)) ln,s⟩
  rw[e];refine nF _ _ (by simp[ai,PV.pure,sm.1]) (by simp) fun x hx=>?_;simp only[aek,aeO,ajP]at hx;rcases hx with rfl|rfl
  .exact Ak _ b
  .exact gz _ _ sm.1 (by rw[eY];lia) sm.2.2
theorem kH:∀(l:List Nd)(ys:List Fl),O3 l->uS l<=14000000->gS l ys->∀k,∀x∈aq ys,F (k+2 * M6 l+1) .G8 [x,x]=.ok (.bl true)
 |[],ys,td,hu,h=>fun k x hx=>by rw[gS]at h;subst h;rw[aq]at hx;cases hx
 |n::r,ys,td,hu,h=>fun k x hx=>by
  rw[O3]at td;rw[gS]at h;rw[uS]at hu;rw[M6];have m1:=afV (dN n) (M6 r);have m2:=afG (dN n) (M6 r);have er:k+2 * (max (dN n) (M6 r) - M6 r)+2 * M6 r+1=k+2 * max (dN n) (M6 r)+1:=by lia
  have en:k+2 * (max (dN n) (M6 r) - dN n)+2 * dN n+1=k+2 * max (dN n) (M6 r)+1:=by lia
  rcases h with⟨_,h⟩|⟨z,t,rfl,g,h⟩
  .rw[<- er];exact kH r ys td.2 ⋯ h _ x hx
  .rw[aq]at hx;rcases aek.mp hx with rfl|hx
   .rw[<- en];exact HD n z td.1 ⋯ g _
   .rw[<- er];exact kH r t td.2 ⋯ h _ x hx
end
theorem Db(k:Nat)(t:Y1)(ht:sgn t)(hz:t.length<=16000000)(l:List Nd)(td:O3 l)(hu:uS l<=14000000):F (k+2 * M6 l+3) .G8 [iM (Xd t l),iM (Xd t l)]=.ok (.bl true):=by
 have er:∀p:Nat,F (k+2 * M6 l+3) .G8 [.lst [.int p],.lst [.int p]]=.ok (.bl true):=fun p=>gz (k+2 * M6 l+2) [.int (p:Nat)] rfl (by simp) fun x hx=>by rw[aeo.mp hx];exact nJ _ _
 unfold Xd
 cases e:bX t l 0 with
 |error p=>exact er p
 |ok q=>
  obtain⟨ys,j⟩:=q;have g:=(dO t hz l 0 ys j td (aeL _) e).2.2.2;dsimp only
  by_cases q:j<t.length
  .rw[ajz q];exact er j
  .rw[ajB q];have gp:=eT l ys g;show F (k+2 * M6 l+3) .G8 [.tup [.lst (aq ys)],.tup [.lst (aq ys)]]=_;refine nF (k+2 * M6 l+2) [.lst (aq ys)] (by simp[ai,PV.pure,gp]) (by simp) fun x hx=>?_;rw[aeo.mp hx];exact gz (k+2 * M6 l+1) _ gp (by rw[eY];have:=sG l ys g;have:=gY td;lia) (kH l ys td hu g k)
structure Fm(l:List Nd):Prop where
 td:O3 l
 fo:fo l=true
 dp:M6 l<=3
 ub:uS l<=14000000
def Ny{l:List Nd}(h:Nk 3 1000 14000000 l):Fm l:=⟨nA fun n hn=>(h.al n hn).td,h.fo,sO fun n hn=>(h.al n hn).dp,h.ub⟩
theorem uO(t:Y1)(ht:sgn t)(hz:t.length<=16000000)(l:List Nd)(td:O3 l):(iM (Xd t l)).pure=true:=by
 unfold Xd
 cases e:bX t l 0 with
 |error p=>rfl
 |ok q=>
  obtain⟨ys,j⟩:=q;have gp:=eT l ys (dO t hz l 0 ys j td (aeL _) e).2.2.2;dsimp only
  split
  .rfl
  .show(PV.tup [.lst (aq ys)]).pure=true;simp[PV.pure,ai,gp]
def qT(t:Y1)(ht:sgn t)(hz:t.length<=16000000)(l:List Nd)(f:Fm l):(∀h,aR (F 29 .Q8) [.tup (g8 l),.str t] h=.ok (iM (Xd t l)) h)/\(∀h,aR (F 29 .Xn) [.tup (g8 l),.str t] h=.ok (iM (Xd t l)) h)/\∀h,aR (F 29 .G8) [iM (Xd t l),iM (Xd t l)] h=.ok (.bl true) h:=by
 have np:(PV.tup (g8 l)).pure=true:=by rw[PV.pure];exact bv l
 have dp:=uO t ht hz l f.td;have P:PN 27 l:=vP 3 11 l f.td f.fo f.dp f.ub;have X:XN t 27 l:=vg t ht hz 3 14 l f.td f.fo f.dp f.ub;have N:NR t 28 l:=DV t ht hz 3 19 l ⋯ f.td f.fo f.dp f.ub;have a1:=FZ 25 t ht hz l f.td P X;have a2:=KY 27 t ht hz l f.td N;have a3:=Db (26 - 2 * M6 l) t ht hz l f.td f.ub;have e:26 - 2 * M6 l+2 * M6 l+3=29:=by have:=f.dp;lia
 rw[e]at a3;exact⟨fun h=>aH h (by rw[ai,np];rfl) a1,fun h=>aH h (by rw[ai,np];rfl) a2,fun h=>aH h (by simp[ai,dp]) a3⟩
section
variable(cs:List Int)(hc:cs.length<=63)(m:Int)(x0 x3 x4 x5 x6:Option PV)
abbrev wE(u:Y1)(x8 x9 T3 Uk:Option PV):Ev:=[x0,cv cs,PV.ref 0,x3,x4,x5,x6,PV.str u,x8,x9,T3,Uk]
include hc
theorem va:∀(xs:Y2)(u:Y1)(n:Int)(x8 x9 T3 Uk:Option PV),sgn u->u.length+xs.length<=15000000->0<=n->n+(xs.length:Int)<=1000000000->∃u' y8,sgn u'/\u'.length<=u.length+xs.length/\bc (P0 8) (nv (F 29) (L 29)) xs (wE cs x0 x3 x4 x5 x6 u x8 x9 T3 Uk) [u_ n m]=.nx (wE cs x0 x3 x4 x5 x6 u' y8 x9 T3 Uk) [u_ (n+(xs.length:Int)) m]
 |[],u,n,x8,x9,T3,Uk,hu,hl,h0,h1=>⟨u,x8,hu,aeB _,by rw[aeJ,ai1,Int.add_zero];rfl⟩
 |p::xs,u,n,x8,x9,T3,Uk,hu,hl,h0,h1=>by
  rw[aeh]at hl h1;obtain⟨v,v0,v1,ce⟩:=dA 28 cs hc n m h0 ⋯ [];obtain⟨u1,s1,l1,be⟩:=Bc 27 u hu ⋯ v;have be:∀h,aR (F 29 .Q7) [.str u,.int v] h=.ok (.str u1) h:=fun h=>aH h rfl be;obtain⟨u2,y8,s2,l2,e⟩:=va xs u1 (n+1) (some p) x9 T3 Uk s1 ⋯ ⋯ ⋯;refine⟨u2,y8,s2,by rw[aeh];lia,?_⟩;have d0:∀n:Int,aA [u_ n m] (.ref 0)=.ref 0:=fun _=>rfl
  have st:nv (F 29) (L 29) (wE cs x0 x3 x4 x5 x6 u (some p) x9 T3 Uk) [u_ n m]=.nx (wE cs x0 x3 x4 x5 x6 u1 (some p) x9 T3 Uk) [u_ (n+1) m]:=by simp[EV,nv,wE,fy,d0,ce,be]
  have en:n+1+(xs.length:Int)=n+((p::xs).length:Int):=by rw[aeh];lia
  rw[en]at e;exact(cC rfl st).trans e
end
section
variable(cs:List Int)(hc:cs.length<=63)(m:Int)
include hc
theorem Do(n:Int)(h0:0<=n)(h1:n<=900000000)(w6:Int)(p0:0<=w6)(p1:w6<=5):∃(ss:Ya)(n':Int),sgn ss.flatten/\ss.flatten.length<=5/\n<=n'/\n'<=n+5/\cJ bQ (ot (F 29) (L 29)) [cv cs,PV.ref 0] ((ajy w6.toNat).map fun i:Nat=>PV.int (0+i)) [u_ n m]=.ok (ss.map PV.str) [u_ n' m]:=by
 have mk:=gD 28
 obtain⟨ss,n',a1,a2,a3,a4,a5⟩:=qI (te:=ot (F 29) (L 29)) (cp:=[cv cs,PV.ref 0]) (m:=m) (T:=[]) (fun i:Nat=>PV.int (0+i)) PV.str (fun s=>∃c,c∈aI/\s= [c]) 1 ⋯ 950000000 (ajy w6.toNat) n h0 (by rw[aeH];lia) fun i hi n h0 h1=>by obtain⟨v,v0,v1,ce⟩:=dA 28 cs hc n m h0 ⋯ [];have q9:=bD v (m:=95) ⋯;obtain⟨c,hcc,ce2⟩:=lM _ q9.1 q9.2;have d0:∀n:Int,aA [u_ n m] (.ref 0)=.ref 0:=fun _=>rfl;refine⟨[c],n+1,⟨c,hcc c (by simp),rfl⟩,by lia,by lia,?_⟩;simp[EV,ot,mk,fy,d0,ce,ce2]
 obtain⟨j1,j2⟩:=zy ss _ a2;rw[aeH]at a1 a4;exact⟨ss,n',j2,by lia,a3,by lia,a5⟩
theorem xV(l:List Nd)(f:Fm l)(x0 x5 x7 x8 x9 T3 Uk:Option PV)(w3 w6:Int)(p0:0<=w6)(p1:w6<=5)(n:Int)(h0:0<=n)(h1:n<=800000000):∃u y8 n',sgn u/\u.length<=14000003/\n<=n'/\n'<=n+14000009/\qk (F 29) (L 29) [x0,cv cs,PV.ref 0,PV.int w3,PV.tup (g8 l),x5,PV.int w6,x7,x8,x9,T3,Uk] [u_ n m]=.nx [x0,cv cs,PV.ref 0,PV.int w3,PV.tup (g8 l),x5,PV.int w6,PV.str u,y8,iM (Xd u l),T3,Uk] [u_ n' m]:=by
 have fu:=f.ub;have D:Drw cs 29 l:=AT cs hc 23 3 l f.td f.dp f.ub;obtain⟨ys,n1,fr,fp,b1,b2,fe⟩:=ou D n m [] h0 ⋯;have S:SpL 29 l:=qq 17 3 l f.td f.dp f.ub;obtain⟨t0,s0,l0,se⟩:=nE S fr fp;have d0:∀n:Int,aA [u_ n m] (.ref 0)=.ref 0:=fun _=>rfl
 have s7:aG 7 (aJ (F 29 .spelt) (aa (ac 4) (aa (bn (L 29 .T6) adM) af))) [x0,cv cs,PV.ref 0,PV.int w3,PV.tup (g8 l),x5,PV.int w6,x7,x8,x9,T3,Uk] [u_ n m]=.nx (wE cs x0 (some (.int w3)) (some (.tup (g8 l))) x5 (some (.int w6)) t0 x8 x9 T3 Uk) [u_ n1 m]:=by simp[EV,wE,fy,d0,fe,se]
 obtain⟨v,v0,v1,ce⟩:=dA 28 cs hc n1 m ⋯ ⋯ [];have q4:=bD v (m:=4) ⋯;have rl:((ajy (v % 4).toNat).map fun i:Nat=>PV.int (0+i)).length<=3:=by rw[aes,aeH];lia
 obtain⟨t1,y8,s1,l1,be⟩:=va cs hc m x0 (some (.int w3)) (some (.tup (g8 l))) x5 (some (.int w6)) ((ajy (v % 4).toNat).map fun i:Nat=>PV.int (0+i)) t0 (n1+1) x8 x9 T3 Uk s0 ⋯ ⋯ ⋯;have bl4:VJ 4611686018427387904 (v % 4)=true:=bW.mpr ⟨by lia,by lia⟩;generalize hr:(((ajy (v % 4).toNat).map fun i:Nat=>PV.int (0+i)).length:Int)=rn at be;have rn3:0<=rn/\rn<=3:=by lia
 have s8:ik (cw (aa (c2 bt (bn (L 29 .K5) aa1) aaR) af)) (P0 8) (nv (F 29) (L 29)) (wE cs x0 (some (.int w3)) (some (.tup (g8 l))) x5 (some (.int w6)) t0 x8 x9 T3 Uk) [u_ n1 m]=.nx (wE cs x0 (some (.int w3)) (some (.tup (g8 l))) x5 (some (.int w6)) t1 y8 x9 T3 Uk) [u_ (n1+1+rn) m]:=by rw[<- be];simp[EV,wE,fy,d0,ce,bl4]
 obtain⟨u,n3,su,lu,m3,m4,s9⟩:∃u n3,sgn u/\u.length<=14000003/\n1+1+rn<=n3/\n3<=n1+1+rn+5/\H6 aci (aG 7 (cM et eJ aas (aa (cN VL (cy [1,2] (cw acJ) bQ (ot (F 29) (L 29)))) af))) bh (wE cs x0 (some (.int w3)) (some (.tup (g8 l))) x5 (some (.int w6)) t1 y8 x9 T3 Uk) [u_ (n1+1+rn) m]=.nx (wE cs x0 (some (.int w3)) (some (.tup (g8 l))) x5 (some (.int w6)) u y8 x9 T3 Uk) [u_ n3 m]:=by
  have eq:=fun h=>db ((w6+w3) % 9) 7 h
  by_cases q:(w6+w3) % 9=7
  .rw[ajw q]at eq;obtain⟨ss,n3,g1,g2,g3,g4,cm⟩:=Do cs hc m (n1+1+rn) ⋯ ⋯ w6 p0 p1;have jn:=ya (ss:=ss) ⋯;have bl6:VJ 4611686018427387904 w6=true:=bW.mpr ⟨by lia,by lia⟩;have cp:cU [1,2] (wE cs x0 (some (.int w3)) (some (.tup (g8 l))) x5 (some (.int w6)) t1 y8 x9 T3 Uk)=[some (cv cs),some (.ref 0)]:=rfl;have cln:((ajy w6.toNat).map fun i:Nat=>PV.int (0+i)).length<16777216:=by rw[aes,aeH];lia
   refine⟨ss.flatten,n3,g1,by lia,g3,g4,?_⟩;unfold wE at cp;simp[EV,wE,eq,bl6,cp,cln,cm,jn]
  .rw[ajv q]at eq;refine⟨t1,n1+1+rn,s1,by lia,agR _,by lia,?_⟩;simp[EV,wE,eq]
 obtain⟨c1,Vs,c3⟩:=qT u su ⋯ l f;have dp:=uO u su ⋯ l f.td;refine⟨u,y8,n3,su,lu,by lia,by lia,?_⟩;refine(sq s7).trans ((sq s8).trans ((sq s9).trans ?_));generalize iM (Xd u l)=du at*;simp[EV,wE,ar _ dp,c1,Vs,c3]
end
def Fo(k:Nat)(f x:PV)(xp:x.pure=true)(no:(∀h,aV [x,.ty "str"] h=.ok (.bl ajt) h)\/∃s,x=.str s/\s.length<=16000000/\s.all (aI).contains=ajt):X_ (k+3) .J_ [f,x] []=.exc (.N6 12 .non) []:=by
 have dx:=fun h=>ar h xp
 have s1:H6 (jY (eG (aU (cN aV (aa (ac 1) (aa (cK (.ty "str")) af))))) (eG (aU (aJ (F (k+2) .G5) ace)))) (cQ true 12 acP) bh [f,x,none,none] []=.exc (.N6 12 .non) []:=by
  have rz:cQ true 12 acP [f,x,none,none] []=.exc (.N6 12 .non) []:=rfl;rcases no with n|⟨s,rfl,sl,sa⟩
  .simp[EV,dx,n,rz]
  .have z1:s.length<=16777216:=by lia
   have tx:∀h,aR (F (k+2) .G5) [.str s,.int (s.length:Nat)] h=.ok (.bl ajt) h:=fun h=>aH h rfl (by rw[fW k s (s.length:Nat) z1,sa,aji])
   simp[EV,z1,tx,rz]
 show lG (bN (F (k+2)) (X_ (k+2)) true) 2 4 [f,x] []=_;refine vF (h1:=[]) (v:=.N6 12 .non) rfl ?_ rfl;show bN (F (k+2)) (X_ (k+2)) true [f,x,none,none] []=_;unfold bN aw;rw[s1]
def CM(k:Nat)(f x:PV)(fp:f.pure=true)(xp:x.pure=true)(no:(∀h,aV [x,.ty "str"] h=.ok (.bl ajt) h)\/∃s,x=.str s/\s.length<=16000000/\s.all (aI).contains=ajt)(h:Y3):aR (F (k+4) .Q8) [f,x] h=.ok (.lst [.non]) h:=aH h (by simp[ai,fp,xp]) (qo (k+3) f x .non fp xp rfl (Fo k f x xp no))
def wK(u v:Y1):(u++9::v).all (aI).contains=ajt:=by rw[ai9,afr,show(aI).contains 9=ajt from by decide,ajh,aji]
def Hp(w:Nat)(hw:w<2)(n:Nat)(hn:3900<=n):WK w (aju n 55) 0=none:=by
 have st:T4 w (aju n 55) 0=aju n 55:=by
  have tw:∀p:Nat->Bool,p 55=true->((aju n 55).drop 0).takeWhile p=aju n 55:=fun p hp=>by rw[afq];exact vq fun c hc=>by rw[(aix.mp hc).2];exact hp
  have e:Wm w (aju n 55) 0=n:=by
   rcases(show w=0\/w=1 by lia)with rfl|rfl
   .show 0+(((aju n 55).drop 0).takeWhile (aM).contains).length=n;rw[tw _ ⋯,ae9];lia
   .rw[xr,ajB (by rw[afM];split<;>simp),tw _ ⋯,ae9];lia
  unfold T4;rw[e,afq,Nat.sub_zero];exact ae6 (by rw[ae9];lia)
 refine jf fun v c=>?_;rw[st]at c;rcases jo ⋯ c with⟨_,e⟩|⟨_,j,_,j1,j2,e⟩|⟨h2,_⟩
 .have:=c.1;rw[e]at this
  cases this with
  |str _ _ z _=>rw[ae9]at z;lia
 .have:=(str_int j1 j2).2.2.2;rw[<- e,ae9]at this
  lia
 .lia
def By(w:Nat)(hw:w<2)(n:Nat)(hn:3900<=n)(hl:n<=5000)(h:Y3):aR (F 29 .Q8) [.tup [.tup [.str tP,.tup [.str [97]],.str (ca w)]],.str (aju n 55)] h=.ok (.lst [.int 0]) h:=by
 have f:Fm [.place [97] [] w]:=⟨by rw[O3,O3,SQ];exact⟨by lia,trivial⟩,rfl,by rw[M6,M6,dN];decide,by rw[uS,uS,uN];decide⟩
 have st:sgn (aju n 55):=fun c hc=>by rw[(aix.mp hc).2];decide
 have g:=(qT (aju n 55) st (by rw[ae9];lia) _ f).1 h
 have e:Xd (aju n 55) [.place [97] [] w]=.error 0:=by unfold Xd;rw[bX,VH,Hp w hw n hn]
 rw[e]at g
 have q:PV.tup (g8 [.place [97] [] w])=.tup [.tup [.str tP,.tup [.str [97]],.str (ca w)]]:=by rw[g8,g8,nd];rfl
 rw[q]at g;exact g
def Pd(k:Int)(h0:0<=k)(h1:k<=5000)(h:Y3):jh (.str [55]) (.int k) h=.ok (.str (aju k.toNat 55)) h:=by
 have e:rB [55] k=aju k.toNat 55:=by
  unfold rB
  have:∀n:Nat,(aju n [55]).flatten=aju n 55:=fun n=>by
   induction n with
   |zero=>rfl
   |succ n ih=>rw[ae0,ae4,ih];rfl
  exact this _
 show(if VJ 1048576 k=true/\([55]:Y1).length * k.toNat<=1048576 then Res.ok (PV.str (rB [55] k)) h else .bad)=_;rw[ajz ⟨bW.mpr ⟨by lia,by lia⟩,by simp;lia⟩,e]
noncomputable def R_:List Nd:=[.place [97] [] 0,.text [10]]
def cV:List Nd:=[.loop [97] [99] [] R_ [],.choice [98] [] [.place [100] [] 2] []]
noncomputable def rPs:Y2:=[.tup [.str tP,.ins 0 []],.tup [.str tT,.str [10]]]
def kf:PV:=.tup [bp [34] ajt,.lst [.tup [.str tP,.ins 2 []]]]
def Xj:PV:=.tup [bp [] true,.lst []]
def XJ:Y2:=[.tup [.str tL,.str aM,.lst rPs,.str []],.tup [.str tC,kf,Xj]]
def Gy:PV.tup (g8 cV)=.tup [.tup [.str tL,.str [97],.tup [.str [99]],.tup [.tup [.str tP,.tup [.str [97]],.str wW],.tup [.str tT,.str [10]]],.str []],.tup [.str tC,.tup [.str [98]],.tup [.tup [.str tP,.tup [.str [100]],.str wQ]],.tup []]]:=by unfold cV R_;simp only[g8,nd];rfl
def Mj(k:Nat):F (k+20) .q_ [.tup (g8 cV),bp [] true]=.ok (.lst XJ):=by kernel_rfl
noncomputable def Wb(t al:Y1)(i:Nat):Bool:=match t[i]? with
 |some c=>al.contains c
 |none=>ajt
noncomputable def Xh(t:Y1):Nat->Nat->Except Nat (List (List Fl)×Nat)
 |0,j=>.ok ([],j)
 |f+1,j=>if Wb t aM j=true then(match bX t R_ j with
   |.error p=>.error p
   |.ok (vs,j2)=>match Xh t f j2 with
    |.error p=>.error p
    |.ok (ws,l)=>.ok (vs::ws,l))
  else .ok ([],j)
def DF:O3 R_:=by unfold R_;rw[O3,O3,O3,SQ,SQ];exact⟨by decide,⟨by simp,fun c hc=>by rw[aeo.mp hc];decide⟩,trivial⟩
section
variable(t:Y1)(ht:sgn t)(hz:t.length<=16000000)
include hz
theorem xJ(i:Nat)(vs:List Fl)(j:Nat)(hi:i<=t.length)(h:bX t R_ i=.ok (vs,j)):i<j/\j<=t.length/\gS R_ vs:=by
 obtain⟨a,b,_,d⟩:=dO t hz R_ i vs j DF hi h;refine⟨?_,b,d⟩;unfold R_ at h;rw[bX,VH]at h
 cases e:WK 0 t i with
 |none=>rw[e]at h;cases h
 |some q=>
  obtain⟨v,e'⟩:=q;rw[e]at h;have:=kA e hi;dsimp only at h;rw[bX,VH]at h
  cases e2:Xi t [10] e' with
  |error p=>rw[e2]at h;cases h
  |ok l=>
   rw[e2]at h;dsimp only at h;rw[bX]at h
   cases h
   have:=mQ e2 this.2.1;simp at this
   lia
include ht
theorem vw(k:Nat)(al:Y1)(i:Nat)(hi:i<=t.length)(T:Y3)(hT:V_ T):X_ (k+1) .f9 [.ref 0,.str al] (bO t (i:Nat)::T)=.ok (.bl (Wb t al i)) (bO t (i:Nat)::T):=by
 have f0:=yr t i T;have f1:=pR t i T;have d0:=sW t i T;have z1:t.length<=16777216:=by lia
 have ct:sQ (T.length+1) (.bl (Wb t al i)) (bO t (i:Nat)::T)=.ok (.bl (Wb t al i)) (bO t (i:Nat)::T):=by have:=yj t i T hT (.bl (Wb t al i)) [];rw[aep]at this;exact this
 have lt:c2 Tw aat abM [PV.ref 0,PV.str al] (bO t (i:Nat)::T)=.ok (.bl (decide (i<t.length))) (bO t (i:Nat)::T):=by simp[EV,d0,f0,f1,z1,gX]
 have an:=wD (c:=c2 Wz adI (ac 1)) lt
 have val:jT (c2 Tw aat abM) acs [PV.ref 0,PV.str al] (bO t (i:Nat)::T)=.ok (.bl (Wb t al i)) (bO t (i:Nat)::T):=by
  rw[an];rcases aeR i t.length with q|q
  .have a:=eX q;rw[ajw q,ajz rfl]
   have e:al.contains t[i]=Wb t al i:=by unfold Wb;rw[aej q]
   simp[EV,d0,f0,f1,z1,a,cR,cO,e]
  .have l:decide (i<t.length)=ajt:=ajv ⋯;have e:Wb t al i=ajt:=by unfold Wb;rw[aeE q]
   rw[l,e,ajB ⋯]
 show gM (bH (F k)) 2 2 [.ref 0,.str al] (bO t (i:Nat)::T)=_
 have this:bH (F k) [PV.ref 0,PV.str al] (bO t (i:Nat)::T)=.rt (.bl (Wb t al i)) (bO t (i:Nat)::T):=by unfold bH;show ey _ _=_;rw[val];rfl
 refine fG rfl this ?_;have:=pN t i T hT (.bl (Wb t al i)) rfl [];rw[aep]at this;exact this
abbrev rW(T:Y3)(g:Bool):Ev:=[PV.ref 0,PV.str aM,PV.lst (bj R_),PV.str [],PV.ref (T.length+1),PV.bl g]
theorem Mh(k:Nat):XN t (k+7) R_:=wT t ht hz k R_ DF (by unfold R_;rw[uS,uS,uS,uN,uN];decide) fun q1 n q2 e=>by
 have hn:n∈R_:=by rw[e];simp
 unfold R_ at hn;simp only[aek,aeO,ajP]at hn;refine⟨fun x a f ns b e=>?_,fun a f y m e=>?_⟩<;>rcases hn with rfl|rfl<;>cases e
theorem FN(k:Nat)(T:Y3)(hT:V_ T)(N:XN t (k+2) R_):∀(g:Nat)(ws:List (List Fl))(j:Nat),(∀ys∈ws,gS R_ ys)->ws.length<=j->j<=t.length->t.length<=j+g->
  match bX t R_ j with
  |.error p=>∃fs,ai fs=true/\bo aa5 (aj (F (k+2)) (X_ (k+2))) (rW T true) (rH t j T (rvs ws))=.exc (.N6 12 (.int p)) (rH t p T fs)
  |.ok (vs,j2)=>match Xh t g j2 with
   |.error p=>∃fs,ai fs=true/\bo aa5 (aj (F (k+2)) (X_ (k+2))) (rW T true) (rH t j T (rvs ws))=.exc (.N6 12 (.int p)) (rH t p T fs)
   |.ok (us,l)=>bo aa5 (aj (F (k+2)) (X_ (k+2))) (rW T true) (rH t j T (rvs ws))=.nx (rW T ajt) (rH t l T (rvs (ws++vs::us))):=fun g=>by
 induction g with
 |zero=>
  intro ws j hg wl hj hf;have jl:j=t.length:=by lia
  cases e:bX t R_ j with
  |ok q=>
   obtain⟨vs,j2⟩:=q;have h1:=(xJ t hz j vs j2 hj e).1;have h2:=(xJ t hz j vs j2 hj e).2.1
   lia
  |error p=>
   have Yd:=iV hT (cj R_ ws hg);have rn:=N j (T++ [.lst (rvs ws)]) hj Yd;rw[e]at rn;have rn:X_ (k+2) .d8 [.ref 0,.lst (bj R_)] (rH t j T (rvs ws))=.exc (.N6 12 (.int p)) (rH t p T (rvs ws)):=rn;have d0:=pG t j T (rvs ws);have d1:=vJ t j T (rvs ws);have li:=BL t j T (rvs ws);have ob:=pF t j T (rvs ws)
   have body:aj (F (k+2)) (X_ (k+2)) (rW T true) (rH t j T (rvs ws))=.exc (.N6 12 (.int p)) (rH t p T (rvs ws)):=by simp[EV,aj,rW,d0,d1,li,ob,ajA,rn];rfl
   exact⟨rvs ws,cj R_ ws hg,xy rfl body⟩
 |succ g ih=>
  intro ws j hg wl hj hf;have wp:=cj R_ ws hg;have Yd:=iV hT wp;have rn:=N j (T++ [.lst (rvs ws)]) hj Yd;have d0:=fun(j:Nat) ws=>pG t j T (rvs ws);have d1:=fun(j:Nat) ws=>vJ t j T (rvs ws);have li:=fun(j:Nat) ws=>BL t j T (rvs ws);have ob:=fun(j:Nat) ws=>pF t j T (rvs ws)
  cases e:bX t R_ j with
  |error p=>
   rw[e]at rn;have rn:X_ (k+2) .d8 [.ref 0,.lst (bj R_)] (rH t j T (rvs ws))=.exc (.N6 12 (.int p)) (rH t p T (rvs ws)):=rn
   have body:aj (F (k+2)) (X_ (k+2)) (rW T true) (rH t j T (rvs ws))=.exc (.N6 12 (.int p)) (rH t p T (rvs ws)):=by simp[EV,aj,rW,d0,d1,li,ob,ajA,rn];rfl
   exact⟨rvs ws,wp,xy rfl body⟩
  |ok q=>
   obtain⟨vs,j2⟩:=q;obtain⟨b3,b2,b4⟩:=xJ t hz j vs j2 hj e;rw[e]at rn;have rn:X_ (k+2) .d8 [.ref 0,.lst (bj R_)] (rH t j T (rvs ws))=.ok (.lst (aq vs)) (rH t j2 T (rvs ws)):=rn
   have hg':∀ys∈ws++ [vs],gS R_ ys:=fun ys hy=>by
    rcases aeF.mp hy with z|z
    .exact hg ys z
    .rw[aeo.mp z];exact b4
   have wp':=cj R_ (ws++ [vs]) hg'
   have ap:aZ (.ref (T.length+1)) [.lst (aq vs)] (rH t j2 T (rvs ws))=.ok .non (rH t j2 T (rvs (ws++ [vs]))):=by rw[nK];exact vK t j2 T (rvs ws) _ (by unfold rvs;rw[aes];lia)
   have hT2:=iV hT wp';have st:∀c,X_ (k+2) .f9 [.ref 0,.str c] (rH t j2 T (rvs (ws++ [vs])))=.ok (.bl (Wb t c j2)) (rH t j2 T (rvs (ws++ [vs]))):=fun c=>vw t ht hz (k+1) c j2 b2 _ hT2;have XQ:=xt t ht hz k [] (fun c h=>(nomatch h)) j2 b2 _ hT2;have XQ:X_ (k+2) .g_ [.ref 0,.str []] (rH t j2 T (rvs (ws++ [vs])))=_:=XQ;have hcb:∀ ρ h,ρ=rW T true->gG aby aaO (ac 1) ρ h=.ok (.str aM) h:=fun ρ h e=>by subst e;rfl
   have e5:∀ ρ h,ρ=rW T true->h=rH t j2 T (rvs (ws++ [vs]))->aG 5 (bJ 604 (X_ (k+2) .f9) (ac 0) (aa (gG aby aaO (ac 1)) af)) ρ h=.nx (rW T (Wb t aM j2)) h:=fun ρ h e1 e2=>by
    have ea:aa (gG aby aaO (ac 1)) af ρ h=.ok [.str aM] h:=by show((gG aby aaO (ac 1) ρ h).bind fun _ _=>_)=_;rw[hcb ρ h e1];rfl
    have mm:bJ 604 (X_ (k+2) .f9) (ac 0) (aa (gG aby aaO (ac 1)) af) ρ h=.ok (.bl (Wb t aM j2)) h:=by subst e2;have:=Od t j2 (T++ [.lst (rvs (ws++ [vs]))]) (fn:=X_ (k+2) .f9) (o:=ac 0) (ρ:=ρ) (by rw[e1];rfl) ea;exact this.trans (st _)
    unfold aG;rw[mm,e1];rfl
   have a1:cx (cM cI aZ (ac 4) (aa (bJ 604 (X_ (k+2) .d8) (ac 0) aaB) af)) (rW T true) (rH t j T (rvs ws))=.nx (rW T true) (rH t j2 T (rvs (ws++ [vs]))):=by simp[EV,rW,d0,d1,li,ob,ajA,rn,ap]
   dsimp only;rw[Xh]
   cases q:Wb t aM j2 with
   |true=>
    rw[ajz rfl];have YQ:=e5 _ _ rfl rfl;rw[q]at YQ;rw[Xi]at XQ;have XQ:X_ (k+2) .g_ [.ref 0,.str []] (rH t j2 T (rvs (ws++ [vs])))=.ok .non (rH t j2 T (rvs (ws++ [vs]))):=XQ
    have a3:H6 aa5 (cx (bJ 604 (X_ (k+2) .g_) (ac 0) aaD)) bh (rW T true) (rH t j2 T (rvs (ws++ [vs])))=.nx (rW T true) (rH t j2 T (rvs (ws++ [vs]))):=by
     simp[EV,rW,d0,ob,ajA,XQ]
     try rfl
    have body:aj (F (k+2)) (X_ (k+2)) (rW T true) (rH t j T (rvs ws))=.nx (rW T true) (rH t j2 T (rvs (ws++ [vs]))):=(sq a1).trans ((sq YQ).trans a3);have ih:=ih (ws++ [vs]) j2 hg' (by rw[aei,aev];lia) b2 ⋯
    cases e4:bX t R_ j2 with
    |error p=>rw[e4]at ih;obtain⟨fs,fp,ih⟩:=ih;exact⟨fs,fp,eI rfl body ih nofun⟩
    |ok u=>
     obtain⟨vs3,j4⟩:=u;rw[e4]at ih;dsimp only at ih |-
     cases e6:Xh t g j4 with
     |error p=>rw[e6]at ih;obtain⟨fs,fp,ih⟩:=ih;exact⟨fs,fp,eI rfl body ih nofun⟩
     |ok u=>obtain⟨us,l⟩:=u;rw[e6]at ih;dsimp only at ih |-;rw[aeK]at ih;exact eI rfl body ih nofun
   |false=>rw[ajB ⋯];have YQ:=e5 _ _ rfl rfl;rw[q]at YQ;dsimp only;have a3:H6 aa5 (cx (bJ 604 (X_ (k+2) .g_) (ac 0) aaD)) bh (rW T ajt) (rH t j2 T (rvs (ws++ [vs])))=.nx (rW T ajt) (rH t j2 T (rvs (ws++ [vs]))):=rfl;have body:aj (F (k+2)) (X_ (k+2)) (rW T true) (rH t j T (rvs ws))=.nx (rW T ajt) (rH t j2 T (rvs (ws++ [vs]))):=(sq a1).trans ((sq YQ).trans a3);exact eI rfl body (gQ rfl) nofun
omit hz ht
def xrW(t:Y1)(T:Y3):Except Nat (List (List Fl)×Nat)->Res PV
 |.ok (ws,l)=>.ok (.lst (rvs ws)) (bO t (l:Nat)::T)
 |.error p=>.exc (.N6 12 (.int p)) (bO t (p:Nat)::T)
theorem mO(hz:t.length<=16000000):∀(f j:Nat)(ws:List (List Fl))(l:Nat),j<=t.length->Xh t f j=.ok (ws,l)->j<=l/\l<=t.length/\ws.length+j<=l/\∀ys∈ws,gS R_ ys
 |0,j,ws,l,hj,h=>by
  rw[Xh]at h
  cases h
  exact⟨aeB _,hj,by simp,fun ys h=>(nomatch h)⟩
 |f+1,j,ws,l,hj,h=>by
  rw[Xh]at h
  split at h
  .split at h
   .cases h
   .rename_i vs j2 e2;obtain⟨b1,b2,b3⟩:=xJ t hz _ _ _ hj e2
    split at h
    .cases h
    .rename_i ws' l' e3
     cases h
     obtain⟨c1,c2,c3,c4⟩:=mO hz f j2 _ _ b2 e3;refine⟨by lia,c2,by rw[aeh];lia,fun ys hy=>?_⟩;rcases aek.mp hy with rfl|hy
     .exact b3
     .exact c4 ys hy
  .cases h
   exact⟨aeB _,hj,by simp,fun ys h=>(nomatch h)⟩
include ht hz
theorem Bo(k:Nat)(N:XN t (k+2) R_)(i:Nat)(hi:i<=t.length)(T:Y3)(hT:V_ T):X_ (k+3) .h_ [.ref 0,.str aM,.lst (bj R_),.str []] (bO t (i:Nat)::T)=xrW t T (Xh t (t.length+2) i):=by
 have Yd:V_ (T++ [.lst []]):=iV hT rfl;have st:X_ (k+2) .f9 [.ref 0,.str aM] (rH t i T [])=.ok (.bl (Wb t aM i)) (rH t i T []):=vw t ht hz (k+1) aM i hi _ Yd;have d0:=pG t i T [];have ob:=pF t i T [];have mk:aG 4 aaW [PV.ref 0,PV.str aM,PV.lst (bj R_),PV.str [],none,none] (bO t (i:Nat)::T)=.nx [PV.ref 0,PV.str aM,PV.lst (bj R_),PV.str [],PV.ref (T.length+1),none] (rH t i T []):=rfl
 have s5:aG 5 (bJ 604 (X_ (k+2) .f9) (ac 0) aak) [PV.ref 0,PV.str aM,PV.lst (bj R_),PV.str [],PV.ref (T.length+1),none] (rH t i T [])=.nx (rW T (Wb t aM i)) (rH t i T []):=by simp[EV,rW,d0,ob,ajA,st]
 have rt:∀(l:Nat)(ws:List (List Fl)),aQ (ac 4) (rW T ajt) (rH t l T (rvs ws))=.rt (.ref (T.length+1)) (rH t l T (rvs ws)):=fun l ws=>by have d1:=vJ t (l:Nat) T (rvs ws);simp[EV,rW,d1]
 show gM (dY (F (k+2)) (X_ (k+2))) 4 6 [.ref 0,.str aM,.lst (bj R_),.str []] (bO t (i:Nat)::T)=_;rw[Xh]
 cases q:Wb t aM i with
 |true=>
  rw[ajz rfl];rw[q]at s5;have lp:=FN t ht hz k T hT N (t.length+1) [] i (fun ys h=>(nomatch h)) (by simp) hi ⋯
  cases e:bX t R_ i with
  |error p=>rw[e]at lp;obtain⟨fs,fp,lp⟩:=lp;refine fV rfl ((sq mk).trans ((sq s5).trans ?_)) (kl t p T hT (.N6 12 (.int p)) (gb _) [.lst fs]);have lp:bo aa5 (aj (F (k+2)) (X_ (k+2))) (rW T true) (rH t i T [])=_:=lp;unfold aw;rw[lp];rfl
  |ok v=>
   obtain⟨vs,j⟩:=v;rw[e]at lp;obtain⟨b1,b2,b4⟩:=xJ t hz i vs j hi e;dsimp only at lp |-
   cases e2:Xh t (t.length+1) j with
   |error p=>rw[e2]at lp;obtain⟨fs,fp,lp⟩:=lp;refine fV rfl ((sq mk).trans ((sq s5).trans ?_)) (kl t p T hT (.N6 12 (.int p)) (gb _) [.lst fs]);have lp:bo aa5 (aj (F (k+2)) (X_ (k+2))) (rW T true) (rH t i T [])=_:=lp;unfold aw;rw[lp];rfl
   |ok u=>
    obtain⟨us,l⟩:=u;rw[e2]at lp;dsimp only at lp |-;obtain⟨c1,Vs,c3,c4⟩:=mO t hz _ _ _ _ b2 e2
    have gp:ai (rvs (vs::us))=true:=cj R_ _ fun ys hy=>by
     rcases aek.mp hy with z|z
     .rw[z];exact b4
     .exact c4 ys z
    have lp:bo aa5 (aj (F (k+2)) (X_ (k+2))) (rW T true) (rH t i T [])=.nx (rW T ajt) (rH t l T (rvs (vs::us))):=lp;refine fG rfl ((sq mk).trans ((sq s5).trans ((sq lp).trans (rt l _)))) ?_;exact oM t l T (rvs (vs::us)) hT gp
 |false=>rw[ajB ⋯];rw[q]at s5;have r0:=rt i [];refine fG rfl ((sq mk).trans ((sq s5).trans ((sq (gQ rfl)).trans r0))) ?_;exact oM t i T [] hT rfl
theorem Fv(k:Nat)(i:Nat)(hi:i<=t.length)(T:Y3)(hT:V_ T):X_ (k+2) .j9 [.ref 0,bp [] true] (bO t (i:Nat)::T)=.ok (.bl (decide (i=t.length))) (bO t (i:Nat)::T):=by
 have st:=vw t ht hz k [] i hi T hT;have ia:Wb t [] i=ajt:=by unfold Wb;split<;>rfl
 rw[ia]at st;have f0:=yr t i T;have f1:=pR t i T;have d0:=sW t i T;have ob:=sV t i T;have z1:t.length<=16777216:=by lia
 have dp:=fun h=>ar h (iz [] true);have i0:∀h,j5 (bp [] true) (.int 0) h=.ok (.str []) h:=fun _=>rfl;have i1:∀h,j5 (bp [] true) (.int 1) h=.ok (.bl true) h:=fun _=>rfl
 have fin:∀b,qf (bO t (i:Nat)::T).length (.bl b) (bO t (i:Nat)::T)=.ok (.bl b) (bO t (i:Nat)::T):=fun b=>by have:=pN t i T hT (.bl b) rfl [];rw[aep]at this;exact this
 show gM (bA (F (k+1)) (X_ (k+1))) 2 2 [.ref 0,bp [] true] (bO t (i:Nat)::T)=_;have eq:=fun h=>db (i:Int) (t.length:Int) h;refine fG rfl ?_ (fin _);show bA (F (k+1)) (X_ (k+1)) [PV.ref 0,bp [] true] (bO t (i:Nat)::T)=_
 by_cases q:i=t.length
 .have d:decide ((i:Int)=(t.length:Int))=true:=ajw ⋯;rw[ajw q];simp only[d]at eq;simp[EV,bA,d0,f0,f1,z1,eq,dp,i1]
 .have d:decide ((i:Int)=(t.length:Int))=ajt:=ajv ⋯;rw[ajv q];simp only[d]at eq;simp[EV,bA,d0,f0,f1,z1,eq,dp,i0,ob,ajA,st]
end
noncomputable def YC(t:Y1)(j:Nat):Except Nat (Fl×Nat):=if t[j]? =some 34 then(match WK 2 t j with
  |some (v,e)=>.ok (.tup true [.sc v],e)
  |none=>.error j)
 else if j=t.length then .ok (.tup ajt [],j)else .error j
noncomputable def Yt(t:Y1):Except Nat (List Fl):=match Xh t (t.length+2) 0 with
 |.error p=>.error p
 |.ok (ws,j)=>match YC t j with
  |.error p=>.error p
  |.ok (f,e)=>if e<t.length then .error e else .ok [.lst (ws.map Fl.lst),f]
noncomputable def yN:List Nd:=[.place [100] [] 2]
def LL:O3 yN:=by unfold yN;rw[O3,O3,SQ];exact⟨by decide,trivial⟩
section
variable(t:Y1)(ht:sgn t)(hz:t.length<=16000000)
include ht hz
theorem LK(k:Nat):XN t (k+7) yN:=wT t ht hz k yN LL (by unfold yN;rw[uS,uS,uN];decide) fun q1 n q2 e=>by
 have hn:n∈yN:=by rw[e];simp
 unfold yN at hn;simp only[aek,aeO,ajP]at hn;refine⟨fun x a f ns b e=>?_,fun a f y m e=>?_⟩<;>subst hn<;>cases e
theorem MN(k:Nat):XN t (k+7) []:=wT t ht hz k [] (by rw[O3];trivial) (by rw[uS];decide) fun q1 n q2 e=>by simp at e
theorem Bp(k:Nat)(Y:XN t (k+2) yN)(N:XN t (k+2) [])(i:Nat)(hi:i<=t.length)(T:Y3)(hT:V_ T):X_ (k+3) .i_ [.ref 0,kf,Xj] (bO t (i:Nat)::T)=match YC t i with
  |.ok (f,e)=>.ok (K8 f) (bO t (e:Nat)::T)
  |.error p=>.exc (.N6 12 (.int p)) (bO t (p:Nat)::T):=by
 have ay:=Fw t ht hz k 34 i hi T hT;have an:=Fv t ht hz k i hi T hT;have sy:=Y i T hi hT;have sn:=N i T hi hT;have d0:=sW t i T;have ob:=sV t i T;have yp:kf.pure=true:=rfl;have np:Xj.pure=true:=rfl;have q1:∀h,aA h kf=kf:=fun h=>ar h yp;have q2:∀h,aA h Xj=Xj:=fun h=>ar h np;have iy0:∀h,j5 kf (.int 0) h=.ok (bp [34] ajt) h:=fun _=>rfl;have iy1:∀h,j5 kf (.int 1) h=.ok (.lst (bj yN)) h:=fun _=>rfl;have in0:∀h,j5 Xj (.int 0) h=.ok (bp [] true) h:=fun _=>rfl;have in1:∀h,j5 Xj (.int 1) h=.ok (.lst (bj [])) h:=fun _=>rfl;have dp:=fun c b h=>ar h (iz c b);have YG:∀l h,aA h (.lst (bj l))=.lst (bj l):=fun _ _=>rfl;show gM (aB (F (k+2)) (X_ (k+2)) (ajW 2 (dl (k+2)))) 3 3 [.ref 0,kf,Xj] (bO t (i:Nat)::T)=_;rw[bl2];unfold YC
 by_cases qy:t[i]? =some 34
 .rw[ajz qy];rw[ajw qy]at ay
  cases e:WK 2 t i with
  |some q=>
   obtain⟨v,j⟩:=q;have vp:=(kA e hi).2.2.1.pure
   have sy:X_ (k+2) .d8 [.ref 0,.lst (bj yN)] (bO t (i:Nat)::T)=.ok (.lst [v]) (bO t (j:Nat)::T):=by rw[sy];unfold yN;rw[bX,VH,e];dsimp only;rw[bX];rfl
   have tp:(PV.tup [.bl true,.lst [v]]).pure=true:=by simp[PV.pure,ai,vp]
   have b:aB (F (k+2)) (X_ (k+2)) true [PV.ref 0,kf,Xj] (bO t (i:Nat)::T)=.rt (.tup [.bl true,.lst [v]]) (bO t (j:Nat)::T):=by simp[EV,aB,d0,ob,q1,q2,iy0,iy1,dp,YG,ajA,ay,sy]
   refine fG rfl b ?_;have:=pN t j T hT (.tup [.bl true,.lst [v]]) tp [];rw[aep]at this;exact this
  |none=>
   have sy:X_ (k+2) .d8 [.ref 0,.lst (bj yN)] (bO t (i:Nat)::T)=.exc (.N6 12 (.int i)) (bO t (i:Nat)::T):=by rw[sy];unfold yN;rw[bX,VH,e];rfl
   have b:aB (F (k+2)) (X_ (k+2)) true [PV.ref 0,kf,Xj] (bO t (i:Nat)::T)=.exc (.N6 12 (.int i)) (bO t (i:Nat)::T):=by
    simp[EV,aB,d0,ob,q1,q2,iy0,iy1,dp,YG,ajA,ay,sy]
    try rfl
   refine fV rfl b ?_;have:=kl t i T hT (.N6 12 (.int i)) (gb _) [];rw[aep]at this;exact this
 .rw[ajB qy];rw[ajv qy]at ay
  by_cases qn:i=t.length
  .rw[ajz qn];rw[ajw qn]at an
   have sn:X_ (k+2) .d8 [.ref 0,.lst (bj [])] (bO t (i:Nat)::T)=.ok (.lst []) (bO t (i:Nat)::T):=by rw[sn,bX];rfl
   have b:aB (F (k+2)) (X_ (k+2)) true [PV.ref 0,kf,Xj] (bO t (i:Nat)::T)=.rt (.tup [.bl ajt,.lst []]) (bO t (i:Nat)::T):=by simp[EV,aB,d0,ob,q1,q2,iy0,iy1,in0,in1,dp,YG,ajA,ay,an,sn]
   refine fG rfl b ?_;have:=pN t i T hT (.tup [.bl ajt,.lst []]) rfl [];rw[aep]at this;exact this
  .rw[ajB qn];rw[ajv qn]at an;have rz:cQ true 12 acd [PV.ref 0,kf,Xj] (bO t (i:Nat)::T)=.exc (.N6 12 (.int i)) (bO t (i:Nat)::T):=rfl
   have b:aB (F (k+2)) (X_ (k+2)) true [PV.ref 0,kf,Xj] (bO t (i:Nat)::T)=.exc (.N6 12 (.int i)) (bO t (i:Nat)::T):=by simp[EV,aB,d0,ob,q1,q2,iy0,iy1,in0,in1,dp,YG,ajA,ay,an,rz]
   refine fV rfl b ?_;have:=kl t i T hT (.N6 12 (.int i)) (gb _) [];rw[aep]at this;exact this
end
def YH:PV:=.tup [.str tL,.str aM,.lst (bj R_),.str []]
def Za:PV:=.tup [.str tC,kf,Xj]
theorem JZ:XJ= [YH,Za]:=rfl
section
variable(t:Y1)(ht:sgn t)(hz:t.length<=16000000)
include ht hz
theorem CE(k:Nat):X_ (k+11) .d8 [.ref 0,.lst XJ] [bO t (0:Nat)]=match Xh t (t.length+2) 0 with
  |.error p=>.exc (.N6 12 (.int p)) [bO t p]
  |.ok (ws,j)=>match YC t j with
   |.error p=>.exc (.N6 12 (.int p)) [bO t p]
   |.ok (f,e)=>.ok (.lst [.lst (rvs ws),K8 f]) [bO t e]:=by
 have hT:V_ [.lst []]:=fun o ho=>by rw[aeo.mp ho];exact⟨[],rfl,rfl⟩
 have r1:=Bo t ht hz (k+7) (Mh t ht hz (k+2)) 0 (aeL _) [.lst []] hT;have r1:X_ (k+10) .h_ [.ref 0,.str aM,.lst (bj R_),.str []] (rH t (0:Nat) [] [])=_:=r1;have d0:=fun(i:Nat) xs=>pG t i [] xs;have d1:=fun(i:Nat) xs=>vJ t i [] xs;have li:=fun(i:Nat) xs=>BL t i [] xs;have ob:=fun(i:Nat) xs=>pF t i [] xs;have ap:=fun(i:Nat) xs x=>vK t i [] xs x;simp only[aeJ,ag4]at d1 li ap;have p1:YH.pure=true:=by unfold YH;simp[PV.pure,ai,dw]
 have p2:Za.pure=true:=rfl;have k1:∀h,j5 YH (.int 0) h=.ok (.str tL) h:=fun _=>rfl;have k2:∀h,j5 Za (.int 0) h=.ok (.str tC) h:=fun _=>rfl;have i11:∀h,j5 YH (.int 1) h=.ok (.str aM) h:=fun _=>rfl;have i12:∀h,j5 YH (.int 2) h=.ok (.lst (bj R_)) h:=fun _=>rfl;have i13:∀h,j5 YH (.int 3) h=.ok (.str []) h:=fun _=>rfl;have i21:∀h,j5 Za (.int 1) h=.ok kf h:=fun _=>rfl;have i22:∀h,j5 Za (.int 2) h=.ok Xj h:=fun _=>rfl;have dn1:=fun h=>ar h p1;have dn2:=fun h=>ar h p2;have dy:∀h,aA h kf=kf:=fun h=>ar h rfl;have dno:∀h,aA h Xj=Xj:=fun h=>ar h rfl;have YG:∀l h,aA h (.lst (bj l))=.lst (bj l):=fun _ _=>rfl;have mk:aG 2 aaW [PV.ref 0,PV.lst XJ,none,none] [bO t (0:Nat)]=.nx [PV.ref 0,PV.lst XJ,PV.ref 1,none] (rH t (0:Nat) [] []):=rfl
 have fr:∀r,bc (P0 3) (ak (F (k+10)) (X_ (k+10))) [YH,Za] [PV.ref 0,PV.lst XJ,PV.ref 1,none] (rH t (0:Nat) [] [])=r->ik acu (P0 3) (ak (F (k+10)) (X_ (k+10))) [PV.ref 0,PV.lst XJ,PV.ref 1,none] (rH t (0:Nat) [] [])=r:=fun r e=>by rw[<- e];rfl
 have hT0:V_ []:=fun o ho=>(nomatch ho)
 show gM (eF (F (k+10)) (X_ (k+10))) 2 4 [.ref 0,.lst XJ] [bO t (0:Nat)]=_
 cases e:Xh t (t.length+2) 0 with
 |error p=>
  rw[e]at r1;have r1:X_ (k+10) .h_ [.ref 0,.str aM,.lst (bj R_),.str []] (rH t (0:Nat) [] [])=.exc (.N6 12 (.int p)) (rH t p [] []):=r1
  have st:ak (F (k+10)) (X_ (k+10)) [PV.ref 0,PV.lst XJ,PV.ref 1,YH] (rH t (0:Nat) [] [])=.exc (.N6 12 (.int p)) (rH t p [] []):=by simp[EV,ak,dn1,k1,Vt,i11,i12,i13,d0,d1,li,ob,YG,ajA,r1];rfl
  refine fV rfl ((sq mk).trans ?_) (kl t p [] hT0 (.N6 12 (.int p)) (gb _) [.lst []]);have:=fr _ (qC rfl st);unfold aw;rw[this];rfl
 |ok q=>
  obtain⟨ws,j⟩:=q;obtain⟨b1,b2,b3,b4⟩:=mO t hz _ _ _ _ (aeL _) e;rw[e]at r1;have r1:X_ (k+10) .h_ [.ref 0,.str aM,.lst (bj R_),.str []] (rH t (0:Nat) [] [])=.ok (.lst (rvs ws)) (rH t j [] []):=r1;have wp:ai (rvs ws)=true:=cj R_ ws b4
  have st:ak (F (k+10)) (X_ (k+10)) [PV.ref 0,PV.lst XJ,PV.ref 1,YH] (rH t (0:Nat) [] [])=.nx [PV.ref 0,PV.lst XJ,PV.ref 1,YH] (rH t j [] [.lst (rvs ws)]):=by have a:=ap j [] (.lst (rvs ws)) ⋯;rw[aeN]at a;simp[EV,ak,dn1,k1,Vt,i11,i12,i13,d0,d1,li,ob,YG,ajA,r1,a]
  have hT2:V_ [.lst [.lst (rvs ws)]]:=fun o ho=>by rw[aeo.mp ho];exact⟨_,rfl,by simp[ai,PV.pure,wp]⟩
  have r2:=Bp t ht hz (k+7) (LK t ht hz (k+2)) (MN t ht hz (k+2)) j b2 _ hT2;have r2:X_ (k+10) .i_ [.ref 0,kf,Xj] (rH t j [] [.lst (rvs ws)])=_:=r2;dsimp only
  cases e4:YC t j with
  |error p=>
   rw[e4]at r2;have r2:X_ (k+10) .i_ [.ref 0,kf,Xj] (rH t j [] [.lst (rvs ws)])=.exc (.N6 12 (.int p)) (rH t p [] [.lst (rvs ws)]):=r2
   have s2:ak (F (k+10)) (X_ (k+10)) [PV.ref 0,PV.lst XJ,PV.ref 1,Za] (rH t j [] [.lst (rvs ws)])=.exc (.N6 12 (.int p)) (rH t p [] [.lst (rvs ws)]):=by simp[EV,ak,dn2,k2,Vt,i21,i22,dy,dno,d0,d1,li,ob,ajA,r2];rfl
   refine fV rfl ((sq mk).trans ?_) (kl t p [] hT0 (.N6 12 (.int p)) (gb _) [.lst [.lst (rvs ws)]]);have:=fr _ ((cC rfl st).trans (qC rfl s2));unfold aw;rw[this];rfl
  |ok q=>
   obtain⟨fv,l⟩:=q;rw[e4]at r2;have r2:X_ (k+10) .i_ [.ref 0,kf,Xj] (rH t j [] [.lst (rvs ws)])=.ok (K8 fv) (rH t l [] [.lst (rvs ws)]):=r2
   have fp:(K8 fv).pure=true:=by
    unfold YC at e4
    split at e4
    .split at e4
     .rename_i v e' q
      cases e4
      have vp:=(kA q b2).2.2.1.pure;rw[K8,aq,K8,aq];simp[PV.pure,ai,vp]
     .cases e4
    .split at e4
     .cases e4;rfl
     .cases e4
   have s2:ak (F (k+10)) (X_ (k+10)) [PV.ref 0,PV.lst XJ,PV.ref 1,Za] (rH t j [] [.lst (rvs ws)])=.nx [PV.ref 0,PV.lst XJ,PV.ref 1,Za] (rH t l [] [.lst (rvs ws),K8 fv]):=by have a:=ap l [.lst (rvs ws)] (K8 fv) (by simp);have a:aZ (.ref 1) [K8 fv] (rH t l [] [.lst (rvs ws)])=.ok .non (rH t l [] [.lst (rvs ws),K8 fv]):=a;simp[EV,ak,dn2,k2,Vt,i21,i22,dy,dno,d0,d1,li,ob,ajA,r2,ar _ fp,a]
   have:=fr _ ((cC rfl st).trans ((cC rfl s2).trans rfl));refine fG rfl ((sq mk).trans ((sq this).trans ?_)) (oM t l [] [.lst (rvs ws),K8 fv] hT0 (by simp[ai,PV.pure,wp,fp]));show aQ (ac 2) [PV.ref 0,PV.lst XJ,PV.ref 1,Za] (rH t l [] [.lst (rvs ws),K8 fv])=_;simp[EV,d1,aeJ,ag4]
end
def rm{j:Nat}(hj:j<=t.length){f:Fl}{e:Nat}(h:YC t j=.ok (f,e)):(K8 f).pure=true:=by
 unfold YC at h
 split at h
 .split at h
  .rename_i v e' q
   cases h
   have vp:=(kA q hj).2.2.1.pure;rw[K8,aq,K8,aq];simp[PV.pure,ai,vp]
  .cases h
 .split at h
  .cases h;rfl
  .cases h
section
variable(t:Y1)(ht:sgn t)(hz:t.length<=16000000)
include ht hz
theorem Df:(iM (Yt t)).pure=true:=by
 unfold Yt
 cases e:Xh t (t.length+2) 0 with
 |error p=>rfl
 |ok q=>
  obtain⟨ws,j⟩:=q;obtain⟨b1,b2,b3,b4⟩:=mO t hz _ _ _ _ (aeL _) e;dsimp only
  cases e4:YC t j with
  |error p=>rfl
  |ok q=>
   obtain⟨fv,l⟩:=q;have fp:=rm b2 e4;have wp:=cj R_ ws b4;dsimp only
   split
   .rfl
   .show(PV.tup [.lst (aq [.lst (ws.map Fl.lst),fv])]).pure=true;rw[aq,aq,aq,K8,gR];simp[PV.pure,ai,wp,fp]
theorem Bx:F 28 .Q8 [.tup (g8 cV),.str t]=.ok (iM (Yt t)):=by
 have np:(PV.tup (g8 cV)).pure=true:=by rw[PV.pure];exact bv cV
 have z1:t.length<=16777216:=by lia
 have tx:=xd 24 t ht hz;have pn:∀h,aR (F 26 .q_) [.tup (g8 cV),bp [] true] h=.ok (.lst XJ) h:=fun h=>aH h (by simp[ai,np,iz]) (Mj 6);have rn:=CE t ht hz 15;have rp:(PV.lst XJ).pure=true:=by rw[JZ];unfold YH;simp[PV.pure,ai,dw];rfl
 have d0:=fun i:Nat=>sW t i [];have ob:=fun i:Nat=>sV t i [];have f1:=fun i:Nat=>pR t i [];have dp:=fun h=>ar h (iz [] true)
 have s1:H6 (jY (eG (aU (cN aV (aa (ac 1) (aa (cK (.ty "str")) af))))) (eG (aU (aJ (F 26 .G5) ace)))) (cQ true 12 acP) bh [PV.tup (g8 cV),PV.str t,none,none] []=.nx [PV.tup (g8 cV),PV.str t,none,none] []:=by simp[EV,z1,tx]
 have mk:=uk 25 (some (.tup (g8 cV))) t
 have ux:∀v h1,bN (F 26) (X_ 26) true [PV.tup (g8 cV),PV.str t,none,none] []=.exc v h1->X_ 27 .J_ [.tup (g8 cV),.str t] []=Fe 0 v h1:=fun v h1 e=>by show lG (bN (F 26) (X_ 26) true) 2 4 [.tup (g8 cV),.str t] []=_;exact vF rfl e rfl
 have un:∀v h1,bN (F 26) (X_ 26) true [PV.tup (g8 cV),PV.str t,none,none] []=.rt v h1->X_ 27 .J_ [.tup (g8 cV),.str t] []=kJ 0 v h1:=fun v h1 e=>by show lG (bN (F 26) (X_ 26) true) 2 4 [.tup (g8 cV),.str t] []=_;exact Ao rfl e rfl
 have bad:∀p:Nat,X_ 26 .d8 [.ref 0,.lst XJ] [bO t (0:Nat)]=.exc (.N6 12 (.int p)) [bO t p]->F 28 .Q8 [.tup (g8 cV),.str t]=.ok (.lst [.int p]):=fun p rn=>by
  have s3:aG 3 (bJ 604 (X_ 26 .d8) (ac 2) (aa (aJ (F 26 .q_) (aa (ac 0) (aa (cK (.tup fN)) af))) af)) [PV.tup (g8 cV),PV.str t,PV.ref 0,none] [bO t (0:Nat)]=.exc (.N6 12 (.int p)) [bO t p]:=by
   rw[nz];simp[EV,d0,dp,pn,ob,ajA,rn]
   try rfl
  refine qo 27 _ _ _ np rfl rfl ?_;rw[ux (.N6 12 (.int p)) [bO t p] ((sq s1).trans ((sq mk).trans (by unfold aw;rw[s3])))];rfl
 unfold Yt
 cases e:Xh t (t.length+2) 0 with
 |error p=>rw[e]at rn;exact bad p rn
 |ok q=>
  obtain⟨ws,j⟩:=q;obtain⟨b1,b2,b3,b4⟩:=mO t hz _ _ _ _ (aeL _) e;rw[e]at rn;dsimp only at rn |-
  cases e4:YC t j with
  |error p=>rw[e4]at rn;exact bad p rn
  |ok q=>
   obtain⟨fv,l⟩:=q;have fp:=rm b2 e4;have wp:=cj R_ ws b4;rw[e4]at rn;dsimp only at rn |-;have vp:(PV.lst [.lst (rvs ws),K8 fv]).pure=true:=by simp[PV.pure,ai,wp,fp]
   have fe:aq [.lst (ws.map Fl.lst),fv]=[.lst (rvs ws),K8 fv]:=by rw[aq,aq,aq,K8,gR]
   have s3:aG 3 (bJ 604 (X_ 26 .d8) (ac 2) (aa (aJ (F 26 .q_) (aa (ac 0) (aa (cK (.tup fN)) af))) af)) [PV.tup (g8 cV),PV.str t,PV.ref 0,none] [bO t (0:Nat)]=.nx [PV.tup (g8 cV),PV.str t,PV.ref 0,PV.lst [.lst (rvs ws),K8 fv]] [bO t l]:=by rw[nz];simp[EV,d0,dp,pn,ob,ajA,rn]
   by_cases q:l<t.length
   .rw[ajz q];have dj:decide ((l:Int)<(t.length:Int))=true:=ajw ⋯;have rz:cQ true 12 acv [PV.tup (g8 cV),PV.str t,PV.ref 0,PV.lst [.lst (rvs ws),K8 fv]] [bO t l]=.exc (.N6 12 (.int l)) [bO t l]:=rfl
    have s4:H6 abZ (cQ true 12 acv) bh [PV.tup (g8 cV),PV.str t,PV.ref 0,PV.lst [.lst (rvs ws),K8 fv]] [bO t l]=.exc (.N6 12 (.int l)) [bO t l]:=by simp[EV,d0,f1,z1,dj,rz]
    refine qo 27 _ _ _ np rfl rfl ?_;rw[ux (.N6 12 (.int l)) [bO t l] ((sq s1).trans ((sq mk).trans ((sq s3).trans (by unfold aw;rw[s4]))))];rfl
   .rw[ajB q];have dj:decide ((l:Int)<(t.length:Int))=ajt:=ajv ⋯
    have s4:H6 abZ (cQ true 12 acv) bh [PV.tup (g8 cV),PV.str t,PV.ref 0,PV.lst [.lst (rvs ws),K8 fv]] [bO t l]=.nx [PV.tup (g8 cV),PV.str t,PV.ref 0,PV.lst [.lst (rvs ws),K8 fv]] [bO t l]:=by simp[EV,d0,f1,z1,dj]
    unfold iM;dsimp only;rw[fe];refine Aa 27 _ _ _ np rfl vp ?_;rw[un (.lst [.lst (rvs ws),K8 fv]) [bO t l] ((sq s1).trans ((sq mk).trans ((sq s3).trans ((sq s4).trans rfl))))];unfold kJ;rw[iL _ vp];rfl
omit ht hz
theorem Ka(j:Nat):bX t R_ j=match WK 0 t j with
  |none=>.error j
  |some (v,e)=>match Xi t [10] e with
   |.error p=>.error p
   |.ok l=>.ok ([.sc v],l):=by
 unfold R_;rw[bX,VH]
 cases WK 0 t j with
 |none=>rfl
 |some q=>
  obtain⟨v,e⟩:=q;dsimp only;rw[bX,VH]
  cases Xi t [10] e with
  |error p=>rfl
  |ok l=>dsimp only;rw[bX];rfl
abbrev dE:Ev:=[PV.str t,PV.ref 0,PV.ref 1,none]
noncomputable abbrev dT:Tx:=(cg aai (cg ac9 (aU (aJ (F 27 .Rz) adh))))
theorem IU(e:Int)(p:Nat)(fs:Y2):dT (dE t) (nH e (.int p) fs)=.ok ajt (nH e (.int p) fs):=by have d0:=tK;have n1:=Ec;simp[EV,dT,dE,d0,n1,tM,aeS,ajQ]
include ht hz
theorem Ld(j:Nat)(fs:Y2):dT (dE t) (nH j .non fs)=.ok (Wb t aM j) (nH j .non fs):=by
 have d0:=tK;have n0:=Ha;have ia:=nhA;have z1:t.length<=16777216:=by lia
 rcases aeR j t.length with q|q
 .have a:=eX q;have l:decide (j<t.length)=true:=ajw q;have g:∀h,aR (F 27 .Rz) [.str [119,111,114,100],.str [t[j]]] h=.ok (.bl (gO 0 t[j])) h:=fun h=>aH h rfl (AJ 26 0 (.inl rfl) _ (ht _ (afh q)));have e:Wb t aM j=gO 0 t[j]:=by unfold Wb;rw[aej q];rfl
  rw[e];simp[EV,dT,dE,d0,n0,qc,ajA,ia,z1,a,gX,l,g]
 .have l:decide (j<t.length)=ajt:=ajv ⋯;have e:Wb t aM j=ajt:=by unfold Wb;rw[aeE q]
  rw[e];simp[EV,dT,dE,d0,n0,qc,ajA,ia,z1,gX,l]
theorem mJ:∀(g:Nat)(ws:List (List Fl))(j:Nat),(∀ys∈ws,gS R_ ys)->ws.length<=j->j<=t.length->t.length<j+g->
  match Xh t g j with
  |.ok (vs,l)=>bo dT (cz (F 27) (L 27)) (dE t) (nH j .non (rvs ws))=.nx (dE t) (nH l .non (rvs (ws++vs)))
  |.error p=>∃e fs,ai fs=true/\bo dT (cz (F 27) (L 27)) (dE t) (nH j .non (rvs ws))=.nx (dE t) (nH e (.int p) fs)
 |0,ws,j,hg,wl,hj,hf=>by lia
 |g+1,ws,j,hg,wl,hj,hf=>by
  have ly:=Ld t ht hz j (rvs ws);rw[Xh]
  cases q:Wb t aM j with
  |false=>rw[q]at ly;rw[ajB ⋯];dsimp only;rw[aep];exact gQ ly
  |true=>
   rw[q]at ly;rw[ajz rfl];have wp:=cj R_ ws hg;have d0:=tK;have d1:=zg;have li:=nhI;have n0:=Ha;have n1:=Ec
   have ll:(rvs ws).length<16000000:=by
    unfold rvs;rw[aes]
    have:j<t.length:=by
     unfold Wb at q
     cases e:t[j]? with
     |none=>rw[e]at q;cases q
     |some c=>exact lP e
    lia
   obtain⟨x,o,xp,pr,pe⟩:=rL 25 0 ⋯ t ht hz j hj;have lp:(PV.lst [x]).pure=true:=by simp[PV.pure,ai,xp]
   rw[Ka];unfold PR at pr
   cases e:WK 0 t j with
   |none=>
    rw[e]at pr;obtain⟨e',rfl⟩:=pr;have c1:z_ (L 27 .s6) [.str [119,111,114,100],.str t,.ref 0] (nH j .non (rvs ws))=.ok x (nH e' (.int j) (rvs ws)):=gF [.str wW,.str t] rfl (hM _) (sN _ _) xp pe;have ap:=xS e' (.int j) (rvs ws) (.lst [x]) ll
    have bd:cz (F 27) (L 27) (dE t) (nH j .non (rvs ws))=.nx (dE t) (nH e' (.int j) (rvs ws++ [.lst [x]])):=by simp[EV,cz,dE,d0,d1,li,c1,ar _ xp,ap,n1,tM,aeS,ajQ]
    exact⟨e',_,cB lp _ wp,eI ly bd (gQ (IU t _ _ _)) nofun⟩
   |some v'=>
    obtain⟨v,e1⟩:=v';rw[e]at pr;obtain⟨rfl,rfl⟩:=pr;obtain⟨r1,r2,vv,sc⟩:=kA e hj;have c1:z_ (L 27 .s6) [.str [119,111,114,100],.str t,.ref 0] (nH j .non (rvs ws))=.ok x (nH e1 .non (rvs ws)):=gF [.str wW,.str t] rfl (hM _) (hM _) xp pe;have ap:=xS e1 .non (rvs ws) (.lst [x]) ll;have tr:=vr 26 t ht hz [10] (fun c hc=>by rw[aeo.mp hc];decide) e1 r2;dsimp only
    cases e2:Xi t [10] e1 with
    |error p=>
     rw[e2]at tr;have c2:z_ (L 27 .G9) [.str [10],.str t,.ref 0] (nH e1 .non (rvs ws++ [.lst [x]]))=.ok .non (nH p (.int p) (rvs ws++ [.lst [x]])):=gF [.str [10],.str t] rfl (hM _) (sN _ _) rfl tr
     have bd:cz (F 27) (L 27) (dE t) (nH j .non (rvs ws))=.nx (dE t) (nH p (.int p) (rvs ws++ [.lst [x]])):=by simp[EV,cz,dE,d0,d1,li,c1,c2,ar _ xp,ap,n0,qc,ajA]
     exact⟨(p:Nat),_,cB lp _ wp,eI ly bd (gQ (IU t _ _ _)) nofun⟩
    |ok l=>
     rw[e2]at tr;obtain⟨l1,l2⟩:=mQ e2 r2;simp only[aeh,aeJ]at l1;have c2:z_ (L 27 .G9) [.str [10],.str t,.ref 0] (nH e1 .non (rvs ws++ [.lst [x]]))=.ok .non (nH l .non (rvs ws++ [.lst [x]])):=gF [.str [10],.str t] rfl (hM _) (hM _) rfl tr
     have bd:cz (F 27) (L 27) (dE t) (nH j .non (rvs ws))=.nx (dE t) (nH l .non (rvs (ws++ [[.sc x]]))):=by
      have eq:rvs (ws++ [[.sc x]])=rvs ws++ [.lst [x]]:=by rw[nK,aq,aq,K8]
      rw[eq];simp[EV,cz,dE,d0,d1,li,c1,c2,ar _ xp,ap,n0,qc,ajA]
     have ih:=mJ g (ws++ [[.sc x]]) l (fun ys hy=>by
      rcases aeF.mp hy with z|z
      .exact hg ys z
      .rw[aeo.mp z];unfold R_;rw[gS];refine .inr ⟨.sc x,[],rfl,by rw[gN];exact⟨x,rfl,vv,sc⟩,?_⟩;rw[gS];exact .inl ⟨rfl,by rw[gS]⟩) (by rw[aei,aev];lia) l2 ⋯
     dsimp only
     cases e6:Xh t g l with
     |error p=>rw[e6]at ih;obtain⟨e',fs,fp,ih⟩:=ih;exact⟨e',fs,fp,eI ly bd ih nofun⟩
     |ok u=>obtain⟨us,l'⟩:=u;rw[e6]at ih;dsimp only at ih |-;rw[aeK]at ih;exact eI ly bd ih nofun
end
def h3(a:Int)(n:PV)(w z:PV):Y3:=dS a n:: [.Q5 w,.lst [w,z]]
section
variable(a b p:Int)(n w z:PV)(ρ:Ev)
theorem h3A:j5 (.ref 0) (.str [97,116]) (h3 a n w z)=.ok (.int a) (h3 a n w z):=rfl
theorem Qf:j5 (.ref 0) (.str [110,111]) (h3 a .non w z)=.ok .non (h3 a .non w z):=rfl
theorem Qe:j5 (.ref 0) (.str [110,111]) (h3 a (.int p) w z)=.ok (.int p) (h3 a (.int p) w z):=rfl
theorem Qd:rj (.int p) (.ref 0) (.str [110,111]) ρ (h3 a .non w z)=.nx ρ (h3 a (.int p) w z):=rfl
theorem Qh:aA (h3 a n w z) (.ref 0)=.ref 0:=rfl
theorem Qg:aA (h3 a n w z) (.ref 2)=.ref 2:=rfl
theorem h3S(v:PV):lF v (.ref 2) (.int 1) ρ (h3 a n w z)=.nx ρ (h3 a n w v):=rfl
theorem h3F(hw:w.pure=true)(hz:z.pure=true):Zt (.ref 2) (h3 a n w z)=.ok (.lst [w,z]) [dS a n,.Q5 w,.Q5 (.lst [w,z])]:=by
 have p:ai [w,z]=true:=by simp[ai,hw,hz]
 have:dK (h3 a n w z) (.ref 2)=some (.lst [w,z],[dS a n,.Q5 w,.Q5 (.lst [w,z])]):=by unfold dK h3;simp only[af5,afv,p,ajA];rfl
 show(match dK (h3 a n w z) (.ref 2)with|some (q,h2)=>Res.ok q h2|none=>.bad)=_;rw[this]
end
section
variable(t:Y1)(ht:sgn t)(hz:t.length<=16000000)
include ht hz
theorem EW:F 28 .R6 [.str t]=.ok (iM (Yt t)):=by
 have z1:t.length<=16777216:=by lia
 have lp:=mJ t ht hz (t.length+2) [] 0 (fun ys h=>(nomatch h)) (by simp) (aeL _) ⋯;have mk:aG 1 abX [PV.str t,none,none,none] []=.nx [PV.str t,PV.ref 0,none,none] [dS (0:Nat) .non]:=rfl;have m2:aG 2 aaW [PV.str t,PV.ref 0,none,none] [dS (0:Nat) .non]=.nx (dE t) (nH (0:Nat) .non (rvs [])):=rfl
 have m3:∀(a:Int)(n:PV)(fs:Y2),ai fs=true->aG 3 adF (dE t) (nH a n fs)=.nx [PV.str t,PV.ref 0,PV.ref 1,PV.ref 2] (h3 a n (.lst fs) (.tup [.bl ajt,.lst []])):=fun a n fs fp=>by
  have f:Zt (.ref 1) (nH a n fs)=.ok (.lst fs) [dS a n,.Q5 (.lst fs)]:=by
   unfold Zt fzP;show(match dK (nH a n fs) (.ref 1)with|some (q,h2)=>Res.ok q h2|none=>.bad)=_
   have:dK (nH a n fs) (.ref 1)=some (.lst fs,[dS a n,.Q5 (.lst fs)]):=by unfold dK nH;simp only[af5,afv,fp,ajA];rfl
   rw[this]
  have c:Yz (ac 2) (dE t) (nH a n fs)=.ok (.lst fs) [dS a n,.Q5 (.lst fs)]:=by show(ac 2 (dE t) (nH a n fs)).bind Zt=_;rw[show ac 2 (dE t) (nH a n fs)=.ok (.ref 1) (nH a n fs)from rfl];exact f
  have ax:aa (Yz (ac 2)) aa2 (dE t) (nH a n fs)=.ok [.lst fs,.tup [.bl ajt,.lst []]] [dS a n,.Q5 (.lst fs)]:=by show((Yz (ac 2) (dE t) (nH a n fs)).bind fun v h1=>_)=_;rw[c];rfl
  show ey ((aa (Yz (ac 2)) aa2 (dE t) (nH a n fs)).bind dD) _=_;rw[ax];rfl
 have e4:Ev:=[PV.str t,PV.ref 0,PV.ref 1,PV.ref 2]
 have ru:∀v h1,gf (F 27) (L 27) [PV.str t,none,none,none] []=.rt v h1->v.pure=true->F 28 .R6 [.str t]=.ok v:=fun v h1 e vp=>by show ag (gf (F 27) (L 27)) 1 4 [.str t]=_;exact jB rfl e (eK _ vp)
 have d0:=Qh;have d2:=Qg;have n0:=Qf;have n1:=Qe;have ia:=h3A;have sn:=Qd
 have Zk:∀(e:Int)(p:Nat)(w z:PV),(aw (H6 aan (jd (ac 3) aad (cN aW (aa aa_ (aa (cN bY (aa (bn (L 27 .s6) ac1) af)) af)))) bh)
  (aw abv
  aa8)) [PV.str t,PV.ref 0,PV.ref 1,PV.ref 2] (h3 e (.int p) w z)=.rt (.lst [.int p]) (h3 e (.int p) w z):=fun e p w z=>by
  simp[EV,d0,n1,tM,aeS,ajQ]
 unfold Yt
 cases e:Xh t (t.length+2) 0 with
 |error p=>rw[e]at lp;obtain⟨e',fs,fp,lp⟩:=lp;refine ru _ (h3 e' (.int p) (.lst fs) (.tup [.bl ajt,.lst []])) ?_ rfl;unfold gf;exact(sq mk).trans ((sq m2).trans ((sq lp).trans ((sq (m3 _ _ _ fp)).trans (Zk _ _ _ _))))
 |ok q=>
  obtain⟨ws,j⟩:=q;rw[e]at lp;dsimp only at lp |-;rw[aeN]at lp;obtain⟨b1,b2,b3,b4⟩:=mO t hz _ _ _ _ (aeL _) e;have wp:=cj R_ ws b4;have wl:(PV.lst (rvs ws)).pure=true:=by rw[PV.pure];exact wp
  have hB:∀(i:Nat)(z:PV),z.pure=true->∃h1,(aw abv
  aa8) [PV.str t,PV.ref 0,PV.ref 1,PV.ref 2] (h3 i .non (.lst (rvs ws)) z)=.rt (if i<t.length then .lst [.int i]else .tup [.lst [.lst (rvs ws),z]]) h1:=fun i z zp=>by
   by_cases q:i<t.length
   .rw[ajz q];have dj:decide ((i:Int)<(t.length:Int))=true:=ajw ⋯;refine⟨h3 i (.int i) (.lst (rvs ws)) z,?_⟩;simp[EV,d0,n0,n1,ia,sn,qc,tM,z1,dj,ajA,aeS,ajQ]
   .rw[ajB q];have dj:decide ((i:Int)<(t.length:Int))=ajt:=ajv ⋯;have fz:=h3F i .non (.lst (rvs ws)) z wl zp;refine⟨[dS i .non,.Q5 (.lst (rvs ws)),.Q5 (.lst [.lst (rvs ws),z])],?_⟩;simp[EV,d0,d2,n0,n1,ia,sn,qc,tM,z1,dj,ajA,aeS,ajQ,Yz,fz]
  have main:∀(i:Nat)(z:PV),z.pure=true->H6 aan (jd (ac 3) aad (cN aW (aa aa_ (aa (cN bY (aa (bn (L 27 .s6) ac1) af)) af)))) bh [PV.str t,PV.ref 0,PV.ref 1,PV.ref 2] (h3 j .non (.lst (rvs ws)) (.tup [.bl ajt,.lst []]))=.nx [PV.str t,PV.ref 0,PV.ref 1,PV.ref 2] (h3 i .non (.lst (rvs ws)) z)->F 28 .R6 [.str t]=.ok (if i<t.length then .lst [.int i]else .tup [.lst [.lst (rvs ws),z]]):=fun i z zp ea=>by obtain⟨h1,hb⟩:=hB i z zp;refine ru _ h1 ?_ (by split;rfl;simp[PV.pure,ai,wp,zp]);unfold gf;exact(sq mk).trans ((sq m2).trans ((sq lp).trans ((sq (m3 _ _ _ wp)).trans ((sq ea).trans hb))))
  have cu:=yk t j;have Y4:=fun h=>AN ht j 34 ⋯ h;unfold YC
  by_cases qy:t[j]? =some 34
  .rw[ajz qy];rw[ajw qy]at Y4;obtain⟨x,o,xp,pr,pe⟩:=rL 25 2 ⋯ t ht hz j b2;have lx:(PV.lst [x]).pure=true:=by simp[PV.pure,ai,xp]
   have tx:(PV.tup [.bl true,.lst [x]]).pure=true:=by simp[PV.pure,ai,xp]
   have dt:∀h,aA h (.tup [.bl true,.lst [x]])=.tup [.bl true,.lst [x]]:=fun h=>ar h tx;have st:=h3S
   have ea:∀(a:Int)(n:PV),o=dS a n->(dS a n).pure=true->H6 aan (jd (ac 3) aad (cN aW (aa aa_ (aa (cN bY (aa (bn (L 27 .s6) ac1) af)) af)))) bh [PV.str t,PV.ref 0,PV.ref 1,PV.ref 2] (h3 j .non (.lst (rvs ws)) (.tup [.bl ajt,.lst []]))=.nx [PV.str t,PV.ref 0,PV.ref 1,PV.ref 2] (h3 a n (.lst (rvs ws)) (.tup [.bl true,.lst [x]])):=fun a n oe op=>by rw[oe]at pe;have cl:z_ (L 27 .s6) [.str [113,117,111,116,101,100],.str t,.ref 0] (h3 j .non (.lst (rvs ws)) (.tup [.bl ajt,.lst []]))=.ok x (h3 a n (.lst (rvs ws)) (.tup [.bl ajt,.lst []])):=dB (fn:=L 27 .s6) [.str wQ,.str t] [] rfl rfl (h:=h3 j .non (.lst (rvs ws)) (.tup [.bl ajt,.lst []])) (i:=0) rfl rfl pe xp op;simp[EV,bC,d0,d2,n0,ia,qc,z1,cu,Y4,cl,ar _ xp,dt,st,ajA]
   unfold PR at pr
   cases e5:WK 2 t j with
   |none=>
    rw[e5]at pr;obtain⟨e',po⟩:=pr;have g:=ea _ _ po rfl;refine ru _ (h3 e' (.int j) (.lst (rvs ws)) (.tup [.bl true,.lst [x]])) ?_ rfl;unfold gf;refine(sq mk).trans ((sq m2).trans ((sq lp).trans ((sq (m3 _ _ _ wp)).trans ((sq g).trans ?_))));simp[EV,d0,n1,tM,aeS,ajQ]
    try rfl
   |some q=>
    obtain⟨v,e1⟩:=q;rw[e5]at pr;obtain⟨xv,po⟩:=pr;have g:=ea _ _ po rfl;rw[main e1 _ tx g];dsimp only
    by_cases q:e1<t.length
    .rw[ajz q,ajz q];rfl
    .rw[ajB q,ajB q];unfold iM;dsimp only;rw[aq,aq,aq,K8,gR,K8,aq,aq,K8,xv]
  .rw[ajB qy];rw[ajv qy]at Y4
   have ea:H6 aan (jd (ac 3) aad (cN aW (aa aa_ (aa (cN bY (aa (bn (L 27 .s6) ac1) af)) af)))) bh [PV.str t,PV.ref 0,PV.ref 1,PV.ref 2] (h3 j .non (.lst (rvs ws)) (.tup [.bl ajt,.lst []]))=.nx [PV.str t,PV.ref 0,PV.ref 1,PV.ref 2] (h3 j .non (.lst (rvs ws)) (.tup [.bl ajt,.lst []])):=by simp[EV,bC,d0,n0,ia,qc,z1,cu,Y4,ajA]
   rw[main j _ rfl ea]
   by_cases q:j=t.length
   .rw[ajz q,ajB ⋯];dsimp only;rw[ajB ⋯];unfold iM;dsimp only;rw[aq,aq,aq,K8,gR,K8,aq]
   .rw[ajB q,ajz ⋯];rfl
theorem BE:F 28 .G8 [iM (Yt t),iM (Yt t)]=.ok (.bl true):=by
 have er:∀p:Nat,F 28 .G8 [.lst [.int p],.lst [.int p]]=.ok (.bl true):=fun p=>gz 27 [.int (p:Nat)] rfl (by simp) fun x hx=>by rw[aeo.mp hx];exact nJ _ _
 unfold Yt
 cases e:Xh t (t.length+2) 0 with
 |error p=>exact er p
 |ok q=>
  obtain⟨ws,j⟩:=q;obtain⟨b1,b2,b3,b4⟩:=mO t hz _ _ _ _ (aeL _) e;have wp:=cj R_ ws b4;dsimp only
  cases e4:YC t j with
  |error p=>exact er p
  |ok q=>
   obtain⟨fv,l⟩:=q;have fp:=rm b2 e4;dsimp only
   by_cases q:l<t.length
   .rw[ajz q];exact er l
   .rw[ajB q];show F 28 .G8 [.tup [.lst (aq [.lst (ws.map Fl.lst),fv])],.tup [.lst (aq [.lst (ws.map Fl.lst),fv])]]=_;have fe:aq [.lst (ws.map Fl.lst),fv]=[.lst (rvs ws),K8 fv]:=by rw[aq,aq,aq,K8,gR]
    rw[fe]
    have a1:F 26 .G8 [.lst (rvs ws),.lst (rvs ws)]=.ok (.bl true):=gz 25 _ wp (by unfold rvs;rw[aes];lia) fun x hx=>by
     unfold rvs at hx;obtain⟨ys,hy,rfl⟩:=aeX.mp hx;have g:=b4 ys hy;refine gz 24 _ (eT R_ ys g) (by rw[eY];have:=sG R_ ys g;have:R_.length=2:=rfl;lia) fun x hx=>?_;have d0:M6 R_=0:=by unfold R_;rw[M6,M6,M6,dN,dN];rfl
     have:=kH R_ ys DF (by unfold R_;rw[uS,uS,uS,uN,uN];decide) g 23 x hx;rw[d0]at this;exact this
    have a2:F 26 .G8 [K8 fv,K8 fv]=.ok (.bl true):=by
     have tu:∀(b:Bool)(vs:Y2),ai vs=true->vs.length<=5->(∀x∈vs,F 24 .G8 [x,x]=.ok (.bl true))->F 26 .G8 [.tup [.bl b,.lst vs],.tup [.bl b,.lst vs]]=.ok (.bl true):=fun b vs vp vl H=>nF 25 [.bl b,.lst vs] (by simp[ai,PV.pure,vp]) (by simp) fun x hx=>by
      simp only[aek,aeO,ajP]at hx;rcases hx with rfl|rfl
      .exact Ak _ b
      .exact gz 24 vs vp ⋯ H
     unfold YC at e4
     split at e4
     .split at e4
      .rename_i v e' q
       cases e4
       obtain⟨_,_,vv,sc⟩:=kA q b2;rw[K8,aq,K8,aq];refine tu true [v] (by simp[ai,vv.pure]) (by simp) fun x hx=>?_;rw[aeo.mp hx];rcases sc with⟨s,rfl⟩|⟨i,rfl⟩
       .cases vv with
        |str _ _ _ hc=>exact xx _ s fun c h=>dI c (hc c h)
       .exact nJ _ i
      .cases e4
     .split at e4
      .cases e4
       rw[K8,aq];exact tu ajt [] rfl (by simp) fun x hx=>(nomatch hx)
      .cases e4
    refine nF 27 [.lst [.lst (rvs ws),K8 fv]] (by simp[ai,PV.pure,wp,fp]) (by simp) fun x hx=>?_;rw[aeo.mp hx];refine gz 26 [.lst (rvs ws),K8 fv] (by simp[ai,PV.pure,wp,fp]) (by simp) fun x hx=>?_;simp only[aek,aeO,ajP]at hx;rcases hx with rfl|rfl
    .exact a1
    .exact a2
end
def yL(t:Y1)(ht:sgn t)(hz:t.length<=16000000):(∀h,aR (F 28 .Q8) [.tup (g8 cV),.str t] h=.ok (iM (Yt t)) h)/\(∀h,aR (F 28 .R6) [.str t] h=.ok (iM (Yt t)) h)/\(∀h,aR (F 28 .G8) [iM (Yt t),iM (Yt t)] h=.ok (.bl true) h)/\(iM (Yt t)).pure=true:=by
 have np:(PV.tup (g8 cV)).pure=true:=by rw[PV.pure];exact bv cV
 have dp:=Df t ht hz;exact⟨fun h=>aH h (by rw[ai,np];rfl) (Bx t ht hz),fun h=>aH h rfl (EW t ht hz),fun h=>aH h (by simp[ai,dp]) (BE t ht hz),dp⟩
def Bs(k:Nat)(v:Int)(h0:0<=v)(h1:v<400000000):∃s,sgn s/\s.length<=400/\∀h,aR (F (k+2) .TX) [.str [119],.int v] h=.ok (.str s) h:=by
 obtain⟨x,xv,xs,⟨s,xc⟩,ve⟩:=wX k 0 ⋯ v h0 h1;rcases jo ⋯ ⟨xv,xc⟩with⟨_,e⟩|⟨z,_⟩|⟨z,_⟩
 .subst e
  cases xv with
  |str _ _ hl hc=>exact⟨s,hc,hl,fun h=>aH h rfl ve⟩
 .cases z
 .lia
section
variable(cs:List Int)(hc:cs.length<=63)(m:Int)(x2 x3 x4:Option PV)
abbrev vE(u:Y1)(x6:Option PV):Ev:=[cv cs,PV.ref 0,x2,x3,x4,PV.str u,x6]
include hc
theorem rF:∀(xs:Y2)(u:Y1)(n:Int)(x6:Option PV),sgn u->u.length+xs.length<=15000000->0<=n->n+(xs.length:Int)<=1000000000->∃u' y6,sgn u'/\u'.length<=u.length+xs.length/\bc (P0 6) (fU (F 28) (L 28)) xs (vE cs x2 x3 x4 u x6) [u_ n m]=.nx (vE cs x2 x3 x4 u' y6) [u_ (n+(xs.length:Int)) m]
 |[],u,n,x6,hu,hl,h0,h1=>⟨u,x6,hu,aeB _,by rw[aeJ,ai1,Int.add_zero];rfl⟩
 |p::xs,u,n,x6,hu,hl,h0,h1=>by
  rw[aeh]at hl h1;obtain⟨v,v0,v1,ce⟩:=dA 27 cs hc n m h0 ⋯ [];obtain⟨u1,s1,l1,be⟩:=Bc 26 u hu ⋯ v;have be:∀h,aR (F 28 .Q7) [.str u,.int v] h=.ok (.str u1) h:=fun h=>aH h rfl be;obtain⟨u2,y6,s2,l2,e⟩:=rF xs u1 (n+1) (some p) s1 ⋯ ⋯ ⋯;refine⟨u2,y6,s2,by rw[aeh];lia,?_⟩;have d0:∀n:Int,aA [u_ n m] (.ref 0)=.ref 0:=fun _=>rfl
  have st:fU (F 28) (L 28) (vE cs x2 x3 x4 u (some p)) [u_ n m]=.nx (vE cs x2 x3 x4 u1 (some p)) [u_ (n+1) m]:=by simp[EV,fU,vE,fy,d0,ce,be]
  have en:n+1+(xs.length:Int)=n+((p::xs).length:Int):=by rw[aeh];lia
  rw[en]at e;exact(cC rfl st).trans e
end
theorem Gd{b:Nat}(h:∀s∈ss,sgn s/\s.length<=b):sgn ss.flatten/\ss.flatten.length<=b * ss.length:=by
 induction ss with
 |nil=>exact⟨fun c hc=>(by cases hc),aeL _⟩
 |cons a r ih=>obtain⟨i1,i2⟩:=ih fun s hs=>h s (by simp[hs]);obtain⟨a1,a2⟩:=h a (by simp);rw[ae4];exact⟨fF a1 i1,by rw[aei,aeh,Nat.mul_succ];lia⟩
section
variable(cs:List Int)(hc:cs.length<=63)(m:Int)
include hc
theorem yK(n:Int)(h0:0<=n)(h1:n<=900000000):∃n',z_ (L 29 .Ry) [cv cs,.ref 0] [u_ n m]=.ok (.bl true) [u_ n' m]:=by
 have d0:∀n:Int,aA [u_ n m] (.ref 0)=.ref 0:=fun _=>rfl;obtain⟨v,v0,v1,ce⟩:=dA 27 cs hc n m h0 ⋯ [];have q4:=bD v (m:=4) ⋯;have q2:=bD (v / 4) (m:=2) ⋯;have q3:=bD (v / 8) (m:=3) ⋯;have np:(PV.tup (g8 cV)).pure=true:=by rw[PV.pure];exact bv cV
 obtain⟨ws,n1,w1,w2,w3,w4,wm⟩:=qI (te:=iu (F 28) (L 28)) (cp:=[cv cs,PV.ref 0]) (m:=m) (T:=[]) (fun i:Nat=>PV.int (0+i)) PV.str (fun s=>sgn s/\s.length<=400) 1 ⋯ 950000000 (ajy (v % 4).toNat) (n+1) ⋯ (by rw[aeH];lia) fun i hi n h0 h1=>by obtain⟨v,v0,v1,ce⟩:=dA 27 cs hc n m h0 ⋯ [];obtain⟨s,s1,s2,ve⟩:=Bs 26 v v0 v1;refine⟨s,n+1,⟨s1,s2⟩,by lia,by lia,?_⟩;simp[EV,iu,fy,d0,ce,ve]
 rw[aeH]at w1 w4
 have wm2:∀h,cJ bQ (ir (F 28)) [] (ws.map PV.str) h=.ok ((ws.map (· ++[10])).map PV.str) h:=fun h=>by
  rw[afe];refine Ks PV.str _ ws fun s hs=>?_;have z:s.length+1<=16777216:=by have:=(w2 s hs).2;lia
  simp[EV,ir,z];rfl
 obtain⟨f1,f2⟩:=Gd (ss:=ws.map (· ++[10])) (b:=401) fun s hs=>by obtain⟨x,hx,rfl⟩:=aeX.mp hs;exact⟨fF (w2 x hx).1 (fun c hc=>by rw[aeo.mp hc];decide),by have:=(w2 x hx).2;rw[aei];simp;lia⟩
 rw[aes]at f2;have jn:=ya (ss:=ws.map (· ++[10])) ⋯
 obtain⟨tl,t1,t2,tx⟩:∃tl,sgn tl/\tl.length<=5/\∀h,j5 (.lst [.str [],.str [34,97,94,113,34]]) (.int (v / 4 % 2)) h=.ok (.str tl) h:=by
  rcases(show v / 4 % 2=0\/v / 4 % 2=1 by lia)with q|q<;>rw[q]
  .exact⟨[],fun c hc=>(by cases hc),aeL _,fun h=>rfl⟩
  .exact⟨[34,97,94,113,34],by unfold sgn;decide,aeB _,fun h=>rfl⟩
 have al:((ws.map (· ++[10])).flatten++tl).length<=2000:=by rw[aei];lia
 have as:=fF f1 t1;have sl:(ws.map (· ++[10])).flatten.length+tl.length<=16777216:=by lia
 have bl4:VJ 4611686018427387904 (v % 4)=true:=bW.mpr ⟨by lia,by lia⟩;have bl3:VJ 4611686018427387904 (v / 8 % 3)=true:=bW.mpr ⟨by lia,by lia⟩;have cln:((ajy (v % 4).toNat).map fun i:Nat=>PV.int (0+i)).length<16777216:=by rw[aes,aeH];lia
 have wln:(ws.map PV.str).length<16777216:=by rw[aes];lia
 obtain⟨u,y6,s1,l1,be⟩:=rF cs hc m (some (.int v)) (some (.tup (g8 cV))) (some (.lst (ws.map PV.str))) ((ajy (v / 8 % 3).toNat).map fun i:Nat=>PV.int (0+i)) ((ws.map (· ++[10])).flatten++tl) n1 none as (by rw[aes,aeH];lia) ⋯ (by rw[aes,aeH];lia);rw[aes,aeH]at l1;obtain⟨g1,g2,g3,dp⟩:=yL u s1 ⋯;generalize((((ajy (v / 8 % 3).toNat).map fun i:Nat=>PV.int (0+i)).length:Nat):Int)=rn at be;refine⟨n1+rn,?_⟩;refine dB (fn:=L 29 .Ry) [cv cs] [] (by rw[ai,iF];rfl) rfl (h:=[u_ n m]) rfl (ci _ _) ?_ rfl (ci _ _);show fO (hV (F 28) (L 28)) 2 7 [cv cs,.ref 0] [u_ n m]=_;refine gB (h1:=[u_ (n1+rn) m]) (v:=.bl true) rfl ?_ (HP _ _ rfl []);show hV (F 28) (L 28) [cv cs,PV.ref 0,none,none,none,none,none] [u_ n m]=_;unfold hV;refine(sq (fC (v:=.int v) (h1:=[u_ (n+1) m]) (by simp[EV,fy,d0,ce]))).trans ?_;refine(sq (fC rfl)).trans ((sq (fC (v:=.tup (g8 cV)) (h1:=[u_ (n+1) m]) (by rw[Gy];rfl))).trans ?_);have cp:cU [0,1] [some (cv cs),some (.ref 0),some (.int v),some (.tup (g8 cV)),none,none,none]=[some (cv cs),some (.ref 0)]:=rfl;refine(sq (fC (v:=.lst (ws.map PV.str)) (h1:=[u_ n1 m]) (by simp[EV,bl4,cp,cln,wm]))).trans ?_;have cp2:cU [] [some (cv cs),some (.ref 0),some (.int v),some (.tup (g8 cV)),some (.lst (ws.map PV.str)),none,none]=[]:=rfl;refine(sq (fC (v:=.str ((ws.map (· ++[10])).flatten++tl)) (h1:=[u_ n1 m]) (by simp[EV,cp2,wln,wm2,jn,tx,sl]))).trans ?_
 refine(sq (ρ1:=vE cs (some (.int v)) (some (.tup (g8 cV))) (some (.lst (ws.map PV.str))) u y6) (h1:=[u_ (n1+rn) m]) (by rw[<- be];simp[EV,vE,bl3])).trans ?_;have dd:=fun h=>ar h dp;simp[EV,vE,g1,g2,dd,g3]
end
noncomputable def gv(ns:List Int):PV:=.X5 (ns.map PV.int)
theorem Hy(cs:List Int):(gv cs).pure=true:=by
 unfold gv;rw[PV.pure]
 induction cs with
 |nil=>rfl
 |cons a r ih=>rw[aeA,ai,ih];rfl
theorem yc(cs:List Int)(h:Y3):aA h (gv cs)=gv cs:=rfl
def Cz(k:Nat)(ns:List Int)(j:Nat):F (k+1) .S7 [gv ns,.int (j:Int)]=.ok (.int (ns.getD j 0)):=by
 have r2:F (k+1) .S7 [gv ns,.int (j:Int)]=match jL (F k) [gv ns,PV.int (j:Int)] []with
   |.nx _ _=>.ok .non
   |.rt v h=>aP v h
   |_=>.bad:=rfl
 have ln:∀h,bS [gv ns] h=.ok (.int ns.length) h:=fun h=>by unfold gv;rw[MU,aes]
 rw[r2]
 by_cases c:j<ns.length
 .have d1:decide ((j:Int)<(ns.length:Int))=true:=ajw ⋯
  have ix:∀h,j5 (gv ns) (.int (j:Int)) h=.ok (.int (ns.getD j 0)) h:=fun h=>by unfold gv;show(match Sy (ns.map PV.int) (j:Int)with|some v=>Res.ok (aA h v) h|none=>Res.bad)=_;rw[eQ (v:=PV.int (ns.getD j 0)) ⋯ (by rw[ae7,aeY,aeG,aej c];rfl)];rfl
  simp[EV,jL,yc,ln,d1,ix];rfl
 .have d1:decide ((j:Int)<(ns.length:Int))=ajt:=ajv ⋯;have e:ns.getD j 0=0:=by rw[aeG,aeE ⋯];rfl
  simp[EV,jL,yc,ln,d1,e];rfl
def pP(k:Nat)(ns:List Int)(i:Int)(hi:0<=i):∃v:Int,∀h,aR (F (k+1) .S7) [gv ns,.int i] h=.ok (.int v) h:=by have e:=Cz k ns i.toNat;rw[ail hi]at e;exact⟨_,fun h=>aH h (by rw[ai,Hy];rfl) e⟩
def KQ(ns:List Int)(h:Y3):rN (gv ns) (some 2) (some 34) h=.ok (cv (cut ns (some 2) (some 34))) h:=by
 have e:cut (ns.map PV.int) (some 2) (some 34)=(cut ns (some 2) (some 34)).map PV.int:=by unfold cut;rw[aes,List.map_take,ajl]
 show Res.ok (PV.lst (cut (ns.map PV.int) (some 2) (some 34))) h=_;rw[e];rfl
section
variable(cs:List Int)(hc:cs.length<=63)(m:Int)
include hc
theorem LZ(l:List Nd)(f:Fm l)(x0 x5 T3 Uk:Option PV)(w3:Int):∀(k i:Nat),i+k<=6->∀(n:Int)(u:Y1)(x6 x8 x9:Option PV),sgn u->u.length<=14000003->0<=n->n<=5000+(i:Int) * 14000009->∃u' y6 y8 y9 n',sgn u'/\u'.length<=14000003/\0<=n'/\n'<=5000+6 * 14000009/\bc (P0 6) (qk (F 29) (L 29)) (Zz i k) [x0,cv cs,PV.ref 0,PV.int w3,PV.tup (g8 l),x5,x6,PV.str u,x8,x9,T3,Uk] [u_ n m]=.nx [x0,cv cs,PV.ref 0,PV.int w3,PV.tup (g8 l),x5,y6,PV.str u',y8,y9,T3,Uk] [u_ n' m]:=by
 intro k
 induction k with
 |zero=>intro i hi n u x6 x8 x9 hu hl h0 h1;exact⟨u,x6,x8,x9,n,hu,hl,h0,by lia,rfl⟩
 |succ k ih=>intro i hi n u x6 x8 x9 hu hl h0 h1;obtain⟨u1,y8,n1,s1,l1,a1,a2,e1⟩:=xV cs hc m l f x0 x5 (some (.str u)) x8 x9 T3 Uk w3 (0+i) ⋯ ⋯ n h0 ⋯;obtain⟨u2,y6,y8',y9,n2,s2,l2,b1,b2,e2⟩:=ih (i+1) ⋯ n1 u1 (some (.int (0+i))) y8 (some (iM (Xd u1 l))) s1 l1 ⋯ ⋯;refine⟨u2,y6,y8',y9,n2,s2,l2,b1,b2,?_⟩;rw[Dp];exact(cC rfl e1).trans e2
end
def DT(u:Y1)(w:Int):∃o:PV,o.pure=true/\((∀h,aV [o,.ty "str"] h=.ok (.bl ajt) h)\/∃s,o=.str s/\s.length<=u.length+3/\s.all (aI).contains=ajt)/\∀h,j5 (.lst [.non,.int 5,.lst [.str [97]],.str [9],.str (u++ [9]),.tup [.str [97]],.str [97,9,98]]) (.int (w / 9 % 7)) h=.ok o h:=by
 have q7:=bD (w / 9) (m:=7) ⋯;rcases(show w / 9 % 7=0\/w / 9 % 7=1\/w / 9 % 7=2\/w / 9 % 7=3\/w / 9 % 7=4\/w / 9 % 7=5\/w / 9 % 7=6 by lia)with q|q|q|q|q|q|q<;>rw[q]
 .exact⟨.non,rfl,.inl fun h=>rfl,fun h=>rfl⟩
 .exact⟨.int 5,rfl,.inl fun h=>rfl,fun h=>rfl⟩
 .exact⟨.lst [.str [97]],rfl,.inl fun h=>rfl,fun h=>rfl⟩
 .exact⟨.str [9],rfl,.inr ⟨_,rfl,by simp,wK [] []⟩,fun h=>rfl⟩
 .exact⟨.str (u++ [9]),rfl,.inr ⟨_,rfl,by simp,wK u []⟩,fun h=>rfl⟩
 .exact⟨.tup [.str [97]],rfl,.inl fun h=>rfl,fun h=>rfl⟩
 .exact⟨.str [97,9,98],rfl,.inr ⟨_,rfl,by simp,wK [97] [98]⟩,fun h=>rfl⟩
def Co(w:Int):∃i:Nat,i<2/\∀h,j5 (.lst [.str [110,117,109,98,101,114],.str [119,111,114,100]]) (.int (w % 2)) h=.ok (.str (ca i)) h:=by
 have q:=bD w (m:=2) ⋯;rcases(show w % 2=0\/w % 2=1 by lia)with q|q<;>rw[q]
 .exact⟨1,by decide,fun h=>rfl⟩
 .exact⟨0,by decide,fun h=>rfl⟩
theorem NE(h:Y3):aP (.bl true) h=.ok (.bl true):=rfl
def Es(ns:List Int)(hn:ns.length<=63):F 30 .law [.X5 (ns.map PV.int)]=.ok (.bl true):=by
 obtain⟨cs,hcs,hc⟩:∃cs:List Int,(∀h,rN (gv ns) (some 2) (some 34) h=.ok (cv cs) h)/\cs.length<=63:=⟨_,KQ ns,aeI (kR ns _ _) hn⟩
 obtain⟨v,ve⟩:=pP 28 ns 1 ⋯;obtain⟨w,we⟩:=pP 28 ns 0 ⋯;have d0:∀n,aA [u_ n 24] (.ref 0)=.ref 0:=fun _=>rfl;obtain⟨l,ls,n1,nk,b1,b2,fe⟩:=HH 17 cs hc w 0 24 (agR _) ⋯;have f:=Ny nk;have np:(PV.tup (g8 l)).pure=true:=by rw[PV.pure];exact bv l
 have lp:(PV.lst (ls.map PV.str)).pure=true:=by rw[PV.pure];exact eH ls
 have fe:z_ (L 29 .Wr) [cv cs,.ref 0,.int w,.bl true] [u_ 0 24]=.ok (.tup [.tup (g8 l),.lst (ls.map PV.str)]) [u_ n1 24]:=dB (fn:=L 29 .Wr) [cv cs] [.int w,.bl true] (by rw[ai,iF];rfl) rfl rfl (ci _ _) fe (by rw[PV.pure,ai,np,ai,lp];rfl) (ci _ _);obtain⟨u0,y8,n2,s0,l0,c1,Vs,f1⟩:=xV cs hc 24 l f (some (gv ns)) (some (.lst (ls.map PV.str))) none none none none none v (0+((0:Nat):Int)) ⋯ ⋯ n1 b1 ⋯;obtain⟨u,y6,z8,z9,n3,su,lu,g0,g1,f2⟩:=LZ cs hc 24 l f (some (gv ns)) (some (.lst (ls.map PV.str))) none none v 5 1 ⋯ n2 u0 (some (.int (0+((0:Nat):Int)))) y8 (some (iM (Xd u0 l))) s0 l0 ⋯ ⋯;obtain⟨n4,re⟩:=yK cs hc 24 n3 g0 ⋯;obtain⟨o,op,ok,oe⟩:=DT u v;obtain⟨i,hi,ie⟩:=Co v;have to:∀h,aR (F 29 .Q8) [.tup (g8 l),o] h=.ok (.lst [.non]) h:=CM 25 _ o np op (ok.imp id (by rintro ⟨s,a,b,c⟩;exact ⟨s,a,by lia,c⟩));have q9:=bD v (m:=99) ⋯;have tl:=By i hi (3900+v % 99).toNat ⋯ ⋯;have r7:=Pd (3900+v % 99) ⋯ ⋯;have d_o:=fun h=>ar h op;have zu:u.length+1<=16777216:=by lia
 have eN:∀h,v9 (.lst [.non]) (.lst [.non]) h=.ok (.bl true) h:=fun _=>rfl;have eZ:∀h,v9 (.lst [.int 0]) (.lst [.int 0]) h=.ok (.bl true) h:=fun _=>rfl;show ag (Bd (F 29) (L 29)) 1 12 [gv ns]=_;refine jB (h1:=[u_ n4 24]) rfl ?_ (NE _);show Bd (F 29) (L 29) [gv ns,none,none,none,none,none,none,none,none,none,none,none] []=_;unfold Bd;refine(sq (fC (v:=cv cs) (h1:=[]) (by simp[EV,yc,hcs]))).trans ((sq (fC (v:=.ref 0) (h1:=[u_ 0 24]) rfl)).trans ((sq (fC (v:=.int v) (h1:=[u_ 0 24]) (by simp[EV,yc,ve]))).trans ((sq (ρ1:=[gv ns,cv cs,PV.ref 0,PV.int v,PV.tup (g8 l),PV.lst (ls.map PV.str),none,none,none,none,none,none]) (h1:=[u_ n1 24]) (by simp[EV,yc,fy,d0,we,fe])).trans ((sq (ρ1:=[gv ns,cv cs,PV.ref 0,PV.int v,PV.tup (g8 l),PV.lst (ls.map PV.str),y6,PV.str u,z8,z9,none,none]) (h1:=[u_ n3 24]) (show bc (P0 6) (qk (F 29) (L 29)) (Zz 0 6) _ _=_ from by rw[Dp];exact(cC rfl f1).trans f2)).trans ?_))));simp[EV,fy,d0,re,zu,oe,ie,d_o,to,r7,tl,eN,eZ]
end Xb
namespace PySem.W.Fast
open Lean in
local macro_rules|`(command|#check tws)=>do let p:=`PySem.Challenge;let q:=p.str "cw_formsmith_k17_read_sign_by_sign_holds";let c<-((List.range 910).map (fun i=>q.str s!"o_{i+43}")++("sts_326 view_39 tree_743 tree_439 tree_106 sts_203 sts_908 heap_39 sts_92 sts_744 sts_644 sts_159 sts_107 tree_47 tree_643 sts_122 sts_137 tree_826 tree_91 sts_181 heap_46 sts_504 tree_503 tree_671 sts_232 tree_382 tree_136 tree_325 tree_268 sts_49 tree_180 tree_952 tree_231 sts_568 tree_907 tree_202 tree_121 sts_440 sts_269 tree_158 env_41 heap_953 sts_827 sts_672 tree_567 sts_383".splitOn.map q.str)++[p.str "pw_formsmith_k17_read_sign_by_sign",p.str "rw_formsmith_k17_read_sign_by_sign"]).mapM fun n=>`(command|theorem $(mkIdent (.mkSimple s!"tw{n.hash}")):ident:True:=⟨⟩);return mkNullNode c.toArray
#check tws
end PySem.W.Fast
open PySem PySem.W PyProof.Rows
set_option maxRecDepth 100000 in
set_option maxHeartbeats 0 in
theorem PySem.Challenge.cw_formsmith_k17_read_sign_by_sign_holds : PySem.Challenge.rw_formsmith_k17_read_sign_by_sign.Holds := by
  w_on; o_law; k_head; (case hw => w_witness2)
  k_fill
  refine Z.Er (l := PySem.Challenge.rw_formsmith_k17_read_sign_by_sign) (k := Xb.dl 30) (x := "_law_script") (fn := Xb.F 30 .law) rfl rfl ⟨by decide, by decide, rfl⟩ (fun w h Y => W.kIn_of Y) Xb.Es ?F
  case F =>
    intro w mg fa h KX G hmg
    refine' Xb.LA KX G hmg ?XD ?RM ?Ul ?Wu ?M8 ?S5 ?Wt ?M7 ?SX ?W8 ?P_ ?Ti ?XF ?RN ?Um ?T8 ?B_ ?T5 ?T7 ?R5 ?S6 ?Uq ?Vb ?W9 ?VB ?VD ?Vz ?Wv ?cg_ ?V4 ?Uh ?Ug ?Va ?V5 ?Ui ?O2 ?O1 ?M_ ?Q_ ?O7 ?N_ ?J6 ?Te ?K7 ?Wk ?Wj ?Wi ?Wh ?Wg ?Wf ?hf ?Tf ?O_ ?RL ?RJ ?I_ ?RD ?K4 ?O9 ?N7 ?Rr ?Rq ?M5 ?O8 ?Ve ?RB ?S8 ?Vy ?hn
    (case XD | Wu | Wt | W8 | XF | T8 | Uq | Vb | W9 | VB | VD | Vz | Wv | T5 | T7 | R5 | S6 | Wj | Wh | Wg | Wf | Tf | O_ | RL | RJ | I_ | RD | K4 | O9 | N7 | Rr | Rq | M5 | O8 | Ve | RB | S8 | Vy => show _ = _; k_is);(case Ul | S5 | SX | Ti | Um => exact ⟨by k_is, by k_is, by k_is⟩)
    (case RM | M8 | M7 | P_ | RN | B_ | cg_ | Te => constructor <;> k_is);(case V4 | Uh | Ug | Va | V5 | Ui => exact ⟨by k_is, by k_is, by first | rfl | kernel_rfl⟩)
    (case O2 | O1 | M_ | Q_ | O7 | N_ | J6 => kit_is)
    (case K7 => kts_exm)
    (case Wk | Wi => first | rfl | kernel_rfl)
    (case hf => intro f; cases f <;> (refine' Xb.fq (Ad := Xb.adP _ _ _) ?fa ?fl ?fc ?fk ?fb; (case fa => dsimp only [Xb.adP]; first | k_is | ((first | constructor | skip) <;> (repeat' apply And.intro) <;> k_is)); (case fl=>k_is); (case fc=>k_is); (case fk=>k_is); (case fb => intro _ _ _ _ _ _ us hl; first | (obtain rfl := Xb.us0 hl; rfl) | (obtain ⟨_, rfl⟩ := Xb.us1 hl; rfl) | (obtain ⟨_, _, rfl⟩ := Xb.us2 hl; rfl) | (obtain ⟨_, _, _, rfl⟩ := Xb.us3 hl; rfl) | (obtain ⟨_, _, _, _, rfl⟩ := Xb.us4 hl; rfl) | (obtain ⟨_, _, _, _, _, rfl⟩ := Xb.us5 hl; rfl) | (obtain ⟨_, _, _, _, _, _, rfl⟩ := Xb.us6 hl; rfl) | (obtain ⟨_, _, _, _, _, _, _, rfl⟩ := Xb.us7 hl; rfl))))
    (case hn => intro i; cases i <;> k_is)
