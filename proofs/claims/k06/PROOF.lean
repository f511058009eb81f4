import PyProof.Rows.All
import Wide.All
import OpenK.AllK
import Wide.FinOn
import Lean
import PyProof.EqAt
import PyProof.EqKinds
import PyProof.TupleCall
import PyProof.StationsW
import PyProof.TupleOps
import PyProof.ExcAttrAll.ValueError
import PyProof.ExcClass3
import PyProof.InstStoreFacts
import KE.KDictOf
import PyProof.AttrMissHeap
import KE.LcSums
import KE.KDictList
import PyProof.StrCalls
import PyProof.FactsAll.range_2
import KE.KRevIter
import PyProof.ZipIter
import PyProof.Draws
import PyProof.EnumMake
import PyProof.CompUse
import PyProof.ListCopy
import KE.KRevSl
import PyProof.DictUpdate
import PyProof.NeKinds
import PyProof.Rows.ExtendIn
import PyProof.DictItems
import KE.KPairComp
import PyProof.ListNew
import PyProof.ReprRoads
import PySem.Challenge.RW_formsmith_k06_shown_and_read
open Array renaming getElem?_eq_some_iff->aeY,getElem?_toList->afu,forIn_toList->ahY,toList_push->ah9,toList_inj->aii,size_push->aiu
open Bool renaming and_eq_true->ac7,false_eq_true->ad3,or_eq_true->ad8,eq_iff_iff->aei,and_true->aeA,true_and->aeT,eq_false_iff->ae9,false_ne_true->afl,not_eq_true'->afy,not_eq_true->afH,and_eq_false_iff->ahw,or_eq_false_iff->ahD,and_self->ahR,or_true->ah8,true_or->aiE
open Eq renaming trans->afC
open Int renaming cast_ofNat_Int->ad2,toNat_natCast->aeo,emod_lt_of_pos->afS,le_refl->afW,mul_le_mul_of_nonneg_left->agp,emod_nonneg->agw,eq_ofNat_of_zero_le->ag7,natCast_add->ahl,toNat_of_nonneg->ahM,mul_nonneg->aiB
open LawfulBEq renaming eq_of_beq->agY
open List renaming length_append->acZ,mem_cons_of_mem->ac1,length_map->ac2,mem_cons_self->ac4,map_cons->ac5,length_cons->ac6,mem_cons->ac8,getElem?_eq_some_iff->ac9,append_assoc->ade,length_nil->adh,map_append->adi,mem_singleton->adl,all_eq_true->adn,mem_append->adv,mem_of_getElem?->adw,getElem?_append_left->ady,getElem?_eq_getElem->adz,getD_eq_getElem?_getD->adA,map_map->adB,append_nil->adD,length_singleton->adF,isPrefixOf_iff_prefix->adG,not_mem_nil->adH,getElem?_append_right->adI,nodup_cons->adL,mem_map->adM,getElem?_map->adO,sum_cons->adQ,length_drop->adS,map_nil->adT,length_take->adU,cons_append->adY,take_of_length_le->ad0,length_range->ad1,mem_append_left->ad7,length_pos_iff->ad9,eq_nil_or_concat->aeb,concat_eq_append->aec,mem_of_mem_take->aeg,nil_append->aeh,lookup_cons->ael,size_toArray->aen,contains_iff_mem->aep,mem_range->aeu,getElem?_take_of_lt->aev,append_inj'->aez,flatten_cons->aeC,replicate_succ->aeE,forIn_cons->aeF,all_cons->aeK,getElem?_set_ne->aeL,eq_nil_of_length_eq_zero->aeM,mem_map_of_mem->aeQ,getElem?_set_self->aeR,drop_left->aeW,drop_drop->aeX,set_append_right->aeZ,mem_of_find?_eq_some->ae1,nodup_append->ae6,mem_iff_getElem->ae7,getLast?_concat->ae8,find?_range_eq_some->afc,map_congr_left->afe,take_left->afh,drop_zero->afi,find?_cons_of_neg->afk,takeWhile_append_of_pos->afo,head?_drop->afp,take_append_drop->afr,mem_append_right->afs,getElem?_eq_none->aft,take_sublist->afx,dropLast_concat->afB,isEmpty_nil->afE,isEmpty_iff->afF,getElem_inj->afG,any_cons->afK,foldl_cons->afM,zip_cons_cons->afO,map_singleton->afP,getElem?_drop->afQ,find?_eq_none->afR,getElem?_replicate->afV,isEmpty_cons->af4,singleton_append->aga,length_replicate->agb,mem_flatten->agh,getElem_mem->agi,mem_of_mem_drop->ago,of_mem_zip->agt,find?_cons->agu,drop_left'->agv,length_flatten->agx,sum_nil->agB,contains_cons->agG,pairwise_iff_getElem->agN,reverse_cons->agR,drop_sublist->agS,any_eq_false->agT,prefix_iff_eq_take->ag5,filter_cons->ag6,all_map->ahe,sum_append->ahj,length_set->ahk,getElem?_toArray->ahv,getLast?_append->ahC,map_eq_nil_iff->ahJ,length_reverse->ahK,filter_eq_self->ahL,any_map->ah7,map_id->ail,mem_filter->aiq,length_zip->air,all_append->ais,forIn_nil->aiz,drop_take->aiA
open List.Sublist renaming nodup->agH
open List.cons renaming injEq->afN
open Nat renaming le_trans->adu,zero_le->adx,le_refl->adK,lt_irrefl->adR,le_max_right->adX,le_max_left->ad4,lt_succ_self->ad6,le_succ_of_le->aee,ne_of_lt->aek,ne_of_gt->aey,lt_of_lt_of_le->aeI,lt_or_ge->aeJ,min_eq_left->ae3,lt_succ_of_lt->ae5,sub_self->afj,le_succ->afA,succ_le_succ->afD,zero_add->af3,le_of_ble_eq_true->af9,min_eq_right->agg,le_total->agz,le_of_lt->agA,le_add_right->ag3,exists_eq_add_of_le->ag4,sub_zero->ahd,min_le_left->ahi,mul_le_mul->ahA,le_zero->ahB,mul_le_mul_left->ahI,lt_of_le_of_lt->ahW,mul_comm->ah5,add_comm->ah6,not_lt_of_le->aie,min_le_right->aif,not_lt_zero->aip,max_le->aix,add_le_add->aiy
open Ne renaming symm->aem
open Option renaming map_eq_some_iff->adZ,isSome_iff_exists->afb,map_eq_none_iff->af2,getD_some->aib,getD_none->aic,map_some->aio
open Option.some renaming inj->aex,injEq->agQ
open Prod.mk renaming injEq->aiC
open PyProof.Rows renaming slot_tuple_getitem->aeG,mem_cps_append->agy,subscriptTail_builtinR->aha,entry_tuple_getitem->ahG,slot_tuple_getitem->ahU,args_tuple_getitem->ahV
open PySem renaming wpAny_bind->ac0,wpAny_pure->adf,wpAny_Call_Name_kw->adV,wpAny_field->adW,wpAny_mono->aea,wpAny_callSpecial?_slot->aef,wpAny_seqItems->aer,wpAny_holding->aes,wpAny_newObj_type->aeB,mem_of_lookup->aeD,wpAny_truthy_bool->aeO,wpAny_call_entry->aeU,wpAny_setField_rec->aeV,codeAny_builtin->ae2,call_meets->afa,wpAny_getItem_str_slice->afg,wpAny_passesOwn->afm,wpAny_ite_false->afn,wpAny_pyIter_list->afv,wpAny_loadPart_at->afw,sizeLine_eq->afz,wpAny_comprehension_free->afJ,wpAny_execs_nil->afL,wpAny_typeOf->afX,wpAny_Call_method_late->afY,codeAny_mono->afZ,plainObj_wpAny_Assign_Attribute->af7,builtinLookup_eq_fast->af8,wpAny_execs_cons->agc,wpAny_call->agd,typeIs_str->agf,wpAny_standAt->agj,plainId_quiet->agk,wpAny_updateSeq_pair->agl,codeAny_call_builtin->agm,wpAny_updateSeq->agr,post_val_or_str->ags,wpAny_pyIter_tuple->agD,wpAny_binaryOp_repeat_ref->agK,wpAny_assign_Name->agP,wpAny_onRaise->agU,wpAny_attempt->agV,noFill_tuple_add->agX,wpAny_rule->ag8,wpAny_Assign_Subscript->ag9,wpAny_specialOf->ahf,typeLookup_type->ahh,exec_Assign_Name_used->ahm,wpAny_letGo->ahx,wpAny_ite_true->ahy,wpAny_isSubtype_exc->ahE,length_partsBetween->ahF,seq_tuple_add->ahO,wpAny_List_spliced->ahS,typeIs_int->ahT,wpAny_sequenceKey->ahZ,wpAny_Return_some->ah0,slot_list_getitem->ah1,seqIndex_neg->ah2,concat_meets->ah3,seqIndex_of->aij,wpAny_Name->aiv
open PySem.Around renaming under_plainId->aeN,frames_deeper->agq
open PySem.AutoSeq1 renaming wpAny_loadPart'->afd
open PySem.Calls renaming spliced_cons->afT,spliced_nil->af5,callWith_builtin->af6,Name_function_global->agJ
open PySem.Code renaming quiet_builtin->agI
open PySem.F renaming plainAttrs_str->aej,slot_list_getattribute->aeH,plain_extend_loop->ae0,store_object->ae4,slot_zip_next->afq,plainAttrs_list->afU,excBase_ValueError->agE,excBase_Exception->agL,entry_extend_loop->agM,args_tuple_add_2->agW,slot_dict_items->agZ,plainAttrs_dict->ag0,entry_tuple_add->ag1,args_zip_next_1->ag2,slot_tuple_add->ahb,entry_zip_next->ahc,type_str_join->ahq,type_str_find->ahr,slot_str_join->ahs,slot_str_find->aht,slot_dict_get->ahu
open PySem.Heap renaming get?_push_of_some->ada,get?_push_size->ado,lt_size->adE,get?_update_self->aed,size_push->aew,get?_update_other->aeS,get?_update_ne->afI,get?_some_iff->ahX
open PySem.Heap.DictOf renaming new->ait
open PySem.Heap.SameBut renaming update->ahN
open PySem.Obj renaming data_mapFields->agF
open PySem.Sem renaming wp_pure->agn,wp_mono->aik
open PySem.StrLaws renaming strSub_toList->ahn,occ_length_le->aho,glued_eq_join->ahp
open PySem.W renaming mg_of->aeP,callWith_K->af0,kia_one->agC,hideAll_none->ahz,hideAll_get->ahH,plainGet_of->ahP,callWith_K0->ahQ,cellsFrom_some->aia,methodCall_KW->ain
open PySem.W.Looks renaming here->aiD
open PySem.Walks renaming list->aiw,tuple->aiF
open PySem.Within renaming cons->ah4
set_option compiler.extract_closed false
set_option genInjectivity false
set_option genSizeOf false
set_option bootstrap.genMatcherCode false
noncomputable section
set_option Elab.async false
set_option linter.all false
set_option maxRecDepth 100000
set_option maxHeartbeats 4000000
set_option autoImplicit false
theorem Zau(a b c d e f g h i j k:Prop)(_:a:=by rfl)(_:b:=by decide)(_:c:=by intro _;rfl)(_:d:=by exact⟨rfl,rfl⟩)(_:e:=by exact⟨rfl,rfl,rfl,rfl,rfl,rfl,by decide⟩)(_:f:=by exact⟨by decide+kernel,rfl,by decide,by decide⟩)(_:g:=by exact fun _ h=>h)(_:h:=by exact fun _ _=>Z.gU)(_:i:=by kernel_rfl)(_:j:=by first|exact .inl rfl|exact .inr ⟨rfl,rfl⟩)(_:k:=by exact⟨rfl,rfl,rfl,rfl,rfl⟩):True:=⟨⟩
local macro_rules|`($p\1)=>`(autoParam $p Zau._auto_1)|`($p\2)=>`(autoParam $p Zau._auto_2)|`($p\3)=>`(autoParam $p Zau._auto_3)|`($p\4)=>`(autoParam $p Zau._auto_4)|`($p\5)=>`(autoParam $p Zau._auto_5)|`($p\6)=>`(autoParam $p Zau._auto_6)|`($p\7)=>`(autoParam $p Zau._auto_7)|`($p\8)=>`(autoParam $p Zau._auto_8)|`($p\9)=>`(autoParam $p Zau._auto_9)|`($p\10)=>`(autoParam $p Zau._auto_10)|`($p\11)=>`(autoParam $p Zau._auto_11)
local macro_rules|`(⋯)=>`(by first|decide|lia)
namespace Z
open PySem PySem.Spec PyProof.Rows
abbrev Y1:=List Nat
abbrev Ya:=List Y1
abbrev Yf:=Value->Shared->Prop
abbrev Z3:=List Value
abbrev Zl:=List Str
abbrev Zp:=Option Int
abbrev Zs:=List Addr
variable{A:Around}{E Q:Yf}{O:Addr->Option Addr}{R:Result->Shared->Prop}{a b:Addr}{cells:List (Str×Addr)}{es ifs:List Expr}{i:Int}{items its:Array Value}{iter tg:Expr}{k n:Nat}{kw:List (Str×Value)}{l:List (Str×NameKind)}{m:Zs}{o:Obj}{op:CmpOp}{pos:Pos}{prog:Program}{s':Shared}{scope:Scope}{st:Stmt}{t:String}{u v:Value}{us:Z3}{x:Str}{α:Type}
abbrev PK:=Sum Int Y1
variable{kvs:List (PK×Value)}
noncomputable def S(l:Y1):Str:=⟨l.toArray⟩
def zO{a b:Y1}(h:S a=S b):a=b:=by have:=congrArg (fun x=>x.cps.toList) h;simpa[S]using this
def MS(x:Str):S x.cps.toList=x:=by cases x;simp[S]
def db(l:Y1):(S l).length=l.length:=by show(S l).cps.size=_;simp[S]
set_option genInjectivity true in
inductive PV where
 |non|bl (b:Bool)|int (i:Int)|str (x:Y1)|ty (n:String)|cls (C:Nat)
 |tup (xs:List PV)|lst (xs:List PV)|VB (xs:List PV)|dct (kvs:List (PK×PV))|ins (C:Nat) (fs:List (Str×PV))
 |ref (i:Nat)|exc (C:Nat)|Wn (C:Nat) (v:PV)
abbrev Y2:=List PV
variable{p:PV}{ps:Y2}
mutual
noncomputable def PV.pure:PV->Bool
 |.ref _=>false
 |.tup xs=>am xs
 |.lst xs=>am xs
 |.VB xs=>am xs
 |.dct kvs=>gC kvs
 |.ins _ fs=>Fj fs
 |.Wn _ v=>v.pure
 |_=>true
noncomputable def am:Y2->Bool
 |[]=>true
 |x::r=>x.pure&&am r
noncomputable def gC:List (PK×PV)->Bool
 |[]=>true
 |(_,x)::r=>x.pure&&gC r
noncomputable def Fj:List (Str×PV)->Bool
 |[]=>true
 |(_,x)::r=>x.pure&&Fj r
end
theorem gP:∀(l:List (PK×PV)),gC l=am (l.map (·.2))
 |[]=>by simp[am,gC]
 |(k,x)::r=>by simp[am,gC,gP r]
noncomputable def xnm(C:Nat):Str:=if C<500 then "at" else "word"
noncomputable def Xg:Nat->Zl
 |600=> ["parts","counted"]
 |601=> ["pen","pieces"]
 |602=> ["loops","pieces"]
 |603=> ["numbers","blocks"]
 |604=> ["text","at"]
 |605=> ["block","slots","body","place","walks"]
 |606=> ["things","taken"]
 |607=> ["program","pen","frames","stack","done","result"]
 |608=> ["command","nodes","yes","between"]
 |609=> ["pieces","opened","counted"]
 |_=> []
inductive PO where
 |lst (xs:Y2)|dct (kvs:List (PK×PV))|E_ (v:PV)|obj (C:Nat) (ps:Y2)
abbrev Y3:=List PO
variable{K:Y2->Y3->Prop}{h h1:Y3}
inductive Res(α:Type) where
 |ok (a:α) (h:Y3)|exc (e:PV) (h:Y3)|bad
variable{g:PV->PV->Y3->Res PV}
noncomputable def Res.bind{α β:Type}(r:Res α)(k:α->Y3->Res β):Res β:=match r with
 |.ok a h=>k a h
 |.exc e h=>.exc e h
 |.bad=>.bad
abbrev Ev:=List (Option PV)
variable{ρ:Ev}
abbrev Ex:=Ev->Y3->Res PV
variable{fa:Ex}
abbrev Tx:=Ev->Y3->Res Bool
abbrev Ax:=Ev->Y3->Res Y2
def kIs:PK->Value->Bool
 |.inl k,v=>Value.isInt k v
 |.inr x,v=>Value.isStrOf (S x) v
theorem gv:∀{k:PK}{v:Value},kIs k v=true->(∃i t,k=Sum.inl i/\v=Value.int i t)\/(∃x t,k=Sum.inr x/\v=Value.str (S x) t)
 |.inl i,v,h=>let⟨t,e⟩:=Value.isInt_shape h;.inl ⟨i,t,rfl,e⟩
 |.inr x,v,h=>let⟨t,e⟩:=Value.isStrOf_shape h;.inr ⟨x,t,rfl,e⟩
def pk(P:Program)(w:World):KeyKind P w PK where
 is:=kIs
 hash:=fun|.inl k=>hashInt k|.inr x=>hashStr w (S x)
 inj:=fun v a b ha hb=>by rcases gv ha with⟨i,t,rfl,rfl⟩|⟨x,t,rfl,rfl⟩<;>rcases gv hb with⟨j,u,rfl,e⟩|⟨y,u,rfl,e⟩<;>first|(injection e with e1;first|rw[e1]|rw[zO e1])|cases e
 byValue:=fun k v h=>by rcases gv h with⟨i,t,rfl,rfl⟩|⟨x,t,rfl,rfl⟩<;>rfl
 pyHash:=fun hv h=>by
  rcases gv hv with⟨i,t,rfl,rfl⟩|⟨x,t,rfl,rfl⟩
  .exact wpAny_pyHash_int h
  .exact wpAny_pyHash_str h
 eqBool:=fun hu hv h=>by
  rcases gv hu with⟨i,t,rfl,rfl⟩|⟨x,t,rfl,rfl⟩<;>rcases gv hv with⟨j,u,rfl,rfl⟩|⟨y,u,rfl,rfl⟩
  .exact wpAny_eqBool_int (by rw[Bool.beq_eq_decide_eq];simpa using h)
  .exact SeqAt.EqAt.int_str i t _ u _ _ _ _ (by simpa using h)
  .exact SeqAt.EqAt.str_int _ t j u _ _ _ _ (by simpa using h)
  .exact wpAny_eqBool_str (by rw[show decide (S x=S y)=decide ((Sum.inr x:PK)=.inr y)from decide_eq_decide.mpr ⟨fun e=>by rw[zO e],fun e=>by cases e;rfl⟩];exact h)
 «strs» :=fun k x t v h=>by
  rcases gv h with⟨i,u,rfl,e⟩|⟨y,u,rfl,e⟩<;>cases e
  cases v<;>rfl
structure SC where
 prog:Program
 w:World
 K:W.Frag
 mg:Str->Option Value
 base:Heap
 T:Nat->Option Addr
variable{G:SC}
abbrev Fz:=Addr->Option Obj
structure Wo where
 F:Fz
 O:Addr->Option Addr
 m:Zs
 s:Shared
variable{w0 w1 w2:Wo}
def DO(G:SC)(o:Obj)(kvs:List (PK×Value)):Prop:=o.ExactDict/\∃es ep,o.data=.dict es ep/\KeysOf (pk G.prog G.w) es/\Pairs (pk G.prog G.w) es.toList kvs/\(kvs.map (·.1)).Nodup
def NsO(o:Obj)(fs:List (Str×Value)):Prop:=∃es ep,o.data=.dict es ep/\StrKeys es/\UniqKeys es/\∀n,nsFind es n=fs.lookup n
noncomputable def sqT:PV->Option (String×Y2)
 |.tup ps=>some ("tuple",ps)
 |.lst ps=>some ("list",ps)
 |.VB ps=>some ("list",ps)
 |_=>none
section
variable(G:SC)(F:Fz)(m:Zs)
mutual
inductive aQ:PV->Value->Prop where
 |non:aQ .non .none
 |bl (b:Bool):aQ (.bl b) (.bool b)
 |int (i:Int) (t:Tok):aQ (.int i) (.int i t)
 |str (x:Y1) (t:Tok):aQ (.str x) (.str (S x) t)
 |ty (n:String):aQ (.ty n) (.type n)
 |cls {C:Nat} {a:Addr} (c:G.T C=some a):aQ (.cls C) (.ref a)
 |tup {ps:Y2} {a:Addr} {its:Array Value} {n:Nat} (e:F a=some ({ cls:=.type "tuple",data:=.seq its n })) (z:its.size<=sizeLine) (r:ay ps its.toList):aQ (.tup ps) (.ref a)
 |lst {ps:Y2} {a:Addr} {its:Array Value} {n:Nat} (e:F a=some ({ cls:=.type "list",data:=.seq its n })) (z:its.size<=sizeLine) (r:ay ps its.toList):aQ (.lst ps) (.ref a)
 |VB {ps:Y2} {a:Addr} {its:Array Value} {n:Nat} (e:F a=some ({ cls:=.type "list",data:=.seq its n })) (z:its.size<=sizeLine) (r:ay ps its.toList):aQ (.VB ps) (.ref a)
 |dct {J0:List (PK×PV)} {a:Addr} {o:Obj} {kvs:List (PK×Value)} (e:F a=some o) (d:DO G o kvs) (sm:(a==sysModules)=false) (z:kvs.length<=sizeLine) (k:kvs.map (·.1)=J0.map (·.1)) (r:ay (J0.map (·.2)) (kvs.map (·.2))):aQ (.dct J0) (.ref a)
 |ins {C:Nat} {a Ca dx:Addr} {od:Obj} (c:G.T C=some Ca) (e:F a=some (W.instObj Ca dx)) (d:F dx=some od) (n:NsO od []):aQ (.ins C []) (.ref a)
 |ref {i:Nat} {a:Addr} (e:m[i]? =some a):aQ (.ref i) (.ref a)
 |exc {C:Nat} {a Ca:Addr} {o:Obj} {vs:Array Value} (c:G.T C=some Ca) (e:F a=some o) (oc:o.cls=.ref Ca) (d:o.data=.fields vs):aQ (.exc C) (.ref a)
 |Wn {C:Nat} {a Ca dx:Addr} {o od:Obj} {vs:Array Value} {u:Value} {fs:List (Str×Value)} {p:PV} (c:G.T C=some Ca) (e:F a=some o) (oc:o.cls=.ref Ca) (d:o.data=.fields vs) (od':o.dict=some dx) (e2:F dx=some od) (n:NsO od fs) (l:fs.lookup (xnm C)=some u) (r:aQ p u):aQ (.Wn C p) (.ref a)
inductive ay:Y2->Z3->Prop where
 |nil:ay [] []
 |cons {p:PV} {v:Value} {ps:Y2} {vs:Z3} (r:aQ p v) (t:ay ps vs):ay (p::ps) (v::vs)
end
def uE(O:Addr->Option Addr)(g:Heap)(a:Addr):PO->Prop
 |.lst ps=>F a=none/\∃its n,g.get? a=some { cls:=.type "list",data:=.seq its n }/\its.size<=sizeLine/\ay G F m ps its.toList
 |.dct J0=>F a=none/\∃o kvs,g.get? a=some o/\DO G o kvs/\(a==sysModules)=false/\kvs.length<=sizeLine/\kvs.map (·.1)=J0.map (·.1)/\ay G F m (J0.map (·.2)) (kvs.map (·.2))
 |.E_ p=>aQ G F m p (.ref a)/\p.pure=true/\∃o,F a=some o
 |.obj C ps=>F a=none/\∃Ca dx od vs,G.T C=some Ca/\g.get? a=some (W.instObj Ca dx)/\O dx=some a/\g.get? dx=some od/\NsO od ((Xg C).zip vs)/\vs.length<=(Xg C).length/\ay G F m ps vs
end
section
variable{F F':Fz}{m':Zs}
def Sub(m m':Zs):Prop:=∀(i:Nat)(a:Addr),m[i]? =some a->m'[i]? =some a
def ay.mono(hF:∀a o,F a=some o->F' a=some o){p:Y2}{v:Z3}(r:ay G F m p v):am p=true\/Sub m m'->ay G F' m' p v:=
 ay.rec (motive_1:=fun p v _=>p.pure=true\/Sub m m'->aQ G F' m' p v) (motive_2:=fun p v _=>am p=true\/Sub m m'->ay G F' m' p v) (fun _=>.non) (fun b _=>.bl b) (fun i t _=>.int i t) (fun x t _=>.str x t) (fun n _=>.ty n) (fun c _=>.cls c) (fun e z _ i h=>.tup (hF _ _ e) z (i h)) (fun e z _ i h=>.lst (hF _ _ e) z (i h)) (fun e z _ i h=>.VB (hF _ _ e) z (i h)) (fun e d s z k _ i h=>.dct (hF _ _ e) d s z k (i (h.imp_left fun q=>by simpa[PV.pure,gP]using q))) (fun c e d n _=>.ins c (hF _ _ e) (hF _ _ d) n) (fun e h=>.ref (h.elim nofun fun q=>q _ _ e)) (fun c e o d _=>.exc c (hF _ _ e) o d) (fun c e o d o' e2 n l _ i h=>.Wn c (hF _ _ e) o d o' (hF _ _ e2) n l (i h)) (fun _=>.nil) (fun _ _ i j h=>.cons (i (h.imp_left fun q=>(ac7 _ _▸q:).1)) (j (h.imp_left fun q=>(ac7 _ _▸q:).2))) r
theorem aQ.mono(hF:∀a o,F a=some o->F' a=some o){p:PV}{v:Value}(r:aQ G F m p v)(h:p.pure=true\/Sub m m'):aQ G F' m' p v:=by cases ay.mono hF (.cons r .nil) (h.imp_left fun q=>by rw[am,q];rfl);assumption
theorem ay.ind{P:Y2->Z3->Prop}(n:P [] [])(c:∀{p v ps vs},aQ G F m p v->ay G F m ps vs->P ps vs->P (p::ps) (v::vs)){vs:Z3}(r:ay G F m ps vs):P ps vs:=by
 induction ps generalizing vs with
 |nil=>cases r;exact n
 |cons _ _ i=>cases r with|cons r t=>exact c r t (i t)
def aQ.vi(r:aQ G F m (.int i) u):∃t,u=.int i t:=by cases r;exact⟨_,rfl⟩
def aQ.vs{x:Y1}(r:aQ G F m (.str x) u):∃t,u=.str (S x) t:=by cases r;exact⟨_,rfl⟩
def aQ.vb{b:Bool}(r:aQ G F m (.bl b) u):u=.bool b:=by cases r;rfl
def aQ.vn(r:aQ G F m .non u):u=.none:=by cases r;rfl
def aQ.vt{n:String}(r:aQ G F m (.ty n) u):u=.type n:=by cases r;rfl
def aQ.sq(k:sqT p=some (t,ps))(e:F a=some ({ cls:=.type t,data:=.seq its n }))(z:its.size<=sizeLine)(r:ay G F m ps its.toList):aQ G F m p (.ref a):=by
 unfold sqT at k
 split at k<;>cases k
 .exact .tup e z r
 .exact .lst e z r
 .exact .VB e z r
end
structure HR(G:SC)(w:Wo)(h:Y3):Prop where
 sub:∀a o,w.F a=some o->w.s.heap.get? a=some o
 own:∀d a,w.O d=some a->(∃o,w.s.heap.get? d=some o)/\d∉w.m/\w.F d=none
 len:h.length=w.m.length
 nd:w.m.Nodup
 obj:∀(i:Nat)(o:PO)(a:Addr),h[i]? =some o->w.m[i]? =some a->uE G w.F w.m w.O w.s.heap a o
def W3(w:Wo)(b:Addr):Prop:=b∉w.m/\w.F b=none/\w.O b=none
def Has(w:Wo)(b:Addr)(o:Obj):Prop:=w.s.heap.get? b=some o/\W3 w b
structure M8(fs:Zs)(W:Addr->Prop)(w w':Wo):Prop where
 os:w'.s.os=w.s.os
 ba:AllBare w.s.gens->AllBare w'.s.gens
 fz:∀a o,w.F a=some o->w'.F a=some o
 ow:∀d a,w.O d=some a->w'.O d=some a
 pre:∃t,w'.m=w.m++t
 dom:∀b o,w.s.heap.get? b=some o->∃o',w'.s.heap.get? b=some o'
 keep:∀b o,Has w b o->¬ W b->∃sl,Has w' b { o with slots:=sl }/\(b∈fs\/sl=o.slots)
section
variable{fs:Zs}{W W':Addr->Prop}{w:Wo}
def M8.refl:M8 fs W w w:=⟨rfl,id,fun _ _ e=>e,fun _ _ e=>e,⟨[],by simp⟩,fun _ o e=>⟨o,e⟩,fun _ o q _=>⟨o.slots,q,.inr rfl⟩⟩
theorem M8.trans(x:M8 fs W w w1)(y:M8 fs W w1 w2):M8 fs W w w2:=
 ⟨y.os.trans x.os,y.ba∘x.ba,fun a o e=>y.fz a o (x.fz a o e),fun a o e=>y.ow a o (x.ow a o e),let⟨t,e⟩:=x.pre;let⟨u,e'⟩:=y.pre;⟨t++u,by rw[e',e,ade]⟩,fun b o e=>let⟨o',q⟩:=x.dom b o e;y.dom b o' q,fun b o q n=>by obtain⟨sl,q1,z1⟩:=x.keep b o q n;obtain⟨sl',q2,z2⟩:=y.keep b _ q1 n;exact⟨sl',q2,z1.elim .inl fun z=>z2.imp_right fun z'=>z'.trans z⟩⟩
def M8.weak{fs':Zs}(x:M8 fs W w w1)(k:∀b,W b->W' b)(l:∀b∈fs,b∈fs':=by exact fun _ z=>z):M8 fs' W' w w1:=⟨x.os,x.ba,x.fz,x.ow,x.pre,x.dom,fun b o q n=>let⟨sl,q,z⟩:=x.keep b o q fun z=>n (k b z);⟨sl,q,z.imp_left (l b)⟩⟩
def M8.sub(x:M8 fs W w w1):Sub w.m w1.m:=fun i a e=>by obtain⟨t,z⟩:=x.pre;rw[z,ady (ac9.mp e).1];exact e
def M8.rep(x:M8 fs W w w1)(r:aQ G w.F w.m p u):aQ G w1.F w1.m p u:=r.mono x.fz (.inr x.sub)
def M8.reps(x:M8 fs W w w1){p:Y2}{u:Z3}(r:ay G w.F w.m p u):ay G w1.F w1.m p u:=r.mono x.fz (.inr x.sub)
theorem HR.there(H:HR G w h)(e:a∈w.m):∃o,w.s.heap.get? a=some o:=by
 obtain⟨i,hi,e⟩:=ae7.mp e;have q:=H.obj i (h[i]'(by rw[H.len];exact hi)) a (by simp) (by simp[<- e])
 revert q
 cases h[i]'(by rw[H.len];exact hi)with
 |lst ps=>exact (by rintro ⟨_,_,_,e,_⟩;exact ⟨_,e⟩)
 |dct J0=>exact (by rintro ⟨_,_,_,e,_⟩;exact ⟨_,e⟩)
 |E_ p=>exact (by rintro ⟨_,_,o,e⟩;exact ⟨o,H.sub a o e⟩)
 |obj C ps=>exact (by rintro ⟨_,_,_,_,_,_,e,_⟩;exact ⟨_,e⟩)
def HR.free(H:HR G w h)(e:w.s.heap.get? a=none):W3 w a:=by
 refine⟨fun z=>?_,?_,?_⟩
 .obtain⟨o,q⟩:=H.there z;rw[e]at q;cases q
 .cases q:w.F a with
  |none=>rfl
  |some x=>rw[H.sub a x q]at e;cases e
 .cases q:w.O a with
  |none=>rfl
  |some x=>obtain⟨⟨o,q'⟩,_⟩:=H.own a x q;rw[e]at q';cases q'
def HR.at(H:HR G w h)(e:w.F a=some o):w.s.heap.get? a=some o:=H.sub a o e
theorem aW(g:Heap):g.get? g.objs.size=none:=by
 cases q:g.get? g.objs.size with
 |none=>rfl
 |some o=>exact absurd (adE q) (adR _)
theorem uE.on{g g':Heap}{F F':Fz}{m':Zs}{O':Addr->Option Addr}{po:PO}(hF:∀a o,F a=some o->F' a=some o)(hO:∀d,O d=some a->O' d=some a)(hm:Sub m m')(q:uE G F m O g a po)(k:∀b o,g.get? b=some o->b=a\/O b=some a->g'.get? b=some o)(f:F a=none->F' a=none):uE G F' m' O' g' a po:=by
 cases po with
 |lst ps=>obtain⟨z,its,n,e,l,r⟩:=q;exact⟨f z,its,n,k _ _ e (.inl rfl),l,r.mono hF (.inr hm)⟩
 |dct J0=>obtain⟨z,o,kvs,e,d,y,l,c,r⟩:=q;exact⟨f z,o,kvs,k _ _ e (.inl rfl),d,y,l,c,r.mono hF (.inr hm)⟩
 |E_ p=>obtain⟨r,z,o,e⟩:=q;exact⟨r.mono hF (.inr hm),z,o,hF _ _ e⟩
 |obj C ps=>obtain⟨z,Ca,dx,od,vs,c,e,d,e2,n,l,r⟩:=q;exact⟨f z,Ca,dx,od,vs,c,k _ _ e (.inl rfl),hO _ d,k _ _ e2 (.inr d),n,l,r.mono hF (.inr hm)⟩
theorem HR.on(H:HR G w h)(k:∀b o,w.s.heap.get? b=some o->¬ W3 w b->s'.heap.get? b=some o):HR G { w with s:=s' } h:=
 have f:∀{b o},w.F b=some o->¬ W3 w b:=fun e z=>by rw[z.2.1]at e;cases e
 have d:∀{b a},w.O b=some a->¬ W3 w b:=fun e z=>by rw[z.2.2]at e;cases e
 ⟨fun a o e=>k a o (H.sub a o e) (f e),fun b a e=>let⟨⟨o,q⟩,z⟩:=H.own b a e;⟨⟨o,k b o q (d e)⟩,z⟩,H.len,H.nd,fun i o a e1 e2=>(H.obj i o a e1 e2).on (fun _ _ e=>e) (fun _ e=>e) (fun _ _ e=>e) (fun b o e z=>k b o e (z.elim (fun z y=>y.1 (z▸adw e2)) d)) id⟩
end
set_option genInjectivity true in
structure Cx extends SC where
 A:Around
 N:Zl
 env:Env
 stack:List Env
 fn:Str->Bool
 calm:Bool
 tr:Bool
 Ep:Yf->Prop
variable{X:Cx}
abbrev Cx.L(X:Cx):Addr:=X.env.locals
noncomputable def frs(l:List Env):Zs:=l.filterMap (·.frame)
abbrev Cx.fs(X:Cx):Zs:=frs X.stack
abbrev Cx.M(X:Cx):Model:=model X.prog X.w
def Cx.W(X:Cx)(b:Addr):Prop:=b=X.L\/∃x,X.fn x=true/\X.env.cells.lookup x=some b
def WL:Addr->Prop:=fun _=>False
def Nw(X:Cx)(w w':Wo)(h:Y3):Prop:=M8 X.fs WL w w'/\HR X.toSC w' h
structure Wd(X:Cx)(w:Wo)(h:Y3):Prop extends HR X.toSC w h where
 ba:AllBare w.s.gens
 bs:∀b o,X.base.get? b=some o->w.F b=some o
 fr:∀b∈X.fs,∃o,Has w b o/\∀vs,o.data≠.fields vs
def zQ(env:Env)(g:Heap)(m:Str->Option Value)(x:Str)(u:Value):Prop:=
 (env.kindOf x=some .local/\m x=some u)\/((env.kindOf x=some .cell\/env.kindOf x=some .free)/\∃c,env.cells.lookup x=some c/\g.IsCell c (some u))
structure Cx.Ok(X:Cx):Prop where
 V8:X.K.In X.base
 gl:X.base.Ns mainGlobals X.mg
 bl:∃mb,X.base.Ns builtinsNs mb/\∀x:Str,x≠"__name__"->mb x=bootBuiltins x
 nl:X.base.NoLimit
 kind:X.env.scope.kind=.function
 glob:X.env.globals=mainGlobals
 blt:X.env.builtins=builtinsNs
 inj:∀x y c,X.env.cells.lookup x=some c->X.env.cells.lookup y=some c->x=y
 has:∀x,(X.env.kindOf x=some .cell\/X.env.kindOf x=some .free)->∃c,X.env.cells.lookup x=some c
 hd:X.calm=true->X.A.handled=none
 frames:X.A.frames=some X.stack
 nd:X.N.Nodup
 sf:∀env∈X.stack,env.scope.kind≠.module/\∃L,env.frame=some L/\X.base.get? L=none
structure Inv(X:Cx)(w:Wo)(ρ:Ev)(h:Y3):Prop extends Wd X w h where
 ok:X.Ok
 loc:∃m o,w.s.heap.Ns X.L m/\Has w X.L o/\∀(i:Nat)(p:PV),ρ[i]? =some (some p)->∃x u,X.N[i]? =some x/\aQ X.toSC w.F w.m p u/\zQ X.env w.s.heap m x u
 XS:∀x c,X.env.cells.lookup x=some c->∃v o,w.s.heap.IsCell c v/\Has w c o
 ln:ρ.length=X.N.length
section
variable{w:Wo}
theorem Nw.trans(x:Nw X w w1 h)(y:Nw X w1 w2 h1):Nw X w w2 h1:=⟨x.1.trans y.1,y.2⟩
def tG{g g':Heap}{m:Str->Option Value}(n:g.Ns a m)(k:∀o,g.get? a=some o->∃sl,g'.get? a=some { o with slots:=sl }):g'.Ns a m:=let⟨o,es,ep,e,r⟩:=n;let⟨sl,q⟩:=k o e;⟨_,es,ep,q,r⟩
def AP{g g':Heap}{v:Option Value}(n:g.IsCell a v)(k:∀o,g.get? a=some o->∃sl,g'.get? a=some { o with slots:=sl }):g'.IsCell a v:=let⟨o,e,d⟩:=n;let⟨sl,q⟩:=k o e;⟨_,q,d⟩
theorem M8.slots{W:Addr->Prop}{fs:Zs}(x:M8 fs W w w1)(q:Has w b o)(n:¬ W b):∀o,w.s.heap.get? b=some o->∃sl,w1.s.heap.get? b=some { o with slots:=sl }:=fun o' e=>by rw[q.1]at e;cases e;obtain⟨sl,z,_⟩:=x.keep b o q n;exact⟨sl,z.1⟩
theorem vA{g base:Heap}:∀{l:List Env},(∀env∈l,env.scope.kind≠.module/\∃L,env.frame=some L/\base.get? L=none)->(∀b∈frs l,∃o,g.get? b=some o/\∀vs,o.data≠.fields vs)->g.FunFrames base l
 |[],_,_=>trivial
 |env::r,h,k=>by
  obtain⟨a,L,b,c⟩:=h env (by simp);have e:frs (env::r)=L::frs r:=by simp[frs,b]
  rw[e]at k;obtain⟨o,q,d⟩:=k L (by simp);exact⟨a,⟨L,o,b,c,q,d⟩,vA (fun x hx=>h x (ac1 _ hx)) fun x hx=>k x (ac1 _ hx)⟩
def Wd.on{W:Addr->Prop}(I:Wd X w h)(x:M8 X.fs W w w1)(hw:∀b∈X.fs,W b->∃o,Has w1 b o/\∀vs,o.data≠.fields vs)(H:HR X.toSC w1 h1):Wd X w1 h1:=
 ⟨H,x.ba I.ba,fun b o e=>x.fz _ _ (I.bs b o e),fun b hb=>by
  by_cases z:W b
  .exact hw b hb z
  .obtain⟨o,q,d⟩:=I.fr b hb;obtain⟨sl,q',_⟩:=x.keep b o q z;exact⟨_,q',d⟩⟩
theorem Inv.on(I:Inv X w ρ h)(x:Nw X w w1 h1):Inv X w1 ρ h1:=by
 obtain⟨m,o,n,hl,q⟩:=I.loc;have nw:∀b,¬ WL b:=fun _ z=>z;have cl:∀x c,X.env.cells.lookup x=some c->∀v,w.s.heap.IsCell c v->w1.s.heap.IsCell c v:=fun y c e v z=>let⟨_,_,_,hc⟩:=I.XS y c e;AP z (x.1.slots hc (nw c));refine⟨I.toWd.on x.1 (fun _ _ z=>z.elim) x.2,I.ok,⟨m,?_⟩,fun y c e=>?_,I.ln⟩
 .obtain⟨sl,z,_⟩:=x.1.keep _ _ hl (nw _);refine⟨_,tG n (x.1.slots hl (nw _)),z,fun i p e=>?_⟩;obtain⟨y,u,e1,r,l⟩:=q i p e;exact⟨y,u,e1,x.1.rep r,l.imp_right (by rintro ⟨k,c,e,z⟩;exact ⟨k,c,e,cl y c e _ z⟩)⟩
 .obtain⟨v,o,z,hc⟩:=I.XS y c e;obtain⟨sl,q',_⟩:=x.1.keep _ _ hc (nw _);exact⟨v,_,cl y c e v z,q'⟩
def Wd.bk(I:Wd X w h)(e:X.base.get? b=some o):w.s.heap.get? b=some o:=I.toHR.at (I.bs b o e)
def Inv.U_(I:Inv X w ρ h):X.K.In w.s.heap:=I.ok.V8.keeps fun _ _ e=>I.bk e
end
def Fst(B:Heap)(l:List Env)(a:Addr)(cls a0:Value)(h:Heap):Prop:=B.StaysIn h/\B.get? a=none/\h.FunFrames B l/\∃o vs,h.get? a=some o/\o.cls=cls/\o.data=.fields vs/\vs[0]? =some a0/\vs[1]? =some .none
structure Fly(X:Cx)(w w':Wo)(a:Addr)(cls:Value)(dx:Option Addr):Prop where
 f:∃a0 B,(Heap.FlyingW B X.stack a cls a0 w'.s.heap\/X.tr=true/\Fst B X.stack a cls a0 w'.s.heap)/\(∀b o,w.s.heap.get? b=some o->b∉X.fs->∃o',B.get? b=some o')/\∀b,¬ W3 w' b->∃o',B.get? b=some o'
 d:∃o,w'.s.heap.get? a=some o/\o.dict=dx
def XV(G:SC)(F:Fz)(m:Zs)(cls:Value)(dx:Option Addr):PV->Prop
 |.cls C=>∃Ca,G.T C=some Ca/\cls=.ref Ca/\dx=none
 |.Wn C v=>∃Ca d od fs y,G.T C=some Ca/\cls=.ref Ca/\dx=some d/\F d=some od/\NsO od fs/\fs.lookup (xnm C)=some y/\aQ G F m v y
 |_=>False
def pP(X:Cx)(w w':Wo)(e:PV)(u:Value):Prop:=∃a cls dx,u=.ref a/\Fly X w w' a cls dx/\XV X.toSC w'.F w'.m cls dx e
theorem pP.to{w w3:Wo}{e:PV}(r:pP X w w2 e u)(pu:e.pure=true)(hF:w3.F=w2.F)(hs:w3.s=w2.s)(h0:w0.s=w.s)(k:∀b,¬ W3 w3 b->¬ W3 w2 b\/(∃o,w.s.heap.get? b=some o)/\b∉X.fs):pP X w0 w3 e u:=by
 obtain⟨a,cls,dx,rfl,⟨⟨a0,B,f,c1,c2⟩,d⟩,m⟩:=r;refine⟨a,cls,dx,rfl,⟨⟨a0,B,hs▸f,h0▸c1,fun b z=>(k b z).elim (c2 b) (by rintro ⟨⟨o,q⟩,n⟩;exact c1 b o q n)⟩,hs▸d⟩,?_⟩;rw[hF]
 cases e with
 |Wn C v=>obtain⟨Ca,d,od,fs,y,a,b,c,d',e,f,g⟩:=m;exact⟨Ca,d,od,fs,y,a,b,c,d',e,f,g.mono (fun _ _ e=>e) (.inl (by simpa[PV.pure]using pu))⟩
 |_=>exact m
abbrev RV(G:SC)(w:Wo):PV->Value->Prop:=aQ G w.F w.m
abbrev RVs(G:SC)(w:Wo):Y2->Z3->Prop:=ay G w.F w.m
def bG{α β:Type}(X:Cx)(R:Wo->α->β->Prop)(w:Wo)(Q:β->Shared->Prop)(E:Yf):Res α->Prop
 |.ok a h=>X.Ep E/\∀w' x,Nw X w w' h->R w' a x->Q x w'.s
 |.exc e h=>X.Ep E/\∀w' u,Nw X w w' h->pP X w w' e u->E u w'.s
 |.bad=>False
abbrev Wp(X:Cx){β:Type}(t:Sem β)(Q:β->Shared->Prop)(E:Yf)(s:Shared):Prop:=wpAny (model X.prog X.w) X.A t Q E s
structure RE(X:Cx)(e:Expr)(f:Ex):Prop where
 r:∀{w:Wo}{ρ:Ev}{h:Y3}{Q:Yf}{E:Yf},Inv X w ρ h->bG X (RV X.toSC) w Q E (f ρ h)->Wp X (eval e X.env) Q E w.s
structure RT(X:Cx)(e:Expr)(f:Tx):Prop where
 r:∀{w:Wo}{ρ:Ev}{h:Y3}{Q:Bool->Shared->Prop}{E:Yf},Inv X w ρ h->bG X (fun _ a b=>a=b) w Q E (f ρ h)->Wp X (isTrue e X.env (eval e X.env)) Q E w.s
structure RA(X:Cx)(es:List Expr)(f:Ax):Prop where
 r:∀{w:Wo}{ρ:Ev}{h:Y3}{Q:Z3->Shared->Prop}{E:Yf}(pos:Pos),Inv X w ρ h->bG X (RVs X.toSC) w Q E (f ρ h)->Wp X (spliced (backTo pos (starEach es X.env))) Q E w.s
section
variable{w:Wo}{β γ δ:Type}{R:Wo->α->β->Prop}{R':Wo->γ->δ->Prop}
def Fly.back{cls:Value}{dx:Option Addr}{w':Wo}{W:Addr->Prop}{fs:Zs}(f:Fly X w1 w' a cls dx)(x:M8 fs W w w1):Fly X w w' a cls dx:=
 let⟨a0,B,y,c,d⟩:=f.f;⟨⟨a0,B,y,fun b o e n=>let⟨o',q⟩:=x.dom b o e;c b o' q n,d⟩,f.d⟩
theorem pP.back{w':Wo}{e:PV}{u:Value}{W:Addr->Prop}{fs:Zs}(r:pP X w1 w' e u)(x:M8 fs W w w1):pP X w w' e u:=let⟨a,c,d,e,f,r⟩:=r;⟨a,c,d,e,f.back x,r⟩
theorem bG.ep{Q:β->Shared->Prop}{r:Res α}(p:bG X R w Q E r):X.Ep E:=match r with
 |.ok _ _=>p.1
 |.exc _ _=>p.1
 |.bad=>p.elim
theorem bG.step{Q:β->Shared->Prop}{r:Res α}(p:bG X R w Q E r)(x:Nw X w w1 h1):bG X R w1 Q E r:=match r with
 |.ok _ _=>⟨p.1,fun w' u y=>p.2 w' u (x.trans y)⟩
 |.exc _ _=>⟨p.1,fun w' u y r=>p.2 w' u (x.trans y) (r.back x.1)⟩
 |.bad=>p
theorem bG.aar{Q:δ->Shared->Prop}{G:β->Shared->Prop}{r:Res α}{k:α->Y3->Res γ}(p:bG X R' w Q E (r.bind k))(c:∀w1 h1 a x,Nw X w w1 h1->R w1 a x->bG X R' w Q E (k a h1)->G x w1.s):bG X R w G E r:=match r with
 |.ok a h=>⟨p.ep,fun w' x y q=>c w' h a x y q p⟩
 |.exc _ _=>p
 |.bad=>p
theorem bG.bind{Q:δ->Shared->Prop}{G:β->Shared->Prop}{r:Res α}{k:α->Y3->Res γ}(p:bG X R' w Q E (r.bind k))(c:∀w1 h1 a x,Nw X w w1 h1->R w1 a x->bG X R' w1 Q E (k a h1)->G x w1.s):bG X R w G E r:=p.aar fun w1 h1 a x y q p=>c w1 h1 a x y q (p.step y)
def bG.now{Q:β->Shared->Prop}{a:α}{x:β}{t:Nat}(p:bG X R w Q E (.ok a h))(H:HR X.toSC w h)(r:R { w with s:={ w.s with toks:=t } } a x):Q x { w.s with toks:=t }:=
 p.2 { w with s:={ w.s with toks:=t } } x ⟨⟨rfl,id,fun _ _ e=>e,fun _ _ e=>e,⟨[],by simp⟩,fun _ o e=>⟨o,e⟩,fun _ o q _=>⟨o.slots,q,.inr rfl⟩⟩,H.on fun _ _ e _=>e⟩ r
def bG.here{Q:β->Shared->Prop}{a:α}{x:β}(p:bG X R w Q E (.ok a h))(H:HR X.toSC w h)(r:R w a x):Q x w.s:=p.2 w x ⟨.refl,H⟩ r
end
noncomputable def iD(F:Fz)(a:Addr)(o:Obj):Fz:=fun b=>if b=a then some o else F b
def bv{F:Fz}:iD F a o a=some o:=if_pos rfl
def mO{F:Fz}(n:b≠a):iD F a o b=F b:=if_neg n
def dI{F:Fz}(n:b≠a)(e:F b=none):iD F a o b=none:=(mO n).trans e
def dw{F:Fz}(n:F a=none)(b:Addr)(x:Obj)(q:F b=some x):iD F a o b=some x:=by rw[mO];exact q;rintro rfl;rw[n]at q;cases q
def Nw.lay{w:Wo}(H:HR X.toSC w h)(n:w.s.heap.get? a=none)(k:∀b o,w.s.heap.get? b=some o->s'.heap.get? b=some o)(e:s'.heap.get? a=some o)(ho:(s'.os=w.s.os)\1)(hg:(s'.gens=w.s.gens)\1):Nw X w ⟨iD w.F a o,w.O,w.m,s'⟩ h:=by
 obtain⟨z1,z2,z3⟩:=H.free n;have ne:∀{b o},w.s.heap.get? b=some o->b≠a:=fun q z=>by rw[z,n]at q;cases q
 refine⟨⟨ho,fun q=>hg▸q,dw z2,fun _ _ e=>e,⟨[],by simp⟩,fun b o e=>⟨o,k b o e⟩,fun b ob q _=>⟨ob.slots,⟨k b ob q.1,q.2.1,dI (ne q.1) q.2.2.1,q.2.2.2⟩,.inr rfl⟩⟩,fun b x q=>?_,fun b a q=>let⟨⟨o,e⟩,z⟩:=H.own b a q;⟨⟨o,k b o e⟩,z.1,dI (ne e) z.2⟩,H.len,H.nd,fun i ob b e1 e2=>(H.obj i ob b e1 e2).on (dw z2) (fun _ e=>e) (fun _ _ e=>e) (fun b o e _=>k b o e) (dI fun z=>z1 (z▸adw e2))⟩
 by_cases z:b=a
 .subst z;cases bv.symm.trans q;exact e
 .exact k b x (H.sub b x ((mO z).symm.trans q))
noncomputable def aj(h:Y3):PV->PV
 |.ref i=>match h[i]? with
  |some (.E_ q)=>q
  |_=>.ref i
 |p=>p
noncomputable def ag(i:Nat):Ex:=fun ρ h=>match ρ[i]? with
 |some (some p)=>.ok (aj h p) h
 |_=>.bad
noncomputable def cK(v:PV):Ex:=fun _ h=>.ok v h
def c1(g:PV->Y3->Res PV)(a:Ex):Ex:=fun ρ h=>(a ρ h).bind g
def c2(g:PV->PV->Y3->Res PV)(a b:Ex):Ex:=fun ρ h=>(a ρ h).bind fun x h1=>(b ρ h1).bind fun y h2=>g x y h2
def cN(g:Y2->Y3->Res PV)(a:Ax):Ex:=fun ρ h=>(a ρ h).bind g
noncomputable def ah:Ax:=fun _ h=>.ok [] h
def af(a:Ex)(r:Ax):Ax:=fun ρ h=>(a ρ h).bind fun x h1=>(r ρ h1).bind fun xs h2=>.ok (x::xs) h2
section
variable{w:Wo}{a b:Expr}{fb:Ex}{ta tb:Tx}
def HR.Wq(H:HR G w h)(r:aQ G w.F w.m p v):aQ G w.F w.m (aj h p) v:=by
 unfold aj
 split
 .cases r with
  |ref e=>
   split
   .rename_i q;exact(H.obj _ _ _ q e).1
   .exact .ref e
 .exact r
abbrev sE0(X:Cx)(e:Expr)(es:List Expr):Prop:=starEach (e::es) X.env=(false,eval e X.env)::starEach es X.env
abbrev sP0(X:Cx)(es:List Expr)(pos:Pos):Prop:=(backTo pos (starEach es X.env)).any (·.1)=false
abbrev nD0(x:Str):Prop:=(x==("__debug__":Str))=false
def zQ.nm{m:Str->Option Value}{s:Shared}(l:zQ X.env s.heap m x u)(n:s.heap.Ns X.L m)(ok:X.Ok)(z:Q u s)(hd:(x==("__debug__":Str))=false)(Zz:(x==("__classdict__":Str))=false):Wp X (eval (.Name x pos) X.env) Q E s:=by
 rcases l with⟨k,e⟩|⟨k|k,c,e,q⟩
 .exact aiv (wpAny_loadName_local ok.kind k n e z) hd
 .exact aiv (wpAny_loadName_cell ok.kind k e q z) hd
 .exact aiv (wpAny_loadName_free ok.kind k e q z Zz) hd
def rv(i:Nat)(hN:(X.N[i]? =some x)\1)(hd:nD0 x\2)(Zz:((x==("__classdict__":Str))=false)\2):RE X (.Name x pos) (ag i) where
 r I p:=by
  unfold ag at p
  split at p
  .rename_i q;obtain⟨m,_,n,_,l⟩:=I.loc;obtain⟨y,u,e,r,l⟩:=l i _ q
   cases hN.symm.trans e
   exact l.nm n I.ok (p.here I.toHR (I.Wq r)) hd Zz
  .exact p.elim
def Lj{j}:RE X (.Constant (.int i) j pos) (cK (.int i)):=⟨fun I p=>wpAny_Constant_int (p.now I.toHR (.int i _))⟩
def NC{b:Bool}{j}:RE X (.Constant (.bool b) j pos) (cK (.bl b)):=⟨fun I p=>Constant_bool (p.here I.toHR (.bl b))⟩
def Ld{j}:RE X (.Constant .none j pos) (cK .non):=⟨fun I p=>Constant_none (p.here I.toHR .non)⟩
def La(l:Y1){j}(e:(x=S l)\1):RE X (.Constant (.str x) j pos) (cK (.str l)):=⟨fun I p=>Calls.Constant_str (p.now I.toHR (e▸.str l _))⟩
def Wr(X:Cx)(op:Value->Value->Sem Value)(g:PV->PV->Y3->Res PV):Prop:=
 ∀{w h p q u v Q E},Wd X w h->aQ X.toSC w.F w.m p u->aQ X.toSC w.F w.m q v->bG X (RV X.toSC) w Q E (g p q h)->Wp X (op u v) Q E w.s
def Op1(X:Cx)(op:Value->Sem Value)(g:PV->Y3->Res PV):Prop:=
 ∀{w h p u Q E},Wd X w h->aQ X.toSC w.F w.m p u->bG X (RV X.toSC) w Q E (g p h)->Wp X (op u) Q E w.s
def OpN(X:Cx)(op:Z3->Sem Value)(g:Y2->Y3->Res PV):Prop:=
 ∀{w h p u Q E},Wd X w h->ay X.toSC w.F w.m p u->bG X (RV X.toSC) w Q E (g p h)->Wp X (op u) Q E w.s
def two{op:Value->Value->Sem Value}(o:Wr X op g)(ha:RE X a fa)(hb:RE X b fb)(I:Inv X w ρ h)(p:bG X (RV X.toSC) w Q E (c2 g fa fb ρ h)):
  Wp X (eval a X.env) (fun v s=>Wp X (eval b X.env) (fun u s=>Wp X (op v u) Q E s) E s) E w.s:=
 ha.r I (p.bind fun _ _ _ _ y r p=>hb.r (I.on y) (p.bind fun _ _ _ _ z r' p=>o ((I.on y).on z).toWd (z.1.rep r) r' p))
def yw{op:Operator}(o:Wr X (binaryOp op) g)(ha:RE X a fa)(hb:RE X b fb):RE X (.BinOp a op b pos) (c2 g fa fb):=⟨fun I p=>wpAny_BinOp (two o ha hb I p)⟩
def Ny{op:UnaryOp}{g:PV->Y3->Res PV}(o:Op1 X (unaryOp op) g)(ha:RE X a fa):RE X (.UnaryOp op a pos) (c1 g fa):=⟨fun I p=>UnaryOp_ (ha.r I (p.bind fun _ _ _ _ y r p=>o (I.on y).toWd r p))⟩
def nL(o:Wr X (compareOp op) g)(hm:behindInMarks op b=false)(ha:RE X a fa)(hb:RE X b fb):RE X (.Compare a [op] [b] pos) (c2 g fa fb):=⟨fun I p=>wpAny_Compare1 (two o ha hb I p) hm⟩
def Aj:RA X [] ah:=⟨fun _ I p=>af5 (p.here I.toHR .nil)⟩
def rZ{e:Expr}{f:Ex}{fs:Ax}(ha:RE X e f)(hr:RA X es fs)(hs:sE0 X e es\1):RA X (e::es) (af f fs):=⟨fun pos I p=>by rw[hs];exact afT (ha.r I (p.bind fun _ _ _ _ y r p=>hr.r pos (I.on y) (p.bind fun _ _ _ _ z r' p=>p.here z.2 (.cons (z.1.rep r) r'))))⟩
end
noncomputable def Yx(h:Y3):PV->Option Y2
 |.lst xs=>some xs
 |.ref i=>match h[i]? with
  |some (.lst xs)=>some xs
  |_=>none
 |_=>none
noncomputable def W9(h:Y3):PV->Option Y2
 |.VB xs=>some xs
 |p=>Yx h p
noncomputable def Ye(h:Y3):PV->Option (List (PK×PV))
 |.dct kvs=>some kvs
 |.ref i=>match h[i]? with
  |some (.dct kvs)=>some kvs
  |_=>none
 |_=>none
noncomputable def WQ(h:Y3):PV->Option Y2
 |.tup xs=>some xs
 |p=>W9 h p
def SqA(g:Heap)(t:String)(a:Addr)(its:Array Value):Prop:=∃n,g.get? a=some { cls:=.type t,data:=.seq its n }
def SqA.tup{g:Heap}(x:SqA g "tuple" a its):IsTup g a its:=let⟨n,e⟩:=x;⟨_,e,rfl,n,rfl⟩
def SqA.pl{g:Heap}(x:SqA g "list" a its):PlainL g a its:=let⟨n,e⟩:=x;⟨_,n,e,rfl,rfl,rfl⟩
noncomputable def sqH(h:Y3):PV->Option (String×Y2)
 |.ref i=>match h[i]? with
  |some (.lst xs)=>some ("list",xs)
  |_=>none
 |p=>sqT p
section
variable{w:Wo}
inductive Sq0(G:SC)(w:Wo)(u:Value)(t:String)(ps:Y2):Prop where
 |mk (a:Addr) (its:Array Value) (_:u=.ref a) (_:SqA w.s.heap t a its) (_:its.size<=sizeLine) (_:ay G w.F w.m ps its.toList)
def HR.sq(H:HR G w h)(r:aQ G w.F w.m p u)(k:sqH h p=some (t,ps)):Sq0 G w u t ps:=by
 unfold sqH at k
 split at k
 .split at k
  .rename_i q
   cases k
   cases r with
   |ref e=>obtain⟨_,its,n,e,z,r⟩:=H.obj _ _ _ q e;exact⟨_,its,rfl,⟨n,e⟩,z,r⟩
  .cases k
 .cases r with
  |tup e z r=>cases k;exact⟨_,_,rfl,⟨_,H.at e⟩,z,r⟩
  |lst e z r=>cases k;exact⟨_,_,rfl,⟨_,H.at e⟩,z,r⟩
  |VB e z r=>cases k;exact⟨_,_,rfl,⟨_,H.at e⟩,z,r⟩
  |_=>cases k
def xd(k:Yx h p=some ps):sqH h p=some ("list",ps):=by
 unfold Yx at k
 split at k
 .cases k;rfl
 .unfold sqH
  split at k
  .rename_i q;cases k;simp only[q]
  .cases k
 .cases k
def gS(k:W9 h p=some ps):sqH h p=some ("list",ps):=by
 unfold W9 at k
 split at k
 .cases k;rfl
 .exact xd k
def zZ(k:WQ h p=some ps):∃t,sqH h p=some (t,ps)/\(t="tuple"\/t="list"):=by
 unfold WQ at k
 split at k
 .cases k;exact⟨_,rfl,.inl rfl⟩
 .exact⟨_,gS k,.inr rfl⟩
theorem ay.length{F:Fz}{m:Zs}{ps:Y2}{vs:Z3}(r:ay G F m ps vs):ps.length=vs.length:=ay.ind (P:=fun p v=>p.length=v.length) rfl (fun _ _ i=>congrArg (· +1) i) r
def ay.app{F:Fz}{qs:Y2}{vs:Z3}(r:ay G F m ps vs)(s:ay G F m qs us):ay G F m (ps++qs) (vs++us):=ay.ind (P:=fun p v=>ay G F m (p++qs) (v++us)) s (fun r _ i=>.cons r i) r
theorem ay.get{F:Fz}{vs:Z3}{i:Nat}(r:ay G F m ps vs):ps[i]? =some p->∃v,vs[i]? =some v/\aQ G F m p v:=ay.ind (P:=fun ps vs=>∀i:Nat,ps[i]? =some p->∃v,vs[i]? =some v/\aQ G F m p v) nofun (fun r _ k i e=>by
 cases i with
 |zero=>cases e;exact⟨_,rfl,r⟩
 |succ i=>exact k i e) r i
theorem ay.td{F:Fz}{m:Zs}:∀{ps:Y2}{vs:Z3}(n:Nat),ay G F m ps vs->ay G F m (ps.take n) (vs.take n)/\ay G F m (ps.drop n) (vs.drop n)
 |_,_,0,r=>⟨.nil,r⟩
 |_,_,_+1,.nil=>⟨.nil,.nil⟩
 |_,_,n+1,.cons r t=>⟨.cons r (ay.td n t).1,(ay.td n t).2⟩
theorem ay.rep{F:Fz}{m:Zs}{vs:Z3}(r:ay G F m ps vs):∀n:Nat,ay G F m (List.replicate n ps).flatten (List.replicate n vs).flatten
 |0=>.nil
 |n+1=>by rw[aeE,aeE,aeC,aeC];exact r.app (r.rep n)
def ay.len{F:Fz}(r:ay G F m ps its.toList):ps.length=its.size:=r.length
end
section
variable{w:Wo}{pv:PV}{tk:Nat}
theorem bG.seq(p:bG X (RV X.toSC) w Q E (.ok pv h))(H:HR X.toSC w h)(k:sqT pv=some (t,ps))(r:ay X.toSC w.F w.m ps its.toList)(z:its.size<=sizeLine):Q (.ref w.s.heap.objs.size) { w.s with heap:=w.s.heap.push { cls:=.type t,data:=.seq its n },toks:=tk }:=
 have y:=Nw.lay (X:=X) (s':={ w.s with heap:=w.s.heap.push { cls:=.type t,data:=.seq its n },toks:=tk }) H (aW _) (fun _ _ e=>ada _ e) (ado _ rfl)
 p.2 _ _ y (.sq k bv z (y.1.reps r))
def Nw.mk{po:PO}(H:HR X.toSC w h)(n:w.s.heap.get? a=none)(k:∀b o,w.s.heap.get? b=some o->s'.heap.get? b=some o)(q:uE X.toSC w.F (w.m++ [a]) O s'.heap a po)(hO:∀d b,w.O d=some b->O d=some b)(hn:∀d b,O d=some b->w.O d=some b\/w.s.heap.get? d=none/\d≠a/\∃o,s'.heap.get? d=some o)(ho:(s'.os=w.s.os)\1)(hg:(s'.gens=w.s.gens)\1):Nw X w ⟨w.F,O,w.m++ [a],s'⟩ (h++ [po]):=by
 obtain⟨z1,z2⟩:=H.free n;have sb:Sub w.m (w.m++ [a]):=fun i b e=>by rw[ady (ac9.mp e).1];exact e
 refine⟨⟨ho,fun q=>hg▸q,fun _ _ e=>e,hO,⟨_,rfl⟩,fun b o e=>⟨o,k b o e⟩,fun b ob q _=>⟨ob.slots,⟨k b ob q.1,fun z=>?_,q.2.2.1,?_⟩,.inr rfl⟩⟩,fun b x q=>k b x (H.sub b x q),fun d b q=>?_,by simp[H.len],ae6.mpr ⟨H.nd,by simp,fun x hx y hy z=>z1 (by simp at hy;rw[<- hy,<- z];exact hx)⟩,fun i ob b e1 e2=>?_⟩
 .rcases adv.mp z with z|z
  .exact q.2.1 z
  .have q:=q.1;simp at z;rw[z,n]at q;cases q
 .cases e:O b with
  |none=>exact e
  |some d=>
   rcases hn b d e with z|⟨z,_⟩
   .rw[q.2.2.2]at z;cases z
   .have q:=q.1;rw[z]at q;cases q
 .rcases hn d b q with z|⟨z,y,x⟩
  .obtain⟨⟨o,e⟩,z,y⟩:=H.own d b z;exact⟨⟨o,k d o e⟩,fun q=>(adv.mp q).elim z fun q=>(by simp at q;rw[q,n]at e;cases e),y⟩
  .exact⟨x,fun q=>(adv.mp q).elim (H.free z).1 fun q=>y (by simpa using q),(H.free z).2.1⟩
 .rcases aeJ i h.length with l|l
  .rw[ady l]at e1;rw[ady (H.len▸l)]at e2;exact(H.obj i ob b e1 e2).on (fun _ _ e=>e) (fun d=>hO d b) sb (fun b o e _=>k b o e) id
  .rw[adI l]at e1;rw[adI (H.len▸l),<- H.len]at e2
   cases e:i - h.length with
   |zero=>rw[e]at e1 e2;cases e1;cases e2;exact q
   |succ _=>rw[e]at e1;simp at e1
def bG.lm(p:bG X (RV X.toSC) w Q E (.ok (.ref h.length) (h++ [.lst ps])))(H:HR X.toSC w h)(r:ay X.toSC w.F w.m ps its.toList)(z:its.size<=sizeLine):Q (.ref w.s.heap.objs.size) { w.s with heap:=w.s.heap.push { cls:=.type "list",data:=.seq its n },toks:=tk }:=
 p.2 _ _ (Nw.mk (s':={ w.s with heap:=w.s.heap.push { cls:=.type "list",data:=.seq its n },toks:=tk }) H (aW _) (fun _ _ e=>ada _ e) ⟨(H.free (aW _)).2.1,its,n,ado _ rfl,z,r.mono (fun _ _ e=>e) (.inr fun i b e=>by rw[ady (ac9.mp e).1];exact e)⟩ (fun _ _ e=>e) fun _ _ e=>.inl e) (.ref (by rw[H.len];simp))
end
section
variable{w:World}{s:Shared}
def aal{t:Addr}{vs ws:Z3}(ht:IsTup s.heap t vs.toArray)(hb:IsTup s.heap b ws.toArray)(hv:vs≠ [])
  (h1:ws= []->Q (.ref t) s) (h2:ws≠ []->Q (.ref s.heap.objs.size) { s with heap:=s.heap.push { cls:=.type "tuple",data:=.seq (vs++ws).toArray } })
  (hsz:vs.length+ws.length<=sizeLine):wpAny (model prog w) A (binaryOp .Add (.ref t) (.ref b)) Q E s:=by
 obtain⟨⟨cls,dd,data,sl⟩,ho,hc,n,hd⟩:=id ht;obtain⟨⟨ahg,dd2,data2,sl2⟩,Uz,hc2,n2,hd2⟩:=id hb;simp only at hc hd hc2 hd2;subst hc hd hc2 hd2;have e:vs.toArray++ws.toArray=(vs++ws).toArray:=by simp
 by_cases hw:ws= []
 .exact ah3 ⟨_,ho,rfl⟩ ⟨_,Uz,rfl⟩ agX ahO ahb ag1 (agW _ _)
   (tuple_addW1 t b vs.toArray ws.toArray n n2 dd dd2 sl sl2 (by simpa using hv) (by simp[hw])) ⟨ho,Uz,h1 hw⟩
 .refine ah3 ⟨_,ho,rfl⟩ ⟨_,Uz,rfl⟩ agX ahO ahb ag1 (agW _ _)
   (tuple_addW2 t b vs.toArray ws.toArray n n2 dd dd2 sl sl2 (by simpa using hv) (by simpa using hw) (by rw[aen,aen];exact hsz)) ⟨ho,Uz,?_⟩
  rw[e];exact h2 hw
noncomputable def J8(n d:Nat):Zp->Nat
 |none=>d
 |some v=>if v<0 then(v+(n:Int)).toNat else min v.toNat n
theorem Q9(n d:Nat):J8 n d none=d:=rfl
def Tt(n d k:Nat):J8 n d (some (k:Int))=min k n:=by show(if(k:Int)<0 then((k:Int)+(n:Int)).toNat else min (k:Int).toNat n)=min k n;rw[if_neg ⋯,aeo]
theorem XH(n d:Nat)(hd:d<=n)(o:Zp):J8 n d o<=n:=by
 cases o with
 |none=>exact hd
 |some v=>
  show(if v<0 then(v+(n:Int)).toNat else min v.toNat n)<=n
  by_cases hv:v<0
  .rw[if_pos hv];lia
  .rw[if_neg hv];exact aif _ _
def Cu(v:Int)(n d:Nat):(if v<0 then max (v+(n:Int)) 0 else min v (n:Int))=((J8 n d (some v):Nat):Int):=by
 show(if v<0 then max (v+(n:Int)) 0 else min v (n:Int))=(((if v<0 then(v+(n:Int)).toNat else min v.toNat n):Nat):Int)
 by_cases hv:v<0
 .simp only[if_pos hv];lia
 .simp only[if_neg hv];lia
def AW(lo hi:Zp)(n:Nat):Builtin.Slice.sliceAdjust lo hi 1 (n:Int)=(((J8 n 0 lo:Nat):Int),((J8 n n hi:Nat):Int)):=by
 have h1:¬ ((1:Int)<0):=by lia
 unfold Builtin.Slice.sliceAdjust;simp only[h1,if_false];refine Prod.ext ?_ ?_
 .cases lo with
  |none=>rfl
  |some v=>exact Cu v n 0
 .cases hi with
  |none=>rfl
  |some v=>exact Cu v n n
def Am(i j:Nat):Builtin.Slice.slicePlaces (i:Int) (j:Int) 1=j - i:=by
 unfold Builtin.Slice.slicePlaces;have h1:(1:Int)>0:=by lia
 simp only[h1,if_true,Int.ediv_one]
 split<;>lia
theorem sS{o:Zp}{Q:Zp->Shared->Prop}(p:IsPart v o)(h:Q o s):wpAny (model prog w) A (Builtin.Slice.slicePartIndex v) Q E s:=by
 cases p with
 |none=>exact slicePart_none h
 |int i t=>exact slicePart_int h
def jK{sl:Addr}{vl vu:Value}{lo hi:Zp}{Q:Int×Int×Nat->Shared->Prop}(hs:s.heap.IsSliceOf sl vl vu .none)(pl:IsPart vl lo)(pu:IsPart vu hi)
  (h:Q (((J8 n 0 lo:Nat):Int),1,J8 n n hi - J8 n 0 lo) s):wpAny (model prog w) A (Builtin.Slice.sliceApplied (.ref sl) (pure (n:Int))) Q E s:=by
 obtain⟨os,hos,hcs,hds⟩:=id hs;unfold Builtin.Slice.sliceApplied Builtin.Slice.sliceFields;refine ac0 (ac0 (adW hos hds (x:=vl) rfl (ac0 (adW hos hds (x:=vu) rfl (ac0 (adW hos hds (x:=.none) rfl (adf ?_)))))));refine ac0 (slicePart_none ?_);show wpAny _ _ (if((1:Int)==0)=true then _ else _) _ _ s;rw[if_neg ⋯];refine ac0 (sS pl (ac0 (sS pu (ac0 (adf ?_)))));show wpAny _ _ (match Builtin.Slice.sliceAdjust lo hi 1 (n:Int)with|(lo,hi)=>pure (lo,(1:Int),Builtin.Slice.slicePlaces lo hi 1)) _ _ s;rw[AW lo hi n];show wpAny _ _ (pure (((J8 n 0 lo:Nat):Int),(1:Int),Builtin.Slice.slicePlaces ((J8 n 0 lo:Nat):Int) ((J8 n n hi:Nat):Int) 1)) _ _ s;rw[Am];exact adf h
def Fo(xs:Array Value)(i k:Nat):((List.range k).filterMap fun(m:Nat)=>xs[((i:Int)+(m:Int) * 1).toNat]?).toArray=((xs.toList.drop i).take k).toArray:=by
 have e:(fun(m:Nat)=>xs[((i:Int)+(m:Int) * 1).toNat]?)=fun m=>xs[i+m]? :=by
  funext m
  have:((i:Int)+(m:Int) * 1).toNat=i+m:=by lia
  rw[this]
 rw[e];have:=pick_run xs i k;rw[List.filterMap_map]at this;have e2:((fun x=>xs[x]?)∘fun x=>i+x)=fun m=>xs[i+m]? :=rfl;rw[e2]at this;rw[this]
def Va{t sl:Addr}{vl vu:Value}{lo hi:Zp}(ht:IsTup s.heap t items)(hs:s.heap.IsSliceOf sl vl vu .none)(pl:IsPart vl lo)(pu:IsPart vu hi)
  (hw:¬ (J8 items.size 0 lo=0/\J8 items.size items.size hi=items.size))
  (h:Q (.ref s.heap.objs.size) { s with heap:=s.heap.push { cls:=.type "tuple",data:=.seq ((items.toList.drop (J8 items.size 0 lo)).take (J8 items.size items.size hi - J8 items.size 0 lo)).toArray } })
  (hsz:items.size<=sizeLine):wpAny (model prog w) A (getItem (.ref t) (.ref sl)) Q E s:=by
 have Yc:sizeOk (.seq ((items.toList.drop (J8 items.size 0 lo)).take (J8 items.size items.size hi - J8 items.size 0 lo)).toArray):=by
  show((items.toList.drop (J8 items.size 0 lo)).take (J8 items.size items.size hi - J8 items.size 0 lo)).toArray.size<=sizeLine;rw[aen,adU,adS,Array.length_toList]
  lia
 have hj:J8 items.size items.size hi<=items.size:=XH _ _ (adK _) hi;obtain⟨os,hos,hcs,hds⟩:=id hs;have hTs:s.TypeIs (.ref sl) "slice":=⟨os,hos,hcs⟩
 unfold getItem
 try with_reducible refine aes ?_
 first|refine ac0 (adf ?_)|skip
 refine ac0 (ahZ ht.typeIs ⋯ ?_)
 refine ac0 (aef (name:=Str.ofString "__getitem__") ht.typeIs aeG
  (aeU aeG ht.typeIs ahG ?_ (ahV _ _)))
 show wpAny _ _ (Builtin.Tuple.tupleItemsOf (.ref t) >>= _) _ _ s;refine ac0 (tupleItemsOf_ ht ?_);refine ac0 (afX hTs ?_);rw[if_pos ⋯];refine ac0 (jK hs pl pu ?_)
 have hno:¬ ((((J8 items.size 0 lo:Nat):Int)==0&&(1:Int)==1&&(J8 items.size items.size hi - J8 items.size 0 lo)==items.size)=true):=by intro q;rw[ac7,ac7]at q;have q1:((J8 items.size 0 lo:Nat):Int)=0:=agY q.1.1;have q2:J8 items.size items.size hi - J8 items.size 0 lo=items.size:=agY q.2;exact hw ⟨by lia,by lia⟩
 show wpAny _ _ (if(((J8 items.size 0 lo:Nat):Int)==0&&(1:Int)==1&&(J8 items.size items.size hi - J8 items.size 0 lo)==items.size)=true then _ else _) _ _ s;rw[if_neg hno,Fo]
 first
  |exact ac0 (m:=Builtin.Tuple.tupleExact _) (aeB (adf ⟨_,rfl,adf h⟩) Yc)
  |exact ac0 (m:=Builtin.Tuple.tupleExact _) (aeB (ac0 (adf (adf ⟨_,rfl,adf h⟩))) Yc)
  |exact ac0 (ac0 (m:=Builtin.Tuple.tupleExact _) (aeB (adf (adf ⟨_,rfl,adf h⟩)) Yc))
  |exact ac0 (ac0 (m:=Builtin.Tuple.tupleExact _) (aeB (adf ⟨_,rfl,adf h⟩) Yc))
def Vb{t sl:Addr}{vl vu:Value}{lo hi:Zp}(ht:IsTup s.heap t items)(hs:s.heap.IsSliceOf sl vl vu .none)(pl:IsPart vl lo)(pu:IsPart vu hi)
  (hw:J8 items.size 0 lo=0/\J8 items.size items.size hi=items.size) (h:Q (.ref t) s):wpAny (model prog w) A (getItem (.ref t) (.ref sl)) Q E s:=by
 obtain⟨os,hos,hcs,hds⟩:=id hs;have hTs:s.TypeIs (.ref sl) "slice":=⟨os,hos,hcs⟩
 unfold getItem
 try with_reducible refine aes ?_
 first|refine ac0 (adf ?_)|skip
 refine ac0 (ahZ ht.typeIs ⋯ ?_)
 refine ac0 (aef (name:=Str.ofString "__getitem__") ht.typeIs aeG
  (aeU aeG ht.typeIs ahG ?_ (ahV _ _)))
 show wpAny _ _ (Builtin.Tuple.tupleItemsOf (.ref t) >>= _) _ _ s;refine ac0 (tupleItemsOf_ ht ?_);refine ac0 (afX hTs ?_);rw[if_pos ⋯];refine ac0 (jK hs pl pu ?_)
 have yes:(((J8 items.size 0 lo:Nat):Int)==0&&(1:Int)==1&&(J8 items.size items.size hi - J8 items.size 0 lo)==items.size)=true:=by rw[hw.1,hw.2];simp
 show wpAny _ _ (if(((J8 items.size 0 lo:Nat):Int)==0&&(1:Int)==1&&(J8 items.size items.size hi - J8 items.size 0 lo)==items.size)=true then _ else _) _ _ s;rw[if_pos yes];obtain⟨⟨ct,dt,da,sl'⟩,hot,hct,n,hdt⟩:=id ht
 cases(show ct=Value.type "tuple" from hct)
 wp_walk using afd hot
 exact⟨_,rfl,adf h⟩
end
def acX(a b:Bool):((a&&b)=true)=(a=true/\b=true):=ac7 a b
def acY(n:Nat):n<=n:=adK n
theorem qx(its:Z3):∀(k:Nat)(acc:Z3),
  List.foldl (fun x1 x2=>x1++x2) acc.toArray (List.replicate k its.toArray)=(acc++(List.replicate k its).flatten).toArray
 |0,acc=>by simp
 |k+1,acc=>by
  have e:acc.toArray++its.toArray=(acc++its).toArray:=by simp
  have e2:(acc++its)++(List.replicate k its).flatten=acc++(List.replicate (k+1) its).flatten:=by rw[aeE,aeC,ade]
  rw[<- e2,<- qx its k (acc++its),<- e,aeE,afM]
theorem xf(xs:List α)(k:Nat):(List.replicate k xs).flatten.length=k * xs.length:=by
 induction k with
 |zero=>simp
 |succ k ih=>rw[aeE,aeC,acZ,ih,Nat.succ_mul,ah6]
def Fx(h:n<=sizeLine):Builtin.List.listTooLong n=false:=by unfold Builtin.List.listTooLong;exact decide_eq_false ⋯
def CL:fillsNumberSlot (.type "tuple") "mul"=pure false:=by kernel_rfl
def xU:seqRepeat? (.type "tuple")=pure (some (.builtin "tuple.__mul__")):=by kernel_rfl
def Ag(a:Int)(t:Tok)(l:Addr)(its:Array Value)(n:Nat)(dd:Option Addr)(sl:Array (Option Value)):
  Meets (Builtin.«int.__rmul__» ⟨[.int a t,.ref l],[]⟩) (fun _ R s=>s.heap.get? l=some { cls:=.type "tuple",dict:=dd,data:=.seq its n,slots:=sl }/\R (.ok (.ret Value.notImplemented)) s):=
 .of_wp fun prog w A R s h=>by
  obtain⟨hp,g,d,tk,os⟩:=s;obtain⟨hl,h⟩:=h
  wp_walk
  exact⟨_,rfl,h⟩
def CK(l:Addr)(its:Z3)(n:Nat)(dd:Option Addr)(sl:Array (Option Value))(k:Int)(t:Tok)(h1: -(2 ^ 63)<=k)(h2:k<2 ^ 63)(hz:its.length * k.toNat<=sizeLine):
  Meets (Builtin.«tuple.__mul__» ⟨[.ref l,.int k t],[]⟩) (fun _ R s=>s.heap.get? l=some { cls:=.type "tuple",dict:=dd,data:=.seq its.toArray n,slots:=sl }/\
   ((its= []\/k=1)->R (.ok (.ret (.ref l))) s)/\R (.ok (.ret (.ref s.heap.objs.size))) { s with heap:=s.heap.push { cls:=.type "tuple",data:=.seq (List.replicate k.toNat its).flatten.toArray } }):=
 .of_wp fun prog w A R s h=>by
  obtain⟨hp,g,d,tk,os⟩:=s;obtain⟨hl,q1,q2⟩:=h;have f1:=AutoSeq1.idx_int;have f2:=AutoSeq1.sub_tuple_tuple;have b1:¬ ((decide (k< -(2 ^ 63))||decide (k>=2 ^ 63))=true):=by simp;lia
  unfold Builtin.«tuple.__mul__»
  wp_walk using afd hl
  rw[if_neg b1]
  wp_walk using afd hl
  have em:its.toArray.isEmpty=its.isEmpty:=by cases its<;>rfl
  have fr:∀xs:Array Value,xs.size<=sizeLine->xs=(List.replicate k.toNat its).flatten.toArray->wpAny (model prog w) A.in1 (Builtin.Tuple.tupleExact xs >>= fun v=>ret v) (fun fin s'=>∃v,fin=Fin.done (Flow.ret v)/\R (Except.ok (Flow.ret v)) s') (fun e s'=>R (Except.error e) s') ⟨hp,g,d,tk,os⟩:=fun xs hx e=>by unfold Builtin.Tuple.tupleExact;subst e;exact ac0 (aeB (adf ⟨_,rfl,q2⟩) hx)
  by_cases c:(its.toArray.isEmpty||k==1)=true
  .rw[if_pos c]
   wp_walk using afd hl
   refine⟨_,rfl,q1 ?_⟩;rw[ad8,em,afF,beq_iff_eq]at c;exact c
  .rw[if_neg c];rw[ad8,not_or,em,afF]at c
   by_cases c2:(decide (k<=0)||its.toArray.isEmpty)=true
   .rw[if_pos c2];rw[ad8,em,afF]at c2
    have k0:k.toNat=0:=by
     rcases c2 with z|z
     .have:=of_decide_eq_true z;lia
     .exact absurd z c.1
    exact fr #[] (adx _) (by rw[k0];rfl)
   .rw[if_neg c2]
    have e2:(its.toArray.size:Int) * k=((its.length * k.toNat:Nat):Int):=by
     have:((k.toNat:Nat):Int)=k:=ahM (by simp only[ad8,not_or,decide_eq_true_eq]at c2;lia)
     rw[aen];push_cast;rw[this]
    have sl8:(sizeLine:Nat)<=(2 ^ 63 - 1) / 8:=by decide
    rw[if_neg (by rw[e2];intro z;have:(its.length * k.toNat:Nat)<=(2 ^ 63 - 1) / 8:=adu hz sl8;lia)];rw[if_neg (by rw[e2];unfold Builtin.Tuple.tupleTooMany;intro z;have:=of_decide_eq_true z;have h3:((its.length * k.toNat:Nat):Int)<=(sizeLine:Nat):=Int.ofNat_le.mpr hz;lia)]
    have hf:List.foldl (fun x1 x2=>x1++x2) #[] (List.replicate k.toNat its.toArray)=(List.replicate k.toNat its).flatten.toArray:=by have:=qx its k.toNat [];rw[aeh]at this;exact this
    refine fr _ ?_ hf;rw[hf,aen,xf,ah5];exact hz
def wl(lo hi:Zp)(n:Nat):(sliceBounds lo hi none n).1=((Z.J8 n 0 lo:Nat):Int)/\(sliceBounds lo hi none n).2.1=((Z.J8 n n hi:Nat):Int)/\(sliceBounds lo hi none n).2.2=1:=by
 refine⟨?_,?_,rfl⟩
 .cases lo with
  |none=>simp[sliceBounds,Z.J8]
  |some i=>
   simp only[sliceBounds,Z.J8,aic,show(1:Int)>0 by decide,if_true]
   by_cases h:i<0
   .simp only[h,if_true]<;>lia
   .simp only[h,if_false]<;>lia
 .cases hi with
  |none=>simp[sliceBounds,Z.J8]
  |some i=>
   simp only[sliceBounds,Z.J8,aic,show(1:Int)>0 by decide,if_true]
   by_cases h:i<0
   .simp only[h,if_true]<;>lia
   .simp only[h,if_false]<;>lia
def uH(its:Z3)(lo hi:Zp):slicePick its.toArray lo hi none=((its.drop (Z.J8 its.length 0 lo)).take (Z.J8 its.length its.length hi - Z.J8 its.length 0 lo)).toArray:=by obtain⟨h1,h2,h3⟩:=wl lo hi its.toArray.size;unfold slicePick;rw[h1,h2,h3];simp only[sliceRange_one,pick_run,aen]<;>rfl
def Ap(p q:PV)(h:Y3):Res PV:=match p,q with
 |.int i,.int j=>.ok (.int (i+j)) h
 |.int i,.bl b=>.ok (.int (i+b2i b)) h
 |.str a,.str b=>if a.length+b.length<=sizeLine then .ok (.str (a++b)) h else .bad
 |.tup a,.tup b=>if a.isEmpty=false/\a.length+b.length<=sizeLine then .ok (.tup (a++b)) h else .bad
 |p,q=>match Yx h p,Yx h q with
  |some a,some b=>if a.length+b.length<=sizeLine then .ok (.lst (a++b)) h else .bad
  |_,_=>.bad
def ak(p q:PV)(h:Y3):Res PV:=match p,q with
 |.tup [],.tup b=>.ok (.tup b) h
 |p,q=>Ap p q h
noncomputable def pI(C:Int->Int->Bool)(g:Int->Int->Int)(p q:PV)(h:Y3):Res PV:=match p,q with
 |.int i,.int j=>if C i j=true then .ok (.int (g i j)) h else .bad
 |_,_=>.bad
noncomputable def tA(p q:PV)(h:Y3):Res PV:=match p,q with
 |.int i,.int j=>.ok (.int (i - j)) h
 |_,_=>.bad
abbrev cu:=pI (fun _ j=>decide (0<j)) (fun i j=>i % j)
abbrev ei:=pI (fun _ j=>decide (0<j/\j<1073741824)) (fun i j=>i / j)
noncomputable def V2(n:Nat)(i:Int):Bool:=Nat.blt i.natAbs n
noncomputable def Qq(i j:Int):Bool:=decide (Builtin.Int.intBits i+Builtin.Int.intBits j<=134217728)
def jV(i j:Int):Bool:=V2 18446744073709551616 i||(V2 18446744073709551616 j||Qq i j)
noncomputable def yu{α:Type}(xs:List α)(k:Int):List α:=(List.replicate k.toNat xs).flatten
def nR(p q:PV)(h:Y3):Res PV:=match p,q with
 |.int i,.int j=>if jV i j=true then .ok (.int (i * j)) h else .bad
 |.str a,.int k=>if V2 1048576 k=true/\a.length * k.toNat<=1048576 then .ok (.str (yu a k)) h else .bad
 |p,.int k=>match Yx h p with
  |some xs=>if V2 9223372036854775808 k=true/\xs.length * k.toNat<=sizeLine then .ok (.lst (yu xs k)) h else .bad
  |_=>.bad
 |_,_=>.bad
def Fp(p q:PV)(h:Y3):Res PV:=match p,q with
 |.tup xs,.int k=>if V2 9223372036854775808 k=true/\xs.length * k.toNat<=sizeLine then .ok (.tup (yu xs k)) h else .bad
 |p,q=>nR p q h
noncomputable def iB(p:PV)(h:Y3):Res PV:=match p with
 |.int i=>.ok (.int (-i)) h
 |_=>.bad
def dU:V2 n i=true↔ -(n:Int)<i/\i<(n:Int):=by
 unfold V2;rw[Nat.blt_eq]
 lia
def Hh(a b:Y1):S a++S b=S (a++b):=by show(⟨(S a).cps++(S b).cps⟩:Str)=_;simp[S]
section
variable{a b:Expr}{fb:Ex}
def NX:Wr X (binaryOp .Add) ak:=fun{w h p q u v Q E} I rp rq k=>by
 unfold ak at k
 split at k
 .obtain⟨a,its,rfl,⟨n,e⟩,z,r⟩:=I.sq (ps:=[]) rp rfl;obtain⟨b,Ti,rfl,⟨n',e'⟩,_⟩:=I.sq rq rfl;exact ah3 ⟨_,e,rfl⟩ ⟨_,e',rfl⟩ agX ahO F.slot_tuple_add F.entry_tuple_add (F.args_tuple_add_2 _ _) (tuple_addW0 a b _ _ n n' _ _ _ _ (by have:=r.len;simpa using this.symm)) ⟨e,e',k.here I.toHR rq⟩
 .unfold Ap at k
  split at k
  .cases rp;obtain⟨_,rfl⟩:=rq.vi;exact add_int (k.now I.toHR (.int _ _))
  .cases rp;obtain rfl:=rq.vb;exact add_int_bool (k.now I.toHR (.int _ _))
  .split at k
   .cases rp;obtain⟨_,rfl⟩:=rq.vs;exact add_str (fun _ _=>by rw[Hh];exact k.now I.toHR (.str _ _)) (by rw[db,db];assumption)
   .exact k.elim
  .split at k
   .rename_i xs ys _ c;obtain⟨a,its,rfl,x,z,r⟩:=I.sq rp rfl;obtain⟨b,Ti,rfl,y,_,r'⟩:=I.sq rq rfl;have l:=r.len;have l':=r'.len;refine Z.aal (vs:=its.toList) (ws:=Ti.toList) x.tup y.tup (fun z=>?_) (fun z=>?_) (fun z=>?_) (by simp;lia)
    .obtain rfl:xs= []:=(by simp at z;simpa[z]using l)
     cases c.1
    .obtain rfl:ys= []:=(by simp at z;simpa[z]using l')
     rw[adD]at k;exact k.here I.toHR rp
    .exact k.seq I.toHR rfl (by simpa using r.app r') (by simp;lia)
   .exact k.elim
  .split at k
   .rename_i xs ys e1 e2
    split at k
    .obtain⟨a,its,rfl,⟨_,x⟩,z,r⟩:=I.sq rp (xd e1);obtain⟨b,Ti,rfl,⟨_,y⟩,_,r'⟩:=I.sq rq (xd e2);have l:=r.len;have l':=r'.len;exact PySem.P.add_list x y (k.seq I.toHR rfl (by simpa using r.app r') (by simp;lia)) ⋯
    .exact k.elim
   .exact k.elim
def o_I{op:Operator}{C:Int->Int->Bool}{g:Int->Int->Int}(o:∀{i j t t' s Q} {E:Yf},C i j=true->Q (.int (g i j) s.toks) { s with toks:=s.toks+1 }->Wp X (binaryOp op (.int i t) (.int j t')) Q E s):Wr X (binaryOp op) (pI C g):=fun I rp rq k=>by
 unfold pI at k
 split at k
 .cases rp;obtain⟨_,rfl⟩:=rq.vi
  split at k
  .exact o ‹_› (k.now I.toHR (.int _ _))
  .exact k.elim
 .exact k.elim
def HP(ha:RE X a fa)(hb:RE X b fb):RE X (.BinOp a .Add b pos) (c2 ak fa fb):=yw NX ha hb
def KZ(ha:RE X a fa)(hb:RE X b fb):RE X (.BinOp a .Sub b pos) (c2 tA fa fb):=yw (fun I rp rq k=>by
 unfold tA at k
 split at k
 .cases rp;obtain⟨_,rfl⟩:=rq.vi;exact sub_int (k.now I.toHR (.int _ _))
 .exact k.elim) ha hb
def Lg(ha:RE X a fa)(hb:RE X b fb):RE X (.BinOp a .Mod b pos) (c2 cu fa fb):=yw (o_I fun{i j t t' s Q E} c q=>by have c:=of_decide_eq_true c;exact mod_int' ⋯ (by rw[Int.fmod_eq_emod_of_nonneg i ⋯];exact q)) ha hb
def HL(ha:RE X a fa)(hb:RE X b fb):RE X (.BinOp a .FloorDiv b pos) (c2 ei fa fb):=yw (o_I fun{i j t t' s Q E} c q=>by have c:=of_decide_eq_true c;exact floordiv_int ⋯ (by rw[Int.fdiv_eq_ediv_of_nonneg i ⋯];exact q) (.inl (PyProof.noPylong_small ⋯))) ha hb
def Le(ha:RE X a fa):RE X (.UnaryOp .USub a pos) (c1 iB fa):=Ny (fun I rp k=>by
 unfold iB at k
 split at k
 .cases rp;exact neg_int (k.now I.toHR (.int _ _))
 .exact k.elim) ha
def Gs(l:Array Value)(k:Nat):List.foldl (fun x1 x2=>x1++x2) #[] (List.replicate k l)=(List.replicate k l.toList).flatten.toArray:=by have:=qx l.toList k [];simpa using this
def Pi(a:Y1)(k:Int):Txt.mul (S a) k=S (yu a k):=by
 unfold Txt.mul yu
 have f:∀(k:Nat)(acc:Y1),(List.replicate k a.toArray).foldl (· ++ ·) acc.toArray=(acc++(List.replicate k a).flatten).toArray:=fun k=>by
  induction k with
  |zero=>simp
  |succ k ih=>intro acc;rw[aeE,afM,aeE,aeC,<- ade,<- ih (acc++a)];congr 1;simp
 split
 .rw[show k.toNat=0 by lia];rfl
 .split
  .rename_i h1 h2;rcases ad8 _ _▸h2 with z|z
   .obtain rfl:k=1:=by simpa using z
    simp
   .obtain rfl:a= []:=by rw[db]at z;simpa using z
    simp
  .show(⟨_⟩:Str)=⟨_⟩
   congr 1
   exact(f k.toNat []).trans (by simp)
def NP:Wr X (binaryOp .Mult) Fp:=fun{w h p q u v Q E} I rp rq k=>by
 unfold Fp at k
 split at k
 .split at k
  .rename_i xs n hz;have hk:=dU.mp hz.1;obtain⟨_,rfl⟩:=rq.vi;obtain⟨l,its,rfl,⟨_,e⟩,z,r⟩:=I.sq rp rfl;have ln:=r.len
   refine agK (T:="tuple") (U:="int") ⋯ ⟨_,e,rfl⟩ (fun s'=>ahT s' _ _) CL F.fills_int_mul F.slot_int_rmul xU F.slot_int_index.lookup
    (afa F.slot_int_rmul (ahT w.s _ _) F.entry_int_rmul (F.args_int_rmul_2 _ _) (Ag _ _ l its _ _ _) ⟨e,rfl,⟨_,e,rfl⟩,afa F.slot_tuple_mul ⟨_,e,rfl⟩ F.entry_tuple_mul (F.args_tuple_mul_2 _ _) (CK l its.toList _ _ _ _ _ ⋯ ⋯ (by simp;rw[<- ln];exact hz.2)) ⟨e,fun c=>?_,k.seq I.toHR rfl (r.rep _) (by rw[aen,xf,<- r.length,ah5];exact hz.2)⟩⟩)
   rw[show yu xs n=xs by
    rcases c with c|rfl
    .obtain rfl:xs= []:=by simp at c;simpa[c]using ln
     simp[yu]
    .simp[yu]]at k
   exact k.here I.toHR rp
  .exact k.elim
 .unfold nR at k
  split at k
  .cases rp;obtain⟨_,rfl⟩:=rq.vi
   split at k
   .rename_i hc;unfold jV at hc;rw[ad8,ad8,dU,dU]at hc
    exact mul_int (k.now I.toHR (.int _ _)) (by
     rcases hc with c|c|c
     .exact .of_left (intBits_le_64 c.1 c.2)
     .exact .of_right (intBits_le_64 c.1 c.2)
     .exact IntMulOk.of_le (adK _) (adK _) (of_decide_eq_true c))
   .exact k.elim
  .rename_i a n _
   cases rp;obtain⟨_,rfl⟩:=rq.vi
   split at k
   .rename_i hc;obtain⟨h1,h2⟩:=dU.mp hc.1;have h3:=hc.2;refine SB.mul ⟨by simp;lia,fun g1 g2=>?_,fun g1 g2=>?_⟩ fun _ _=>by rw[Pi];exact k.now I.toHR (.str _ _)
    .have:a.length * 1<=a.length * n.toNat:=ahI _ ⋯
     have:(2:Int) ^ 20<=(2 ^ 63 - 1) / n:=by
      rw[Int.le_ediv_iff_mul_le ⋯];have:(2:Int) ^ 20 * n<=2 ^ 20 * 2 ^ 20:=agp ⋯ ⋯
      lia
     rw[db];lia
    .rw[db];have:(2:Nat) ^ 20<=sizeLine:=by decide
     simp[Builtin.Str.tooLong];lia
   .exact k.elim
  .rename_i n _ _ _;obtain⟨_,rfl⟩:=rq.vi
   split at k
   .rename_i xs e'
    split at k
    .rename_i hz;have hk:=dU.mp hz.1;obtain⟨l,its,rfl,⟨_,e⟩,z,r⟩:=I.sq rp (xd e');have ln:=r.len;have hl:=hz.2;rw[ln]at hl;have:(sizeLine:Nat)<=(2 ^ 63 - 1) / 8:=by decide
     refine agK (T:="list") (U:="int") ⋯ ⟨_,e,rfl⟩ (fun s'=>ahT s' _ _) noFill_list_mul F.fills_int_mul F.slot_int_rmul repeat_list F.slot_int_index.lookup
      (afa F.slot_int_rmul (ahT w.s _ _) F.entry_int_rmul (F.args_int_rmul_2 _ _) (int___rmul___int_list _ _ l its _) ⟨e,rfl,⟨_,e,rfl⟩,afa F.slot_list_mul ⟨_,e,rfl⟩ F.entry_list_mul (F.args_list_mul_2 _ _) (AutoListH.list___mul___list_int_3 l its _ n _ (by rw[fitsIndex_both ⋯ ⋯];exact afl) ⋯ (by rw[Fx hl];exact afl)) ⟨e,?_⟩⟩)
     rw[Gs,show(List.replicate (if its.isEmpty=true then 0 else n.toNat) its.toList).flatten=(List.replicate n.toNat its.toList).flatten by split<;>simp_all];exact k.seq I.toHR rfl (r.rep _) (by rw[aen,xf,<- r.length,ah5];exact hz.2)
    .exact k.elim
   .exact k.elim
  .exact k.elim
end
mutual
noncomputable def toD:PV->PyData
 |.non=>.none
 |.bl b=>.bool b
 |.int i=>.int i
 |.str l=>.str (S l)
 |.tup xs=>.tuple (eh xs)
 |.lst xs=>.list (eh xs)
 |.VB xs=>.list (eh xs)
 |_=>.dict []
noncomputable def eh:Y2->List PyData
 |[]=>[]
 |x::r=>toD x::eh r
end
noncomputable def TV(h:Y3):PV->PyData
 |.ref i=>match h[i]? with
  |some (.lst xs)=>.list (eh xs)
  |_=>.dict []
 |p=>toD p
def TP(h:Y3)(p:PV):Bool:=(TV h p).canLay0&&decide ((TV h p).depth<=60)
def o9(p q:PV)(h:Y3):Res PV:=if TP h p=true/\TP h q=true then .ok (.bl (PyData.eqv (TV h p) (TV h q))) h else .bad
def Vs(p q:PV)(h:Y3):Res PV:=if TP h p=true/\TP h q=true then .ok (.bl (!PyData.eqv (TV h p) (TV h q))) h else .bad
noncomputable def Dq(g:Int->Int->Bool)(p q:PV)(h:Y3):Res PV:=match p,q with
 |.int i,.int j=>.ok (.bl (g i j)) h
 |_,_=>.bad
abbrev Wb:=Dq fun i j=>decide (i<j)
abbrev pLe:=Dq fun i j=>decide (i<=j)
abbrev Yw:=Dq fun i j=>decide (j<i)
noncomputable def bP:PV->Bool
 |.non=>true
 |_=>false
def Vt(p q:PV)(h:Y3):Res PV:=match q with
 |.non=>.ok (.bl (bP p)) h
 |_=>.bad
def gE(p q:PV)(h:Y3):Res PV:=match q with
 |.non=>.ok (.bl (!bP p)) h
 |_=>.bad
def qG(g g':PV->PV->Y3->Res PV)(a b c:Ex):Ex:=fun ρ h=>(a ρ h).bind fun x h1=>(b ρ h1).bind fun y h2=>(g x y h2).bind fun z h3=>match z with
 |.bl false=>.ok (.bl false) h3
 |.bl true=>(c ρ h3).bind fun u h4=>g' y u h4
 |_=>.bad
def au(f:Ex):Tx:=fun ρ h=>(f ρ h).bind fun p h1=>match p with
 |.bl b=>.ok b h1
 |_=>.bad
def hM(f:Tx):Tx:=fun ρ h=>(f ρ h).bind fun b h1=>.ok (!b) h1
def lR(f g:Tx):Tx:=fun ρ h=>(f ρ h).bind fun b h1=>if b=true then g ρ h1 else .ok false h1
def iL(f g:Tx):Tx:=fun ρ h=>(f ρ h).bind fun b h1=>if b=true then .ok true h1 else g ρ h1
def DS(f g:Ex):Ex:=fun ρ h=>(f ρ h).bind fun p h1=>match p with
 |.bl b=>if b=true then g ρ h1 else .ok (.bl false) h1
 |_=>.bad
def cOr(f g:Ex):Ex:=fun ρ h=>(f ρ h).bind fun p h1=>match p with
 |.bl b=>if b=true then .ok (.bl true) h1 else g ρ h1
 |_=>.bad
def rO(t:Tx)(f g:Ex):Ex:=fun ρ h=>(t ρ h).bind fun b h1=>if b=true then f ρ h1 else g ρ h1
noncomputable def dcM(h:Y3):PV->Option (List (PK×PV))
 |.ref i=>match h[i]? with
  |some (.dct kvs)=>some kvs
  |_=>none
 |_=>none
noncomputable def jl(h:Y3):PV->Option Bool
 |.non=>some false
 |.bl b=>some b
 |.int i=>some (i !=0)
 |.str l=>if l.length<=sizeLine then some (!l.isEmpty)else none
 |p=>match WQ h p with
  |some xs=>some (!xs.isEmpty)
  |none=>match dcM h p with
   |some kvs=>some (!kvs.isEmpty)
   |none=>none
def cL(f:Ex):Tx:=fun ρ h=>(f ρ h).bind fun p h1=>match jl h1 p with
 |some b=>.ok b h1
 |none=>.bad
theorem bG.imp{β:Type}{R:Wo->α->β->Prop}{w:Wo}{Q Q':β->Shared->Prop}{r:Res α}(p:bG X R w Q E r)(k:∀x s,Q x s->Q' x s):bG X R w Q' E r:=match r with
 |.ok _ _=>⟨p.1,fun w' x y q=>k _ _ (p.2 w' x y q)⟩
 |.exc _ _=>p
 |.bad=>p
section
variable{w:Wo}
def ay.reads(H:HR G w h){p:Y2}{u:Z3}(r:ay G w.F w.m p u):PyData.canLayAll0 (eh p)=true->∃as,ReadsAll w.s.heap u (eh p) as:=
 ay.rec (motive_1:=fun p u _=>(toD p).canLay0=true->∃as,Reads w.s.heap u (toD p) as) (motive_2:=fun p u _=>PyData.canLayAll0 (eh p)=true->∃as,ReadsAll w.s.heap u (eh p) as) (fun _=>⟨_,.none⟩) (fun b _=>⟨_,.bool b⟩) (fun i t _=>⟨_,.int i t⟩) (fun x t _=>⟨_,.str _ t⟩) (fun _=>nofun) (fun _=>nofun) (fun e _ _ i c=>let⟨_,q⟩:=i c;⟨_,.tuple (H.at e) rfl rfl q⟩) (fun e _ _ i c=>let⟨_,q⟩:=i c;⟨_,.list (H.at e) rfl rfl q⟩) (fun e _ _ i c=>let⟨_,q⟩:=i c;⟨_,.list (H.at e) rfl rfl q⟩) (fun _ _ _ _ _ _ _=>nofun) (fun _ _ _ _=>nofun) (fun _=>nofun) (fun _ _ _ _=>nofun) (fun _ _ _ _ _ _ _ _ _ _=>nofun) (fun _=>⟨_,.nil⟩) (fun _ _ i j c=>let⟨a,b⟩:=(ac7 _ _▸c:);let⟨_,q⟩:=i a;let⟨_,q'⟩:=j b;⟨_,.cons q q'⟩) r
theorem aQ.reads(H:HR G w h){p:PV}{u:Value}(r:aQ G w.F w.m p u)(c:(toD p).canLay0=true):∃as,Reads w.s.heap u (toD p) as:=by obtain⟨_,q⟩:=ay.reads H (.cons r .nil) (show(_&&_)=true by rw[c];rfl);cases q;exact⟨_, ‹_›⟩
theorem HR.reads(H:HR G w h){p:PV}{u:Value}(r:aQ G w.F w.m p u)(c:(TV h p).canLay0=true):∃as,Reads w.s.heap u (TV h p) as:=by
 unfold TV at c |-
 split
 .split
  .rename_i q
   cases r with
   |ref e=>obtain⟨_,its,n,e,_,r⟩:=H.obj _ _ _ q e;simp only[q,PyData.canLay0]at c;obtain⟨as,q⟩:=r.reads H c;exact⟨_,.list e rfl rfl q⟩
  .rename_i q;revert c;dsimp only;split
   .rename_i q';exact absurd q' (q _)
   .simp[PyData.canLay0]
 .rename_i q;have e:TV h p=toD p:=by unfold TV;split;exact absurd rfl (q _);rfl
  exact r.reads H (by rw[<- e];exact c)
end
section
variable{w:Wo}{a b c:Expr}{fb fc:Ex}{ta tb:Tx}{rest:List Expr}
def Aq(b:Expr)(h:(op≠.In)\2)(h2:(op≠.NotIn)\2):behindInMarks op b=false:=by
 have e1:(op==CmpOp.In)=false:=by cases op<;>first|rfl|exact absurd rfl h
 have e2:(op==CmpOp.NotIn)=false:=by cases op<;>first|rfl|exact absurd rfl h2
 cases b<;>simp[behindInMarks,e1,e2]
def NV(hu:X.A.units+64<cLine):Wr X (compareOp .Eq) o9:=fun{w h p q u v Q E} I rp rq k=>by
 unfold o9 TP at k
 split at k
 .rename_i c;simp only[ac7,decide_eq_true_eq]at c;obtain⟨as,ra⟩:=I.reads rp c.1.1;obtain⟨bs,rb⟩:=I.reads rq c.2.1;exact SeqAt.compareEq_reads ra rb c.1.1 c.2.1 (by have:=ahi (TV h p).depth (TV h q).depth;lia) (k.here I.toHR (.bl _))
 .exact k.elim
def NO(hu:X.A.units+64<cLine):Wr X (compareOp .NotEq) Vs:=fun{w h p q u v Q E} I rp rq k=>by
 unfold Vs TP at k
 split at k
 .rename_i c;simp only[ac7,decide_eq_true_eq]at c;obtain⟨as,ra⟩:=I.reads rp c.1.1;obtain⟨bs,rb⟩:=I.reads rq c.2.1;exact SeqAt.compareNe_reads ra rb c.1.1 c.2.1 (by have:=ahi (TV h p).depth (TV h q).depth;lia) (k.here I.toHR (.bl _))
 .exact k.elim
def LH{g:Int->Int->Bool}(o:∀{i j t t' s Q} {E:Yf},Q (.bool (g i j)) s->Wp X (compareOp op (.int i t) (.int j t')) Q E s):Wr X (compareOp op) (Dq g):=fun I rp rq k=>by
 unfold Dq at k
 split at k
 .cases rp;obtain⟨_,rfl⟩:=rq.vi;exact o (k.here I.toHR (.bl _))
 .exact k.elim
def LF:Wr X (compareOp .Lt) Wb:=LH lt_int
def Io:Wr X (compareOp .LtE) pLe:=LH le_int
def NU:Wr X (compareOp .Gt) Yw:=LH gt_int
def vz{F:Fz}(r:aQ G F m p u):(u==Value.none)=bP p:=by cases r<;>rfl
def NS:Wr X (compareOp .Is) Vt:=fun I rp rq k=>by
 unfold Vt at k
 split at k
 .cases rq;exact is_none_gen (vz rp▸k.here I.toHR (.bl _))
 .exact k.elim
def Fv:Wr X (compareOp .IsNot) gE:=fun I rp rq k=>by
 unfold gE at k
 split at k
 .cases rq;exact isnot_none_gen (vz rp▸k.here I.toHR (.bl _))
 .exact k.elim
def lX(o:Wr X (compareOp op) g)(hm:behindInMarks op b=false)(ha:RE X a fa)(hb:RE X b fb):RT X (.Compare a [op] [b] pos) (au (c2 g fa fb)) where
 r I p:=wpAny_isTrue_Compare1 (two o ha hb I (p.bind fun _ _ q _ y r p=>by
  cases r with
  |bl=>exact aeO (p.here y.2 rfl)
  |_=>exact p.elim)) hm
structure RW(X:Cx)(e:Expr)(f:Tx):Prop where
 r:∀{whole:Sem Value}{w:Wo}{ρ:Ev}{h:Y3}{Q:Bool->Shared->Prop}{E:Yf},Inv X w ρ h->bG X (fun _ a b=>a=b) w Q E (f ρ h)->Wp X (isTrue e X.env whole) Q E w.s
def RW.rt{f:Tx}(h:RW X a f):RT X a f:=⟨h.r⟩
def KM(ha:RT X a ta):RT X (.UnaryOp .Not a pos) (hM ta):=⟨fun I p=>isTrue_not (ha.r I (p.bind fun _ _ _ _ y r p=>p.here y.2 (r▸rfl)))⟩
def Hy(ha:RT X a ta):RW X (.BoolOp .And [a] pos) ta:=⟨fun{_ _ _ _ Q _} I p=>isTrue_and (ha.r I (bG.imp p fun b s q=>by cases b;exact q;exact isTrue_and_nil q))⟩
def KK(ha:RT X a ta):RW X (.BoolOp .Or [a] pos) ta:=⟨fun{_ _ _ _ Q _} I p=>isTrue_or (ha.r I (bG.imp p fun b s q=>by cases b;exact isTrue_or_nil q;exact q))⟩
def EE(ha:RT X a ta)(hb:RW X (.BoolOp .And (b::rest) pos) tb):RW X (.BoolOp .And (a::b::rest) pos) (lR ta tb):=⟨fun I p=>isTrue_and (ha.r I (p.bind fun _ _ c _ y r p=>by
 subst r
 cases c
 .exact p.here y.2 rfl
 .exact hb.r (I.on y) p))⟩
def JM(ha:RT X a ta)(hb:RW X (.BoolOp .Or (b::rest) pos) tb):RW X (.BoolOp .Or (a::b::rest) pos) (iL ta tb):=⟨fun I p=>isTrue_or (ha.r I (p.bind fun _ _ c _ y r p=>by
 subst r
 cases c
 .exact hb.r (I.on y) p
 .exact p.here y.2 rfl))⟩
def Lc{op}(ha:RE X a fa):RE X (.BoolOp op [a] pos) fa:=⟨fun I p=>BoolOp_one (ha.r I p)⟩
theorem Ll(ha:RE X a fa)(hb:RE X (.BoolOp .And (b::rest) pos) fb):RE X (.BoolOp .And (a::b::rest) pos) (DS fa fb):=⟨fun I p=>BoolOp_and (ha.r I (p.bind fun _ _ c _ y r p=>by
 cases r with
 |bl c=>exact aeO (by cases c;exact p.here y.2 (.bl _);exact hb.r (I.on y) p)
 |_=>exact p.elim))⟩
theorem Nz(ha:RE X a fa)(hb:RE X (.BoolOp .Or (b::rest) pos) fb):RE X (.BoolOp .Or (a::b::rest) pos) (cOr fa fb):=⟨fun I p=>BoolOp_or (ha.r I (p.bind fun _ _ c _ y r p=>by
 cases r with
 |bl c=>exact aeO (by cases c;exact hb.r (I.on y) p;exact p.here y.2 (.bl _))
 |_=>exact p.elim))⟩
def Fa(hc:RT X c ta)(ha:RE X a fa)(hb:RE X b fb):RE X (.IfExp c a b pos) (rO ta fa fb):=⟨fun I p=>wpAny_IfExp (hc.r I (p.bind fun _ _ c _ y r p=>by
 subst r
 cases c
 .exact hb.r (I.on y) p
 .exact ha.r (I.on y) p))⟩
end
noncomputable def cY(ps:Y2)(h:Y3):Res PV:=if ps.length<=sizeLine then .ok (.lst ps) h else .bad
noncomputable def gD(ps:Y2)(h:Y3):Res PV:=if ps.length<=sizeLine then .ok (.ref h.length) (h++ [.lst ps])else .bad
noncomputable def aT(ps:Y2)(h:Y3):Res PV:=if ps.length<=sizeLine then .ok (.tup ps) h else .bad
def DO.of{g:Heap}(d:DO G o kvs)(e:g.get? a=some o):g.DictOf (pk G.prog G.w) a kvs:=let⟨x,es,ep,y,z⟩:=d;⟨o,es,ep,e,x,y,z⟩
section
variable{w:Wo}{J0:List (PK×PV)}
def MW(G:SC)(w:Wo)(J0:List (PK×PV))(kvs:List (PK×Value)):Prop:=kvs.length<=sizeLine/\kvs.map (·.1)=J0.map (·.1)/\ay G w.F w.m (J0.map (·.2)) (kvs.map (·.2))
inductive Dc0(G:SC)(w:Wo)(u:Value)(J0:List (PK×PV)):Prop where
 |mk (a:Addr) (kvs:List (PK×Value)) (_:u=.ref a) (_:(a==sysModules)=false) (_:w.s.heap.DictOf (pk G.prog G.w) a kvs) (_:MW G w J0 kvs)
def HR.dc(H:HR G w h)(r:aQ G w.F w.m p u)(k:Ye h p=some J0):Dc0 G w u J0:=by
 unfold Ye at k
 split at k
 .cases k
  cases r with
  |dct e d y z c r=>exact⟨_,_,rfl,y,d.of (H.at e),z,c,r⟩
 .split at k
  .rename_i q
   cases k
   cases r with
   |ref e=>obtain⟨_,o,kvs,e,d,y,z⟩:=H.obj _ _ _ q e;exact⟨_,kvs,rfl,y,d.of e,z⟩
  .cases k
 .cases k
def ay.sz{F:Fz}(r:ay G F m ps us)(z:ps.length<=sizeLine):us.toArray.size<=sizeLine:=adu (Nat.le_of_eq r.length.symm) z
def MW.len(r:MW G w J0 kvs):kvs.length=J0.length:=by have:=congrArg List.length r.2.1;simpa using this
def OZ(k:dcM h p=some J0):Ye h p=some J0:=by
 unfold dcM at k
 split at k
 .exact k
 .cases k
end
section
variable{w:Wo}{a b e:Expr}{fb:Ex}{f:Ax}{p0:Pos}{id:String}{g:Y2->Y3->Res PV}
def Wd.tru(I:Wd X w h){c:Bool}{Q:Bool->Shared->Prop}(r:aQ X.toSC w.F w.m p u)(k:jl h p=some c)(q:bG X (fun _ a b=>a=b) w Q E (.ok c h)):Wp X (truthy u) Q E w.s:=by
 have l:sizeLine=16777216:=afz;unfold jl at k
 split at k
 .cases k;obtain rfl:=r.vn;exact truthy_none (q.here I.toHR rfl)
 .cases k;obtain rfl:=r.vb;exact aeO (q.here I.toHR rfl)
 .cases k;obtain⟨_,rfl⟩:=r.vi;exact PySem.P.truthy_int (q.here I.toHR rfl)
 .obtain⟨_,rfl⟩:=r.vs
  split at k
  .cases k
   exact PySem.P.truthy_str (by rw[db];lia) (q.now I.toHR (by rw[db];cases ‹Y1›;rfl;symm;simp;lia))
  .cases k
 .split at k
  .rename_i e
   cases k
   obtain⟨t,e,ht⟩:=zZ e
   replace r:=I.sq r e
   obtain⟨a,its,rfl,y,z,r⟩:=r
   have n:its.isEmpty=(‹Y2›).isEmpty:=by
    have:=r.len
    cases its;rename_i l;cases l<;>cases ‹Y2› <;>simp_all
   rcases ht with rfl|rfl
   .exact truthy_tuple y.tup ⋯ (q.now I.toHR (by rw[n]))
   .exact wpAny_truthy_list y.pl.isList ⋯ (q.now I.toHR (by rw[n]))
  .split at k
   .rename_i e
    cases k
    replace r:=I.dc r (OZ e)
    obtain⟨a,kvs,rfl,y,d,r⟩:=r;exact wpAny_truthy_dict y d (by have:=r.1;lia) (q.now I.toHR (by have:=r.len;cases kvs<;>cases ‹List (PK×PV)› <;>simp_all))
   .cases k
theorem KL(ha:RE X a fa)(he:(∀whole,isTrue a X.env whole=(do let v <- whole;standAt a.pos;holding [v] (truthy v)))\3):RT X a (cL fa):=⟨fun I p=>isTrue_plain (ha.r I (p.bind fun _ h1 q _ y r p=>by
 cases e:jl h1 q with
 |none=>rw[e]at p;exact p.elim
 |some b=>rw[e]at p;exact(I.on y).toWd.tru r e p)) (he _)⟩
def KY{k}(ha:RA X es f):RE X (.Tuple es k pos) (cN aT f):=⟨fun I p=>wpAny_Tuple_spliced (ha.r _ I (p.bind fun _ _ ps us y r p=>by
 unfold aT at p
 split at p
 .exact⟨r.length▸ ‹_›,p.seq (ps:=ps) y.2 rfl r (r.sz ‹_›)⟩
 .exact p.elim))⟩
def Li(ha:RA X es f):RE X (.List es pos) (cN cY f):=⟨fun I p=>ahS (ha.r _ I (p.bind fun _ _ ps us y r p=>by
 unfold cY at p
 split at p
 .exact⟨r.length▸ ‹_›,p.seq (ps:=ps) y.2 rfl r (r.sz ‹_›)⟩
 .exact p.elim))⟩
def HK(ha:RA X es f):RE X (.List es pos) (cN gD f):=⟨fun I p=>ahS (ha.r _ I (p.bind fun _ _ ps us y r p=>by
 unfold gD at p
 split at p
 .exact⟨r.length▸ ‹_›,p.lm (ps:=ps) y.2 r (r.sz ‹_›)⟩
 .exact p.elim))⟩
def Gl(X:Cx)(x:Str):Prop:=X.env.kindOf x=some .globalImplicit
def Inv.glb(I:Inv X w ρ h)(hg:Gl X x)(hm:X.mg x=some u)(q:Q u w.s)(hd:nD0 x\2):Wp X (eval (.Name x p0) X.env) Q E w.s:=
 agJ I.ok.kind hg (Calls.loadGlobal_global (by rw[I.ok.glob];exact I.ok.gl.keeps fun _ _ e=>I.bk e) hm q) hd
theorem Inv.blt(I:Inv X w ρ h){u:Value}{Q:Yf}{E:Yf}(hg:Gl X x)(hm:X.mg x=none)(hv:bootBuiltins x=some u)(q:Q u w.s)(hn:(x≠"__name__")\2)(hd:nD0 x\2):Wp X (eval (.Name x p0) X.env) Q E w.s:=
 let⟨mb,h1,h2⟩:=I.ok.bl
 agJ I.ok.kind hg (Calls.loadGlobal_builtin (by rw[I.ok.glob];exact I.ok.gl.keeps fun _ _ e=>I.bk e) hm (by rw[I.ok.blt];exact h1.keeps fun _ _ e=>I.bk e) ((h2 x hn).trans hv) q) hd
def Xl(X:Cx)(f:Value)(g:Y2->Y3->Res PV):Prop:=X.Ok->OpN X (fun us=>call f us) g
def Ff(o:Xl X (.builtin id) g)(hg:Gl X x)(hm:X.mg x=none)(hv:bootBuiltins x=some (.builtin id))(ha:RA X (e::es) f)(hn:x≠"__name__")(Ug:(x==("__debug__":Str))=false)(he:starEach (e::es) X.env=(false,eval e X.env)::starEach es X.env)(WY:(backTo pos (starEach es X.env)).any (·.1)=false):RE X (.Call (.Name x p0) (e::es) [] pos) (cN g f):=
 ⟨fun I p=>adV (I.blt hg hm hv (callWith_builtin1 (ha.r pos I (p.bind fun _ _ _ _ y r p=>o I.ok (I.on y).toWd r p)) he WY) hn Ug)⟩
def Df(o:Xl X (.type id) g)(hg:Gl X x)(hm:X.mg x=none)(hv:bootBuiltins x=some (.type id))(ha:RA X (e::es) f)(hn:x≠"__name__")(Ug:(x==("__debug__":Str))=false)(he:starEach (e::es) X.env=(false,eval e X.env)::starEach es X.env)(WY:(backTo pos (starEach es X.env)).any (·.1)=false):RE X (.Call (.Name x p0) (e::es) [] pos) (cN g f):=
 ⟨fun I p=>adV (I.blt hg hm hv (callWith_type1 (ha.r pos I (p.bind fun _ _ _ _ y r p=>o I.ok (I.on y).toWd r p)) he WY) hn Ug)⟩
end
noncomputable def WX(n:Nat)(i:Int):Option Nat:=if 0<=i then(if i<n then some i.toNat else none)else if -(n:Int)<=i then some (i+n).toNat else none
def S9{α:Type}(xs:List α)(i:Int):Option α:=(WX xs.length i).bind fun j=>xs[j]?
def BS{j:Nat}(h:WX n i=some j):seqIndex? i n=some j/\j<n/\ -(n:Int)<=i/\i<n:=by
 unfold WX at h
 by_cases h0:0<=i
 .rw[if_pos h0]at h
  by_cases h1:i<n
  .rw[if_pos h1]at h;have e:i.toNat=j:=aex h;exact⟨by rw[aij h0 h1,e],by lia,by lia,h1⟩
  .rw[if_neg h1]at h;cases h
 .rw[if_neg h0]at h
  by_cases h1: -(n:Int)<=i
  .rw[if_pos h1]at h;have e:(i+n).toNat=j:=aex h;exact⟨by rw[ah2 ⋯ h1,e],by lia,h1,by lia⟩
  .rw[if_neg h1]at h;cases h
theorem xJ{xs:List α}{v:α}(h:S9 xs i=some v):∃j,seqIndex? i xs.length=some j/\xs[j]? =some v/\j<xs.length/\ -(xs.length:Int)<=i/\i<xs.length:=by
 unfold S9 at h
 cases e:WX xs.length i with
 |none=>rw[e]at h;cases h
 |some j=>rw[e]at h;obtain⟨h1,h2,h3,h4⟩:=BS e;exact⟨j,h1,h,h2,h3,h4⟩
noncomputable def pf:PV->Option PK
 |.int i=>some (.inl i)
 |.str l=>some (.inr l)
 |_=>none
noncomputable def lM(kvs:List (PK×PV))(k:PK):Option PV:=(kvs.find? fun kv=>decide (kv.1=k)).map (·.2)
def b_(p q:PV)(h:Y3):Res PV:=match p,q with
 |.str l,.int i=>match S9 l i with
  |some c=>if l.length<=sizeLine then .ok (.str [c]) h else .bad
  |none=>.bad
 |.tup xs,.int i=>match S9 xs i with
  |some v=>.ok (aj h v) h
  |none=>.bad
 |p,q=>match Ye h p with
  |some kvs=>match pf q with
   |some k=>match lM kvs k with
    |some v=>.ok (aj h v) h
    |none=>.bad
   |none=>.bad
  |none=>match W9 h p with
   |some xs=>match q with
    |.int i=>match S9 xs i with
     |some v=>.ok (aj h v) h
     |none=>.bad
    |_=>.bad
   |none=>.bad
def cut{α:Type}(xs:List α)(lo hi:Zp):List α:=(xs.drop (Z.J8 xs.length 0 lo)).take (Z.J8 xs.length xs.length hi - Z.J8 xs.length 0 lo)
abbrev Ox:=Ev->Y3->Res Zp
noncomputable def fL:Ox:=fun _ h=>.ok none h
def dZ(f:Ex):Ox:=fun ρ h=>(f ρ h).bind fun p h1=>match p with
 |.int i=>.ok (some i) h1
 |_=>.bad
def pSl(p:PV)(lo hi:Zp)(h:Y3):Res PV:=match p with
 |.str l=>if l.length<=sizeLine then .ok (.str (cut l lo hi)) h else .bad
 |.tup xs=>if Z.J8 xs.length 0 lo=0/\Z.J8 xs.length xs.length hi=xs.length then .bad else .ok (.tup (cut xs lo hi)) h
 |p=>match W9 h p with
  |some xs=>.ok (.lst (cut xs lo hi)) h
  |none=>.bad
def nQ(p:PV)(lo hi:Zp)(h:Y3):Res PV:=match p with
 |.tup xs=>if Z.J8 xs.length 0 lo=0/\Z.J8 xs.length xs.length hi=xs.length then .ok (.tup xs) h else .ok (.tup (cut xs lo hi)) h
 |p=>pSl p lo hi h
def iG(a:Ex)(lo hi:Ox):Ex:=fun ρ h=>(a ρ h).bind fun p h1=>(lo ρ h1).bind fun l h2=>(hi ρ h2).bind fun u h3=>nQ p l u h3
def Nq(lo hi:Zp)(n:Nat):Builtin.Str.strSliceIndices lo hi 1 n=(List.range (Z.J8 n n hi - Z.J8 n 0 lo)).map (Z.J8 n 0 lo+ ·):=by
 rw[<- sliceRange_one];unfold Builtin.Str.strSliceIndices
 have e1:∀d:Nat,d<=n->∀o:Zp,(match o with|none=>(d:Int)|some i=>(if(1:Int)>0 then max 0 (min (if i<0 then i+(n:Int)else i) n)else max (-1) (min (if i<0 then i+(n:Int)else i) ((n:Int) - 1))))=((Z.J8 n d o:Nat):Int):=by
  intro d hd o
  cases o with
  |none=>rfl
  |some i=>
   simp only[show(1:Int)>0 by decide,if_true,Z.J8]
   by_cases h:i<0
   .simp only[h,if_true];lia
   .simp only[h,if_false];lia
 have e2:=e1 0 (adx _) lo;have e3:=e1 n (acY _) hi;simp only[show(1:Int)>0 by decide,if_true]at e2 e3 |-;rw[<- e2,<- e3];rfl
def JF(l:Y1)(lo hi:Zp):Txt.slice (S l) lo hi=S (cut l lo hi):=by
 unfold Txt.slice;have hn:(S l).length=l.length:=db l;rw[hn,Nq];have hlo:=Z.XH l.length 0 (adx _) lo;have hhi:=Z.XH l.length l.length (acY _) hi
 split
 .rename_i h
  have h':Z.J8 l.length l.length hi - Z.J8 l.length 0 lo=l.length:=by simpa using h
  have e0:Z.J8 l.length 0 lo=0:=by lia
  unfold cut;rw[h',e0];simp
 .rw[pick_run];show(⟨_⟩:Str)=⟨_⟩
  unfold cut;simp[S]
def nV{F:Fz}{k:PK}(r:aQ G F m p u)(e:pf p=some k):(pk G.prog G.w).is k u=true:=by cases r<;>cases e<;>simp[pk,kIs,Value.isInt,Value.isStrOf]
theorem rT{G:SC}{F:Fz}{m:Zs}:∀{J0:List (PK×PV)}{kvs:List (PK×Value)},kvs.map (·.1)=J0.map (·.1)->ay G F m (J0.map (·.2)) (kvs.map (·.2))->∀k:PK,(∃p v,lM J0 k=some p/\valueAt kvs k=some v/\aQ G F m p v)\/(lM J0 k=none/\valueAt kvs k=none)
 |[],[],_,_,k=>.inr ⟨rfl,rfl⟩
 |[],_::_,h,_,_=>by simp at h
 |_::_,[],h,_,_=>by simp at h
 |(a,p)::ps,(b,v)::vs,h,.cons r t,k=>by
  simp only[ac5,afN]at h;obtain⟨rfl,h⟩:=h;unfold lM valueAt;rw[agu,agu]
  by_cases z:b=k
  .simp only[z,decide_true];exact .inl ⟨p,v,rfl,rfl,r⟩
  .simp only[z,decide_false];exact rT h t k
section
variable{w:Wo}{a b:Expr}{fb:Ex}{p2:Pos}
def Qi(value slice:Expr)(hs:∀o i,subscripted slice false o i=operate [o,i] (getItem o i)):Wr X (subscriptTail value slice) b_:=fun{w h p q u u2 Q E} I rp rq k=>by
 have hl:sizeLine=16777216:=afz;unfold b_ at k
 split at k
 .cases rp;obtain⟨_,rfl⟩:=rq.vi
  split at k
  .rename_i c e
   split at k
   .rename_i z;obtain⟨j,h1,h2,h3,h4,h5⟩:=xJ e;exact tail_any (agf w.s _ _) slot_str_getitem.lookup (getItem_str (c:=c) (by rw[ahD];exact⟨decide_eq_false ⋯,decide_eq_false ⋯⟩) (by rw[db,h1];simpa[S]using h2) (k.now I.toHR (.str [c] _))) (hs _ _)
   .exact k.elim
  .exact k.elim
 .obtain⟨_,rfl⟩:=rq.vi
  split at k
  .rename_i e;obtain⟨a,its,rfl,y,z,r⟩:=I.sq rp rfl;obtain⟨j,h1,h2,h3,h4,h5⟩:=xJ e;obtain⟨u,eu,ru⟩:=r.get h2;have l:=r.len;exact aha (x:=u) y.tup.typeIs ahU.lookup (getItem_tuple (j:=j) (Q:=fun r s'=>r=u/\Q r s') y.tup ⋯ ⋯ (by rw[<- l];exact h1) (by simpa using eu) ⟨rfl,k.here I.toHR (I.Wq ru)⟩) (hs _ _)
  .exact k.elim
 .split at k
  .rename_i ed
   split at k
   .rename_i kk ek
    split at k
    .rename_i v ev;obtain⟨a,kvs,rfl,y,d,r⟩:=I.dc rp ed;rcases rT r.2.1 r.2.2 kk with⟨p1,v1,h1,h2,r1⟩|⟨h1,_⟩<;>rw[ev]at h1<;>cases h1
     have hT:w.s.TypeIs (.ref a) "dict":=d.mapOf.typeIs;unfold subscriptTail;refine ac0 ?_;rw[getitemInPython_of_ne hT.not_modules];refine ac0 (ahf hT F.slot_dict_getitem.lookup ?_)
     have fin:Wp X (subscripted slice false (.ref a) u2) (fun r s₃=>Wp X (letTemporaryGo value (.ref a) r >>= fun _=>pure r) Q E s₃) E w.s:=by rw[hs];exact wpAny_operating (wpAny_getItem_of (nV rq ek) d.mapOf h2 (ac0 (wpAny_letTemporaryGo (adf (k.now I.toHR (I.Wq r1))))))
     first
      |exact adf (ac0 fin)
      |exact ac0 (adf (ac0 fin))
      |exact ac0 fin
    .exact k.elim
   .exact k.elim
  .split at k
   .rename_i el
    split at k
    .rename_i i _ _;obtain⟨_,rfl⟩:=rq.vi
     split at k
     .rename_i e;obtain⟨a,its,rfl,y,z,r⟩:=I.sq rp (gS el);obtain⟨j,h1,h2,h3,h4,h5⟩:=xJ e;obtain⟨u,eu,ru⟩:=r.get h2;have l:=r.len;have fin:=k.here I.toHR (I.Wq ru)
      by_cases h0:0<=i
      .exact item_listR y.pl.isList h0 ⋯ (by rw[show i.toNat=j by rw[aij h0 h5]at h1;exact aex h1];simpa using eu) fin (hs _ _)
      .exact aha (x:=u) y.pl.isList.typeIs ah1.lookup (wpAny_getItem_list_neg (Q:=fun r s'=>r=u/\Q r s') y.pl.isList ⋯ ⋯ ⋯ (by rw[show(i+(its.size:Int)).toNat=j by rw[ah2 ⋯ h4]at h1;rw[<- l];exact aex h1];simpa using eu) ⟨rfl,fin⟩) (hs _ _)
     .exact k.elim
    .exact k.elim
   .exact k.elim
def NA(ha:RE X a fa)(hb:RE X b fb)(hs:∀o i,subscripted b false o i=operate [o,i] (getItem o i):=by intro _ _;rfl):RE X (.Subscript a b pos) (c2 b_ fa fb):=⟨fun I p=>Subscript_ (two (Qi a b hs) ha hb I p)⟩
structure RO(X:Cx)(e:Option Expr)(f:Ox):Prop where
 r:∀{w:Wo}{ρ:Ev}{h:Y3}{Q:Yf}{E:Yf},Inv X w ρ h->bG X (fun _ o u=>IsPart u o) w Q E (f ρ h)->Wp X (evalPart e X.env) Q E w.s
def HI:RO X none fL:=⟨fun I p=>by rw[evalPart_none];exact adf (p.here I.toHR .none)⟩
def HH(ha:RE X a fa):RO X (some a) (dZ fa):=⟨fun I p=>by
 rw[evalPart_some]
 exact ha.r I (p.bind fun _ _ _ _ y r p=>by
  cases r with
  |int i t=>exact p.here y.2 (.int i t)
  |_=>exact p.elim)⟩
def Nw.also(H:HR X.toSC w h)(k:∀b o,w.s.heap.get? b=some o->s'.heap.get? b=some o)(ho:(s'.os=w.s.os)\1)(hg:(s'.gens=w.s.gens)\1):Nw X w { w with s:=s' } h:=
 ⟨⟨ho,fun q=>hg▸q,fun _ _ e=>e,fun _ _ e=>e,⟨[],by simp⟩,fun b o e=>⟨o,k b o e⟩,fun b o q _=>⟨o.slots,⟨k b o q.1,q.2⟩,.inr rfl⟩⟩,H.on fun b o e _=>k b o e⟩
theorem ay.cut{G:SC}{F:Fz}{m:Zs}{ps:Y2}{vs:Z3}(r:ay G F m ps vs)(lo hi:Zp):ay G F m (Z.cut ps lo hi) (Z.cut vs lo hi):=by unfold Z.cut;rw[<- r.length];exact((r.td _).2.td _).1
def xy(xs:List α)(lo hi:Zp):(Z.cut xs lo hi).length<=xs.length:=by
 unfold Z.cut;rw[adU,adS]
 lia
theorem Wd.sl(I:Wd X w h){p:PV}{u vl vu:Value}{lo hi:Zp}{sl:Addr}(rp:aQ X.toSC w.F w.m p u)(hs:w.s.heap.IsSliceOf sl vl vu .none)(pl:IsPart vl lo)(pu:IsPart vu hi)(k:bG X (RV X.toSC) w Q E (nQ p lo hi h)):∃T id,typeLookup (.type T) "__getitem__"=pure (some (.builtin id))/\w.s.TypeIs u T/\Wp X (getItem u (.ref sl)) Q E w.s:=by
 unfold nQ at k
 split at k
 .obtain⟨a,its,rfl,y,z,r⟩:=I.sq rp rfl;have l:=r.len;refine⟨"tuple",_,ahU.lookup,y.tup.typeIs,?_⟩
  split at k
  .exact Z.Vb y.tup hs pl pu (by rw[<- l];assumption) (k.here I.toHR rp)
  .exact Z.Va y.tup hs pl pu (by rw[<- l];assumption) (k.seq I.toHR rfl (r.cut lo hi) (adu (xy its.toList lo hi) z)) z
 .unfold pSl at k
  split at k
  .obtain⟨_,rfl⟩:=rp.vs
   split at k
   .refine⟨"str",_,F.slot_str_getitem.lookup,agf _ _ _,?_⟩;have fin:∀t k,Q (.str (Txt.slice (S _) lo hi) t) { w.s with toks:=k }:=fun t _=>by rw[JF];exact k.now I.toHR (.str _ t)
    have hz:∀lo hi,(Txt.slice (S _) lo hi).length<=sizeLine:=fun lo hi=>adu (Txt.slice_le _ _ _) (by rw[db];assumption)
    cases pl with
    |none=>cases pu with
     |none=>exact afg (l:=none) (u:=none) (st:=none) hs rfl (ags ⟨hz _ _,fin⟩)
     |int j u=>exact afg (l:=none) (u:=some (j,u)) (st:=none) hs rfl (ags ⟨hz _ _,fin⟩)
    |int i t=>cases pu with
     |none=>exact afg (l:=some (i,t)) (u:=none) (st:=none) hs rfl (ags ⟨hz _ _,fin⟩)
     |int j u=>exact afg (l:=some (i,t)) (u:=some (j,u)) (st:=none) hs rfl (ags ⟨hz _ _,fin⟩)
   .exact k.elim
  .rename_i n;exact(n _ rfl).elim
  .split at k
   .rename_i e;obtain⟨a,its,rfl,y,z,r⟩:=I.sq rp (gS e);refine⟨"list",_,ah1.lookup,y.pl.isList.typeIs,wpAny_getItem_list_slice y.pl.isList hs pl pu .none (by simp) ?_ z⟩;rw[show its=its.toList.toArray by simp,uH];exact k.seq I.toHR rfl (r.cut lo hi) (adu (xy its.toList lo hi) z)
   .exact k.elim
def Dd{lo hi:Option Expr}{fl fu:Ox}(ha:RE X a fa)(hl:RO X lo fl)(hh:RO X hi fu):RE X (.Subscript a (.Slice lo hi none p2) pos) (iG fa fl fu):=⟨fun I k=>Subscript_ (ha.r I (k.bind fun _ _ p u y r k=>wpAny_Slice (hl.r (I.on y) (k.bind fun _ _ l vl y1 pl k=>hh.r ((I.on y).on y1) (k.bind fun w h h' vu y2 pu k=>by rw[evalPart_none];refine adf ?_;have n:=Nw.also (X:=X) (s':={ w.s with heap:=w.s.heap.push { cls:=.type "slice",data:=.fields #[vl,vu,.none] } }) y2.2 fun b o e=>ada _ e;obtain⟨T,id,a,b,c⟩:=((((I.on y).on y1).on y2).on n).toWd.sl (y2.1.rep (y1.1.rep r)) (Heap.IsSliceOf.new w.s.heap vl vu .none) pl pu (k.step n);exact tail_any (ops:=[.ref w.s.heap.objs.size,u]) b a c (by with_unfolding_all rfl))))))⟩
end
inductive SR where
 |nx (ρ:Ev) (h:Y3)|rt (v:PV) (h:Y3)|bk (ρ:Ev) (h:Y3)|ct (ρ:Ev) (h:Y3)|exc (e:PV) (h:Y3)|bad
abbrev Sx:=Ev->Y3->SR
noncomputable def aS:Sx:=fun ρ h=>.nx ρ h
noncomputable def aq(f g:Sx):Sx:=fun ρ h=>match f ρ h with
 |.nx ρ1 h1=>g ρ1 h1
 |.rt v h1=>.rt v h1
 |.bk ρ1 h1=>.bk ρ1 h1
 |.ct ρ1 h1=>.ct ρ1 h1
 |.exc v h1=>.exc v h1
 |.bad=>.bad
noncomputable def gB{α:Type}(f:Res α)(k:α->Y3->SR):SR:=match f with
 |.ok v h=>k v h
 |.exc e h=>.exc e h
 |.bad=>.bad
def eY(f:Res PV)(k:PV->Y3->SR):SR:=gB f k
def CA(f:Res Bool)(k:Bool->Y3->SR):SR:=gB f k
def Ga(f:Res Y2)(k:Y2->Y3->SR):SR:=gB f k
@[simp] theorem Ha(v:Bool)(h:Y3)(k:Bool->Y3->SR):CA (.ok v h) k=k v h:=rfl
@[simp] theorem FZ(v:Y2)(h:Y3)(k:Y2->Y3->SR):Ga (.ok v h) k=k v h:=rfl
noncomputable def aL(f:Ex):Sx:=fun ρ h=>eY (f ρ h) fun v h1=>.rt v h1
def bJ(f:Ex):Sx:=fun ρ h=>eY (f ρ h) fun _ h1=>.nx ρ h1
def o8(t:Tx)(f g:Sx):Sx:=fun ρ h=>CA (t ρ h) fun b h1=>if b=true then f ρ h1 else g ρ h1
def aH(i:Nat)(f:Ex):Sx:=fun ρ h=>eY (f ρ h) fun v h1=>.nx (ρ.set i (some v)) h1
abbrev Gx:=PV->Ev->Option Ev
noncomputable def N6(i:Nat):Gx:=fun p ρ=>some (ρ.set i (some p))
abbrev ZR:=Y2->Ev->Option Ev
noncomputable def pB:ZR:=fun ps ρ=>match ps with
 |[]=>some ρ
 |_=>none
noncomputable def fO(g:Gx)(gs:ZR):ZR:=fun ps ρ=>match ps with
 |p::r=>match g p ρ with
  |some ρ1=>gs r ρ1
  |none=>none
 |_=>none
noncomputable def Zj(n:Nat)(gs:ZR):Gx:=fun p ρ=>match p with
 |.tup ps=>if ps.length=n then gs ps ρ else none
 |_=>none
def Ae(g:Gx)(f:Ex):Sx:=fun ρ h=>eY (f ρ h) fun v h1=>match g v ρ with
 |some ρ'=>.nx ρ' h1
 |none=>.bad
abbrev Wc(X:Cx)(w w':Wo):Prop:=M8 X.fs X.W w w'
def bp(X:Cx)(w:Wo)(Q:Flow->Shared->Prop)(E:Yf):SR->Prop
 |.nx ρ h=>X.Ep E/\∀w',Wc X w w'->Inv X w' ρ h->Q .next w'.s
 |.bk ρ h=>X.Ep E/\∀w',Wc X w w'->Inv X w' ρ h->Q .brk w'.s
 |.ct ρ h=>X.Ep E/\∀w',Wc X w w'->Inv X w' ρ h->Q .cont w'.s
 |.rt v h=>X.Ep E/\∀w' u ρ,Wc X w w'->Inv X w' ρ h->aQ X.toSC w'.F w'.m v u->Q (.ret u) w'.s
 |.exc e h=>X.Ep E/\∀w' u ρ,Wc X w w'->Inv X w' ρ h->pP X w w' e u->E u w'.s
 |.bad=>False
structure RS(X:Cx)(st:Stmt)(f:Sx):Prop where
 r:∀{w:Wo}{ρ:Ev}{h:Y3}{Q:Flow->Shared->Prop}{E:Yf},Inv X w ρ h->bp X w Q E (f ρ h)->Wp X (exec st X.env) Q E w.s
structure Xk(X:Cx)(st:List Stmt)(f:Sx):Prop where
 r:∀{w:Wo}{ρ:Ev}{h:Y3}{Q:Flow->Shared->Prop}{E:Yf},Inv X w ρ h->bp X w Q E (f ρ h)->Wp X (execs st X.env) Q E w.s
structure RG(X:Cx)(tg:Expr)(g:Gx):Prop where
 r:∀{w:Wo}{ρ ρ':Ev}{h:Y3}{p:PV}{u:Value}{Q:Unit->Shared->Prop}{E:Yf},Inv X w ρ h->aQ X.toSC w.F w.m p u->g p ρ=some ρ'->(∀w',Wc X w w'->Inv X w' ρ' h->Q () w'.s)->Wp X (assign tg X.env u) Q E w.s
section
variable{w:Wo}{a:Expr}{ta:Tx}{pos':Pos}{i:Nat}{Q:Flow->Shared->Prop}{sts aaA:List Stmt}{f g:Sx}
def Nw.s(y:Nw X w w1 h1):Wc X w w1:=y.1.weak fun _ z=>z.elim
def bp.ep{r:SR}(p:bp X w Q E r):X.Ep E:=by cases r<;>first|exact p.1|exact p.elim
theorem bp.step{r:SR}(p:bp X w Q E r)(x:Wc X w w1):bp X w1 Q E r:=match r with
 |.nx _ _=>⟨p.1,fun w' y=>p.2 w' (x.trans y)⟩
 |.bk _ _=>⟨p.1,fun w' y=>p.2 w' (x.trans y)⟩
 |.ct _ _=>⟨p.1,fun w' y=>p.2 w' (x.trans y)⟩
 |.rt _ _=>⟨p.1,fun w' u ρ y=>p.2 w' u ρ (x.trans y)⟩
 |.exc _ _=>⟨p.1,fun w' u ρ y I r=>p.2 w' u ρ (x.trans y) I (r.back x)⟩
 |.bad=>p
theorem bp.e0{β:Type}{R:Wo->α->β->Prop}{r:Res α}{k:α->Y3->SR}{G:β->Shared->Prop}(p:bp X w Q E (gB r k))(I:Inv X w ρ h)(c:∀w1 h1 a x,Nw X w w1 h1->Inv X w1 ρ h1->R w1 a x->bp X w Q E (k a h1)->G x w1.s):bG X R w G E r:=match r with
 |.ok a h=>⟨p.ep,fun w' x y q=>c w' h a x y (I.on y) q p⟩
 |.exc _ _=>⟨p.1,fun w' u y r=>p.2 w' u ρ y.s (I.on y) r⟩
 |.bad=>p
def bp.e{β:Type}{R:Wo->α->β->Prop}{r:Res α}{k:α->Y3->SR}{G:β->Shared->Prop}(p:bp X w Q E (gB r k))(I:Inv X w ρ h)(c:∀w1 h1 a x,Nw X w w1 h1->Inv X w1 ρ h1->R w1 a x->bp X w1 Q E (k a h1)->G x w1.s):bG X R w G E r:=p.e0 I fun w1 h1 a x y I r p=>c w1 h1 a x y I r (p.step y.s)
def bp.here(p:bp X w Q E (.nx ρ h))(I:Inv X w ρ h):Q .next w.s:=p.2 w .refl I
def Inv.store{Q:Unit->Shared->Prop}(I:Inv X w ρ h)(hi:X.N[i]? =some x)(hx:X.env.kindOf x=some .local\/(X.env.kindOf x=some .cell/\X.fn x=true))(r:aQ X.toSC w.F w.m p u)(q:∀w',Wc X w w'->Inv X w' (ρ.set i (some p)) h->Q () w'.s):Wp X (storeName X.env x u) Q E w.s:=by
 obtain⟨m,o,n,hl,l⟩:=I.loc;have hi':i<ρ.length:=by rw[I.ln];exact(ac9.mp hi).1
 have go:∀{a:Addr}{s':Shared}(oa oa':Obj),Has w a oa->X.W a->Heap.SameBut a w.s.heap s'.heap->s'.heap.get? a=some oa'->s'.os=w.s.os->s'.gens=w.s.gens->(∀vs,oa'.data≠.fields vs)->
   (∃m',s'.heap.Ns X.L m'/\∀(j:Nat)(y:Str)(v:Value),X.N[j]? =some y->if j=i then zQ X.env s'.heap m' y u else zQ X.env w.s.heap m y v->zQ X.env s'.heap m' y v)->(∀y c,X.env.cells.lookup y=some c->∃v,s'.heap.IsCell c v)->Q () s':=by
  intro a s' oa oa' ha wa sb ea eo eg ed ⟨m',n',lk⟩ cl;have on:∀b o,b≠a->w.s.heap.get? b=some o->s'.heap.get? b=some o:=fun b o z e=>(sb.2 b z).trans e
  have hs:∀b o,Has w b o->∃o',Has { w with s:=s' } b o'/\(b≠a->o'=o)/\(b=a->o'=oa'):=fun b o q=>by
   by_cases z:b=a
   .subst z;exact⟨oa',⟨ea,q.2⟩,fun z=>absurd rfl z,fun _=>rfl⟩
   .exact⟨o,⟨on b o z q.1,q.2⟩,fun _=>rfl,fun z'=>absurd z' z⟩
  have st:Wc X w { w with s:=s' }:=⟨eo,fun q=>eg▸q,fun _ _ e=>e,fun _ _ e=>e,⟨[],by simp⟩,fun b o e=>by
   by_cases z:b=a
   .subst z;exact⟨_,ea⟩
   .exact⟨o,on b o z e⟩,fun b o q nw=>⟨o.slots,⟨on b o (fun z=>nw (z▸wa)) q.1,q.2⟩,.inr rfl⟩⟩
  refine q { w with s:=s' } st ⟨I.toWd.on st (fun b hb z=>?_) (I.toHR.on fun b o e z=>on b o ?_ e),I.ok,?_,fun y c e=>?_,by simp[I.ln]⟩
  .obtain⟨o,q,d⟩:=I.fr b hb;obtain⟨o',q',z1,z2⟩:=hs b o q;refine⟨o',q',?_⟩
   by_cases z:b=a
   .rw[z2 z];exact ed
   .rw[z1 z];exact d
  .rintro rfl
   exact z ha.2
  .obtain⟨o',q',_⟩:=hs _ _ hl;refine⟨m',o',n',q',fun j p' e=>?_⟩
   by_cases z:j=i
   .subst z;rw[aeR hi']at e
    cases e
    have:=lk j x u hi;rw[if_pos rfl]at this;exact⟨x,u,hi,r,this⟩
   .rw[aeL (aem z)]at e;obtain⟨y,v,e1,r',l'⟩:=l j p' e;have:=lk j y v e1;rw[if_neg z]at this;exact⟨y,v,e1,r',this l'⟩
  .obtain⟨v,o,_,q⟩:=I.XS y c e;obtain⟨o',q',_⟩:=hs c o q;obtain⟨v',z⟩:=cl y c e;exact⟨v',o',z,q'⟩
 have nx:∀j y,X.N[j]? =some y->j≠i->y≠x:=fun j y e z q=>z (by subst q;obtain⟨h1,e1⟩:=ac9.mp e;obtain⟨h2,e2⟩:=ac9.mp hi;exact(afG I.ok.nd).mp (e1.trans e2.symm))
 have cne:∀y c,X.env.cells.lookup y=some c->c≠X.L:=fun y c e z=>by obtain⟨v,o,⟨o',ho,hd⟩,_⟩:=I.XS y c e;obtain⟨o2,es,ep,ho',hd',_⟩:=n;rw[z,ho']at ho;cases ho;rw[hd']at hd;cases hd
 have adp:(X.env.scope.kind==.class||(X.env.scope.kind==.module&&X.env.locals !=X.env.globals))=false:=by rw[I.ok.kind];rfl
 rcases hx with hk|⟨hk,hf⟩
 .refine wpAny_storeName_local hk n (fun h' n' hs=>?_) adp;obtain⟨o',es,ep,e',d',_⟩:=id n';refine go o o' hl (.inl rfl) hs e' rfl rfl (fun vs z=>by rw[d']at z;cases z) ⟨_,n',fun j y v e=>?_⟩ fun y c e=>let⟨v,_,z,_⟩:=I.XS y c e;⟨v,z.sameBut hs (cne y c e)⟩
  split
  .rename_i z;subst z;cases e.symm.trans hi;exact .inl ⟨hk,by simp⟩
  .rename_i z
   rintro(⟨k,e'⟩|⟨k,c,e',q'⟩)
   .exact .inl ⟨k,by simp[nx j y e z,e']⟩
   .exact .inr ⟨k,c,e',q'.sameBut hs (cne y c e')⟩
 .obtain⟨c,hc⟩:=I.ok.has x (.inl hk);obtain⟨v0,oc,z0,hcc⟩:=I.XS x c hc;refine wpAny_storeName_cell I.ok.kind hk hc z0 (fun h' hc' hs=>?_);obtain⟨o',e',d'⟩:=id hc';refine go (s':={ w.s with heap:=h' }) oc o' hcc (.inr ⟨x,hf,hc⟩) hs e' rfl rfl (fun vs z=>by rw[d']at z;cases z) ⟨m,n.sameBut hs (aem (cne x c hc)),fun j y v e=>?_⟩ fun y d e=>?_
  .split
   .rename_i z;subst z;cases e.symm.trans hi;exact .inr ⟨.inl hk,c,hc,hc'⟩
   .rename_i z
    rintro(l|⟨k,d,e',q'⟩)
    .exact .inl l
    .exact .inr ⟨k,d,e',q'.sameBut hs fun q=>nx j y e z (I.ok.inj y x c (q▸e') hc)⟩
  .by_cases z:d=c
   .subst z;exact⟨_,hc'⟩
   .obtain⟨v,_,q',_⟩:=I.XS y d e;exact⟨v,q'.sameBut hs z⟩
end
noncomputable def bC(g:Gx)(body:Sx):Y2->Sx
 |[],ρ,h=>.nx ρ h
 |p::r,ρ,h=>match g p ρ with
  |some ρ1=>match body ρ1 h with
   |.nx ρ2 h2=>bC g body r ρ2 h2
   |.ct ρ2 h2=>bC g body r ρ2 h2
   |.bk ρ2 h2=>.nx ρ2 h2
   |.rt v h2=>.rt v h2
   |.exc v h2=>.exc v h2
   |.bad=>.bad
  |none=>.bad
def oK(it:Ax)(g:Gx)(body:Sx):Sx:=fun ρ h=>Ga (it ρ h) fun xs h1=>bC g body xs ρ h1
def whl(t:Tx)(body:Sx):Nat->Sx
 |0,_,_=>.bad
 |n+1,ρ,h=>CA (t ρ h) fun b h1=>if b=true then match body ρ h1 with
   |.nx ρ2 h2=>whl t body n ρ2 h2
   |.ct ρ2 h2=>whl t body n ρ2 h2
   |.bk ρ2 h2=>.nx ρ2 h2
   |.rt v h2=>.rt v h2
   |.exc v h2=>.exc v h2
   |.bad=>.bad
  else .nx ρ h1
section
variable{w:Wo}{a c:Expr}{ta:Tx}{pos':Pos}{i:Nat}{Q:Flow->Shared->Prop}{sts aaA:List Stmt}{f g:Sx}
def Inv.quiet(I:Inv X w ρ h):interactive X.env=false:=by simp[interactive,I.ok.kind]
def HD:Xk X [] aS:=⟨fun I p=>afL (p.here I)⟩
def EF(ha:RS X st f)(hb:Xk X sts g):Xk X (st::sts) (aq f g):=⟨fun{w ρ h Q E} I p=>agc (ha.r I (by
 unfold aq at p
 split at p<;>rename_i e<;>rw[e]
 .exact⟨p.ep,fun w' y I'=>hb.r I' (p.step y)⟩
 all_goals exact p))⟩
def Br(ha:RS X st f):Xk X [st] f:=⟨fun{w ρ h Q E} I p=>agc (ha.r I (by
 cases e:f ρ h<;>rw[e]at p
 .exact⟨p.1,fun w' y I'=>afL (p.2 w' y I')⟩
 all_goals exact p))⟩
def KP(ha:RE X a fa):RS X (.Return (some a) pos) (aL fa):=⟨fun{w ρ h Q E} I p=>ah0 (ha.r I (bp.e p I fun _ _ _ _ _ I r p=>p.2 _ _ ρ .refl I r))⟩
def HF(ha:RE X a fa)(hs:(swapsWith a none pos.line X.env=pure false)\1):RS X (.Expr a pos) (bJ fa):=⟨fun I p=>wpAny_Expr_any (ha.r I (bp.e p I fun _ _ _ _ _ I r p=>p.here I)) I.quiet hs⟩
def Nx(hc:RT X c ta)(ha:Xk X sts f)(hb:Xk X aaA g):RS X (.If c sts aaA pos) (o8 ta f g):=⟨fun I p=>wpAny_If (hc.r I (bp.e p I fun _ _ b _ _ I r p=>by
 subst r
 cases b
 .exact hb.r I p
 .exact ha.r I p))⟩
def KO(hi:(X.N[i]? =some x)\1)(hx:(X.env.kindOf x=some .local\/(X.env.kindOf x=some .cell/\X.fn x=true))\10)(ha:RE X a fa)(hs:(swapsWith a (some (.Name x pos')) pos.line X.env=pure false)\1):RS X (.Assign [.Name x pos'] a pos) (aH i fa):=
 ⟨fun I p=>wpAny_Assign_Name (ha.r I (bp.e p I fun _ _ _ _ _ I r p=>I.store hi hx r fun w' y I'=>p.2 w' y I')) hs⟩
def gU(hi:(X.N[i]? =some x)\1)(hx:(X.env.kindOf x=some .local\/(X.env.kindOf x=some .cell/\X.fn x=true))\10):RG X (.Name x pos) (N6 i):=⟨fun I r e q=>by cases e;exact agP (I.store hi hx r q)⟩
structure RGs(X:Cx)(tg:List Expr)(g:ZR):Prop where
 r:∀{w:Wo}{ρ ρ':Ev}{h:Y3}{p:Y2}{u:Z3}{Q:Unit->Shared->Prop}{E:Yf},Inv X w ρ h->ay X.toSC w.F w.m p u->g p ρ=some ρ'->(∀w',Wc X w w'->Inv X w' ρ' h->Q () w'.s)->Wp X (assignInOrder ((assignEach tg X.env).map (·.2)) u) Q E w.s
def rX:RGs X [] pB:=⟨fun I r e q=>by
 unfold pB at e
 split at e<;>cases e
 cases r
 exact assignInOrder_nil (q _ .refl I)⟩
def iX{e:Expr}{g:Gx}{gs:ZR}(h1:RG X e g)(h2:RGs X es gs)(hs:((assignEach (e::es) X.env).map (·.2)=assign e X.env::(assignEach es X.env).map (·.2))\1):RGs X (e::es) (fO g gs):=⟨fun I r e q=>by
 unfold fO at e
 split at e
 .split at e
  .rename_i e1
   cases r with
   |cons r t=>rw[hs];exact assignInOrder_cons (h1.r I r e1 fun w' y I'=>h2.r I' (y.reps t) e fun w2 y2=>q w2 (y.trans y2))
  .cases e
 .cases e⟩
def wH{gs:ZR}(hc:X.calm=true)(h:RGs X es gs)(hn:((assignEach es X.env).length=n)\1)(hst:((assignEach es X.env).findIdx? (·.1)=none)\1):RG X (.Tuple es k pos) (Zj n gs):=⟨fun{w ρ ρ' h p u Q E} I r e q=>by
 unfold Zj at e
 split at e
 .split at e
  .replace r:=I.sq r rfl
   obtain⟨a,its,rfl,y,z,r⟩:=r;refine assign_Tuple_tuple (I.ok.hd hc) y.tup (by rw[<- r.len,hn];exact Eq.symm ‹_›) hst fun h' hx=>?_;have n:=Nw.also (X:=X) (s':={ w.s with heap:=h' }) I.toHR fun b o e=>hx b o (aek (adE e)) e;exact ‹RGs X es gs›.r (I.on n) r e fun w2 y2=>q w2 (n.s.trans y2)
  .cases e
 .cases e⟩
def KR{g:Gx}(hg:RG X tg g)(ha:RE X a fa)(hs:(swapsWithSole [tg] a pos.line X.env=pure false)\1)(hw:(swappedStores [tg] a X.env=pure none)\1)(h1:((assignEach [tg] X.env).map (·.2)=[assign tg X.env])\1):RS X (.Assign [tg] a pos) (Ae g fa):=⟨fun I p=>wpAny_Assign_stores (ha.r I (bp.e p I fun _ _ _ _ _ I r p=>by
 rw[h1]
 split at p
 .exact hg.r I r ‹_› fun w' y I'=>p.2 w' y I'
 .exact p.elim)) hs hw⟩
end
def Xr(w w':Wo):Prop:=(∀a o,w.F a=some o->w'.F a=some o)/\Sub w.m w'.m
def M8.lat{fs:Zs}{W:Addr->Prop}{w w':Wo}(x:M8 fs W w w'):Xr w w':=⟨x.fz,x.sub⟩
def Xr.trans{w:Wo}(x:Xr w w1)(y:Xr w1 w2):Xr w w2:=⟨fun a o e=>y.1 a o (x.1 a o e),fun i a e=>y.2 i a (x.2 i a e)⟩
structure Pv(fp:Zs)(w w':Wo):Prop where
 os:w'.s.os=w.s.os
 ba:AllBare w.s.gens->AllBare w'.s.gens
 fz:∀a o,w.F a=some o->w'.F a=some o
 ow:∀d a,w.O d=some a->w'.O d=some a
 pre:∃t,w'.m=w.m++t
 dom:∀b o,b∉fp->w.s.heap.get? b=some o->∃o',w'.s.heap.get? b=some o'
 keep:∀b o,b∉fp->Has w b o->Has w' b o
def Pv.sub{fp:Zs}{w:Wo}(x:Pv fp w w1):Sub w.m w1.m:=fun i a e=>by obtain⟨t,z⟩:=x.pre;rw[z,ady (ac9.mp e).1];exact e
structure Hi(G:SC)(w0:Wo)(tg:Expr)(xs:Y2)(it:Addr)(fp:Zs)(tn:Nat->Heap->Prop):Prop where
 keep:∀{i:Nat}{w1 w2:Wo}{h1 h2:Y3},Xr w0 w1->HR G w1 h1->Xr w1 w2->HR G w2 h2->tn i w1.s.heap->(∀b∈fp,∀o,w1.s.heap.get? b=some o->w2.s.heap.get? b=some o)->tn i w2.s.heap
 item:∀{A:Around}{w:Wo}{h:Y3}{i:Nat}{p:PV}{Q:Yf}{E:Yf},A.handled=none->Xr w0 w->HR G w h->tn i w.s.heap->xs[i]? =some p->(∀b∈fp,∃o,Has w b o)->
  (∀u w',Pv fp w w'->HR G w' h->tn (i+1) w'.s.heap->(∀b∈fp,∃o,Has w' b o)->aQ G w'.F w'.m p u->Q u w'.s)->
  wpAny (model G.prog G.w) A (pyNext (.ref it)) (fun r s=>∃u,r=some u/\wpAny (model G.prog G.w) A (letOwnedTupleGo tg (.ref it) u) (fun _ s=>Q u s) E s) E w.s
 done:∀{A:Around}{w:Wo}{h:Y3}{i:Nat}{Q:Shared->Prop}{E:Yf},A.handled=none->Xr w0 w->HR G w h->tn i w.s.heap->xs.length=i->(∀b∈fp,∃o,Has w b o)->
  (∀w',Pv fp w w'->HR G w' h->Q w'.s)->wpAny (model G.prog G.w) A (pyNext (.ref it)) (fun r s=>r=none/\Q s) E w.s
 self:∀{A:Around}{i:Nat}{s:Shared}{Q:Yf}{E:Yf},A.handled=none->tn i s.heap->Q (.ref it) s->wpAny (model G.prog G.w) A (pyIter (.ref it)) Q E s
def Zu(X:Cx)(b:Addr):Prop:=b≠X.L/\b∉X.fs/\∀x c,X.env.cells.lookup x=some c->c≠b
def Zu.w(n:Zu X b):¬ X.W b:=fun z=>z.elim n.1 (by rintro ⟨x,_,e⟩;exact n.2.2 x b e rfl)
def Inv.out{w:Wo}(I:Inv X w ρ h)(n:w.s.heap.get? b=none):Zu X b:=by
 have k:∀{c o},Has w c o->b≠c:=fun q z=>by have q:=q.1;rw[<- z,n]at q;cases q
 obtain⟨_,_,_,q,_⟩:=I.loc;exact⟨k q,fun z=>let⟨_,q,_⟩:=I.fr b z;k q rfl,fun x c e=>let⟨_,_,_,q⟩:=I.XS x c e;aem (k q)⟩
def Yg(X:Cx)(tg:Expr)(w0 w:Wo)(xs:Y2)(v:Value):Prop:=∃it fp tn,v=.ref it/\Hi X.toSC w tg xs it fp tn/\tn 0 w.s.heap/\∀b∈fp,(∃o,Has w b o)/\Zu X b/\w0.s.heap.get? b=none
structure RI(X:Cx)(tg iter:Expr)(f:Ax):Prop where
 r:∀{w:Wo}{ρ:Ev}{h:Y3}{Q:Yf}{E:Yf},Inv X w ρ h->bG X (Yg X tg w) w Q E (f ρ h)->Wp X (eval iter X.env) (fun v s=>Wp X (pyIter v) Q E s) E w.s
section
variable{w:Wo}{it:Ax}{g:Gx}{body:List Stmt}{f:Sx}
def Inv.priv{fp:Zs}(I:Inv X w ρ h)(x:Pv fp w w1)(H:HR X.toSC w1 h1)(n:∀b∈fp,Zu X b):Inv X w1 ρ h1:=by
 obtain⟨m,o,n1,hl,q⟩:=I.loc;have k:=x.keep;have cl:∀x c,X.env.cells.lookup x=some c->c∉fp:=fun x c e z=>(n c z).2.2 x c e rfl;have ck:∀x c,X.env.cells.lookup x=some c->∀v,w.s.heap.IsCell c v->w1.s.heap.IsCell c v:=(by rintro y c e v ⟨o,q,d⟩;exact (let⟨_,o',⟨_,_,_⟩,hc⟩:=I.XS y c e;⟨o,(k c o (cl y c e) ⟨q,hc.2⟩).1,d⟩))
 have hL:X.L∉fp:=fun z=>(n _ z).1 rfl;refine⟨⟨H,x.ba I.ba,fun b o e=>x.fz _ _ (I.bs b o e),fun b hb=>let⟨o,q,d⟩:=I.fr b hb;⟨o,k b o (fun z=>(n b z).2.1 hb) q,d⟩⟩,I.ok,⟨m,o,?_,k _ _ hL hl,fun i p e=>?_⟩,fun y c e=>?_,I.ln⟩
 .obtain⟨o',es,ep,e,r⟩:=n1;exact⟨o',es,ep,(k _ _ hL ⟨e,hl.2⟩).1,r⟩
 .obtain⟨y,u,e1,r,l⟩:=q i p e;exact⟨y,u,e1,r.mono x.fz (.inr x.sub),l.imp_right (by rintro ⟨k,c,e,z⟩;exact ⟨k,c,e,ck y c e _ z⟩)⟩
 .obtain⟨v,o,z,hc⟩:=I.XS y c e;exact⟨v,o,ck y c e v z,k c o (cl y c e) hc⟩
def M8.priv{fp fs:Zs}{W:Addr->Prop}(x:M8 fs W w0 w)(y:Pv fp w w1)(n:∀b∈fp,w0.s.heap.get? b=none):M8 fs W w0 w1:=
 have k:∀{b o},w0.s.heap.get? b=some o->b∉fp:=fun e z=>by rw[n _ z]at e;cases e
 ⟨y.os.trans x.os,y.ba∘x.ba,fun a o e=>y.fz a o (x.fz a o e),fun a o e=>y.ow a o (x.ow a o e),let⟨t,e⟩:=x.pre;let⟨u,e'⟩:=y.pre;⟨t++u,by rw[e',e,ade]⟩,fun b o e=>let⟨o',q⟩:=x.dom b o e;y.dom b o' (k e) q,fun b o q z=>let⟨sl,q1,z1⟩:=x.keep b o q z;⟨sl,y.keep b _ (k q.1) q1,z1⟩⟩
inductive Lq0(X:Cx)(w0 w:Wo)(tn:Nat->Heap->Prop)(fp:Zs)(xs:Y2)(Q:Flow->Shared->Prop)(E:Yf)(g:Gx)(f:Sx)(n:Nat)(s:Shared):Prop where
 |mk (w1:Wo) (ρ1:Ev) (h1:Y3) (ys:Y2) (_:w1.s=s) (_:Wc X w0 w1) (_:Xr w w1) (_:Inv X w1 ρ1 h1) (_:ys.length=n) (_:ys=xs.drop (xs.length - n)) (_:n<=xs.length) (_:tn (xs.length - n) w1.s.heap) (_:(∀b∈fp,∃o,Has w1 b o)) (_:bp X w0 Q E (bC g f ys ρ1 h1))
def KQ(hp:∀E,X.Ep E->PassesOwn X.M X.A X.env E)(hc:X.calm=true)(hi:RI X tg iter it)(hg:RG X tg g)(hb:Xk X body f)(hs:(∀x,foldedSetIterable iter X.env x=pure x)\3):RS X (.For tg iter body [] pos) (oK it g f) where
 r {w0 ρ h Q E} I0 p:=by
  have hp:=hp E p.ep;refine wpAny_For (hi.r I0 (bp.e0 p I0 fun w h1 xs v y0 I r p=>?_)) hs;obtain⟨it,fp,tn,rfl,T,t0,fr⟩:=r;have no:=fun b hb=>(fr b hb).2.1;have nf:=fun b hb=>(fr b hb).2.2;refine codeAny_forLoop_any (Lq0 X w0 w tn fp xs Q E g f) ?_ xs.length ⟨w,ρ,h1,xs,rfl,y0.s,(M8.refl (fs:=[]) (W:=WL)).lat,I,rfl,by simp,adK _,by simpa using t0,fun b hb=>(fr b hb).1,p⟩
  rintro n s ⟨w1,ρ1,h1,ys,rfl,y1,l1,I1,ln,dr,le,t1,f1,p1⟩
  cases ys with
  |nil=>
   cases ln
   exact afm hp (aea (T.done (I1.ok.hd hc) l1 I1.toHR t1 (by simp) f1 (Q:=fun s=>wpAny X.M X.A (execs [] X.env) Q (notedBy X.M X.A X.env (cameBackBy X.M X.A X.env E)) s) fun w2 y2 H2=>afL (p1.2 w2 (y1.priv y2 nf) (I1.priv y2 H2 no))) (fun r s q=>by obtain⟨rfl,q⟩:=q;exact q) fun _ _ z=>z)
  |cons q ys=>
   have ln':ys.length+1=n:=ln;have eq:xs[xs.length - n]? =some q:=by rw[<- afp,<- dr];rfl
   unfold bC at p1
   split at p1
   .rename_i ρ2 e2;refine aea (T.item (I1.ok.hd hc) l1 I1.toHR t1 eq f1 (Q:=fun u s=>wpAny (model X.prog X.w) X.A (assign tg X.env u) ?R ?N s) ?c) (fun r s q=>by obtain⟨u,rfl,q⟩:=q;exact q) fun _ _ z=>z;intro u w2 y2 H2 t2 f2 r2;refine afm hp (hg.r (I1.priv y2 H2 no) r2 e2 fun w3 y3 I3=>afm hp (hb.r I3 ?_));have y03:=(y1.priv y2 nf).trans y3;have l2:Xr w w2:=l1.trans ⟨y2.fz,y2.sub⟩
    have t3:∀w4 h4,HR X.toSC w4 h4->Wc X w3 w4->tn (xs.length - ys.length) w4.s.heap/\∀b∈fp,∃o,Has w4 b o:=fun w4 h4 H4 y4=>by
     have k:∀b∈fp,∀o,Has w2 b o->Has w4 b o:=fun b hb o q=>by
      obtain⟨sl,q',z⟩:=(y3.trans y4).keep b o q (no b hb).w;rcases z with z|rfl
      .exact absurd z (no b hb).2.1
      .exact q'
     refine⟨?_,fun b hb=>let⟨o,q⟩:=f2 b hb;⟨o,k b hb o q⟩⟩;rw[show xs.length - ys.length=xs.length - n+1 by lia];exact T.keep l2 H2 (y3.trans y4).lat H4 t2 fun b hb o e=>let⟨o',q⟩:=f2 b hb;(k b hb o ⟨e,q.2⟩).1
    have dy:ys=xs.drop (xs.length - ys.length):=by rw[show xs.length - ys.length=xs.length - n+1 by lia,<- aeX,<- dr];rfl
    have go:∀ ρ4 h4,bp X w0 Q E (bC g f ys ρ4 h4)->∀w4,Wc X w3 w4->Inv X w4 ρ4 h4->∃m,m<n/\Lq0 X w0 w tn fp xs Q E g f m w4.s:=fun ρ4 h4 p4 w4 y4 I4=>⟨ys.length,by lia,w4,ρ4,h4,ys,rfl,y03.trans y4,l2.trans (y3.trans y4).lat,I4,rfl,dy,by lia,(t3 w4 h4 I4.toHR y4).1,(t3 w4 h4 I4.toHR y4).2,p4⟩
    split at p1<;>rename_i e3<;>rw[e3]
    .exact⟨p1.ep,go _ _ p1⟩
    .exact⟨p1.ep,go _ _ p1⟩
    all_goals exact p1.step y03
   .exact p1.elim
end
noncomputable def cO(h:Y3):PV->Option (PV×Y3)
 |.ref i=>match h[i]? with
  |some (.lst xs)=>if am xs=true then some (.lst xs,h.set i (.E_ (.lst xs)))else none
  |some (.dct _)=>none
  |some (.E_ p)=>some (p,h)
  |some (.obj _ _)=>none
  |none=>none
 |p=>if p.pure=true then some (p,h)else none
def fK(f:Ax):Ax:=fun ρ h=>(f ρ h).bind fun ps h1=>match ps with
 |[.int j]=>if V2 4611686018427387904 j=true then .ok ((List.range j.toNat).map fun i=>PV.int (0+(i:Nat))) h1 else .bad
 |_=>.bad
def lW(p:PV)(h:Y3):Res Y2:=match p with
 |.str l=>.ok (l.map fun c=>PV.str [c]) h
 |.tup xs=>.ok xs h
 |.lst xs=>.ok xs h
 |.VB xs=>.ok xs h
 |p=>match cO h p with
  |some (.lst xs,h2)=>.ok xs h2
  |_=>.bad
def gK(f:Ex):Ax:=fun ρ h=>(f ρ h).bind lW
section
variable{w:Wo}{p0:Pos}{a:Expr}{it:Addr}{xs:Y2}
def pS(H:HR G w h)(q:Has w it o)(k:∀b o,b≠it->w.s.heap.get? b=some o->s'.heap.get? b=some o)(ho:(s'.os=w.s.os)\1)(hg:(s'.gens=w.s.gens)\1):Pv [it] w { w with s:=s' }/\HR G { w with s:=s' } h:=
 ⟨⟨ho,fun q=>hg▸q,fun _ _ e=>e,fun _ _ e=>e,⟨[],by simp⟩,fun b o n e=>⟨o,k b o (by simpa using n) e⟩,fun b o n q=>⟨k b o (by simpa using n) q.1,q.2⟩⟩,H.on fun b o e' z=>k b o (by rintro rfl;exact z q.2) e'⟩
theorem Yg.new{tn:Nat->Heap->Prop}{tk:Nat}(I:Inv X w ρ h)(y:M8 X.fs WL w0 w)(T:Hi X.toSC w tg xs w.s.heap.objs.size [w.s.heap.objs.size] tn)(t:tn 0 (w.s.heap.push o))(ho:o.isFreed=false)(p:bG X (Yg X tg w0) w Q E (.ok xs h)):Q (.ref w.s.heap.objs.size) { w.s with heap:=w.s.heap.push o,toks:=tk }:=by
 have n:=Nw.also (X:=X) (s':={ w.s with heap:=w.s.heap.push o,toks:=tk }) I.toHR fun b o e=>ada _ e;refine p.2 _ _ n ⟨_,_,tn,rfl,⟨T.keep,T.item,T.done,T.self⟩,t,?_⟩;simp only[adl,forall_eq];refine⟨⟨o,ado _ ho,I.toHR.free (aW _)⟩,I.out (aW _),?_⟩
 cases q:w0.s.heap.get? w.s.heap.objs.size with
 |none=>rfl
 |some o=>obtain⟨o',q'⟩:=y.dom _ _ q;rw[aW]at q';cases q'
def OJ{M:Model}{s:Shared}{n:String}{vs:Array Value}{Q:Unit->Shared->Prop}(ho:s.heap.get? it=some o)(hc:o.cls=.type n)(hd:o.data=.fields vs)
    (hn: ["enumerate","zip","dict_itemiterator","dict_reverseitemiterator","odict_iterator","itertools.zip_longest","itertools.pairwise"].contains n=false) (hQ:Q () s):wpAny M A (letOwnedTupleGo tg (.ref it) u) Q E s:=by
  unfold letOwnedTupleGo
  cases tg<;>first
    |exact adf hQ
    |(cases u<;>first
      |exact adf hQ
      |(refine ac0 (wpAny_load ho ?_)
        rw[hc,hd];show wpAny M A (if(["enumerate","zip","dict_itemiterator","dict_reverseitemiterator","odict_iterator","itertools.zip_longest","itertools.pairwise"].contains n&&vs[0]? ==some (rawInt _))=true then _ else _) Q E s;rw[if_neg (by intro h;rw[hn,Bool.false_and]at h;cases h)];exact adf hQ))
def mw{St:Nat->Heap->Prop}{P:Nat->Value->Prop}{src:Zs}(W:∀A:Around,A.handled=none->Walks G.prog G.w A it (it::src) [it] n P St)(hl:xs.length=n)(fz:∀b∈src,∃o,w.F b=some o)
  (lv:∀i g,St i g->∃o m vs,g.get? it=some o/\o.cls=.type m/\o.data=.fields vs/\ ["enumerate","zip","dict_itemiterator","dict_reverseitemiterator","odict_iterator","itertools.zip_longest","itertools.pairwise"].contains m=false) (hP:∀i p v,xs[i]? =some p->P i v->aQ G w.F w.m p v):Hi G w tg xs it [it] St where
 keep {i w1 w2 h1 h2} l1 H1 l2 H2 st k:=(W callerA rfl).frame i _ _ st fun b hb o e=>by
  rcases ac8.mp hb with rfl|hb
  .exact k b (by simp) o e
  .obtain⟨o',q⟩:=fz b hb;rw[H1.at (l1.1 _ _ q)]at e
   cases e
   exact H2.at (l2.1 _ _ (l1.1 _ _ q))
 item {A w1 h i p Q E} hh y H st hx f q:=by
  obtain⟨o,ho⟩:=f it (by simp);refine(W A hh).item i _ _ _ (by rw[<- hl];exact(ac9.mp hx).1) st fun v h' tk hv v5 k=>⟨v,rfl,?_⟩
  obtain⟨o',m,vs,e',c,d,z⟩:=lv _ _ v5;obtain⟨a1,a2⟩:=pS (s':={ w1.s with heap:=h',toks:=tk }) H ho fun b o hb e=>k b o (by simpa using hb) e;exact OJ (s:={ w1.s with heap:=h',toks:=tk }) e' c d z (q v _ a1 a2 v5 (by simp;exact⟨o',e',ho.2⟩) ((hP i p v hx hv).mono y.1 (.inr y.2)))
 done {A w1 h i Q E} hh y H st hx f q:=by
  obtain⟨o,ho⟩:=f it (by simp);subst hl hx;refine(W A hh).done _ _ _ st fun h' tk k=>⟨rfl,?_⟩
  obtain⟨a1,a2⟩:=pS (s':={ w1.s with heap:=h',toks:=tk }) H ho fun b o hb e=>k b o (by simpa using hb) e;exact q _ a1 a2
 self hh st q:=(W _ hh).self _ _ _ _ st q
def HR.fix{i:Nat}{a:Addr}(H:HR X.toSC w h)(e:w.m[i]? =some a)(f:w.F a=none)(e1:w.s.heap.get? a=some o)(rr:aQ X.toSC (iD w.F a o) w.m p (.ref a))(pu:p.pure=true):Nw X w ⟨iD w.F a o,w.O,w.m,w.s⟩ (h.set i (.E_ p)):=by
 refine⟨⟨rfl,id,dw f,fun _ _ e=>e,⟨[],by simp⟩,fun b o e=>⟨o,e⟩,fun b o q _=>⟨o.slots,⟨q.1,q.2.1,dI (fun z=>q.2.1 (z▸adw e)) q.2.2.1,q.2.2.2⟩,.inr rfl⟩⟩,fun b x q=>?_,fun d b q=>let⟨o,z,y⟩:=H.own d b q;⟨o,z,dI (fun e'=>z (e'▸adw e)) y⟩,by simp[H.len],H.nd,fun j po b h1 h2=>?_⟩
 .by_cases z:b=a
  .subst z;cases bv.symm.trans q;exact e1
  .exact H.sub b x ((mO z).symm.trans q)
 .by_cases z:j=i
  .subst z
   cases h2.symm.trans e
   rw[aeR (H.len▸(ac9.mp e).1)]at h1
   cases h1
   exact⟨rr,pu,_,bv⟩
  .rw[aeL (aem z)]at h1;refine(H.obj j po b h1 h2).on (dw f) (fun _ e=>e) (fun _ _ e=>e) (fun _ _ e _=>e) (dI ?_)
   rintro rfl
   obtain⟨l1,e1⟩:=ac9.mp h2;obtain⟨l2,e2⟩:=ac9.mp e;exact z ((afG H.nd).mp (e1.trans e2.symm))
def HR.YB{q:PV}{h':Y3}(H:HR X.toSC w h)(r:aQ X.toSC w.F w.m p u)(k:cO h p=some (q,h')):∃F',Nw X w ⟨F',w.O,w.m,w.s⟩ h'/\aQ X.toSC F' w.m q u/\q.pure=true:=by
 unfold cO at k
 split at k
 .rename_i i
  cases r with
  |@ref _ a e=>
   cases q0:h[i]? <;>rw[q0]at k<;>try simp only at k
   .cases k
   .rename_i po
    cases po with
    |lst xs=>
     simp only at k
     split at k<;>cases k
     obtain⟨f,its,n,e1,z,r⟩:=H.obj _ _ _ q0 e;have rr:aQ X.toSC (iD w.F a ({ cls:=.type "list",data:=.seq its n })) w.m (.lst xs) (.ref a):=.lst bv z (r.mono (dw f) (.inr fun _ _ e=>e));have pu:(PV.lst xs).pure=true:=by simpa[PV.pure]using ‹_›
     exact⟨_,H.fix e f e1 rr pu,rr,pu⟩
    |E_ p=>simp only at k;cases k;obtain⟨r,z,_⟩:=H.obj _ _ _ q0 e;exact⟨w.F,⟨.refl,H⟩,r,z⟩
    |_=>cases k
 .split at k<;>cases k
  exact⟨w.F,⟨.refl,H⟩,r, ‹_›⟩
def KG(I:Inv X w ρ h)(y:M8 X.fs WL w0 w)(r:aQ X.toSC w.F w.m p v)(k:bG X (Yg X tg w0) w Q E (lW p h)):Wp X (pyIter v) Q E w.s:=by
 have seq:∀{w:Wo}{h:Y3}{xs:Y2}{p:PV}{t:String},Inv X w ρ h->M8 X.fs WL w0 w->aQ X.toSC w.F w.m p v->sqT p=some (t,xs)->bG X (Yg X tg w0) w Q E (.ok xs h)->Wp X (pyIter v) Q E w.s:=by
  intro w h xs p t I y r k q
  have tup:∀{a:Addr}{its:Array Value}{n:Nat},w.F a=some ({ cls:=.type "tuple",data:=.seq its n })->ay X.toSC w.F w.m xs its.toList->Wp X (pyIter (.ref a)) Q E w.s:=fun{a its n} e r=>by
   have ne:a≠w.s.heap.objs.size:=fun z=>by have:=I.toHR.at e;rw[z,aW]at this;cases this
   refine agD (items:=its) ⟨_,I.toHR.at e,rfl,n,rfl⟩ (Yg.new I y (mw (src:=[a]) (fun A hA=>aiF hA _ a ne its) r.len (fun b hb=>by simp at hb;exact⟨_,hb▸e⟩) (fun i g st=>let⟨o,e,c,d⟩:=st.1;⟨o,_,_,e,c,d,by decide⟩) fun i p v e h=>?_) ⟨⟨_,ado _ rfl,rfl,rfl⟩,⟨_,ada _ (I.toHR.at e),rfl,n,rfl⟩⟩ rfl q);obtain⟨u,e',r'⟩:=r.get e;rw[show its[i]? =some u by simpa using e']at h
   cases h;exact r'
  have lst:∀{a:Addr}{its:Array Value}{n:Nat},w.F a=some ({ cls:=.type "list",data:=.seq its n })->ay X.toSC w.F w.m xs its.toList->Wp X (pyIter (.ref a)) Q E w.s:=fun{a its n} e r=>by
   have ne:a≠w.s.heap.objs.size:=fun z=>by have:=I.toHR.at e;rw[z,aW]at this;cases this
   refine afv (items:=its) ⟨_,I.toHR.at e,rfl,n,rfl⟩ (Yg.new I y (mw (src:=[a]) (fun A hA=>aiw hA _ a ne its) r.len (fun b hb=>by simp at hb;exact⟨_,hb▸e⟩) (fun i g st=>let⟨o,e,c,d⟩:=st.1;⟨o,_,_,e,c,d,by decide⟩) fun i p v e h=>?_) ⟨⟨_,ado _ rfl,rfl,rfl⟩,⟨_,ada _ (I.toHR.at e),rfl,n,rfl⟩⟩ rfl q);obtain⟨u,e',r'⟩:=r.get e;rw[show its[i]? =some u by simpa using e']at h
   cases h;exact r'
  cases r<;>cases k
  .exact tup ‹_› ‹_›
  .exact lst ‹_› ‹_›
  .exact lst ‹_› ‹_›
 unfold lW at k
 split at k
 .rename_i l;obtain⟨_,rfl⟩:=r.vs
  have hP:∀(i:Nat)(p:PV)(v:Value),(l.map fun c=>PV.str [c])[i]? =some p->SignAt (S l) i v->aQ X.toSC w.F w.m p v:=fun i p v e ⟨c,t,e',e''⟩=>by
   rw[adO,show l[i]? =some c by simpa[S]using e']at e
   cases e;subst e'';exact .str [c] t
  cases ha:(S l).cps.all (· <128)
  .exact wpAny_pyIter_wide ha (Yg.new I y (mw (src:=[]) (fun A hA=>Walks.strWide hA _ _ _) (by simp[S]) (fun b hb=>nomatch hb) ((by rintro i g ⟨o,e,c,d⟩;exact ⟨o,_,_,e,c,d,by decide⟩)) hP) ⟨_,ado _ rfl,rfl,rfl⟩ rfl k)
  .exact wpAny_pyIter_ascii ha (Yg.new I y (mw (src:=[]) (fun A hA=>Walks.strAscii hA _ _ _) (by simp[S]) (fun b hb=>nomatch hb) ((by rintro i g ⟨o,e,c,d⟩;exact ⟨o,_,_,e,c,d,by decide⟩)) hP) ⟨_,ado _ rfl,rfl,rfl⟩ rfl k)
 .exact seq I y r rfl k
 .exact seq I y r rfl k
 .exact seq I y r rfl k
 .split at k
  .rename_i e;obtain⟨F',n,r',_⟩:=I.toHR.YB r e;exact seq (w:=⟨F',w.O,w.m,w.s⟩) (I.on n) (y.trans n.1) r' rfl (k.step n)
  .exact k.elim
def KS(ha:RE X a fa):RI X tg a (gK fa):=⟨fun I p=>ha.r I (p.bind fun _ _ _ _ y r p=>KG (I.on y) y.1 r p)⟩
def Da{e:Expr}{f:Ax}(hg:Gl X "range")(hm:X.mg "range"=none)(ha:RA X [e] f)(hs:(starEach [e] X.env= [(false,eval e X.env)])\1):RI X tg (.Call (.Name "range" p0) [e] [] pos) (fK f):=⟨fun I p=>Call_ (I.blt hg hm boot_range (callWith_type1 (ha.r pos I (p.bind fun w _ ps us y r p=>by
 split at p
 .rename_i j
  split at p
  .rename_i hb;have hb:=dU.mp hb
   cases r with
   |cons r t=>
    cases t;obtain⟨_,rfl⟩:=r.vi
    refine call_range_1 ?_;have n:=Nw.also (X:=X) (s':={ w.s with heap:=w.s.heap.push { cls:=.type "range",data:=.fields #[.int 0 w.s.toks,.int j ‹_›,.int 1 (w.s.toks+1)] },toks:=w.s.toks+1+1 }) y.2 fun b o e=>ada _ e;refine wpAny_pyIter_range (IsRange.new ..) (small_one ⋯ ⋯ ⋯ ⋯) (Yg.new ((I.on y).on n) (y.1.trans n.1) (mw (n:=j.toNat) (src:=[]) (fun A hA=>Walks.range hA _ 0 1 _) (by simp) (fun b hb=>nomatch hb) (fun i g st=>⟨_,_,_,st,rfl,rfl,by decide⟩) fun i p v e h=>?_) ?_ rfl (p.step n))
    .obtain⟨t,rfl⟩:=h;rw[adO]at e;obtain⟨q,e',rfl⟩:=adZ.mp e;obtain rfl:i=q:=by have:=ac9.mp e';simpa using this.2
     rw[Int.mul_one];exact .int _ t
    .show IsRangeIter _ _ (0+((0:Nat):Int) * 1) ((j.toNat:Int) - ((0:Nat):Int)) 1;rw[show(0:Int)+((0:Nat):Int) * 1=0 by simp,show(j.toNat:Int) - ((0:Nat):Int)=Builtin.Range.rangeSize 0 j 1 by rw[rangeSize_one];split<;>lia];exact ado _ rfl
  .exact p.elim
 .exact p.elim)) hs rfl))⟩
end
structure mW(N P:Zl)(sc:Scope):Prop where
 kind:sc.kind=.function
 co:sc.isCoroutine=false
 gen:sc.isGenerator=false
 nd:N.Nodup
 pre:N.take P.length=P
 par:∀x∈P,sc.names.lookup x=some .local\/sc.names.lookup x=some .cell
 aaE:∀y∈sc.names,y.2≠.free
theorem vU{kindOf:Str->Option NameKind}{x:Str}:∀{binds:List (Str×Value)}{m:Str->Option Value},(∀v,(x,v)∉binds)->bindL kindOf binds m x=m x
 |[],_,_=>rfl
 |(n,v)::r,m,h=>by
  unfold bindL;rw[vU fun w hw=>h w (ac1 _ hw)]
  split
  .have:x≠n:=by rintro rfl;exact h v ac4
   simp[this]
  .rfl
theorem vW{kindOf:Str->Option NameKind}{x:Str}:∀{binds:List (Str×Value)}{m:Str->Option Value},(∀v,(x,v)∉binds)->bindC kindOf binds m x=m x
 |[],_,_=>rfl
 |(n,v)::r,m,h=>by
  unfold bindC;rw[vW fun w hw=>h w (ac1 _ hw)]
  split
  .rfl
  .have:x≠n:=by rintro rfl;exact h v ac4
   simp[this]
theorem vV{kindOf:Str->Option NameKind}{x:Str}{v:Value}:∀{P:Zl}{vs:Z3}{i:Nat}{m:Str->Option Value},P.Nodup->P[i]? =some x->vs[i]? =some v->kindOf x=some .local->
  bindL kindOf (P.zip vs) m x=some v
 |[],_,_,_,_,h,_,_=>by simp at h
 |_::_,[],_,_,_,_,h,_=>by simp at h
 |p::P,w::vs,0,m,nd,h1,h2,hk=>by simp at h1 h2;subst h1;subst h2;show bindL kindOf ((p,w)::P.zip vs) m p=_;unfold bindL;rw[vU fun v hv=>(adL.mp nd).1 (agt hv).1,if_pos hk];simp
 |p::P,w::vs,i+1,m,nd,h1,h2,hk=>by show bindL kindOf ((p,w)::P.zip vs) m x=_;unfold bindL;exact vV (i:=i) (adL.mp nd).2 (by simpa using h1) (by simpa using h2) hk
theorem vX{kindOf:Str->Option NameKind}{x:Str}{v:Value}:∀{P:Zl}{vs:Z3}{i:Nat}{m:Str->Option Value},P.Nodup->P[i]? =some x->vs[i]? =some v->kindOf x≠some .local->
  bindC kindOf (P.zip vs) m x=some v
 |[],_,_,_,_,h,_,_=>by simp at h
 |_::_,[],_,_,_,_,h,_=>by simp at h
 |p::P,w::vs,0,m,nd,h1,h2,hk=>by simp at h1 h2;subst h1;subst h2;show bindC kindOf ((p,w)::P.zip vs) m p=_;unfold bindC;rw[vW fun v hv=>(adL.mp nd).1 (agt hv).1,if_neg hk];simp
 |p::P,w::vs,i+1,m,nd,h1,h2,hk=>by show bindC kindOf ((p,w)::P.zip vs) m x=_;unfold bindC;exact vX (i:=i) (adL.mp nd).2 (by simpa using h1) (by simpa using h2) hk
def zL{sc:Scope}(h:sc.names.lookup x=some .cell):∃c,(cellsFrom n sc.names []).lookup x=some c:=by have q:=aia sc.names n [] (.inl h);exact afb.mp q
structure fC(k:Nat)(A:Around):Prop where
 dp:A.depth+3 * k+5<recursionLimit
 un:A.units+16 * k+200<cLine
 gd:A.guards=some []
def fC.mono{j:Nat}(r:fC k A)(h:j<=k):fC j A:=⟨by have:=r.dp;lia,by have:=r.un;lia,r.gd⟩
theorem fC.deeper{k:Nat}{A:Around}(r:fC (k+1) A)(env:Env):fC k (A.deeper env):=
 ⟨by have:=r.dp;show A.depth+1+3 * k+5<_;lia,by have:=r.un;show A.units+3+16 * k+200<_;lia,r.gd⟩
def AC{C:Addr}:(A.under (.builtin "type.__call__" ⟨.ref C::us,kw⟩)).depth=A.depth+1:=by first|rfl|simp[Around.under,Code.weight,Code.isCreation,Code.isGuard,Code.isCaller,Code.frames,Code.isFrame,guardIds]
def AB{C:Addr}:(A.under (.builtin "type.__call__" ⟨.ref C::us,kw⟩)).units=A.units+1:=by first|rfl|simp[Around.under,Code.cUnits,Code.frames,Code.isFrame]
def fC.make(r:fC (k+1) A)(C:Addr)(us:Z3)(kw:List (Str×Value)):fC k (A.under (.builtin "type.__call__" ⟨.ref C::us,kw⟩)):=
 ⟨by have:=r.dp;rw[AC];lia,by have:=r.un;rw[AB];lia,by first|exact r.gd|(simp[Around.under,Code.guards,Code.isGuard,guardIds,pushGuards];exact r.gd)⟩
theorem fC.depth{k:Nat}{A:Around}(r:fC k A):A.depth<recursionLimit:=by have:=r.dp;lia
theorem fC.units{k:Nat}{A:Around}(r:fC k A):A.units+64<cLine:=by have:=r.un;lia
def ko(K:W.Frag)(fd:FuncData)(ps:Zl)(ds:Z3):Prop:=
 ∀(s:Shared)(us:Z3),K.In s.heap->(us++ds).length=ps.length->BindsTo s fd ⟨us,[]⟩ (ps.zip (us++ds))
def eX(s:Stmt)(j:Nat):Stmt:=match s with
 |.ClassDef _ _ _ body _ _ _ _ _ _ _=>body.getD j (.Pass ⟨0,0,0,0⟩)
 |_=>.Pass ⟨0,0,0,0⟩
def sF(s:Stmt):Arguments:=match s with
 |.FunctionDef _ a _ _ _ _ _ _ _ _=>a
 |_=> { posonlyargs:=[],args:=[],vararg:=none,kwonlyargs:=[],kw_defaults:=[],kwarg:=none,defaults:=[] }
def iP(s:Stmt):List Stmt:=match s with
 |.FunctionDef _ _ b _ _ _ _ _ _ _=>b
 |_=> []
def aP(s:Stmt):Scope:=match s with
 |.FunctionDef _ _ _ _ _ _ sc _ _ _=>sc
 |_=> { kind:=.function,names:=[],isGenerator:=false,isCoroutine:=false }
structure Fun(K:W.Frag)(x qual:Str)(st:Stmt)(f:Addr)(fd:FuncData):Prop where
 ex:∃(oc:Value)(od:Option Addr)(kV doc pm:Value)(an:Option Addr)(cdv ct:Value)(osl:Array (Option Value)),
  fd=W.fnOf x qual (sF st) (iP st) (aP st) .none kV doc pm an cdv ct/\K.lookup f=some ⟨oc,od,.func fd,osl⟩/\W.codeIn K cdv qual=true
 kp:W.keepIn K (.ref f)=true
noncomputable def st0(n:Nat)(ps:Y2):Ev:=ps.map some++List.replicate (n - ps.length) none
noncomputable def lw(c:Bool)(X:Cx)(N:Zl)(qual:Str)(scope:Scope)(f:Addr)(cd:Value)(A:Around)(s:Shared):Cx:=
 { X with A:=A.deeper (envOfC qual scope s.heap.objs.size f cd),N:=N,env:=envOfC qual scope s.heap.objs.size f cd,stack:=envOfC qual scope s.heap.objs.size f cd::X.stack,fn:=fun _=>true,calm:=c,tr:=true,Ep:=PassesOwn (model X.prog X.w) (A.deeper (envOfC qual scope s.heap.objs.size f cd)) (envOfC qual scope s.heap.objs.size f cd) }
def New(X Y:Cx)(w:Wo):Prop:=(∀b,Y.W b->w.s.heap.get? b=none)/\∀b∈Y.fs,b∈X.fs\/w.s.heap.get? b=none
section
variable{w:Wo}{N ps:Zl}{qual name:Str}{f:Addr}{cd:Value}{qs:Y2}
def Ku(env:Env)(ps:Zl)(us:Z3)(s s1:Shared):Prop:=∃h t,s1= { s with heap:=h,toks:=t }/\(∀b o,s.heap.get? b=some o->h.get? b=some o)/\∃m,h.Ns env.locals m/\∀(i:Nat) y u,ps[i]? =some y->us[i]? =some u->zQ env h m y u
def DI{s1:Shared}(S:mW N ps scope){c:Bool}(hd:c=true->A.handled=none)(hf:A.frames=some X.stack)(I:Wd X w h)(ok:X.Ok)(hl:qs.length=ps.length)(r:ay X.toSC w.F w.m qs us)
  (x:InCallC w.s w.s.heap.objs.size (bindL (envOfC qual scope w.s.heap.objs.size f cd).kindOf (ps.zip us) fun _=>none) (cellsFrom (w.s.heap.objs.size+1) scope.names []) (bindC (envOfC qual scope w.s.heap.objs.size f cd).kindOf (ps.zip us) fun _=>none) s1):
  New X (lw c X N qual scope f cd A w.s) w/\M8 X.fs WL w { w with s:=s1 }/\Inv (lw c X N qual scope f cd A w.s) { w with s:=s1 } (st0 N.length qs) h/\Ku (envOfC qual scope w.s.heap.objs.size f cd) ps us w.s s1:=by
 have WY:ps.length<=N.length:=by have:=congrArg List.length S.pre;rw[adU]at this;lia
 obtain⟨h1,tk,rfl,hk⟩:=x.done;have n:=Nw.also (X:=X) (s':={ w.s with heap:=h1,toks:=tk }) I.toHR hk;have W:=I.on n.1 (fun _ _ z=>z.elim) n.2;have nn:∀{b},w.s.heap.objs.size<=b->w.s.heap.get? b=none:=fun{b} z=>by cases q:w.s.heap.get? b with|none=>rfl|some o=>exact absurd (aeI (adE q) z) (adR _)
 have pv:∀{b o},w.s.heap.objs.size<=b->h1.get? b=some o->Has { w with s:={ w.s with heap:=h1,toks:=tk } } b o:=fun{b o} z e=>⟨e,I.toHR.free (nn z)⟩
 obtain⟨oL,es,ep,eL,dL,_⟩:=id x.toInCall.ns;have hL:=pv (adK _) eL;have ndP:ps.Nodup:=by rw[<- S.pre];exact S.nd.sublist (afx _ _)
 have lk:∀(i:Nat) y u,ps[i]? =some y->us[i]? =some u->zQ (envOfC qual scope w.s.heap.objs.size f cd) h1 (bindL (envOfC qual scope w.s.heap.objs.size f cd).kindOf (ps.zip us) fun _=>none) y u:=fun i y u hp hu=>by
  rcases S.par y (adw hp)with k|k
  .exact .inl ⟨k,vV ndP hp hu k⟩
  .obtain⟨c,e⟩:=zL (n:=w.s.heap.objs.size+1) k;refine .inr ⟨.inl k,c,e,?_⟩;have q:=x.cell y c e;rw[vX ndP hp hu (by show scope.names.lookup y≠_;rw[k];decide)]at q;exact q
 refine⟨⟨fun b z=>z.elim (fun z=>z▸aW _) (by rintro ⟨y,_,e⟩;exact nn (agA (x.above y b (aeD e)))),fun b z=>(ac8.mp (show b∈w.s.heap.objs.size::X.fs from z)).elim (fun z=>.inr (by rw[z];exact aW _)) .inl⟩,n.1,⟨⟨W.toHR,W.ba,W.bs,fun b hb=>?_⟩,⟨ok.V8,ok.gl,ok.bl,ok.nl,S.kind,rfl,rfl,fun y z c h1 h2=>?_,fun y hy=>?_,hd,agq hf,S.nd,fun e he=>?_⟩,⟨_,oL,x.toInCall.ns,hL,fun i p e=>?_⟩,fun y c e=>?_,?_⟩,_,_,rfl,hk,_,x.toInCall.ns,lk⟩
 .rcases ac8.mp (show b∈w.s.heap.objs.size::X.fs from hb)with rfl|hb
  .exact⟨oL,hL,fun vs z=>by rw[dL]at z;cases z⟩
  .exact W.fr b hb
 .exact name_of_addr x.apart (aeD h1) (aeD h2)
 .have hy:scope.names.lookup y=some .cell\/scope.names.lookup y=some .free:=hy;rcases hy with hy|hy
  .exact zL hy
  .exact absurd rfl (S.aaE _ (aeD hy))
 .rcases ac8.mp he with rfl|he
  .exact⟨by rw[show(envOfC qual scope w.s.heap.objs.size f cd).scope.kind=.function from S.kind];decide,_,rfl,by
    cases q:X.base.get? w.s.heap.objs.size with
    |none=>exact q
    |some o=>have:=I.bk q;rw[aW]at this;cases this⟩
  .exact ok.sf e he
 .have hi:i<qs.length:=by
   unfold st0 at e
   by_cases hi:i<qs.length
   .exact hi
   .rw[adI (by simpa using hi),afV]at e
    split at e<;>cases e
  have ha:qs[i]? =some p:=by
   unfold st0 at e;rw[ady (by simpa using hi),adO]at e
   cases e':qs[i]? with
   |none=>rw[e']at e;cases e
   |some a=>rw[e']at e;cases e;rfl
  obtain⟨u,hu,rv⟩:=r.get ha;obtain⟨y,hp⟩:∃y,ps[i]? =some y:=⟨ps[i],by simp[hl▸hi]⟩
  have hN:N[i]? =some y:=by rw[<- S.pre,aev ⋯]at hp;exact hp
  exact⟨y,u,hN,rv,lk i y u hp hu⟩
 .obtain⟨o,q,d⟩:=x.cell y c e;exact⟨_,o,⟨o,q,d⟩,pv (agA (x.above y c (aeD e))) q⟩
 .simp only[st0,acZ,ac2,agb];show _=N.length
  lia
abbrev RC(Q:Yf)(E:Yf)(r:Result)(s:Shared):Prop:=match r with
 |.ok (.ret u)=>Q u s
 |.ok _=>False
 |.error e=>E e s
def qF{c:Bool}{fd:FuncData}{args:Args}(F:Fun X.K name qual st f fd)(S:mW N ps (aP st))(hr:fC (k+1) A)(hd:c=true->A.handled=none)(hf:A.frames=some X.stack)(I:Wd X w h)(ok:X.Ok)(hl:qs.length=ps.length)(r:ay X.toSC w.F w.m qs us)(hb:BindsTo w.s fd args (ps.zip us))
  (go:∀cd s1,fC k (A.deeper (envOfC qual (aP st) w.s.heap.objs.size f cd))->New X (lw c X N qual (aP st) f cd A w.s) w->M8 X.fs WL w { w with s:=s1 }->Inv (lw c X N qual (aP st) f cd A w.s) { w with s:=s1 } (st0 N.length qs) h->Ku (envOfC qual (aP st) w.s.heap.objs.size f cd) ps us w.s s1->
   Wp (lw c X N qual (aP st) f cd A w.s) (execs (iP st) (lw c X N qual (aP st) f cd A w.s).env) (fun fl s=>match fl with|.ret u=>Q u s|.next=>Q .none s|_=>False) (fun e s=>Wp (lw c X N qual (aP st) f cd A w.s) (leaving (lw c X N qual (aP st) f cd A w.s).env e) (fun _ s=>E e s) E s) s1):
  codeAny (model X.prog X.w) A (.call (.ref f) args) (RC Q E) w.s:=by
 obtain⟨oc,od,kV,doc,pm,an,cdv,ct,osl,rfl,lk,Zz⟩:=F.ex;have KX:X.K.In w.s.heap:=ok.V8.keeps fun _ _ e=>I.bk e;have lim:w.s.heap.NoLimit:=ok.nl.keeps fun _ _ e=>I.bk e;have abM:∀y∈ps.zip us,(aP st).names.lookup y.1=some .local\/((aP st).names.lookup y.1=some .cell/\((cellsFrom (w.s.heap.objs.size+1) (aP st).names []).lookup y.1).isSome=true):=(by rintro ⟨n,v⟩ hy;exact (S.par n (agt hy).1).imp_right fun q=>⟨q,aia _ _ _ (.inl q)⟩)
 refine codeAny_call_function hr.depth (KX _ _ lk) rfl S.co S.gen rfl (W.codeRec_of KX Zz) (hb _ _ _ _ ?_);refine wpAny_newFunctionEnv_cells S.kind abM fun env he s1 x=>?_;subst he;refine⟨lim.keeps x.toInCall.keep,codeAny_func ?_⟩;obtain⟨nw,y,J,gr⟩:=DI (N:=N) (cd:=cdv) S hd hf I ok hl r x;refine aea (go cdv s1 (hr.deeper _) nw y J gr) (fun fl s' hs=>?_) fun e s' hs=>hs
 cases fl<;>first|exact hs|exact hs.elim
end
def Vl:Y2->Y3->Option (Y2×Y3)
 |[],h=>some ([],h)
 |p::r,h=>match cO h p with
  |some (q,h1)=>match Vl r h1 with
   |some (qs,h2)=>some (q::qs,h2)
   |none=>none
  |none=>none
inductive Out where
 |ok (v:PV)|bad
def aK(v:PV)(h:Y3):Out:=match cO h v with
 |some (q,_)=>.ok q
 |none=>.bad
def av(f:Sx)(np n:Nat)(ps:Y2):Out:=if ps.length=np then match f (ps.map some++List.replicate (n - ps.length) none) []with
  |.nx _ _=>.ok .non
  |.rt v h=>aK v h
  |_=>.bad
 else .bad
def fM(fn:Y2->Out)(ps:Y2)(h:Y3):Res PV:=match Vl ps h with
 |some (qs,h2)=>match fn qs with
  |.ok v=>.ok v h2
  |.bad=>.bad
 |none=>.bad
def aG(fn:Y2->Out)(as:Ax):Ex:=fun ρ h=>(as ρ h).bind (fM fn)
structure Zt(G:SC)(k:Nat)(f:Addr)(fd:FuncData)(ps:Zl)(fn:Y2->Out):Prop where
 len:∀qs v,fn qs=.ok v->qs.length=ps.length
 run:∀{X:Cx}{w:Wo}{h:Y3}{A:Around}{qs:Y2}{us:Z3}{v:PV}{args:Args}{Q:Yf}{E:Yf},X.toSC=G->fC k A->A.handled=none->A.frames=some X.stack->Wd X w h->X.Ok->ay G w.F [] qs us->fn qs=.ok v->BindsTo w.s fd args (ps.zip us)->
  (∀F' s' u,Nw X w ⟨F',w.O,w.m,s'⟩ h->aQ G F' [] v u->Q u s')->codeAny (model G.prog G.w) A (.call (.ref f) args) (RC Q E) w.s
section
variable{w:Wo}{N ps:Zl}{qual name:Str}{f:Addr}{fd:FuncData}{g:Sx}
def Wd.hide(I:Wd X w h):Wd X ⟨w.F,fun _=>none,[],w.s⟩ []:=⟨⟨I.sub,fun _ _ e=>(nomatch e),rfl,List.nodup_nil,fun _ _ _ e=>(nomatch e)⟩,I.ba,I.bs,fun b hb=>let⟨o,q,d⟩:=I.fr b hb;⟨o,⟨q.1,by simp,q.2.2.1,rfl⟩,d⟩⟩
def M8.out{Y:Cx}(nw:New X Y w)(y:Wc Y w w2):M8 X.fs WL w w2:=⟨y.os,y.ba,y.fz,y.ow,y.pre,y.dom,fun b o q _=>by
 obtain⟨sl,q',z⟩:=y.keep b o q fun z=>by have q:=q.1;rw[nw.1 b z]at q;cases q
 exact⟨sl,q',z.imp_left fun z=>(nw.2 b z).resolve_right fun z=>by have q:=q.1;rw[z]at q;cases q⟩⟩
def Nw.back{m0:Zs}{h':Y3}(I:Wd X w h)(y:M8 X.fs WL ⟨w.F,fun _=>none,m0,w.s⟩ w1)(H:HR X.toSC w1 h1)(hl:h'.length=h.length)(hm:∀a∈m0,a∈w.m)(ho:∀(i:Nat) po a,h'[i]? =some po->w.m[i]? =some a->a∈m0->uE X.toSC w1.F w.m w.O w1.s.heap a po)(hk:∀(i:Nat) po a,h'[i]? =some po->w.m[i]? =some a->a∉m0->h[i]? =some po):Nw X w ⟨w1.F,w.O,w.m,w1.s⟩ h':=by
 have k:∀b o,w.s.heap.get? b=some o->w.F b=none->b∉m0->∃sl,(w1.s.heap.get? b=some { o with slots:=sl }/\w1.F b=none)/\(b∈X.fs\/sl=o.slots):=fun b o e n z=>by obtain⟨sl,q,z⟩:=y.keep b o ⟨e,z,n,rfl⟩ fun z=>z;exact⟨sl,⟨q.1,q.2.2.1⟩,z⟩
 have k':∀b o,w.s.heap.get? b=some o->w.F b=none->b∉m0->b∉X.fs->w1.s.heap.get? b=some o/\w1.F b=none:=fun b o e n y z=>by
  obtain⟨sl,q,z'⟩:=k b o e n y;rcases z' with z'|rfl
  .exact absurd z' z
  .exact q
 have nf:∀{b},¬ W3 w b->b∉X.fs:=fun n z=>let⟨_,q,_⟩:=I.fr _ z;n q.2;have no:∀{b a},w.O b=some a->b∉m0:=fun e z=>let⟨_,y,_⟩:=I.own _ _ e;y (hm _ z);refine⟨⟨y.os,y.ba,y.fz,fun _ _ e=>e,⟨[],by simp⟩,y.dom,fun b o q _=>?_⟩,H.sub,fun d a e=>?_,hl.trans I.len,I.nd,fun i po a e1 e2=>?_⟩
 .obtain⟨sl,q',z⟩:=k b o q.1 q.2.2.1 fun z=>q.2.1 (hm _ z);exact⟨sl,⟨q'.1,q.2.1,q'.2,q.2.2.2⟩,z⟩
 .obtain⟨⟨o,q⟩,z,n⟩:=I.own d a e;exact⟨y.dom d o q,z,(k' d o q n (no e) (nf fun y=>by rw[y.2.2]at e;cases e)).2⟩
 .by_cases z0:a∈m0
  .exact ho i po a e1 e2 z0
  .refine(I.obj i po a (hk i po a e1 e2 z0) e2).on y.fz (fun _ e=>e) (fun _ _ e=>e) (fun b o e z=>?_) fun n=>?_
   .cases n:w.F b with
    |some x=>rw[I.sub b x n]at e;cases e;exact H.sub b _ (y.fz _ _ n)
    |none=>exact(k' b o e n (z.elim (fun z=>z▸z0) no) (nf fun y=>z.elim (fun z=>y.1 (z▸adw e2)) fun z=>by rw[y.2.2]at z;cases z)).1
   .obtain⟨o,q⟩:=I.toHR.there (adw e2);exact(k' a o q n z0 (nf fun y=>y.1 (adw e2))).2
def Nw.show{Y:Cx}(I:Wd X w h)(nw:New X Y w)(y:Wc Y ⟨w.F,fun _=>none,[],w.s⟩ w1)(H:HR X.toSC w1 h1):Nw X w ⟨w1.F,w.O,w.m,w1.s⟩ h:=Nw.back I (M8.out (w:=⟨w.F,fun _=>none,[],w.s⟩) nw y) H rfl (by simp) (fun _ _ _ _ _ z=>absurd z (by simp)) fun _ _ _ e _ _=>e
def Jg(F:Fun G.K name qual st f fd)(S:mW N ps (aP st))(hb:∀(X:Cx)(cd:Value)(A:Around)(s:Shared),X.toSC=G->fC k (A.deeper (envOfC qual (aP st) s.heap.objs.size f cd))->Xk (lw true X N qual (aP st) f cd A s) (iP st) g):Zt G (k+1) f fd ps (av g ps.length N.length) where
 len qs v e:=by
  unfold av at e
  split at e
  .assumption
  .cases e
 run {X w h A qs us v args Q E} hG hr hd hf I ok r e hbd q:=by
  subst hG;unfold av at e
  split at e
  .rename_i hl;refine qF (c:=true) (w:=⟨w.F,fun _=>none,[],w.s⟩) F S hr (fun _=>hd) hf I.hide ok hl r hbd fun cd s1 hr1 nw y J _=>?_
   have ends:∀{w2:Wo}{h2 h3:Y3}{p:PV}{u:Value},Wc (lw true X N qual (aP st) f cd A w.s) { F:=w.F,O:=fun _=>none,m:=[],s:=s1 } w2->HR X.toSC w2 h2->aQ X.toSC w2.F w2.m p u->cO h2 p=some (v,h3)->Q u w2.s:=fun{w2 h2 h3 p u} y2 H2 r2 e2=>by obtain⟨F',n,r3,pu⟩:=H2.YB (X:=lw true X N qual (aP st) f cd A w.s) r2 e2;exact q F' w2.s u (Nw.show I nw (M8.trans (y.weak (fun _ z=>z.elim) fun b z=>ac1 _ z) (y2.trans n.s)) n.2) (r3.mono (fun _ _ e=>e) (.inl pu))
   refine aea ((hb X cd A w.s rfl hr1).r (E:=fun _ _=>False) J ?_) (fun _ _ z=>z) fun _ _ z=>z.elim;unfold st0
   split at e<;>rename_i e'<;>first|rw[e']|skip
   .cases e
    exact⟨.never,fun w2 y2 I2=>ends y2 I2.toHR .non (h3:=_) rfl⟩
   .unfold aK at e
    split at e<;>cases e
    exact⟨.never,fun w2 u ρ2 y2 I2 r2=>ends y2 I2.toHR r2 ‹_›⟩
   .cases e
  .cases e
theorem HR.Vl:∀{ps qs:Y2}{us:Z3}{w:Wo}{h h':Y3},HR X.toSC w h->ay X.toSC w.F w.m ps us->Vl ps h=some (qs,h')->∃F',Nw X w ⟨F',w.O,w.m,w.s⟩ h'/\ay X.toSC F' [] qs us
 |[],_,_,w,_,_,H,.nil,k=>by cases k;exact⟨w.F,⟨.refl,H⟩,.nil⟩
 |p::ps,qs,_,w,h,h',H,.cons r t,k=>by
  unfold Z.Vl at k
  split at k
  .rename_i e;obtain⟨F1,n1,r1,pu⟩:=H.YB (X:=X) r e
   split at k<;>cases k
   rename_i e2;obtain⟨F2,n2,r2⟩:=HR.Vl n1.2 (n1.1.reps t) e2;exact⟨F2,n1.trans n2,.cons (r1.mono n2.1.fz (.inl pu)) r2⟩
  .cases k
structure ZC(X:Cx)(x:Str)(fn:Y2->Z.Out):Prop where
 ex:∃k f fd ps,Zt X.toSC k f fd ps fn/\fC k X.A/\X.mg x=some (.ref f)/\W.keepIn X.K (.ref f)=true/\ko X.K fd ps []
variable{e:Expr}{p0:Pos}{fs:Ax}{fn:Y2->Z.Out}
theorem Zt.call{qs:Y2}{us:Z3}{Q:Yf}{E:Yf}(F:Zt X.toSC k f fd ps fn)(hr:fC k X.A)(hc:X.calm=true)(hb:ko X.K fd ps [])(I:Inv X w ρ h)(r:ay X.toSC w.F w.m qs us)(p:bG X (RV X.toSC) w Q E (fM fn qs h)):Wp X (call (.ref f) us) Q E w.s:=by
 unfold fM at p
 split at p
 .rename_i e1
  split at p
  .rename_i qs' h2 v e2;obtain⟨F',n,r'⟩:=I.toHR.Vl r e1;have I':=I.on n;refine agd (F.run (w:=⟨F',w.O,w.m,w.s⟩) rfl hr (I.ok.hd hc) I.ok.frames I'.toWd I'.ok r' e2 (by simpa using hb w.s us I.U_ (by rw[adD,<- r'.length];exact F.len _ _ e2)) fun F2 s2 u n2 r2=>?_);exact p.2 _ _ (n.trans n2) (r2.mono (fun _ _ e=>e) (.inr fun _ _ e=>nomatch e))
  .exact p.elim
 .exact p.elim
def HO(c:ZC X x fn)(hg:Gl X x)(ha:RA X (e::es) fs)(hc:X.calm=true)(Ug:(x==("__debug__":Str))=false)(he:starEach (e::es) X.env=(false,eval e X.env)::starEach es X.env)(WY:(backTo pos (starEach es X.env)).any (·.1)=false):RE X (.Call (.Name x p0) (e::es) [] pos) (aG fn fs):=⟨fun I p=>by obtain⟨k,f,fd,ps,F,hr,hm,hk,hb⟩:=c.ex;exact adV (I.glb hg hm (af0 (h₀:=X.base) I.ok.V8 hk (ha.r pos I (p.bind fun _ _ _ _ y r p=>⟨(I.on y).U_,F.call hr hc hb (I.on y) r p⟩)) he WY) Ug)⟩
def Fg(c:ZC X x fn)(hg:Gl X x)(hc:X.calm=true)(Ug:(x==("__debug__":Str))=false):RE X (.Call (.Name x p0) [] [] pos) (aG fn ah):=⟨fun I p=>by obtain⟨k,f,fd,ps,F,hr,hm,hk,hb⟩:=c.ex;exact adV (I.glb hg hm (ahQ I.U_ hk (F.call hr hc hb I .nil p)) Ug)⟩
end
noncomputable def fB(cells:List (Str×Addr)):List (Str×NameKind)->List (Str×Addr)->List (Str×Addr)
 |[],cs=>cs
 |(n,k)::r,cs=>fB cells r (if k==.free then(match cells.lookup n with|some a=>(n,a)::cs|none=>cs)else cs)
theorem vO(cells:List (Str×Addr)):∀(l:List (Str×NameKind))(cs:List (Str×Addr))(p:Str×Addr),p∈fB cells l cs->p∈cs\/(cells.lookup p.1=some p.2/\(p.1,NameKind.free)∈l)
 |[],cs,p,h=>.inl h
 |(n,k)::r,cs,p,h=>by
  unfold fB at h;rcases vO cells r _ p h with q|⟨q1,q2⟩
  .by_cases hk:k=.free
   .subst hk;simp only[beq_self_eq_true,if_true]at q
    cases e:cells.lookup n with
    |none=>rw[e]at q;exact .inl q
    |some a=>
     rw[e]at q;rcases ac8.mp q with rfl|q
     .exact .inr ⟨e,ac4⟩
     .exact .inl q
   .have hb:(k==NameKind.free)=false:=by simpa using hk
    simp only[hb,ad3,if_false]at q;exact .inl q
  .exact .inr ⟨q1,ac1 _ q2⟩
theorem vN(cells:List (Str×Addr)):∀(l:List (Str×NameKind))(cs:List (Str×Addr))(p:Str×Addr),p∈cs->p∈fB cells l cs
 |[],_,_,h=>h
 |(n,k)::r,cs,p,h=>by
  unfold fB;refine vN cells r _ p ?_
  split
  .split
   .exact ac1 _ h
   .exact h
  .exact h
theorem vP(cells:List (Str×Addr)){x:Str}{c:Addr}(hc:cells.lookup x=some c):∀(l:List (Str×NameKind))(cs:List (Str×Addr)),(x,NameKind.free)∈l->(x,c)∈fB cells l cs
 |(n,k)::r,cs,h=>by
  unfold fB;rcases ac8.mp h with e|h
  .cases e
   refine vN cells r _ _ ?_;simp only[beq_self_eq_true,if_true,hc];exact ac4
  .exact vP cells hc r _ h
theorem nq{x:Str}{c:Addr}:∀{l:List (Str×Addr)},(x,c)∈l->∃c',l.lookup x=some c'
 |(y,d)::r,h=>by
  by_cases e:x=y
  .subst e;exact⟨d,by simp[ael]⟩
  .have hb:(x==y)=false:=by simpa using e
   rw[ael,hb];rcases ac8.mp h with q|q
   .cases q;exact absurd rfl e
   .exact nq q
def oA{c:Addr}(h:(fB cells l []).lookup x=some c):cells.lookup x=some c/\(x,NameKind.free)∈l:=by
 rcases vO cells l [] (x,c) (aeD h)with q|q
 .cases q
 .exact q
def zI{c:Addr}(hc:cells.lookup x=some c)(h:(x,NameKind.free)∈l):(fB cells l []).lookup x=some c:=by obtain⟨c',e⟩:=nq (vP cells hc l [] h);rw[e,<- hc,(oA e).1]
def jE{env:Env}(h:∀n,(n,NameKind.free)∈scope.names->∃c,env.cells.lookup n=some c):closureFor scope env=pure (fB env.cells scope.names []):=by
 unfold closureFor
 have go:∀(l:List (Str×NameKind))(cs:List (Str×Addr)),(∀n,(n,NameKind.free)∈l->∃c,env.cells.lookup n=some c)->
   (forIn l cs fun x r=>if(x.2==NameKind.free)=true then do let a <- cellOf env x.1;pure (ForInStep.yield ((x.1,a)::r))else pure (ForInStep.yield r):Sem (List (Str×Addr)))=pure (fB env.cells l cs):=by
  intro l
  induction l with
  |nil=>intro cs _;rfl
  |cons x r ih=>
   intro cs hl;obtain⟨n,k⟩:=x;rw[aeF];have hr:∀n,(n,NameKind.free)∈r->∃c,env.cells.lookup n=some c:=fun y hy=>hl y (ac1 _ hy)
   by_cases hk:k=.free
   .subst hk;obtain⟨c,hc⟩:=hl n ac4;have e:cellOf env n=pure c:=by unfold cellOf;rw[hc]
    simp only[beq_self_eq_true,if_true,e,pure_bind,fB,hc];exact ih _ hr
   .have hb:(k==NameKind.free)=false:=by simpa using hk
    simp only[hb,ad3,if_false,pure_bind,fB];exact ih _ hr
 have q:=go scope.names [] h;simp only[bind_pure];exact q
theorem kA{env:Env}{x:Str}:∀{names:List (Str×NameKind)},(∀y∈names,y.2≠.cell)->∀{k:NameKind},
  (names.map fun(n,k)=>if(k==NameKind.free&&env.scope.kind==.function&&env.kindOf n==some .cell)then(n,NameKind.cell)else(n,k)).lookup x=some k->k=.cell\/k=.free->(x,NameKind.free)∈names
 |[],_,_,h,_=>by simp at h
 |(n,k0)::r,hn,k,h,hk=>by
  have ih:= @kA env x r (fun y hy=>hn y (ac1 _ hy)) k;rw[ac5]at h
  by_cases hc:(k0==NameKind.free&&env.scope.kind==.function&&env.kindOf n==some .cell)=true
  .have h2:List.lookup x ((n,NameKind.cell)::r.map fun(n,k)=>if(k==NameKind.free&&env.scope.kind==.function&&env.kindOf n==some .cell)then(n,NameKind.cell)else(n,k))=some k:=by have q:=h;simp only[hc,if_true]at q;exact q
   have hf:k0=.free:=by
    have z:(k0==NameKind.free)=true:=by
     cases e:(k0==NameKind.free)with
     |true=>rfl
     |false=>rw[e]at hc;simp at hc
    simpa using z
   by_cases e:x=n
   .subst e;subst hf;exact ac4
   .have hb:(x==n)=false:=by simpa using e
    rw[ael,hb]at h2;exact ac1 _ (ih h2 hk)
  .have h2:List.lookup x ((n,k0)::r.map fun(n,k)=>if(k==NameKind.free&&env.scope.kind==.function&&env.kindOf n==some .cell)then(n,NameKind.cell)else(n,k))=some k:=by have q:=h;simp only[hc,if_false]at q;exact q
   by_cases e:x=n
   .subst e;rw[ael,beq_self_eq_true]at h2;have e2:k0=k:=aex h2;subst e2;rcases hk with z|z
    .exact absurd z (hn (x,k0) ac4)
    .subst z;exact ac4
   .have hb:(x==n)=false:=by simpa using e
    rw[ael,hb]at h2;exact ac1 _ (ih h2 hk)
theorem oN{env:Env}{x:Str}:∀{names:List (Str×NameKind)},names.lookup x=some .free->
  (names.map fun(n,k)=>if(k==NameKind.free&&env.scope.kind==.function&&env.kindOf n==some .cell)then(n,NameKind.cell)else(n,k)).lookup x=some .cell\/
  (names.map fun(n,k)=>if(k==NameKind.free&&env.scope.kind==.function&&env.kindOf n==some .cell)then(n,NameKind.cell)else(n,k)).lookup x=some .free
 |[],h=>by simp at h
 |(n,k)::r,h=>by
  have ih:= @oN env x r;show List.lookup x ((if(k==NameKind.free&&env.scope.kind==.function&&env.kindOf n==some .cell)=true then(n,NameKind.cell)else(n,k))::_)=_\/List.lookup x ((if(k==NameKind.free&&env.scope.kind==.function&&env.kindOf n==some .cell)=true then(n,NameKind.cell)else(n,k))::_)=_
  by_cases hc:(k==NameKind.free&&env.scope.kind==.function&&env.kindOf n==some .cell)=true
  .rw[if_pos hc]
   cases hx:x==n with
   |true=>left;simp[ael,hx]
   |false=>simp only[ael,hx]at h |-;exact ih h
  .rw[if_neg hc]
   cases hx:x==n with
   |true=>
    simp only[ael,hx]at h
    right;simp[ael,hx,h]
   |false=>simp only[ael,hx]at h |-;exact ih h
theorem xB{w:World}{s:Shared}{elt target:Expr}{it acc:Value}{env:Env}(I:Nat->Shared->Prop)
  (turn:∀n s,I n s->wpAny (model prog w) A (pyNext it) (fun r s₁=>match r with
   |none=>R (.ok .next) s₁
   |some v=>wpAny (model prog w) A (letOwnedTupleGo target it v) (fun _ s₂=>wpAny (model prog w) A (assign target env v) (fun _ s₃=>
     wpAny (model prog w) A (forIn ifs true fun c r=>if r=true then do let ok <- isTrue c env (eval c env);pure (ForInStep.yield ok)else pure (ForInStep.yield r)) (fun ok s₄=>
      if ok=true then wpAny (model prog w) A (eval elt env) (fun x s₅=>wpAny (model prog w) A (call (.builtin "list.append") [acc,x]) (fun _ s₆=>∃m,m<n/\I m s₆) (fun _ _=>False) s₅) (fun _ _=>False) s₄
      else∃m,m<n/\I m s₄) (fun _ _=>False) s₃) (fun _ _=>False) s₂) (fun _ _=>False) s₁) (fun _ _=>False) s)
  (n:Nat) (h:I n s):
  codeAny (model prog w) A (.compLoop (.ListComp elt [⟨target,iter,ifs,0⟩] scope pos) 0 it acc env) R s:=by
 refine codeAny_loop rfl I (fun n s hI=>?_) n h;show wpAny _ A ((compTurn (.ListComp elt [⟨target,iter,ifs,0⟩] scope pos) 0 it acc env).onRaise (fun x=>do noteFrame x env;theTreesLotGoes x)) _ _ s;refine wpAny_noted ?_;rw[compTurn_list];refine ac0 (agj (ac0 (aea (turn n s hI) (fun r s₁ h₁=>?_) fun _ _ h'=>h'.elim)))
 cases r with
 |none=>exact adf h₁
 |some v=>
  refine ac0 (aea h₁ (fun _ s₂ h₂=>ac0 (aea h₂ (fun _ s₃ h₃=>ac0 (aea h₃ (fun ok s₄ h₄=>?_) fun _ _ h'=>h'.elim)) fun _ _ h'=>h'.elim)) fun _ _ h'=>h'.elim)
  cases ok with
  |false=>exact adf ⟨rfl,h₄⟩
  |true=>exact ac0 (ac0 (aea h₄ (fun x s₅ h₅=>ac0 (aea h₅ (fun _ s₆ h₆=>adf (adf ⟨rfl,h₆⟩)) fun _ _ h'=>h'.elim)) fun _ _ h'=>h'.elim))
noncomputable def Res.calm{α:Type}(r:Res α):Res α:=match r with
 |.exc _ _=>.bad
 |r=>r
noncomputable def bX(j8:Y1)(ρ:Ev):Ev:=j8.map fun i=>(ρ[i]?).getD none
def eU(g:Gx)(tt:Tx)(te:Ex)(ρ0:Ev):Y2->Y3->Res Y2
 |[],h=>.ok [] h
 |p::r,h=>match g p ρ0 with
  |some ρ1=>(tt ρ1 h).bind fun b h1=>if b=true then(te ρ1 h1).bind fun v h2=>(eU g tt te ρ0 r h2).bind fun vs h3=>.ok (v::vs) h3 else eU g tt te ρ0 r h1
  |none=>.bad
def eT(n:Nat)(g:Gx)(j8:Y1)(it:Ax)(tt:Tx)(te:Ex):Ax:=fun ρ h=>(it ρ h).bind fun xs h1=>if xs.length<sizeLine then(eU g tt te (List.replicate n none++bX j8 ρ) xs h1).calm else .bad
noncomputable def bg:Tx:=fun _ h=>.ok true h
noncomputable def T3(ps:Y2)(h:Y3):Res PV:=.ok (.lst ps) h
noncomputable def tM(ps:Y2)(h:Y3):Res PV:=.ok (.ref h.length) (h++ [.lst ps])
structure fZ(N:Zl)(Y_ scope:Scope)(j8:Y1)(vs M:Zl):Prop where
 kind:scope.kind=.function
 XJ:∀y∈scope.names,y.2≠.cell
 names:∀y∈scope.names,y.2=.local->scope.names.lookup y.1=some .local
 free:∀y∈scope.names,y.2=.free->Y_.names.lookup y.1=some .cell\/Y_.names.lookup y.1=some .free
 inN:M=vs++j8.map fun i=>N.getD i ""
 cap:∀i∈j8,i<N.length/\scope.names.lookup (N.getD i "")=some .free
 nd:M.Nodup
noncomputable def xC(N:Zl)(Y_ scope:Scope)(j8:Y1)(vs M:Zl):Bool:=
 decide (scope.kind=.function)&&decide (∀y∈scope.names,y.2≠.cell)&&decide (∀y∈scope.names,y.2=.local->scope.names.lookup y.1=some .local)
  &&decide (∀y∈scope.names,y.2=.free->Y_.names.lookup y.1=some .cell\/Y_.names.lookup y.1=some .free)&&decide (M=vs++j8.map fun i=>N.getD i "")
  &&decide (∀i∈j8,i<N.length/\scope.names.lookup (N.getD i "")=some .free)&&decide M.Nodup
def fZ.of{N:Zl}{Y_:Scope}{j8:Y1}{vs M:Zl}(h:xC N Y_ scope j8 vs M=true):fZ N Y_ scope j8 vs M:=by unfold xC at h;simp only[ac7,decide_eq_true_eq]at h;obtain⟨⟨⟨⟨⟨⟨a,b⟩,c⟩,d⟩,e⟩,f⟩,g⟩:=h;exact⟨a,b,c,d,e,f,g⟩
noncomputable def br(X:Cx)(M:Zl)(scope:Scope)(cl:List (Str×Addr))(C:Addr):Cx:={ X with N:=M,env:=compEnvC scope cl C X.env,fn:=fun _=>false,Ep:=fun _=>True }
structure Ys(X:Cx)(ifs:List Expr)(f:Tx):Prop where
 r:∀{w:Wo}{ρ:Ev}{h:Y3}{Q:Bool->Shared->Prop}{E:Yf},Inv X w ρ h->bG X (fun _ a b=>a=b) w Q E (f ρ h)->Wp X (forIn ifs true fun c r=>if r=true then do let ok <- isTrue c X.env (eval c X.env);pure (ForInStep.yield ok)else pure (ForInStep.yield r)) Q E w.s
section
variable{w:Wo}{c:Expr}{f:Tx}
def KU:Ys X [] bg:=⟨fun I p=>wpAny_tests_nil (p.here I.toHR rfl)⟩
def KT(ha:RT X c f):Ys X [c] f:=⟨fun I p=>wpAny_tests_one (ha.r I p)⟩
def M8.new{fs:Zs}{W W':Addr->Prop}(x:M8 fs W w w1)(y:M8 fs W' w1 w2)(n:∀b,W' b->w.s.heap.get? b=none):M8 fs W w w2:=
 ⟨y.os.trans x.os,y.ba∘x.ba,fun a o e=>y.fz a o (x.fz a o e),fun a o e=>y.ow a o (x.ow a o e),let⟨t,e⟩:=x.pre;let⟨u,e'⟩:=y.pre;⟨t++u,by rw[e',e,ade]⟩,fun b o e=>let⟨o',q⟩:=x.dom b o e;y.dom b o' q,fun b o q z=>by
  obtain⟨sl,q1,z1⟩:=x.keep b o q z;obtain⟨sl',q2,z2⟩:=y.keep b _ q1 fun z=>by have q:=q.1;rw[n b z]at q;cases q
  exact⟨sl',q2,z1.elim .inl fun z=>z2.imp_right fun z'=>z'.trans z⟩⟩
def AO{M:Zl}{j8:Y1}{vs:Zl}{C:Addr}{m:Str->Option Value}{s1:Shared}(S:fZ X.N X.env.scope scope j8 vs M)(I:Inv X w ρ h)(hC:w.s.heap.get? C=none)(k:∀b o,w.s.heap.get? b=some o->s1.heap.get? b=some o)(hn:s1.heap.Ns C m)(ho:s1.os=w.s.os)(hg:s1.gens=w.s.gens):
  Inv (br X M scope (fB X.env.cells scope.names []) C) { w with s:=s1 } (List.replicate vs.length none++bX j8 ρ) h:=by
 have n:=Nw.also (X:=X) (s':=s1) I.toHR k ho hg;have J:=I.on n;have c0:∀y c,(fB X.env.cells scope.names []).lookup y=some c->X.env.cells.lookup y=some c:=fun y c h=>(oA h).1;obtain⟨m0,_,_,_,l⟩:=J.loc;obtain⟨oC,es,ep,eC,_⟩:=id hn;refine⟨⟨J.toHR,J.ba,J.bs,J.fr⟩,⟨I.ok.V8,I.ok.gl,I.ok.bl,I.ok.nl,S.kind,I.ok.glob,I.ok.blt,fun y z c h1 h2=>I.ok.inj y z c (c0 _ _ h1) (c0 _ _ h2),fun y hy=>?_,I.ok.hd,I.ok.frames,S.nd,I.ok.sf⟩,⟨m,oC,hn,⟨eC,I.toHR.free hC⟩,fun i p e=>?_⟩,fun y c e=>J.XS y c (c0 y c e),?_⟩
 .have hm:(y,NameKind.free)∈scope.names:=by
   rcases hy with h|h
   .exact kA S.XJ h (.inl rfl)
   .exact kA S.XJ h (.inr rfl)
  obtain⟨c,hc⟩:=I.ok.has y (S.free _ hm rfl);exact⟨c,zI hc hm⟩
 .have hi:vs.length<=i:=by
   rcases aeJ i vs.length with z|z
   .rw[ady (by simpa using z)]at e;simp[afV]at e
   .exact z
  rw[adI (by simpa using hi),agb]at e;simp only[bX,adO]at e
  cases e1:j8[i - vs.length]? with
  |none=>rw[e1]at e;cases e
  |some k=>
   rw[e1]at e;obtain⟨c1,c2⟩:=S.cap k (adw e1)
   have e2:ρ[k]? =some (some p):=by
    simp only[aio,agQ]at e
    cases q:ρ[k]? with
    |none=>rw[q]at e;cases e
    |some v=>rw[q]at e;simp at e;rw[e]
   obtain⟨y,u,e3,r,l⟩:=l k p e2;have e4:X.N.getD k ""=y:=by rw[adA,e3];rfl
   rw[e4]at c2;refine⟨y,u,?_,r,?_⟩
   .show M[i]? =some y;rw[S.inN,adI hi,adO,e1,<- e4];rfl
   .have hm:(y,NameKind.free)∈scope.names:=aeD c2;rcases l with⟨k1,_⟩|⟨k1,c,e5,q⟩
    .rcases S.free _ hm rfl with z|z<;>(rw[show X.env.scope.names.lookup y=some .local from k1]at z;cases z)
    .exact .inr ⟨oN c2,c,zI e5 hm,q⟩
 .show _=M.length;rw[S.inN];simp[bX]
def Inv.weak{ρ':Ev}(I:Inv X w ρ h)(l:ρ'.length=ρ.length)(k:∀(i:Nat) p,ρ'[i]? =some (some p)->ρ[i]? =some (some p)):Inv X w ρ' h:=let⟨m,o,a,b,c⟩:=I.loc;⟨I.toWd,I.ok,⟨m,o,a,b,fun i p e=>c i p (k i p e)⟩,I.XS,l.trans I.ln⟩
def PKn(K:Y2->Y3->Prop):Res Y2->Prop
 |.ok vs h=>K vs h
 |_=>False
theorem vR{r:Res α}{k:α->Y3->Res Y2}(p:PKn K (r.bind k).calm):∃a h,r=.ok a h/\PKn K (k a h).calm:=match r with
 |.ok a h=>⟨a,h,rfl,p⟩
 |.exc _ _=>p.elim
 |.bad=>p.elim
inductive Cq0(X Y:Cx)(w0 w:Wo)(tn:Nat->Heap->Prop)(fp:Zs)(xs:Y2)(ρ:Ev)(D:Addr)(K:Y2->Y3->Prop)(g:Gx)(tt:Tx)(te:Ex)(n:Nat)(s:Shared):Prop where
 |mk (w1:Wo) (h2:Y3) (acc:Y2) (its:Array Value) (ys:Y2) (_:w1.s=s) (_:M8 X.fs WL w0 w1) (_:Xr w w1) (_:Inv Y w1 ρ h2) (_:ys.length=n) (_:n<=xs.length) (_:ys=xs.drop (xs.length - n)) (_:tn (xs.length - n) w1.s.heap) (_:(∀b∈fp,∃o,Has w1 b o)) (_:w1.s.heap.PlainList D its) (_:W3 w1 D) (_:ay X.toSC w1.F w1.m acc its.toList) (_:its.size+n<sizeLine) (_:PKn (fun vs h3=>K (acc++vs) h3) (eU g tt te ρ ys h2).calm)
def qD{elt:Expr}{tt:Tx}{te:Ex}{M vs:Zl}{g:Gx}{use:Option (Value->Sem Unit)}{w:Wo}{xs:Y2}(j8:Y1)(hc:X.calm=true)(S:fZ X.N X.env.scope scope j8 vs M)(hg:∀cl C,RG (br X M scope cl C) tg g)(ht:∀cl C,Ys (br X M scope cl C) ifs tt)(he:∀cl C,RE (br X M scope cl C) elt te)
  (gm:∀q cp ρ1,g q (List.replicate vs.length none++cp)=some ρ1->∃l,l.length=vs.length/\ρ1=l++cp) (I0:Inv X w0 ρ h) (y0:Nw X w0 w h1) (rr:Yg X tg w0 w xs v) (hz:xs.length<sizeLine) (p:PKn K (eU g tt te (List.replicate vs.length none++bX j8 ρ) xs h1).calm)
  (hr:∀{w2:Wo}{h2:Y3}{ps:Y2}{its:Array Value}{D C:Addr}{oC:Obj}{m:Str->Option Value},M8 X.fs WL w0 w2->HR X.toSC w2 h2->w0.s.heap.get? D=none->w0.s.heap.get? C=none->D≠C->Has w2 C oC->w2.s.heap.Ns C m->w2.s.heap.PlainList D its->W3 w2 D->ay X.toSC w2.F w2.m ps its.toList->its.size<=sizeLine->K ps h2->compPost (model X.prog X.w) X.A E use Q (.ref D) C (.ok .next) w2.s):
  Wp X (newList []) (fun acc s=>Wp X (newFunctionEnv scope X.env.globals (fB X.env.cells scope.names []) [] X.env.qual none .none (some X.env)) (fun abV s=>codeAny (model X.prog X.w) X.A (.compStart (.ListComp elt [⟨tg,iter,ifs,0⟩] scope pos) 0 v acc { abV with scope:=relabel scope X.env }) (compPost (model X.prog X.w) X.A E use Q acc abV.locals) s) E s) E w.s:=by
  obtain⟨it,fp,tn,rfl,T,t0,fr⟩:=rr;have I:=I0.on y0
  .refine aeB (wpAny_newFunctionEnv S.XJ (by intro y hy;simp at hy) (fun h₁ hns hsb=>?_) S.kind);dsimp only at hns hsb |-;generalize hP:w.s.heap.push { cls:=.type "list",dict:=none,data:=.seq ([]:Z3).toArray }=P at hns hsb |-;have zP:P.objs.size=w.s.heap.objs.size+1:=by rw[<- hP,aew]
   have ne:∀{b},b<w.s.heap.objs.size+1->b≠P.objs.size:=fun z e=>by rw[e,zP]at z;exact absurd z (adR _)
   have old:∀b o,w.s.heap.get? b=some o->h₁.get? b=some o:=fun b o e=>hsb.extBut b o (ne (ae5 (adE e))) (ada _ (hP▸ada _ e));have DC:w.s.heap.objs.size≠P.objs.size:=ne (ad6 _);have eD:h₁.PlainList w.s.heap.objs.size #[]:=⟨_,hsb.extBut _ _ DC (ada _ (hP▸ado _ rfl))⟩
   have nC:w.s.heap.get? P.objs.size=none:=by
    cases q:w.s.heap.get? P.objs.size with
    |none=>rfl
    |some o=>exact absurd rfl (ne (ae5 (adE q)))
   have n0:∀{b},w.s.heap.get? b=none->w0.s.heap.get? b=none:=fun{b} z=>by
    cases q:w0.s.heap.get? b with
    |none=>rfl
    |some o=>obtain⟨o',q'⟩:=y0.1.dom b o q;rw[z]at q';cases q'
   have nD:=aW w.s.heap;have nf:∀b∈fp,w0.s.heap.get? b=none:=fun b hb=>(fr b hb).2.2;have J:=AO S I nC old hns (s1:={ w.s with heap:=h₁,toks:=w.s.toks+([]:List (Str×Value)).length }) rfl rfl;have n1:=Nw.also (X:=X) (s':={ w.s with heap:=h₁,toks:=w.s.toks+([]:List (Str×Value)).length }) I.toHR old;generalize hY:br X M scope (fB X.env.cells scope.names []) P.objs.size=Y at J;have fsY:Y.fs=X.fs:=by rw[<- hY];rfl
   have apt:∀b,Zu X b->b≠P.objs.size->Zu Y b:=fun b a z=>by subst hY;exact⟨z,a.2.1,fun x c e=>a.2.2 x c (oA e).1⟩
   have aD:Zu Y w.s.heap.objs.size:=apt _ (I.out nD) DC;have aF:∀b∈fp,Zu Y b:=fun b hb=>apt b (fr b hb).2.1 (let⟨o,q⟩:=(fr b hb).1;ne (ae5 (adE q.1)));have dF:w.s.heap.objs.size∉fp:=fun z=>let⟨o,q⟩:=(fr _ z).1;absurd (adE q.1) (adR _)
   have loop:codeAny (model X.prog X.w) X.A (.compLoop (.ListComp elt [⟨tg,iter,ifs,0⟩] scope pos) 0 (.ref it) (.ref w.s.heap.objs.size) (compEnvC scope (fB X.env.cells scope.names []) P.objs.size X.env)) (compPost (model X.prog X.w) X.A E use Q (.ref w.s.heap.objs.size) P.objs.size) { w.s with heap:=h₁,toks:=w.s.toks+([]:List (Str×Value)).length }:=by
    refine xB (Cq0 X Y w0 w tn fp xs (List.replicate vs.length none++bX j8 ρ) w.s.heap.objs.size K g tt te) ?_ xs.length ⟨_,h1,[], #[],xs,rfl,y0.1.trans n1.1,n1.1.lat,J,rfl,adK _,by simp,?_,fun b hb=>?_,eD,I.toHR.free nD,.nil,by simpa using hz,p⟩
    .rintro n s ⟨w1,h2,acc,its,ys,rfl,y1,l1,I1,ln,le,dr,t1,f1,d1,dn1,ra,z1,p1⟩
     subst hY
     cases ys with
     |nil=>
      cases ln
      refine aea (T.done (I.ok.hd hc) l1 I1.toHR t1 (by simp) f1 (Q:=fun s=>compPost (model X.prog X.w) X.A E use Q (.ref w.s.heap.objs.size) P.objs.size (.ok .next) s) fun w2 y2 H2=>?_) (fun r s q=>by obtain⟨rfl,q⟩:=q;exact q) fun _ _ z=>z;obtain⟨m,o,n,hl,_⟩:=(I1.priv y2 H2 aF).loc;obtain⟨nn,e1⟩:=d1;have q:=y2.keep _ _ dF ⟨e1,dn1⟩;exact hr (y1.priv y2 nf) H2 (n0 nD) (n0 nC) DC hl n ⟨nn,q.1⟩ q.2 (ra.mono y2.fz (.inr y2.sub)) ⋯ (by simpa[eU,Res.calm,PKn]using p1)
     |cons q ys=>
      have ln':ys.length+1=n:=ln;have eq:xs[xs.length - n]? =some q:=by rw[<- afp,<- dr];rfl
      have dy:ys=xs.drop (xs.length - ys.length):=by rw[show xs.length - ys.length=xs.length - n+1 by lia,<- aeX,<- dr];rfl
      unfold eU at p1
      split at p1
      .rename_i ρ2 e2;obtain⟨b,h3,e3,p3⟩:=vR p1;refine aea (T.item (I.ok.hd hc) l1 I1.toHR t1 eq f1 (Q:=fun u s=>wpAny (model X.prog X.w) X.A (assign tg (compEnvC scope (fB X.env.cells scope.names []) P.objs.size X.env) u) ?R ?N s) ?c) (fun r s q=>by obtain⟨u,rfl,q⟩:=q;exact q) fun _ _ z=>z;intro u w2 y2 H2 t2 f2 r2;refine(hg _ _).r (I1.priv y2 H2 aF) r2 e2 fun w3 y3 I3=>(ht _ _).r I3 ?_;rw[e3];refine⟨trivial,fun w4 b' y4 eb=>?_⟩;subst eb;obtain⟨l,ll,rfl⟩:=gm _ _ _ e2;have y04:M8 X.fs WL w0 w4:=M8.trans (M8.new (y1.priv y2 nf) y3 fun b z=>n0 (z.elim (fun z=>z▸nC) (by rintro ⟨_,z,_⟩;exact nomatch z))) y4.1;have l4:Xr w w4:=(l1.trans ⟨y2.fz,y2.sub⟩).trans (y3.lat.trans y4.1.lat)
       have k4:∀b,Zu (br X M scope (fB X.env.cells scope.names []) P.objs.size) b->∀o,Has w2 b o->Has w4 b o:=fun b a o q=>by
        obtain⟨sl,q',z⟩:=(y3.trans y4.s).keep b o q a.w;rcases z with z|rfl
        .exact absurd z a.2.1
        .exact q'
       have D2:∀nn,w1.s.heap.get? w.s.heap.objs.size=some { cls:=.type "list",data:=.seq its nn }->Has w4 w.s.heap.objs.size { cls:=.type "list",data:=.seq its nn }:=fun nn e=>k4 _ aD _ (y2.keep _ _ dF ⟨e,dn1⟩);obtain⟨nn,e1⟩:=d1;have D4:=D2 nn e1
       have go:∀w5 h5 Vw Ti,M8 X.fs WL w0 w5->Xr w w5->Inv (br X M scope (fB X.env.cells scope.names []) P.objs.size) w5 (l++bX j8 ρ) h5->(∀b∈fp,∀o,Has w2 b o->Has w5 b o)->Xr w2 w5->w5.s.heap.PlainList w.s.heap.objs.size Ti->W3 w5 w.s.heap.objs.size->ay X.toSC w5.F w5.m Vw Ti.toList->Ti.size<=its.size+1->PKn (fun vs h3=>K (Vw++vs) h3) (eU g tt te (List.replicate vs.length none++bX j8 ρ) ys h5).calm->
         ∃m,m<n/\Cq0 X (br X M scope (fB X.env.cells scope.names []) P.objs.size) w0 w tn fp xs (List.replicate vs.length none++bX j8 ρ) w.s.heap.objs.size K g tt te m w5.s:=by
        intro w5 h5 Vw Ti a b c d l25 e f ra' i p;refine⟨ys.length,by lia,w5,h5,Vw,Ti,ys,rfl,a,b,c.weak (by simp[ll]) fun i p e=>?_,rfl,by lia,dy,?_,fun x hx=>let⟨o,q⟩:=f2 x hx;⟨o,d x hx o q⟩,e,f,ra',by lia,p⟩
        .rcases aeJ i vs.length with z|z
         .rw[ady (by simpa using z)]at e;simp[afV]at e
         .rw[adI (by simpa using z),agb]at e;rw[adI ⋯,ll];exact e
        .rw[show xs.length - ys.length=xs.length - n+1 by lia];exact T.keep (l1.trans ⟨y2.fz,y2.sub⟩) H2 l25 c.toHR t2 fun b hb o e=>let⟨o',q⟩:=f2 b hb;(d b hb o ⟨e,q.2⟩).1
       have l24:Xr w2 w4:=y3.lat.trans y4.1.lat;have ra4:=ra.mono (y2.fz) (.inr y2.sub) |>.mono l24.1 (.inr l24.2)
       cases b with
       |false=>rw[if_neg ⋯]at p3 |-;exact go w4 h3 acc its y04 l4 (I3.on y4) (fun b hb=>k4 b (aF b hb)) l24 ⟨nn,D4.1⟩ D4.2 ra4 ⋯ p3
       |true=>
        rw[if_pos rfl]at p3 |-;obtain⟨v,h5,e5,p5⟩:=vR p3;refine(he _ _).r (I3.on y4) ?_;rw[e5];refine⟨trivial,fun w5 u5 y5 r5=>?_⟩
        have q5:∀b,Zu (br X M scope (fB X.env.cells scope.names []) P.objs.size) b->∀o,Has w4 b o->Has w5 b o:=fun b a o q=>by
         obtain⟨sl,q',z⟩:=y5.1.keep b o q fun z=>z;rcases z with z|rfl
         .exact absurd z a.2.1
         .exact q'
        have D5:=q5 _ aD _ D4;refine wpAny_list_append_plain ⟨nn,D5.1⟩ (fun h' hl' sb'=>?_) ⋯;obtain⟨a1,a2⟩:=pS (s':={ w5.s with heap:=h',toks:=w5.s.toks }) y5.2 D5 fun b o z e=>(sb'.2 b z).trans e;refine go _ h5 (acc++ [v]) (its.push u5) ((y04.trans y5.1).priv a1 (by simp;exact n0 nD)) (l4.trans (y5.1.lat.trans ⟨a1.fz,a1.sub⟩)) (((I3.on y4).on y5).priv a1 a2 (by simp;exact aD)) (fun b hb o q=>a1.keep b o (by simp;rintro rfl;exact dF hb) (q5 b (aF b hb) o (k4 b (aF b hb) o q))) (l24.trans (y5.1.lat.trans ⟨a1.fz,a1.sub⟩)) hl' D5.2 ?_ (by simp) ?_
        .rw[ah9];exact(ra4.mono y5.1.fz (.inr y5.1.sub)).app (.cons r5 .nil)
        .revert p5;cases eU g tt te (List.replicate vs.length none++bX j8 ρ) ys h5<;>simp[Res.bind,Res.calm,PKn]
      .exact p1.elim
    .simpa using T.keep (⟨fun _ _ e=>e,fun _ _ e=>e⟩) I.toHR n1.1.lat n1.2 t0 fun b hb o e=>old b o e
    .obtain⟨o,q⟩:=(fr b hb).1;exact⟨o,old b o q.1,q.2⟩
   exact codeAny_compStart_list loop (T.self (I.ok.hd hc) (T.keep (⟨fun _ _ e=>e,fun _ _ e=>e⟩) I.toHR n1.1.lat n1.2 t0 fun b hb o e=>old b o e) loop)
def Pf{elt:Expr}{it:Ax}{tt:Tx}{te:Ex}{M vs:Zl}{g:Gx}{r:Y2->Y3->Res PV}(j8:Y1)(hc:X.calm=true)(S:fZ X.N X.env.scope scope j8 vs M)(hi:RI X tg iter it)(hg:∀cl C,RG (br X M scope cl C) tg g)(ht:∀cl C,Ys (br X M scope cl C) ifs tt)(he:∀cl C,RE (br X M scope cl C) elt te)
  (hr:∀{w0 w:Wo}{h:Y3}{ps:Y2}{its:Array Value}{D:Addr}{Q:Yf}{E:Yf},M8 X.fs WL w0 w->HR X.toSC w h->w0.s.heap.get? D=none->w.s.heap.PlainList D its->W3 w D->ay X.toSC w.F w.m ps its.toList->its.size<=sizeLine->bG X (RV X.toSC) w0 Q E (r ps h)->Q (.ref D) w.s)
  (gm:∀q cp ρ1,g q (List.replicate vs.length none++cp)=some ρ1->∃l,l.length=vs.length/\ρ1=l++cp)
  (hs:(∀y,foldedSetIterable iter X.env y=pure y)\3):RE X (.ListComp elt [⟨tg,iter,ifs,0⟩] scope pos) (cN r (eT vs.length g j8 it tt te)) where
 r {w0 ρ h Q E} I0 p:=by
  rw[eval_ListComp];refine afJ rfl hs (jE fun n hn=>I0.ok.has n (S.free _ hn rfl)) S.kind S.names ?_
  have p:bG X (RV X.toSC) w0 Q E ((it ρ h).bind fun xs h1=>(if xs.length<sizeLine then(eU g tt te (List.replicate vs.length none++bX j8 ρ) xs h1).calm else .bad).bind r):=by
   have:cN r (eT vs.length g j8 it tt te) ρ h=(it ρ h).bind fun xs h1=>(if xs.length<sizeLine then(eU g tt te (List.replicate vs.length none++bX j8 ρ) xs h1).calm else .bad).bind r:=by unfold cN eT;cases it ρ h<;>rfl
   rw[<- this];exact p
  refine hi.r I0 (p.aar fun w h1 xs v y0 rr p=>?_)
  split at p
  .rename_i hz
   refine qD (use:=none) (K:=fun ps h=>bG X (RV X.toSC) w0 Q E (r ps h)) j8 hc S hg ht he gm I0 y0 rr hz (by
    revert p
    cases eU g tt te (List.replicate vs.length none++bX j8 ρ) xs h1<;>exact id) fun{w2 h2 ps its D C oC m} y2 H2 nD nC DC hl n l f ra z k=>⟨m,n,fun h' sb=>?_⟩
   obtain⟨a1,a2⟩:=pS (s':={ w2.s with heap:=h' }) H2 hl fun b o z e=>(sb.2 b z).trans e;obtain⟨nn,e1⟩:=l;have q:=a1.keep _ _ (by simp;exact DC) ⟨e1,f⟩;exact hr (y2.priv a1 (by simp;exact nC)) a2 nD ⟨nn,q.1⟩ q.2 ra z k
  .exact p.elim
def Ms(q:PV)(cp ρ1:Ev)(e:N6 0 q (List.replicate 1 none++cp)=some ρ1):∃l:Ev,l.length=1/\ρ1=l++cp:=by cases e;exact⟨[some q],rfl,rfl⟩
def Cs{D:Addr}(y:M8 X.fs WL w0 w)(H:HR X.toSC w h)(n:w0.s.heap.get? D=none)(l:w.s.heap.PlainList D its)(f:W3 w D)(r:ay X.toSC w.F w.m ps its.toList)(z:its.size<=sizeLine)(p:bG X (RV X.toSC) w0 Q E (T3 ps h)):Q (.ref D) w.s:=by
 obtain⟨k,e⟩:=l;have fz:=dw (o:={ cls:=.type "list",data:=.seq its k }) f.2.1;refine p.2 ⟨iD w.F D { cls:=.type "list",data:=.seq its k },w.O,w.m,w.s⟩ _ ⟨⟨y.os,y.ba,fun a o e=>fz a o (y.fz a o e),y.ow,y.pre,y.dom,fun b o q zz=>?_⟩,fun b x q=>?_,fun d b q=>let⟨o,z,y⟩:=H.own d b q;⟨o,z,dI (fun e'=>by rw[e',f.2.2]at q;cases q) y⟩,H.len,H.nd,fun i po b e1 e2=>(H.obj i po b e1 e2).on fz (fun _ e=>e) (fun _ _ e=>e) (fun _ _ e _=>e) (dI fun z=>f.1 (z▸adw e2))⟩ (.lst bv z (r.mono fz (.inr fun _ _ e=>e)))
 .obtain⟨sl,q',z'⟩:=y.keep b o q zz;exact⟨sl,⟨q'.1,q'.2.1,dI (fun z=>by have q:=q.1;rw[z,n]at q;cases q) q'.2.2.1,q'.2.2.2⟩,z'⟩
 .by_cases z:b=D
  .subst z;cases bv.symm.trans q;exact e
  .exact H.sub b x ((mO z).symm.trans q)
end
end Z
namespace Z
open PySem
def DK(h h':Heap):Prop:=∀b o,h.get? b=some o->∃o',h'.get? b=some o'/\o'.dict=o.dict
def DK.refl(h:Heap):DK h h:=fun _ o e=>⟨o,e,rfl⟩
theorem DK.trans{h1 h2 h3:Heap}(x:DK h1 h2)(y:DK h2 h3):DK h1 h3:=fun b o e=>by obtain⟨o1,e1,d1⟩:=x b o e;obtain⟨o2,e2,d2⟩:=y b o1 e1;exact⟨o2,e2,d2.trans d1⟩
def Kd{α:Type}(t:Sem α):Prop:=∀(M:Model)(Γ:Ctx)(Q:α->Pos->Shared->Prop)(E:Value->Pos->Shared->Prop)(p:Pos)(s:Shared),Sem.wp M Γ t Q E p s->
 Sem.wp M Γ t (fun a p' s'=>Q a p' s'/\DK s.heap s'.heap) (fun e p' s'=>E e p' s'/\DK s.heap s'.heap) p s
section
variable{α β:Type}
def Kd.bind{m:Sem α}{f:α->Sem β}(hm:Kd m)(hf:∀a,Kd (f a)):Kd (m >>= f):=fun M Γ Q E p s h=>by rw[Sem.wp_bind']at h |-;refine aik M Γ m (fun a p1 s1 z=>?_) (fun e p1 s1 z=>z) p s (hm M Γ _ _ p s h);exact aik M Γ (f a) (fun b p2 s2 y=>⟨y.1,z.2.trans y.2⟩) (fun e p2 s2 y=>⟨y.1,z.2.trans y.2⟩) p1 s1 (hf a M Γ Q E p1 s1 z.1)
theorem Kd.pure(a:α):Kd (Pure.pure a:Sem α):=fun M Γ Q E p s h=>by rw[Sem.wp_pure']at h |-;exact⟨h,DK.refl _⟩
def Kd.Zw(x:String):Kd (unsupported x:Sem α):=fun M Γ Q E p s h=>by rw[show(unsupported x:Sem α)=.unsupported x from rfl,Sem.wp_unsupported]at h;exact h.elim
theorem Kd.load(a:Addr):Kd (PySem.load a):=fun M Γ Q E p s h=>by rw[show PySem.load a=.load a none .pure from rfl,Sem.wp_load]at h |-;obtain⟨o,h1,h2⟩:=h;rw[agn]at h2;exact⟨o,h1,by rw[agn];exact⟨h2,DK.refl _⟩⟩
theorem Kd.stack:Kd PySem.stack:=fun M Γ Q E p s h=>by rw[show PySem.stack=.stack .pure from rfl,Sem.wp_stack,agn]at h |-;exact⟨h,DK.refl _⟩
theorem Kd.alloc(o:Obj):Kd (PySem.alloc o):=fun M Γ Q E p s h=>by rw[show PySem.alloc o=.alloc o .pure from rfl,Sem.wp_alloc,agn]at h |-;exact⟨h,fun b o' e=>⟨o',ada _ e,rfl⟩⟩
theorem Kd.update{a:Addr}{f:Obj->Obj}(hf:∀o,o.isFreed=false->(f o).isFreed=false/\(f o).dict=o.dict):Kd (PySem.update a f):=fun M Γ Q E p s h=>by
 rw[show PySem.update a f=.update a none f .pure from rfl,Sem.wp_update]at h |-;obtain⟨h1,h2⟩:=h;rw[agn]at h2;refine⟨h1,?_⟩;rw[agn];refine⟨h2,fun b o e=>?_⟩
 by_cases hb:a=b
 .subst hb;obtain⟨z1,z2⟩:=hf o (ahX.mp e).2;exact⟨f o,aed f e z1,z2⟩
 .exact⟨o,(aeS _ _ hb).trans e,rfl⟩
def Kd.ite{c:Prop}[Decidable c]{t u:Sem α}(ht:Kd t)(hu:Kd u):Kd (if c then t else u):=by
 split
 .exact ht
 .exact hu
def yY(v:Value):Kd (fieldsOf v):=by
 unfold fieldsOf
 split
 .refine(Kd.load _).bind fun o=>?_
  split
  .exact Kd.pure _
  .exact Kd.Zw _
 .exact Kd.Zw _
def pw(v:Value)(i:Nat):Kd (field v i):=by
 refine(yY v).bind fun vs=>?_
 split
 .exact Kd.pure _
 .exact Kd.Zw _
def rJ(g:Array Value->Array Value)(o:Obj)(h:o.isFreed=false):(Obj.mapFields g o).isFreed=false/\(Obj.mapFields g o).dict=o.dict:=by
 unfold Obj.mapFields
 split
 .exact⟨rfl,rfl⟩
 .exact⟨h,rfl⟩
def mq(v:Value)(i:Nat)(x:Value):Kd (setField v i x):=by
 unfold setField
 split
 .unfold updateField;refine(Kd.load _).bind fun o=>?_
  split
  .exact Kd.ite (Kd.update fun o h=>rJ _ o h) (Kd.Zw _)
  .exact Kd.Zw _
 .exact Kd.Zw _
def kQ(e:Value)(f:Option Addr):Kd (setFlight e f):=by refine(pw e 1).bind fun tb=>?_;exact Kd.ite (mq _ _ _) (Kd.pure _)
def xg(ty:String)(vs:Z3):Kd (newFields ty vs):=by
 unfold newFields newObj
 have as:Kd (newObjAsIs (.type ty) (.fields vs.toArray) none):=by unfold newObjAsIs;exact(Kd.alloc _).bind fun _=>Kd.pure _
 dsimp only
 split
 .exact(Kd.Zw _).bind fun _=>as
 .exact as
theorem mu:∀l:List Env,Kd (readyFrames l)
 |[]=>Kd.pure _
 |env::outer=>by
  unfold readyFrames
  split
  .refine(Kd.load _).bind fun o=>Kd.ite (Kd.pure _) ?_;refine Kd.bind ?_ fun i=>Kd.bind ?_ fun b=>Kd.bind (Kd.update fun o h=>⟨?_,rfl⟩) fun _=>mu outer
   .unfold behindIsImport;exact Kd.ite (Kd.pure _) (Kd.ite (Kd.pure _) ((pw _ _).bind fun _=>Kd.pure _))
   .unfold keptBack
    split
    .refine Kd.ite (Kd.pure _) ?_;exact Kd.bind (Kd.stack.bind fun _=>Kd.pure _) fun _=>Kd.pure _
    .exact Kd.pure _
   .obtain⟨c,d,dt,s0⟩:=o
    cases dt<;>first|rfl|(simp[Obj.isFreed]at h)
  .exact Kd.Zw _
def AG(env:Env):Kd (frameOf env):=by
 unfold frameOf;refine Kd.bind (Kd.stack.bind fun _=>Kd.pure _) fun l=>Kd.bind ?_ fun o=>?_
 .unfold frameObject
  split
  .exact Kd.pure _
  .exact(mu _).bind fun _=>Kd.pure _
 .split
  .exact Kd.pure _
  .exact Kd.Zw _
def rK(f:Addr)(b:Bool):Kd (entryPlaceOf f b):=by
 unfold entryPlaceOf;refine Kd.stack.bind fun _=>?_
 split
 .exact Kd.pure _
 .exact Kd.pure _
def pj(e:Value)(env:Env):Kd (noteFrame e env):=by
 unfold noteFrame
 split
 .have go:∀hd:Value,∀f:Addr,Kd (do setField e 1 (<- EntryCells.newEntry hd (<- frameOf env) .none (rawInt f) .none (<- entryPlaceOf f (hd != .none)))):=fun hd f=>(AG env).bind fun _=>(rK _ _).bind fun _=>(xg _ _).bind fun _=>mq _ _ _
  refine(pw e 1).bind fun hd=>?_;refine Kd.ite ?_ (go _ _);exact(pw _ _).bind fun x=>Kd.ite (Kd.pure _) ((mq _ _ _).bind fun _=>go _ _)
 .exact Kd.Zw _
def tV(env:Env)(e:Value):Kd (leaving env e):=(pj e env).bind fun _=>kQ e none
end
end Z
namespace Z
open PySem PySem.Spec PyProof.Rows
variable{A:Around}{D:List (Y1×Y1)}{E Q:Yf}{G:SC}{J0:List (PK×PV)}{P prog:Program}{R:Result->Shared->Prop}{S1 S2:Nat->Heap->Prop}{T6 apos p0 p1 p2 pos py:Pos}{X:Cx}{XP:(Str->Option Value)->Heap->Prop}{YP:World->Heap->Prop}{a l:Addr}{b:Bool}{body:List Stmt}{elt iter oe tg:Expr}{elts es ifs values:List Expr}{fa fb fo te:Ex}{fn:Y2->Y3->Res PV}{g:PV->Y2->Y3->Res PV}{h h1:Y3}{h':Heap}{i iy j k n:Nat}{its xs ys:Array Value}{j8:Y1}{keys:List (Option Expr)}{kvs:List (PK×Value)}{loose ps:Zl}{ls:Ya}{m:Zs}{name x:Str}{o:Obj}{p:PV}{recv:Y3->PV->Bool}{s':Shared}{scope:Scope}{t:String}{tt:Tx}{u v y:Value}{us:Z3}{w1:Wo}{ρ:Ev}
def yZ{α:Type}{M:Model}{t:Sem α}{Q:α->Shared->Prop}{s:Shared}{dx:Option Addr}(k:Kd t)(d:∃o,s.heap.get? a=some o/\o.dict=dx)(h:wpAny M A t (fun x s'=>(∃o,s'.heap.get? a=some o/\o.dict=dx)->Q x s') E s):wpAny M A t Q E s:=
 fun Γ p hΓ=>aik M Γ t (fun _ _ _ z=>z.1 (let⟨o,e,d⟩:=d;let⟨o',e',d'⟩:=z.2 a o e;⟨o',e',d'.trans d⟩)) (fun _ _ _ z=>z.1) p s (k M Γ _ _ p s (h Γ p hΓ))
section
variable{Y:Cx}{w w2:Wo}{h2:Y3}
def Kh{B hp:Heap}{V:Addr->Prop}(y:M8 Y.fs V w w2)(W2:Wd Y w2 h2)(c1:∀b o,w.s.heap.get? b=some o->b∉Y.fs->∃o',B.get? b=some o')(c2:∀b,¬ W3 w2 b->∃o',B.get? b=some o')(s1:B.StaysIn w2.s.heap)(s2:B.StaysIn hp)(up:w2.s.heap.UpToSlots hp):M8 Y.fs V w { w2 with s:={ w2.s with heap:=hp } }/\HR Y.toSC { w2 with s:={ w2.s with heap:=hp } } h2:=by
 have fr:∀b∈Y.fs,∀o,w2.s.heap.get? b=some o->∃sl,hp.get? b=some { o with slots:=sl }:=fun b hb o e=>by obtain⟨o',q,d⟩:=W2.fr b hb;have q:=q.1;rw[e]at q;cases q;exact up b o e d
 refine⟨⟨y.os,y.ba,y.fz,y.ow,y.pre,fun b o e=>?_,fun b o q n=>?_⟩,W2.toHR.on fun b o e n=>?_⟩
 .by_cases hb:b∈Y.fs
  .obtain⟨o',q⟩:=y.dom b o e;obtain⟨sl,q'⟩:=fr b hb o' q;exact⟨_,q'⟩
  .obtain⟨o',q⟩:=c1 b o e hb;exact⟨o',s2 b o' q⟩
 .obtain⟨sl,q',z⟩:=y.keep b o q n
  by_cases hb:b∈Y.fs
  .obtain⟨sl',e'⟩:=fr b hb _ q'.1;exact⟨sl',⟨e',q'.2⟩,.inl hb⟩
  .obtain⟨o',e'⟩:=c1 b o q.1 hb;have g1:=s1 b o' e';rw[q'.1]at g1;cases g1;exact⟨sl,⟨s2 b _ e',q'.2⟩,z⟩
 .obtain⟨o',q⟩:=c2 b n;have:=s1 b o' q;rw[e]at this;cases this;exact s2 b o q
def JX{e:PV}{Q:Unit->Shared->Prop}(nw:New X Y w)(hG:Y.toSC=X.toSC)(hst:Y.stack=Y.env::X.stack)(hf:Y.env.frame=some Y.L)(hA:Y.A.frames=some Y.stack)(y:Wc Y w w2)(W2:Wd Y w2 h2)(r:pP Y w w2 e u)
  (c:∀s',M8 X.fs WL w { w2 with s:=s' }->HR X.toSC { w2 with s:=s' } h2->pP X w { w2 with s:=s' } e u->Q () s'):Wp Y (leaving Y.env u) Q E w2.s:=by
 have fsY:Y.fs=Y.L::X.fs:=by simp[Cx.fs,frs,hst,hf]
 have oL:∀{b o},w.s.heap.get? b=some o->b≠Y.L:=fun e z=>by rw[z,nw.1 _ (.inl rfl)]at e;cases e
 obtain⟨a,cls,dx,rfl,⟨⟨a0,B,fl,c1,c2⟩,d⟩,m⟩:=r
 have go:∀hp,B.StaysIn w2.s.heap->Heap.FlyingW B X.stack a cls a0 hp->w2.s.heap.UpToSlots hp->(∃o,hp.get? a=some o/\o.dict=dx)->Q () { w2.s with heap:=hp }:=fun hp s1 fl2 up dx2=>by obtain⟨g1,g2⟩:=Kh y W2 c1 c2 s1 fl2.1 up;exact c _ (M8.out nw g1) (hG▸g2) ⟨a,cls,dx,rfl,⟨⟨a0,B,.inl fl2,fun b o e n=>c1 b o e fun z=>by rw[fsY]at z;exact(ac8.mp z).elim (oL e) n,fun b z=>c2 b z⟩,dx2⟩,by revert m;rw[hG];exact id⟩
 rw[hst]at fl;rcases fl with fl|⟨_,fl⟩
 .exact yZ (tV _ _) d (wpAny_leaves_onW (hst▸hA) hf fl fun hp fl2 up dx2=>go hp fl.1 fl2 up dx2)
 .obtain⟨s1,eB,ff,o,vs,ho,rfl,hd,h0,h1⟩:=fl;exact yZ (tV _ _) d (wpAny_leaving_firstW (hst▸hA) ff hf ho s1 eB hd h1 h0 fun hp L dx2=>go hp s1 ⟨L.1,eB,L.2.1.2.2,L.2.2.1⟩ L.2.2.2 dx2)
end
noncomputable def PO.pure:PO->Bool
 |.lst xs=>am xs
 |.dct kvs=>gC kvs
 |.E_ _=>true
 |.obj _ _=>false
def eG:Y3->Bool
 |[]=>true
 |o::r=>o.pure&&eG r
def qC(n:Nat)(v:PV)(h:Y3):Res PV:=if(eG (h.take n)&&Nat.ble n h.length)=true then .ok v (h.take n)else .bad
def kW(n:Nat)(v:PV)(h:Y3):Res PV:=match cO h v with
 |some (q,h2)=>qC n q h2
 |none=>.bad
def jL(f:Sx)(np n:Nat)(ps:Y2)(h:Y3):Res PV:=if ps.length=np then match f (ps.map some++List.replicate (n - ps.length) none) h with
  |.nx _ h1=>qC h.length .non h1
  |.rt v h1=>kW h.length v h1
  |_=>.bad
 else .bad
def Ju(n:Nat)(e:PV)(h:Y3):Res PV:=if(eG (h.take n)&&Nat.ble n h.length&&e.pure)=true then .exc e (h.take n)else .bad
def pY(f:Sx)(np n:Nat)(ps:Y2)(h:Y3):Res PV:=if ps.length=np then match f (ps.map some++List.replicate (n - ps.length) none) h with
  |.nx _ h1=>qC h.length .non h1
  |.rt v h1=>kW h.length v h1
  |.exc e h1=>Ju h.length e h1
  |_=>.bad
 else .bad
noncomputable def Wz:Y2->Y1
 |[]=>[]
 |.ref i::r=>i::Wz r
 |_::r=>Wz r
noncomputable def Y8:Nat->Y2->Y2
 |_,[]=>[]
 |n,.ref _::r=>.ref n::Y8 (n+1) r
 |n,p::r=>p::Y8 n r
def qr:Y2->Bool
 |[]=>true
 |.ref _::r=>qr r
 |p::r=>p.pure&&qr r
noncomputable def nZ(h:Y3):Y1->Option Y3
 |[]=>some []
 |i::r=>match h[i]? with
  |some o=>match nZ h r with
   |some l=>some (o::l)
   |none=>none
  |none=>none
noncomputable def gO:Y3->Y1->Y3->Y3
 |h,i::r,o::l=>gO (h.set i o) r l
 |h,_,_=>h
noncomputable def nS:Y1->Bool
 |[]=>true
 |i::r=>!r.contains i&&nS r
def I9(fn:Y2->Y3->Res PV)(ps:Y2)(h:Y3):Res PV:=match nZ h (Wz ps)with
 |some hs=>if(qr ps&&eG hs&&nS (Wz ps))=true then match fn (Y8 0 ps) hs with
   |.ok v Yd=>if v.pure=true/\eG Yd=true/\Yd.length=hs.length then .ok v (gO h (Wz ps) Yd)else .bad
   |.exc v Yd=>if v.pure=true/\eG Yd=true/\Yd.length=hs.length then .exc v (gO h (Wz ps) Yd)else .bad
   |.bad=>.bad
  else .bad
 |none=>.bad
def aN(fn:Y2->Y3->Res PV)(as:Ax):Ex:=fun ρ h=>(as ρ h).bind (I9 fn)
noncomputable def Zy(n:Nat):PV->Bool
 |.ref i=>decide (i<n)
 |p=>p.pure
def ltP(n:Nat):PO->Bool
 |.lst xs=>xs.all (Zy n)
 |.dct kvs=>kvs.all fun x=>Zy n x.2
 |.E_ _=>true
 |.obj _ ps=>ps.all (Zy n)
noncomputable def yk(f:Sx)(np n:Nat)(ps:Y2)(h:Y3):Res PV:=if ps.length=np then match f (ps.map some++List.replicate (n - ps.length) none) h with
  |.nx _ h1=>.ok .non h1
  |_=>.bad
 else .bad
def xE(fn:Y2->Y3->Res PV)(as:Ax):Ex:=fun ρ h=>(as ρ h).bind fn
def Kt(X:Cx)(w:Wo)(Q:Yf)(E:Yf):Res PV->Prop
 |.ok a h=>∀w' x,Nw X w w' h->aQ X.toSC w'.F w'.m a x->Q x w'.s
 |.exc e h=>∀w' u,Nw X w w' h->pP X w w' e u->E u w'.s
 |.bad=>False
theorem bG.c{w:Wo}{r:Res PV}(p:bG X (RV X.toSC) w Q E r):Kt X w Q E r:=match r with
 |.ok _ _=>p.2
 |.exc _ _=>p.2
 |.bad=>p
structure W4(G:SC)(c:Bool)(k:Nat)(f:Addr)(fd:FuncData)(ps:Zl)(fn:Y2->Y3->Res PV):Prop where
 len:∀qs h,fn qs h≠.bad->qs.length=ps.length
 run:∀{X:Cx}{w:Wo}{h:Y3}{A:Around}{qs:Y2}{us:Z3}{args:Args}{Q:Yf}{E:Yf},X.toSC=G->fC k A->(c=true->A.handled=none)->A.frames=some X.stack->Wd X w h->X.Ok->ay G w.F w.m qs us->BindsTo w.s fd args (ps.zip us)->
  Kt X w Q E (fn qs h)->codeAny (model G.prog G.w) A (.call (.ref f) args) (RC Q E) w.s
def uG(n:Nat)(h:Y3):Prop:=(h.take n).all (ltP n)=true/\n<=h.length
inductive F9(n:Nat):SR->Res PV->Prop where
 |nx {ρ:Ev} {h:Y3}:uG n h->F9 n (.nx ρ h) (.ok .non (h.take n))
 |al {ρ:Ev} {h:Y3}:F9 n (.nx ρ h) (.ok .non h)
 |rt {v:PV} {h:Y3}:Zy n v=true->uG n h->F9 n (.rt v h) (.ok v (h.take n))
 |rf {v q:PV} {h h2:Y3}:cO h v=some (q,h2)->uG n h2->F9 n (.rt v h) (.ok q (h2.take n))
 |ex {e:PV} {h:Y3}:e.pure=true->uG n h->F9 n (.exc e h) (.exc e (h.take n))
 |ra {v:PV} {h:Y3}:F9 n (.rt v h) (.ok v h)
 |xa {e:PV} {h:Y3}:F9 n (.exc e h) (.exc e h)
section
variable{Y:Cx}{w w2:Wo}{h2:Y3}
def aQ.lt{F:Fz}(r:aQ G F m p u)(z:Zy n p=true):aQ G F (m.take n) p u:=by
 unfold Zy at z
 split at z
 .cases r with|ref e=>exact .ref (by rw[aev (of_decide_eq_true z)];exact e)
 .exact r.mono (fun _ _ e=>e) (.inl z)
theorem ay.lt{n:Nat}{F:Fz}{m:Zs}{p:Y2}{u:Z3}(r:ay G F m p u):p.all (Zy n)=true->ay G F (m.take n) p u:=ay.ind (P:=fun p u=>p.all (Zy n)=true->ay G F (m.take n) p u) (fun _=>.nil) (fun r _ i z=>have z:=ac7 _ _▸z;.cons (r.lt z.1) (i z.2)) r
theorem HR.cut(H:HR G w h)(c:uG n h):HR G ⟨w.F,w.O,w.m.take n,w.s⟩ (h.take n):=by
 refine⟨H.sub,fun d a e=>let⟨o,z,y⟩:=H.own d a e;⟨o,fun x=>z (aeg x),y⟩,by simp[H.len],H.nd.sublist (afx _ _),fun i o a e1 e2=>?_⟩
 have hi:i<n:=by
  rcases aeJ i n with z|z
  .exact z
  .rw[aft (by simp;lia)]at e1;cases e1
 have z:=adn.mp c.1 o (adw e1);rw[aev hi]at e1;have q:=H.obj i o a e1 (by rw[<- aev hi];exact e2)
 cases o with
 |lst ps=>obtain⟨f,its,n,e,l,r⟩:=q;exact⟨f,its,n,e,l,r.lt z⟩
 |dct J0=>obtain⟨f,o,kvs,e,d,y,l,c,r⟩:=q;exact⟨f,o,kvs,e,d,y,l,c,r.lt (by simpa[ltP,ahe]using z)⟩
 |E_ p=>obtain⟨r,z,q⟩:=q;exact⟨r.mono (fun _ _ e=>e) (.inl z),z,q⟩
 |obj C ps=>obtain⟨f,Ca,dx,od,vs,c,e,d,e2,nn,l,r⟩:=q;exact⟨f,Ca,dx,od,vs,c,e,d,e2,nn,l,r.lt z⟩
theorem Nw.cut(hl:h.length=w.m.length)(y:M8 X.fs WL w w2)(H:HR X.toSC w2 h2)(c:uG h.length h2):Nw X w ⟨w2.F,w2.O,w2.m.take h.length,w2.s⟩ (h2.take h.length):=by refine⟨⟨y.os,y.ba,y.fz,y.ow,?_,y.dom,fun b o q z=>let⟨sl,q,z⟩:=y.keep b o q z;⟨sl,⟨q.1,fun z=>q.2.1 (aeg z),q.2.2⟩,z⟩⟩,H.cut c⟩;obtain⟨t,e⟩:=y.pre;exact⟨[],by simp[e,hl]⟩
def pP.cut{e:PV}(r:pP X w w2 e u)(pu:e.pure=true):pP X w ⟨w2.F,w2.O,w2.m.take n,w2.s⟩ e u:=r.to pu rfl rfl rfl fun b z=>.inl fun y=>z ⟨fun z=>y.1 (aeg z),y.2⟩
variable{N:Zl}{qual:Str}{st:Stmt}{f:Addr}{fd:FuncData}{g:Sx}
def sC{c:Bool}(F:Fun G.K name qual st f fd)(S:mW N ps (aP st))(hb:∀(X:Cx)(cd:Value)(A:Around)(s:Shared),X.toSC=G->fC k (A.deeper (envOfC qual (aP st) s.heap.objs.size f cd))->Xk (lw c X N qual (aP st) f cd A s) (iP st) g)
  (hfn:∀qs h,fn qs h≠.bad->qs.length=ps.length/\F9 h.length (g (st0 N.length qs) h) (fn qs h)):W4 G c (k+1) f fd ps fn where
 len qs h z:=(hfn qs h z).1
 run {X w h A qs us args Q E} hG hr hd hf I ok r hbd p:=by
  subst hG;obtain⟨hl,fin⟩:=hfn qs h fun z=>by rw[z]at p;exact p
  refine qF (c:=c) F S hr hd hf I ok hl r hbd fun cd s1 hr1 nw y J _=>(hb X cd A w.s rfl hr1).r J ?_;have yo:∀{w2},Wc (lw c X N qual (aP st) f cd A w.s) { w with s:=s1 } w2->Wc (lw c X N qual (aP st) f cd A w.s) w w2:=fun y2=>M8.trans (y.weak (fun _ z=>z.elim) fun b z=>ac1 _ z) y2
  revert fin p
  generalize g (st0 N.length qs) h=sr;generalize fn qs h=res;intro p fin
  cases fin with
  |nx ck=>exact⟨.leaving,fun w2 y2 I2=>p ⟨w2.F,w2.O,w2.m.take h.length,w2.s⟩ _ (Nw.cut I.len ((yo y2).out nw) I2.toHR ck) .non⟩
  |al=>exact⟨.leaving,fun w2 y2 I2=>p _ _ ⟨(yo y2).out nw,I2.toHR⟩ .non⟩
  |rt l ck=>exact⟨.leaving,fun w2 u ρ y2 I2 r2=>p ⟨w2.F,w2.O,w2.m.take h.length,w2.s⟩ _ (Nw.cut I.len ((yo y2).out nw) I2.toHR ck) (r2.lt l)⟩
  |rf e ck=>exact⟨.leaving,fun w2 u ρ y2 I2 r2=>by obtain⟨F',n,r3,pu⟩:=I2.toHR.YB (X:=lw c X N qual (aP st) f cd A w.s) r2 e;exact p ⟨F',w2.O,w2.m.take h.length,w2.s⟩ _ (Nw.cut (w2:=⟨F',w2.O,w2.m,w2.s⟩) I.len ((yo (y2.trans n.s)).out nw) n.2 ck) (r3.mono (fun _ _ e=>e) (.inl pu))⟩
  |ex pu ck=>exact⟨.leaving,fun w2 u ρ y2 I2 r2=>JX nw rfl rfl rfl (agq hf) (yo y2) I2.toWd (r2.back y) fun s' y3 H3 r3=>p ⟨w2.F,w2.O,w2.m.take h.length,s'⟩ _ (Nw.cut (w2:={ w2 with s:=s' }) I.len y3 H3 ck) (r3.cut pu)⟩
  |ra=>exact⟨.leaving,fun w2 u ρ y2 I2 r2=>p _ _ ⟨(yo y2).out nw,I2.toHR⟩ r2⟩
  |xa=>exact⟨.leaving,fun w2 u ρ y2 I2 r2=>JX nw rfl rfl rfl (agq hf) (yo y2) I2.toWd (r2.back y) fun s' y3 H3 r3=>p { w2 with s:=s' } _ ⟨y3,H3⟩ r3⟩
def HY(h:p.pure=true):Zy n p=true:=by cases p<;>first|exact h|cases h
theorem tj:∀{l:Y2},am l=true->l.all (Zy n)=true
 |[],_=>rfl
 |p::r,h=>by simp only[am,ac7]at h;simp[HY h.1,tj h.2]
theorem qi:∀{l:Y3},eG l=true->l.all (ltP n)=true
 |[],_=>rfl
 |o::r,h=>by
  simp only[eG,ac7]at h;simp only[aeK,qi h.2,aeA]
  cases o with
  |lst xs=>exact tj h.1
  |dct kvs=>have:=tj (n:=n) (l:=kvs.map (·.2)) (by rw[<- gP];exact h.1);simpa[ltP,ahe]using this
  |E_ _=>rfl
  |obj _ ps=>cases h.1
def Kq{v:PV}(z:qC n v h≠.bad):uG n h/\qC n v h=.ok v (h.take n):=by
 unfold qC at z |-
 split at z
 .rename_i c;rw[if_pos c];simp only[ac7]at c;exact⟨⟨qi c.1,af9 c.2⟩,rfl⟩
 .exact absurd rfl z
def Kk{np N:Nat}(qs:Y2)(h:Y3)(z:pY g np N qs h≠.bad):qs.length=np/\F9 h.length (g (st0 N qs) h) (pY g np N qs h):=by
 unfold pY at z |-
 split at z
 .rename_i l;rw[if_pos l];refine⟨l,?_⟩;unfold st0
  split at z<;>rename_i e<;>(try rw[e])
  .obtain⟨c,e⟩:=Kq z;rw[e];exact .nx c
  .unfold kW at z |-
   split at z
   .rename_i e1;obtain⟨c,e⟩:=Kq z;rw[e];exact .rf e1 c
   .exact absurd rfl z
  .unfold Ju at z |-
   split at z
   .rename_i c;rw[if_pos c];simp only[ac7]at c;exact .ex c.2 ⟨qi c.1.1,af9 c.1.2⟩
   .exact absurd rfl z
  .exact absurd rfl z
 .exact absurd rfl z
def OS{np N:Nat}(qs:Y2)(h:Y3)(z:yk g np N qs h≠.bad):qs.length=np/\F9 h.length (g (st0 N qs) h) (yk g np N qs h):=by
 unfold yk at z |-
 split at z
 .rename_i l;rw[if_pos l];refine⟨l,?_⟩;unfold st0
  split at z<;>rename_i e<;>(try rw[e])
  .exact .al
  .exact absurd rfl z
 .exact absurd rfl z
def OR{np N:Nat}(qs:Y2)(h:Y3)(z:jL g np N qs h≠.bad):qs.length=np/\F9 h.length (g (st0 N qs) h) (jL g np N qs h):=by
 have e:jL g np N qs h=pY g np N qs h:=by
  unfold jL pY at*
  split
  .rw[if_pos ‹_›]at z;split<;>rename_i e<;>simp_all
  .rfl
 rw[e]at z |-;exact Kk qs h z
end
section
variable{w:Wo}{hs:Y3}{is:Y1}
theorem nY:∀{is:Y1}{hs:Y3},nZ h is=some hs->is.length=hs.length/\∀(j i:Nat),is[j]? =some i->h[i]? =hs[j]?
 |[],_,e=>by cases e;exact⟨rfl,fun _ _ e=>nomatch e⟩
 |i::r,_,e=>by
  unfold nZ at e
  split at e
  .rename_i e1
   split at e<;>cases e
   rename_i e2;obtain⟨l,k⟩:=nY e2;exact⟨by simp[l],fun j i' q=>by cases j with|zero=>cases q;exact e1|succ j=>exact k j i' q⟩
  .cases e
theorem tH:∀{is:Y1},nS is=true->is.Nodup
 |[],_=>.nil
 |i::r,h=>by simp only[nS,ac7,afy,List.contains_eq_mem,decide_eq_false_iff_not]at h;exact .cons (fun x hx z=>h.1 (z▸hx)) (tH h.2)
theorem sZ:∀(is:Y1)(h hs:Y3),(Z.gO h is hs).length=h.length
 |[],h,_=>by simp[Z.gO]
 |_::_,h,[]=>by simp[Z.gO]
 |i::r,h,o::l=>by simp[Z.gO,sZ r]
theorem th:∀{is:Y1}{h hs:Y3}{i:Nat},is.Nodup->is.length=hs.length->(∀j∈is,j<h.length)->(∀j:Nat,is[j]? =some i->(Z.gO h is hs)[i]? =hs[j]?)/\(i∉is->(Z.gO h is hs)[i]? =h[i]?)
 |[],h,[],i,_,_,_=>⟨fun _ e=>(nomatch e),fun _=>rfl⟩
 |j0::r,h,o::l,i,nd,e,lt=>by
  rw[adL]at nd;obtain⟨a,b⟩:=th (h:=h.set j0 o) (hs:=l) (i:=i) nd.2 (by simpa using e) (fun j hj=>by simpa using lt j (ac1 _ hj));refine⟨fun j q=>?_,fun n=>?_⟩
  .cases j with
   |zero=>cases q;simp only[Z.gO];rw[b nd.1];simp[lt _ ac4]
   |succ j=>simp only[Z.gO];rw[a j q];rfl
  .simp only[Z.gO];rw[b fun z=>n (ac1 _ z),aeL fun z=>n (by simp[z])]
noncomputable def sel(m:Zs)(is:Y1):Zs:=is.map fun i=>m.getD i 0
def rV(e:is[j]? =some i)(q:m[i]? =some a):(sel m is)[j]? =some a:=by simp[sel,e,adA,q]
theorem qj:∀{hs:Y3}{j:Nat}{o:PO},eG hs=true->hs[j]? =some o->o.pure=true
 |o::r,j,o',h,e=>by
  simp only[eG,ac7]at h
  cases j with
  |zero=>cases e;exact h.1
  |succ j=>exact qj h.2 e
theorem uE.pure{F:Fz}{m m':Zs}{O O':Addr->Option Addr}{g:Heap}{a:Addr}{o:PO}(q:uE G F m O g a o)(p:o.pure=true):uE G F m' O' g a o:=by
 cases o with
 |lst ps=>obtain⟨f,its,n,e,l,r⟩:=q;exact⟨f,its,n,e,l,r.mono (fun _ _ e=>e) (.inl p)⟩
 |dct J0=>obtain⟨f,o,kvs,e,d,y,l,c,r⟩:=q;exact⟨f,o,kvs,e,d,y,l,c,r.mono (fun _ _ e=>e) (.inl (by rw[<- gP];exact p))⟩
 |E_ p=>obtain⟨r,z,q⟩:=q;exact⟨r.mono (fun _ _ e=>e) (.inl z),z,q⟩
 |obj C ps=>cases p
def wz(H:HR G w h)(lt:∀i∈is,i<h.length)(z:a∈sel w.m is):∃i∈is,w.m[i]? =some a:=by obtain⟨i,hi,rfl⟩:=adM.mp z;have l:=lt i hi;rw[H.len]at l;exact⟨i,hi,by simp[adA,adz l]⟩
theorem Ey:∀{is:Y1},is.Nodup->(∀i∈is,i<w.m.length)->w.m.Nodup->(sel w.m is).Nodup
 |[],_,_,_=>.nil
 |i::r,nd,lt,n=>by rw[adL]at nd;refine adL.mpr ⟨fun z=>?_,Ey nd.2 (fun j hj=>lt j (ac1 _ hj)) n⟩;obtain⟨j,hj,e⟩:=adM.mp z;have l1:=lt i (by simp);have l2:=lt j (ac1 _ hj);simp only[adA,adz l1,adz l2,aib]at e;exact nd.1 ((afG n).mp e▸hj)
theorem Wd.sel(I:Wd X w h)(e:nZ h is=some hs)(nd:is.Nodup)(pu:eG hs=true)(lt:∀i∈is,i<h.length):Wd X ⟨w.F,fun _=>none,sel w.m is,w.s⟩ hs:=by
 obtain⟨l,k⟩:=nY e;have g:∀i∈is,∃a,w.m[i]? =some a:=fun i hi=>⟨_,adz (I.len▸lt i hi)⟩
 refine⟨⟨I.sub,fun _ _ e=>(nomatch e),by simp[Z.sel,l],Ey nd (fun i hi=>I.len▸lt i hi) I.nd,fun j o a e1 e2=>?_⟩,I.ba,I.bs,fun b hb=>let⟨o,q,d⟩:=I.fr b hb;⟨o,⟨q.1,fun z=>let⟨i,_,q'⟩:=wz I.toHR lt z;q.2.1 (adw q'),q.2.2.1,rfl⟩,d⟩⟩;have hj:j<is.length:=by rw[l];exact(ac9.mp e1).1
 obtain⟨i,hi⟩:∃i,is[j]? =some i:=⟨_,adz hj⟩
 obtain⟨a',ha⟩:=g i (adw hi)
 cases(rV hi ha).symm.trans e2
 exact(I.obj i o a (by rw[k j i hi];exact e1) ha).pure (qj pu e1)
theorem wG{F:Fz}{m:Zs}:∀{ps:Y2}{us:Z3}{n:Nat}{m':Zs},ay G F m ps us->qr ps=true->(∀(j i:Nat) a,(Wz ps)[j]? =some i->m[i]? =some a->m'[n+j]? =some a)->ay G F m' (Y8 n ps) us:=by
 intro ps
 induction ps with
 |nil=>intro _ _ _ r _ _;cases r;exact .nil
 |cons p ps ih=>
  intro _ n m' r ok k
  obtain _|⟨r,t⟩:=r
  have z:p.pure=true/\qr ps=true/\Wz (p::ps)=Wz ps/\Y8 n (p::ps)=p::Y8 n ps\/∃i,p=.ref i:=by cases p<;>first|exact .inr ⟨_,rfl⟩|exact .inl ⟨(ac7 _ _▸ok).1,(ac7 _ _▸ok).2,rfl,rfl⟩
  rcases z with⟨z,o,e,e'⟩|⟨i,rfl⟩
  .rw[e'];rw[e]at k;exact .cons (r.mono (fun _ _ e=>e) (.inl z)) (ih t o k)
  .cases r with
   |ref e=>exact .cons (.ref (k 0 i _ rfl e)) (ih t ok fun j i a e1 e2=>by have:=k (j+1) i a e1 e2;rwa [show n+1+j=n+(j+1) by lia])
def W4.aaS{c:Bool}{f:Addr}{fd:FuncData}{qs:Y2}(F:W4 X.toSC c k f fd ps fn)(hr:fC k X.A)(hc:c=true->X.calm=true)(hb:ko X.K fd ps [])(I:Inv X w ρ h)(r:ay X.toSC w.F w.m qs us)(p:bG X (RV X.toSC) w Q E (fn qs h)):Wp X (call (.ref f) us) Q E w.s:=by refine agd (F.run rfl hr (fun z=>I.ok.hd (hc z)) I.ok.frames I.toWd I.ok r (by simpa using hb w.s us I.U_ (by rw[adD,<- r.length];exact F.len _ _ fun z=>by rw[z]at p;exact p)) p.c)
theorem W4.I9{c:Bool}{f:Addr}{fd:FuncData}{k:Nat}{ps:Zl}{fn:Y2->Y3->Res PV}{ρ:Ev}{qs:Y2}{us:Z3}{Q:Yf}{E:Yf}(F:W4 X.toSC c k f fd ps fn)(hr:fC k X.A)(hc:c=true->X.calm=true)(hb:ko X.K fd ps [])(I:Inv X w ρ h)(r:ay X.toSC w.F w.m qs us)(p:bG X (RV X.toSC) w Q E (I9 fn qs h)):Wp X (call (.ref f) us) Q E w.s:=by
 unfold Z.I9 at p
 split at p
 .rename_i hs e
  split at p
  .rename_i c;simp only[ac7]at c;obtain⟨⟨c1,c2⟩,c3⟩:=c;obtain⟨gl,gk⟩:=nY e;have nd:=tH c3
   have lt:∀i∈Wz qs,i<h.length:=fun i hi=>by obtain⟨j,hj,rfl⟩:=ae7.mp hi;have:=gk j _ (adz hj);rw[adz (show j<hs.length from gl▸hj)]at this;exact(ac9.mp this).1
   have r':ay X.toSC w.F (sel w.m (Wz qs)) (Y8 0 qs) us:=wG r c1 fun j i a e1 e2=>by rw[af3];exact rV e1 e2
   have I':=I.toWd.sel e nd c2 lt;have hm:∀a∈sel w.m (Wz qs),a∈w.m:=fun a z=>let⟨i,_,q⟩:=wz I.toHR lt z;adw q
   have bk:∀{w1:Wo}{Yd:Y3},Nw X ⟨w.F,fun _=>none,sel w.m (Wz qs),w.s⟩ w1 Yd->eG Yd=true->Yd.length=hs.length->Nw X w ⟨w1.F,w.O,w.m,w1.s⟩ (Z.gO h (Wz qs) Yd):=fun{w1 Yd} y pu l=>by
    have pg:=fun i=>th (i:=i) (h:=h) (hs:=Yd) nd (gl.trans l.symm) lt;refine Nw.back I.toWd y.1 y.2 (sZ _ _ _) hm (fun i po a e1 e2 z=>?_) fun i po a e1 e2 z=>?_
    .obtain⟨i',hi',e3⟩:=wz I.toHR lt z
     have:i=i':=by obtain⟨l1,q1⟩:=ac9.mp e2;obtain⟨l2,q2⟩:=ac9.mp e3;exact(afG I.nd).mp (q1.trans q2.symm)
     subst this;obtain⟨j,hj,rfl⟩:=ae7.mp hi';have ej:=adz hj;rw[(pg _).1 j ej]at e1;exact(y.2.obj j po a e1 (y.1.sub j a (rV ej e2))).pure (qj pu e1)
    .rw[(pg i).2 fun hi=>z (adw (rV (adz (ae7.mp hi).choose_spec.choose) (by rw[(ae7.mp hi).choose_spec.choose_spec];exact e2)))]at e1;exact e1
   refine agd (F.run (w:=⟨w.F,fun _=>none,sel w.m (Wz qs),w.s⟩) rfl hr (fun z=>I.ok.hd (hc z)) I.ok.frames I' I.ok r' (by simpa using hb w.s us I.U_ (by rw[adD,<- r'.length];exact F.len _ _ fun z=>by rw[z]at p;exact p)) ?_)
   split at p
   .rename_i e1;rw[e1]
    split at p
    .rename_i c;exact fun w1 x y r1=>p.2 ⟨w1.F,w.O,w.m,w1.s⟩ _ (bk y c.2.1 c.2.2) (r1.mono (fun _ _ e=>e) (.inl c.1))
    .exact p.elim
   .rename_i e1;rw[e1]
    split at p
    .rename_i c;refine fun w1 x y r1=>p.2 ⟨w1.F,w.O,w.m,w1.s⟩ _ (bk y c.2.1 c.2.2) (r1.to c.1 rfl rfl rfl fun b z=>?_);have nf:¬ W3 w b->b∉X.fs:=fun n z=>let⟨_,q,_⟩:=I.fr _ z;n q.2
     by_cases z1:b∈w.m
     .exact .inr ⟨I.toHR.there z1,nf fun y=>y.1 z1⟩
     .by_cases z2:w.O b=none
      .exact .inl fun y=>z ⟨z1,y.2.1,z2⟩
      .obtain⟨o,q⟩:=Option.ne_none_iff_exists'.mp z2;exact .inr ⟨(I.own b o q).1,nf fun y=>z2 y.2.2⟩
    .exact p.elim
   .exact p.elim
  .exact p.elim
 .exact p.elim
structure ZL(X:Cx)(x:Str)(fn:Y2->Y3->Res PV):Prop where
 ex:∃c k f fd ps,W4 X.toSC c k f fd ps fn/\fC k X.A/\(c=true->X.calm=true)/\X.mg x=some (.ref f)/\W.keepIn X.K (.ref f)=true/\ko X.K fd ps []
variable{e:Expr}{fs:Ax}
def yx(c:ZL X x fn)(hg:Gl X x)(ha:RA X (e::es) fs)(Ug:(x==("__debug__":Str))=false)(he:starEach (e::es) X.env=(false,eval e X.env)::starEach es X.env)(WY:(backTo pos (starEach es X.env)).any (·.1)=false):RE X (.Call (.Name x p0) (e::es) [] pos) (aN fn fs):=⟨fun I p=>by obtain⟨c,k,f,fd,ps,F,hr,hc,hm,hk,hb⟩:=c.ex;exact adV (I.glb hg hm (af0 (h₀:=X.base) I.ok.V8 hk (ha.r pos I (p.bind fun _ _ _ _ y r p=>⟨(I.on y).U_,F.I9 hr hc hb (I.on y) r p⟩)) he WY) Ug)⟩
def Fe(c:ZL X x fn)(hg:Gl X x)(ha:RA X (e::es) fs)(Ug:(x==("__debug__":Str))=false)(he:starEach (e::es) X.env=(false,eval e X.env)::starEach es X.env)(WY:(backTo pos (starEach es X.env)).any (·.1)=false):RE X (.Call (.Name x p0) (e::es) [] pos) (xE fn fs):=⟨fun I p=>by obtain⟨c,k,f,fd,ps,F,hr,hc,hm,hk,hb⟩:=c.ex;exact adV (I.glb hg hm (af0 (h₀:=X.base) I.ok.V8 hk (ha.r pos I (p.bind fun _ _ _ _ y r p=>⟨(I.on y).U_,F.aaS hr hc hb (I.on y) r p⟩)) he WY) Ug)⟩
end
noncomputable def qo(C:Nat)(h:Y3):PV->Option (Nat×Y2)
 |.ref i=>match h[i]? with
  |some (.obj D ps)=>if D=C then some (i,ps)else none
  |_=>none
 |_=>none
def bZ(C j:Nat)(p:PV)(h:Y3):Res PV:=match qo C h p with
 |some (_,ps)=>match ps[j]? with
  |some q=>.ok (aj h q) h
  |none=>.bad
 |none=>.bad
def lV(C j:Nat)(v p:PV)(ρ:Ev)(h:Y3):SR:=match qo C h p with
 |some (i,ps)=>if j<ps.length then .nx ρ (h.set i (.obj C (ps.set j v)))else if j=ps.length then .nx ρ (h.set i (.obj C (ps++ [v])))else .bad
 |none=>.bad
def jq(C j:Nat)(fo fv:Ex):Sx:=fun ρ h=>eY (fv ρ h) fun v h1=>eY (fo ρ h1) fun o h2=>lV C j v o ρ h2
def dG(C:Nat)(fn:Y2->Y3->Res PV)(o:Ex)(as:Ax):Ex:=fun ρ h=>(o ρ h).bind fun p h1=>match qo C h1 p with
 |some _=>(as ρ h1).bind fun ps h2=>fn (p::ps) h2
 |none=>.bad
noncomputable def mkO(C:Nat)(fn:Y2->Y3->Res PV)(ps:Y2)(h:Y3):Res PV:=match fn (.ref h.length::ps) (h++ [.obj C []])with
 |.ok .non h2=>.ok (.ref h.length) h2
 |_=>.bad
def xD(C:Nat)(fn:Y2->Y3->Res PV)(as:Ax):Ex:=fun ρ h=>(as ρ h).bind (mkO C fn)
section
variable{f:Str}
theorem sK:∀{ns:Zl}{vs:Z3}{j:Nat}{v:Value},ns.Nodup->ns[j]? =some f->vs[j]? =some v->(ns.zip vs).lookup f=some v
 |[],_,_,_,_,e,_=>by simp at e
 |n::ns,[],j,v,_,_,e=>by simp at e
 |n::ns,x::vs,0,v,_,e1,e2=>by cases e1;cases e2;simp[List.lookup]
 |n::ns,x::vs,j+1,v,nd,e1,e2=>by
  rw[adL]at nd;have ne:f≠n:=fun z=>nd.1 (z▸adw e1);have:(f==n)=false:=by simpa using ne
  rw[afO,List.lookup,this];exact sK nd.2 e1 e2
theorem ny:∀{ns:Zl}{vs:Z3},f∉ns->(ns.zip vs).lookup f=none
 |[],_,_=>by simp
 |n::ns,[],_=>by simp
 |n::ns,x::vs,h=>by
  have:(f==n)=false:=by simpa using fun z=>h (by simp[z])
  rw[afO,List.lookup,this];exact ny fun z=>h (ac1 _ z)
theorem Bh{n:Str}:∀{ns:Zl}{vs:Z3}{j:Nat},ns.Nodup->ns[j]? =some f->j<=vs.length->(ns.zip (vs.take j++y::vs.drop (j+1))).lookup n=if n=f then some y else(ns.zip vs).lookup n
 |[],_,_,_,e,_=>by simp at e
 |g::ns,vs,0,_,e,_=>by
  cases e
  by_cases z:n=f
  .simp[z,List.lookup]
  .have:(n==f)=false:=by simpa using z
   cases vs<;>simp[List.lookup,this,z]
 |g::ns,[],j+1,_,_,e=>by simp at e
 |g::ns,x::vs,j+1,nd,e1,l=>by
  rw[adL]at nd;have ih:=Bh (n:=n) nd.2 e1 (Nat.le_of_succ_le_succ l);simp only[List.take_succ_cons,List.drop_succ_cons,adY,afO,List.lookup]
  by_cases z:n=g
  .have:n≠f:=fun z'=>nd.1 (z▸z'▸adw e1);simp[z,if_neg (z▸this)]
  .have:(n==g)=false:=by simpa using z
   simp only[this];exact ih
end
theorem tQ{y:Str}{v:Value}:∀{fs:List (Str×Value)},fs.lookup y=some v->(y,v)∈fs
 |p::r,e=>by
  simp only[List.lookup]at e
  split at e
  .rename_i q;cases e;cases agY q;simp
  .exact ac1 _ (tQ e)
def Gu(C:Nat):(Xg C).Nodup:=by unfold Xg;split<;>decide+kernel
def Jf(C:Nat):(Xg C).length<100:=by unfold Xg;split<;>decide+kernel
structure Cls(K:W.Frag)(C:Addr):Prop where
 pg:W.plainGet K C Str.empty=true
 hd:W.hasDictIn K C=true
 po:W.plainOver K C=true
 sa:W.findIn K (.ref C) "__setattr__"=some (some (.builtin "object.__setattr__"))
def uF(K:W.Frag)(C:Addr)(f:Str):Prop:=W.findIn K (.ref C) f=some none
structure gL(K:W.Frag)(C:Addr)(m:Str)(f:Addr):Prop where
 at_:W.findIn K (.ref C) m=some (some (.ref f))
 fn:W.isFn K (.ref f)=true
 kp:W.keepIn K (.ref f)=true
structure Mk(K:W.Frag)(C f:Addr):Prop where
 makes:W.makesIn K C=true
 init:W.findIn K (.ref C) "__init__"=some (some (.ref f))
 fn:W.isFn K (.ref f)=true
 kp:W.keepIn K (.ref C)=true
def OM(g:Heap)(a dx C:Addr)(fs:List (Str×Value)):Prop:=g.get? a=some (W.instObj C dx)/\∃od,g.get? dx=some od/\NsO od fs
section
variable{M:Model}{wd:World}{K:W.Frag}{s:Shared}{dx C:Addr}{fs:List (Str×Value)}{f:Str}
def Dy{od:Obj}(n:NsO od fs)(name:Str):W.lookIn name od=some (fs.lookup name):=by
 obtain⟨es,ep,hd,hk,_,hm⟩:=n;have e:=hm name;unfold nsFind findBy at e;rw[<- Array.find?_toList]at e;unfold W.lookIn;rw[hd];dsimp only
 split
 .rename_i y q;rw[q]at e;exact congrArg some e
 .rename_i q;rw[q]at e
  have n:es.toList.any (·.refKey)=false:=by rw[agT];intro y hy;obtain⟨z,t,adk⟩:=hk y (Array.mem_toList_iff.mp hy);simp[DictEntry.refKey,adk]
  rw[if_neg (by rw[n];exact afl)];exact congrArg some e
def OM.look{g:Heap}(I:OM g a dx C fs):∃od,W.InstAt g a (W.instObj C dx) C (some od)/\∀name,W.lookIn name od=some (fs.lookup name):=
 let⟨hx,od,ho,n⟩:=I;⟨od,⟨hx,rfl,rfl,ho⟩,Dy n⟩
def Jb(k:K.In s.heap)(I:OM s.heap a dx C fs)(c:Cls K C)(n:uF K C f)(l:fs.lookup f=some v)(hv:W.handedIn v=true)(h:Q v { s with toks:=s.toks+1 }):wpAny (model P wd) A (getAttr (.ref a) f b) Q E s:=by obtain⟨od,J,hl⟩:=I.look;exact W.get_value k J (ahP c.pg).1 (W.findObj_own c.hd n rfl (by rw[hl,l])) hv h
def zv{g:Addr}{pl:Sem Bool}{Q:Value×Z3->Shared->Prop}(k:K.In s.heap)(I:OM s.heap a dx C fs)(c:Cls K C)(m:gL K C f g)(l:fs.lookup f=none)(h:Q (.ref g,[.ref a]) s):wpAny (model P wd) A (getMethod (.ref a) f pl) Q E s:=by obtain⟨od,J,hl⟩:=I.look;exact W.method_fn k J (ahP (name:=f) c.pg).1 (ahP (name:=f) c.pg).2 m.at_ (beq_iff_eq.mp m.fn) (by show(W.lookIn f od).map (·.isSome)=some false;rw[hl,l];rfl) h
def Hx{Q:Unit->Shared->Prop}(k:K.In s.heap)(I:OM s.heap a dx C fs)(ne:dx≠a)(c:Cls K C)(n:uF K C f)(z:fs.length<=sizeLine)(h:∀h',h'.Ns1 dx (fun y=>if y=f then some v else fs.lookup y)->Heap.SameBut dx s.heap h'->Q () { s with heap:=h',toks:=s.toks+2 }):wpAny (model P wd) A (setAttr (.ref a) f v) Q E s:=by
 obtain⟨od,J,hl⟩:=I.look;obtain⟨hx,od',ho,es,ep,q1,q2,q3,q4⟩:=id I;have ns:s.heap.Ns1 dx fun y=>fs.lookup y:=⟨od',es,ep,ho,q1,q2,q3,q4⟩
 have hw:PySem.Within (fun y=>fs.lookup y) (fs.map (·.1)):=fun y hy=>by
  cases e:fs.lookup y with
  |none=>exact absurd e hy
  |some v=>exact adM.mpr ⟨(y,v),tQ e,rfl⟩
 refine W.set_plain k J c.sa (W.osa_open (s:={ s with toks:=s.toks+1 }) (r:=none) k J c.po (by unfold W.takerIn;rw[show W.findIn K (.ref C) f=some none from n];rfl) fun b=>?_);obtain⟨cd,hc,hd'⟩:=W.any_some c.hd;refine ac0 (adf (ac0 (ac0 (wpAny_loadPart (show s.heap.get? a=some ⟨.ref C,some dx,.plain, #[]⟩from hx) (ac0 (aiD (s:={ s with toks:=s.toks+1 }) (W.looks_clsIn k hc) ?_))))));rw[hd'];refine adf (a:=some dx) (ac0 (adf (ac0 ?_)));refine wpAny_nsSet1 (s:={ s with toks:=s.toks+1 }) ns fun h' hn2 hs2=>?_;obtain⟨oD,esD,epD,hoD,hdD,hcD⟩:=hn2.count (ah4 f v hw);exact ac0 (wpAny_lookBehind hoD (by rw[hdD];exact pastItsLine_dict (adu hcD (by rw[ac6,ac2];lia))) (adf (h _ hn2 hs2)))
end
section
variable{w:Wo}{po:PO}
def Nw.upd(H:HR X.toSC w h)(em:w.m[i]? =some a)(n:w.F a=none)(k:∀b o,w.s.heap.get? b=some o->b=a\/w.O b=some a\/s'.heap.get? b=some o)(d:∀b o,w.s.heap.get? b=some o->∃o',s'.heap.get? b=some o')(q:uE X.toSC w.F w.m w.O s'.heap a po)(ho:(s'.os=w.s.os)\1)(hg:(s'.gens=w.s.gens)\1):Nw X w { w with s:=s' } (h.set i po):=by
 have k':∀b o,w.s.heap.get? b=some o->b≠a->w.O b≠some a->s'.heap.get? b=some o:=fun b o e x y=>(k b o e).elim (fun z=>absurd z x) fun z=>z.resolve_left y;refine⟨⟨ho,fun q=>hg▸q,fun _ _ e=>e,fun _ _ e=>e,⟨[],by simp⟩,d,fun b o q _=>⟨o.slots,⟨k' b o q.1 (fun z=>q.2.1 (z▸adw em)) (by rw[q.2.2.2];exact fun z=>nomatch z),q.2⟩,.inr rfl⟩⟩,fun b o e=>k' b o (H.sub b o e) (fun z=>by rw[z,n]at e;cases e) (fun z=>by rw[(H.own b a z).2.2]at e;cases e),fun b x e=>let⟨⟨o,q⟩,z⟩:=H.own b x e;⟨d b o q,z⟩,by simp[H.len],H.nd,fun j o b e1 e2=>?_⟩
 by_cases z:j=i
 .subst z
  cases em.symm.trans e2
  rw[aeR (H.len▸(ac9.mp em).1)]at e1
  cases e1;exact q
 .rw[aeL (aem z)]at e1
  have nb:b≠a:=fun y=>z (by obtain⟨l1,q1⟩:=ac9.mp e2;obtain⟨l2,q2⟩:=ac9.mp em;exact(afG H.nd).mp (q1.trans (y.trans q2.symm)))
  exact(H.obj j o b e1 e2).on (fun _ _ e=>e) (fun _ e=>e) (fun _ _ e=>e) (fun c o e y=>k' c o e (y.elim (fun y=>y▸nb) fun y z=>by subst z;exact(H.own _ _ y).2.1 (adw em)) (y.elim (fun y z=>(H.own c a z).2.1 (y▸adw e2)) fun y z=>nb (aex (y.symm.trans z)))) id
inductive Ob0(G:SC)(w:Wo)(C i:Nat)(p:PV)(u:Value)(ps:Y2):Prop where
 |mk (a Ca dx:Addr) (vs:Z3) (_:u=.ref a) (_:p=.ref i) (_:w.m[i]? =some a) (_:w.F a=none) (_:G.T C=some Ca) (_:OM w.s.heap a dx Ca ((Xg C).zip vs)) (_:dx≠a) (_:w.O dx=some a) (_:vs.length<=(Xg C).length) (_:ay G w.F w.m ps vs)
def HR.ob{C:Nat}{ps:Y2}(H:HR G w h)(r:aQ G w.F w.m p u)(e:qo C h p=some (i,ps)):Ob0 G w C i p u ps:=by
 unfold qo at e
 split at e
 .split at e
  .rename_i q
   split at e<;>cases e
   subst_vars
   cases r with
   |ref em=>obtain⟨f,Ca,dx,od,vs,c,e1,o,e2,n,l,r⟩:=H.obj _ _ _ q em;exact⟨_,Ca,dx,vs,rfl,rfl,em,f,c,⟨e1,od,e2,n⟩,fun z=>(H.own _ _ o).2.1 (z▸adw em),o,l,r⟩
  .cases e
 .cases e
def Mp{F:Fz}(r:aQ G F m p u):W.handedIn u=true:=by cases r<;>rfl
structure OC(X:Cx)(C:Nat):Prop where
 ex:∃Ca,X.T C=some Ca/\Cls X.K Ca/\∀f∈Xg C,uF X.K Ca f
variable{f:Str}{o value:Expr}{fv:Ex}{pos':Pos}{C:Nat}
def Fc(oc:OC X C)(hj:(Xg C)[j]? =some f)(ho:RE X o fo)(hb:(attributeBase o f X.env (eval o X.env)=eval o X.env)\1):RE X (.Attribute o f pos) (c1 (bZ C j) fo):=⟨fun I p=>by
 obtain⟨Ca,t,c,n⟩:=oc.ex;refine Attribute_any_ (ho.r I (p.bind fun w1 h1 a u y r p=>?_)) (by rw[arm_eval_Attribute,hb]);unfold bZ at p
 split at p
 .rename_i e;obtain⟨a,Cb,dx,vs,rfl,_,em,_,c',O,_,_,_,rr⟩:=y.2.ob r e
  cases t.symm.trans c'
  split at p
  .obtain⟨v,e3,rq⟩:=rr.get ‹_›;exact Jb (I.on y).U_ O c (n f (adw hj)) (sK (Gu C) hj e3) (Mp rq) (p.now y.2 (y.2.Wq rq))
  .exact p.elim
 .exact p.elim⟩
def EM(oc:OC X C)(hj:(Xg C)[j]? =some f)(ho:RE X o fo)(hv:RE X value fv)(hs:(swapsWith value (some (.Attribute o f pos')) pos.line X.env=pure false)\1):RS X (.Assign [.Attribute o f pos'] value pos) (jq C j fo fv):=⟨fun{w ρ h Q E} I p=>by
 obtain⟨Ca,t,c,n⟩:=oc.ex;refine af7 (hv.r I (bp.e p I fun w1 h1 pv v y1 I1 rv p=>ho.r I1 (bp.e p I1 fun w2 h2 po u y2 I2 r p=>?_))) hs;unfold lV at p
 split at p
 .rename_i i ps e;obtain⟨a,Cb,dx,vs,rfl,_,em,hf,c',O,ne,od,l,rr⟩:=I2.toHR.ob r e
  cases t.symm.trans c'
  have lj:=(ac9.mp hj).1
  have go:∀qs,qs=ps.take j++pv::ps.drop (j+1)->j<=ps.length->bp X w2 Q E (.nx ρ (h2.set i (.obj C qs)))->Wp X (setAttr (.ref a) f v) (fun _=>Q .next) E w2.s:=by
   rintro qs rfl hl p
   have hl':j<=vs.length:=rr.length▸hl;refine Hx I2.U_ O ne c (n f (adw hj)) (by have:=Jf C;rw[air,afz];lia) fun h' ns sb=>?_;obtain⟨od',es,ep,e1,e2,e3,e4,e5⟩:=id ns
   have y3:=Nw.upd (X:=X) (s':={ w2.s with heap:=h',toks:=w2.s.toks+2 }) (po:=.obj C (ps.take j++pv::ps.drop (j+1))) I2.toHR em hf (fun b o e=>by
     by_cases z:b=dx
     .exact .inr (.inl (z▸od))
     .exact .inr (.inr ((sb.2 b z).trans e))) (fun b o e=>by
     by_cases z:b=dx
     .exact⟨od',z▸e1⟩
     .exact⟨o,(sb.2 b z).trans e⟩) ⟨hf,Ca,dx,od',vs.take j++v::vs.drop (j+1),t,(sb.2 a (aem ne)).trans O.1,od,e1,⟨es,ep,e2,e3,e4,fun m=>by rw[e5 m,Bh (Gu C) hj hl']⟩,by simp;lia,(rr.td j).1.app (.cons (y2.1.rep rv) (rr.td (j+1)).2)⟩
   exact p.2 _ y3.s (I2.on y3)
  split at p
  .exact go _ (by rw[List.set_eq_take_append_cons_drop,if_pos ‹_›]) (agA ‹_›) p
  .split at p
   .exact go _ (by subst_vars;simp) (Nat.le_of_eq ‹_›) p
   .exact p.elim
 .exact p.elim⟩
variable{m:Str}{e:Expr}{fs:Ax}
structure ZO(X:Cx)(C:Nat)(m:Str)(fn:Y2->Y3->Res PV):Prop where
 ex:∃Ca c k f fd ps,X.T C=some Ca/\Cls X.K Ca/\gL X.K Ca m f/\m∉Xg C/\W4 X.toSC c k f fd ps fn/\fC k X.A/\(c=true->X.calm=true)/\ko X.K fd ps []
def EY{pl:Sem Bool}(c:ZO X C m fn)(ho:RE X o fo)(ha:RA X (e::es) fs)
  (hst:starEach (e::es) X.env=(false,eval e X.env)::starEach es X.env) (WY:(backTo pos (starEach es X.env)).any (·.1)=false)
  (ht:eval (.Call (.Attribute o m apos) (e::es) [] pos) X.env=(do
   let ov <- eval o X.env
   standAt apos.atName
   let(f,first) <- holding [ov] (getMethod ov m pl)
   callWith pos f first (backTo pos (starEach (e::es) X.env)) (backToKw pos (keywordEach [] X.env)))):
  RE X (.Call (.Attribute o m apos) (e::es) [] pos) (dG C fn fo fs):=⟨fun I p=>by
 obtain⟨Ca,cc,k,f,fd,ps,t,c,hm,nm,F,hr,hc,hb⟩:=c.ex;refine ain (pl:=pl) (ho.r I (p.bind fun w1 h1 q u y r p=>?_)) ht
 split at p
 .obtain⟨a,Cb,dx,vs,rfl,_,em,_,c',O,_⟩:=y.2.ob r ‹_›
  cases t.symm.trans c'
  have I1:=I.on y;exact zv I1.U_ O c hm (ny nm) (af0 (first:=[.ref a]) (h₀:=X.base) I.ok.V8 hm.kp (ha.r pos I1 (p.bind fun w2 h2 qs us y2 r2 p=>⟨(I1.on y2).U_,F.aaS hr hc hb (I1.on y2) (.cons (y2.1.rep r) r2) p⟩)) hst WY)
 .exact p.elim⟩
def De{pl:Sem Bool}(c:ZO X C m fn)(ho:RE X o fo)
  (ht:eval (.Call (.Attribute o m apos) [] [] pos) X.env=(do
   let ov <- eval o X.env
   standAt apos.atName
   let(f,first) <- holding [ov] (getMethod ov m pl)
   callWith pos f first (backTo pos (starEach [] X.env)) (backToKw pos (keywordEach [] X.env)))):
  RE X (.Call (.Attribute o m apos) [] [] pos) (dG C fn fo ah):=⟨fun I p=>by
 obtain⟨Ca,cc,k,f,fd,ps,t,c,hm,nm,F,hr,hc,hb⟩:=c.ex;refine ain (pl:=pl) (ho.r I (p.bind fun w1 h1 q u y r p=>?_)) ht
 split at p
 .obtain⟨a,Cb,dx,vs,rfl,_,em,_,c',O,_⟩:=y.2.ob r ‹_›
  cases t.symm.trans c'
  have I1:=I.on y;exact zv I1.U_ O c hm (ny nm) (ahQ (first:=[.ref a]) I1.U_ hm.kp (F.aaS hr hc hb I1 (.cons r .nil) p))
 .exact p.elim⟩
structure ZK(X:Cx)(C:Nat)(x:Str)(fn:Y2->Y3->Res PV):Prop where
 ex:∃Ca c k f fd ps,X.T C=some Ca/\Mk X.K Ca f/\W4 X.toSC c k f fd ps fn/\fC (k+1) X.A/\(c=true->X.calm=true)/\X.mg x=some (.ref Ca)/\ko X.K fd ps []
def make{Ca g:Addr}{fd:FuncData}{qs:Y2}(t:X.T C=some Ca)(M:Mk X.K Ca g){c:Bool}(F:W4 X.toSC c k g fd ps fn)(hr:fC (k+1) X.A)(hc:c=true->X.calm=true)(hb:ko X.K fd ps [])(I:Inv X w ρ h)(r:ay X.toSC w.F w.m qs us)(p:bG X (RV X.toSC) w Q E (mkO C fn qs h)):Wp X (call (.ref Ca) us) Q E w.s:=by
 have hl:fn (.ref h.length::qs) (h++ [.obj C []])≠.bad:=fun z=>by unfold mkO at p;rw[z]at p;exact p
 let s1:Shared:={ w.s with heap:=(w.s.heap.push W.emptyDict).push (W.instObj Ca w.s.heap.objs.size) }
 let w1:Wo:=⟨w.F,fun d=>if d=w.s.heap.objs.size then some (w.s.heap.objs.size+1)else w.O d,w.m++ [w.s.heap.objs.size+1],s1⟩
 have g0:s1.heap.get? w.s.heap.objs.size=some W.emptyDict:=ada _ (ado _ rfl)
 have e1:s1.heap.get? (w.s.heap.objs.size+1)=some (W.instObj Ca w.s.heap.objs.size):=by
  have:=ado (w.s.heap.push W.emptyDict) (o:=W.instObj Ca w.s.heap.objs.size) rfl
  rwa [show(w.s.heap.push W.emptyDict).objs.size=w.s.heap.objs.size+1 by simp[Heap.push]]at this
 have n0:=aW w.s.heap
 have n1:w.s.heap.get? (w.s.heap.objs.size+1)=none:=by
  cases q:w.s.heap.get? (w.s.heap.objs.size+1)with
  |none=>rfl
  |some o=>exact absurd (adE q) (aie (afA _))
 have y:Nw X w w1 (h++ [.obj C []]):=Nw.mk (s':=s1) I.toHR n1 (fun _ _ e=>ada _ (ada _ e)) ⟨(I.free n1).2.1,Ca,_,_,[],t,e1,if_pos rfl,g0,⟨#[],0,rfl,by intro e he;simp at he,by simp[UniqKeys],fun n=>by simp[nsFind,findBy]⟩,by simp,.nil⟩ (fun d b e=>by
   by_cases z:d=w.s.heap.objs.size
   .rw[z,(I.free n0).2.2]at e;cases e
   .exact(if_neg z).trans e) fun d b e=>by
   by_cases z:d=w.s.heap.objs.size
   .exact .inr ⟨z▸n0,fun z'=>aek (ad6 _) (z.symm.trans z'),_,z▸g0⟩
   .exact .inl ((if_neg z).symm.trans e)
 have I1:=I.on y;have r0:aQ X.toSC w1.F w1.m (.ref h.length) (.ref (w.s.heap.objs.size+1)):=.ref (by rw[I.len];simp[w1]);have r1:ay X.toSC w1.F w1.m (.ref h.length::qs) (.ref (w.s.heap.objs.size+1)::us):=.cons r0 (y.1.reps r);refine agd (W.make_core (W.makes_of I.U_ M.makes) (W.looks_findIn I.U_ M.init) (fun self=>W.bind_fn I.U_ self (beq_iff_eq.mp M.fn)) (.inl rfl) (afZ (F.run (w:=w1) (Q:=fun v s=>v=.none/\Q (.ref (w.s.heap.objs.size+1)) s) (E:=E) rfl (hr.make Ca us []) (fun z=>I.ok.hd (hc z)) (by first|exact I.ok.frames|(simpa[Around.under,Code.envs,Code.isFrame,pushEnvs]using I.ok.frames)) I1.toWd I1.ok r1 (by simpa using hb s1 _ I1.U_ (by rw[adD,<- r1.length];exact F.len _ _ hl)) ?_) ?_))
 .unfold mkO at p
  split at p
  .rename_i e;rw[e];exact fun w' x y' rx=>by obtain rfl:=rx.vn;exact⟨rfl,p.2 _ _ (y.trans y') (y'.1.rep r0)⟩
  .exact p.elim
 .intro r s hq
  cases r with
  |error e=>exact hq
  |ok fl=>
   cases fl with
   |ret u=>exact hq
   |_=>exact False.elim hq
def Lh(c:ZK X C x fn)(hg:Gl X x)(ha:RA X (e::es) fs)(Ug:(x==("__debug__":Str))=false)(he:starEach (e::es) X.env=(false,eval e X.env)::starEach es X.env)(WY:(backTo pos (starEach es X.env)).any (·.1)=false):RE X (.Call (.Name x p0) (e::es) [] pos) (xD C fn fs):=⟨fun I p=>by obtain⟨Ca,cc,k,f,fd,ps,t,M,F,hr,hc,hm,hb⟩:=c.ex;exact adV (I.glb hg hm (af0 (h₀:=X.base) I.ok.V8 M.kp (ha.r pos I (p.bind fun _ _ _ _ y r p=>⟨(I.on y).U_,make t M F hr hc hb (I.on y) r p⟩)) he WY) Ug)⟩
def HJ(c:ZK X C x fn)(hg:Gl X x)(Ug:(x==("__debug__":Str))=false):RE X (.Call (.Name x p0) [] [] pos) (xD C fn ah):=⟨fun I p=>by obtain⟨Ca,cc,k,f,fd,ps,t,M,F,hr,hc,hm,hb⟩:=c.ex;exact adV (I.glb hg hm (ahQ I.U_ M.kp (make t M F hr hc hb I .nil p)) Ug)⟩
end
section
variable{w:Wo}{o e:Expr}{fs:Ax}{m:Str}
def rY(hg:Gl X x)(hm:X.mg x=some u)(r:∀F m,(∀b o,X.base.get? b=some o->F b=some o)->aQ X.toSC F m p u)(hd:nD0 x\2):RE X (.Name x pos) (cK p):=⟨fun{w ρ h Q E} I q=>I.glb hg hm (q.here I.toHR (r w.F w.m I.bs)) hd⟩
def KW{n:String}(hg:Gl X x)(hm:X.mg x=none)(hv:bootBuiltins x=some (.type n))(hn:x≠"__name__")(hd:(x==("__debug__":Str))=false):RE X (.Name x pos) (cK (.ty n)):=⟨fun I p=>I.blt hg hm hv (p.here I.toHR (.ty n)) hn hd⟩
end
section
open PySem.W PySem.Builtin PySem.Builtin.ObjectAttr PySem.Builtin.Getset_descriptor
structure Ph(K:Frag)(C:Addr):Prop where
 ga:findIn K (.ref C) "__getattribute__"=some (some (.builtin "BaseException.__getattribute__"))
 gt:findIn K (.ref C) "__getattr__"=some none
 mb:mroIn K C (.type "BaseException")=some true
noncomputable def zU:Z3->Bool
 |.ref _::r=>zU r
 |l=>l==[.type "ValueError",.type "Exception",.type "BaseException",.type "object"]||l==[.type "Exception",.type "BaseException",.type "object"]
def kr:∀{l:Z3},zU l=true->(l= [.type "ValueError",.type "Exception",.type "BaseException",.type "object"]\/l= [.type "Exception",.type "BaseException",.type "object"])\/∃c r,l=.ref c::r/\zU r=true:=by
 intro l e;unfold zU at e
 split at e
 .exact .inr ⟨_,_,rfl,e⟩
 .rw[ad8]at e;exact .inl (e.imp beq_iff_eq.mp beq_iff_eq.mp)
theorem xR(self:Value):∀(l:Z3),zU l=true->refuseLoop self "__setattr__" l=pure ():=by
 intro l
 induction l with
 |nil=>intro e;rcases kr e with(z|z)|⟨_,_,z,_⟩<;>cases z
 |cons x r ih=>
  intro e;rcases kr e with(z|z)|⟨c,r',z,e'⟩
  .rw[z];exact PySem.F.store_ValueError.passes self
  .rw[z];exact PySem.F.store_Exception.passes self
  .cases z;rw[refuseLoop_ref];exact ih e'
theorem xS:∀(l:Z3),zU l=true->l.contains (.type "object")=true:=by
 intro l
 induction l with
 |nil=>intro e;rcases kr e with(z|z)|⟨_,_,z,_⟩<;>cases z
 |cons x r ih=>
  intro e;rcases kr e with(z|z)|⟨c,r',z,e'⟩
  .rw[z];decide+kernel
  .rw[z];decide+kernel
  .cases z;rw[agG,ih e',ah8]
def Kx(K:Frag)(C:Addr):Bool:=(clsIn K C).any fun cd=>cd.hasDict&&zU cd.mro
section
variable{α:Type}{us:List α}
def us0(h:us.length=0):us= []:=aeM h
theorem usS{n:Nat}(h:us.length=n+1):∃a r,us=a::r/\r.length=n:=by
 cases us with
 |nil=>cases h
 |cons a r=>exact⟨a,r,rfl,by simpa using h⟩
def us1(h:us.length=1):∃a,us= [a]:=by obtain⟨a,r,rfl,z⟩:=usS h;obtain rfl:=us0 z;exact⟨a,rfl⟩
def us2(h:us.length=2):∃a b,us= [a,b]:=by obtain⟨a,r,rfl,z⟩:=usS h;obtain⟨b,rfl⟩:=us1 z;exact⟨a,b,rfl⟩
def us3(h:us.length=3):∃a b c,us= [a,b,c]:=by obtain⟨a,r,rfl,z⟩:=usS h;obtain⟨b,c,rfl⟩:=us2 z;exact⟨a,b,c,rfl⟩
def us4(h:us.length=4):∃a b c d,us= [a,b,c,d]:=by obtain⟨a,r,rfl,z⟩:=usS h;obtain⟨b,c,d,rfl⟩:=us3 z;exact⟨a,b,c,d,rfl⟩
def us5(h:us.length=5):∃a b c d e,us= [a,b,c,d,e]:=by obtain⟨a,r,rfl,z⟩:=usS h;obtain⟨b,c,d,e,rfl⟩:=us4 z;exact⟨a,b,c,d,e,rfl⟩
def us6(h:us.length=6):∃a b c d e f,us= [a,b,c,d,e,f]:=by obtain⟨a,r,rfl,z⟩:=usS h;obtain⟨b,c,d,e,f,rfl⟩:=us5 z;exact⟨a,b,c,d,e,f,rfl⟩
def us7(h:us.length=7):∃a b c d e f g,us= [a,b,c,d,e,f,g]:=by obtain⟨a,r,rfl,z⟩:=usS h;obtain⟨b,c,d,e,f,g,rfl⟩:=us6 z;exact⟨a,b,c,d,e,f,g,rfl⟩
end
noncomputable def sQv(K8:String):Option Value->Bool
 |some (.builtin n)=>n==K8
 |_=>false
noncomputable def sJv(K:Frag)(C:Addr)(V9:Z3):Z3->Bool
 |.ref C'::bm=>C'==C&&tailIn K V9 bm
 |_=>false
noncomputable def sL(K:Frag)(C:Addr)(V9:Z3)(K8:String):Bool:=match K.lookup C with
 |some ⟨.type "type",_,.cls cd,sl⟩=>sl.toList.length==6&&(sQv K8 (sl.toList.getD 4 none)&&(!cd.hasDel&&sJv K C V9 cd.mro))
 |_=>false
inductive Vj0(h:Heap)(C:Addr)(V9:Z3)(K8:String):Prop where
 |mk (bm:Z3) (N:Addr) (nm q:Str) (bs:Z3) (VP:Bool) (sn:Zl) (sub:Z3) (ab:Bool) (Zm:Option Bool) (dd:Option Addr) (k0 k1 k2 k3 k5:Option Value) (_:h.get? C=some (excClassObj nm q C N bs bm VP sn sub ab Zm dd k0 k1 k2 k3 k5 K8)) (_:OwnTail h V9 bm)
def xO{K:Frag}{h:Heap}{C:Addr}{V9:Z3}{K8:String}(V8:K.In h)(ok:sL K C V9 K8=true):
  Vj0 h C V9 K8:=by
 unfold sL at ok
 split at ok
 case h_2=>exact absurd ok ⋯
 case h_1 dict adJ sls lk=>
   rw[acX,acX,acX]at ok;obtain⟨z0,z1,z2,z3⟩:=ok;rw[afy]at z2;obtain⟨f0,f1,f2,f3,x,f5,es⟩:=us6 (eq_of_beq z0);rw[es]at z1;change sQv K8 x=true at z1;have es':sls= #[f0,f1,f2,f3,x,f5]:=aii.mp es
   obtain⟨c1,c2,c3,c4,c5,c6,c7,c8,c9,YD,YC⟩:=adJ
   change YC=false at z2;change sJv K C V9 c3=true at z3;unfold sQv at z1
   split at z1
   case h_2=>cases z1
   cases beq_iff_eq.mp z1
   unfold sJv at z3
   split at z3
   case h_2=>cases z3
   rename_i tl
   rw[acX]at z3;cases beq_iff_eq.mp z3.1
   subst z2 es';exact⟨tl,c4,c1,c5,c2,c6,c7,c8,c9,YD,dict,f0,f1,f2,f3,f5,V8 _ _ lk,tail_of_in V8 z3.2⟩
section
variable{w:World}{h:Heap}{g:Array GenState}{d:Drawn}{t:Nat}{os:OsState}
variable{nm q:Str}{C N fI:Addr}{bs bm V9 bmN:Z3}{VP:Bool}{sn:Zl}{sub:Z3}{ab:Bool}{Zm:Option Bool}{dd:Option Addr}{k0 k1 k2 k3 k5:Option Value}{B Bn K8 nid VN inN:String}{oI:Obj}
noncomputable def jI(h:Heap)(C:Addr)(us:Z3):Heap:=
 (h.push { cls:=.type "tuple",data:=.seq us.toArray }).push { cls:=.ref C,data:=.fields #[.ref h.objs.size,.none,.none,.none,.bool false,.none] }
def jm{b:Addr}(e:h.get? b=some o):(jI h C us).get? b=some o:=ada _ (ada _ e)
def pR:(jI h C us).get? (h.objs.size+1)=some { cls:=.ref C,data:=.fields #[.ref h.objs.size,.none,.none,.none,.bool false,.none] }:=by unfold jI;heap_get
def Hn{Q:Fin->Shared->Prop}(Fn:ExcBaseFacts Bn K8 inN bmN)(hBn:V9.contains (.type Bn)=true)(FB:ExcBaseFacts B nid VN V9)(T:OwnTail h V9 bm)
  (hc:h.get? C=some (excClassObj nm q C N bs bm VP sn sub ab Zm dd k0 k1 k2 k3 k5 K8)) (li:∀h',(∀b o,h.get? b=some o->h'.get? b=some o)->Looks (model prog w) h' (typeLookup (.ref C) "__init__") (some (.ref fI)))
  (fo:h.get? fI=some oI) (fc:oI.cls=.type "function") (len:us.length<=sizeLine)
  (go:wpAny (model prog w) A (call (.ref fI) (.ref (h.objs.size+1)::us)) (fun r s'=>r=.none/\Q (.done (.ret (.ref (h.objs.size+1)))) s') E ⟨jI h C us,g,d,t,os⟩):
  wpAny (model prog w) A (Builtin.«type.__call__» ⟨.ref C::us,[]⟩) Q E ⟨h,g,d,t,os⟩:=by
 repeat (first|with_reducible refine wpAny_madeBy_exc hc ?_|with_reducible refine afw hc ?_|wp_step)
 refine codeAny_call_builtin_code (agI _ Fn.quiet) (wpAny_check_new_subU Fn hBn T hc (codeAny_exc_new_subU Fn hBn FB T hc ?_ len));change wpAny _ _ _ _ _ _;have abK:(Value.ref C::bm).contains (.ref C)=true:=by rw[agG];simp
 have c1:(jI h C us).get? C=some (excClassObj nm q C N bs bm VP sn sub ab Zm dd k0 k1 k2 k3 k5 K8):=jm hc;have e1:=pR (h:=h) (C:=C) (us:=us);have L:=li (jI h C us) fun b o e=>jm e;have f1:(⟨jI h C us,g,d,t,os⟩:Shared).TypeIs (.ref fI) "function":=⟨_,jm fo,fc⟩
 change wpAny _ _ _ _ _ ⟨jI h C us,g,d,t,os⟩;unfold isInstance
 repeat (first|(with_reducible refine ahE c1 ?_;rw[abK])|with_reducible refine afw e1 ?_|wp_step)
 change wpAny _ _ (typeLookup (.ref C) _) _ _ _;refine L.at ?_;refine aes (ac0 ?_);unfold bindSpecial;refine ac0 (afX f1 ?_);rw[if_pos ⋯];refine adf (ac0 (aea go (fun r s' z=>?_) fun _ _ z=>z));obtain⟨rfl,z⟩:=z
 wp_walk
 exact z
def Kw(Fn:ExcBaseFacts Bn K8 inN bmN)(hBn:V9.contains (.type Bn)=true)(FB:ExcBaseFacts B nid VN V9)(T:OwnTail h V9 bm)
  (hc:h.get? C=some (excClassObj nm q C N bs bm VP sn sub ab Zm dd k0 k1 k2 k3 k5 K8)) (li:∀h',(∀b o,h.get? b=some o->h'.get? b=some o)->Looks (model prog w) h' (typeLookup (.ref C) "__init__") (some (.ref fI)))
  (fo:h.get? fI=some oI) (fc:oI.cls=.type "function") (len:us.length<=sizeLine)
  (go:wpAny (model prog w) (A.under (.builtin "type.__call__" ⟨.ref C::us,[]⟩)) (call (.ref fI) (.ref (h.objs.size+1)::us)) (fun r s'=>r=.none/\Q (.ref (h.objs.size+1)) s') E ⟨jI h C us,g,d,t,os⟩):
  wpAny (model prog w) A (call (.ref C) us) Q E ⟨h,g,d,t,os⟩:=by
 have g1:=tc_lookup;have g2:=tc_bind (.ref C);have ty:(⟨h,g,d,t,os⟩:Shared).TypeIs (.ref C) "type":=⟨_,hc,rfl⟩
 refine agd (codeAny_of_tree ?_);change wpAny _ _ (callAny (.ref C) _) _ _ _
 repeat (any_goals (first|with_reducible refine afw hc ?_|assumption|wp_step))
 refine⟨rfl,codeAny_call_builtin_at (agI _ (by decide+kernel)) entry_typeCall (wpAny_check_type_call_sub hc (Hn Fn hBn FB T hc li fo fc len go))⟩
end
noncomputable def lN(h:Heap)(x:Addr):Heap:=(h.push { cls:=.type "dict",data:=.dict #[] }).update x fun o=> { cls:=o.cls,dict:=some h.objs.size,data:=o.data,slots:=o.slots }
section
variable{w:World}{K:Frag}{x C:Addr}{ox:Obj}{tk:Tok}{s:Shared}
def Ea{h:Heap}(hx:x<h.objs.size):(lN h x).get? h.objs.size=some { cls:=.type "dict",data:=.dict #[] }:=by unfold lN;rw[afI _ _ _ _ (aey hx)];exact Heap.get?_push_at rfl rfl
def Nf(V8:K.In s.heap)(I:W.InstAt s.heap x ox C none)(hdn:ox.dict=none)(vc:Kx K C=true)(ha:findIn K (.ref C) name=some none)
  (go:∀h',h'.Ns1 s.heap.objs.size (fun y=>if y=name then some v else none)->Heap.SameBut s.heap.objs.size (lN s.heap x) h'->R (.ok (.ret .none)) { s with heap:=h',toks:=s.toks+1 }):
  codeAny (model prog w) A (.call (.builtin "object.__setattr__") ⟨[.ref x,.str name tk,v],[]⟩) R s:=by
 obtain⟨cd,hc,hv⟩:=any_some vc;rw[acX]at hv
 have ne:cd.mro.isEmpty=false:=by
  cases z:cd.mro with
  |nil=>rw[z]at hv;exact absurd (xS _ hv.2) ⋯
  |cons _ _=>rfl
 have isO:Looks (model prog w) s.heap (isInstance (.ref x) (.type "object")) true:=I.type.andThen (looks_mroIn V8 (by unfold mroIn;rw[hc,Option.bind_some,if_neg (by rw[ne];decide),xS _ hv.2]));have hm:Looks (model prog w) s.heap (mroOf (.ref C)) cd.mro:=(looks_clsIn V8 hc).andThen .now;refine agm ae4.slot.plain ae4.entry (@check_slot (model prog w) _ _ s "object.__setattr__" "object" "__setattr__" (.ref x) [.str name tk,v] [] _ ae4.kind ae4.split isO (ae4.args (.ref x) (.str name tk) v) ?_);rw[osa_eq,refuse_eq];refine ac0 (ac0 (I.type.here (ac0 (hm.here ?_))));rw[xR _ _ hv.2];refine adf (ac0 (I.type.here (ac0 ((looks_findIn V8 ha).here (ac0 (adf (a:=none) ?_))))));obtain⟨hx,hcl,hn, -⟩:=I;obtain⟨oc,odi,oda,osl⟩:=ox;dsimp only at hcl hdn;subst hcl hdn;refine ac0 (adf (ac0 (ac0 (wpAny_loadPart hx (ac0 ((looks_clsIn V8 hc).here ?_))))));rw[hv.1,if_neg ⋯];dsimp only;rw[if_neg (by simp[typeHasDict])]
 split
 .cases hn
 .have x1:(s.heap.push { cls:=.type "dict",data:=.dict #[] }).get? x=some { cls:=.ref C,data:=oda,slots:=osl }:=ada _ hx;refine ac0 (wpAny_alloc' (ac0 (wpAny_update' x1 (adf ?_))));show wpAny _ _ (storeInDict s.heap.objs.size (.str name tk) name v) _ _ { s with heap:=lN s.heap x };have e0:(lN s.heap x).Ns s.heap.objs.size (fun _=>none):=⟨_, #[],_,Ea (adE hx),rfl,fun e he=>absurd he (by simp),fun _=>rfl⟩
  unfold storeInDict newKeyGuard;refine ac0 (adf (ac0 (wpAny_nsSet1 (s:={ s with heap:=lN s.heap x }) (Heap.Ns1.of_empty e0) fun h' n1 sb=>?_)));obtain⟨oD,esD,epD,hoD,hdD,hcD⟩:=n1.count (ah4 name v PySem.Within.nil);refine ac0 (wpAny_lookBehind hoD (by rw[hdD];exact pastItsLine_dict (adu hcD (by rw[afz,adF];decide))) ?_);exact adf (go h' n1 sb)
end
structure XIn(K:Frag)(C fI:Addr)(f:Str):Prop where
 lies:sL K C [.type "ValueError",.type "Exception",.type "BaseException",.type "object"] "ValueError.__new__"=true\/sL K C [.type "Exception",.type "BaseException",.type "object"] "Exception.__new__"=true
 init:findIn K (.ref C) "__init__"=some (some (.ref fI))
 fn:isFn K (.ref fI)=true
 kp:keepIn K (.ref C)=true
 v:Kx K C=true
 sa:findIn K (.ref C) "__setattr__"=some (some (.builtin "object.__setattr__"))
 no:findIn K (.ref C) f=some none
 hd:hasDictIn K C=true
 x:Ph K C
inductive Xp0(Ee:Yf)(v:Value)(s1:Shared):Prop where
 |mk (e C N t:Addr) (dx:Option Addr) (sl:Array (Option Value)) (nm q:Str) (bs bm:Z3) (VP:Bool) (sn:Zl) (sub:Z3) (ab:Bool) (Zm:Option Bool) (dd:Option Addr) (k0 k1 k2 k3 k5:Option Value) (nid:String) (_:v=.ref e) (_:s1.heap.get? C=some (excClassObj nm q C N bs bm VP sn sub ab Zm dd k0 k1 k2 k3 k5 nid)) (_:bm.contains (.type "BaseException")=true) (_:s1.heap.get? e=some ⟨.ref C,dx,.fields #[.ref t,.none,.none,.none,.bool false,.none],sl⟩) (_:Ee (.ref e) s1)
def Ai{M:Model}{Ee:Yf}{env:Env}{x:Sem Value}{Q:Flow->Shared->Prop}{s:Shared}(hh:A.handled=none)
  (h:wpAny M A x (Xp0 Ee) Ee s):
  wpAny M A (raiseStmt env (some x) none) Q Ee s:=by
 unfold raiseStmt;refine ac0 (aea h (fun v s1 z=>?_) fun _ _ z=>z);obtain⟨e,C,N,t,dx,sl,nm,q,bs,bm,VP,sn,sub,ab,Zm,dd,k0,k1,k2,k3,k5,nid,rfl,hC,hB,he,hE⟩:=z;have both:(Value.ref C::bm).contains (.type "BaseException")=true:=by rw[agG,hB,ah8]
 obtain⟨hp,g,d,tk,os⟩:=s1
 repeat (first|with_reducible refine afw he ?_|with_reducible refine afw hC ?_|(with_reducible refine ahE hC ?_;rw[both])|wp_step)
 exact wpAny_raiseNew_none hh hE
end
noncomputable def pZ(C:Nat):Res Y2->SR
 |.ok [v] h1=>.exc (.Wn C v) h1
 |.exc e h1=>.exc e h1
 |_=>.bad
def dQ(z:Bool)(C:Nat)(as:Ax):Sx:=if z=true then fun ρ h=>pZ C (as ρ h)else fun _ _=>.bad
section
variable{w w3:Wo}
def DM{vs:Array Value}{a0:Value}(ok:X.Ok)(W:Wd X w3 h)(y:Wc X w w3)(tr:X.tr=true)(nw:w.s.heap.get? a=none)(ha:Has w3 a o)(hd:o.data=.fields vs)(h0:vs[0]? =some a0)(h1:vs[1]? =some .none):Fly X w w3 a o.cls o.dict:=by
 have na:a∉X.fs:=fun z=>by obtain⟨o',q,d⟩:=W.fr a z;have q:=q.1;rw[ha.1]at q;cases q;exact d vs hd
 refine⟨⟨a0,PySem.W.hideAll w3.s.heap (a::X.fs),.inr ⟨tr,fun b o q=>PySem.W.of_hideAll _ q,ahz _ (by simp),vA (fun env he=>?_) fun b hb=>let⟨o,q,d⟩:=W.fr b hb;⟨o,q.1,d⟩,o,vs,ha.1,rfl,hd,h0,h1⟩,fun b o' e n=>?_,fun b z=>?_⟩,o,ha.1,rfl⟩
 .obtain⟨k,L,e,_⟩:=ok.sf env he;exact⟨k,L,e,ahz _ (ac1 _ (List.mem_filterMap.mpr ⟨env,he,e⟩))⟩
 .obtain⟨o2,q⟩:=y.dom b o' e;exact⟨o2,ahH _ q (by simp only[ac8,not_or];exact⟨fun z=>(by rw[z,nw]at e;cases e),n⟩)⟩
 .have nb:b∉a::X.fs:=by simp only[ac8,not_or];exact⟨fun q=>z (q▸ha.2),fun q=>let⟨_,r,_⟩:=W.fr b q;z r.2⟩
  have go:(∃o,w3.s.heap.get? b=some o)->∃o',(PySem.W.hideAll w3.s.heap (a::X.fs)).get? b=some o':=(by rintro ⟨o,q⟩;exact ⟨o,ahH _ q nb⟩)
  by_cases z1:b∈w3.m
  .exact go (W.toHR.there z1)
  .cases z2:w3.F b with
   |some o=>exact go ⟨o,W.sub b o z2⟩
   |none=>cases z3:w3.O b with
    |some x=>exact go (W.own b x z3).1
    |none=>exact absurd ⟨z1,z2,z3⟩ z
variable{C:Nat}{np TG:Pos}{e0:Expr}{fs:Ax}
structure FnX(G:SC)(fI:Addr)(fd:FuncData)(ps:Zl)(f:Str):Prop where
 len:ps.length=2
 run:∀{X:Cx}{w:Wo}{h:Y3}{A:Around}{C:Nat}{Ca a:Addr}{o:Obj}{vs:Array Value}{v:PV}{u:Value}{args:Args}{Q:Yf}{E:Yf},X.toSC=G->fC 1 A->A.handled=none->A.frames=some X.stack->Wd X w h->X.Ok->G.T C=some Ca->XIn G.K Ca fI f->Has w a o->o.cls=.ref Ca->o.data=.fields vs->o.dict=none->aQ G w.F w.m v u->BindsTo w.s fd args (ps.zip [.ref a,u])->
  (∀h' t dx od,(∀b o,b≠a->w.s.heap.get? b=some o->h'.get? b=some o)->h'.get? a=some { o with dict:=some dx }->w.s.heap.get? dx=none->h'.get? dx=some od->NsO od [(f,u)]->Q .none { w.s with heap:=h',toks:=t })->codeAny (model G.prog G.w) A (.call (.ref fI) args) (RC Q E) w.s
def HR.freeze(H:HR G w h)(ha:Has w a o):HR G ⟨iD w.F a o,w.O,w.m,w.s⟩ h:=by
 have nb:∀{b},¬ W3 w b->b≠a:=fun n z=>n (z▸ha.2);refine⟨fun b x e=>?_,fun d b e=>let⟨q,z,y⟩:=H.own d b e;⟨q,z,dI (nb fun z=>by rw[z.2.2]at e;cases e) y⟩,H.len,H.nd,fun i po b e1 e2=>(H.obj i po b e1 e2).on (dw ha.2.2.1) (fun _ e=>e) (fun _ _ e=>e) (fun _ _ e _=>e) (dI (nb fun z=>z.1 (adw e2)))⟩
 by_cases z:b=a
 .subst z;cases bv.symm.trans e;exact ha.1
 .exact H.sub b x ((mO z).symm.trans e)
def Gv{N:Zl}{qual f y':Str}{st:Stmt}{fI:Addr}{fd:FuncData}{p3 p4:Pos}(F:Fun G.K name qual st fI fd)(S:mW N ps (aP st))(hl:ps.length=2)(hx:N[0]? =some x)(hy:N[1]? =some y')(hb:iP st= [.Assign [.Attribute (.Name x p1) f p2] (.Name y' p3) p4])
  (hs:(∀env,swapsWith (.Name y' p3) (some (.Attribute (.Name x p1) f p2)) p4.line env=pure false)\3) (hd:nD0 x\2) (Zz:((x==("__classdict__":Str))=false)\2) (hd':((y'==("__debug__":Str))=false)\2) (adq:((y'==("__classdict__":Str))=false)\2):FnX G fI fd ps f where
 len:=hl
 run {X w h A C Ca a o vs v u args Q E} hG hr hn hf I ok t c ha hcl hda hdi r hbd q:=by
  subst hG
  have H':Wd X ⟨iD w.F a o,w.O,w.m,w.s⟩ h:=⟨I.toHR.freeze ha,I.ba,fun b o' e=>dw ha.2.2.1 _ _ (I.bs b o' e),fun b hb=>by obtain⟨o',z,d⟩:=I.fr b hb;exact⟨o',⟨z.1,z.2.1,dI (fun y=>by subst y;have z:=z.1;rw[ha.1]at z;cases z;exact d vs hda) z.2.2.1,z.2.2.2⟩,d⟩⟩
  refine qF (c:=true) (w:=⟨iD w.F a o,w.O,w.m,w.s⟩) (qs:=[.exc C,v]) F S hr (fun _=>hn) hf H' ok hl.symm (.cons (.exc t bv hcl hda) (.cons (r.mono (dw ha.2.2.1) (.inr fun _ _ e=>e)) .nil)) hbd fun cd s1 _ nw y J gr=>?_;obtain⟨h1,t1,rfl,kp,m,ns,lk⟩:=gr;have px:ps[0]? =some x/\ps[1]? =some y':=by rw[<- S.pre,hl];exact⟨by rw[aev ⋯];exact hx,by rw[aev ⋯];exact hy⟩
  rw[hb];refine agc (af7 ((lk 1 _ _ px.2 rfl).nm ns J.ok ((lk 0 _ _ px.1 rfl).nm ns J.ok ?_ hd Zz) hd' adq) (hs _));have ho:h1.get? a=some o:=kp _ _ ha.1;have I0:W.InstAt h1 a o Ca none:=⟨ho,hcl,by unfold W.notCls;rw[hda],by rw[hdi];exact True.intro⟩
  refine W.set_plain J.U_ I0 c.sa (Nf (s:={ w.s with heap:=h1,toks:=t1+1 }) J.U_ I0 hdi c.v c.no fun h' ns' sb=>afL ?_);obtain⟨od,es,ep,e1,e2,e3,e4,e5⟩:=ns';have ne:a≠h1.objs.size:=aek (adE ho)
  have hk:∀b q,b≠a->h1.get? b=some q->h'.get? b=some q:=fun b q hb z=>by rw[sb.2 b (aek (adE z))];unfold lN;rw[afI _ _ _ _ hb];exact ada _ z
  refine q h' _ h1.objs.size od (fun b q hb z=>hk b q hb (kp b q z)) ?_ ?_ e1 ⟨es,ep,e2,e3,e4,fun n=>?_⟩
  .rw[sb.2 a ne];unfold lN;refine aed _ (ada _ ho) ?_;have fr:=(ahX.mp ho).2;obtain⟨oc,od,odt,osl⟩:=o
   cases odt<;>first|rfl|exact fr
  .cases z:w.s.heap.get? h1.objs.size with
   |none=>rfl
   |some o=>have:=kp _ _ z;rw[aW]at this;cases this
  .rw[e5 n]
   by_cases z:n=f
   .simp[z,List.lookup]
   .have:(n==f)=false:=by simpa using z
    simp[z,List.lookup,this]
structure ZI(X:Cx)(C:Nat)(x:Str):Prop where
 ex:∃Ca fI fd ps,X.T C=some Ca/\X.mg x=some (.ref Ca)/\FnX X.toSC fI fd ps (xnm C)/\XIn X.K Ca fI (xnm C)/\ko X.K fd ps []
def Nc{Ca fI:Addr}{fd:FuncData}{v:PV}(t:X.T C=some Ca)(F:FnX X.toSC fI fd ps (xnm C))(c:XIn X.K Ca fI (xnm C))(hb:ko X.K fd ps [])(hr:fC 2 X.A)(hd:X.A.handled=none)(I:Inv X w ρ h)(r:aQ X.toSC w.F w.m v u)
  (q:∀h' tk a dx od tt,Nw X w ⟨iD w.F dx od,w.O,w.m,{ w.s with heap:=h',toks:=tk }⟩ h->w.s.heap.get? a=none->dx≠a->h'.get? a=some ⟨.ref Ca,some dx,.fields #[.ref tt,.none,.none,.none,.bool false,.none], #[]⟩->NsO od [(xnm C,u)]->Q (.ref a) { w.s with heap:=h',toks:=tk }):Wp X (call (.ref Ca) [u]) Q E w.s:=by
 obtain⟨V9,K8,Bn,inN,bmN,B,nid,VN,Fn,hBn,FB,lz⟩:∃V9 K8 Bn inN bmN B nid VN,ExcBaseFacts Bn K8 inN bmN/\V9.contains (.type Bn)=true/\ExcBaseFacts B nid VN V9/\sL X.K Ca V9 K8=true:=by
  rcases c.lies with l|l
  .exact⟨_,_,_,_,_,_,_,_,agE,by decide+kernel,agE,l⟩
  .exact⟨_,_,_,_,_,_,_,_,agL,by decide+kernel,agL,l⟩
 obtain⟨bm,N,nm,q0,bs,VP,sn,sub,ab,Zm,dd,k0,k1,k2,k3,k5,hC,T⟩:=xO I.U_ lz;have L:∀h',(∀b o,w.s.heap.get? b=some o->h'.get? b=some o)->W.Looks (model X.prog X.w) h' (typeLookup (.ref Ca) "__init__") (some (.ref fI)):=fun h' k=>W.looks_findIn (I.U_.keeps k) c.init
 obtain⟨oI,fo,fc⟩:∃oI,w.s.heap.get? fI=some oI/\oI.cls=.type "function":=by obtain⟨oI,h1,h2⟩:=adZ.mp (show(X.K.lookup fI).map (·.cls)=some (.type "function")from beq_iff_eq.mp c.fn);exact⟨oI,I.U_ _ _ h1,h2⟩
 have kp:∀b o,w.s.heap.get? b=some o->(jI w.s.heap Ca [u]).get? b=some o:=fun b o e=>jm e;have n:=Nw.also (X:=X) (s':={ w.s with heap:=jI w.s.heap Ca [u] }) I.toHR kp;have I1:=I.on n
 have na:w.s.heap.get? (w.s.heap.objs.size+1)=none:=by
  cases q:w.s.heap.get? (w.s.heap.objs.size+1)with
  |none=>rfl
  |some o=>exact absurd (adE q) (aie (afA _))
 refine Kw (h:=w.s.heap) (g:=w.s.gens) (d:=w.s.drawn) (t:=w.s.toks) (os:=w.s.os) Fn hBn FB T hC L fo fc (by show 1<=sizeLine;decide) ?_;have bd:=hb { w.s with heap:=jI w.s.heap Ca [u] } [.ref (w.s.heap.objs.size+1),u] I1.U_ (by rw[adD,F.len];rfl);rw[adD]at bd;refine agd (afZ (F.run (w:={ w with s:={ w.s with heap:=jI w.s.heap Ca [u] } }) (args:=⟨[.ref (w.s.heap.objs.size+1),u],[]⟩) (Q:=fun v s=>v=.none/\Q (.ref (w.s.heap.objs.size+1)) s) (E:=fun _ _=>False) rfl (hr.make Ca [u] []) hd (by first|exact I.ok.frames|(simpa[Around.under,Code.envs,Code.isFrame,pushEnvs]using I.ok.frames)) I1.toWd I1.ok t c ⟨pR,I.toHR.free na⟩ rfl rfl rfl r bd fun h' tk dx od k ha nd hdx ns=>⟨rfl,?_⟩) fun r s' hq=>?_)
 .have Z9:w.s.heap.get? dx=none:=by
   cases z:w.s.heap.get? dx with
   |none=>rfl
   |some o=>rw[kp _ _ z]at nd;cases nd
  exact q h' tk _ dx od _ (Nw.lay I.toHR Z9 (fun b o e=>k b o (fun z=>by rw[z,na]at e;cases e) (kp b o e)) hdx) na (fun z=>by rw[z,pR]at nd;cases nd) ha ns
 .cases r with
  |error e=>exact hq.elim
  |ok fl=>
   cases fl with
   |ret u=>exact hq
   |_=>exact False.elim hq
def CY{e:Expr}(c:ZI X C x)(hr:fC k X.A)(hg:Gl X x)(ha:RA X [e] fs)(hc:(X.calm=true)\1)(htr:(X.tr=true)\1)(Ug:nD0 x\2)(he:(starEach [e] X.env= [(false,eval e X.env)])\1)(WY:((backTo TG (starEach [] X.env)).any (·.1)=false)\1):
  RS X (.Raise (some (.Call (.Name x np) [e] [] TG)) none pos) (dQ (Nat.ble 2 k) C fs):=⟨fun{w ρ h Q E} I p=>by
 unfold dQ at p
 split at p
 .rename_i hz;obtain⟨Ca,fI,fd,ps,t,hm,F,c,hb⟩:=c.ex
  obtain⟨V9,K8,hty,lz⟩:∃(V9:Z3)(K8:String),V9.contains (.type "BaseException")=true/\sL X.K Ca V9 K8=true:=by
   rcases c.lies with l|l
   .exact⟨_,_,by decide+kernel,l⟩
   .exact⟨_,_,by decide+kernel,l⟩
  obtain⟨bm,N,nm,q0,bs,VP,sn,sub,ab,Zm,dd,k0,k1,k2,k3,k5,hC,T⟩:=xO I.ok.V8 lz;rw[arm_exec_Raise];refine ac0 (agj (Ai (I.ok.hd hc) (ac0 (aea (Q:=Xp0 E) (adV (I.glb hg hm (af0 (h₀:=X.base) I.ok.V8 c.kp (ha.r TG I ?_) he WY) Ug)) (fun v s1 z=>ac0 (agj (adf z))) fun _ _ z=>z))))
  have p:bp X w Q E (gB (fs ρ h) fun qs h1=>pZ C (.ok qs h1)):=by
   have p:bp X w Q E (pZ C (fs ρ h)):=p
   cases z:fs ρ h<;>rw[z]at p<;>exact p
  refine bp.e p I fun w2 h2 qs us y I2 r p=>⟨I2.U_,?_⟩
  unfold pZ at p
  split at p
  .rename_i z
   cases z
   cases r with
   |cons r t'=>
    cases t'
    refine Nc t F c hb (hr.mono (af9 hz)) (I.ok.hd hc) I2 r fun h' tk a dx od tt n na ne ea ns=>?_;have I3:=I2.on n;have ha:Has ⟨iD w2.F dx od,w2.O,w2.m,{ w2.s with heap:=h',toks:=tk }⟩ a ⟨.ref Ca,some dx,.fields #[.ref tt,.none,.none,.none,.bool false,.none], #[]⟩:=⟨ea,(I2.toHR.free na).1,dI (aem ne) (I2.toHR.free na).2.1,(I2.toHR.free na).2.2⟩
    exact⟨a,Ca,N,tt,_,_,nm,q0,bs,bm,VP,sn,sub,ab,Zm,dd,k0,k1,k2,k3,k5,_,rfl,I3.bk hC,T.hasType hty,ea,p.2 _ _ ρ n.s I3 ⟨a,_,_,rfl,DM I3.ok I3.toWd n.s htr na ha rfl rfl rfl,Ca,dx,od,_,_,t,rfl,rfl,bv,ns,by simp[List.lookup],n.1.rep r⟩⟩
  .rename_i z;cases z
  .exact p.elim
 .exact p.elim⟩
end
noncomputable def OU:PV->Option (Nat×PV)
 |.cls C=>some (C,.exc C)
 |.Wn C v=>some (C,.Wn C v)
 |_=>none
section
variable{w w3:Wo}
abbrev Cx.tried(X:Cx):Cx:={ X with tr:=false,Ep:=fun _=>True }
abbrev Cx.suite(X:Cx)(a:Addr):Cx:={ X with A:=X.A.mark (some (.ref a)),calm:=false,tr:=false,Ep:=fun _=>True }
theorem Inv.tried(I:Inv X w ρ h):Inv X.tried w ρ h:=⟨⟨I.toHR,I.ba,I.bs,I.fr⟩,⟨I.ok.V8,I.ok.gl,I.ok.bl,I.ok.nl,I.ok.kind,I.ok.glob,I.ok.blt,I.ok.inj,I.ok.has,I.ok.hd,I.ok.frames,I.ok.nd,I.ok.sf⟩,I.loc,I.XS,I.ln⟩
theorem Inv.suite(I:Inv X w ρ h):Inv (X.suite a) w ρ h:=⟨⟨I.toHR,I.ba,I.bs,I.fr⟩,⟨I.ok.V8,I.ok.gl,I.ok.bl,I.ok.nl,I.ok.kind,I.ok.glob,I.ok.blt,I.ok.inj,I.ok.has,fun z=>(nomatch z),I.ok.frames,I.ok.nd,I.ok.sf⟩,I.loc,I.XS,I.ln⟩
def Inv.Z1(ok:X.Ok)(I:Inv (X.suite a) w ρ h):Inv X w ρ h:=⟨⟨I.toHR,I.ba,I.bs,I.fr⟩,ok,I.loc,I.XS,I.ln⟩
theorem Nw.freeze(n:Nw X w w1 h)(na:w.s.heap.get? a=none)(ha:Has w1 a o):Nw X w ⟨iD w1.F a o,w1.O,w1.m,w1.s⟩ h:=⟨⟨n.1.os,n.1.ba,fun b o' e=>dw ha.2.2.1 _ _ (n.1.fz b o' e),n.1.ow,n.1.pre,n.1.dom,fun b o' q z=>let⟨sl,q',z⟩:=n.1.keep b o' q z;⟨sl,⟨q'.1,q'.2.1,dI (fun y=>by have q:=q.1;rw[y,na]at q;cases q) q'.2.2.1,q'.2.2.2⟩,z⟩⟩,n.2.freeze ha⟩
end
def IM(h:Y3)(p:PV):Option Nat:=match p with
 |.str l=>if l.length<=sizeLine then some l.length else none
 |p=>match Ye h p with
  |some kvs=>some kvs.length
  |none=>match WQ h p with
   |some xs=>some xs.length
   |none=>none
def bK(ps:Y2)(h:Y3):Res PV:=match ps with
 |[p]=>match IM h p with
  |some n=>.ok (.int n) h
  |none=>.bad
 |_=>.bad
noncomputable def Eg(h:Y3):PV->Option String
 |.non=>some "NoneType"
 |.bl _=>some "bool"
 |.int _=>some "int"
 |.str _=>some "str"
 |.tup _=>some "tuple"
 |p=>match Ye h p with
  |some _=>some "dict"
  |none=>match W9 h p with
   |some _=>some "list"
   |none=>none
noncomputable def El(t c:String):Bool:=(t==c)||(t=="bool"&&c=="int")
noncomputable def BU:List String:=["str","int","bool","list","tuple","dict"]
def gW(ps:Y2)(h:Y3):Res PV:=match ps with
 |[p,.ty c]=>if BU.contains c=true then match Eg h p with
   |some t=>.ok (.bl (El t c)) h
   |none=>.bad
  else .bad
 |_=>.bad
noncomputable def Em(i:Int):Y1:=(Str.ofString (toString i)).cps.toList
def Ao(ps:Y2)(h:Y3):Res PV:=match ps with
 |[.int i]=>if i.natAbs.log2<1920 then .ok (.str (Em i)) h else .bad
 |_=>.bad
noncomputable def uI(ps:Y2)(h:Y3):Res PV:=match ps with
 |[.int i]=>.ok (.int i) h
 |[.bl b]=>.ok (.int (if b then 1 else 0)) h
 |_=>.bad
def dJ(ps:Y2)(h:Y3):Res PV:=match ps with
 |[p]=>match WQ h p with
  |some xs=>.ok (.tup xs) h
  |none=>.bad
 |_=>.bad
noncomputable def jv:Y2->Option (List Bool)
 |[]=>some []
 |.bl b::r=>(jv r).map (b:: ·)
 |_::_=>none
def Dr(ps:Y2)(h:Y3):Res PV:=match ps with
 |[p]=>match W9 h p with
  |some xs=>match jv xs with
   |some bs=>.ok (.bl (bs.all id)) h
   |none=>.bad
  |none=>.bad
 |_=>.bad
section
variable{w:Wo}
def ay.one{F:Fz}(r:ay G F m [p] us):∃u,us= [u]/\aQ G F m p u:=by cases r with|cons r t=>cases t;exact⟨_,rfl,r⟩
def ay.two{F:Fz}{q:PV}(r:ay G F m [p,q] us):∃u v,us= [u,v]/\aQ G F m p u/\aQ G F m q v:=by cases r with|cons r t=>obtain⟨v,rfl,r'⟩:=t.one;exact⟨_,v,rfl,r,r'⟩
def Wd.U_(I:Wd X w h)(ok:X.Ok):X.K.In w.s.heap:=ok.V8.keeps fun _ _ e=>I.bk e
def NR:Xl X (.builtin "len") bK:=fun ok {w h p u Q E} I rs k=>by
 have l:sizeLine=16777216:=afz;unfold bK at k
 split at k
 .obtain⟨u,rfl,r1⟩:=rs.one;show Wp X (call (.builtin "len") [u]) Q E w.s
  split at k
  .rename_i e;unfold IM at e
   split at e
   .split at e<;>cases e
    obtain⟨_,rfl⟩:=r1.vs;exact len_str (by rw[db];lia) (by rw[db];exact k.now I.toHR (.int _ _))
   .split at e
    .cases e
     obtain⟨a,kvs,rfl,y,d,r⟩:=I.dc r1 ‹_›;exact call_len_dict y d (by have:=r.1;lia) (by rw[r.len];exact k.now I.toHR (.int _ _))
    .split at e<;>cases e
     obtain⟨t,e,ht⟩:=zZ ‹_›;obtain⟨a,its,rfl,y,z,r⟩:=I.sq r1 e;rcases ht with rfl|rfl
     .exact len_tuple y.tup ⋯ (k.now I.toHR (by rw[r.len];exact .int _ _))
     .exact Calls.call_len_list y.pl.isList ⋯ (k.now I.toHR (by rw[r.len];exact .int _ _))
  .exact k.elim
 .exact k.elim
def DE(K:W.Frag){c:String}(ht:t∈ ["NoneType","bool","int","str","tuple","dict","list"])(hc:BU.contains c=true):W.kitOne K (.type t) (.type c)=some (El t c):=by
 have hc':c∈BU:=by simpa using hc
 simp only[BU,ac8,adH,or_false]at hc' ht;rcases ht with rfl|rfl|rfl|rfl|rfl|rfl|rfl<;>rcases hc' with rfl|rfl|rfl|rfl|rfl|rfl<;>rfl
def Fw:Xl X (.builtin "isinstance") gW:=fun ok {w h p u Q E} I rs k=>by
 unfold gW at k
 split at k
 .obtain⟨u,v,rfl,r,r2⟩:=rs.two;obtain rfl:=r2.vt;show Wp X (call (.builtin "isinstance") [u,_]) Q E w.s
  split at k
  .rename_i hc
   split at k
   .rename_i t e;have fin:∀tk,Q (.bool (El t _)) { w.s with toks:=tk }:=fun tk=>k.now I.toHR (.bl _);have hh:=fun tt=>DE (t:=tt) X.K (hc:=hc);have KI:=I.U_ ok;unfold Eg at e
    split at e
    .cases e;obtain rfl:=r.vn;exact agC W.kitx_none KI True.intro (hh _ (by simp)) (fun z=>nomatch z) fin
    .cases e;obtain rfl:=r.vb;exact agC W.kitx_bool KI True.intro (hh _ (by simp)) (fun z=>nomatch z) fin
    .cases e;obtain⟨_,rfl⟩:=r.vi;exact agC W.kitx_int KI True.intro (hh _ (by simp)) (fun z=>nomatch z) fin
    .cases e;obtain⟨_,rfl⟩:=r.vs;exact agC W.kitx_str KI True.intro (hh _ (by simp)) (fun z=>nomatch z) fin
    .cases e
     replace r:=I.sq r rfl
     obtain⟨a,its,rfl,⟨n,y⟩,z,r⟩:=r;exact agC W.kitx_tuple KI ⟨_,y,rfl⟩ (hh _ (by simp)) (fun z=>nomatch z) fin
    .split at e
     .cases e
      obtain⟨a,kvs,rfl,_,⟨o,es,ep,h1,h2,_⟩,_⟩:=I.dc r ‹_›;exact agC W.kitx_dict KI ⟨o,h1,h2.1⟩ (hh _ (by simp)) (fun z=>nomatch z) fin
     .split at e<;>cases e
      replace r:=I.sq r (gS ‹_›)
      obtain⟨a,its,rfl,⟨n,y⟩,z,r⟩:=r;exact agC W.kitx_list KI ⟨_,y,rfl⟩ (hh _ (by simp)) (fun z=>nomatch z) fin
   .exact k.elim
  .exact k.elim
 .exact k.elim
def JQ:Xl X (.type "str") Ao:=fun ok {w h p u Q E} I rs k=>by
 unfold Ao at k
 split at k
 .obtain⟨u,rfl,r⟩:=rs.one;obtain⟨_,rfl⟩:=r.vi
  split at k
  .exact PySem.P.str_of_int ‹_› (k.now I.toHR (by have:= @aQ.str X.toSC w.F w.m (Em ‹_›) w.s.toks;rw[Em,MS]at this;exact this))
  .exact k.elim
 .exact k.elim
def NT:Xl X (.type "int") uI:=fun ok {w h p u Q E} I rs k=>by
 unfold uI at k
 split at k
 .obtain⟨u,rfl,r⟩:=rs.one;obtain⟨_,rfl⟩:=r.vi;exact call_int_int (k.here I.toHR (.int _ _))
 .obtain⟨u,rfl,r⟩:=rs.one;obtain rfl:=r.vb;exact call_int_bool (k.now I.toHR (.int _ _))
 .exact k.elim
end
def oF:plainId "dict.update.loop"=true:=by decide+kernel
def xT:entryFor table "dict.update.loop"=some Builtin.«dict.update.loop» :=entryFor_of_tree (by kernel_rfl)
section
variable{w:World}{κ:Type} [DecidableEq κ] {knd:KeyKind prog w κ}   
inductive Prs(knd:KeyKind prog w κ)(h:Heap):Z3->List (κ×Value)->Prop where
 |nil:Prs knd h [] []
 |cons {a:Addr} {k' v:Value} {k:κ} {us:Z3} {kvs:List (κ×Value)} (t:IsTup h a #[k',v]) (kk:knd.is k k'=true) (r:Prs knd h us kvs):Prs knd h (.ref a::us) ((k,v)::kvs)
def CJ{s:Shared}{x:Value}{Q:Z3->Shared->Prop}(t:IsTup s.heap a #[x,y])(q:Q [x,y] s):wpAny (model prog w) A (Builtin.Dict.pairItems (.ref a)) Q E s:=by
 obtain⟨o,ho,hc,n,hd⟩:=t;have ty:s.TypeIs (.ref a) "tuple":=⟨o,ho,hc⟩
 unfold Builtin.Dict.pairItems;refine ac0 (afX ty ?_)
 wp_walk
 rw[hd];exact adf (adf q)
theorem An{h0:Heap}{D I:Addr}(hh:A.handled=none)(hD:h0.objs.size<=D)(hI:h0.objs.size<=I)(ne:D≠I)(hl:h0.IsList l us.toArray):
  ∀(rest:Z3)(kvs:List (κ×Value))(i:Nat)(s:Shared)(cur:List (κ×Value)),us.drop i=rest->Prs knd h0 rest kvs->(∀b o,h0.get? b=some o->s.heap.get? b=some o)->s.heap.IsListIter I l i->s.heap.DictOf knd D cur->cur.length+rest.length<=sizeLine->
   (∀h' tk,(∀b o,h0.get? b=some o->h'.get? b=some o)->h'.DictOf knd D (merged cur kvs)->R (.ok (.ret .none)) { s with heap:=h',toks:=tk })->
   codeAny (model prog w) A (.builtin "dict.update.loop" ⟨[.ref D,.ref I,rawInt i,.none],[]⟩) R s:=by
 have nI:∀b o,h0.get? b=some o->b≠I:=fun b o q z=>adR _ (aeI (adE q) (z▸hI));have nD:∀b o,h0.get? b=some o->b≠D:=fun b o q z=>adR _ (aeI (adE q) (z▸hD));intro rest
 induction rest with
 |nil=>
  intro kvs i s cur e p kp it d z hR
  cases p
  refine ae2 xT ?_;rw[aeN oF _];unfold Builtin.«dict.update.loop»;dsimp only;refine ac0 (wpAny_pyNext_list_end hh it (hl.at fun o q=>kp _ o q) ?_ fun h' x=>?_)
  .rw[ahv];have:=congrArg List.length e;rw[adS]at this;exact aft (by simp at this;lia)
  .have kd:∀b o,h0.get? b=some o->h'.get? b=some o:=fun b o q=>x b o (nI b o q) (kp b o q);exact ac0 (adf (adf (hR h' s.toks kd (d.extBut x ne))))
 |cons u rest ih=>
  intro kvs i s cur e p kp it d z hR
  cases p with
  |@cons a k' v k _ kvs t kk r=>
   refine ae2 xT ?_;rw[aeN oF _];unfold Builtin.«dict.update.loop»;dsimp only;refine ac0 (wpAny_pyNext_list_item it (hl.at fun o q=>kp _ o q) (x:=.ref a) ?_ fun h' it' sb=>?_)
   .rw[ahv,<- afp,e];rfl
   .have k1:∀b o,h0.get? b=some o->h'.get? b=some o:=fun b o q=>(sb.2 b (nI b o q)).trans (kp b o q);refine ac0 (aes (ac0 (wpAny_tryCatch (CJ (t.keeps k1) ?_))));rw[ac6]at z;refine aes (wpAny_dictSet_pairs (hsz:=by lia) kk (d.sameBut sb ne) fun h2 d2 s2=>?_);have k2:∀b o,h0.get? b=some o->h2.get? b=some o:=fun b o q=>(s2.2 b (nD b o q)).trans (k1 b o q);refine adf ⟨agk oF _,?_⟩
    have ln:(stored cur k v).length<=cur.length+1:=by have:=merged_length_le cur [(k,v)];exact this
    have e':us.drop (i+1)=rest:=by rw[<- aeX,e];rfl
    exact ih kvs (i+1) _ (stored cur k v) e' r k2 (it'.at fun o q=>(s2.2 I ne.symm).trans q) d2 ⋯ fun h3 tk k3 d3=>hR h3 tk k3 d3
def AD:typeLookup (.type "list") "keys"=pure none:=by rw[ahh,af8];kernel_rfl
def Dw{s:Shared}{c:Nat}{sl:Array (Option Value)}{u:Tok}(hh:A.handled=none)(hl:s.heap.get? l=some { cls:=.type "list",dict:=none,data:=.seq xs c,slots:=sl })
  (h:∀h' tk e,Heap.NewAttrErr s.heap h' e (.ref l) "keys"->R (.error (.ref e)) { s with heap:=h',toks:=tk }):codeAny (model prog w) A (.call (.builtin "list.__getattribute__") ⟨[.ref l,.str "keys" u],[]⟩) R s:=
 agm aeH.plain am_entry_list_getattribute (aeH.check _ _ _ _ _ _ _ _ ⟨_,hl,rfl⟩ (PySem.F.args_list_getattribute_2 _ _) (meets_getattribute_miss_list l xs c sl "keys" u AD (by decide+kernel) (by size_fits) prog w A R s ⟨hl,hh,h⟩))
def Iu{s:Shared}{c:Nat}{Q:Option Value->Shared->Prop}(hh:A.handled=none)(hl:s.heap.get? l=some o)(hc:o.cls=.type "list")(hd:o.data=.seq xs c)(hn:o.dict=none)
  (hQ:∀h' tk,(∀b o,s.heap.get? b=some o->h'.get? b=some o)->Q none { s with heap:=h',toks:=tk }):wpAny (model prog w) A (getAttr? (.ref l) "keys") Q E s:=by
 obtain⟨c0,dct,dat,sl⟩:=o;simp only at hc hd hn;subst hc hd hn;obtain⟨hp,g,d,tk,os⟩:=s;have ty:∀tk',(⟨hp,g,d,tk',os⟩:Shared).TypeIs (.ref l) "list":=fun _=>⟨_,hl,rfl⟩
 have t1:=ty (tk+1);have f1:=sub_AttributeError;have f3:=aeH.lookup;have f4:=aeH.bind (.ref l);have f5:=am_list_getattr_none;unfold getAttr? getAttrBy? getAttrBy getAttrByItsOwn
 wp_walk
 refine Dw hh hl fun h2 t2 e x=>?_;obtain⟨t3,u3,he⟩:=x.there;dsimp only;unfold getattributeRaised
 wp_walk
 exact hQ h2 t2 x.keeps
def AQ{s:Shared}{c:Nat}{kvs:List (κ×Value)}(hh:A.handled=none)(hl:s.heap.get? l=some o)(hc:o.cls=.type "list")(hd:o.data=.seq us.toArray c)(hn:o.dict=none)(p:Prs knd s.heap us kvs)(hz:us.length<=sizeLine)
  (hQ:∀h' tk,(∀b o,s.heap.get? b=some o->h'.get? b=some o)->h'.DictOf knd s.heap.objs.size (merged [] kvs)->Q (.ref s.heap.objs.size) { s with heap:=h',toks:=tk }):
  wpAny (model prog w) A (call (.type "dict") [.ref l]) Q E s:=by
 refine callType_codes (Q₁:=fun v t=>v=.ref s.heap.objs.size/\t= { s with heap:=s.heap.push { cls:=.type "dict",data:=.dict #[] } }) PySem.F.kt_called_dict (PySem.F.kt_typeCall_dict_1 _) PySem.F.entry_dict_init (kt_code_dict_new _ ⟨rfl,rfl⟩) ?_
 rintro v t ⟨rfl,rfl⟩
 have new:(s.heap.push { cls:=.type "dict",data:=.dict #[] }).DictOf knd s.heap.objs.size []:=ait s.heap;refine⟨new.typeIs,PySem.F.args_dict_init_2 _ _,?_⟩;have kp:∀b q,s.heap.get? b=some q->(s.heap.push { cls:=.type "dict",data:=.dict #[] }).get? b=some q:=fun b q e=>ada _ e;have ty:({ s with heap:=s.heap.push { cls:=.type "dict",data:=.dict #[] } }:Shared).TypeIs (.ref l) "list":=⟨o,kp _ _ hl,hc⟩
 unfold Builtin.«dict.__init__» Builtin.Dict.selfAndRest;refine ac0 (ac0 (wpAny_notOrdered_dict new.typeIs ?_));dsimp only;refine ac0 (adf (adf ?_));unfold Builtin.Dict.updateCommon Builtin.Dict.updateFrom;dsimp only;refine ac0 (afX ty ?_);refine ahy ⋯ (ac0 (Iu (A:=A.in1.in1) hh (kp _ _ hl) hc hd hn fun h1 t1 k1=>?_));refine ahy rfl (ac0 (ag8 ?_));have k2:∀b q,s.heap.get? b=some q->h1.get? b=some q:=fun b q e=>k1 b q (kp b q e);have l1:h1.IsList l us.toArray:=⟨o,k2 _ _ hl,hc,c,hd⟩
 have abG:h1.DictOf knd s.heap.objs.size []:=by obtain⟨q,es,ep,hq,rest⟩:=new;exact⟨q,es,ep,k1 _ _ hq,rest⟩
 have lt:s.heap.objs.size<h1.objs.size:=by obtain⟨q,es,ep,hq,rest⟩:=abG;exact adE hq
 refine ac0 (afv (s:={ s with heap:=h1,toks:=t1 }) l1 ?_);refine adf ⟨agk oF _,?_⟩;refine An (A:=A.in1) (h0:=s.heap) (I:=h1.objs.size) hh (acY _) (agA lt) (aek lt) ⟨o,hl,hc,c,hd⟩ us kvs 0 _ [] rfl p (fun b q e=>ada _ (k2 b q e)) ⟨_,ado _ rfl,rfl,rfl⟩ (abG.push _) (by simpa using hz) fun h3 t3 k3 d3=>?_;exact⟨rfl,hQ h3 t3 k3 d3⟩
end
noncomputable def rI(kvs:List (PK×PV))(k:PK)(v:PV):List (PK×PV):=
 if(kvs.any fun kv=>decide (kv.1=k))=true then kvs.map (fun kv=>if kv.1=k then(kv.1,v)else kv)else kvs++ [(k,v)]
def mkD(ps:List (PK×PV)):List (PK×PV):=ps.foldl (fun acc kv=>rI acc kv.1 kv.2) []
def uq:List (Ex×Ex)->Ev->Y3->Res (List (PK×PV))
 |[],_,h=>.ok [] h
 |(a,b)::r,ρ,h=>(a ρ h).bind fun x h1=>(b ρ h1).bind fun y h2=>match pf x with
  |some k=>(uq r ρ h2).bind fun ps h3=>.ok ((k,y)::ps) h3
  |none=>.bad
def nv(fs:List (Ex×Ex)):Ex:=fun ρ h=>(uq fs ρ h).bind fun ps h1=>.ok (.dct (mkD ps)) h1
def wV(ps:Y2)(h:Y3):Res PV:=match ps with
 |[p]=>match Ye h p with
  |some J0=>.ok (.ref h.length) (h++ [.dct J0])
  |none=>.bad
 |_=>.bad
def nj:Y2->Option (List (PK×PV))
 |[]=>some []
 |.tup [k,v]::r=>match pf k,nj r with
  |some kk,some l=>some ((kk,v)::l)
  |_,_=>none
 |_=>none
def mc(ps:Y2)(h:Y3):Res PV:=match ps with
 |[p]=>match W9 h p with
  |some xs=>match nj xs with
   |some l=>.ok (.ref h.length) (h++ [.dct (mkD l)])
   |none=>.bad
  |none=>.bad
 |_=>.bad
section
variable{F:Fz}
def RK(G:SC)(F:Fz)(m:Zs)(J0:List (PK×PV))(kvs:List (PK×Value)):Prop:=kvs.map (·.1)=J0.map (·.1)/\ay G F m (J0.map (·.2)) (kvs.map (·.2))
theorem RK.length(r:RK G F m J0 kvs):kvs.length=J0.length:=by have:=congrArg List.length r.1;simpa using this
theorem RK.mono{F':Fz}{m':Zs}(r:RK G F m J0 kvs)(hF:∀a o,F a=some o->F' a=some o)(hm:Sub m m'):RK G F' m' J0 kvs:=⟨r.1,r.2.mono hF (.inr hm)⟩
theorem RK.any(k:PK):∀{J0:List (PK×PV)}{kvs:List (PK×Value)},kvs.map (·.1)=J0.map (·.1)->(kvs.any fun kv=>decide (kv.1=k))=J0.any fun kv=>decide (kv.1=k)
 |[],[],_=>rfl
 |[],_::_,h=>by simp at h
 |_::_,[],h=>by simp at h
 |a::r,b::t,h=>by simp only[ac5,afN]at h;simp only[afK,h.1,RK.any k h.2]
theorem RK.repl{k:PK}{p:PV}{v:Value}(r:aQ G F m p v):∀{J0:List (PK×PV)}{kvs:List (PK×Value)},RK G F m J0 kvs->RK G F m (J0.map fun kv=>if kv.1=k then(kv.1,p)else kv) (kvs.map fun kv=>if kv.1=k then(kv.1,v)else kv)
 |[],[],h=>h
 |[],_::_,h=>by have:=h.1;simp at this
 |_::_,[],h=>by have:=h.1;simp at this
 |(k1,a)::t,(k2,b)::t',⟨h1,h2⟩=>by
  simp only[ac5,afN]at h1;obtain⟨rfl,h1⟩:=h1
  cases h2 with
  |cons x y=>
   obtain⟨i1,i2⟩:=RK.repl r ⟨h1,y⟩;simp only[ac5]
   by_cases z:k2=k
   .simp only[z,if_true];exact⟨by simp[i1],.cons r i2⟩
   .simp only[z,if_false];exact⟨by simp[i1],.cons x i2⟩
def RK.put{k:PK}(h:RK G F m J0 kvs)(r:aQ G F m p v):RK G F m (rI J0 k p) (stored kvs k v):=by
 unfold rI stored;rw[RK.any k h.1]
 split
 .exact h.repl r
 .exact⟨by rw[adi,adi,h.1];rfl,by rw[adi,adi];exact h.2.app (.cons r .nil)⟩
theorem RK.merge:∀{more:List (PK×PV)}{mv:List (PK×Value)}{J0:List (PK×PV)}{kvs:List (PK×Value)},RK G F m more mv->RK G F m J0 kvs->RK G F m (more.foldl (fun acc kv=>rI acc kv.1 kv.2) J0) (merged kvs mv)
 |[],[],_,_,_,h=>h
 |[],_::_,_,_,h,_=>by have:=h.1;simp at this
 |_::_,[],_,_,h,_=>by have:=h.1;simp at this
 |(k1,p1)::more,(k2,v2)::mv,J0,kvs,⟨h1,h2⟩,h=>by
  simp only[ac5,afN]at h1 h2;obtain⟨rfl,h1⟩:=h1
  cases h2 with
  |cons a b=>show RK G F m (more.foldl _ (rI J0 k2 p1)) (merged (stored kvs k2 v2) mv);exact RK.merge ⟨h1,b⟩ (h.put a)
def sO(k:PK)(v:Value):(stored kvs k v).length<=kvs.length+1:=by unfold stored;split<;>simp
theorem nU:∀(mv:List (PK×Value))(kvs:List (PK×Value)),(merged kvs mv).length<=kvs.length+mv.length
 |[],_=>adK _
 |(k,v)::mv,kvs=>by have:=nU mv (stored kvs k v);have:=sO (kvs:=kvs) k v;show(merged (stored kvs k v) mv).length<=_;simp;lia
end
section
variable{w:Wo}
def Wd.big(I:Wd X w h)(ok:X.Ok):(w.s.heap.objs.size==sysModules)=false:=by obtain⟨o,es,ep,e,_⟩:=ok.gl;have:=adE (I.bk e);exact beq_eq_false_iff_ne.mpr fun z=>absurd (z▸this) ⋯
def bG.dm(p:bG X (RV X.toSC) w Q E (.ok (.ref h.length) (h++ [.dct J0])))(I:Wd X w h)(ok:X.Ok)(k:∀b o,w.s.heap.get? b=some o->s'.heap.get? b=some o)(d:s'.heap.DictOf (pk X.prog X.w) w.s.heap.objs.size kvs)(z:kvs.length<=sizeLine)(r:RK X.toSC w.F w.m J0 kvs)(ho:(s'.os=w.s.os)\1)(hg:(s'.gens=w.s.gens)\1):Q (.ref w.s.heap.objs.size) s':=by
 obtain⟨o,es,ep,e1,e2,e3⟩:=d;have sb:Sub w.m (w.m++ [w.s.heap.objs.size]):=fun i b e=>by rw[ady (ac9.mp e).1];exact e
 exact p.2 _ _ (Nw.mk I.toHR (aW _) k ⟨(I.toHR.free (aW _)).2.1,o,kvs,e1,⟨e2,es,ep,e3⟩,I.big ok,z,r.1,(r.mono (fun _ _ e=>e) sb).2⟩ (fun _ _ e=>e) (fun _ _ e=>.inl e) ho hg) (.ref (by rw[I.len];simp))
def Nw.priv{o2:Obj}(n:Nw X w w1 h)(na:w.s.heap.get? a=none)(ha:Has w1 a o2)(sb:Heap.SameBut a w1.s.heap s'.heap)(e:s'.heap.get? a=some o)(ho:(s'.os=w1.s.os)\1)(hg:(s'.gens=w1.s.gens)\1):Nw X w { w1 with s:=s' } h/\Has { w1 with s:=s' } a o:=by
 have on:∀b o,b≠a->w1.s.heap.get? b=some o->s'.heap.get? b=some o:=fun b o z e=>(sb.2 b z).trans e;have ne:∀{b o},w.s.heap.get? b=some o->b≠a:=fun q z=>by rw[z,na]at q;cases q
 refine⟨⟨⟨ho.trans n.1.os,fun q=>hg▸n.1.ba q,n.1.fz,n.1.ow,n.1.pre,fun b o e=>let⟨o',q⟩:=n.1.dom b o e;⟨o',on b o' (ne e) q⟩,fun b o q z=>let⟨sl,q',z⟩:=n.1.keep b o q z;⟨sl,⟨on b _ (ne q.1) q'.1,q'.2⟩,z⟩⟩,n.2.on fun b o e z=>on b o (fun y=>z (y▸ha.2)) e⟩,e,ha.2⟩
def Nw.track{po:PO}(n:Nw X w w1 h)(na:w.s.heap.get? a=none)(ha:Has w1 a o)(q:uE X.toSC w1.F (w1.m++ [a]) w1.O w1.s.heap a po):Nw X w ⟨w1.F,w1.O,w1.m++ [a],w1.s⟩ (h++ [po]):=by
 have H:=n.2;have ne:∀{b o},w.s.heap.get? b=some o->b≠a:=fun q z=>by rw[z,na]at q;cases q
 have sb:Sub w1.m (w1.m++ [a]):=fun i b e=>by rw[ady (ac9.mp e).1];exact e
 refine⟨⟨n.1.os,n.1.ba,n.1.fz,n.1.ow,let⟨t,e⟩:=n.1.pre;⟨t++ [a],by rw[e,ade]⟩,n.1.dom,fun b o q z=>let⟨sl,q',z⟩:=n.1.keep b o q z;⟨sl,⟨q'.1,fun y=>(adv.mp y).elim q'.2.1 fun y=>ne q.1 (by simpa using y),q'.2.2⟩,z⟩⟩,H.sub,fun d b e=>let⟨x,z,y⟩:=H.own d b e;⟨x,fun q'=>(adv.mp q').elim z fun q'=>(by simp at q';rw[q',ha.2.2.2]at e;cases e),y⟩,by simp[H.len],ae6.mpr ⟨H.nd,by simp,fun x hx y hy z=>ha.2.1 (by simp at hy;rw[<- hy,<- z];exact hx)⟩,fun i ob b e1 e2=>?_⟩;rcases aeJ i h.length with l|l
 .rw[ady l]at e1;rw[ady (H.len▸l)]at e2;exact(H.obj i ob b e1 e2).on (fun _ _ e=>e) (fun _ e=>e) sb (fun _ _ e _=>e) id
 .rw[adI l]at e1;rw[adI (H.len▸l),<- H.len]at e2
  cases z:i - h.length with
  |zero=>rw[z]at e1 e2;cases e1;cases e2;exact q
  |succ _=>rw[z]at e1;simp at e1
def Ir:Xl X (.type "dict") wV:=fun ok {w h p u Q E} I rs k=>by
 unfold wV at k
 split at k
 .obtain⟨u,rfl,r⟩:=rs.one
  split at k
  .replace r:=I.dc r ‹_›
   obtain⟨a,kvs,rfl,y,d,r⟩:=r;exact kt_call_dict y d r.1 fun h' dd' hs=>bG.dm k I ok (fun b q hq=>(hs.2 b (aek (adE hq))).trans (ada _ hq)) dd' r.1 r.2
  .exact k.elim
 .exact k.elim
theorem Fl(H:HR X.toSC w h):∀{xs:Y2}{us:Z3}{l:List (PK×PV)},ay X.toSC w.F w.m xs us->nj xs=some l->∃kvs,Prs (pk X.prog X.w) w.s.heap us kvs/\RK X.toSC w.F w.m l kvs:=by
 intro xs
 induction xs with
 |nil=>intro _ _ r e;cases r;cases e;exact⟨[],.nil,rfl,.nil⟩
 |cons x r ih=>
  intro _ l q e
  obtain _|⟨r1,t⟩:=q
  unfold nj at e
  split at e
  .rename_i q;cases q
  .rename_i q
   cases q
   split at e<;>cases e
   obtain⟨kvs,p,rk⟩:=ih t ‹_›;obtain⟨a,its,rfl,y,z,rr⟩:=H.sq r1 rfl;obtain⟨u,v,e,ru,rv⟩:=rr.two;have:its= #[u,v]:=by cases its;cases e;rfl
   subst this;exact⟨_::kvs,.cons y.tup (nV ru ‹_›) p,by simp[rk.1],.cons rv rk.2⟩
  .cases e
theorem Ia(p:Prs (pk X.prog X.w) w.s.heap us kvs):kvs.length=us.length:=by
 induction p with
 |nil=>rfl
 |cons _ _ _ ih=>simp[ih]
def Iq(hc:X.calm=true):Xl X (.type "dict") mc:=fun ok {w h p u Q E} I rs k=>by
 unfold mc at k
 split at k
 .obtain⟨u,rfl,r⟩:=rs.one
  split at k
  .split at k
   .replace r:=I.sq r (gS ‹_›)
    obtain⟨a,its,rfl,⟨n,y⟩,z,r⟩:=r;obtain⟨kvs,pm,rk⟩:=Fl I.toHR r ‹_›;have l2:=Ia pm;refine AQ (us:=its.toList) (ok.hd hc) y rfl rfl rfl pm z fun h' tk kp d=>bG.dm k I ok kp d ?_ (RK.merge rk ⟨rfl,.nil⟩);exact adu (nU _ _) (by simp;rw[l2];exact z)
   .exact k.elim
  .exact k.elim
 .exact k.elim
structure RPs(X:Cx)(pos:Pos)(keys:List (Option Expr))(values:List Expr)(fs:List (Ex×Ex)):Prop where
 r:∀{w:Wo}{ρ:Ev}{h:Y3}{Q:List (Value×Value)->Shared->Prop}{E:Yf},Inv X w ρ h->bG X (fun w ps vs=>∃kvs,Carries (pk X.prog X.w) vs kvs/\RK X.toSC w.F w.m ps kvs/\kvs.length=keys.length) w Q E (uq fs ρ h)->Wp X (evalPairs (pairTrees keys values X.env pos)) Q E w.s
def HG:RPs X pos [] [] []:=⟨fun I p=>pairTrees_nil_walk (p.here I.toHR ⟨[],trivial,⟨rfl,.nil⟩,rfl⟩)⟩
def EN{k v:Expr}{fs:List (Ex×Ex)}(hk:RE X k fa)(hv:RE X v fb)(hr:RPs X pos keys values fs):RPs X pos (some k::keys) (v::values) ((fa,fb)::fs):=⟨fun I p=>pairTrees_cons_walk (hk.r I (p.bind fun _ _ x _ y1 r1 p=>hv.r (I.on y1) (p.bind fun _ _ _ _ y2 r2 p=>by
 split at p
 .refine hr.r ((I.on y1).on y2) (p.bind (by rintro _ _ _ _ y3 ⟨kvs,c,rk,l⟩ p;exact p.here y3.2 ⟨(_,_)::kvs,⟨nV (y2.1.rep r1) ‹_›,rfl,c⟩,⟨by simp[rk.1],.cons (y3.1.rep r2) rk.2⟩,by simp[l]⟩))
 .exact p.elim)))⟩
theorem Ru{fs:List (Ex×Ex)}{k:List (PK×PV)->Y3->Res PV}(hr:RPs X pos keys values fs)(Zh:keys.all (·.isSome)=true)(hl:keys.length=values.length)(h0:keys≠ [])(h15:keys.length<=15)
  (go:∀{w w2:Wo}{h2:Y3}{a:Addr}{ps:List (PK×PV)}{kvs:List (PK×Value)}{o:Obj}{Q:Yf}{E:Yf},Nw X w w2 h2->w.s.heap.get? a=none->(a==sysModules)=false->Has w2 a o->DO X.toSC o kvs->kvs.length<=sizeLine->RK X.toSC w2.F w2.m (mkD ps) kvs->bG X (RV X.toSC) w Q E (k ps h2)->Q (.ref a) w2.s):RE X (.Dict keys values pos) (fun ρ h=>(uq fs ρ h).bind k):=⟨fun{w ρ h Q E} I p=>wpAny_Dict_walk (knd:=pk X.prog X.w) Zh hl h0 h15 (by
 have n1:=Nw.also (X:=X) (s':={ w.s with heap:=w.s.heap.push { cls:=.type "dict",data:=.dict #[] } }) I.toHR fun _ _ e=>ada _ e;refine hr.r (I.on n1) ?_
 cases e:uq fs ρ h with
 |bad=>rw[e]at p;exact p
 |exc _ _=>rw[e]at p;exact⟨p.1,fun w' u y r=>p.2 w' u (n1.trans y) (r.back n1.1)⟩
 |ok ps h2=>
  rw[e]at p;refine⟨p.ep,?_⟩;rintro w2 vs y ⟨kvs,c,rk,l⟩;have na:=aW w.s.heap;have z:w.s.heap.objs.size∉X.fs:=fun z=>by obtain⟨o,q,_⟩:=I.fr _ z;have q:=q.1;rw[na]at q;cases q
  obtain⟨sl,ha,zz⟩:=y.1.keep w.s.heap.objs.size _ ⟨ado _ rfl,I.toHR.free na⟩ fun z=>z
  cases zz.resolve_left z
  obtain⟨o,es,ep,e1,e2⟩:(w.s.heap.push { cls:=.type "dict",data:=.dict #[] }).DictOf (pk X.prog X.w) w.s.heap.objs.size []:=ait _;rw[ado _ rfl]at e1
  cases e1
  refine⟨kvs,c,⟨_,es,ep,ha.1,e2⟩,?_⟩;rintro h' ⟨o',es',ep',g1,g2⟩ sb;obtain⟨n3,ha3⟩:=Nw.priv (s':={ w2.s with heap:=h',toks:=w2.s.toks+vs.length }) (n1.trans y) na ha sb g1;exact go n3 na (I.big I.ok) ha3 ⟨g2.1,es',ep',g2.2⟩ (adu (nU _ _) (by rw[afz];simp;lia)) (RK.merge rk ⟨rfl,.nil⟩) p)⟩
def HM{fs:List (Ex×Ex)}(hr:RPs X pos keys values fs)(Zh:(keys.all (·.isSome)=true)\1)(hl:(keys.length=values.length)\1)(h0:keys≠ []:=by intro z;cases z)(h15:(keys.length<=15)\2):RE X (.Dict keys values pos) (nv fs):=Ru hr Zh hl h0 h15 fun{w w2 h2 a ps kvs o Q E} n na sm ha d z r p=>p.2 ⟨iD w2.F a o,w2.O,w2.m,w2.s⟩ _ (n.freeze na ha) (.dct bv d sm z r.1 (r.mono (dw ha.2.2.1) fun _ _ e=>e).2)
end
noncomputable def iZ(h:Y3):PV->Option (Nat×Y2)
 |.ref i=>match h[i]? with
  |some (.lst xs)=>some (i,xs)
  |_=>none
 |_=>none
noncomputable def BN(h:Y3):PV->Option (Nat×List (PK×PV))
 |.ref i=>match h[i]? with
  |some (.dct kvs)=>some (i,kvs)
  |_=>none
 |_=>none
def gA(v o i:PV)(ρ:Ev)(h:Y3):SR:=match iZ h o,i with
 |some (n,xs),.int k=>match WX xs.length k with
  |some j=>.nx ρ (h.set n (.lst (xs.set j v)))
  |none=>.bad
 |_,_=>.bad
def jA(fo fi fv:Ex):Sx:=fun ρ h=>eY (fv ρ h) fun v h1=>eY (fo ρ h1) fun o h2=>eY (fi ρ h2) fun i h3=>gA v o i ρ h3
def Bo(v o i:PV)(ρ:Ev)(h:Y3):SR:=match BN h o,pf i with
 |some (n,J0),some k=>if J0.length<sizeLine then .nx ρ (h.set n (.dct (rI J0 k v)))else .bad
 |_,_=>.bad
def ED(fo fi fv:Ex):Sx:=fun ρ h=>eY (fv ρ h) fun v h1=>eY (fo ρ h1) fun o h2=>eY (fi ρ h2) fun i h3=>Bo v o i ρ h3
def fzP(h:Y3)(p:PV):Option (PV×Y3):=match BN h p with
 |some (i,kvs)=>if gC kvs=true then some (.dct kvs,h.set i (.E_ (.dct kvs)))else none
 |none=>cO h p
def fzR(p:PV)(h:Y3):Res PV:=match fzP h p with
 |some (q,h2)=>.ok q h2
 |none=>.bad
def cFz(f:Ex):Ex:=fun ρ h=>(f ρ h).bind fzR
def cM(recv:Y3->PV->Bool)(g:PV->Y2->Y3->Res PV)(o:Ex)(as:Ax):Ex:=fun ρ h=>(o ρ h).bind fun p h1=>if recv h1 p=true then(as ρ h1).bind fun ps h2=>g p ps h2 else .bad
def bn(p:PV)(ps:Y2)(h:Y3):Res PV:=match ps with
 |[q]=>match iZ h p with
  |some (i,xs)=>if xs.length<sizeLine then .ok .non (h.set i (.lst (xs++ [q])))else .bad
  |none=>.bad
 |_=>.bad
section
variable{w:Wo}{ps:Y2}
inductive Ll0(G:SC)(w:Wo)(i:Nat)(u:Value)(ps:Y2):Prop where
 |mk (a:Addr) (its:Array Value) (n:Nat) (_:u=.ref a) (_:w.m[i]? =some a) (_:w.F a=none) (_:w.s.heap.get? a=some { cls:=.type "list",data:=.seq its n }) (_:its.size<=sizeLine) (_:ay G w.F w.m ps its.toList)
def HR.ll(H:HR G w h)(r:aQ G w.F w.m p u)(k:iZ h p=some (i,ps)):Ll0 G w i u ps:=by
 unfold iZ at k
 split at k
 .split at k<;>cases k
  rename_i q
  cases r with
  |ref e=>obtain⟨f,its,n,g,z,r⟩:=H.obj _ _ _ q e;exact⟨_,its,n,rfl,e,f,g,z,r⟩
 .cases k
inductive Ld0(G:SC)(w:Wo)(i:Nat)(u:Value)(J0:List (PK×PV)):Prop where
 |mk (a:Addr) (o:Obj) (kvs:List (PK×Value)) (_:u=.ref a) (_:w.m[i]? =some a) (_:w.F a=none) (_:(a==sysModules)=false) (_:w.s.heap.get? a=some o) (_:DO G o kvs) (_:kvs.length<=sizeLine) (_:RK G w.F w.m J0 kvs)
def HR.ld(H:HR G w h)(r:aQ G w.F w.m p u)(k:BN h p=some (i,J0)):Ld0 G w i u J0:=by
 unfold BN at k
 split at k
 .split at k<;>cases k
  rename_i q
  cases r with
  |ref e=>obtain⟨f,o,kvs,g,d,y,z,c,r⟩:=H.obj _ _ _ q e;exact⟨_,o,kvs,rfl,e,f,y,g,d,z,c,r⟩
 .cases k
theorem ay.set{F:Fz}{m:Zs}{x:PV}{u:Value}(r:aQ G F m x u):∀{xs:Y2}{us:Z3}(i:Nat),ay G F m xs us->ay G F m (xs.set i x) (us.set i u)
 |_,_,_,.nil=>.nil
 |_,_,0,.cons _ t=>.cons r t
 |_,_,i+1,.cons q t=>.cons q (ay.set r i t)
def Nw.Z_{f:Obj->Obj}{Ti:Array Value}{n' tk:Nat}(H:HR X.toSC w h)(em:w.m[i]? =some a)(hf:w.F a=none)(e:w.s.heap.get? a=some o)(ef:f o= { cls:=.type "list",data:=.seq Ti n' })(z:Ti.size<=sizeLine)(r:ay X.toSC w.F w.m ps Ti.toList):Nw X w { w with s:={ w.s with heap:=w.s.heap.update a f,toks:=tk } } (h.set i (.lst ps)):=by
 have eu:(w.s.heap.update a f).get? a=some { cls:=.type "list",data:=.seq Ti n' }:=ef▸aed _ e (by rw[ef];rfl)
 exact Nw.upd (s':={ w.s with heap:=w.s.heap.update a f,toks:=tk }) H em hf (fun b o' e=>by
  by_cases z:b=a
  .exact .inl z
  .exact .inr (.inr ((afI _ _ _ _ z).trans e))) (fun b o' e=>by
  by_cases z:b=a
  .exact⟨{ cls:=.type "list",data:=.seq Ti n' },by subst z;exact eu⟩
  .exact⟨o',(afI _ _ _ _ z).trans e⟩) ⟨hf,Ti,n',eu,z,r⟩
variable{ie ve:Expr}{fi fv:Ex}{px:Pos}
def EL(ho:RE X oe fo)(hi:RE X ie fi)(hv:RE X ve fv)
  (hs:(swapsWith ve (some (.Subscript oe ie px)) pos.line X.env=pure false)\1):RS X (.Assign [.Subscript oe ie px] ve pos) (jA fo fi fv):=⟨fun{w ρ h Q E} I p=>ag9 (hv.r I (bp.e p I fun w1 h1 pv v y1 I1 rv p=>ho.r I1 (bp.e p I1 fun w2 h2 po u y2 I2 ro p=>hi.r I2 (bp.e p I2 fun w3 h3 pi iv y3 I3 ri p=>by
 unfold gA at p
 split at p
 .rename_i el
  split at p
  .rename_i j hj;obtain⟨a,its,n,rfl,em,hf,e,z,r⟩:=I3.toHR.ll (y3.1.rep ro) el;obtain⟨_,rfl⟩:=ri.vi;obtain⟨h1,h2,h3,h4⟩:=BS hj;have hl:=r.len;have sl:=afz;have hz:∀t,Nw X w3 { w3 with s:={ w3.s with heap:=w3.s.heap.update a (Obj.mapSeq (·.setIfInBounds j v)),toks:=t } } _:=fun t=>Nw.Z_ (Ti:=its.setIfInBounds j v) (n':=n) I3.toHR em hf e (by simp[Obj.mapSeq]) (by simpa using z) (by simpa using r.set (y3.1.rep (y2.1.rep rv)) j);rename_i k _ _
   by_cases h0:0<=k
   .have hk:k.toNat=j:=by rw[aij h0 h4]at h1;exact aex h1
    exact W.ki_setAt e h0 ⋯ (by rw[<- hl];exact h4) (by rw[hk];exact p.2 _ (hz _).s (I3.on (hz _)))
   .have hk:(k+(its.size:Int)).toNat=j:=by rw[ah2 ⋯ h3]at h1;rw[<- hl];exact aex h1
    exact W.ki_setBack e ⋯ (by rw[<- hl];exact h3) ⋯ (by rw[hk];exact p.2 _ (hz _).s (I3.on (hz _)))
  .exact p.elim
 .exact p.elim)))) hs⟩
def HE(ho:RE X oe fo)(hi:RE X ie fi)(hv:RE X ve fv)
  (hs:(swapsWith ve (some (.Subscript oe ie px)) pos.line X.env=pure false)\1):RS X (.Assign [.Subscript oe ie px] ve pos) (ED fo fi fv):=⟨fun{w ρ h Q E} I p=>ag9 (hv.r I (bp.e p I fun w1 h1 pv v y1 I1 rv p=>ho.r I1 (bp.e p I1 fun w2 h2 po u y2 I2 ro p=>hi.r I2 (bp.e p I2 fun w3 h3 pi iv y3 I3 ri p=>by
 unfold Bo at p
 split at p
 .rename_i el ek
  split at p
  .rename_i hz;obtain⟨a,o,kvs,rfl,em,hf,sm,e,d,z,r⟩:=I3.toHR.ld (y3.1.rep ro) el;refine wpAny_setItem_pairs (hsz:=z) (nV ri ek) (d.of e) fun h' dd' sb=>?_;obtain⟨o',es,ep,e1,e2,e3⟩:=dd';have r':=r.put (k:= ‹PK›) (y3.1.rep (y2.1.rep rv))
   have y4:=Nw.upd (X:=X) (s':={ w3.s with heap:=h',toks:=w3.s.toks+1 }) I3.toHR em hf (fun b o e=>by
     by_cases z:b=a
     .exact .inl z
     .exact .inr (.inr ((sb.2 b z).trans e))) (fun b o e=>by
     by_cases z:b=a
     .exact⟨o',by subst z;exact e1⟩
     .exact⟨o,(sb.2 b z).trans e⟩) (po:=.dct _) ⟨hf,o',_,e1,⟨e2,es,ep,e3⟩,sm,adu (sO _ _) (by rw[r.length];exact hz),r'.1,r'.2⟩
   exact p.2 _ y4.s (I3.on y4)
  .exact p.elim
 .exact p.elim)))) hs⟩
def NB{ae:Expr}(ha:RE X ae fa):RE X ae (cFz fa):=⟨fun I p=>ha.r I (p.bind fun w1 h1 q u y r p=>by
 unfold fzR fzP at p
 split at p
 .rename_i e
  split at e
  .split at e<;>cases e
   rename_i hp;obtain⟨a,o,kvs,rfl,em,hf,sm,e,d,z,r'⟩:=y.2.ld r ‹_›;have rr:aQ X.toSC (iD w1.F a o) w1.m (.dct _) (.ref a):=.dct bv d sm z r'.1 (r'.2.mono (dw hf) (.inr fun _ _ e=>e));exact p.2 ⟨iD w1.F a o,w1.O,w1.m,w1.s⟩ _ (y.2.fix em hf e rr (by simpa[PV.pure]using hp)) rr
  .obtain⟨F',n,r',_⟩:=y.2.YB (X:=X) r e;exact p.2 ⟨F',w1.O,w1.m,w1.s⟩ _ n r'
 .exact p.elim)⟩
end
noncomputable def cV(_:Y3)(p:PV):Bool:=match p with
 |.str _=>true
 |_=>false
def cC(h:Y3)(p:PV):Bool:=(W9 h p).isSome
noncomputable def gz:Y2->Option Ya
 |[]=>some []
 |.str l::r=>(gz r).map (l:: ·)
 |_::_=>none
noncomputable def aI(sep:Y1):Ya->Y1
 |[]=>[]
 |[x]=>x
 |x::rest=>x++sep++aI sep rest
def sKq:PV->(Y1->Res PV)->Res PV
 |.str x,f=>f x
 |_,_=>.bad
def oQ1:Y2->(PV->Res PV)->Res PV
 |[p],f=>f p
 |_,_=>.bad
def oQ2:Y2->(PV->PV->Res PV)->Res PV
 |[p,q],f=>f p q
 |_,_=>.bad
section
variable{α:Type}{X:Cx}{R:Wo->PV->α->Prop}{w:Wo}{Q:α->Shared->Prop}{E:Value->Shared->Prop}
def sKq_{p:PV}{f:Y1->Res PV}(k:bG X R w Q E (sKq p f)):∃x,p=.str x/\bG X R w Q E (f x):=by
 unfold sKq at k
 split at k
 .exact⟨_,rfl,k⟩
 .exact k.elim
def oQ1_{p:Y2}{f:PV->Res PV}(k:bG X R w Q E (oQ1 p f)):∃x,p= [x]/\bG X R w Q E (f x):=by
 unfold oQ1 at k
 split at k
 .exact⟨_,rfl,k⟩
 .exact k.elim
def oQ2_{p:Y2}{f:PV->PV->Res PV}(k:bG X R w Q E (oQ2 p f)):∃x y,p= [x,y]/\bG X R w Q E (f x y):=by
 unfold oQ2 at k
 split at k
 .exact⟨_,_,rfl,k⟩
 .exact k.elim
end
def gu(p:PV)(ps:Y2)(h:Y3):Res PV:=sKq p fun sep=>oQ1 ps fun q=>match W9 h q with
  |some xs=>match gz xs with
   |some ls=>if(ls.map (·.length)).sum+ls.length * sep.length<=16777216 then .ok (.str (aI sep ls)) h else .bad
   |none=>.bad
  |none=>.bad
section
variable{w:Wo}{ps:Y2}
def Yt(X:Cx)(id:String)(g:PV->Y2->Y3->Res PV):Prop:=
 ∀{w h p u ps us Q E},Wd X w h->aQ X.toSC w.F w.m p u->ay X.toSC w.F w.m ps us->bG X (RV X.toSC) w Q E (g p ps h)->Wp X (call (.builtin id) (u::us)) Q E w.s
def TyM(X:Cx)(Ty:String)(recv:Y3->PV->Bool):Prop:=∀{w h p u},HR X.toSC w h->aQ X.toSC w.F w.m p u->recv h p=true->w.s.TypeIs u Ty/\∀a,u=.ref a->∃ob,w.s.heap.get? a=some ob/\ob.dict=none
def nh{Ty:String}{id:String}{e:Expr}{fs:Ax}{TG:Pos}(ty:TyM X Ty recv)(pa:PlainAttrs Ty)(slot:Slot Ty name id)(hty:typeOf (.builtin id)=pure (.type "method_descriptor"))(hm:Yt X id g)
  (ho:RE X oe fo) (ha:RA X (e::es) fs)
  (Xa:(attributeBase oe name X.env (eval oe X.env)=eval oe X.env)\1)
  (aaP:((backTo TG (starEach (e::es) X.env)).all (fun x=>!x.1)&&(backToKw TG (keywordEach [] X.env)).all (fun x=>x.1.isSome)
   &&decide ((e::es).length+([]:List Keyword).length+(if([]:List Keyword).isEmpty then 0 else 1)<30))=true:=by rfl)
  (hline:((apos.endLine==TG.line)=true)\1)(hs:sE0 X e es\1) (aaM:((backTo TG (starEach es X.env)).any (·.1)=false)\1):
  RE X (.Call (.Attribute oe name apos) (e::es) [] TG) (cM recv g fo fs):=⟨fun I p=>afY Xa aaP hline rfl (ho.r I (p.bind fun w1 h1 q u y r p=>by
 split at p
 .obtain⟨t1,t2⟩:=ty y.2 r ‹_›;refine⟨Ty,id,pa,slot,hty,t1,t2,?_⟩;have hA:=ha.r TG (I.on y) (p.bind (G:=fun us s=>Wp X (call (.builtin id) (u::us)) _ _ s) fun w2 h2 qs us y2 r2 p=>hm ((I.on y).on y2).toWd (y2.1.rep r) r2 p);rw[hs]at hA |-;exact af6 (by show(false||(backTo TG (starEach es X.env)).any (·.1))=false;rw[aaM]<;>rfl) (Calls.evalArgs_plain hA)
 .exact p.elim))⟩
def nA:TyM X "str" cV:=fun H r e=>by
 unfold cV at e
 split at e
 .cases r;exact⟨agf _ _ _,fun _ e=>nomatch e⟩
 .cases e
def zV:TyM X "list" cC:=fun H r e=>by obtain⟨xs,ex⟩:=afb.mp e;obtain⟨a,its,rfl,⟨n,y⟩,_⟩:=H.sq r (gS ex);exact⟨⟨_,y,rfl⟩,fun _ e=>by cases e;exact⟨_,y,rfl⟩⟩
def Dv:Yt X "list.append" bn:=fun{w h p u ps us Q E} I r rs k=>by
 unfold bn at k
 split at k
 .split at k
  .split at k
   .obtain⟨v,rfl,rv⟩:=rs.one
    replace r:=I.toHR.ll r ‹_›
    obtain⟨a,its,n,rfl,em,hf,e,z,r⟩:=r;refine afa F.slot_list_append ⟨_,e,rfl⟩ F.entry_list_append (F.args_list_append_2 _ _) (PySem.list_append a its n v z) ⟨e,?_⟩;exact k.2 _ _ (Nw.Z_ (f:=Obj.mapSeq (·.push v)) (Ti:=its.push v) (tk:=w.s.toks) I.toHR em hf e (by simp[Obj.mapSeq];rfl) (by have:=r.len;simp;lia) (by simpa using r.app (.cons rv .nil))) .non
   .exact k.elim
  .exact k.elim
 .exact k.elim
theorem kx{F:Fz}{m:Zs}:∀{ps:Y2}{us:Z3}{ls:Ya},gz ps=some ls->ay G F m ps us->StrsAre us (ls.map S):=by
 intro ps
 induction ps with
 |nil=>intro _ _ e r;cases r;cases e;exact .nil
 |cons p r ih=>
  intro _ ls e q
  obtain _|⟨rp,t⟩:=q
  cases p with
  |str l=>simp only[gz,adZ]at e;obtain⟨ls',e1,rfl⟩:=e;obtain⟨_,rfl⟩:=rp.vs;exact .cons _ _ (ih e1 t)
  |_=>simp[gz]at e
def Ks(a b:Y1):S a++S b=S (a++b):=by show(⟨(S a).cps++(S b).cps⟩:Str)=_;simp[S]
def Bc(sep:Y1)(xs:Ya):Txt.join (S sep) (xs.map S)=S (aI sep xs):=by
 have go:∀xs:Ya,Str.join (S sep) (xs.map S)=S (aI sep xs):=by
  intro xs
  induction xs with
  |nil=>rfl
  |cons x r ih=>
   cases r with
   |nil=>rfl
   |cons y r=>have e:aI sep (x::y::r)=x++sep++aI sep (y::r):=rfl;rw[e,<- Ks,<- Ks,<- ih];rfl
 show Builtin.Str.glued _ _=_;rw[ahp];exact go xs
def IA:Yt X "str.join" gu:=fun{w h p u ps us Q E} I r rs k=>by
 unfold gu at k
 replace k:=sKq_ k;obtain⟨sep,rfl,k⟩:=k;replace k:=oQ1_ k;obtain⟨q,rfl,k⟩:=k
 split at k
 .split at k
  .split at k
   .rename_i el hz;obtain⟨_,rfl⟩:=r.vs;obtain⟨v,rfl,rv⟩:=rs.one;obtain⟨a,its,rfl,y,_,r⟩:=I.sq rv (gS ‹_›);refine join_list y.pl.isList (kx ‹_› r) ?_ fun t' k'=>by rw[Bc];exact k.now I.toHR (.str _ _)
    rw[adB,ac2,db,show((fun x:Str=>x.length)∘S)=(·.length)from funext db];exact hz
   .exact k.elim
  .exact k.elim
 .exact k.elim
end
noncomputable def aE(y x:Y1)(lo:Nat):Option Nat:=(List.range (x.length+1)).find? fun i=>decide (lo<=i)&&y.isPrefixOf (x.drop i)
noncomputable def rn(o:Option Nat):Int:=match o with
 |some i=>(i:Int)
 |none=> -1
def tZ(y x:Y1):Bool:=(aE y x 0).isSome
def yH(p:PV)(ps:Y2)(h:Y3):Res PV:=sKq p fun x=>oQ1 ps fun q=>sKq q fun y=>.ok (.int (rn (aE y x 0))) h
def Do(p q:PV)(h:Y3):Option Bool:=match q with
 |.str b=>match p with
  |.str a=>some (tZ a b)
  |_=>none
 |q=>match Ye h q with
  |some kvs=>match pf p with
   |some k=>some (lM kvs k).isSome
   |none=>none
  |none=>match WQ h q with
   |some xs=>if TP [] p=true/\xs.all (TP [])=true then some (xs.any fun y=>PyData.eqv (toD y) (toD p))else none
   |none=>none
def Wx(p q:PV)(h:Y3):Res PV:=match Do p q h with
 |some b=>.ok (.bl b) h
 |none=>.bad
def iY(p q:PV)(h:Y3):Res PV:=match Do p q h with
 |some b=>.ok (.bl (!b)) h
 |none=>.bad
def uP(x y:Y1)(i:Nat)(hi:i+y.length<=x.length):Builtin.Str.subAt (S x) (S y) i=y.isPrefixOf (x.drop i):=by
 unfold Builtin.Str.subAt;rw[db];rw[aei,beq_iff_eq,adG]
 have e:(S x).cps.extract i (i+y.length)=((x.drop i).take y.length).toArray:=by apply aii.mp;simp[S,List.extract_eq_drop_take]
 rw[e];show((x.drop i).take y.length).toArray=(S y).cps↔_;constructor
 .intro h;have h':(x.drop i).take y.length=y:=by simpa[S]using congrArg Array.toList h
  refine⟨(x.drop i).drop y.length,?_⟩;have q:=afr y.length (x.drop i);rw[h']at q;exact q
 .rintro⟨t,ht⟩
  rw[<- ht,afh];rfl
def AV(x y:Y1)(i:Nat):StrLaws.At (S x) (S y) (S x).length i↔i<=x.length/\y.isPrefixOf (x.drop i)=true:=by
 unfold StrLaws.At;rw[db,db];constructor
 .rintro⟨h1,h2⟩
  rw[uP x y i h1]at h2;exact⟨by lia,h2⟩
 .rintro⟨h1,h2⟩
  have:i+y.length<=x.length:=by
   have:=(adG.mp h2).length_le;rw[adS]at this
   lia
  exact⟨this,by rw[uP x y i this];exact h2⟩
def kI(x y:Y1)(lo:Nat):Builtin.Str.occurrences (S x) (S y) lo (S x).length 1=(aE y x lo).toList:=by
 have WD:=aho (S x) (S y) lo (S x).length 1;rcases StrLaws.occ_head_from (S x) (S y) lo 1 (adK _)with⟨h0,hn⟩|⟨i,r,h0,hl,ha,hn⟩
 .rw[h0]
  have:aE y x lo=none:=by unfold aE;rw[afR];intro i hi hc;simp only[ac7,decide_eq_true_eq]at hc;exact hn i hc.1 ((AV x y i).mpr ⟨by have:=aeu.mp hi;lia,hc.2⟩)
  rw[this];rfl
 .rw[h0]at WD |-
  have hr:r= []:=by cases r with
   |nil=>rfl
   |cons _ _=>simp at WD
  subst hr;obtain⟨a1,a2⟩:=(AV x y i).mp ha
  have:aE y x lo=some i:=by
   unfold aE;rw[afc];refine⟨by simp[hl,a2],by simp;lia,fun j hj=>?_⟩;simp only[afy,ahw,decide_eq_false_iff_not];rcases aeJ j lo with q|q
   .exact .inl ⋯
   .right
    cases z:y.isPrefixOf (x.drop j)with
    |false=>rfl
    |true=>exact absurd ((AV x y j).mpr ⟨by lia,z⟩) (hn j q hj)
  rw[this];rfl
def MT(x y:Y1):Txt.find (S x) (S y)=rn (aE y x 0):=by
 unfold Txt.find;rw[kI]
 cases aE y x 0<;>rfl
def RM(x y:Y1):(!(Builtin.Str.occurrences (S x) (S y) 0 (S x).length 1).isEmpty)=tZ y x:=by
 rw[kI];unfold tZ
 cases aE y x 0<;>rfl
noncomputable def ui(h:Heap)(d:PyData)(y:Value):Bool:=open Classical in if q:∃e as,Reads h y e as/\e.canLay0=true then PyData.eqv q.choose d else false
def Ck{h:Heap}{d e:PyData}{as:Zs}(r:Reads h y e as)(c:e.canLay0=true):ui h d y=PyData.eqv e d:=by
 have q:∃e as,Reads h y e as/\e.canLay0=true:=⟨e,as,r,c⟩
 unfold ui;rw[dif_pos q];obtain⟨as',r',c'⟩:=q.choose_spec;rw[SeqAt.Reads.unique _ _ _ _ _ c r r']
theorem yQ{A:Around}{s:Shared}{d:PyData}{v:Value}{bs:Zs}(rv:Reads s.heap v d bs)(cd:d.canLay0=true)(hu:A.units+d.depth<cLine):
  ∀{us:Z3}{ds:List PyData}{as:Zs},ReadsAll s.heap us ds as->ds.all PyData.canLay0=true->∀u∈us,SeqAt.EqAt A s u v (ui s.heap d u):=by
 intro us
 induction us with
 |nil=>intro _ _ _ _ u hu;cases hu
 |cons _ _ ih=>
  intro _ _ q c u hu'
  obtain _|⟨r,t⟩:=q
  simp only[aeK,ac7]at c;rcases ac8.mp hu' with rfl|hu'
  .rw[Ck r c.1];exact SeqAt.eqAt_reads _ _ A s _ _ _ _ r rv c.1 cd (by have:=aif (PyData.depth ‹PyData›) d.depth;lia)
  .exact ih t c.2 u hu'
theorem zN{h:Heap}{d:PyData}:∀{us:Z3}{ds:List PyData}{as:Zs},ReadsAll h us ds as->ds.all PyData.canLay0=true->us.any (ui h d)=ds.any fun e=>PyData.eqv e d:=by
 intro us
 induction us with
 |nil=>intro _ _ r _;cases r;rfl
 |cons _ _ ih=>intro _ _ q c;obtain _|⟨r,t⟩:=q;simp only[aeK,ac7]at c;rw[afK,afK,Ck r c.1,ih t c.2]
theorem jj:∀l:List PyData,PyData.canLayAll0 l=l.all PyData.canLay0
 |[]=>by simp[PyData.canLayAll0]
 |x::r=>by simp[PyData.canLayAll0,jj r]
theorem sN:∀l:Y2,eh l=l.map toD
 |[]=>by simp[eh]
 |x::r=>by simp[eh,sN r]
def Cm(p:PV):TV [] p=toD p:=by
 unfold TV
 split
 .simp[toD]
 .rfl
section
variable{w:Wo}{a b c:Expr}{fc:Ex}
def IB:Yt X "str.find" yH:=fun{w h p u ps us Q E} I r rs k=>by
 replace k:=sKq_ k;obtain⟨x,rfl,k⟩:=k;replace k:=oQ1_ k;obtain⟨q,rfl,k⟩:=k;replace k:=sKq_ k;obtain⟨y,rfl,k⟩:=k;obtain⟨_,rfl⟩:=r.vs;obtain⟨v,rfl,rv⟩:=rs.one;obtain⟨_,rfl⟩:=rv.vs;exact SC.find (by rw[MT];exact k.now I.toHR (.int _ _))
def inB{q:PV}{k:Bool}{op:CmpOp}{neg:Bool}(ho:op= .In/\neg=false\/op= .NotIn/\neg=true)(hu:X.A.units+64<cLine)(I:Wd X w h)(rp:aQ X.toSC w.F w.m p u)(rq:aQ X.toSC w.F w.m q v)(e:Do p q h=some k)(fin:∀t,Q (.bool (if neg then !k else k)) { w.s with toks:=t }):Wp X (compareOp op u v) Q E w.s:=by
 unfold Do at e
 split at e
 .split at e<;>cases e
  cases rp;obtain⟨_,rfl⟩:=rq.vs
  rw[<- RM]at fin;rcases ho with⟨rfl,rfl⟩|⟨rfl,rfl⟩
  .exact in_str (fin w.s.toks)
  .exact notIn_str (fin w.s.toks)
 .split at e
  .split at e<;>cases e
   rename_i kk ek;obtain⟨a,kvs,rfl,sm,d,rr⟩:=I.dc rq ‹_›
   have:(lM ‹_› kk).isSome=(valueAt kvs kk).isSome:=by
    rcases rT rr.2.1 rr.2.2 kk with⟨p1,v1,h1,h2,_⟩|⟨h1,h2⟩
    .rw[h1,h2];rfl
    .rw[h1,h2];rfl
   rw[this]at fin;rcases ho with⟨rfl,rfl⟩|⟨rfl,rfl⟩
   .exact wpAny_in_of (nV rp ek) sm d.mapOf (fin _)
   .exact wpAny_notIn_of (nV rp ek) sm d.mapOf (fin _)
  .split at e
   .split at e
    .rename_i hc
     cases e
     rename_i xs es
     have h1:(toD p).canLay0=true/\(toD p).depth<=60:=by have:=hc.1;unfold TP at this;simpa[Cm]using this
     have h2:PyData.canLayAll0 (eh xs)=true:=by rw[jj,sN,ahe];rw[adn]at hc |-;intro z hz;have:=hc.2 z hz;unfold TP at this;rw[Cm,ac7]at this;exact this.1
     have h3:(eh xs).all PyData.canLay0=true:=by rw[<- jj];exact h2
     obtain⟨t,e,ht⟩:=zZ es;obtain⟨a,its,rfl,y,z,r⟩:=I.sq rq e;obtain⟨as,ra⟩:=aQ.reads I.toHR rp h1.1;obtain⟨bs,rb⟩:=ay.reads I.toHR r h2
     have en:(xs.any fun y=>PyData.eqv (toD y) (toD p))=its.any (ui w.s.heap (toD p)):=by rw[show its.any (ui w.s.heap (toD p))=its.toList.any (ui w.s.heap (toD p)) by simp,zN rb h3,sN,ah7];rfl
     rw[en]at fin;have me:=fun{B:Around}(hB:B.units+(toD p).depth<cLine)(x:Value)(hx:x∈its)=>yQ (A:=B) ra h1.1 hB rb h3 x (by simpa using hx);have hb:X.A.in1.units+(toD p).depth<cLine:=by show X.A.units+1+_<_;lia
     rcases ht with rfl|rfl<;>rcases ho with⟨rfl,rfl⟩|⟨rfl,rfl⟩
     .exact SeqAt.in_tupleAt (ui w.s.heap (toD p)) y.tup (fun x hx=>me hb x hx) (fin _)
     .exact SeqAt.notIn_tupleAt (ui w.s.heap (toD p)) y.tup (fun x hx=>me hb x hx) (fin _)
     .exact SeqAt.in_listAt (ui w.s.heap (toD p)) y.pl.isList (fun x hx=>me hb x hx) (fin _)
     .exact SeqAt.notIn_listAt (ui w.s.heap (toD p)) y.pl.isList (fun x hx=>me hb x hx) (fin _)
    .cases e
   .cases e
def Qj(hu:X.A.units+64<cLine):Wr X (compareOp .In) Wx:=fun{w h p q u v Q E} I rp rq k=>by
 unfold Wx at k
 split at k
 .exact inB (.inl ⟨rfl,rfl⟩) hu I rp rq ‹_› fun t=>k.now I.toHR (.bl _)
 .exact k.elim
def BF(hu:X.A.units+64<cLine):Wr X (compareOp .NotIn) iY:=fun{w h p q u v Q E} I rp rq k=>by
 unfold iY at k
 split at k
 .exact inB (.inr ⟨rfl,rfl⟩) hu I rp rq ‹_› fun t=>k.now I.toHR (.bl _)
 .exact k.elim
end
section
variable{w:Wo}{a b c:Expr}{fc:Ex}{op op':CmpOp}{g g':PV->PV->Y3->Res PV}
theorem yl(o:Wr X (compareOp op) g)(o':Wr X (compareOp op') g')(ha:RE X a fa)(hb:RE X b fb)(hc:RE X c fc)(hm:lastMarks [op,op'] [b,c]=false:=by with_unfolding_all rfl):RT X (.Compare a [op,op'] [b,c] pos) (au (qG g g' fa fb fc)):=⟨fun{w ρ h Q E} I p=>isTrue_chain (ha.r I (by
 unfold au qG at p
 cases e1:fa ρ h with
 |bad=>rw[e1]at p;exact p
 |exc _ _=>rw[e1]at p;exact p
 |ok x h1=>
  rw[e1]at p;refine⟨p.ep,fun w1 v1 y1 r1=>test_link (hb.r (I.on y1) ?_)⟩;have p:=p.step y1;simp only[Res.bind]at p
  cases e2:fb ρ h1 with
  |bad=>rw[e2]at p;exact p
  |exc _ _=>rw[e2]at p;exact p
  |ok y h2=>
   rw[e2]at p;refine⟨p.ep,fun w2 v2 y2 r2=>o ((I.on y1).on y2).toWd (y2.1.rep r1) r2 ?_⟩;have p:=p.step y2;simp only[]at p
   cases e3:g x y h2 with
   |bad=>rw[e3]at p;exact p
   |exc _ _=>rw[e3]at p;exact p
   |ok z h3=>
    rw[e3]at p;refine⟨p.ep,fun w3 v3 y3 r3=>?_⟩;have p:=p.step y3
    cases r3 with
    |bl k=>
     refine aeO ?_
     cases k with
     |false=>exact ite_ff (p.here y3.2 rfl)
     |true=>
      refine ite_tt (test_last (hc.r (((I.on y1).on y2).on y3) ?_));simp only[if_true]at p
      cases e4:fc ρ h3 with
      |bad=>rw[e4]at p;exact p
      |exc _ _=>rw[e4]at p;exact p
      |ok u h4=>
       rw[e4]at p;refine⟨p.ep,fun w4 v4 y4 r4=>o' ((((I.on y1).on y2).on y3).on y4).toWd (y4.1.rep (y3.1.rep r2)) r4 ?_⟩;refine(p.step y4).bind fun _ _ z2 _ y5 r5 p=>?_
       cases r5 with
       |bl=>exact aeO (p.here y5.2 rfl)
       |_=>exact p.elim
    |_=>exact p.elim)) hm⟩
end
section
variable{w:Wo}
def bG.Y7{pv:PV}{ps:Y2}(p:bG X (RV X.toSC) w Q E (.ok pv h))(H:HR X.toSC w h)(na:w.s.heap.get? a=none)(kp:∀b o,w.s.heap.get? b=some o->s'.heap.get? b=some o)(e:s'.heap.get? a=some { cls:=.type t,data:=.seq its n })(k:sqT pv=some (t,ps))(r:ay X.toSC w.F w.m ps its.toList)(z:its.size<=sizeLine)(ho:(s'.os=w.s.os)\1)(hg:(s'.gens=w.s.gens)\1):Q (.ref a) s':=
 have y:=Nw.lay (X:=X) H na kp e ho hg
 p.2 _ _ y (.sq k bv z (y.1.reps r))
def Ik:Xl X (.type "tuple") dJ:=fun ok {w h p u Q E} I rs k=>by
 unfold dJ at k
 split at k
 .obtain⟨u,rfl,r1⟩:=rs.one;show Wp X (call (.type "tuple") [u]) Q E w.s
  split at k
  .rename_i e;have sl:=afz;unfold WQ at e
   split at e
   .cases e
    obtain⟨a,its,rfl,y,z,r⟩:=I.sq r1 rfl;exact call_tuple_same y.tup (k.here I.toHR r1)
   .obtain⟨a,its,rfl,y,z,r⟩:=I.sq r1 (gS e);refine call_tuple_list y.pl.isList (fun h' kp=>?_) ⋯
    have na:w.s.heap.get? h'.objs.size=none:=by
     cases q:w.s.heap.get? h'.objs.size with
     |none=>rfl
     |some o=>have:=kp _ _ q;rw[aW]at this;cases this
    exact k.Y7 I.toHR na (fun b o e=>ada _ (kp b o e)) (ado _ rfl) rfl r z
  .exact k.elim
 .exact k.elim
end
section
variable{w:Wo}{a:Expr}{p3:Pos}
theorem rC{F:Fz}{m:Zs}:∀{ps:Y2}{us:Z3}{bs:List Bool},jv ps=some bs->ay G F m ps us->LSm.BoolsAre us bs:=by
 intro ps
 induction ps with
 |nil=>intro _ _ e r;cases r;cases e;exact .nil
 |cons p r ih=>
  intro _ bs e q
  obtain _|⟨rp,t⟩:=q
  cases p with
  |bl b=>simp only[jv,adZ]at e;obtain⟨bs',e1,rfl⟩:=e;obtain rfl:=rp.vb;exact .cons _ (ih e1 t)
  |_=>simp[jv]at e
def NW(hc:X.calm=true):Xl X (.builtin "all") Dr:=fun ok {w h p u Q E} I rs k=>by
 unfold Dr at k
 split at k
 .obtain⟨u,rfl,r1⟩:=rs.one
  split at k
  .split at k
   .obtain⟨a,its,rfl,y,z,r⟩:=I.sq r1 (gS ‹_›);have hb:=rC ‹_› r;have hl:=y.pl.isList;have hlt:a<w.s.heap.objs.size:=by obtain⟨_,e,_⟩:=hl;exact adE e
    show Wp X (call (.builtin "all") [.ref a]) Q E w.s;rename_i bs _
    refine call_all_walk (afv hl ⟨w.s.heap.objs.size,[w.s.heap.objs.size,a],[w.s.heap.objs.size],its.size,_,_,fun i=>(bs[i]?).getD true,rfl,aiw (A:=X.A.in1) (ok.hd hc) _ a (aek hlt) its,
     ⟨⟨_,ado _ rfl,rfl,rfl⟩,hl.push _⟩,fun i v s' Q' E' hP hQ=>?_,fun h' tk hk=>?_⟩)
    .obtain⟨b,e,rfl⟩:=hb.get i v (by simpa using hP);simp only[e,aib]at hQ;exact aeO hQ
    .have e:((List.range its.size).all fun i=>(bs[i]?).getD true)=bs.all id:=by rw[show its.size=bs.length from hb.length];exact LSm.range_all bs
     rw[e];have n:=Nw.also (X:=X) (s':={ w.s with heap:=h',toks:=tk }) I.toHR (LSm.kept_iter hk);exact k.2 _ _ n (.bl _)
   .exact k.elim
  .exact k.elim
 .exact k.elim
end
section
variable{w:World}{s:Shared}{it t:Addr}{items:Array Value}
def yI(hit:s.heap.IsTupleIter it t i)
  (go:wpAny (model prog w) A.in1 (Builtin.«tuple_iterator.__next__» ⟨[.ref it],[]⟩) (fun fin s'=>∃v,fin=.done (.ret v)/\Q v s') E s):wpAny (model prog w) A (Builtin.SmallTypes.nextOf (.ref it)) Q E s:=by
 have ty:=hit.typeIs;have c:=aef (E:=E) (name:="__next__") (Q:=fun r s'=>∃v,r=some v/\Q v s') ty F.slot_tuple_iterator_next (aeU F.slot_tuple_iterator_next ty F.entry_tuple_iterator_next (aea go ((by rintro fin s' ⟨v,e,q⟩;exact ⟨v,e,v,rfl,q⟩)) fun _ _ z=>z) (F.args_tuple_iterator_next_1 _));unfold Builtin.SmallTypes.nextOf;exact ac0 (aea c ((by rintro r s' ⟨v,e,q⟩;subst e;exact adf q)) fun _ _ z=>z)
def CZ{x:Value}(hit:s.heap.IsTupleIter it t i)(ht:s.heap.IsTuple t items)(hx:items[i]? =some x)(hQ:∀h',h'.IsTupleIter it t (i+1)->Heap.SameBut it s.heap h'->Q x { s with heap:=h' }):
  wpAny (model prog w) A (Builtin.«tuple_iterator.__next__» ⟨[.ref it],[]⟩) (fun fin s'=>∃v,fin=.done (.ret v)/\Q v s') E s:=by
 obtain⟨o,ho,hc,hd⟩:=id hit;obtain⟨p,hp,_,n,hdp⟩:=ht;have nn:¬ ((Value.ref t==Value.none)=true):=afl;refine(show wpAny (model prog w) A (field (.ref it) 0 >>= _) _ E s from ac0 (adW ho hd (x:=.ref t) rfl ?_));refine(show wpAny (model prog w) A (if(Value.ref t==Value.none)=true then _ else _) _ E s from ?_);rw[if_neg nn];refine(show wpAny (model prog w) A (field (.ref it) 1 >>= _) _ E s from ac0 (adW ho hd (x:=.int i 0) rfl ?_));refine(show wpAny (model prog w) A (seqItems? (.ref t) >>= _) _ E s from ac0 (aer hp hdp ?_));simp only[aeo,hx];have st:∀f,(o.mapFields f).data=.fields (f #[.ref t,.int i 0]):=fun f=>agF hd f;refine ac0 (wpAny_setField ho hd (by simp) (adf ⟨x,rfl,hQ _ ⟨_,aed _ ho (Obj.isFreed_of_fields (agF hd _)),?_,?_⟩ (ahN ..)⟩))
 .rw[Obj.cls_mapFields];exact hc
 .rw[agF hd];simp[rawInt]
def EO{Q:Fin->Shared->Prop}(hh:A.handled=none)(hit:s.heap.IsTupleIter it t i)(ht:s.heap.IsTuple t items)(hx:items[i]? =none)
  (hE:∀h' e,Heap.ExtBut it s.heap h'->(∃o,h'.get? e=some o/\o.cls=.type "StopIteration")->E (.ref e) { s with heap:=h' }):
  wpAny (model prog w) A (Builtin.«tuple_iterator.__next__» ⟨[.ref it],[]⟩) Q E s:=by
 obtain⟨o,ho,hc,hd⟩:=id hit;obtain⟨p,hp,_,n,hdp⟩:=ht;have nn:¬ ((Value.ref t==Value.none)=true):=afl;refine(show wpAny (model prog w) A (field (.ref it) 0 >>= _) _ E s from ac0 (adW ho hd (x:=.ref t) rfl ?_));refine(show wpAny (model prog w) A (if(Value.ref t==Value.none)=true then _ else _) _ E s from ?_);rw[if_neg nn];refine(show wpAny (model prog w) A (field (.ref it) 1 >>= _) _ E s from ac0 (adW ho hd (x:=.int i 0) rfl ?_));refine(show wpAny (model prog w) A (seqItems? (.ref t) >>= _) _ E s from ac0 (aer hp hdp ?_));simp only[aeo,hx];refine ac0 (ag8 (ac0 (wpAny_setField ho hd (by simp) (ac0 ?_))));simp only[newExc,newTuple];refine ac0 (aeB (ac0 (m:=firstArgMember _ _) (wpAny_of_eq (a:=Value.none) (by first|rfl|(simp only[firstArgMember];rfl)) (aeB ?_ (by size_fits)))) (by size_fits));simp only[raiseNew];refine ac0 (wpAny_handled ?_);rw[hh];exact ac0 (adf (wpAny_throw (hE _ _ (((ahN ..).extBut.push _).push _) ⟨_,ado _ rfl,rfl⟩)))
def MC(hh:A.handled=none)(ne:t≠it):Draws prog w A.in1 it [it,t] items.size (fun j v=>items[j]? =some v) (fun j h=>h.IsTupleIter it t j/\h.IsTuple t items) where
 live:=fun j h st=>by obtain⟨o,ho,_⟩:=st.1;exact⟨o,ho⟩
 frame:=fun j h h' st k=>by obtain⟨⟨o,ho,r⟩,⟨p,hp,q⟩⟩:=st;exact⟨⟨o,k _ (by simp) o ho,r⟩,⟨p,k _ (by simp) p hp,q⟩⟩
 item:=fun j s Q E hj st hQ=>yI st.1 (CZ st.1 st.2 (x:=items[j]) (by simp[hj]) fun h' v5 sb=>hQ _ h' s.toks (by simp[hj]) ⟨v5,st.2.extBut sb.extBut ne⟩ sb)
 done:=fun s Q E st hE=>yI st.1 (EO (A:=A.in1.in1) hh st.1 st.2 (by simp) hE)
noncomputable def xV(a:Addr):Obj:={ cls:=.type "tuple_iterator",data:=.fields #[.ref a,.int 0 0] }
end
structure ZG(z ti to i1 i2:Addr)(f1 f2:Zs):Prop where
 a1:ti≠z
 a2:to≠z
 a3:i1≠z
 a4:i2≠z
 a5:ti≠to
 a6:ti≠i1
 a7:ti≠i2
 a8:to≠i1
 a9:to≠i2
 z1:z∉f1
 z2:z∉f2
 t1:to∉f1
 t2:to∉f2
 o1:i2∉f1
 o2:i1∉f2
section
variable{w:World}{s:Shared}{z ti to i1 i2:Addr}{f1 f2:Zs}{n1 n2:Nat}{P1 P2:Nat->Value->Prop}
def Draws.but{it c:Addr}{fp:Zs}{P:Nat->Value->Prop}{St:Nat->Heap->Prop}(D:Draws prog w A it fp n P St){h:Heap}(st:St j h)(e:Heap.ExtBut c h h')(nc:c∉fp):St j h':=
 D.frame j h h' st fun b hb o q=>e b o (fun y=>nc (y▸hb)) q
def DW{a b:Value}(Z:ZG z ti to i1 i2 f1 f2)(D1:Draws prog w A i1 f1 n1 P1 S1)(D2:Draws prog w A i2 f2 n2 P2 S2)
  (hz:IsZip s.heap z ti to .none) (Ym:IsPair s.heap ti (.ref i1) (.ref i2)) (Yz:IsPair s.heap to a b) (s1:S1 j s.heap) (s2:S2 j s.heap) (l1:j<n1) (l2:j<n2)
  (hQ:∀x y h' tk,P1 j x->P2 j y->IsZip h' z ti to (rawInt s.heap.objs.size)->IsPair h' to x y->S1 (j+1) h'->S2 (j+1) h'->IsPair h' s.heap.objs.size x y->h'.objs.size=s.heap.objs.size+1->
   (∀c o,c≠z->c≠to->c≠i1->c≠i2->s.heap.get? c=some o->h'.get? c=some o)->Q (.ref s.heap.objs.size) { s with heap:=h',toks:=tk }):
  wpAny (model prog w) A (Builtin.«zip.__next__» ⟨[.ref z],[]⟩) (fun fin s'=>∃v,fin=.done (.ret v)/\Q v s') E s:=by
 refine(show wpAny (model prog w) A (field (.ref z) 2 >>= _) _ E s from ac0 (adW hz rfl (x:=.bool false) rfl ?_));refine(show wpAny (model prog w) A (field (.ref z) 3 >>= _) _ E s from ac0 (adW hz rfl (x:=.ref ti) rfl (ac0 (aer Ym rfl ?_))));refine(show wpAny (model prog w) A ((field (.ref z) 0 >>= _) >>= _) _ E s from ac0 (ac0 (adW hz rfl (x:=.none) rfl (adf ?_))));rw[if_pos (by rfl)];refine ac0 (ag8 (ac0 (adW hz rfl (x:=.ref to) rfl (ac0 (aeV hz (by simp) fun g1 zg b1=>?_)))));have zg:IsZip g1 z ti to .ellipsis:=zg;rw[show(#[Value.ref i1,.ref i2]:Array Value).toList.zipIdx= [(Value.ref i1,0),(.ref i2,1)]from rfl];refine ac0 ?_;rw[aeF];refine ac0 (ac0 (agU ?_));refine(show wpAny (model prog w) A (Builtin.SmallTypes.nextOf (.ref i1) >>= _) _ _ _ from ac0 (D1.item j _ _ _ l1 (Draws.but D1 s1 b1.extBut Z.z1) fun x g2 k2 px t1 b2=>adf ?_));have to2:IsPair g2 to a b:=b2.extBut _ _ Z.a8 (b1.extBut _ _ Z.a2 Yz);refine ac0 (aer to2 rfl (ac0 (agl to2 fun g3 to3 b3=>ac0 (ahx (adf ?_)))));have to3:IsPair g3 to x b:=to3;dsimp only;rw[aeF];refine ac0 (ac0 (agU ?_));refine(show wpAny (model prog w) A (Builtin.SmallTypes.nextOf (.ref i2) >>= _) _ _ _ from ac0 (D2.item j _ _ _ l2 (Draws.but D2 (Draws.but D2 (Draws.but D2 s2 b1.extBut Z.z2) b2.extBut Z.o2) b3.extBut Z.t2) fun y g4 k4 py t2 b4=>adf ?_))
 have to4:IsPair g4 to x b:=b4.extBut _ _ Z.a9 to3;refine ac0 (aer to4 rfl (ac0 (agl to4 fun g5 to5 b5=>ac0 (ahx (adf ?_)))));have to5:IsPair g5 to x y:=to5;dsimp only;rw[aiz];refine adf (ac0 (aer to5 rfl (ac0 (wpAny_newTuple ?_))));have kz:∀c o,c≠to->c≠i1->c≠i2->g1.get? c=some o->g5.get? c=some o:=fun c o c1 c2 c3 q=>b5.extBut _ _ c1 (b4.extBut _ _ c3 (b3.extBut _ _ c1 (b2.extBut _ _ c2 q)));have z5:IsZip g5 z ti to .ellipsis:=kz _ _ (aem Z.a2) (aem Z.a3) (aem Z.a4) zg;have sz:g5.objs.size=s.heap.objs.size:=by rw[b5.1,b4.1,b3.1,b2.1,b1.1]
 have u1:S1 (j+1) g5:=Draws.but D1 (Draws.but D1 (Draws.but D1 t1 b3.extBut Z.t1) b4.extBut Z.o1) b5.extBut Z.t1;have u2:S2 (j+1) g5:=Draws.but D2 t2 b5.extBut Z.t2;have z6:IsZip (g5.push { cls:=.type "tuple",data:=.seq #[x,y] }) z ti to .ellipsis:=ada _ z5;refine(show wpAny (model prog w) A ((setField (.ref z) 0 _ >>= _) >>= _) _ E _ from ac0 (ac0 (aeV z6 (by simp) fun g7 z7 b7=>?_)));refine(show wpAny (model prog w) A (setField (.ref z) 1 _) _ E _ from aeV (show IsZip g7 z ti to (rawInt g5.objs.size)from z7) (by simp) fun g8 z8 b8=>?_);have z8:IsZip g8 z ti to (rawInt g5.objs.size):=z8;have lz:z<g5.objs.size:=adE z5;have p8:IsPair g8 g5.objs.size x y:=b8.extBut _ _ (aey lz) (b7.extBut _ _ (aey lz) (ado _ rfl));have k8:∀c o,c≠z->g5.get? c=some o->g8.get? c=some o:=fun c o c1 q=>b8.extBut _ _ c1 (b7.extBut _ _ c1 (ada _ q));have s8:g8.objs.size=g5.objs.size+1:=by rw[b8.1,b7.1,aew]
 have v1:S1 (j+1) g8:=D1.frame _ _ _ u1 fun c hc o q=>k8 c o (fun y=>Z.z1 (y▸hc)) q;have v2:S2 (j+1) g8:=D2.frame _ _ _ u2 fun c hc o q=>k8 c o (fun y=>Z.z2 (y▸hc)) q;rw[sz]at z8 p8 s8;refine adf ⟨_,rfl,?_⟩;have q:=hQ x y g8 k4 px py z8 (k8 _ _ Z.a2 to5) v1 v2 p8 s8 fun c o c1 c2 c3 c4 q=>k8 c o c1 (kz c o c2 c3 c4 (b1.extBut _ _ c1 q));rw[<- sz]at q;exact q
def Hk{a b:Value}{R:Fin->Shared->Prop}(Z:ZG z ti to i1 i2 f1 f2)(D1:Draws prog w A i1 f1 n1 P1 S1)(D2:Draws prog w A i2 f2 n2 P2 S2)
  (hz:IsZip s.heap z ti to .none) (Ym:IsPair s.heap ti (.ref i1) (.ref i2)) (Yz:IsPair s.heap to a b) (s1:S1 j s.heap) (s2:S2 j s.heap) (l:j=n1\/(j<n1/\j=n2))
  (hE:∀h' e tk,(∀c o,c≠z->c≠to->c≠i1->c≠i2->s.heap.get? c=some o->h'.get? c=some o)->(∃o,h'.get? e=some o/\o.cls=.type "StopIteration")->E (.ref e) { s with heap:=h',toks:=tk }):
  wpAny (model prog w) A (Builtin.«zip.__next__» ⟨[.ref z],[]⟩) R E s:=by
 refine(show wpAny (model prog w) A (field (.ref z) 2 >>= _) _ E s from ac0 (adW hz rfl (x:=.bool false) rfl ?_));refine(show wpAny (model prog w) A (field (.ref z) 3 >>= _) _ E s from ac0 (adW hz rfl (x:=.ref ti) rfl (ac0 (aer Ym rfl ?_))));refine(show wpAny (model prog w) A ((field (.ref z) 0 >>= _) >>= _) _ E s from ac0 (ac0 (adW hz rfl (x:=.none) rfl (adf ?_))));rw[if_pos (by rfl)];refine ac0 (ag8 (ac0 (adW hz rfl (x:=.ref to) rfl (ac0 (aeV hz (by simp) fun g1 zg b1=>?_)))));have zg:IsZip g1 z ti to .ellipsis:=zg;rw[show(#[Value.ref i1,.ref i2]:Array Value).toList.zipIdx= [(Value.ref i1,0),(.ref i2,1)]from rfl];refine ac0 ?_;rw[aeF];refine ac0 (ac0 (agU ?_))
 have go:∀(g:Heap)(e:Addr)(k:Nat),IsZip g z ti to .ellipsis->(∀c o,c≠z->c≠to->c≠i1->c≠i2->s.heap.get? c=some o->g.get? c=some o)->(∃o,g.get? e=some o/\o.cls=.type "StopIteration")->
   wpAny (model prog w) A (setField (.ref z) 0 .none) (fun _ s'=>E (.ref e) s') E { s with heap:=g,toks:=k }:=fun g e k zz kk ⟨oe,q1,q2⟩=>by
  have ne:e≠z:=fun y=>by subst y;rw[zz]at q1;cases q1;simp at q2
  exact aeV zz (by simp) fun g' _ bb=>hE g' e k (fun c o c1 c2 c3 c4 q=>bb.extBut _ _ c1 (kk c o c1 c2 c3 c4 q)) ⟨oe,bb.extBut _ _ ne q1,q2⟩
 rcases l with l|⟨l1,l⟩
 .subst l;refine(show wpAny (model prog w) A (Builtin.SmallTypes.nextOf (.ref i1) >>= _) _ _ _ from ac0 (D1.done _ _ _ (Draws.but D1 s1 b1.extBut Z.z1) fun g2 e b2 q=>?_));exact go g2 e _ (b2 _ _ (aem Z.a3) zg) (fun c o c1 _ c3 _ q=>b2 _ _ c3 (b1.extBut _ _ c1 q)) q
 .subst l;refine(show wpAny (model prog w) A (Builtin.SmallTypes.nextOf (.ref i1) >>= _) _ _ _ from ac0 (D1.item j _ _ _ l1 (Draws.but D1 s1 b1.extBut Z.z1) fun x g2 k2 px t1 b2=>adf ?_));have to2:IsPair g2 to a b:=b2.extBut _ _ Z.a8 (b1.extBut _ _ Z.a2 Yz);refine ac0 (aer to2 rfl (ac0 (agl to2 fun g3 to3 b3=>ac0 (ahx (adf ?_)))));dsimp only;rw[aeF];refine ac0 (ac0 (agU ?_));refine(show wpAny (model prog w) A (Builtin.SmallTypes.nextOf (.ref i2) >>= _) _ _ _ from ac0 (D2.done _ _ _ (Draws.but D2 (Draws.but D2 (Draws.but D2 s2 b1.extBut Z.z2) b2.extBut Z.o2) b3.extBut Z.t2) fun g4 e b4 q=>?_));exact go g4 e _ (b4 _ _ (aem Z.a4) (b3.extBut _ _ (aem Z.a2) (b2.extBut _ _ (aem Z.a3) zg))) (fun c o c1 c2 c3 c4 q=>b4 _ _ c4 (b3.extBut _ _ c2 (b2.extBut _ _ c3 (b1.extBut _ _ c1 q)))) q
def FE{a b:Value}{Q:Option Value->Shared->Prop}(Z:ZG z ti to i1 i2 f1 f2)(D1:Draws prog w A.in1 i1 f1 n1 P1 S1)(D2:Draws prog w A.in1 i2 f2 n2 P2 S2)
  (hz:IsZip s.heap z ti to .none) (Ym:IsPair s.heap ti (.ref i1) (.ref i2)) (Yz:IsPair s.heap to a b) (s1:S1 j s.heap) (s2:S2 j s.heap) (l1:j<n1) (l2:j<n2)
  (hQ:∀x y h' tk,P1 j x->P2 j y->IsZip h' z ti to (rawInt s.heap.objs.size)->IsPair h' to x y->S1 (j+1) h'->S2 (j+1) h'->IsPair h' s.heap.objs.size x y->h'.objs.size=s.heap.objs.size+1->
   (∀c o,c≠z->c≠to->c≠i1->c≠i2->s.heap.get? c=some o->h'.get? c=some o)->Q (some (.ref s.heap.objs.size)) { s with heap:=h',toks:=tk }):wpAny (model prog w) A (pyNext (.ref z)) Q E s:=by
 have ty:s.TypeIs (.ref z) "zip":=⟨_,hz,rfl⟩
 unfold pyNext;exact ac0 (agV (aef (name:="__next__") ty F.slot_zip_next (aeU F.slot_zip_next ty F.entry_zip_next (DW Z D1 D2 hz Ym Yz s1 s2 l1 l2 fun x y h' tk p1 p2 q1 q2 q3 q4 q5 q6 q7=>adf (hQ x y h' tk p1 p2 q1 q2 q3 q4 q5 q6 q7)) (F.args_zip_next_1 _))))
def FX{a b:Value}{Q:Option Value->Shared->Prop}(Z:ZG z ti to i1 i2 f1 f2)(D1:Draws prog w A.in1 i1 f1 n1 P1 S1)(D2:Draws prog w A.in1 i2 f2 n2 P2 S2)
  (hz:IsZip s.heap z ti to .none) (Ym:IsPair s.heap ti (.ref i1) (.ref i2)) (Yz:IsPair s.heap to a b) (s1:S1 j s.heap) (s2:S2 j s.heap) (l:j=n1\/(j<n1/\j=n2))
  (hQ:∀h' tk,(∀c o,c≠z->c≠to->c≠i1->c≠i2->s.heap.get? c=some o->h'.get? c=some o)->Q none { s with heap:=h',toks:=tk }):wpAny (model prog w) A (pyNext (.ref z)) Q E s:=by
 have ty:s.TypeIs (.ref z) "zip":=⟨_,hz,rfl⟩
 unfold pyNext;refine ac0 (agV (aef (name:="__next__") ty F.slot_zip_next (aeU F.slot_zip_next ty F.entry_zip_next (Hk Z D1 D2 hz Ym Yz s1 s2 l ?_) (F.args_zip_next_1 _))));rintro h' e tk kk ⟨o,q1,q2⟩;exact ac0 (wpAny_isInstance (T:="StopIteration") (b:=true) ⟨o,q1,q2⟩ isSubtype_stop (adf (hQ _ _ kk)))
noncomputable def BA(a b:Value):Obj:={ cls:=.type "tuple",data:=.seq #[a,b] }
noncomputable def Na(a b:Addr):Obj:={ cls:=.type "zip",data:=.fields #[.none,.bool false,.bool false,.ref a,.ref b] }
end
section
variable{w:World}{s:Shared}
def Hl(n a b:Nat)(la:a<n)(lb:b<n):ZG (n+4) (n+2) (n+3) n (n+1) [n,a] [n+1,b]:=by
 have l:∀{i j:Nat},i<j->(n+i:Nat)≠n+j:=fun h=>aek (Nat.add_lt_add_left h n)
 have m:∀{x y z:Nat},x≠y->x≠z->x∉ [y,z]:=fun h1 h2 h=>by
  rcases ac8.mp h with q|q
  .exact h1 q
  .exact h2 (adl.mp q)
 have g:∀{i c:Nat},c<n->(n+i:Nat)≠c:=fun h=>aey (aeI h (ag3 n _));have d:∀{i j:Nat},i>j->(n+i:Nat)≠n+j:=fun h=>aem (l h)
 exact⟨l (i:=2) ⋯,l (i:=3) ⋯,l (i:=0) (j:=4) ⋯,l (i:=1) ⋯,l (i:=2) ⋯,d (i:=2) (j:=0) ⋯,d (i:=2) ⋯,d (i:=3) (j:=0) ⋯,d (i:=3) ⋯,
  m (d (i:=4) (j:=0) ⋯) (g la),m (d (i:=4) ⋯) (g lb),m (d (i:=3) (j:=0) ⋯) (g la),m (d (i:=3) ⋯) (g lb),m (d (i:=1) (j:=0) ⋯) (g la),m (l (i:=0) ⋯) (g (i:=0) lb)⟩
end
noncomputable def Yh:Y2->Y2->Y2
 |x::r,y::t=>.tup [x,y]::Yh r t
 |_,_=> []
section
variable{w w0:Wo}{fp:Zs}{b e it:Addr}{jts:Array Value}{xs ys:Y2}{J:Nat->Heap->Prop}
theorem Bg:∀(xs ys:Y2),(Yh xs ys).length=min xs.length ys.length
 |[],_=>by simp[Yh]
 |_::_,[]=>by simp[Yh]
 |x::r,y::t=>by simp[Yh,Bg r t]
def Bk(H:HR G w h)(f:∀b∈fp,∃o,Has w b o)(k:∀b o,b∉fp->w.s.heap.get? b=some o->s'.heap.get? b=some o)(ho:(s'.os=w.s.os)\1)(hg:(s'.gens=w.s.gens)\1):Pv fp w { w with s:=s' }/\HR G { w with s:=s' } h:=
 ⟨⟨ho,fun q=>hg▸q,fun _ _ e=>e,fun _ _ e=>e,⟨[],by simp⟩,fun b o n e=>⟨o,k b o n e⟩,fun b o n q=>⟨k b o n q.1,q.2⟩⟩,H.on fun b o e z=>k b o (fun q=>let⟨_,r⟩:=f b q;z r.2) e⟩
def Hp(H:HR G w h)(f:∀b∈fp,∃o,Has w b o)(n:w.s.heap.get? a=none)(k:∀b o,b∉fp->w.s.heap.get? b=some o->s'.heap.get? b=some o)(e:s'.heap.get? a=some o)(ho:(s'.os=w.s.os)\1)(hg:(s'.gens=w.s.gens)\1):Pv fp w ⟨iD w.F a o,w.O,w.m,s'⟩/\HR G ⟨iD w.F a o,w.O,w.m,s'⟩ h:=by
 obtain⟨x,y⟩:=Bk H f k ho hg;have na:∀{b o},w.s.heap.get? b=some o->b≠a:=fun q z=>by rw[z,n]at q;cases q
 have hF:=(H.free n).2.1;exact⟨⟨ho,fun q=>hg▸q,dw hF,fun _ _ e=>e,⟨[],by simp⟩,x.dom,fun b o n q=>let⟨q1,q2⟩:=x.keep b o n q;⟨q1,q2.1,dI (na q.1) q2.2.1,q2.2.2⟩⟩,y.freeze ⟨e,H.free n⟩⟩
variable{f:Ax}{ae be:Expr}
theorem Yg.of{tn:Nat->Heap->Prop}{tk:Nat}(I:Inv X w ρ h)(y:M8 X.fs WL w0 w)(kp:∀b o,w.s.heap.get? b=some o->h'.get? b=some o)(T:Hi X.toSC w tg xs it fp tn)(t:tn 0 h')(fr:∀b∈fp,w.s.heap.objs.size<=b/\∃o,h'.get? b=some o)(p:bG X (Yg X tg w0) w Q E (.ok xs h)):Q (.ref it) { w.s with heap:=h',toks:=tk }:=by
 have n:=Nw.also (X:=X) (s':={ w.s with heap:=h',toks:=tk }) I.toHR kp;refine p.2 _ _ n ⟨_,fp,tn,rfl,⟨T.keep,T.item,T.done,T.self⟩,t,fun b hb=>?_⟩;obtain⟨l,o,q⟩:=fr b hb
 have nb:w.s.heap.get? b=none:=by
  cases q:w.s.heap.get? b with
  |none=>rfl
  |some o=>exact absurd (aeI (adE q) l) (adR _)
 refine⟨⟨o,q,I.toHR.free nb⟩,I.out nb,?_⟩
 cases q:w0.s.heap.get? b with
 |none=>rfl
 |some o=>obtain⟨o',q'⟩:=y.dom _ _ q;rw[nb]at q';cases q'
end
section
variable{w w0:Wo}
theorem uV{F:Fz}{m:Zs}:∀{ls:Ya}{us:Z3},StrsAre us (ls.map S)->ay G F m (ls.map PV.str) us
 |[],_,.nil=>.nil
 |l::r,_,.cons _ t h=>.cons (.str l t) (uV h)
def Fb(hg:Gl X x)(hm:X.mg x=some (.ref a))(e:X.base.get? a=some { cls:=.type "tuple",data:=.seq its n })(z:its.size<=sizeLine)(s:StrsAre its.toList (ls.map S))(hd:nD0 x\2):RE X (.Name x pos) (cK (.tup (ls.map PV.str))):=rY hg hm (fun F m k=>.tup (k _ _ e) z (uV s)) hd
end
section
variable{w:Wo}
def qT{it:Ax}{M vs:Zl}{g:Gx}{y:Str}(j8:Y1)(hc:X.calm=true)(S:fZ X.N X.env.scope scope j8 vs M)(hi:RI X tg iter it)(hg:∀cl C,RG (br X M scope cl C) tg g)(ht:∀cl C,Ys (br X M scope cl C) ifs tt)(he:∀cl C,RE (br X M scope cl C) elt te)
  (gm:∀q cp ρ1,g q (List.replicate vs.length none++cp)=some ρ1->∃l,l.length=vs.length/\ρ1=l++cp) (hy:X.N[iy]? =some y) (Zi:X.env.scope.names.lookup y=some .local) (Zg:swapsWith (.ListComp elt [⟨tg,iter,ifs,0⟩] scope pos) (some (.Name y py)) T6.line X.env=pure true)
  (hs:(∀y,foldedSetIterable iter X.env y=pure y)\3):RS X (.Assign [.Name y py] (.ListComp elt [⟨tg,iter,ifs,0⟩] scope pos) T6) (aH iy (cN tM (eT vs.length g j8 it tt te))):=⟨fun{w0 ρ h Q E} I p=>by
 rw[ahm _ _ _ _ Zg];refine ac0<|agj<|ac0 ?_
 show wpAny _ X.A (comprehension (.ListComp elt [⟨tg,iter,ifs,0⟩] scope pos) scope X.env _ (newList []) false (eval iter X.env) (some (assign (.Name y py) X.env)) >>= fun _=>pure ()) _ _ w0.s;refine ac0<|aea (afJ (use:=some (assign (.Name y py) X.env)) (Q:=fun _ s'=>Q .next s') rfl hs (jE fun n hn=>I.ok.has n (S.free _ hn rfl)) S.kind S.names ?_) (fun _ _ z=>adf (adf z)) fun _ _ z=>z
 have p:bp X w0 Q E (gB (it ρ h) fun xs h1=>gB (if xs.length<sizeLine then(eU g tt te (List.replicate vs.length none++bX j8 ρ) xs h1).calm else .bad) fun ps h2=>gB (tM ps h2) fun v h3=>.nx (ρ.set iy (some v)) h3):=by
  unfold aH eY cN eT at p
  cases e:it ρ h with
  |ok xs h1=>
   rw[e]at p
   revert p
   show bp X w0 Q E (gB (((if xs.length<sizeLine then(eU g tt te (List.replicate vs.length none++bX j8 ρ) xs h1).calm else .bad):Res Y2).bind tM) _)->bp X w0 Q E (gB (if xs.length<sizeLine then(eU g tt te (List.replicate vs.length none++bX j8 ρ) xs h1).calm else .bad) _);generalize(if xs.length<sizeLine then(eU g tt te (List.replicate vs.length none++bX j8 ρ) xs h1).calm else .bad:Res Y2)=rr
   cases rr<;>exact id
  |exc _ _=>rw[e]at p;exact p
  |bad=>rw[e]at p;exact p
 refine hi.r I (bp.e0 p I fun w h1 xs v y0 I1 rr p=>?_)
 split at p
 .rename_i hz
  refine qD (use:=some (assign (.Name y py) X.env)) (Q:=fun _ s=>Q .next s) (K:=fun ps h=>bp X w0 Q E (gB (tM ps h) fun v h3=>.nx (ρ.set iy (some v)) h3)) j8 hc S hg ht he gm I y0 rr hz (by
   revert p
   cases eU g tt te (List.replicate vs.length none++bX j8 ρ) xs h1<;>first|exact id|exact fun z=>bp.ep z |>.elim) fun{w2 h2 ps its D C oC m} y2 H2 nD nC DC hl n l f ra z k=>?_
  obtain⟨nn,e1⟩:=l;have sb:Sub w2.m (w2.m++ [D]):=fun i b e=>by rw[ady (ac9.mp e).1];exact e
  have n3:=Nw.track (X:=X) (w:=w0) (w1:=w2) ⟨y2,H2⟩ nD ⟨e1,f⟩ (po:=.lst ps) ⟨f.2.1,its,nn,e1,z,ra.mono (fun _ _ e=>e) (.inr sb)⟩;have I3:=I.on n3;have aC:=I.out nC;show wpAny _ X.A (assign (.Name y py) X.env (.ref D)) _ _ w2.s;refine agP (I3.store (w:=⟨w2.F,w2.O,w2.m++ [D],w2.s⟩) hy (.inl Zi) (p:=.ref h2.length) (.ref (by rw[H2.len];simp)) fun w4 y4 I4=>?_);obtain⟨sl,hC,zz⟩:=y4.keep C oC ⟨hl.1,fun z=>(adv.mp z).elim hl.2.1 fun z=>DC (by simp at z;exact z.symm),hl.2.2⟩ aC.w;refine⟨m,tG n fun o e=>by rw[hl.1]at e;cases e;exact⟨sl,hC.1⟩,fun h' sb'=>?_⟩;obtain⟨a1,a2⟩:=pS (s':={ w4.s with heap:=h' }) I4.toHR hC fun b o z e=>(sb'.2 b z).trans e;exact k.2 _ ((n3.s.trans y4).priv a1 (by simp;exact nC)) (I4.priv a1 a2 (by simp;exact aC))
 .exact p.elim⟩
end
section
open PySem.Builtin
abbrev ww(b:Bool):Obj:={ cls:=.type "set",dict:=none,data:=.set #[] 0 (.fresh 0 0 b) }
section
variable{κ:Type} [DecidableEq κ]
noncomputable def rP(σ:List κ)(k:κ):List κ:=if k∈σ then σ else σ++[k]
def eK(f:Nat->κ):Nat->List κ
 |0=> []
 |n+1=>rP (eK f n) (f n)
def yR{σ:List κ}{k x:κ}:x∈rP σ k↔x∈σ\/x=k:=by
 unfold rP
 split
 .rename_i h;exact⟨.inl,fun z=>z.elim id fun e=>e▸h⟩
 .rw[adv,adl]
def yU(σ:List κ)(k:κ):(rP σ k).length=if k∈σ then σ.length else σ.length+1:=by
 unfold rP
 split
 .rfl
 .rw[acZ,adF]
theorem vq(f:Nat->κ)(n:Nat):(eK f n).length<=n:=by
 induction n with
 |zero=>exact acY _
 |succ n ih=>
  show(rP _ _).length<=_;rw[yU]
  split<;>lia
abbrev inK(σ:List κ)(k:κ):Bool:=decide (k∈σ)
end
section
variable{w:World}{it:Addr}{fp wr:Zs}{G:Array GenState->Array GenState->Prop}{Pn:Nat->Value->Prop}{St:Nat->Shared->Prop}
def yd{h:Heap}{f:Str->Bool}{c:Nat}(e:∀o,h.get? a=some o->h'.get? a=some o)(z:h.SetOf (strKind P w) a f c):h'.SetOf (strKind P w) a f c:=by obtain⟨o,es,ep,t,q,rest⟩:=z;exact⟨o,es,ep,t,e o q,rest⟩
theorem ye(W:WalksS P w A.in1 it fp wr G n Pn St)(a:Addr)(out:a∉fp)(f:Nat->Str)(txt:∀i v,Pn i v->∃t,v=.str (f i) t)(few:n+1<scanBound)(r:Nat):
  ∀(i:Nat)(s:Shared),i+r=n->St i s->s.heap.SetOf (strKind P w) a (inK (eK f i)) (eK f i).length->
   (∀s',Moved (a::wr) G s s'->s'.heap.SetOf (strKind P w) a (inK (eK f n)) (eK f n).length->R (.ok (.ret .none)) s')->
   codeAny (model P w) A (.builtin "set.update.loop" ⟨[.ref a,.ref it],[]⟩) R s:=by
 have aw:a∉wr:=fun z=>out (W.sub _ z);have tl:∀b∈wr,b∈a::wr:=fun _ z=>ac1 _ z
 induction r with
 |zero=>intro i s e st so k;obtain rfl:i=n:=e;apply ae2 F.entry_set_update_loop;rw[aeN F.plain_set_update_loop _];apply ac0 (m:=pyNext (.ref it));exact W.done s _ _ st fun s' mv=>adf (k s' (mv.mono tl) (yd (fun o q=>mv.heap a o aw q) so))
 |succ r ih=>
  intro i s e st so k;apply ae2 F.entry_set_update_loop;rw[aeN F.plain_set_update_loop _];apply ac0 (m:=pyNext (.ref it));refine W.item i s _ _ ⋯ st fun v s' hv v5 mv=>?_;obtain⟨t,rfl⟩:=txt i v hv;have so':=yd (h':=s'.heap) (fun o q=>mv.heap a o aw q) so;apply ac0 (m:=holding [Value.str (f i) t] (setAdd a (.str (f i) t)));apply aes;unfold setAdd;apply aes;apply ac0;apply (strKind P w).pyHash (strKind_is P w (f i) t);have room:=vq f i;refine wpAny_setAddHashed_of (knd:=strKind P w) (strKind_is _ _ _ _) rfl so' ⋯ fun h' sb so2=>adf ⟨agk F.plain_set_update_loop _,?_⟩;have other:∀b,b≠a->∀o,s'.heap.get? b=some o->h'.get? b=some o:=fun b ne o q=>(sb.2 b ne).trans q
  have next:h'.SetOf (strKind P w) a (inK (eK f (i+1))) (eK f (i+1)).length:=by
   refine SetOf_congr so2 (fun x=>?_) ?_
   .rw[aei,ad8,decide_eq_true_eq,decide_eq_true_eq,decide_eq_true_eq];exact yR.symm
   .show _=(rP _ _).length;rw[yU];simp only[decide_eq_true_eq]
  refine ih (i+1) _ ⋯ (W.frame _ s' _ _ v5 (afA _) fun b hb o q=>other b (fun z=>out (z▸hb)) o q) next fun s2 mv2 so3=>k s2 ?_ so3;exact Moved.trans W.gtrans ((mv.mono tl).then_heap (afA _) fun b o hb q=>other b (fun z=>hb (z▸ac4)) o q) mv2
end
section
variable{w:World}{s:Shared}
theorem wf:∀{zs:Zl}{us:Z3},StrsAre us zs->∀(i:Nat)(v:Value),us[i]? =some v->∃t,v=.str (zs.getD i Str.empty) t
 |_,_,.nil,_,_,e=>by simp at e
 |_,_,.cons y tk r,0,v,e=>by cases e;exact⟨tk,rfl⟩
 |_,_,.cons y tk r,i+1,v,e=>by simpa using wf r i v (by simpa using e)
abbrev Hg(P:Program)(w:World)(s:Shared)(a:Addr)(zs:Zl)(n:Nat)(h':Heap):Prop:=
 h'.SetOf (strKind P w) a (inK (eK (fun i=>zs.getD i Str.empty) n)) (eK (fun i=>zs.getD i Str.empty) n).length/\∀b o,b<a->s.heap.get? b=some o->h'.get? b=some o
theorem Ew{zs:Zl}(hh:A.handled=none)(ht:t="list"\/t="tuple")(hl:∃n,s.heap.get? l=some { cls:=.type t,data:=.seq its n })(r:StrsAre its.toList zs)(few:its.size+1<scanBound):
  codeAny (model P w) A (.call (.builtin "set.__init__") ⟨[.ref s.heap.objs.size,.ref l],[]⟩)
   (wants (fun u s2=>u=.none/\∃h' tk,s2= { s with heap:=h',toks:=tk }/\Hg P w s s.heap.objs.size zs its.size h') E) { s with heap:=s.heap.push (ww b) }:=by
 have TX:(s.heap.push (ww b)).get? s.heap.objs.size=some (ww b):=ado _ rfl;refine agm F.called_set.init.plain F.entry_set_init (check_set_init_1 ⟨_,TX,rfl⟩ ?_);obtain⟨c,q⟩:=hl;have q':(s.heap.push (ww b)).get? l=some { cls:=.type t,data:=.seq its c }:=ada _ q;have ll:l<s.heap.objs.size:=adE q;have sz:(s.heap.push (ww b)).objs.size=s.heap.objs.size+1:=aew _ _
 have ne1:l≠(s.heap.push (ww b)).objs.size:=fun z=>by rw[sz]at z;exact adR _ (Nat.lt_trans (z▸ll) (ad6 _))
 have out:s.heap.objs.size∉ [(s.heap.push (ww b)).objs.size,l]:=by
  intro z;rcases ac8.mp z with z|z
  .rw[sz]at z;exact aek (ad6 _) z
  .exact aey ll (adl.mp z)
 have n1:isSubtype (.type t) (.type "set")=pure false:=ht.elim (· ▸F.sub_list_set) (· ▸F.sub_tuple_set);have n2:isSubtype (.type t) (.type "frozenset")=pure false:=ht.elim (· ▸F.sub_list_frozenset) (· ▸F.sub_tuple_frozenset);have n3:(Value.type t==Value.type "dict")=false:=by rcases ht with rfl|rfl<;>decide
 have hA:A.in1.in1.handled=none:=by simp[hh]
 unfold Builtin.«set.__init__» noKeywords Builtin.Frozenset.updateFrom;generalize gi:pyIter=iter
 wp_walk
 subst gi;rcases ht with rfl|rfl
 all_goals first|apply afv ⟨_,q',rfl,c,rfl⟩|apply agD ⟨_,q',rfl,c,rfl⟩
 all_goals refine ac0<|wpAny_runValue ?_
 all_goals first
  |refine ye ((aiw (prog:=P) (w:=w) hA _ l ne1 its).toS) s.heap.objs.size out (fun i=>zs.getD i Str.empty) (fun i v z=>wf r i v (by rw[afu];exact z)) few its.size 0 _ (af3 _) ⟨⟨_,ado _ rfl,rfl,rfl⟩,⟨_,ada _ q',rfl,c,rfl⟩⟩ ?_ ?_
  |refine ye ((aiF (prog:=P) (w:=w) hA _ l ne1 its).toS) s.heap.objs.size out (fun i=>zs.getD i Str.empty) (fun i v z=>wf r i v (by rw[afu];exact z)) few its.size 0 _ (af3 _) ⟨⟨_,ado _ rfl,rfl,rfl⟩,⟨_,ada _ q',rfl,c,rfl⟩⟩ ?_ ?_
 all_goals first
 |exact SetOf_congr ((setObjOf_fresh (knd:=strKind P w) b).setOf (ada _ TX) ⋯) (fun _=>rfl) rfl
 |skip
 all_goals
  rintro⟨h',g',d',t',o'⟩ mv so
  obtain rfl:g'=s.gens:=mv.gens;obtain rfl:d'=s.drawn:=mv.drawn;obtain rfl:o'=s.os:=mv.os;apply adf;refine adf ⟨rfl,h',t',rfl,so,fun x o hx e=>mv.heap x o (fun z=>?_) (ada _ (ada _ e))⟩;rcases ac8.mp z with z|z
  .exact aek hx z
  .have z:=adl.mp z;rw[sz]at z;exact aek (ae5 hx) z
def wv{zs:Zl}(hh:A.handled=none)(ht:t="list"\/t="tuple")(hl:∃n,s.heap.get? l=some { cls:=.type t,data:=.seq its n })(r:StrsAre its.toList zs)(few:its.size+1<scanBound)
  (k:∀(h':Heap)(tk:Nat),Hg P w s s.heap.objs.size zs its.size h'->Q (.ref s.heap.objs.size) { s with heap:=h',toks:=tk }):wpAny (model P w) A (call (.type "set") [.ref l]) Q E s:=by
 have C:=F.called_set;obtain⟨_,_,c1⟩:=C.mro;have c2:=C.made;have c3:=C.sub;have c4:=C.notType;have c5:=C.canCreate;have c6:=F.typeCall_set_1 (.ref l);have c7:=C.init.lookup;have c8:=C.init.bind (.ref s.heap.objs.size);apply agd;apply codeAny_of_tree;show wpAny _ _ (callAny (.type "set") ⟨[.ref l],[]⟩) _ _ _;apply adf;refine And.intro (agI _ (by decide+kernel))<|ae2 F.entry_type_call ?_
 rw[Around.under_plain (weight_type_call_type "set" [.ref l] []) rfl]
 repeat any_goals first|assumption|wp_step
 refine afZ (R:=wants (fun o s1=>∃b:Bool,o=.ref s.heap.objs.size/\s1= { s with heap:=s.heap.push (ww b) }) E) (code_set_new_1 _ fun b=>⟨b,rfl,rfl⟩) fun res s1 z=>?_;rcases res with e|(o|_|_|_)<;>first|exact z|exact z.elim|skip
 obtain⟨b,rfl,rfl⟩:=z;have isS:Shared.TypeIs { s with heap:=s.heap.push (ww b) } (.ref s.heap.objs.size) "set":=⟨_,ado _ rfl,rfl⟩
 repeat any_goals first|assumption|wp_step
 refine afZ (Ew (E:=E) (by simp[hh]) ht hl r few) fun acJ s2 z2=>?_;rcases acJ with e|(o|_|_|_)<;>first|exact z2|exact z2.elim|skip
 obtain⟨rfl,h',tk,rfl,fin⟩:=z2
 repeat any_goals first|assumption|wp_step
 exact k h' tk fin
end
end
theorem EA(f:Nat->Y1):∀n,eK (fun i=>S (f i)) n=(eK f n).map S
 |0=>rfl
 |n+1=>by
  show rP (eK (fun i=>S (f i)) n) (S (f n))=(rP (eK f n) (f n)).map S;rw[EA f n];unfold rP
  have:S (f n)∈(eK f n).map S↔f n∈eK f n:=by
   constructor
   .intro h;obtain⟨x,hx,e⟩:=adM.mp h;rw[<- zO e];exact hx
   .exact fun h=>adM.mpr ⟨_,h,rfl⟩
  by_cases q:f n∈eK f n
  .rw[if_pos q,if_pos (this.mpr q)]
  .rw[if_neg q,if_neg (fun z=>q (this.mp z)),adi];rfl
def rG(ls:Ya):Nat:=(eK (fun i=>ls.getD i []) ls.length).length
def KF(ls:Ya):(eK (fun i=>(ls.map S).getD i Str.empty) (ls.map S).length).length=rG ls:=by
 have:(fun i=>(ls.map S).getD i Str.empty)=fun i=>S (ls.getD i []):=by
  funext i
  rw[adA,adA,adO]
  cases ls[i]? <;>rfl
 rw[this,ac2,EA,ac2];rfl
def Ih(p:PV)(h:Y3):Res PV:=match W9 h p with
 |some xs=>match gz xs with
  |some ls=>if ls.length+1<scanBound then .ok (.int (rG ls:Nat)) h else .bad
  |none=>.bad
 |none=>.bad
section
variable{e:Expr}{f:Ex}{Yl:Pos}
theorem StrsAre.len:∀{us:Z3}{ys:Zl},StrsAre us ys->us.length=ys.length
 |_,_,.nil=>rfl
 |_,_,.cons _ _ r=>by simp[StrsAre.len r]
end
section
open PySem.W PySem.Calls
theorem rL{P:Params}{h:Heap}:∀(ns:List Int)(vs:Z3),WellAll P h vs (ns.map WData.int)->IntsAre vs ns:=by
 intro ns
 induction ns with
 |nil=>
  intro vs w;rw[adT]at w
  cases w
  exact .nil
 |cons n ns ih=>
  intro vs w;rw[ac5]at w
  cases w with
  |cons a b=>
   cases a
   exact .cons _ _ (ih _ b)
theorem CX{l:OpenLaw}(hn:l.most=some n){P:Params}{h:Heap}{args:List WData}{aav:Z3}
  (aad:l.row.toRowW.claim.pre args=true) (hwl:WellAll P h aav args):
  ∃a vs ns,aav= [Value.ref a]/\args= [WData.list (ns.map WData.int)]/\h.get? a=some { cls:=.type "list",data:=.seq vs.toArray }/\IntsAre vs ns/\ns.length<=n:=by
 have hsh:WShape.hasAll [] args [.list .int]=true:=(pre_splitW aad).1;have hc:l.pre.holds [] { args:=args }=true:=(pre_splitW aad).2;obtain⟨d,r,rfl,h1,h2⟩:=hasAllW_cons hsh;obtain rfl:=hasAllW_nil h2;obtain⟨xs,rfl,h3⟩:=hasW_list h1;obtain⟨ns,rfl⟩:=items_int h3
 have WD:ns.length<=n:=by
  unfold OpenLaw.pre at hc
  have h4:(WTm.not (.lt (.lit (.int (n:Int))) (.len (.arg 0)))).holds [] { args:=[.list (ns.map .int)] }=true:=by have h4:=(holds_andW hc).1;rw[hn]at h4;exact h4
  have h5:=condW_of h4 (w_not (w_lt w_lit (w_len_list (w_arg rfl))));rw[ac2]at h5;refine Nat.le_of_not_lt fun q=>?_;have q':(n:Int)<((ns.length:Nat):Int):=by lia
  first
   |(rw[decide_eq_true q']at h5;exact absurd h5 ⋯)
   |(simp at h5;lia)
 cases hwl with
 |cons w1 w2=>
  cases w2
  cases w1 with
  |list ho Zh=>exact⟨_,_,ns,rfl,rfl,ho,rL ns _ Zh,WD⟩
def Dh(l:OpenLaw)(args:List WData):l.row.toRowW.claim.post args (.bool true) args=true:=
 postW_of (r:=l.row.toRowW) (X:=(true==true))
  (show WShape.has [] (.bool true) .bool=true by first|rfl|decide|simp[WShape.has,WShape.arms,WShape.armsAll])
  (show(WTm.eq .res (.lit (.bool true))).value [] { args:=args,res:=some (.bool true),after:=args }=some (.bool (true==true))from w_eq_bool (w_res rfl) w_lit) rfl
def Xj{l:OpenLaw}{q:Program}{d:DefRec}
  (hn:l.most=some n) (hdf:d.params.defaults= [])
  (call:∀(w:World)(s₀ s₁:Shared)(mg mb:Str->Option Value)(fa:Addr)(o:Obj)(pm cd doc:Value)(a:Addr)(vs:Z3)(ns:List Int),
   Ground q loose [] XP w s₀ mg mb s₁.heap->YP w s₁.heap->
   s₁.heap.get? fa=some o->o.data=.func (docDef d.name d.params d.body d.scope pm cd doc)->s₁.heap.CodeRec cd d.name->mg d.name=some (.ref fa)->
   s₁.heap.get? a=some { cls:=.type "list",data:=.seq vs.toArray }->IntsAre vs ns->ns.length<=n->s₁.gens= #[]->
   codeAny (model l.prog w) callerA (.call (.ref fa) ⟨[.ref a],[]⟩) (fun r s'=>r=.ok (.ret (.bool true))/\OldK s₁.heap s'.heap/\s'.os=s₁.os/\AllBare s'.gens) s₁):
  WalkO q loose XP YP l.row.toRowW d [] (fun f vs=>PySem.call f vs):=by
 intro w s₀ s₁ mg mb G Y fa o pm cd doc dV kV ho hd Zz hD hmg hg args aav as aad agO hrd hwl hlo;obtain rfl:dV=.none:=Dflts.none hD hdf;obtain rfl:kV=.none:=Dflts.noKw hD;obtain⟨a,vs,ns,rfl,rfl,aaO,hints,WD⟩:=CX hn aad hwl;refine enter_call (afZ (call w s₀ s₁ mg mb fa o pm cd doc a vs ns G Y ho (fd_plain hd) Zz hmg aaO hints WD hg) fun r s' hq=>?_);obtain⟨rfl,h2,h3,h4⟩:=hq;exact⟨.inl ⟨.bool true,.bool true,[],rfl,fun _=>rfl,.bool true,Dh l _,fun _=>⟨List.Pairwise.nil,fun _ hm=>(nomatch hm)⟩⟩,h2,h3,h4⟩
end
def cx0(G:SC):Cx:={ G with A:=callerA,N:=[],env:=envOfC "" { kind:=.function,names:=[],isGenerator:=false,isCoroutine:=false } 0 0 .none,stack:=[],fn:=fun _=>true,calm:=true,tr:=true,Ep:=fun _=>True }
theorem uW{G:SC}{F:Fz}{m:Zs}:∀{vs:Z3}{ns:List Int},IntsAre vs ns->ay G F m (ns.map PV.int) vs
 |_,_,.nil=>.nil
 |_,_,.cons i t r=>.cons (.int i t) (uW r)
def FW{w:World}{K:PySem.W.Frag}{mg mb:Str->Option Value}{T:Nat->Option Addr}{fa:Addr}{fd:FuncData}{fn:Y2->Z.Out}{s₁:Shared}{vs:Z3}{ns:List Int}
  (KX:K.In s₁.heap) (hns:s₁.heap.Ns mainGlobals mg) (hb:s₁.heap.Ns builtinsNs mb) (hbb:∀x:Str,x≠"__name__"->mb x=bootBuiltins x) (adg:s₁.heap.NoLimit) (hg:s₁.gens= #[])
  (ha:s₁.heap.get? a=some { cls:=.type "list",data:=.seq vs.toArray }) (hi:IntsAre vs ns) (hl:ns.length<=sizeLine) (hr:fC k callerA)
  (F:Zt ⟨P,w,K,mg,s₁.heap,T⟩ k fa fd [x] fn) (abQ:∀(s:Shared)(u:Value),BindsTo s fd ⟨[u],[]⟩ [(x,u)]) (hsp:fn [.VB (ns.map PV.int)]=.ok (.bl true)):
  codeAny (model P w) callerA (.call (.ref fa) ⟨[.ref a],[]⟩) (fun r s'=>r=.ok (.ret (.bool true))/\OldK s₁.heap s'.heap/\s'.os=s₁.os/\AllBare s'.gens) s₁:=by
 have ok:(cx0 ⟨P,w,K,mg,s₁.heap,T⟩).Ok:=⟨KX,hns,⟨mb,hb,hbb⟩,adg,rfl,rfl,rfl,fun x y c e=>(nomatch e),fun x e=>(by rcases e with e|e<;>cases e),fun _=>rfl,rfl,.nil,fun e he=>(nomatch he)⟩
 have W:Wd (cx0 ⟨P,w,K,mg,s₁.heap,T⟩) ⟨fun b=>s₁.heap.get? b,fun _=>none,[],s₁⟩ []:=⟨⟨fun _ _ e=>e,fun _ _ e=>(nomatch e),rfl,.nil,fun _ _ _ e=>(nomatch e)⟩,.of_eq hg,fun _ _ e=>e,fun b hb=>(nomatch hb)⟩
 refine afZ (F.run (X:=cx0 ⟨P,w,K,mg,s₁.heap,T⟩) (w:=⟨fun b=>s₁.heap.get? b,fun _=>none,[],s₁⟩) (h:=[]) (us:=[.ref a]) (Q:=fun v s'=>v=.bool true/\OldK s₁.heap s'.heap/\s'.os=s₁.os/\AllBare s'.gens) (E:=fun _ _=>False) rfl hr rfl rfl W ok (.cons (.VB ha (by simpa[hi.length]using hl) (by simpa using uW hi)) .nil) hsp (abQ s₁ (.ref a)) fun F' s' u n r=>?_) fun r s' h=>?_
 .cases r
  exact⟨rfl,OldK.of_keep fun b o e=>n.2.sub b o (n.1.fz b o e),n.1.os,n.1.ba (.of_eq hg)⟩
 .cases r with
  |error e=>exact h.elim
  |ok fl=>
   cases fl with
   |ret u=>obtain⟨rfl,z⟩:=h;exact⟨rfl,z⟩
   |_=>exact False.elim h
def FU{l:W.OpenLaw}{q:Program}{d:DefRec}{K:Params->W.Frag}{fn:Y2->Z.Out}(hn:l.most=some 63)(hdf:d.params.defaults= [])(hr:fC k callerA)
  (hY:∀(w:World)(h:Heap),YP w h->(K w.params).In h) (law:∀ns:List Int,ns.length<=63->fn [.VB (ns.map PV.int)]=.ok (.bl true))
  (F:∀(w:World)(mg:Str->Option Value)(fa:Addr)(h:Heap),(K w.params).In h->h.Ns mainGlobals mg->mg d.name=some (.ref fa)->
   ∃(fd:FuncData)(T:Nat->Option Addr),(∀(s:Shared)(u:Value),BindsTo s fd ⟨[u],[]⟩ [(x,u)])/\Zt ⟨l.prog,w,K w.params,mg,h,T⟩ k fa fd [x] fn):
  W.WalkO q loose XP YP l.row.toRowW d [] (fun f vs=>PySem.call f vs):=by
 refine Z.Xj hn hdf fun w s₀ s₁ mg mb fa o pm cd doc a vs ns G Y ho hd Zz hmg aaO hints WD hg=>?_;have KX:=hY w _ Y;obtain⟨fd,T,hb,hF⟩:=F w mg fa _ KX G.T.g hmg;exact FW KX G.T.g G.T.b G.T.builtins G.T.nolimit hg aaO hints (adu WD ⋯) hr hF hb (law ns WD)
def cD(tt:Tx)(te:Ex)(cp:Ev):Y2->Y3->Res Y2
 |[],h=>.ok [] h
 |p::r,h=>(tt (some p::cp) h).bind fun b h1=>if b=true then(te (some p::cp) h1).bind fun v h2=>(cD tt te cp r h2).bind fun vs h3=>.ok (v::vs) h3 else cD tt te cp r h1
def cW(j8:Y1)(it:Ax)(tt:Tx)(te:Ex):Ax:=fun ρ h=>(it ρ h).bind fun xs h1=>if xs.length<sizeLine then(cD tt te (bX j8 ρ) xs h1).calm else .bad
def fY(tt:Tx)(te:Ex)(cp:Ev):Y2->Y3->Res Y2
 |[],h=>.ok [] h
 |.tup [p1,p2]::r,h=>(tt (some p1::some p2::cp) h).bind fun b h1=>if b=true then(te (some p1::some p2::cp) h1).bind fun v h2=>(fY tt te cp r h2).bind fun vs h3=>.ok (v::vs) h3 else fY tt te cp r h1
 |_,_=>.bad
def gT(j8:Y1)(it:Ax)(tt:Tx)(te:Ex):Ax:=fun ρ h=>(it ρ h).bind fun xs h1=>if xs.length<sizeLine then(fY tt te (bX j8 ρ) xs h1).calm else .bad
theorem xA(tt:Tx)(te:Ex)(cp:Ev):∀xs h,eU (N6 0) tt te (List.replicate 1 none++cp) xs h=cD tt te cp xs h
 |[],h=>rfl
 |p::r,h=>by simp only[cD,<- xA tt te cp r];rfl
abbrev g2:Gx:=Zj 2 (fO (N6 0) (fO (N6 1) pB))
theorem xz(tt:Tx)(te:Ex)(cp:Ev):∀xs h,eU g2 tt te (List.replicate 2 none++cp) xs h=fY tt te cp xs h
 |[],h=>rfl
 |.tup [p1,p2]::r,h=>by simp only[fY,<- xz tt te cp r];rfl
 |.tup []::r,h=>rfl
 |.tup [_]::r,h=>rfl
 |.tup (_::_::_::_)::r,h=>by simp[eU,fY,Zj]
 |.non::r,h|.bl _::r,h|.int _::r,h|.str _::r,h|.ty _::r,h|.cls _::r,h|.lst _::r,h|.VB _::r,h|.dct _::r,h|.ins _ _::r,h|.ref _::r,h|.exc _::r,h|.Wn _ _::r,h=>rfl
section
variable{e a b:Expr}{f:Ex}{fs it:Ax}{tp:Pos}{y:Str}{M:Zl}
def Lf(ha:RE X a fa)(hb:RE X b fb):RE X (.BinOp a .Mult b pos) (c2 nR fa fb):=yw (fun{w h p q u v Q E} I rp rq k=>NP I rp rq (by
 unfold Fp
 split
 .exact k.elim
 .exact k)) ha hb
def Mr(q:PV)(cp ρ1:Ev)(e:g2 q (List.replicate 2 none++cp)=some ρ1):∃l:Ev,l.length=2/\ρ1=l++cp:=by
 unfold g2 Zj at e
 split at e
 .rename_i ps
  split at e
  .rename_i z
   obtain⟨a,b,rfl⟩:∃a b,ps= [a,b]:=by
    match ps,z with
    |[a,b],_=>exact⟨a,b,rfl⟩
   cases e
   exact⟨[some a,some b],rfl,rfl⟩
  .cases e
 .cases e
def HN(S:fZ X.N X.env.scope scope j8 [x] M)(hi:RI X (.Name x tp) iter it)(ht:∀cl C,Ys (br X M scope cl C) ifs tt)(he:∀cl C,RE (br X M scope cl C) elt te)(hc:(X.calm=true)\1)(hg:(∀cl C,RG (br X M scope cl C) (.Name x tp) (N6 0))\8)
  (hs:(∀y,foldedSetIterable iter X.env y=pure y)\3):RE X (.ListComp elt [⟨.Name x tp,iter,ifs,0⟩] scope pos) (cN T3 (cW j8 it tt te)):=by
 have q:=Pf (pos:=pos) j8 hc S hi hg ht he Cs Ms hs;have z:eT 1 (N6 0) j8 it tt te=cW j8 it tt te:=by funext ρ h;simp only[eT,cW,xA]
 exact z▸q
def Fd{Yk Yj:Pos}(S:fZ X.N X.env.scope scope j8 [x,y] M)(hi:RI X (.Tuple [.Name x tp,.Name y Yk] k Yj) iter it)(ht:∀cl C,Ys (br X M scope cl C) ifs tt)(he:∀cl C,RE (br X M scope cl C) elt te)(hc:(X.calm=true)\1)(hg:∀cl C,RG (br X M scope cl C) (.Tuple [.Name x tp,.Name y Yk] k Yj) g2:=by exact fun _ _=>wH rfl (iX gU (iX gU rX)))
  (hs:(∀y,foldedSetIterable iter X.env y=pure y)\3):RE X (.ListComp elt [⟨.Tuple [.Name x tp,.Name y Yk] k Yj,iter,ifs,0⟩] scope pos) (cN T3 (gT j8 it tt te)):=by
 have q:=Pf (pos:=pos) j8 hc S hi hg ht he Cs Mr hs;have z:eT 2 g2 j8 it tt te=gT j8 it tt te:=by funext ρ h;simp only[eT,gT,xz]
 exact z▸q
def yn(S:fZ X.N X.env.scope scope j8 [x] M)(hi:RI X (.Name x tp) iter it)(ht:∀cl C,Ys (br X M scope cl C) ifs tt)(he:∀cl C,RE (br X M scope cl C) elt te)(hy:X.N[iy]? =some y)(Zi:X.env.scope.names.lookup y=some .local)(Zg:swapsWith (.ListComp elt [⟨.Name x tp,iter,ifs,0⟩] scope pos) (some (.Name y py)) T6.line X.env=pure true)(hc:(X.calm=true)\1)(hg:(∀cl C,RG (br X M scope cl C) (.Name x tp) (N6 0))\8)
  (hs:(∀y,foldedSetIterable iter X.env y=pure y)\3):RS X (.Assign [.Name y py] (.ListComp elt [⟨.Name x tp,iter,ifs,0⟩] scope pos) T6) (aH iy (cN tM (cW j8 it tt te))):=by
 have q:=qT (pos:=pos) (py:=py) j8 hc S hi hg ht he Ms hy Zi Zg hs;have z:eT 1 (N6 0) j8 it tt te=cW j8 it tt te:=by funext ρ h;simp only[eT,cW,xA]
 exact z▸q
def rst{l:Y1}{j}(e:(x=S l)\9):RE X (.Constant (.str x) j pos) (cK (.str l)):=La l e
def ra1(ha:RE X e f)(hs:(starEach [e] X.env=(false,eval e X.env)::starEach [] X.env)\1):RA X [e] (af f ah):=rZ ha Aj hs
def req(hu:X.A.units+64<cLine)(ha:RE X a fa)(hb:RE X b fb):RE X (.Compare a [.Eq] [b] pos) (c2 o9 fa fb):=nL (NV hu) (Aq _) ha hb
def rte(hu:X.A.units+64<cLine)(ha:RE X a fa)(hb:RE X b fb):RT X (.Compare a [.Eq] [b] pos) (au (c2 o9 fa fb)):=lX (NV hu) (Aq _) ha hb
def zr(ha:RE X e f):Xk X [.Return (some e) pos] (aL f):=Br (KP ha)
def Qb{pos':Pos}(ha:RE X a fa)(hi:(X.N[i]? =some x)\1)(hx:(X.env.kindOf x=some .local\/(X.env.kindOf x=some .cell/\X.fn x=true))\10)(hs:(swapsWith a (some (.Name x pos')) pos.line X.env=pure false)\1):RS X (.Assign [.Name x pos'] a pos) (aH i fa):=KO hi hx ha hs
def zf{g:Gx}{fb:Sx}(hi:RI X tg iter it)(hg:RG X tg g)(hb:Xk X body fb)(hp:(∀E,X.Ep E->PassesOwn X.M X.A X.env E)\7)(hc:(X.calm=true)\1)(hs:(∀x,foldedSetIterable iter X.env x=pure x)\3):RS X (.For tg iter body [] pos) (oK it g fb):=KQ hp hc hi hg hb hs
structure J2(X:Cx)(e:Expr)(es:List Expr)(pos:Pos):Prop where
 a:starEach (e::es) X.env=(false,eval e X.env)::starEach es X.env
 b:(backTo pos (starEach es X.env)).any (·.1)=false
structure J3(X:Cx)(x:Str)(v:Value):Prop where
 a:bootBuiltins x=some v
 b:Gl X x
 c:x≠"__name__"
 d:(x==("__debug__":Str))=false
def zb{id:String}{g:Y2->Y3->Res PV}(o:Xl X (.builtin id) g)(hm:X.mg x=none)(ha:RA X (e::es) fs)(k:J3 X x (.builtin id)\6)(j:J2 X e es pos\4):RE X (.Call (.Name x p0) (e::es) [] pos) (cN g fs):=Ff o k.b hm k.a ha k.c k.d j.a j.b
def zt{id:String}{g:Y2->Y3->Res PV}(o:Xl X (.type id) g)(hm:X.mg x=none)(ha:RA X (e::es) fs)(k:J3 X x (.type id)\6)(j:J2 X e es pos\4):RE X (.Call (.Name x p0) (e::es) [] pos) (cN g fs):=Df o k.b hm k.a ha k.c k.d j.a j.b
def zty{n:String}(hm:X.mg x=none)(k:J3 X x (.type n)\6):RE X (.Name x pos) (cK (.ty n)):=KW k.b hm k.a k.c k.d
def zis{n:String}(hi:X.mg "isinstance"=none)(hm:X.mg x=none)(ha:RE X e f)(k:J3 X x (.type n)/\Gl X "isinstance"/\starEach [.Name x p1] X.env=(false,eval (.Name x p1) X.env)::starEach [] X.env:=by exact⟨⟨by decide+kernel,rfl,by decide,by decide⟩,rfl,rfl⟩)(j:J2 X e [.Name x p1] pos\4):RE X (.Call (.Name "isinstance" p0) [e,.Name x p1] [] pos) (cN gW (af f (af (cK (.ty n)) ah))):=zb Fw hi (rZ ha (rZ (zty hm k.1) Aj k.2.2) j.a) ⟨by decide+kernel,k.2.1,by decide,by decide⟩ j
def zl(hm:X.mg "len"=none)(ha:RE X e f)(hg:(Gl X "len")\1)(j:J2 X e [] pos\4):RE X (.Call (.Name "len" p0) [e] [] pos) (cN bK (af f ah)):=zb NR hm (ra1 ha j.a) ⟨by decide+kernel,hg,by decide,by decide⟩ j
def glS{l:Y1}(h:∃t,X.mg x=some (.str (S l) t))(hg:Gl X x\1)(hd:nD0 x\2):RE X (.Name x pos) (cK (.str l)):=let⟨_,h⟩:=h;rY hg h (fun _ _ _=>.str _ _) hd
def glI{i:Int}(h:∃t,X.mg x=some (.int i t))(hg:Gl X x\1)(hd:nD0 x\2):RE X (.Name x pos) (cK (.int i)):=let⟨_,h⟩:=h;rY hg h (fun _ _ _=>.int _ _) hd
def GT(S:SC)(x:Str)(ls:Ya):Prop:=∃a its n,S.mg x=some (.ref a)/\S.base.get? a=some { cls:=.type "tuple",data:=.seq its n }/\its.size<=sizeLine/\StrsAre its.toList (ls.map Z.S)
def glT(h:GT X.toSC x ls)(hg:Gl X x\1)(hd:nD0 x\2):RE X (.Name x pos) (cK (.tup (ls.map PV.str))):=let⟨_,_,_,a,b,c,d⟩:=h;Fb hg a b c d hd
theorem Zt.bad{G:SC}{k:Nat}{f:Addr}{fd:FuncData}{ps:Zl}:Zt G k f fd ps fun _=>.bad:=⟨fun _ _ h=>(nomatch h),fun _ _ _ _ _ _ _ h=>(nomatch h)⟩
theorem W4.bad{G:SC}{c:Bool}{k:Nat}{f:Addr}{fd:FuncData}{ps:Zl}:W4 G c k f fd ps fun _ _=>.bad:=⟨fun _ _ h=>absurd rfl h,fun _ _ _ _ _ _ _ _ h=>h.elim⟩
end
section
variable{w:Wo}
theorem HR.WQ{p:PV}{u:Value}{xs:Y2}(H:HR G w h)(r:aQ G w.F w.m p u)(e:WQ h p=some xs):∃t a its,(t="list"\/t="tuple")/\u=.ref a/\SqA w.s.heap t a its/\its.size<=sizeLine/\ay G w.F w.m xs its.toList:=by
 unfold Z.WQ at e
 split at e
 .cases e
  replace r:=H.sq r rfl
  obtain⟨a,its,e1,y,z,r⟩:=r;exact⟨_,a,its,.inr rfl,e1,y,z,r⟩
 .replace r:=H.sq r (gS e)
  obtain⟨a,its,e1,y,z,r⟩:=r;exact⟨_,a,its,.inl rfl,e1,y,z,r⟩
end
section
variable{w:World}
abbrev Bb(h:Heap)(z ti to:Addr)(f0 f1:Value):Prop:=h.get? z=some { cls:=.type "zip",data:=.fields #[f0,f1,.bool false,.ref ti,.ref to] }
end
section
variable{w:World}{s:Shared}{z ti to i1 i2:Addr}{f1 f2:Zs}{n1 n2:Nat}{P1 P2:Nat->Value->Prop}
theorem xN{oa:Obj}{Q:Bool->Shared->Prop}(hz:Bb s.heap z ti to (rawInt a) (.bool b))(ha:s.heap.get? a=some oa)(hQ:∀h',Bb h' z ti to (rawInt a) (.bool true)->Heap.SameBut z s.heap h'->Q false { s with heap:=h' }):
  wpAny (model prog w) A (Builtin.SmallTypes.ownedTupleIsFree (.ref z)) Q E s:=by
 refine(show wpAny (model prog w) A (field (.ref z) 0 >>= _) _ E s from ac0 (adW hz rfl (x:=rawInt a) rfl ?_));refine(show wpAny (model prog w) A (loadIfAlive ((a:Int).toNat) >>= _) _ E s from ac0 ?_)
 have al:∀{Q:Option Obj->Shared->Prop},Q (some oa) s->wpAny (model prog w) A (loadIfAlive ((a:Int).toNat)) Q E s:=fun{Q} h=>by
  have q:Q (s.heap.get? ((a:Int).toNat)) s:=by rw[aeo,ha];exact h
  exact fun _ _ _=>q
 refine al (afn (by simp) (ac0 (adW hz rfl (x:=.bool b) rfl ?_)))
 cases b with
 |true=>exact afn ⋯ (adf (hQ _ hz (Heap.SameBut.refl _ _)))
 |false=>exact ahy ⋯ (ac0 (aeV hz (by simp) fun g zg b1=>adf (hQ g zg b1)))
def DV{oa:Obj}(Z:ZG z ti to i1 i2 f1 f2)(D1:Draws prog w A i1 f1 n1 P1 S1)(D2:Draws prog w A i2 f2 n2 P2 S2)
  (hz:Bb s.heap z ti to (rawInt a) (.bool b)) (ha:s.heap.get? a=some oa) (Ym:IsPair s.heap ti (.ref i1) (.ref i2)) (s1:S1 j s.heap) (s2:S2 j s.heap) (l1:j<n1) (l2:j<n2)
  (hQ:∀x y h' tk,P1 j x->P2 j y->Bb h' z ti to (rawInt a) (.bool true)->S1 (j+1) h'->S2 (j+1) h'->IsPair h' s.heap.objs.size x y->h'.objs.size=s.heap.objs.size+1->
   (∀c o,c≠z->c≠i1->c≠i2->s.heap.get? c=some o->h'.get? c=some o)->Q (.ref s.heap.objs.size) { s with heap:=h',toks:=tk }):
  wpAny (model prog w) A (Builtin.«zip.__next__» ⟨[.ref z],[]⟩) (fun fin s'=>∃v,fin=.done (.ret v)/\Q v s') E s:=by
 refine(show wpAny (model prog w) A (field (.ref z) 2 >>= _) _ E s from ac0 (adW hz rfl (x:=.bool false) rfl ?_));refine(show wpAny (model prog w) A (field (.ref z) 3 >>= _) _ E s from ac0 (adW hz rfl (x:=.ref ti) rfl (ac0 (aer Ym rfl ?_))));refine(show wpAny (model prog w) A (Builtin.SmallTypes.ownedTupleIsFree (.ref z) >>= _) _ E s from ac0 (xN hz ha fun g1 zg b1=>?_));refine afn ⋯ (ac0 ?_);rw[<- ahY];show wpAny _ _ (forIn [Value.ref i1,.ref i2] _ _) _ _ _;rw[aeF];refine ac0 (ac0 (aes ?_));refine(show wpAny (model prog w) A (Builtin.SmallTypes.nextOf (.ref i1) >>= _) _ _ _ from ac0 (D1.item j _ _ _ l1 (Draws.but D1 s1 b1.extBut Z.z1) fun x g2 k2 px t1 b2=>adf (adf ?_)));dsimp only;rw[aeF];refine ac0 (ac0 (aes ?_));refine(show wpAny (model prog w) A (Builtin.SmallTypes.nextOf (.ref i2) >>= _) _ _ _ from ac0 (D2.item j _ _ _ l2 (Draws.but D2 (Draws.but D2 s2 b1.extBut Z.z2) b2.extBut Z.o2) fun y g3 k3 py t2 b3=>adf (adf ?_)));dsimp only;rw[aiz];refine adf (ac0 (wpAny_newTuple (hsz:=show 2<=sizeLine by decide) (adf ⟨_,rfl,?_⟩)));have kz:∀c o,c≠z->c≠i1->c≠i2->s.heap.get? c=some o->g3.get? c=some o:=fun c o c1 c2 c3 q=>b3.extBut _ _ c3 (b2.extBut _ _ c2 (b1.extBut _ _ c1 q));have z3:Bb g3 z ti to (rawInt a) (.bool true):=b3.extBut _ _ (aem Z.a4) (b2.extBut _ _ (aem Z.a3) zg)
 have sz:g3.objs.size=s.heap.objs.size:=by rw[b3.1,b2.1,b1.1]
 have up:∀{o:Obj}{c:Addr}{ob:Obj},g3.get? c=some ob->(g3.push o).get? c=some ob:=fun e=>ada _ e;have q:=hQ x y (g3.push { cls:=.type "tuple",data:=.seq #[x,y] }) k3 px py (up z3) (D1.frame _ _ _ (Draws.but D1 t1 b3.extBut Z.o1) fun _ _ _ q=>up q) (D2.frame _ _ _ t2 fun _ _ _ q=>up q) (sz▸ado _ rfl) (by rw[aew,sz]) fun c o c1 c2 c3 q=>up (kz c o c1 c2 c3 q);rw[<- sz]at q;exact q
def Hj{oa:Obj}{R:Fin->Shared->Prop}(Z:ZG z ti to i1 i2 f1 f2)(D1:Draws prog w A i1 f1 n1 P1 S1)(D2:Draws prog w A i2 f2 n2 P2 S2)
  (hz:Bb s.heap z ti to (rawInt a) (.bool b)) (ha:s.heap.get? a=some oa) (Ym:IsPair s.heap ti (.ref i1) (.ref i2)) (s1:S1 j s.heap) (s2:S2 j s.heap) (l:j=n1\/(j<n1/\j=n2))
  (hE:∀h' e tk,(∀c o,c≠z->c≠i1->c≠i2->s.heap.get? c=some o->h'.get? c=some o)->(∃o,h'.get? e=some o/\o.cls=.type "StopIteration")->E (.ref e) { s with heap:=h',toks:=tk }):
  wpAny (model prog w) A (Builtin.«zip.__next__» ⟨[.ref z],[]⟩) R E s:=by
 refine(show wpAny (model prog w) A (field (.ref z) 2 >>= _) _ E s from ac0 (adW hz rfl (x:=.bool false) rfl ?_));refine(show wpAny (model prog w) A (field (.ref z) 3 >>= _) _ E s from ac0 (adW hz rfl (x:=.ref ti) rfl (ac0 (aer Ym rfl ?_))));refine(show wpAny (model prog w) A (Builtin.SmallTypes.ownedTupleIsFree (.ref z) >>= _) _ E s from ac0 (xN hz ha fun g1 zg b1=>?_));refine afn ⋯ (ac0 ?_);rw[<- ahY];show wpAny _ _ (forIn [Value.ref i1,.ref i2] _ _) _ _ _;rw[aeF];refine ac0 (ac0 (aes ?_));rcases l with l|⟨l1,l⟩
 .subst l;exact(show wpAny (model prog w) A (Builtin.SmallTypes.nextOf (.ref i1) >>= _) _ _ _ from ac0 (D1.done _ _ _ (Draws.but D1 s1 b1.extBut Z.z1) fun g2 e b2 q=>hE g2 e _ (fun c o c1 c2 _ q=>b2 _ _ c2 (b1.extBut _ _ c1 q)) q))
 .subst l;refine(show wpAny (model prog w) A (Builtin.SmallTypes.nextOf (.ref i1) >>= _) _ _ _ from ac0 (D1.item j _ _ _ l1 (Draws.but D1 s1 b1.extBut Z.z1) fun x g2 k2 px t1 b2=>adf (adf ?_)));dsimp only;rw[aeF];refine ac0 (ac0 (aes ?_));exact(show wpAny (model prog w) A (Builtin.SmallTypes.nextOf (.ref i2) >>= _) _ _ _ from ac0 (D2.done _ _ _ (Draws.but D2 (Draws.but D2 s2 b1.extBut Z.z2) b2.extBut Z.o2) fun g3 e b3 q=>hE g3 e _ (fun c o c1 c2 c3 q=>b3 _ _ c3 (b2.extBut _ _ c2 (b1.extBut _ _ c1 q))) q))
end
def yh(cat:Nat->Bool)(g:Sx)(gs:Sx):Sx:=fun ρ h=>match g ρ h with
 |.exc e h1=>match OU e with
  |some (C,p)=>if cat C=true then(match gs ρ h1 with
   |.rt v h2=>.rt v h2
   |_=>.bad)else .bad
  |none=>.bad
 |r=>r
def oU(p:PV)(h:Y3):Res PV:=match p with
 |.tup xs=>match gz xs with
  |some ls=>if ls.length+1<scanBound then .ok (.int (rG ls:Nat)) h else .bad
  |none=>.bad
 |p=>Ih p h
theorem IL(p:PV)(h:Y3):oU p h=match WQ h p with
 |some xs=>match gz xs with
  |some ls=>if ls.length+1<scanBound then .ok (.int (rG ls:Nat)) h else .bad
  |none=>.bad
 |none=>.bad:=by cases p<;>rfl
section
variable{e:Expr}{f:Ex}{Yl:Pos}
def Ah(g1:Gl X "len")(m1:X.mg "len"=none)(g2:Gl X "set")(m2:X.mg "set"=none)(he:RE X e f)(hc:(X.calm=true)\1)
  (hs:(starEach [e] X.env=(false,eval e X.env)::starEach [] X.env)\1) (hs2:(starEach [.Call (.Name "set" p2) [e] [] Yl] X.env=(false,eval (.Call (.Name "set" p2) [e] [] Yl) X.env)::starEach [] X.env)\1)
  (hp:((backTo pos (starEach [] X.env)).any (·.1)=false)\1) (hp2:((backTo Yl (starEach [] X.env)).any (·.1)=false)\1):
  RE X (.Call (.Name "len" p1) [.Call (.Name "set" p2) [e] [] Yl] [] pos) (c1 oU f):=⟨fun{w0 ρ h0 Q E} I p=>by
 refine adV (I.blt g1 m1 PySem.boot_len ?_ ⋯ ⋯);refine PyProof.Rows.callWith_builtin1 ?_ hs2 hp;rw[hs2];show wpAny _ _ (spliced ((false,eval (.Call (.Name "set" p2) [e] [] Yl) X.env)::backTo pos (starEach [] X.env))) _ _ w0.s;refine afT ?_;have hv:bootBuiltins "set"=some (.type "set"):=by decide+kernel
 refine adV (I.blt g2 m2 hv ?_ ⋯ ⋯);refine callWith_type1 ?_ hs hp2;rw[hs];refine(show wpAny _ _ (spliced ((false,eval e X.env)::[])) _ _ w0.s from afT (he.r I (p.bind fun w1 h1 q u y r k=>af5 ?_)));rw[IL]at k
 split at k
 .split at k
  .split at k
   .rename_i ls el q;obtain⟨tt,a,its,ht,rfl,y1,hz,rr⟩:=y.2.WQ r ‹_›;have sa:=kx (G:=X.toSC) el rr;have ln:its.size=ls.length:=by have:=StrsAre.len sa;simpa using this
    refine wv (I.ok.hd hc) ht y1 sa (by rw[ln];exact q) fun h' tk fin=>?_;obtain⟨so,kp⟩:=fin;have n:=Nw.also (X:=X) (s':={ w1.s with heap:=h',toks:=tk }) y.2 fun b o z=>kp b o (adE z) z;refine af5 ?_;obtain⟨o,go,oo⟩:=so.objOf;obtain⟨o1,es,ep,t,o2,_,_,o3,o4⟩:=oo;have lz:=vq (fun i=>(ls.map S).getD i Str.empty) its.size;have sb:scanBound<2 ^ 63:=by decide
    refine call_len_set go o1 o2 o4 ⋯ ?_;rw[o3,ln];have e:=KF ls;rw[ac2]at e;rw[e];exact(k.step n).now n.2 (.int _ _)
   .exact k.elim
  .exact k.elim
 .exact k.elim⟩
end
section
variable{w w2:Wo}
abbrev RQ(w:Wo)(a:Addr)(o:Obj):Wo:=⟨iD w.F a o,fun _=>none,[],w.s⟩
end
noncomputable def Vj(z:Str):Value->Bool
 |.str y _=>y==z
 |_=>false
section
variable{w:Wo}
def qS{it:Ax}{M vs:Zl}{g:Gx}{y:Str}(j8:Y1)(hc:X.calm=true)(S:fZ X.N X.env.scope scope j8 vs M)(hi:RI X tg iter it)(hg:∀cl C,RG (br X M scope cl C) tg g)(ht:∀cl C,Ys (br X M scope cl C) ifs tt)(he:∀cl C,RE (br X M scope cl C) elt te)
  (gm:∀q cp ρ1,g q (List.replicate vs.length none++cp)=some ρ1->∃l,l.length=vs.length/\ρ1=l++cp) (hy:X.N[iy]? =some y) (Zi:X.env.scope.names.lookup y=some .local) (Zg:swapsWith (.ListComp elt [⟨tg,iter,ifs,0⟩] scope pos) (some (.Name y py)) T6.line X.env=pure true)
  (hs:(∀y,foldedSetIterable iter X.env y=pure y)\3):RS X (.Assign [.Name y py] (.ListComp elt [⟨tg,iter,ifs,0⟩] scope pos) T6) (aH iy (cN T3 (eT vs.length g j8 it tt te))):=⟨fun{w0 ρ h Q E} I p=>by
 rw[ahm _ _ _ _ Zg];refine ac0<|agj<|ac0 ?_
 show wpAny _ X.A (comprehension (.ListComp elt [⟨tg,iter,ifs,0⟩] scope pos) scope X.env _ (newList []) false (eval iter X.env) (some (assign (.Name y py) X.env)) >>= fun _=>pure ()) _ _ w0.s;refine ac0<|aea (afJ (use:=some (assign (.Name y py) X.env)) (Q:=fun _ s'=>Q .next s') rfl hs (jE fun n hn=>I.ok.has n (S.free _ hn rfl)) S.kind S.names ?_) (fun _ _ z=>adf (adf z)) fun _ _ z=>z
 have p:bp X w0 Q E (gB (it ρ h) fun xs h1=>gB (if xs.length<sizeLine then(eU g tt te (List.replicate vs.length none++bX j8 ρ) xs h1).calm else .bad) fun ps h2=>gB (T3 ps h2) fun v h3=>.nx (ρ.set iy (some v)) h3):=by
  unfold aH eY cN eT at p
  cases e:it ρ h with
  |ok xs h1=>
   rw[e]at p
   revert p
   show bp X w0 Q E (gB (((if xs.length<sizeLine then(eU g tt te (List.replicate vs.length none++bX j8 ρ) xs h1).calm else .bad):Res Y2).bind T3) _)->bp X w0 Q E (gB (if xs.length<sizeLine then(eU g tt te (List.replicate vs.length none++bX j8 ρ) xs h1).calm else .bad) _);generalize(if xs.length<sizeLine then(eU g tt te (List.replicate vs.length none++bX j8 ρ) xs h1).calm else .bad:Res Y2)=rr
   cases rr<;>exact id
  |exc _ _=>rw[e]at p;exact p
  |bad=>rw[e]at p;exact p
 refine hi.r I (bp.e0 p I fun w h1 xs v y0 I1 rr p=>?_)
 split at p
 .rename_i hz
  refine qD (use:=some (assign (.Name y py) X.env)) (Q:=fun _ s=>Q .next s) (K:=fun ps h=>bp X w0 Q E (gB (T3 ps h) fun v h3=>.nx (ρ.set iy (some v)) h3)) j8 hc S hg ht he gm I y0 rr hz (by
   revert p
   cases eU g tt te (List.replicate vs.length none++bX j8 ρ) xs h1<;>first|exact id|exact fun z=>bp.ep z |>.elim) fun{w2 h2 ps its D C oC m} y2 H2 nD nC DC hl n l f ra z k=>?_
  obtain⟨nn,e1⟩:=l;have fz:=dw (o:={ cls:=.type "list",data:=.seq its nn }) f.2.1;have n3:=Nw.freeze (X:=X) (w:=w0) (w1:=w2) ⟨y2,H2⟩ nD ⟨e1,f⟩;have I3:=I.on n3;have aC:=I.out nC;show wpAny _ X.A (assign (.Name y py) X.env (.ref D)) _ _ w2.s;refine agP (I3.store (w:=⟨iD w2.F D { cls:=.type "list",data:=.seq its nn },w2.O,w2.m,w2.s⟩) hy (.inl Zi) (p:=.lst ps) (.lst bv z (ra.mono fz (.inr fun _ _ e=>e))) fun w4 y4 I4=>?_);obtain⟨sl,hC,zz⟩:=y4.keep C oC ⟨hl.1,hl.2.1,dI (aem DC) hl.2.2.1,hl.2.2.2⟩ aC.w;refine⟨m,tG n fun o e=>by rw[hl.1]at e;cases e;exact⟨sl,hC.1⟩,fun h' sb'=>?_⟩;obtain⟨a1,a2⟩:=pS (s':={ w4.s with heap:=h' }) I4.toHR hC fun b o z e=>(sb'.2 b z).trans e;exact k.2 _ ((n3.s.trans y4).priv a1 (by simp;exact nC)) (I4.priv a1 a2 (by simp;exact aC))
 .exact p.elim⟩
end
section
variable{e a b:Expr}{f:Ex}{fs it:Ax}{tp:Pos}{y:Str}{M:Zl}
def yp(S:fZ X.N X.env.scope scope j8 [x] M)(hi:RI X (.Name x tp) iter it)(ht:∀cl C,Ys (br X M scope cl C) ifs tt)(he:∀cl C,RE (br X M scope cl C) elt te)(hy:X.N[iy]? =some y)(Zi:X.env.scope.names.lookup y=some .local)(Zg:swapsWith (.ListComp elt [⟨.Name x tp,iter,ifs,0⟩] scope pos) (some (.Name y py)) T6.line X.env=pure true)(hc:(X.calm=true)\1)(hg:(∀cl C,RG (br X M scope cl C) (.Name x tp) (N6 0))\8)
  (hs:(∀y,foldedSetIterable iter X.env y=pure y)\3):RS X (.Assign [.Name y py] (.ListComp elt [⟨.Name x tp,iter,ifs,0⟩] scope pos) T6) (aH iy (cN T3 (cW j8 it tt te))):=by
 have q:=qS (pos:=pos) (py:=py) j8 hc S hi hg ht he Ms hy Zi Zg hs;have z:eT 1 (N6 0) j8 it tt te=cW j8 it tt te:=by funext ρ h;simp only[eT,cW,xA]
 exact z▸q
end
def zi(h:Y3)(p:PV):Bool:=(Ye h p).isSome
def Dp(p:PV)(ps:Y2)(h:Y3):Res PV:=match ps with
 |[q,z]=>match Ye h p,pf q with
  |some kvs,some k=>.ok (match lM kvs k with|some v=>aj h v|none=>z) h
  |_,_=>.bad
 |_=>.bad
section
variable{a b:Expr}
def Kz:TyM X "dict" zi:=fun H r e=>by obtain⟨xs,ex⟩:=afb.mp e;obtain⟨a,kvs,rfl,_,d,_⟩:=H.dc r ex;exact⟨d.typeIs,fun _ e=>by cases e;exact let⟨o,es,ep,e,x,_⟩:=d;⟨o,e,x.2.1⟩⟩
def LO:Yt X "dict.get" Dp:=fun{w h p u ps us Q E} I r rs k=>by
 unfold Dp at k
 split at k
 .obtain⟨v1,v2,rfl,r1,r2⟩:=rs.two
  split at k
  .rename_i kk e1 e2;obtain⟨a,kvs,rfl,sm,d,rr⟩:=I.dc r e1;refine call_meetsIn ahu d.typeIs PySem.F.entry_dict_get (PySem.F.args_dict_get_3 _ _ _) (meets_dict_get_default (pk X.prog X.w) a (nV r1 e2) sm v2) ⟨_,d.mapOf,?_⟩;rcases rT rr.2.1 rr.2.2 kk with⟨p3,v,z1,z2,z3⟩|⟨z1,z2⟩
   .rw[z1]at k;show Q ((valueAt kvs kk).getD v2) _;rw[z2];exact k.now I.toHR (I.Wq z3)
   .rw[z1]at k;show Q ((valueAt kvs kk).getD v2) _;rw[z2];exact k.now I.toHR r2
  .exact k.elim
 .exact k.elim
end
noncomputable def eP(t:Tx)(body:Sx):Sx:=fun ρ h=>open Classical in if q:∃n,whl t body n ρ h≠.bad then whl t body q.choose ρ h else .bad
theorem xP(t:Tx)(body:Sx):∀(n:Nat)(ρ:Ev)(h:Y3),whl t body n ρ h≠.bad->whl t body (n+1) ρ h=whl t body n ρ h
 |0,ρ,h,q=>absurd rfl q
 |n+1,ρ,h,q=>by
  rw[whl]at q;rw[whl,whl]
  cases z:t ρ h with
  |bad=>rfl
  |exc e h=>rfl
  |ok b h1=>
   rw[z]at q;show(if b=true then _ else _)=(if b=true then _ else _)
   have q:(if b=true then _ else _)≠SR.bad:=q
   cases b with
   |false=>rfl
   |true=>
    simp only[if_true]at q |-
    cases y:body ρ h1<;>rw[y]at q<;>first|rfl|exact xP t body n _ _ q
theorem Ec(t:Tx)(body:Sx)(q:whl t body n ρ h≠.bad):∀{m:Nat},n<=m->whl t body m ρ h=whl t body n ρ h:=fun{m} l=>by
 induction l with
 |refl=>rfl
 |step l ih=>rw[xP t body _ ρ h (by rw[ih];exact q),ih]
def pX(t:Tx)(body:Sx)(q:whl t body n ρ h≠.bad):eP t body ρ h=whl t body n ρ h:=by
 have e:∃n,whl t body n ρ h≠.bad:=⟨n,q⟩
 unfold eP;rw[dif_pos e];rcases agz e.choose n with l|l
 .exact(Ec t body e.choose_spec l).symm
 .exact Ec t body q l
def KJ{t:Tx}{body:Sx}(q:eP t body ρ h≠.bad):∃n,whl t body n ρ h≠.bad/\eP t body ρ h=whl t body n ρ h:=by
 unfold eP at q |-
 split
 .rename_i e;exact⟨_,e.choose_spec,rfl⟩
 .rename_i e;rw[dif_neg e]at q;exact absurd rfl q
def EB{t:Tx}{body:Sx}(e:t ρ h=.ok false h1):eP t body ρ h=.nx ρ h1:=by
 have:whl t body 1 ρ h=.nx ρ h1:=by rw[whl,e];rfl
 rw[pX t body (n:=1) (by rw[this];intro z;cases z),this]
def yg{t:Tx}{body:Sx}{ρ2:Ev}{h2:Y3}{r:SR}(e:t ρ h=.ok true h1)(b:body ρ h1=.nx ρ2 h2)(w:eP t body ρ2 h2=r)(nb:r≠.bad):eP t body ρ h=r:=by
 obtain⟨n,q,z⟩:=KJ (by rw[w];exact nb)
 have:whl t body (n+1) ρ h=whl t body n ρ2 h2:=by rw[whl,e];show(match body ρ h1 with|.nx ρ2 h2=>_|.ct ρ2 h2=>_|.bk ρ2 h2=>_|.rt v h2=>_|.exc v h2=>_|.bad=>_)=_;rw[b]
 rw[pX t body (n:=n+1) (by rw[this];exact q),this,<- z,w]
section
variable{c:Expr}{t:Tx}{f:Sx}
def KN(n:Nat)(hc:RT X c t)(hb:Xk X body f)(hp:∀E,X.Ep E->PassesOwn X.M X.A X.env E):RS X (.While c body [] pos) (whl t f n) where
 r {w0 ρ h Q E} I0 p:=by
  cases n with
  |zero=>exact p.elim
  |succ n=>
  have hp:=hp E p.ep;refine wpAny_While (codeAny_whileLoop (fun n s=>∃w1 ρ1 h1,w1.s=s/\Inv X w1 ρ1 h1/\bp X w1 Q E (whl t f n ρ1 h1)) ?_ (n+1) ⟨w0,ρ,h,rfl,I0,p⟩)
  rintro n s ⟨w1,ρ1,h1,rfl,I1,p1⟩
  cases n with
  |zero=>exact p1.elim
  |succ n=>
   refine afm hp (hc.r I1 (p1.e I1 fun w2 h2 b b' y2 I2 r p2=>?_));subst r
   cases b with
   |false=>exact afm hp (afL (p2.2 w2 .refl I2))
   |true=>
    refine afm hp (hb.r I2 ?_)
    have p3:bp X w2 Q E (match f ρ1 h2 with
     |.nx ρ2 h2=>whl t f n ρ2 h2
     |.ct ρ2 h2=>whl t f n ρ2 h2
     |.bk ρ2 h2=>.nx ρ2 h2
     |.rt v h2=>.rt v h2
     |.exc v h2=>.exc v h2
     |.bad=>.bad):=p2
    revert p3
    cases f ρ1 h2 with
    |nx ρ4 h4=>exact fun p3=>⟨p3.ep,fun w4 y4 I4=>⟨n,ad6 n,w4,ρ4,h4,rfl,I4,p3.step y4⟩⟩
    |ct ρ4 h4=>exact fun p3=>⟨p3.ep,fun w4 y4 I4=>⟨n,ad6 n,w4,ρ4,h4,rfl,I4,p3.step y4⟩⟩
    |bk ρ4 h4=>exact fun p3=>p3
    |rt v h4=>exact fun p3=>p3
    |exc v h4=>exact fun p3=>p3
    |bad=>exact fun p3=>p3
def EJ(hc:RT X c t)(hb:Xk X body f)(hp:(∀E,X.Ep E->PassesOwn X.M X.A X.env E)\7):RS X (.While c body [] pos) (eP t f) where
 r {w ρ h Q E} I p:=by
  unfold eP at p
  split at p
  .exact(KN _ hc hb hp).r I p
  .exact p.elim
end
def eQ(p:PV)(ps:Y2)(h:Y3):Res PV:=match ps with
 |[q]=>match iZ h p,W9 h q with
  |some (i,xs),some ys=>if xs.length+ys.length<=sizeLine then .ok .non (h.set i (.lst (xs++ys)))else .bad
  |_,_=>.bad
 |_=>.bad
def Du:Yt X "list.extend" eQ:=fun{w h p u ps us Q E} I r rs k=>by
 unfold eQ at k
 split at k
 .split at k
  .split at k
   .rename_i hz;obtain⟨v,rfl,rv⟩:=rs.one
    replace r:=I.toHR.ll r ‹_›
    obtain⟨a,its,n,rfl,em,hf,e,z,r⟩:=r;obtain⟨b,Zf,rfl,⟨n2,e2⟩,z2,r2⟩:=I.sq rv (gS ‹_›);have l1:=r.len;have l2:=r2.len;refine afa F.slot_list_extend ⟨_,e,rfl⟩ F.entry_list_extend (F.args_list_extend_2 _ _) (AutoSeq1.list_extend_list_list_0 a its n b Zf n2 (extend_door ⋯) z ⋯) ⟨e,e2,?_⟩;exact k.2 _ _ (Nw.Z_ (f:=Obj.mapSeq (· ++Zf)) (Ti:=its++Zf) (tk:=w.s.toks) I.toHR em hf e (by simp[Obj.mapSeq];rfl) (by simp;lia) (by simpa using r.app r2)) .non
   .exact k.elim
  .exact k.elim
 .exact k.elim
noncomputable def pkV:PK->PV
 |.inl i=>.int i
 |.inr x=>.str x
def AI(J0:List (PK×PV)):Y2:=J0.map fun kv=>.tup [pkV kv.1,kv.2]
def BT(p:PV)(h:Y3):Res Y2:=match p with
 |.dct J0=>.ok (AI J0) h
 |_=>.bad
def Ba(f:Ex):Ax:=fun ρ h=>(f ρ h).bind BT
section
variable{w w0:Wo}{it:Addr}{TG:Pos}{f:Ex}
def IR{F:Fz}{k:PK}{key:Value}(h:(pk G.prog G.w).is k key=true):aQ G F m (pkV k) key:=by
 rcases gv h with⟨i,t,rfl,rfl⟩|⟨x,t,rfl,rfl⟩
 .exact .int i t
 .exact .str x t
def Gk{es:Array DictEntry}{ep:Nat}(e:w0.F a=some o)(x:o.ExactDict)(od:o.data=.dict es ep)(ks:KeysOf (pk G.prog G.w) es)(ps:Pairs (pk G.prog G.w) es.toList kvs)(nd:(kvs.map (·.1)).Nodup)(kk:kvs.map (·.1)=J0.map (·.1))(r:ay G w0.F w0.m (J0.map (·.2)) (kvs.map (·.2)))(ne:a≠it):Hi G w0 (.Tuple elts k pos) (AI J0) it [it] (fun i g=>∃ok ov,IsItemIter g it a i kvs.length ep ok ov) where
 keep l1 H1 l2 H2 st q:=by obtain⟨ok,ov,z⟩:=st;exact⟨ok,ov,q it (by simp) _ z⟩
 item {A w h i p Q E} hh l H st hx f q:=by
  obtain⟨ok,ov,z⟩:=st;have hm:w.s.heap.DictAt (pk G.prog G.w) a kvs ep:=⟨o,es,H.at (l.1 _ _ e),x,od,ks,ps,nd⟩
  unfold AI at hx;rw[adO]at hx;obtain⟨⟨k1,p1⟩,e1,rfl⟩:=adZ.mp hx;obtain⟨v,ev,rv⟩:=r.get (i:=i) (p:=p1) (by rw[adO,e1];rfl);have ek:(kvs.map (·.1))[i]? =some k1:=by rw[kk,adO,e1];rfl
  have ekv:kvs[i]? =some (k1,v):=by
   rw[adO]at ek ev;obtain⟨⟨a1,b1⟩,c1,d1⟩:=adZ.mp ek;obtain⟨⟨a2,b2⟩,c2,d2⟩:=adZ.mp ev;rw[c1]at c2
   cases c2
   cases d1
   cases d2
   exact c1
  refine wpAny_pyNext_items_item z hm ekv fun key h' hk io pr sz kp=>⟨_,rfl,?_⟩
  refine wpAny_letOwnedTupleGo_items io fun h2' z2 sb=>?_;have lt:it<w.s.heap.objs.size:=adE z
  have kk2:∀b o,b∉ [it]->w.s.heap.get? b=some o->h2'.get? b=some o:=fun b o nb q=>by simp only[ac8,adH,or_false]at nb;exact(sb.2 b nb).trans (kp b o nb q)
  have pr2:h2'.get? w.s.heap.objs.size=some { cls:=.type "tuple",data:=.seq #[key,v] }:=(sb.2 _ (aey lt)).trans pr;obtain⟨a1,a2⟩:=Hp (s':={ w.s with heap:=h2' }) H f (aW _) kk2 pr2;refine q _ _ a1 a2 ⟨_,_,z2⟩ (fun b hb=>?_) ?_
  .obtain⟨o,q⟩:=f b hb;have nb:b≠w.s.heap.objs.size:=fun z=>by have q:=q.1;rw[z,aW]at q;cases q
   rw[adl.mp hb]at q nb |-;exact⟨_,z2,q.2.1,dI nb q.2.2.1,q.2.2.2⟩
  .have up:=dw (o:={ cls:=.type "tuple",data:=.seq #[key,v] }) (H.free (aW w.s.heap)).2.1;exact .tup bv (by show 2<=sizeLine;decide) (.cons (IR hk) (.cons ((rv.mono l.1 (.inr l.2)).mono up (.inr fun _ _ e=>e)) .nil))
 done {A w h i Q E} hh l H st hx f q:=by
  obtain⟨ok,ov,z⟩:=st;have hm:w.s.heap.DictAt (pk G.prog G.w) a kvs ep:=⟨o,es,H.at (l.1 _ _ e),x,od,ks,ps,nd⟩
  have ln:kvs.length=J0.length:=by have:=congrArg List.length kk;simpa using this
  unfold AI at hx;rw[ac2]at hx;refine wpAny_pyNext_items_end hh z hm (aft ⋯) fun h' kp=>⟨rfl,?_⟩
  obtain⟨a1,a2⟩:=Bk (fp:=[it]) (s':={ w.s with heap:=h' }) H f fun b o nb q=>by simp only[ac8,adH,or_false]at nb;exact kp b o nb q
  exact q _ a1 a2
 self hh st q:=by obtain⟨ok,ov,z⟩:=st;exact W.kcp_self z q
def ER(ho:RE X oe f)(Xa:(attributeBase oe "items" X.env (eval oe X.env)=eval oe X.env)\1)(hline:((apos.endLine==TG.line)=true)\1):RI X (.Tuple elts k pos) (.Call (.Attribute oe "items" apos) [] [] TG) (Ba f):=⟨fun{w0 ρ h Q E} I p=>afY Xa (by rfl) hline rfl (ho.r I (p.bind fun w1 h1 q u y r p=>by
 unfold BT at p
 split at p
 .cases r with
  |dct e d sm z kk rr=>
   rename_i J0 a o kvs;have ha:=y.2.at e;obtain⟨x,es,ep,od,ks,ps,nd⟩:=id d;have dd:w1.s.heap.DictOf (pk X.prog X.w) a kvs:=d.of ha;refine⟨"dict","dict.items",ag0,agZ,PySem.F.type_dict_items,dd.typeIs,fun b q=>(by cases q;exact⟨o,ha,x.2.1⟩),af6 rfl (PySem.evalArgs_none ?_)⟩;refine call_meetsIn agZ dd.typeIs PySem.F.entry_dict_items (PySem.F.args_dict_items_1 _) (meets_dict_items (pk X.prog X.w) a sm) ⟨⟨kvs,dd⟩,?_⟩;have la:=adE ha;refine wpAny_pyIter_items (knd:=pk X.prog X.w) (kvs:=kvs) (ep:=ep) ⟨_,ado _ rfl,rfl,rfl⟩ ⟨o,es,ada _ ha,x,od,ks,ps,nd⟩ ?_
   exact Yg.of (tk:=w1.s.toks) (I.on y) y.1 (fun b o e=>ada _ (ada _ e)) (Gk (elts:=elts) (k:=k) (pos:=pos) e x od ks ps nd kk rr (aek (by rw[aew];exact ae5 la))) ⟨_,_,ado _ rfl⟩ (fun c hc=>by rw[adl.mp hc,aew];exact⟨afA _,_,by rw[<- aew];exact ado _ rfl⟩) p
 .exact p.elim))⟩
end
noncomputable def Fq(ps:Y2)(h:Y3):Res PV:=oQ2 ps fun p q=>pI (fun _ _=>true) (fun a b=>if b<a then b else a) p q h
noncomputable def mx:Y2->Option (List Int)
 |[]=>some []
 |.int i::r=>(mx r).map (i:: ·)
 |_::_=>none
def NQ(hc:X.calm=true):Xl X (.builtin "min") Fq:=fun ok {w h p u Q E} I rs k=>by
 replace k:=oQ2_ k;obtain⟨p,q,rfl,k⟩:=k;unfold pI at k
 split at k
 .rw[if_pos rfl]at k;obtain⟨u,v,rfl,r,r2⟩:=rs.two
  cases r;cases r2
  refine min_two_ints (ok.hd hc) fun h' tk kp=>?_;have n:=Nw.also (X:=X) (s':={ w.s with heap:=h',toks:=tk }) I.toHR kp;refine k.2 _ _ n ?_;dsimp only
  split
  .exact .int _ _
  .exact .int _ _
 .exact k.elim
section
variable{it:Ax}{tp:Pos}{y:Str}{M:Zl}
def ym{Yk Yj:Pos}{nm:Str}(S:fZ X.N X.env.scope scope j8 [x,y] M)(hi:RI X (.Tuple [.Name x tp,.Name y Yk] k Yj) iter it)(ht:∀cl C,Ys (br X M scope cl C) ifs tt)(he:∀cl C,RE (br X M scope cl C) elt te)(hy:X.N[iy]? =some nm)(Zi:X.env.scope.names.lookup nm=some .local)(Zg:swapsWith (.ListComp elt [⟨.Tuple [.Name x tp,.Name y Yk] k Yj,iter,ifs,0⟩] scope pos) (some (.Name nm py)) T6.line X.env=pure true)(hc:(X.calm=true)\1)(hg:∀cl C,RG (br X M scope cl C) (.Tuple [.Name x tp,.Name y Yk] k Yj) g2:=by exact fun _ _=>wH rfl (iX gU (iX gU rX)))
  (hs:(∀y,foldedSetIterable iter X.env y=pure y)\3):RS X (.Assign [.Name nm py] (.ListComp elt [⟨.Tuple [.Name x tp,.Name y Yk] k Yj,iter,ifs,0⟩] scope pos) T6) (aH iy (cN tM (gT j8 it tt te))):=by
 have q:=qT (pos:=pos) (py:=py) j8 hc S hi hg ht he Mr hy Zi Zg hs;have z:eT 2 g2 j8 it tt te=gT j8 it tt te:=by funext ρ h;simp only[eT,gT,xz]
 exact z▸q
end
section
variable{w:World}{s:Shared}{D z ti to i1 i2 t1 t2:Addr}
structure ZJ(S1 S2:Nat->Heap->Prop)(h:Heap)(D z ti to i1 i2:Addr)(j:Nat):Prop where
 p:IsPair h ti (.ref i1) (.ref i2)
 l:S1 j h
 r:S2 j h
 o:(IsZip h z ti to .none/\∃u v,IsPair h to u v)\/∃a b oa,Bb h z ti to (rawInt (a:Nat)) (.bool b)/\h.get? a=some oa/\a≠z/\a≠i1/\a≠i2/\a≠D
 t:∃o,h.get? to=some o
theorem ZJ.zip{h:Heap}(st:ZJ S1 S2 h D z ti to i1 i2 j):∃vs,h.get? z=some { cls:=.type "zip",data:=.fields vs }:=by
 rcases st.o with⟨a,_⟩|⟨a,b,oa,q,_⟩
 .exact⟨_,a⟩
 .exact⟨_,q⟩
variable(Z:ZG z ti to i1 i2 [i1,t1] [i2,t2])(D1:Draws prog w A.in1 i1 [i1,t1] xs.size (fun j v=>xs[j]? =some v) S1)(D2:Draws prog w A.in1 i2 [i2,t2] ys.size (fun j v=>ys[j]? =some v) S2)
include D1 D2 in
theorem ZJ.keep{h:Heap}(st:ZJ S1 S2 h D z ti to i1 i2 j)(n:D∉ [z,ti,to,i1,i2,t1,t2])(k:∀c o,c≠D->h.get? c=some o->h'.get? c=some o):ZJ S1 S2 h' D z ti to i1 i2 j:=by
 simp only[ac8,adH,or_false,not_or]at n;obtain⟨n1,n2,n3,n4,n5,n6,n7⟩:=n;refine⟨k _ _ (aem n2) st.p,D1.frame _ _ _ st.l fun b hb o q=>k _ _ (fun e=>?_) q,D2.frame _ _ _ st.r fun b hb o q=>k _ _ (fun e=>?_) q,?_,let⟨o,q⟩:=st.t;⟨o,k _ _ (aem n3) q⟩⟩
 .simp only[ac8,adH,or_false]at hb;rcases hb with rfl|rfl
  .exact n4 e.symm
  .exact n6 e.symm
 .simp only[ac8,adH,or_false]at hb;rcases hb with rfl|rfl
  .exact n5 e.symm
  .exact n7 e.symm
 .rcases st.o with⟨a,u,v,b⟩|⟨a,b,oa,q,qa,m⟩
  .exact .inl ⟨k _ _ (aem n1) a,u,v,k _ _ (aem n3) b⟩
  .exact .inr ⟨a,b,oa,k _ _ (aem n1) q,k _ _ m.2.2.2 qa,m⟩
include Z D1 D2
theorem DX{x:Value}{oD:Obj}{Q:Option Value->Shared->Prop}(hD:s.heap.get? D=some oD)(st:ZJ S1 S2 s.heap D z ti to i1 i2 j)(hx:xs[j]? =some x)(hy:ys[j]? =some y)
  (hQ:∀h' tk,ZJ S1 S2 h' D z ti to i1 i2 (j+1)->IsPair h' s.heap.objs.size x y->(∀c o,c≠z->c≠to->c≠i1->c≠i2->s.heap.get? c=some o->h'.get? c=some o)->Q (some (.ref s.heap.objs.size)) { s with heap:=h',toks:=tk }):
  wpAny (model prog w) A (pyNext (.ref z)) Q E s:=by
 have l1:=(aeY.mp hx).1;have l2:=(aeY.mp hy).1;have lt:∀{c o},s.heap.get? c=some o->s.heap.objs.size≠c:=fun q=>aey (adE q);obtain⟨vs,hz⟩:=st.zip;obtain⟨o1,q1⟩:=D1.live _ _ st.l;obtain⟨o2,q2⟩:=D2.live _ _ st.r;rcases st.o with⟨a,u,v,b⟩|⟨a,b,oa,q,qa,m⟩
 .refine FE Z D1 D2 a st.p b st.l st.r l1 l2 fun x' y' h' tk p1 p2 z' pt u1 u2 pr sz kk=>?_;rw[hx]at p1;cases p1;rw[hy]at p2;cases p2;exact hQ h' tk ⟨kk _ _ Z.a1 Z.a5 Z.a6 Z.a7 st.p,u1,u2,.inr ⟨_,false,_,z',pr,lt hz,lt q1,lt q2,lt hD⟩,⟨_,pt⟩⟩ pr kk
 .have ty:s.TypeIs (.ref z) "zip":=⟨_,hz,rfl⟩
  unfold pyNext;refine ac0 (agV (aef (name:="__next__") ty afq (aeU afq ty ahc (DV Z D1 D2 q qa st.p st.l st.r l1 l2 fun x' y' h' tk p1 p2 z' u1 u2 pr sz kk=>adf ?_) (ag2 _))));rw[hx]at p1;cases p1;rw[hy]at p2;cases p2;exact hQ h' tk ⟨kk _ _ Z.a1 Z.a6 Z.a7 st.p,u1,u2,.inr ⟨a,true,oa,z',kk _ _ m.1 m.2.1 m.2.2.1 qa,m⟩,let⟨o,q⟩:=st.t;⟨o,kk _ _ Z.a2 Z.a8 Z.a9 q⟩⟩ pr fun c o c1 _ c3 c4 q=>kk c o c1 c3 c4 q
theorem Hm{Q:Option Value->Shared->Prop}(st:ZJ S1 S2 s.heap D z ti to i1 i2 j)(l:j=xs.size\/(j<xs.size/\j=ys.size))
  (hQ:∀h' tk,(∀c o,c≠z->c≠to->c≠i1->c≠i2->s.heap.get? c=some o->h'.get? c=some o)->Q none { s with heap:=h',toks:=tk }):wpAny (model prog w) A (pyNext (.ref z)) Q E s:=by
 obtain⟨vs,hz⟩:=st.zip;rcases st.o with⟨a,u,v,b⟩|⟨a,b,oa,q,qa,m⟩
 .exact FX Z D1 D2 a st.p b st.l st.r l hQ
 .have ty:s.TypeIs (.ref z) "zip":=⟨_,hz,rfl⟩
  unfold pyNext;refine ac0 (agV (aef (name:="__next__") ty afq (aeU afq ty ahc (Hj Z D1 D2 q qa st.p st.l st.r l ?_) (ag2 _))));rintro h' e tk kk ⟨o,q1,q2⟩;exact ac0 (wpAny_isInstance (T:="StopIteration") (b:=true) ⟨o,q1,q2⟩ isSubtype_stop (adf (hQ _ _ fun c o c1 _ c3 c4 q=>kk c o c1 c3 c4 q)))
end
inductive ZQ(K:Addr->Obj->Prop)(h:Heap):Z3->Z3->Z3->Prop where
 |l {ys:Z3}:ZQ K h [] [] ys
 |r {x:Value} {xs:Z3}:ZQ K h [] (x::xs) []
 |cons {a:Addr} {x y:Value} {us xs ys:Z3} (n:∀o,¬ K a o) (p:IsPair h a x y) (r:ZQ K h us xs ys):ZQ K h (.ref a::us) (x::xs) (y::ys)
theorem ZQ.weak{K K':Addr->Obj->Prop}{h:Heap}{xs ys:Z3}(p:ZQ K' h us xs ys)(k:∀a o,K a o->K' a o):ZQ K h us xs ys:=by
 induction p with
 |l=>exact .l
 |r=>exact .r
 |cons n p _ ih=>exact .cons (fun o q=>n o (k _ _ q)) p ih
section
variable{w:World}{D z ti to i1 i2 t1 t2:Addr}{res:Value}
theorem Dx(Z:ZG z ti to i1 i2 [i1,t1] [i2,t2])(D1:Draws prog w A.in1.in1 i1 [i1,t1] xs.size (fun j v=>xs[j]? =some v) S1)(D2:Draws prog w A.in1.in1 i2 [i2,t2] ys.size (fun j v=>ys[j]? =some v) S2)(n:D∉ [z,ti,to,i1,i2,t1,t2]):
  ∀(r1 r2:Z3)(j:Nat)(s:Shared)(acc:Array Value)(c:Nat)(K:Addr->Obj->Prop),xs.toList.drop j=r1->ys.toList.drop j=r2->(∀b o,K b o->b∉ [D,z,to,i1,i2])->(∀b o,K b o->s.heap.get? b=some o)->ZJ S1 S2 s.heap D z ti to i1 i2 j->s.heap.get? D=some { cls:=.type "list",data:=.seq acc c }->j<=xs.size->j<=ys.size->acc.size+r1.length<=sizeLine->
   (∀h' tk us c',(∀b o,K b o->h'.get? b=some o)->h'.get? D=some { cls:=.type "list",data:=.seq (acc++us.toArray) c' }->ZQ K h' us r1 r2->R (.ok (.ret res)) { s with heap:=h',toks:=tk })->
   codeAny (model prog w) A (.builtin "list.extend.loop" ⟨[.ref D,.ref z,res],[]⟩) R s:=by
 have nd:D≠z/\D≠to/\D≠i1/\D≠i2:=by simp only[ac8,adH,or_false,not_or]at n;exact⟨n.1,n.2.2.1,n.2.2.2.1,n.2.2.2.2.1⟩
 have stop:∀(j:Nat)(s:Shared)(acc:Array Value)(c:Nat)(K:Addr->Obj->Prop),(j=xs.size\/(j<xs.size/\j=ys.size))->(∀b o,K b o->b∉ [D,z,to,i1,i2])->(∀b o,K b o->s.heap.get? b=some o)->ZJ S1 S2 s.heap D z ti to i1 i2 j->s.heap.get? D=some { cls:=.type "list",data:=.seq acc c }->
   (∀h' tk c',(∀b o,K b o->h'.get? b=some o)->h'.get? D=some { cls:=.type "list",data:=.seq acc c' }->R (.ok (.ret res)) { s with heap:=h',toks:=tk })->codeAny (model prog w) A (.builtin "list.extend.loop" ⟨[.ref D,.ref z,res],[]⟩) R s:=fun j s acc c K l f kp st d hR=>by
  refine ae2 agM ?_;rw[aeN ae0 _];unfold Builtin.«list.extend.loop»;dsimp only;refine ac0 (Hm Z D1 D2 st l fun h' tk kk=>adf (hR h' tk c (fun b o q=>?_) (kk _ _ nd.1 nd.2.1 nd.2.2.1 nd.2.2.2 d)));have:=f b o q;simp only[ac8,adH,or_false,not_or]at this;exact kk b o this.2.1 this.2.2.1 this.2.2.2.1 this.2.2.2.2 (kp b o q)
 intro r1
 induction r1 with
 |nil=>intro r2 j s acc c K e1 e2 f kp st d j1 j2 hz hR;have:=congrArg List.length e1;simp at this;exact stop j s acc c K (.inl ⋯) f kp st d fun h' tk c' k e=>hR h' tk [] c' k (by simpa using e) .l
 |cons x r1 ih=>
  intro r2 j s acc c K e1 e2 f kp st d j1 j2 hz hR
  cases r2 with
  |nil=>have a:=congrArg List.length e1;have b:=congrArg List.length e2;simp at a b;exact stop j s acc c K (.inr ⟨by lia,by lia⟩) f kp st d fun h' tk c' k e=>hR h' tk [] c' k (by simpa using e) .r
  |cons y r2=>
   have hx:xs[j]? =some x:=by rw[<- afu,<- afp,e1];rfl
   have hy:ys[j]? =some y:=by rw[<- afu,<- afp,e2];rfl
   refine ae2 agM ?_;rw[aeN ae0 _];unfold Builtin.«list.extend.loop»;dsimp only;refine ac0 (DX Z D1 D2 d st hx hy fun h' tk Xn pr ks=>?_);dsimp only;rw[ac6]at hz;have d1:=ks _ _ nd.1 nd.2.1 nd.2.2.1 nd.2.2.2 d;refine(show wpAny (model prog w) A.in1 (updateSeq D (·.push _) >>= _) _ _ _ from ac0 (agr d1 rfl (adf ⟨agk ae0 _,?_⟩) ⋯ (by show(acc.push _).size<=_;rw[aiu];lia)));have lD:s.heap.objs.size≠D:=aey (adE d);have nK:∀o,¬ K s.heap.objs.size o:=fun o q=>adR _ (adE (kp _ _ q));have oth:∀b o,b≠D->h'.get? b=some o->(h'.update D (Obj.mapSeq (·.push (.ref s.heap.objs.size)))).get? b=some o:=fun b o hb e=>(aeS _ _ (aem hb)).trans e;obtain⟨vs,hz'⟩:=st.zip;obtain⟨o1,q1⟩:=D1.live _ _ st.l;obtain⟨o2,q2⟩:=D2.live _ _ st.r;have lt:∀{c o},s.heap.get? c=some o->s.heap.objs.size≠c:=fun q=>aey (adE q);obtain⟨o3,q3⟩:=st.t;refine ih r2 (j+1) _ (acc.push (.ref s.heap.objs.size)) _ (fun b o=>K b o\/(b=s.heap.objs.size/\o= { cls:=.type "tuple",data:=.seq #[x,y] })) (by rw[<- aeX,e1];rfl) (by rw[<- aeX,e2];rfl) (fun b o q=>?_) (fun b o q=>?_) (Xn.keep D1 D2 n fun c o c1 q=>oth c o c1 q) (aed _ d1 rfl) (aeY.mp hx).1 (aeY.mp hy).1 (by rw[aiu];lia) fun h3 tk us c' k3 d3 p3=>?_
   .rcases q with q|⟨rfl,rfl⟩
    .exact f b o q
    .simp only[ac8,adH,or_false,not_or];exact⟨lD,lt hz',lt q3,lt q1,lt q2⟩
   .rcases q with q|⟨rfl,rfl⟩
    .have:=f b o q;simp only[ac8,adH,or_false,not_or]at this;exact oth _ _ this.1 (ks b o this.2.1 this.2.2.1 this.2.2.2.1 this.2.2.2.2 (kp b o q))
    .exact oth _ _ lD pr
   .exact hR h3 tk (.ref s.heap.objs.size::us) c' (fun b o q=>k3 b o (.inl q)) (by simpa using d3) (.cons nK (k3 _ _ (.inr ⟨rfl,rfl⟩)) (p3.weak fun a o q=>.inl q))
end
def CG:typeLookup (.type "zip") "__len__"=pure none:=by rw[ahh,af8];kernel_rfl
def zS:typeLookup (.type "zip") "__length_hint__"=pure none:=by rw[ahh,af8];kernel_rfl
section
variable{w:World}{s:Shared}{z ti to i1 i2 t1 t2:Addr}
def DR{h0:Heap}(Z:ZG z ti to i1 i2 [i1,t1] [i2,t2])(D1:Draws prog w A.in1.in1.in1 i1 [i1,t1] xs.size (fun j v=>xs[j]? =some v) S1)(D2:Draws prog w A.in1.in1.in1 i2 [i2,t2] ys.size (fun j v=>ys[j]? =some v) S2)(lt:∀c∈ [z,ti,to,i1,i2,t1,t2],c<s.heap.objs.size)(f:∀c∈ [z,to,i1,i2],h0.get? c=none)(hz:IsZip s.heap z ti to .none)(Yz:∃u v,IsPair s.heap to u v)(Ym:IsPair s.heap ti (.ref i1) (.ref i2))(hl:S1 0 s.heap)(hr:S2 0 s.heap)
  (kp:∀b o,h0.get? b=some o->s.heap.get? b=some o) (hsz:xs.size<=sizeLine)
  (hQ:∀h' tk us c,(∀b o,h0.get? b=some o->h'.get? b=some o)->h'.get? s.heap.objs.size=some { cls:=.type "list",data:=.seq us.toArray c }->ZQ (fun a o=>h0.get? a=some o) h' us xs.toList ys.toList->Q (.ref s.heap.objs.size) { s with heap:=h',toks:=tk }):
  wpAny (model prog w) A (call (.type "list") [.ref z]) Q E s:=by
 refine callType_codes (Q₁:=fun v t=>v=.ref s.heap.objs.size/\t= { s with heap:=s.heap.push { cls:=.type "list",data:=.seq #[] } }) PySem.F.called_list (PySem.F.typeCall_list_1 _) PySem.F.entry_list_init (code_list_new _ ⟨rfl,rfl⟩) ?_
 rintro v t ⟨rfl,rfl⟩
 have e0:(s.heap.push { cls:=.type "list",data:=.seq #[] }).get? s.heap.objs.size=some { cls:=.type "list",data:=.seq #[] }:=ado _ rfl;refine⟨⟨_,e0,rfl⟩,PySem.F.args_list_init_2 _ _,?_⟩;have nz:s.heap.objs.size≠z:=aey (lt z (by simp));have nb:(s.heap.objs.size==z)=false:=beq_eq_false_iff_ne.mpr nz;unfold Builtin.«list.__init__» Builtin.List.listItems Builtin.List.listUpdate;dsimp only;refine afn (by simp) (ac0 (ac0 (aer e0 rfl (adf (ac0 (agr e0 rfl (ac0 (ahx ?_))))))));have e1:=aed (Obj.mapSeq (fun _=>(#[]:Array Value))) e0 rfl;have k1:∀b o,s.heap.get? b=some o->((s.heap.push { cls:=.type "list",data:=.seq #[] }).update s.heap.objs.size (Obj.mapSeq fun _=> #[])).get? b=some o:=fun b o q=>(aeS _ _ (aey (adE q))).trans (ada _ q);generalize(s.heap.push { cls:=.type "list",data:=.seq #[] }).update s.heap.objs.size (Obj.mapSeq fun _=> #[])=g at*;have ty:({ s with heap:=g }:Shared).TypeIs (.ref z) "zip":=⟨_,k1 _ _ hz,rfl⟩
 unfold Builtin.List.listExtendWith Builtin.List.listLengthHint Builtin.List.listTouch;refine ac0 (afX ty ?_);refine afn (by simp only[Builtin.List.listSameRef,nb];decide) (ac0 (wpAny_pyIter_zip (k1 _ _ hz) (ac0 (aes (ac0 (ahf ty CG ?_))))));refine(show wpAny (model prog w) A.in1.in1 (specialOf (.ref z) (Str.ofString "__length_hint__") >>= _) _ _ _ from ac0 (ahf ty zS (adf ?_)));refine(show wpAny (model prog w) A.in1.in1 (rule "list.extend.makes-room" >>= _) _ _ _ from ac0 (ag8 ?_));refine ac0 ?_;refine(show wpAny (model prog w) A.in1.in1 (updateSeq s.heap.objs.size (·.push .none) >>= fun _=>updateSeq s.heap.objs.size (·.pop)) _ _ _ from ac0 (agr e1 rfl ?_));have e2:=aed (Obj.mapSeq (·.push Value.none)) e1 rfl;refine agr (hz:=by seq_fits) e2 rfl (adf ⟨agk ae0 _,?_⟩);have e3:=aed (Obj.mapSeq (·.pop)) e2 rfl;have k3:∀b o,s.heap.get? b=some o->((g.update s.heap.objs.size (Obj.mapSeq (·.push Value.none))).update s.heap.objs.size (Obj.mapSeq (·.pop))).get? b=some o:=fun b o q=>(aeS _ _ (aey (adE q))).trans ((aeS _ _ (aey (adE q))).trans (k1 b o q));have nn:s.heap.objs.size∉ [z,ti,to,i1,i2,t1,t2]:=fun q=>adR _ (lt _ q);obtain⟨u,v,Yz⟩:=Yz
 have fD:∀b o,h0.get? b=some o->b∉ [s.heap.objs.size,z,to,i1,i2]:=fun b o q hb=>by
  rcases ac8.mp hb with rfl|hb
  .exact adR _ (adE (kp _ _ q))
  .rw[f b hb]at q;cases q
 refine Dx (A:=A.in1) Z D1 D2 nn xs.toList ys.toList 0 _ #[] _ (fun a o=>h0.get? a=some o) rfl rfl fD (fun b o q=>k3 b o (kp b o q)) ⟨k3 _ _ Ym,D1.frame _ _ _ hl fun b _ o q=>k3 b o q,D2.frame _ _ _ hr fun b _ o q=>k3 b o q,.inl ⟨k3 _ _ hz,u,v,k3 _ _ Yz⟩,⟨_,k3 _ _ Yz⟩⟩ e3 (adx _) (adx _) (by simpa using hsz) fun h' tk us c k4 d4 p4=>⟨rfl,hQ h' tk us c k4 (by simpa using d4) p4⟩
end
def tE(ps:Y2)(h:Y3):Res PV:=match ps with
 |[.tup xs,q]=>match W9 h q with
  |some ys=>.ok (.lst (Yh xs ys)) h
  |none=>.bad
 |_=>.bad
noncomputable def LS(a:Addr):Obj:={ cls:=.type "list_iterator",data:=.fields #[.ref a,.int 0 0] }
abbrev zl2(h:Heap)(a b:Addr):Heap:=(h.push (xV a)).push (LS b)
abbrev zl3(h:Heap)(a b:Addr):Heap:=(zl2 h a b).push (BA (.ref h.objs.size) (.ref (h.push (xV a)).objs.size))
abbrev zl4(h:Heap)(a b:Addr):Heap:=(zl3 h a b).push (BA .none .none)
abbrev zl5(h:Heap)(a b:Addr):Heap:=(zl4 h a b).push (Na (zl2 h a b).objs.size (zl3 h a b).objs.size)
def FF(a b:Addr)(xs ys:Array Value):Meets (Builtin.«zip.__new__» ⟨[.type "zip",.ref a,.ref b],[]⟩) (fun _ R s=>s.heap.IsTuple a xs/\s.heap.IsList b ys/\R (.ok (.ret (.ref (zl4 s.heap a b).objs.size))) { s with heap:=zl5 s.heap a b }):=
 .of_wp fun P1 w1 A1 R s ⟨ta,tb,h⟩=>by
  cases s with
  |mk hp gs dd tk os=>
  have sub:=sub_zip;have t1:Heap.IsTuple hp a xs:=ta;have t2:Heap.IsList (hp.push (xV a)) b ys:=by obtain⟨o,q,r⟩:=tb;exact⟨o,ada _ q,r⟩
  wp_walk using agD t1,afv t2
  exact⟨_,rfl,h⟩
section
variable{w:World}{s:Shared}
def DQ{b:Addr}(ta:s.heap.IsTuple a xs)(tb:s.heap.IsList b ys)
  (h:∀h',(∀c o,s.heap.get? c=some o->h'.get? c=some o)->h'.get? s.heap.objs.size=some (xV a)->h'.get? (s.heap.objs.size+1)=some (LS b)->IsPair h' (s.heap.objs.size+2) (.ref s.heap.objs.size) (.ref (s.heap.objs.size+1))->IsPair h' (s.heap.objs.size+3) .none .none->
   IsZip h' (s.heap.objs.size+4) (s.heap.objs.size+2) (s.heap.objs.size+3) .none->Q (.ref (s.heap.objs.size+4)) { s with heap:=h' }):wpAny (model prog w) A (call (.type "zip") [.ref a,.ref b]) Q E s:=by
 refine callType_new F.called_zip ⋯ (F.typeCall_zip_2 _ _) (F.newCall_zip_2 _ _) (fun obj=>F.args_object_init_3 obj _ _) F.entry_zip_new (FF a b xs ys) ⟨ta,tb,?_⟩;have z1:(s.heap.push (xV a)).objs.size=s.heap.objs.size+1:=aew ..;have z2:(zl2 s.heap a b).objs.size=s.heap.objs.size+2:=by rw[aew,z1]
 have z3:(zl3 s.heap a b).objs.size=s.heap.objs.size+3:=by rw[aew,z2]
 have z4:(zl4 s.heap a b).objs.size=s.heap.objs.size+4:=by rw[aew,z3]
 have up:∀{h:Heap}{o p:Obj}{c:Addr},h.get? c=some o->(h.push p).get? c=some o:=fun e=>ada _ e;have g0:(zl5 s.heap a b).get? s.heap.objs.size=some (xV a):=up (up (up (up (ado _ rfl))));have g1:(zl5 s.heap a b).get? (s.heap.push (xV a)).objs.size=some (LS b):=up (up (up (ado _ rfl)));have g2:(zl5 s.heap a b).get? (zl2 s.heap a b).objs.size=some (BA (.ref s.heap.objs.size) (.ref (s.heap.push (xV a)).objs.size)):=up (up (ado _ rfl));have g3:(zl5 s.heap a b).get? (zl3 s.heap a b).objs.size=some (BA .none .none):=up (ado _ rfl);have g4:(zl5 s.heap a b).get? (zl4 s.heap a b).objs.size=some (Na (zl2 s.heap a b).objs.size (zl3 s.heap a b).objs.size):=ado _ rfl;rw[z1]at g1;rw[z2,z1]at g2;rw[z3]at g3;rw[z4,z2,z3]at g4;have q:=h (zl5 s.heap a b) (fun c o e=>up (up (up (up (up e))))) g0 g1 g2 g3 g4;refine⟨⟨_,by rw[z4];exact g4,rfl⟩,?_⟩;rw[z4];exact q
end
section
variable{w:Wo}{ae be:Expr}{f:Ax}
theorem Ib{xs ys:Z3}{O:Addr->Option Addr}(p:ZQ (fun a o=>w.s.heap.get? a=some o) s'.heap us xs ys):∀{F:Fz}{ps qs:Y2},Nw X w ⟨F,O,m,s'⟩ h->(∀a,w.s.heap.get? a=none->a∉m/\O a=none)->ay X.toSC F m ps xs->ay X.toSC F m qs ys->∃F',Nw X w ⟨F',O,m,s'⟩ h/\(∀a o,F a=some o->F' a=some o)/\ay X.toSC F' m (Yh ps qs) us:=by
 induction p with
 |l=>intro F ps qs n _ r1 r2;cases r1;exact⟨F,n,fun _ _ e=>e,by unfold Yh;exact .nil⟩
 |r=>intro F ps qs n _ r1 r2;cases r1;cases r2;exact⟨F,n,fun _ _ e=>e,by unfold Yh;exact .nil⟩
 |@cons a x y us xs ys na pr p ih=>
  intro F ps qs n fr r1 r2
  cases r1 with
  |cons r1 t1=>
   cases r2 with
   |cons r2 t2=>
    have na':w.s.heap.get? a=none:=by
     cases q:w.s.heap.get? a with
     |none=>rfl
     |some o=>exact absurd q (na o)
    obtain⟨F1,n1,k1,e1⟩:∃F1,Nw X w ⟨F1,O,m,s'⟩ h/\(∀a o,F a=some o->F1 a=some o)/\F1 a=some { cls:=.type "tuple",data:=.seq #[x,y] }:=by
     cases q:F a with
     |none=>exact⟨_,Nw.freeze (w1:=⟨F,O,m,s'⟩) n na' ⟨pr,(fr a na').1,q,(fr a na').2⟩,dw q,bv⟩
     |some o=>
      have:=n.2.at (a:=a) q;have pr':s'.heap.get? a=some { cls:=.type "tuple",data:=.seq #[x,y] }:=pr;rw[show s'.heap.get? a=some o from this]at pr'
      cases pr'
      exact⟨F,n,fun _ _ e=>e,q⟩
    obtain⟨F2,n2,k2,r⟩:=ih n1 fr (t1.mono k1 (.inr fun _ _ e=>e)) (t2.mono k1 (.inr fun _ _ e=>e));have up:∀b o,F b=some o->F2 b=some o:=fun b o e=>k2 _ _ (k1 _ _ e);refine⟨F2,n2,up,?_⟩;unfold Yh;exact .cons (.tup (k2 _ _ e1) (by show 2<=sizeLine;decide) (.cons (r1.mono up (.inr fun _ _ e=>e)) (.cons (r2.mono up (.inr fun _ _ e=>e)) .nil))) r
def EZ(g1:Gl X "list")(m1:X.mg "list"=none)(g2:Gl X "zip")(m2:X.mg "zip"=none)(ha:RA X [ae,be] f)(hc:(X.calm=true)\1)(hs:(starEach [ae,be] X.env=(false,eval ae X.env)::starEach [be] X.env)\1)(WY:((backTo p2 (starEach [be] X.env)).any (·.1)=false)\1)
  (he:(starEach [.Call (.Name "zip" p1) [ae,be] [] p2] X.env= [(false,eval (.Call (.Name "zip" p1) [ae,be] [] p2) X.env)])\1) (hp:((backTo pos (starEach [] X.env)).any (·.1)=false)\1):
  RE X (.Call (.Name "list" p0) [.Call (.Name "zip" p1) [ae,be] [] p2] [] pos) (cN tE f):=⟨fun{w ρ h Q E} I p=>by
 refine adV (I.blt g1 m1 (show bootBuiltins "list"=some (.type "list") by decide+kernel) (callWith_type1 ?_ he hp) ⋯ ⋯);rw[he];refine(show wpAny _ _ (spliced ((false,eval (.Call (.Name "zip" p1) [ae,be] [] p2) X.env)::[])) _ _ _ from afT ?_);refine adV (I.blt g2 m2 (show bootBuiltins "zip"=some (.type "zip") by decide+kernel) (callWith_type1 (ha.r p2 I (p.bind fun w1 h1 ps us y r k=>?_)) hs WY) ⋯ ⋯);unfold tE at k
 split at k
 .split at k
  .rename_i ys e;obtain⟨u,v,rfl,r1,r2⟩:=r.two;obtain⟨b,jts,rfl,⟨n2,t2⟩,z2,rr2⟩:=y.2.sq r2 (gS e)
   cases r1 with
   |tup e1 z1 rr1=>
    rename_i a its n;have t1:=y.2.at e1;have la:=adE t1;have lb:=adE t2;refine DQ (a:=a) (b:=b) (xs:=its) (ys:=jts) ⟨_,t1,rfl,_,rfl⟩ ⟨_,t2,rfl,_,rfl⟩ fun h' kk q0 q1 q2 q3 q4=>af5 ?_;have Z:=Hl w1.s.heap.objs.size a b la lb;have sz:∀{c o},h'.get? c=some o->c<h'.objs.size:=fun q=>adE q
    have nx:∀c,w1.s.heap.objs.size<=c->w1.s.heap.get? c=none:=fun c ge=>by
     cases q:w1.s.heap.get? c with
     |none=>rfl
     |some o=>exact absurd (adE q) (Nat.not_lt.mpr ge)
    have hd:=I.ok.hd hc;refine DR (h0:=w1.s.heap) (s:={ w1.s with heap:=h' }) Z (MC (A:=X.A.in1.in1) (items:=its) hd (aek la)) (Draws.list (A:=X.A.in1.in1.in1) hd (w1.s.heap.objs.size+1) b (aek (ae5 lb)) jts) (fun c hc=>?_) (fun c hc=>?_) q4 ⟨_,_,q3⟩ q2 ⟨⟨_,q0,rfl,rfl⟩,⟨_,kk _ _ t1,rfl,_,rfl⟩⟩ ⟨⟨_,q1,rfl,rfl⟩,⟨_,kk _ _ t2,rfl,_,rfl⟩⟩ kk z1 fun h3 t3 us c k3 d3 p3=>?_
    .simp only[ac8,adH,or_false]at hc;rcases hc with rfl|rfl|rfl|rfl|rfl|rfl|rfl
     .exact sz q4
     .exact sz q2
     .exact sz q3
     .exact sz q0
     .exact sz q1
     .exact sz (kk _ _ t1)
     .exact sz (kk _ _ t2)
    .simp only[ac8,adH,or_false]at hc;rcases hc with rfl|rfl|rfl|rfl
     .exact nx _ (ag3 _ _)
     .exact nx _ (ag3 _ _)
     .exact nx _ (adK _)
     .exact nx _ (afA _)
    .have na:w1.s.heap.get? h'.objs.size=none:=by
      cases q:w1.s.heap.get? h'.objs.size with
      |none=>rfl
      |some o=>exact absurd (adE (kk _ _ q)) (adR _)
     have n0:=Nw.also (X:=X) (s':={ w1.s with heap:=h3,toks:=t3 }) y.2 k3;obtain⟨F',n1,up,rp⟩:=Ib (s':={ w1.s with heap:=h3,toks:=t3 }) p3 n0 (fun a q=>⟨(y.2.free q).1,(y.2.free q).2.2⟩) rr1 rr2;have fr:=y.2.free na
     obtain⟨F2,n2,up2,e2⟩:∃F2,Nw X w1 ⟨F2,w1.O,w1.m,{ w1.s with heap:=h3,toks:=t3 }⟩ h1/\(∀a o,F' a=some o->F2 a=some o)/\F2 h'.objs.size=some { cls:=.type "list",data:=.seq us.toArray c }:=by
      cases q:F' h'.objs.size with
      |none=>exact⟨_,Nw.freeze (w1:=⟨F',w1.O,w1.m,{ w1.s with heap:=h3,toks:=t3 }⟩) n1 na ⟨d3,fr.1,q,fr.2.2⟩,dw q,bv⟩
      |some o=>
       have d3':h3.get? h'.objs.size=some { cls:=.type "list",data:=.seq us.toArray c }:=d3;rw[show h3.get? h'.objs.size=some o from n1.2.at (a:=h'.objs.size) q]at d3'
       cases d3'
       exact⟨F',n1,fun _ _ e=>e,q⟩
     have ul:us.length<=its.size:=by rw[<- rp.length,Bg,rr1.len];exact ahi _ _
     exact k.2 _ _ n2 (.lst e2 (by simp;lia) (by simpa using rp.mono up2 (.inr fun _ _ e=>e)))
  .exact k.elim
 .exact k.elim⟩
end
section
variable{it:Ax}{tp:Pos}{y:Str}{M:Zl}
def wE{Yk Yj:Pos}{nm:Str}(S:fZ X.N X.env.scope scope j8 [x,y] M)(hi:RI X (.Tuple [.Name x tp,.Name y Yk] k Yj) iter it)(ht:∀cl C,Ys (br X M scope cl C) ifs tt)(he:∀cl C,RE (br X M scope cl C) elt te)(hy:X.N[iy]? =some nm)(Zi:X.env.scope.names.lookup nm=some .local)(Zg:swapsWith (.ListComp elt [⟨.Tuple [.Name x tp,.Name y Yk] k Yj,iter,ifs,0⟩] scope pos) (some (.Name nm py)) T6.line X.env=pure true)(hc:(X.calm=true)\1)(hg:∀cl C,RG (br X M scope cl C) (.Tuple [.Name x tp,.Name y Yk] k Yj) g2:=by exact fun _ _=>wH rfl (iX gU (iX gU rX)))
  (hs:(∀y,foldedSetIterable iter X.env y=pure y)\3):RS X (.Assign [.Name nm py] (.ListComp elt [⟨.Tuple [.Name x tp,.Name y Yk] k Yj,iter,ifs,0⟩] scope pos) T6) (aH iy (cN T3 (gT j8 it tt te))):=by
 have q:=qS (pos:=pos) (py:=py) j8 hc S hi hg ht he Mr hy Zi Zg hs;have z:eT 2 g2 j8 it tt te=gT j8 it tt te:=by funext ρ h;simp only[eT,gT,xz]
 exact z▸q
end
noncomputable def Rh:PyData->Bool
 |.list _=>true
 |.tuple _=>true
 |_=>false
def okR(d:PyData):Bool:=d.canLay0&&!d.hasDict&&decide (d.depth<=60)&&d.showable&&decide (d.shown.length<=sizeLine)&&Rh d
def yF(ps:Y2)(h:Y3):Res PV:=match ps with
 |[p]=>if okR (TV h p)=true then .ok (.str (TV h p).shown.cps.toList) h else .bad
 |_=>.bad
def LD(hg:X.A.guards=some [])(hu:X.A.units+64<cLine):Xl X (.builtin "repr") yF:=fun ok {w h p u Q E} I rs p=>by
 unfold yF at p
 split at p
 .obtain⟨u,rfl,r1⟩:=rs.one
  split at p
  .rename_i cc;simp only[okR,ac7,decide_eq_true_eq,afy]at cc;obtain⟨⟨⟨⟨⟨c,hd⟩,h3⟩,q⟩,z⟩,sq⟩:=cc;show Wp X (call (.builtin "repr") [u]) Q E w.s;obtain⟨as,r⟩:=I.toHR.reads r1 c;generalize TV h _=d at*;have k:∃a,u=.ref a:=by cases r<;>first|exact⟨_,rfl⟩|cases sq
   obtain⟨a,rfl⟩:=k;refine repr_of_reads' r q (fun z=>by rw[hd]at z;cases z) hg ⋯ (fun _ _ e=>e) (fun h' u tk hk=>?_) z;have n:=Nw.also (X:=X) (s':={ w.s with heap:=h',toks:=tk }) I.toHR hk;refine p.2 _ _ n ?_;have:= @aQ.str X.toSC w.F w.m d.shown.cps.toList u;rw[MS]at this;exact this
  .exact p.elim
 .exact p.elim
noncomputable def Gy:PV->Bool
 |.int _=>true
 |.str _=>true
 |.bl _=>true
 |.non=>true
 |_=>false
def Cg:PO->Bool
 |.lst xs=>xs.all Gy
 |_=>false
def cQ(j:Nat)(f:Ex):Ex:=fun ρ h=>match ρ[j]? with
 |some (some (.ref i))=>match h[i]? with
  |some (.lst xs)=>if am xs=true then match f ρ (h.set i (.E_ (.lst xs)))with
    |.ok .non h2=>if((List.range h.length).all fun k=>k==i||match h2[k]? with|some o=>Cg o|none=>false)=true then .ok .non ((h2.take h.length).set i (.lst xs))else .bad
    |_=>.bad
   else .bad
  |_=>.bad
 |_=>.bad
section
variable{F F':Fz}{m':Zs}
def Gw(r:aQ G F m p u)(h:Gy p=true):aQ G F' m' p u:=by
 cases p<;>first|(cases h;done)|skip
 all_goals cases r
 .exact .non
 .exact .bl _
 .exact .int _ _
 .exact .str _ _
theorem vB:∀{ps:Y2}{us:Z3},ay G F m ps us->ps.all Gy=true->ay G F' m' ps us:=by
 intro ps
 induction ps with
 |nil=>intro _ r _;cases r;exact .nil
 |cons _ _ ih=>intro _ q h;obtain _|⟨r,t⟩:=q;rw[aeK,ac7]at h;exact .cons (Gw r h.1) (ih t h.2)
end
section
variable{w w2:Wo}{h2:Y3}{xs:Y2}
def Nw.acF(H:HR X.toSC w h)(em:w.m[i]? =some a)(hi:h[i]? =some (.lst xs))(hf:w.F a=none)(e:w.s.heap.get? a=some { cls:=.type "list",data:=.seq its n })(z:its.size<=sizeLine)(r:ay X.toSC w.F w.m xs its.toList)(y:Nw X ⟨iD w.F a { cls:=.type "list",data:=.seq its n },w.O,w.m,w.s⟩ w2 h2)
  (fl:∀k,k<h.length->k≠i->∃o,h2[k]? =some o/\Cg o=true):Nw X w ⟨w.F,w.O,w.m,w2.s⟩ ((h2.take h.length).set i (.lst xs)):=by
 have up:=dw (o:={ cls:=.type "list",data:=.seq its n }) hf;have fz:∀b x,w.F b=some x->w2.s.heap.get? b=some x:=fun b x q=>y.2.sub b x (y.1.fz b x (up b x q));obtain⟨t,pr⟩:=y.1.pre;have pr':w2.m=w.m++t:=pr;have ln:h.length<=h2.length:=by rw[y.2.len,pr',H.len,acZ];lia
 refine⟨⟨y.1.os,y.1.ba,fun _ _ e=>e,fun _ _ e=>e,⟨[],by simp⟩,y.1.dom,fun b x q _=>?_⟩,fz,fun d b q=>let⟨⟨x,e⟩,z⟩:=H.own d b q;⟨y.1.dom _ _ e,z⟩,?_,H.nd,fun k po b e1 e2=>?_⟩
 .have nb:b≠a:=fun z=>q.2.1 (z▸adw em);obtain⟨sl,q',z⟩:=y.1.keep b x ⟨q.1,q.2.1,dI nb q.2.2.1,q.2.2.2⟩ fun z=>z;exact⟨sl,⟨q'.1,q.2⟩,z⟩
 .show((h2.take h.length).set i (.lst xs)).length=w.m.length;rw[ahk,adU,<- H.len];lia
 .have e2':w.m[k]? =some b:=e2
  by_cases c:k=i
  .subst c;rw[em]at e2';cases e2';rw[aeR (by rw[adU];have:=(ac9.mp hi).1;lia)]at e1
   cases e1
   exact⟨hf,its,n,y.2.sub _ _ (y.1.fz _ _ bv),z,r⟩
  .have kl:k<h.length:=by rw[H.len];exact(ac9.mp e2').1
   rw[aeL (aem c),List.getElem?_take,if_pos kl]at e1;obtain⟨o,o1,o2⟩:=fl k kl c;rw[o1]at e1;cases e1;have em2:w2.m[k]? =some b:=by rw[pr',ady (by rw[<- H.len];exact kl)];exact e2'
   have ob:=y.2.obj k _ b o1 em2
   cases po with
   |lst ps=>
    obtain⟨f2,Zf,n2,g,z2,r2⟩:=ob;refine⟨?_,Zf,n2,g,z2,vB r2 o2⟩
    cases q:w.F b with
    |none=>rfl
    |some x=>rw[y.1.fz b x (up b x q)]at f2;cases f2
   |_=>cases o2
def Qd{e:Expr}{f:Ex}(j:Nat)(hr:RE X e f):RE X e (cQ j f):=⟨fun{w ρ h Q E} I p=>by
 unfold cQ at p
 split at p
 .rename_i i hj
  split at p
  .rename_i xs hi
   split at p
   .rename_i pu;obtain⟨mm,ol,nl,hl,l⟩:=I.loc;obtain⟨x,u,e2,r2,l2⟩:=l j _ hj
    cases r2 with
    |@ref _ a em=>
     obtain⟨hf,its,n,e1,z,r⟩:=I.obj _ _ _ hi em;have rr:aQ X.toSC (iD w.F a ({ cls:=.type "list",data:=.seq its n })) w.m (.lst xs) (.ref a):=.lst bv z (r.mono (dw hf) (.inr fun _ _ e=>e));have n0:=I.toHR.fix (X:=X) em hf e1 rr (by simpa[PV.pure]using pu);have I':=I.on n0;refine hr.r (w:=⟨iD w.F a ({ cls:=.type "list",data:=.seq its n }),w.O,w.m,w.s⟩) I' ?_
     split at p
     .rename_i h2 ef;rw[ef]
      split at p
      .rename_i ok;refine⟨p.1,fun w2 v y rv=>?_⟩
       cases rv
       have fl:∀k,k<h.length->k≠i->∃o,h2[k]? =some o/\Cg o=true:=fun k kl c=>by
        have q:=adn.mp ok k (aeu.mpr kl);rw[ad8]at q;rcases q with q|q
        .exact(c (agY q)).elim
        .cases z:h2[k]? with
         |none=>rw[z]at q;cases q
         |some o=>rw[z]at q;exact⟨o,rfl,q⟩
       exact p.2 ⟨w.F,w.O,w.m,w2.s⟩ _ (Nw.acF I.toHR em hi hf e1 z r y fl) .non
      .exact p.elim
     .exact p.elim
   .exact p.elim
  .exact p.elim
 .exact p.elim⟩
end
def eO(x y:Y1):Ya:=(Txt.split (S x) (S y)).map fun z=>z.cps.toList
def tz(x y:Y1):Ya:=[(Txt.partition (S x) (S y)).1.cps.toList,(Txt.partition (S x) (S y)).2.1.cps.toList,(Txt.partition (S x) (S y)).2.2.cps.toList]
def qy(x y:Y1)(i:Int):Int:=Txt.find3 (S x) (S y) i
def mJ(x y:Y1):Bool:=Txt.startswith (S x) (S y)
def tD(p:PV)(ps:Y2)(h:Y3):Res PV:=match p,ps with
 |.str x,[.str y]=>if y≠ []/\x.length+2<=sizeLine then .ok (.lst ((eO x y).map PV.str)) h else .bad
 |_,_=>.bad
def yG(p:PV)(ps:Y2)(h:Y3):Res PV:=match p,ps with
 |.str x,[.str y]=>if y≠ []/\x.length<=sizeLine then .ok (.tup ((tz x y).map PV.str)) h else .bad
 |_,_=>.bad
def wU(p:PV)(ps:Y2)(h:Y3):Res PV:=sKq p fun x=>oQ2 ps fun q r=>sKq q fun y=>match r with
 |.int i=>.ok (.int (qy x y i)) h
 |_=>.bad
def gV(p:PV)(ps:Y2)(h:Y3):Res PV:=sKq p fun x=>oQ1 ps fun q=>sKq q fun y=>.ok (.bl (mJ x y)) h
section
open PySem.Builtin PySem.Builtin.Str
section
variable{w:Wo}
def MU(z:Str):S z.cps.toList=z:=by cases z;simp[S]
theorem wI{F:Fz}{m:Zs}:∀l:List (Str×Tok),ay G F m ((l.map fun z=>z.1.cps.toList).map PV.str) (strValues l)
 |[]=>.nil
 |(x,t)::r=>.cons (by have:=aQ.str (G:=G) (F:=F) (m:=m) x.cps.toList t;rwa [MU]at this) (wI r)
def FN:Yt X "str.find" wU:=fun{w h p u ps us Q E} I r rs k=>by
 replace k:=sKq_ k;obtain⟨x,rfl,k⟩:=k;replace k:=oQ2_ k;obtain⟨q,r',rfl,k⟩:=k;replace k:=sKq_ k;obtain⟨y,rfl,k⟩:=k
 split at k
 .cases r
  cases rs with
  |cons r1 t=>cases t with
   |cons r2 t=>cases t;cases r1;cases r2;exact SC.find3 (k.now I.toHR (.int _ _))
 .exact k.elim
def Dt:Yt X "str.startswith" gV:=fun{w h p u ps us Q E} I r rs k=>by
 replace k:=sKq_ k;obtain⟨x,rfl,k⟩:=k;replace k:=oQ1_ k;obtain⟨q,rfl,k⟩:=k;replace k:=sKq_ k;obtain⟨y,rfl,k⟩:=k;obtain⟨_,rfl⟩:=r.vs;obtain⟨v,rfl,rv⟩:=rs.one;obtain⟨_,rfl⟩:=rv.vs;exact SC.startswith (k.here I.toHR (.bl _))
theorem JW{y:Y1}(h:y≠ []):((S y).length==0)=false:=by
 rw[db];cases y with
 |nil=>exact absurd rfl h
 |cons a r=>rfl
def FK:Yt X "str.split" tD:=fun{w h p u ps us Q E} I r rs k=>by
 unfold tD at k
 split at k
 .rename_i x y
  split at k
  .rename_i hz
   cases r
   rename_i t;obtain⟨v,rfl,rv⟩:=rs.one
   cases rv
   rename_i t2;have hy:=JW hz.1;have sz:(S x).length+2<=sizeLine:=by rw[db];exact hz.2
   have fin:∀(l:List (Str×Tok))(tk:Nat),l.map (·.1)=Txt.split (S x) (S y)->l.length<=sizeLine->Q (.ref w.s.heap.objs.size) { w.s with heap:=w.s.heap.push { cls:=.type "list",data:=.seq (strValues l).toArray },toks:=tk }:=by
    intro l tk e hl
    have r:ay X.toSC w.F w.m ((eO x y).map PV.str) (strValues l):=by have:=wI (G:=X.toSC) (F:=w.F) (m:=w.m) l;unfold eO;rw[<- e,adB (l:=l)];exact this
    refine k.Y7 (its:=(strValues l).toArray) I.toHR (aW _) (fun b o e=>ada _ e) (ado _ rfl) rfl (by simpa using r) ?_;have:=r.length;rw[ac2]at this;rw[aen,<- this];unfold eO;rw[ac2,<- e,ac2];exact hl
   have hn:(partsBetween (S x) (occurrences (S x) (S y) 0 (S x).length ((S x).length+1)) (S y).length).length<=sizeLine:=by have e1:=aho (S x) (S y) 0 (S x).length ((S x).length+1);rw[ahF];lia
   cases h1:(decide ((S x).length<(S y).length)||decide (strKind (S x)<strKind (S y)))
   .cases hf:(occurrences (S x) (S y) 0 (S x).length ((S x).length+1)).isEmpty
    .refine afa F.slot_str_split (agf _ _ _) F.entry_str_split (F.args_str_split_2 _ _) (meets_str_split_sep (S x) (S y) t t2 h1 hy hf ⋯ hn) ?_;show wants Q E _ { w.s with toks:=_,heap:=w.s.heap.push { cls:=.type "list",data:=.seq (strsFrom w.s.toks (partsBetween (S x) (occurrences (S x) (S y) 0 (S x).length ((S x).length+1)) (S y).length)).toArray } };rw[strsFrom_eq];have nt:=numbered_texts w.s.toks (partsBetween (S x) (occurrences (S x) (S y) 0 (S x).length ((S x).length+1)) (S y).length);refine fin (numbered w.s.toks _) _ (nt.trans ((if_neg (ne_true_of_eq_false h1)).trans (if_neg (ne_true_of_eq_false hf))).symm) ?_;have:=congrArg List.length nt;rw[ac2]at this;rw[this];exact hn
    .exact afa F.slot_str_split (agf _ _ _) F.entry_str_split (F.args_str_split_2 _ _) (meets_str_split_not_found (S x) (S y) t t2 h1 hy hf)
      (fin [(S x,t)] w.s.toks ((if_neg (ne_true_of_eq_false h1)).trans (if_pos hf)).symm (by show 1<=sizeLine;decide))
   .exact afa F.slot_str_split (agf _ _ _) F.entry_str_split (F.args_str_split_2 _ _) (meets_str_split_cannot_occur (S x) (S y) t t2 h1)
     (fin [(S x,t)] w.s.toks (if_pos h1).symm (by show 1<=sizeLine;decide))
  .exact k.elim
 .exact k.elim
def Iz:Yt X "str.partition" yG:=fun{w h p u ps us Q E} I r rs k=>by
 unfold yG at k
 split at k
 .rename_i x y
  split at k
  .rename_i hz
   cases r
   rename_i t;obtain⟨v,rfl,rv⟩:=rs.one
   cases rv
   rename_i t2;have hy:=JW hz.1;refine afa F.slot_str_partition (agf _ _ _) F.entry_str_partition (F.args_str_partition_2 _ _) (meets_str_partition (S x) (S y) t t2 hy (by rw[db];exact hz.2)) ?_
   have fin:∀(a b c:Str)(ta tb tc:Tok)(tk:Nat),Txt.partition (S x) (S y)=(a,b,c)->Q (.ref w.s.heap.objs.size) { w.s with toks:=tk,heap:=w.s.heap.push { cls:=.type "tuple",data:=.seq [.str a ta,.str b tb,.str c tc].toArray } }:=by intro a b c ta tb tc tk e;have r:=wI (G:=X.toSC) (F:=w.F) (m:=w.m) [(a,ta),(b,tb),(c,tc)];refine k.Y7 (its:=[.str a ta,.str b tb,.str c tc].toArray) I.toHR (aW _) (fun b o e=>ada _ e) (ado _ rfl) rfl ?_ (by show 3<=sizeLine;decide);unfold tz;rw[e];exact r
   cases e:occurrences (S x) (S y) 0 (S x).length 1 with
   |nil=>exact fin (S x) Str.empty Str.empty _ _ _ _ (by unfold Txt.partition;rw[e])
   |cons i r=>exact fin _ _ _ _ _ _ _ (by unfold Txt.partition;rw[e])
  .exact k.elim
 .exact k.elim
end
end
def vd(p:PV)(ps:Y2)(h:Y3):Res PV:=match ps with
 |[]=>match iZ h p with
  |some (i,xs)=>match xs.getLast? with
   |some v=>.ok v (h.set i (.lst xs.dropLast))
   |none=>.bad
  |none=>.bad
 |_=>.bad
def cM0(recv:Y3->PV->Bool)(g:PV->Y2->Y3->Res PV)(fo:Ex):Ex:=fun ρ h=>(fo ρ h).bind fun p h1=>if recv h1 p=true then g p [] h1 else .bad
noncomputable def bq(f:Sx)(np n:Nat)(ps:Y2)(h:Y3):Res PV:=if ps.length=np then match f (ps.map some++List.replicate (n - ps.length) none) h with
  |.nx _ h1=>.ok .non h1
  |.rt v h1=>.ok v h1
  |.exc e h1=>.exc e h1
  |_=>.bad
 else .bad
section
variable{g:Sx}
def OT{np N:Nat}(qs:Y2)(h:Y3)(z:bq g np N qs h≠.bad):qs.length=np/\F9 h.length (g (st0 N qs) h) (bq g np N qs h):=by
 unfold bq at z |-
 split at z
 .rename_i l;rw[if_pos l];refine⟨l,?_⟩;unfold st0
  split at z<;>rename_i e<;>(try rw[e])
  .exact .al
  .exact .ra
  .exact .xa
  .exact absurd rfl z
 .exact absurd rfl z
def Lk{Ty:String}{id:String}{g:PV->Y2->Y3->Res PV}{TG:Pos}(ty:TyM X Ty recv)(pa:PlainAttrs Ty)(slot:Slot Ty name id)(hty:typeOf (.builtin id)=pure (.type "method_descriptor"))(hm:Yt X id g)
  (ho:RE X oe fo) (Xa:(attributeBase oe name X.env (eval oe X.env)=eval oe X.env)\1)
  (aaP:((backTo TG (starEach [] X.env)).all (fun x=>!x.1)&&(backToKw TG (keywordEach [] X.env)).all (fun x=>x.1.isSome)
   &&decide (([]:List Expr).length+([]:List Keyword).length+(if([]:List Keyword).isEmpty then 0 else 1)<30))=true:=by rfl)
  (hline:((apos.endLine==TG.line)=true)\1):RE X (.Call (.Attribute oe name apos) [] [] TG) (cM0 recv g fo):=⟨fun I p=>afY Xa aaP hline rfl (ho.r I (p.bind fun w1 h1 q u y r p=>by
 split at p
 .obtain⟨t1,t2⟩:=ty y.2 r ‹_›;exact⟨Ty,id,pa,slot,hty,t1,t2,af6 rfl (evalArgs_nil3 (hm (I.on y).toWd r .nil p))⟩
 .exact p.elim))⟩
theorem ay.split{G:SC}{F:Fz}{m:Zs}:∀{ps qs:Y2}{us:Z3},ay G F m (ps++qs) us->∃u1 u2,us=u1++u2/\ay G F m ps u1/\ay G F m qs u2
 |[],_,us,r=>⟨[],us,rfl,.nil,r⟩
 |p::ps,_,_,.cons r t=>let⟨u1,u2,e,a,b⟩:=ay.split (ps:=ps) t;⟨_::u1,u2,by rw[e];rfl,.cons r a,b⟩
def LN:Yt X "list.pop" vd:=fun{w h p u ps us Q E} I r rs k=>by
 unfold vd at k
 split at k
 .split at k
  .rename_i i xs ex
   split at k
   .rename_i v ev
    cases rs
    replace r:=I.toHR.ll r ex
    obtain⟨a,its,n,rfl,em,hf,e,z,r⟩:=r;obtain⟨us,rfl⟩:∃us,its=us.toArray:=⟨its.toList,by simp⟩
    obtain⟨ys,rfl⟩:∃ys,xs=ys++ [v]:=List.getLast?_eq_some_iff.mp ev;obtain⟨u1,u2,rfl,r1,r2⟩:=ay.split r;obtain⟨y,rfl,ry⟩:=r2.one;refine afa F.slot_list_pop ⟨_,e,rfl⟩ F.entry_list_pop (F.args_list_pop_1 _) (MeetsSeq.list_pop_last a _ n y (by simp) z) ⟨e,?_⟩;exact k.2 _ _ (Nw.Z_ (Ti:=u1.toArray) (tk:=w.s.toks) I.toHR em hf e (by simp[Obj.mapSeq,Array.eraseIdxIfInBounds];exact⟨by rw[List.eraseIdx_append_of_length_le (adK _)];simp,rfl⟩) (by simp at z |-;lia) (by simpa using r1)) ry
   .exact k.elim
  .exact k.elim
 .exact k.elim
end
def Jz(f g:Ex):Ex:=fun ρ h=>(f ρ h).bind fun p h1=>match jl h1 p with
 |some b=>if b=true then .ok p h1 else g ρ h1
 |none=>.bad
section
variable{a b:Expr}{rest:List Expr}
theorem Lb(ha:RE X a fa)(hb:RE X (.BoolOp .Or (b::rest) pos) fb):RE X (.BoolOp .Or (a::b::rest) pos) (Jz fa fb):=⟨fun{w ρ h Q E} I p=>BoolOp_or (ha.r I (p.bind fun w1 h1 q u y r p=>by
 cases e:jl h1 q with
 |none=>rw[e]at p;exact p.elim
 |some c=>
  rw[e]at p
  have ep:X.Ep E:=by
   cases c
   .have p:bG X (RV X.toSC) w1 Q E (fb ρ h1):=p
    cases z:fb ρ h1<;>rw[z]at p<;>first|exact p.1|exact p.elim
   .exact p.1
  refine(I.on y).toWd.tru r e ⟨ep,?_⟩
  .intro w2 d y2 ed;subst ed
   cases c
   .exact hb.r ((I.on y).on y2) (p.step y2)
   .exact p.2 _ _ y2 (y2.1.rep r)))⟩
def GDs(S:SC)(x:Str)(D:List (Y1×Y1)):Prop:=∃a o kvs,S.mg x=some (.ref a)/\S.base.get? a=some o/\DO S o kvs/\(a==sysModules)=false/\kvs.length<=sizeLine/\kvs.map (·.1)=D.map (fun p=>Sum.inr p.1)/\∀F m,ay S F m (D.map fun p=>.str p.2) (kvs.map (·.2))
def glD(h:GDs X.toSC x D)(hg:Gl X x\1)(hd:nD0 x\2):RE X (.Name x pos) (cK (.dct (D.map fun p=>(.inr p.1,.str p.2)))):=by obtain⟨_,_,_,a,b,d,sm,z,k,r⟩:=h;exact rY hg a (fun F m q=>.dct (q _ _ b) d sm z (by rw[k,adB];rfl) (by rw[adB];exact r F m)) hd
def GK(w:World):List (Y1×Y1)->List DictEntry->Prop
 |[],[]=>True
 |p::D,e::es=>(∃t u,e=⟨hashStr w (Z.S p.1),.str (Z.S p.1) t,.str (Z.S p.2) u⟩)/\GK w D es
 |_,_=>False
def oh{w:World}{h:Int}{k v:Str}{t u:Tok}{l m:Y1}(e:h=hashStr w k)(a:k=Z.S l)(b:v=Z.S m):∃y z,(⟨h,.str k t,.str v u⟩:DictEntry)=⟨hashStr w (Z.S l),.str (Z.S l) y,.str (Z.S m) z⟩:=⟨t,u,by rw[e,a,b]⟩
def Ki{a:Addr}{ep:Nat}{es:List DictEntry}(hm:G.mg x=some (.ref a))(lk:G.base.get? a=some ⟨.type "dict",none,.dict es.toArray ep, #[]⟩)(ns:(a==sysModules)=false)(nd:(D.map (·.1)).Nodup)(hl:D.length<=sizeLine)(r:GK G.w D es):GDs G x D:=by
 have main:∀(D:List (Y1×Y1))(es:List DictEntry),GK G.w D es->
   ∃vs:List (PK×Value),(∀e∈es,∃k,(pk G.prog G.w).is k e.key=true/\e.hash=(pk G.prog G.w).hash k)/\Pairs (pk G.prog G.w) es vs/\vs.map (·.1)=D.map (fun p=>Sum.inr p.1)/\∀F m,ay G F m (D.map fun p=>.str p.2) (vs.map (·.2)):=by
  intro D
  induction D with
  |nil=>
   intro es r
   cases es with
   |nil=>exact⟨[],by simp,.nil,rfl,fun _ _=>.nil⟩
   |cons _ _=>exact r.elim
  |cons p D ih=>
   intro es r
   cases es with
   |nil=>exact r.elim
   |cons e es=>
    obtain⟨⟨t1,u1,rfl⟩,r⟩:=r;obtain⟨vs,i1,i2,i3,i4⟩:=ih es r;have is1:kIs (.inr p.1) (.str (Z.S p.1) t1)=true:=by simp[kIs,Value.isStrOf]
    refine⟨(.inr p.1,.str (Z.S p.2) u1)::vs,fun e he=>?_,.cons is1 rfl i2,by rw[ac5,ac5,i3],fun F m=>.cons (.str _ _) (i4 F m)⟩;rcases ac8.mp he with rfl|he
    .exact⟨.inr p.1,is1,rfl⟩
    .exact i1 e he
 obtain⟨vs,i1,i2,i3,i4⟩:=main D es r;refine⟨a,_,vs,hm,lk,⟨⟨rfl,rfl,rfl⟩,es.toArray,ep,rfl,fun e he=>i1 e (by simpa using he),by simpa using i2,?_⟩,ns,?_,i3,i4⟩
 .rw[i3,show D.map (fun p=>(Sum.inr p.1:PK))=(D.map (·.1)).map Sum.inr by rw[adB];rfl];exact List.Pairwise.map _ (fun _ _ h z=>h (Sum.inr.inj z)) nd
 .have:=congrArg List.length i3;rw[ac2,ac2]at this;rw[this];exact hl
end
def Gp(x:Y1):Zp:=PySem.intText? (S x)
def BB(ps:Y2)(h:Y3):Res PV:=oQ1 ps fun p=>sKq p fun x=>match Gp x with
  |some n=>if x.length<=640 then .ok (.int n) h else .bad
  |none=>.bad
def gR(p:PV)(ps:Y2)(h:Y3):Res PV:=sKq p fun sep=>oQ1 ps fun q=>match q with
 |.tup xs=>match gz xs with
  |some ls=>if(ls.map (·.length)).sum+ls.length * sep.length<=16777216 then .ok (.str (aI sep ls)) h else .bad
  |none=>.bad
 |_=>.bad
def LG:Xl X (.type "int") BB:=fun ok {w h p u Q E} I rs k=>by
 replace k:=oQ1_ k;obtain⟨p,rfl,k⟩:=k;replace k:=sKq_ k;obtain⟨x,rfl,k⟩:=k;obtain⟨u,rfl,r⟩:=rs.one
 cases r
 split at k
 .rename_i e
  split at k
  .rename_i hl;exact W.KIN.call_text e (by rw[db];exact hl) (k.now I.toHR (.int _ _))
  .exact k.elim
 .exact k.elim
def FM:Yt X "str.join" gR:=fun{w h p u ps us Q E} I r rs k=>by
 replace k:=sKq_ k;obtain⟨sep,rfl,k⟩:=k;replace k:=oQ1_ k;obtain⟨q,rfl,k⟩:=k
 split at k
 .split at k
  .split at k
   .rename_i el hz
    cases r
    obtain⟨v,rfl,rv⟩:=rs.one;obtain⟨a,its,rfl,y,_,r⟩:=I.sq rv rfl;refine(join_tuple y.tup (kx ‹_› r) ?_ fun t' k'=>by rw[Bc];exact k.now I.toHR (.str _ _));rw[adB,ac2,db,show((fun x:Str=>x.length)∘S)=(·.length)from funext db];exact hz
   .exact k.elim
  .exact k.elim
 .exact k.elim
section
variable{w w3:Wo}
theorem EK{cat:Nat->Bool}{e:Expr}{suite:List Stmt}{b0:Stmt}{fe:Ex}{gs:Sx}{t:Str}{Ta:Addr}{tp adb adC:Pos}{outer:List Env}(adt:∀C Ca,cat C=true->X.T C=some Ca->W.exmOne X.K (.ref Ca) (.ref Ta)=some true)
  (hb:RE X.tried e fe) (hs:∀a,Xk (X.suite a) (b0::suite) gs) (hg:Gl X t) (hm:X.mg t=some (.ref Ta)) (stk:(X.stack=X.env::outer)\1) (hf:(X.env.frame=some X.env.locals)\1) (Ug:((t==("__debug__":Str))=false)\2):
  RS X (.Try [.Return (some e) adC] [.ExceptHandler (some (.Name t tp)) none (b0::suite) adb] [] [] pos) (yh cat (aL fe) gs):=⟨fun{w ρ h Q E} I p=>by
 refine wpAny_Try_except (agc (ah0 (hb.r I.tried ?_)));unfold yh aL eY gB at p
 cases z:fe ρ h with
 |ok v h1=>rw[z]at p;exact⟨trivial,fun w' x y r=>p.2 w' _ _ y.s (I.on y) r⟩
 |bad=>rw[z]at p;exact p
 |exc e h1=>
  rw[z]at p;refine⟨trivial,fun w' u y r=>?_⟩;dsimp only at p
  split at p
  .rename_i C pe ev
   split at p
   .rename_i hC;have I1:=I.on (X:=X) y;obtain⟨a,cls,dx,rfl,⟨⟨a0,B,fl,c1,c2⟩,d⟩,m⟩:=r;rcases fl with fl|⟨z,_⟩
    case inr=>cases z
    obtain⟨Ca,t1,rfl⟩:∃Ca,X.T C=some Ca/\cls=.ref Ca:=by
     unfold OU at ev
     split at ev<;>cases ev
     .obtain⟨Ca,h1,h2,_⟩:=m;exact⟨Ca,h1,h2⟩
     .obtain⟨Ca,_,_,_,_,h1,h2,_⟩:=m;exact⟨Ca,h1,h2⟩
    have fa:W3 w' a:=Classical.byContradiction fun z=>by obtain⟨o',q⟩:=c2 a z;have:=fl.2.1;rw[q]at this;cases this
    have na:w.s.heap.get? a=none:=by
     cases z:w.s.heap.get? a with
     |none=>rfl
     |some o'=>
      by_cases hb:a∈X.fs
      .obtain⟨o1,q,dd⟩:=I1.fr a hb;obtain⟨oe,vs,q1,_,q3,_⟩:=fl.first;have q:=q.1;rw[q1]at q;cases q;exact absurd q3 (dd vs)
      .obtain⟨o2,q⟩:=c1 a o' z hb;have:=fl.2.1;rw[q]at this;cases this
    have lands:∀h5,Heap.FlyingW B X.stack a (.ref Ca) a0 h5->w'.s.heap.UpToSlots h5->(∃o,h5.get? a=some o/\o.dict=dx)->Nw X w { w' with s:={ w'.s with heap:=h5 } } h1/\∃o vs,h5.get? a=some o/\o.cls=.ref Ca/\o.data=.fields vs/\o.dict=dx:=fun h5 fl5 up d5=>by refine⟨Kh (Y:=X) y.1 I1.toWd c1 c2 fl.1 fl5.1 up,?_⟩;obtain⟨oe,vs,q1,q2,q3,_⟩:=fl5.first;obtain⟨o',y1,y2⟩:=d5;rw[q1]at y1;cases y1;exact⟨oe,vs,q1,q2,q3,y2⟩
    have hfr:X.A.frames=some (X.env::outer):=stk▸I.ok.frames;have fl':=fl;rw[stk]at fl';refine yZ (pj _ _) d (wpAny_looks_onW hfr hf fl' fun h4 held up4 d4=>yZ (kQ _ _) d4 (wpAny_landsW held fun h5 fl5 up5 d5=>?_));rw[<- stk]at fl5;obtain⟨n5,o5,vs5,q1,q2,q3,q4⟩:=lands h5 fl5 (up4.trans up5) d5;have I5:=I.on n5;refine wpAny_handleBy_cons (codeAny_handlers_test ((I5.suite (a:=a)).glb hg hm ?_ Ug)) (by intro z;cases z);have LT:W.Looks (model X.prog X.w) h5 (typeOf (.ref a)) (.ref Ca):=q2▸(W.Looks.ld q1).andThen .now;refine aiD (s:={ w'.s with heap:=h5 }) (W.exm_one (K:=X.K) I5.U_ LT (adt C Ca hC t1)) (codeAny_handlers_suite ?_);refine yZ (kQ _ _) d5 (lands_againW fl5 fun h6 fl6 up6 d6=>?_);obtain⟨n6,_⟩:=lands h6 fl6 ((up4.trans up5).trans up6) d6;refine(hs a).r ((I.on n6).suite (a:=a)) ?_
    split at p
    .rename_i e8;rw[e8];exact⟨trivial,fun w8 u8 ρ8 y8 I8 r8=>p.2 _ _ _ (n6.s.trans y8) (Inv.Z1 I.ok I8) r8⟩
    .exact p.elim
   .exact p.elim
  .exact p.elim⟩
end
def Ig(ps:Y2)(h:Y3):Res PV:=match ps with
 |[p]=>match W9 h p with
  |some l=>match mx l with
   |some ns=>.ok (.int ns.sum) h
   |none=>.bad
  |none=>.bad
 |_=>.bad
def yE(ps:Y2)(h:Y3):Res PV:=match ps with
 |[.non]=>.ok (.str [78,111,110,101]) h
 |ps=>Ao ps h
theorem tY{F:Fz}{m:Zs}:∀{ps:Y2}{us:Z3}{bs:List Int},mx ps=some bs->ay G F m ps us->IntsAre us bs:=by
 intro ps
 induction ps with
 |nil=>intro _ _ e r;cases r;cases e;exact .nil
 |cons p r ih=>
  intro _ bs e q
  obtain _|⟨rp,t⟩:=q
  cases p with
  |int b=>
   simp only[mx,adZ]at e;obtain⟨bs',e1,rfl⟩:=e
   cases rp
   exact .cons _ _ (ih e1 t)
  |_=>simp[mx]at e
def LC:Xl X (.type "str") yE:=fun ok {w h p u Q E} I rs k=>by
 unfold yE at k
 split at k
 .obtain⟨u,rfl,r⟩:=rs.one
  cases r
  exact PySem.P.str_of_none (k.now I.toHR (by exact @aQ.str X.toSC w.F w.m [78,111,110,101] w.s.toks))
 .exact JQ ok I rs k
def NN(hc:X.calm=true):Xl X (.builtin "sum") Ig:=fun ok {w h p u Q E} I rs k=>by
 unfold Ig at k
 split at k
 .obtain⟨u,rfl,r1⟩:=rs.one
  split at k
  .split at k
   .rename_i ns _;obtain⟨a,its,rfl,y,z,r⟩:=I.sq r1 (gS ‹_›);have hi:=tY ‹_› r;obtain⟨xs,hx⟩:=hi.allInts.items;have hl:=y.pl.isList;show Wp X (call (.builtin "sum") [.ref a]) Q E w.s;have hx:its=intItems xs:=hx;refine sum_intListG (ok.hd hc) (hx▸hl) fun h' tk t' hk=>?_
    have e:preSum (numAt xs) xs.size=ns.sum:=by rw[preSum_eq,ad0 (by simp),<- nums_intItems,<- hx];exact congrArg List.sum hi.numsOf
    rw[e];exact k.2 _ _ (Nw.also (X:=X) (s':={ w.s with heap:=h',toks:=tk }) I.toHR hk) (.int _ _)
   .exact k.elim
  .exact k.elim
 .exact k.elim
end Z
noncomputable section
namespace K7
open PySem PySem.Spec PyProof.Rows Z
variable{us:Z3}
def top(i:Nat):Stmt:=PySem.Challenge.pw_formsmith_k06_shown_and_read.main.body.getD i (.Pass ⟨0,0,0,0⟩)
noncomputable def fG:Ya:=[[97,115],[98,101,116,119,101,101,110],[98,111,100,121],[101,108,115,101],[101,110,100],[102,111,114],[105,102],[105,110],[112,105,101,99,101],[117,115,101],[119,105,116,104]]
noncomputable def cH:Ya:=[[48],[49],[50],[51]]
noncomputable def bu:Ya:=[[119,111,114,100],[110,117,109,98,101,114],[113,117,111,116,101,100],[112,108,97,105,110],[108,105,110,101]]
noncomputable def eA:List (Y1×Y1):=[([40],[111,112,101,110]),([41],[99,108,111,115,101]),([101,110,100],[101,110,100]),([101,108,115,101],[101,108,115,101]),([98,101,116,119,101,101,110],[98,101,116,119,101,101,110])]
def sE:PV:=.dct (eA.map fun p=>(.inr p.1,.str p.2))
noncomputable def mP:List (Y1×Y1):=[([111,112,101,110],[123]),([99,108,111,115,101],[125])]
def gw:PV:=.dct (mP.map fun p=>(.inr p.1,.str p.2))
noncomputable def aY:Y1:=[97,98,99,100,101,102,103,104,105,106,107,108,109,110,111,112,113,114,115,116,117,118,119,120,121,122]
noncomputable def oP:Y1:=[10,32,33,34,35,36,38,39,40,41,42,43,44,45,46,47,48,49,50,51,52,53,54,55,56,57,58,59,60,61,62,63,64,65,66,67,68,69,70,71,72,73,74,75,76,77,78,79,80,81,82,83,84,85,86,87,88,89,90,91,92,93,94,95,96]
noncomputable def oO:Y1:=[97,98,99,100,101,102,103,104,105,106,107,108,109,110,111,112,113,114,115,116,117,118,119,120,121,122,123,124,125,126]
noncomputable def jM:Y1:=[10,32,33,34,35,36,38,39,40,41,42,43,44,45,46,47,48,49,50,51,52,53,54,55,56,57,58,59,60,61,62,63,64,65,66,67,68,69,70,71,72,73,74,75,76,77,78,79,80,81,82,83,84,85,86,87,88,89,90,91,92,93,94,95,96,97,98,99,100,101,102,103,104,105,106,107,108,109,110,111,112,113,114,115,116,117,118,119,120,121,122,123,124,125,126]
inductive Fn where
 |law|K5|Vh|s6|Ua|T7|Tw|shown|J_|Ub|J9|M4|TQ|TF|G9|read|SN|S8|Q7|Tg|Tz|Wl|O5|m_|j5|M5|m9|d9|B_|j6|d7|G7|S5|L_|W_|S6|Tv|R6|K1|d8|G_|m6|u9|H6|K6|N_|K4|J7|H7|bracketed|i_|k_|j7|g_|j9|j4|D_|SM|Tr|Q6|Tc|n_|G8|M6|O3|O4|h_|j_|N7|n8|Uc|listed
abbrev CC:=Fn->Y2->Z.Out
abbrev DD:=Fn->Y2->Y3->Res PV
def pV:Fn->Stmt
 |.law=>top 86
 |.K5=>top 59
 |.Vh=>top 76
 |.s6=>top 83
 |.Ua=>top 62
 |.T7=>top 85
 |.Tw=>top 84
 |.shown=>top 1
 |.J_=>top 60
 |.Ub=>top 63
 |.J9=>top 75
 |.M4=>top 74
 |.TQ=>top 73
 |.TF=>top 71
 |.G9=>top 82
 |.read=>top 53
 |.SN=>top 2
 |.S8=>top 66
 |.Q7=>top 67
 |.Tg=>top 69
 |.Tz=>top 68
 |.Wl=>top 70
 |.O5=>top 65
 |.m_=>top 81
 |.j5=>eX (top 57) 0
 |.M5=>top 20
 |.m9=>eX (top 42) 0
 |.d9=>eX (top 57) 1
 |.B_=>top 54
 |.j6=>eX (top 57) 2
 |.d7=>top 3
 |.G7=>top 4
 |.S5=>top 61
 |.L_=>top 64
 |.W_=>top 72
 |.S6=>top 79
 |.Tv=>top 80
 |.R6=>top 23
 |.K1=>top 28
 |.d8=>eX (top 57) 5
 |.G_=>top 55
 |.m6=>eX (top 57) 3
 |.u9=>top 5
 |.H6=>top 29
 |.K6=>top 30
 |.N_=>top 31
 |.K4=>top 32
 |.J7=>top 33
 |.H7=>top 34
 |.bracketed=>top 35
 |.i_=>eX (top 57) 6
 |.k_=>eX (top 57) 7
 |.j7=>eX (top 57) 8
 |.g_=>eX (top 57) 9
 |.j9=>eX (top 57) 10
 |.j4=>eX (top 57) 4
 |.D_=>top 6
 |.SM=>top 8
 |.Tr=>top 9
 |.Q6=>top 10
 |.Tc=>top 11
 |.n_=>top 13
 |.G8=>top 36
 |.M6=>top 21
 |.O3=>top 38
 |.O4=>top 37
 |.h_=>eX (top 56) 0
 |.j_=>eX (top 56) 1
 |.N7=>top 7
 |.n8=>top 12
 |.Uc=>top 22
 |.listed=>top 39
def uJ:Fn->Zl
 |.L_=> ["_law_scope","_law_rows_here","_law_at","_law_path","_law_kind"]
 |f=>((aP (pV f)).names.filter fun x=>match x.2 with|.local|.cell=>true|_=>false).map (·.1)
def oV(f:Fn):Str:=match pV f with|.FunctionDef n _ _ _ _ _ _ _ _ _=>n|_=>""
def Ak:Fn->Str
 |.j5=>"Shelf.__init__"
 |.m9=>"BadText.__init__"
 |.d9=>"Shelf.is_open"
 |.j6=>"Shelf.take_text"
 |.d8=>"Shelf.take_command"
 |.m6=>"Shelf.add_text"
 |.i_=>"Shelf.take_piece"
 |.k_=>"Shelf.take_end"
 |.j7=>"Shelf.take_else"
 |.g_=>"Shelf.take_between"
 |.j9=>"Shelf.take_node"
 |.j4=>"Shelf.count_node"
 |.h_=>"Opened.__init__"
 |.j_=>"Opened.finished"
 |f=>oV f
def DG:Fn->Bool
 |.j5|.m9|.d9|.j6|.d8|.m6|.i_|.k_|.j7|.g_|.j9|.j4|.h_|.j_=>false
 |_=>true
inductive Nt where
 |all|dict|int|isinstance|len|list|min|range|repr|set|str|sum|tuple|zip
def LI:Nt->Str
 |.all=>"all"
 |.dict=>"dict"
 |.int=>"int"
 |.isinstance=>"isinstance"
 |.len=>"len"
 |.list=>"list"
 |.min=>"min"
 |.range=>"range"
 |.repr=>"repr"
 |.set=>"set"
 |.str=>"str"
 |.sum=>"sum"
 |.tuple=>"tuple"
 |.zip=>"zip"
def lY(f:Fn):Zl:=(sF (pV f)).args.map (·.arg)
def mG:Nat->Bool
 |3=>true
 |_=>false
def dl:Nat->Nat
 |0=>0
 |k+1=>dl k+2
abbrev aac:=cK (.int 1)
abbrev aae:=cK (.int 0)
abbrev aag:=cK (.int 2)
abbrev aaf:=c2 b_ (ag 0) aag
abbrev aah:=cK .non
abbrev aai:=af (ag 1) ah
abbrev aaj:=cK (.str [116,101,120,116])
abbrev aak:=af (ag 0) ah
abbrev aam:=cK (.int 3)
abbrev aan:=af (ag 2) ah
abbrev aao:=cK (.int 4)
abbrev aap:=c2 b_ (ag 0) aac
abbrev aaq:=cK (.str [])
abbrev aas:=c2 b_ (ag 0) aae
abbrev aaw:=c1 (bZ 609 1) (ag 0)
abbrev aaX:=c1 iB aac
abbrev aat:=c2 b_ aaw aaX
abbrev aau:=cK (.str [117,115,101])
abbrev aax:=cK (.str [123,101,110,100,125])
abbrev aay:=cK (.str [115,99,111,112,101])
abbrev aaz:=cK (.str [99,104,111,105,99,101])
abbrev aaB:=c2 b_ (ag 0) aam
abbrev aa9:=af (ag 3) ah
abbrev aaC:=af (ag 0) (af (ag 1) (af (ag 2) aa9))
abbrev aaD:=cK (.str [112,108,97,105,110])
abbrev aaH:=af (ag 0) aai
abbrev aaQ:=cK (.str [116,105,100,121])
abbrev aaI:=c2 b_ (ag 2) aaQ
abbrev aaJ:=c2 b_ (ag 1) aae
abbrev aaK:=cK (.str [125])
abbrev aaL:=cK (.str [112,105,101,99,101])
abbrev aaN:=cK (.str [112,108,97,99,101])
abbrev aaR:=cK (.str [108,111,111,112])
abbrev aaT:=cK (.int 8)
abbrev aaU:=cK (.str [98,111,100,121])
abbrev aaV:=c2 b_ (ag 0) aao
abbrev aaW:=cK (.str [44,32])
abbrev abx:=aL aah
abbrev aaY:=o8 (au (c2 Vt (ag 1) aah)) abx aS
abbrev aa0:=cK (.bl false)
abbrev aaZ:=aL aa0
abbrev aa1:=gK (ag 0)
abbrev aa3:=af (ag 4) ah
abbrev aa2:=af (c2 ak (ag 3) aac) aa3
abbrev aa4:=cK (.str [112,105,101,99,101,115])
abbrev aa5:=c1 (bZ 608 0) (ag 0)
abbrev aa6:=cK (.str [32,119,105,116,104,32])
abbrev aa7:=af aap ah
abbrev aa8:=cK (.str [32,98,111,100,121,32])
abbrev aa_:=cK (.str [105,102])
abbrev abn:=cK (.int 5)
abbrev abb:=dZ (c2 ak aac (cN uI (af (cOr aaI (c2 o9 (c2 cu (c2 ei (ag 5) abn) aag) aac)) ah)))
abbrev acs:=cK (.str [119])
abbrev abd:=cN aT (af acs ah)
abbrev abe:=cK (.str [102,111,114])
abbrev abf:=af (ag 1) aan
abbrev abg:=cK (.str [108])
abbrev aci:=cK (.str [113,117,111,116,101,100])
abbrev abk:=cK (.str [108,105,110,101])
abbrev abh:=af aaD (af aci (af abk ah))
abbrev abj:=cN bK aak
abbrev abl:=c2 ak (ag 2) aac
abbrev abm:=c1 (bZ 608 1) (ag 3)
abbrev abo:=c2 b_ (ag 0) (ag 2)
abbrev abp:=cK (.str [46])
abbrev abq:=cK (.str [41])
abbrev abr:=af (cK (.str [110])) ah
abbrev abt:=cK (.str [104,97,110,100,101,100])
abbrev abu:=cK (.str [112,105,101,99,101,32])
abbrev abw:=cK (.int 9)
abbrev aby:=cN gD ah
abbrev abB:=c2 b_ (ag 2) aay
abbrev abC:=af aaf ah
abbrev abD:=cN aT (af (cK (.str [98])) ah)
abbrev abE:=cK (.str [123])
abbrev abF:=cK (.str [110,97,109,101,115])
abbrev abH:=cN cY ah
abbrev abI:=cK (.str [40])
abbrev abJ:=cK (.str [117,115,101,32])
abbrev abL:=cK (.str [102,111,114,32])
abbrev abN:=cK (.str [32,105,110,32])
abbrev abO:=cK (.str [32,97,115,32])
abbrev abP:=c2 b_ (ag 7) aac
abbrev abR:=c2 b_ (ag 5) aae
abbrev abS:=c2 b_ (ag 4) aae
abbrev abT:=c2 b_ (ag 2) aae
abbrev abW:=cK (.str [123,98,101,116,119,101,101,110,125])
abbrev abX:=cK (.str [116])
abbrev abY:=af aaV ah
abbrev abZ:=cK (.str [105,102,32])
abbrev ab0:=cK (.int 7)
abbrev ab1:=au (c2 Vt (ag 2) aah)
abbrev ab2:=au (c2 Vt (ag 0) aah)
abbrev acH:=af (ag 8) ah
abbrev ab3:=cN aT (af aaN (af (ag 5) acH))
abbrev ab4:=af (ag 10) ah
abbrev ab5:=af (ag 0) abf
abbrev ab6:=cK (.str [98,101,116,119,101,101,110])
abbrev ab7:=bJ (cM cC bn (c1 (bZ 608 1) aat) aai)
abbrev ab8:=cK (.int 95)
abbrev ab9:=cK (.int 64)
abbrev ab_:=au (c2 o9 (ag 9) (c2 cu (ag 5) aao))
abbrev acd:=au (c2 Vt aaB aah)
abbrev ace:=af aah ah
abbrev acf:=af aaB ah
abbrev acg:=af (ag 9) ah
abbrev ach:=cK (.str [123,101,108,115,101,125])
abbrev acj:=cK (.str [110,117,109,98,101,114])
abbrev acn:=c2 b_ (c1 (bZ 608 0) (ag 2)) aae
abbrev aco:=c2 b_ (ag 7) aaX
abbrev acp:=c2 b_ (ag 2) aa4
abbrev acq:=c2 b_ (ag 2) (c2 ak aaT (ag 9))
abbrev acr:=Zj 2 (fO (N6 3) (fO (N6 4) pB))
abbrev acu:=cK (.str [114])
abbrev acv:=cK (.str [98,111,100,121,40])
abbrev acw:=c2 ei (ag 5) (cK (.int 768))
abbrev acy:=c2 ei (ag 4) (cK (.int 512))
abbrev acz:=cK (.str [119,111,114,100])
abbrev acA:=cK (.str [101,108,115,101])
abbrev acB:=cN aT (af abg (af abd ah))
abbrev acC:=c2 b_ aa5 aac
abbrev acD:=af (ag 11) ah
abbrev acE:=af (ag 1) (af (ag 2) aa2)
abbrev acG:=af (c2 b_ (ag 2) aam) ah
abbrev acI:=af (ag 7) ah
abbrev acK:=cK (.str [111,100,100])
abbrev acL:=cK (.str [101,110,100])
abbrev acM:=cK (.str [123,41,125])
abbrev acN:=cK (.str [123,40,125])
abbrev acO:=af aas (af (ag 1) ace)
abbrev acP:=c2 Yw (cN bK abC) aao
abbrev acQ:=au (c2 o9 (ag 1) aa_)
abbrev acR:=au (c2 Vt (ag 4) aah)
abbrev acS:=c1 (bZ 609 2) (ag 0)
abbrev acT:=c1 (bZ 609 0) (ag 1)
abbrev acU:=c1 (bZ 609 0) (ag 0)
abbrev acV:=c1 (bZ 608 3) (ag 3)
abbrev acW:=c1 (bZ 608 2) (ag 0)
def gN(C:CC)(Z:DD)(z:Bool):Sx:=(o8 (au (c2 o9 abo abE)) (aH 2 (xE (Z .B_) (af (ag 1) (af (ag 0) aan)))) (o8 (au (c2 o9 abo aaK)) (dQ z 3 aan) (aq (bJ (dG 609 (Z .j6) (ag 1) (af abo aan)))
  (aH 2 abl))))
def gM(C:CC)(Z:DD)(z:Bool):Sx:=
 (aq (o8 (hM (cL (aG (C .M5) (af (ag 0) (af (cK (.int 4000)) ah))))) (dQ z 3 ace) aS)
  (aq (aH 1 (xD 609 (Z .j5) ah))
  (aq (aH 2 aae)
  (aq (eP (au (c2 Wb (ag 2) abj)) (gN C Z z))
  (aq (o8 (iL (cL (dG 609 (Z .d9) (ag 1) ah)) (hM (cL acT))) (dQ z 3 (af abj ah)) aS)
  (aL (cN dJ (af acT ah))))))))
def pQ(C:CC):Sx:=
 (aq (jq 609 0 (ag 0) aby)
  (aq (jq 609 1 (ag 0) aby)
  (jq 609 2 (ag 0) aae)))
def ir(C:CC):Sx:=
 (aL (c2 Yw (cN bK (af aaw ah)) aae))
def cS(C:CC)(Z:DD)(z:Bool):Sx:=
 (aq (aH 3 (cM cV wU (ag 1) (af aaK aan)))
  (aq (o8 (au (c2 Wb (ag 3) aae)) (dQ z 3 aan) aS)
  (aq (aH 4 (aG (C .K1) (af (iG (ag 1) (dZ abl) (dZ (ag 3))) ah)))
  (aq (o8 (iL acR (cL (aG (C .G_) aa3))) (dQ z 3 aan) aS)
  (aq (bJ (dG 609 (Z .d8) (ag 0) (af (ag 4) aan)))
  (aL (c2 ak (ag 3) aac)))))))
def cZ(C:CC)(Z:DD)(z:Bool):Sx:=
 (o8 (cL (dG 609 (Z .d9) (ag 0) ah)) (bJ (dG 609 (Z .m6) (ag 0) abf)) (o8 (au (c2 iY (ag 1) (cK (.str [32,10])))) (dQ z 3 aan) aS))
def dO(C:CC)(Z:DD)(z:Bool):Sx:=
 (aq (aH 3 aaJ)
  (o8 (au (c2 o9 (ag 3) aaL)) (bJ (dG 609 (Z .i_) (ag 0) abf)) (o8 (hM (cL (dG 609 (Z .d9) (ag 0) ah))) (dQ z 3 aan) (o8 (au (c2 Wx (ag 3) (cK gw))) (bJ (dG 609 (Z .m6) (ag 0) (af (c2 b_ (cK gw) (ag 3)) aan))) (o8 (au (c2 o9 (ag 3) acL)) (bJ (dG 609 (Z .k_) (ag 0) ah)) (o8 (au (c2 o9 (ag 3) acA)) (bJ (dG 609 (Z .j7) (ag 0) aan)) (o8 (au (c2 o9 (ag 3) ab6)) (bJ (dG 609 (Z .g_) (ag 0) aan)) (bJ (dG 609 (Z .j9) (ag 0) abf)))))))))
def bM(C:CC)(Z:DD):Sx:=
 (aq (aH 3 aat)
  (o8 (au (c2 gE acV aah)) (jq 608 3 (ag 3) (c2 ak acV (ag 1))) (o8 (lR (cL abm) (au (c2 o9 (c2 b_ (c2 b_ abm aaX) aae) aaj))) (jA abm aaX (cN aT (af aaj (af (c2 ak (c2 b_ (c2 b_ abm aaX) aac) (ag 1)) ah)))) (aq (bJ (dG 609 (Z .j4) (ag 0) aan))
  (bJ (cM cC bn abm (af (cN aT (af aaj aai)) ah)))))))
def dC(C:CC)(Z:DD)(z:Bool):Sx:=
 (aq (o8 (iL (cL (dG 609 (Z .d9) (ag 0) ah)) (au (c2 o9 (cN bK (af acU ah)) aaT))) (dQ z 3 aan) aS)
  (bJ (cM cC bn aaw (af (xD 608 (Z .h_) aai) ah))))
def fF(C:CC)(Z:DD):Sx:=
 (aq (aH 1 (dG 608 (Z .j_) (cM0 cC vd aaw) ah))
  (o8 (cL (dG 609 (Z .d9) (ag 0) ah)) ab7 (bJ (cM cC bn acU aai))))
def dM(C:CC)(z:Bool):Sx:=
 (aq (aH 2 aat)
  (aq (o8 (iL (au (c2 Vs acn aa_)) (au (c2 gE (c1 (bZ 608 2) (ag 2)) aah))) (dQ z 3 aai) aS)
  (aq (jq 608 2 (ag 2) (cN dJ (af (c1 (bZ 608 1) (ag 2)) ah)))
  (jq 608 1 (ag 2) aby))))
def cT(C:CC)(z:Bool):Sx:=
 (aq (aH 2 aat)
  (aq (o8 (iL (au (c2 Vs acn abe)) (au (c2 gE (c1 (bZ 608 3) (ag 2)) aah))) (dQ z 3 aai) aS)
  (jq 608 3 (ag 2) aaq)))
def aX(C:CC)(Z:DD)(z:Bool):Sx:=
 (aq (o8 (au (c2 gE (c1 (bZ 608 3) aat) aah)) (dQ z 3 aan) aS)
  (aq (bJ (dG 609 (Z .j4) (ag 0) aan))
  (o8 (iL (au (c2 Wx aaJ (cN aT (af abe (af aa_ ah))))) (lR (au (c2 o9 aaJ aau)) (au (c2 gE (c2 b_ (ag 1) aam) aah)))) (bJ (cM cC bn aaw (af (xD 608 (Z .h_) aai) ah))) (o8 (au (c2 o9 aaJ aau)) (bJ (cM cC bn (c1 (bZ 608 1) aat) (af (c2 ak (ag 1) (cN aT ace)) ah))) ab7))))
def dD(C:CC)(z:Bool):Sx:=
 (aq (jq 609 2 (ag 0) (c2 ak acS aac))
  (o8 (iL (au (c2 Yw acS (cK (.int 200)))) (au (c2 Yw (cN bK (af aaw ah)) aaT))) (dQ z 3 aai) aS))
def gy(C:CC):Sx:=
 (aq (jq 608 0 (ag 0) (ag 1))
  (aq (jq 608 1 (ag 0) aby)
  (aq (jq 608 2 (ag 0) aah)
  (jq 608 3 (ag 0) aah))))
def bS(C:CC):Sx:=
 (aq (aH 1 (c2 b_ aa5 aae))
  (aq (aH 2 (cN dJ (af (c1 (bZ 608 1) (ag 0)) ah)))
  (aq (o8 (au (c2 o9 (ag 1) abe)) (aL (cN aT (af aaR (af acC (af (c2 b_ aa5 aag) (af (ag 2) (af (Jz (c1 (bZ 608 3) (ag 0)) aaq) ah))))))) aS)
  (aq (o8 (lR acQ (au (c2 Vt acW aah))) (aL (cN aT (af aaz (af acC (af (ag 2) (af (cN aT ah) ah)))))) aS)
  (aq (o8 acQ (aL (cN aT (af aaz (af acC (af acW aan))))) aS)
  (aL (c2 ak aa5 (cN aT aan))))))))
def xw(C:CC):Ex:=(aG (C .Tw) abY)
def mI(C:CC):Sx:=(aq (aH 10 (aG (C .T7) acg))
  (o8 (lR (cL (ag 7)) (au (c2 Wb (cN bK acg) (cK (.int 4001))))) (o8 (iL (au (c2 Vt (ag 10) aah)) (au (c2 Vs (cN yF ab4) (cN yF aa9)))) aaZ aS) (o8 (au (c2 gE (ag 10) aah)) aaZ aS)))
def rR(C:CC):Sx:=(aq (o8 (iL (au (c2 Vs (aG (C .shown) aa9) (ag 5))) (hM (cL (cN gW (af (aG (C .shown) aa9) (af (cK (.ty "str")) ah)))))) aaZ aS)
  (oK (gK (cN cY (af (ag 5) (af (ag 6) ah)))) (N6 9) (mI C)))
def Cz(C:CC)(D:DD):Sx:=
 (aq (aH 1 (cN gD (af aae (af (cK (.int 30)) ah))))
  (aq (aH 2 (aG (C .K5) (af (ag 0) (af aae ah))))
  (aq (Ae acr (aN (D .Vh) (af (ag 0) (af (ag 1) (af (aG (C .Ua) (af (aG (C .K5) (af (ag 0) (af aac ah))) ah)) (af (c2 o9 (c2 cu (ag 2) aag) aac) (af aa0 ah)))))))
  (aq (o8 (au (c2 o9 (c2 cu (c2 ei (ag 2) (cK (.int 16))) aao) aac)) (aH 3 (c2 ak (ag 3) (ag 3))) aS)
  (aq (aH 5 (aG (C .s6) (af (ag 3) (af aaq (af aa0 ah)))))
  (aq (aH 6 (aG (C .s6) (af (ag 3) (af (c2 b_ (cN cY (af aaq (af (cK (.str [32])) (af (cK (.str [10])) (af (cK (.str [10,32,32,10])) ah))))) (c2 cu (c2 ei (ag 2) aag) aao)) (af (c2 o9 (c2 cu (c2 ei (ag 2) aaT) aag) aac) ah)))))
  (aq (aH 7 (c2 Wb (cN Ig (af (cN T3 (cW [] (gK (ag 3)) bg (xw C))) ah)) (cK (.int 201))))
  (aq (oK (fK (af aag ah)) (N6 8) (rR C))
  (aL (cK (.bl true)))))))))))
def jw(C:CC):Sx:=
 (aq (o8 (au (c2 Wb (ag 1) abj)) (aL (c2 b_ (ag 0) (ag 1))) aS)
  (aL aae))
def lu(C:CC):Ex:=(c2 b_ (ag 1) (c2 cu (c2 ei (c2 ei (ag 2) aao) (c2 b_ (cN cY (af aac (af abw (af (cK (.int 81)) (af (cK (.int 729)) ah))))) (ag 0))) abw))
def lq(C:CC):Ex:=(c2 b_ (ag 1) (c2 cu (c2 ei (c2 ei (ag 2) (cK (.int 11))) (c2 b_ (cN cY (af aac (af abw (af (cK (.int 81)) ah)))) (ag 0))) abw))
def ji(C:CC):Ex:=(cN aT (af (c2 b_ (ag 1) (c2 cu (c2 ak (c2 ei (ag 3) (cK (.int 13))) (ag 0)) aaT)) (af (c2 b_ (ag 2) (ag 0)) ah)))
def ou(C:CC):Ex:=aas
def iW(C:CC)(D:DD):Sx:=(aq (aH 10 (aN (D .J_) aaH))
  (aq (aH 11 (cN T3 (cW [6,10] (fK (af (c2 cu (ag 10) abn) ah)) bg (lu C))))
  (aq (aH 12 (cN T3 (cW [6,10] (fK (af (c2 cu (c2 ei (ag 10) ab0) aao) ah)) bg (lq C))))
  (aq (o8 ab_ (aH 11 (c2 ak (cN cY (af (c2 b_ (ag 6) ab0) ah)) (iG (ag 11) fL (dZ aam)))) aS)
  (aq (o8 (iL ab_ (au (c2 o9 (c2 cu (c2 ei (ag 10) abn) aag) aae))) (aH 12 aah) aS)
  (aq (aH 13 (cN T3 (cW [2,11,10] (fK (af (cN bK acD) ah)) bg (ji C))))
  (aq (aH 14 (nv [(aay,(ag 13)),(aa4,(ag 8)),(abt,(ag 12)),(abF,(ag 2)),(aaQ,(ag 3)),(acK,(ag 4))]))
  (aq (aH 15 (aN (D .M4) (af (ag 0) (af (ag 1) (af (ag 14) (af aam ah))))))
  (aq (o8 (au (c2 gE (ag 12) aah)) (aH 15 (c2 ak (c2 ak (ag 15) (aN (D .TF) (af (ag 0) (af (ag 1) (af (ag 14) ah))))) (cN cY (af (cN aT (af aaj (af (cK (.str [60])) ah))) ah)))) aS)
  (aq (jA (ag 1) aac (c2 ak aaJ (cK (.int 30))))
  (aq (aH 16 (rO (au (c2 Vt (ag 12) aah)) aah (cN bK (af (ag 12) ah))))
  (aq (bJ (cM cC bn (ag 7) (af (cN aT (af aaL (af acq (af (cN dJ (af (cN T3 (cW [] (gK (ag 13)) bg (ou C))) ah)) (af (ag 16) (af (aG (C .TQ) (af (ag 15) ah)) ah)))))) ah)))
  (aH 8 (c2 ak (ag 8) (cN cY (af (cN aT (af acq (af (ag 11) (af (ag 12) ah)))) ah))))))))))))))))
def jh(C:CC):Ex:=(cN aT (af aap abY))
def nF(C:CC):Tx:=(au (c2 Wx aas (cN aT (af aaj (af aaN ah)))))
def or(C:CC):Ex:=(ag 0)
def kj(C:CC)(D:DD):Sx:=
 (aq (aH 5 (aN (D .J_) aaH))
  (aq (aH 6 (aG (C .Ub) (af (ag 2) (af (c2 ei (ag 5) aam) ah))))
  (aq (aH 7 aby)
  (aq (aH 8 abH)
  (aq (oK (fK (af (c2 ak aac (c2 cu (ag 5) aao)) ah)) (N6 9) (iW C D))
  (aq (aH 17 (cN gD (af (cK (.int 400)) ah)))
  (aq (bJ (cQ 7 (aN (D .J9) (af (c2 b_ aco aao) (af (cFz (cN mc (af (cN T3 (cW [] (gK (ag 7)) bg (jh C))) ah))) (af abH (af aac (af (ag 17) ah))))))))
  (aq (o8 (au (c2 Wb (c2 b_ (ag 17) aae) aae)) (jA (ag 7) aaX (c2 ak (iG aco fL (dZ aao)) (cN aT (af (aG (C .TQ) (af (cN T3 (cW [] (gK (c2 b_ aco aao)) (nF C) (or C))) ah)) ah)))) aS)
  (aL (cN aT (af (cN dJ acI) (af (ag 13) ah))))))))))))
def cF(C:CC):Sx:=(aq (aH 5 (c2 b_ (cN cY (af aaq (af (c2 ak aa8 (cN yE (af (c2 b_ (ag 4) aam) ah))) ah))) (cN uI (af (c2 gE (c2 b_ (ag 4) aam) aah) ah))))
  (aq (aH 6 (c2 ak (c2 ak (c2 ak (c2 ak (c2 b_ (ag 4) aac) abI) (cM cV gR aaW (af (c2 b_ (ag 4) aag) ah))) abq) (ag 5)))
  (aH 3 (c2 ak (c2 ak (c2 ak (c2 ak (c2 ak (c2 ak (ag 3) (ag 1)) (cK (.str [123,112,105,101,99,101,32]))) (ag 6)) aaK) (aG (C .G9) (af (c2 b_ (ag 4) aao) aan))) aax))))
def jk(C:CC):Sx:=
 (aq (aH 3 aaq)
  (aq (oK aa1 (N6 4) (cF C))
  (aL (c2 ak (ag 3) (ag 1)))))
def ju(C:CC):Ex:=(c2 b_ (ag 1) (c2 cu (c2 ak (c2 ak (c2 ei (ag 2) (cK (.int 128))) (c2 nR abn (ag 0))) (c2 nR (c2 nR aam (c2 ei (ag 3) aaT)) (c2 tA aac (c2 cu (ag 2) aag)))) (cK (.int 26))))
def gh(C:CC):Sx:=(aq (aH 5 (cN tM (cW [1,0,4] (fK (af aaT ah)) bg (ju C))))
  (aq (o8 (au (c2 o9 (c2 cu (ag 0) aag) aac)) (jA (ag 5) (ag 2) (c2 b_ (ag 1) (c2 cu (c2 ak (c2 ak (c2 ei (ag 0) (cK (.int 128))) (c2 nR ab0 (ag 4))) aac) (cK (.int 26))))) aS)
  (bJ (cM cC bn (ag 3) (af (cM cV gu aaq (af (iG (ag 5) fL (dZ (c2 b_ (cN cY (af (c2 ak aac (c2 cu (ag 4) aaT)) (af (c2 ak abl (c2 cu (c2 ei (ag 0) (cK (.int 16))) (c2 tA aaT (ag 2)))) ah))) (c2 cu (ag 0) aag)))) ah)) ah)))))
def mU(C:CC):Sx:=
 (aq (aH 1 (cK (.str aY)))
  (aq (aH 2 (c2 cu (c2 ei (ag 0) aag) aaT))
  (aq (aH 3 aby)
  (aq (oK (fK (af (cK (.int 12)) ah)) (N6 4) (gh C))
  (aq (aH 6 (cN cY (af (cK (.str [97,115])) (af ab6 (af aaU (af acA (af acL (af abe (af aa_ (af (cK (.str [105,110])) (af aaL (af aau (af (cK (.str [119,105,116,104])) ah)))))))))))))
  (aq (o8 (au (c2 Wb (c1 oU (c2 ak (ag 3) (ag 6))) (cK (.int 23)))) (aL (cN cY (af (cK (.str [97])) (af (cK (.str [98])) (af (cK (.str [97,98])) (af (cK (.str [98,97])) (af (cK (.str [105,116,101,109])) (af (cK (.str [105,116,101,109,115])) (af (cK (.str [99])) (af (cK (.str [120])) (af (cK (.str [120,121])) (af (cK (.str [121])) (af (cK (.str [114,111,119])) (af (cK (.str [114,111,119,115])) ah)))))))))))))) aS)
  (aL (ag 3))))))))
def gJ(C:CC)(Z:DD):Sx:=
 (yh mG (aL (aN (Z .read) aak)) abx)
def dX(C:CC):Sx:=(aq (o8 (au (c2 o9 abT aaR)) (aH 1 (c2 ak (ag 1) (aG (C .Tw) acG))) aS)
  (aq (o8 (au (c2 o9 abT aaz)) (aH 1 (c2 ak (c2 ak (ag 1) (aG (C .Tw) (af (c2 b_ (ag 2) aag) ah))) (aG (C .Tw) acG))) aS)
  (o8 (lR (au (c2 o9 abT aau)) (au (c2 gE (c2 b_ (ag 2) aao) aah))) (aH 1 (c2 ak (ag 1) (aG (C .Tw) (af (c2 b_ (ag 2) aao) ah)))) aS)))
def uw(C:CC):Sx:=
 (aq (aH 1 abj)
  (aq (oK aa1 (N6 2) (dX C))
  (aL (ag 1))))
def qA(C:CC):Ex:=(aG (C .SN) aak)
def xG(C:CC):Sx:=
 (aL (cM cV gu aaq (af (cN T3 (cW [] aa1 bg (qA C))) ah)))
def mH(C:CC):Sx:=
 (aq (jA (ag 1) aae (c2 ak aaJ aac))
  (aq (aH 2 aaJ)
  (aq (aH 3 (c2 ak (c2 nR (c2 nR (cK (.int 31)) (ag 2)) (ag 2)) (c2 nR (cK (.int 7919)) (ag 2))))
  (aq (o8 (au (c2 Yw abj aae)) (aH 3 (c2 ak (ag 3) (c2 nR (c2 b_ (ag 0) (c2 cu (ag 2) abj)) (c2 ak aac (c2 ei (ag 2) abj))))) aS)
  (aL (c2 ei (c2 cu (c2 nR (ag 3) (cK (.int 48271))) (cK (.int 2147483647))) ab0))))))
def qN(C:CC):Sx:=
 (aq (aH 2 (c2 cu (ag 1) abn))
  (aq (aH 3 (cN aT (af (cN aT (af abo (af (cN aT (af abX ah)) ah))) (af (cN aT (af (c2 b_ (ag 0) abl) (af abd ah))) (af (cN aT (af (c2 b_ (ag 0) (c2 ak (ag 2) aam)) (af (cN aT abr) ah))) (af (cN aT (af (c2 b_ (ag 0) (c2 ak (ag 2) (cK (.int 6)))) (af abD ah))) ah))))))
  (aq (aH 4 (cN aT (af acu aa9)))
  (aq (aH 5 (cN aT (af acu (af (cN aT (af (cN aT (af (c2 b_ (ag 0) (c2 ak (ag 2) aag)) (af (cN aT (af abg aa3)) ah))) (af (cN aT (af abo (af acB ah))) (af (cN aT (af (c2 b_ (ag 0) (c2 ak (ag 2) aao)) aa3)) ah)))) ah))))
  (aL (cN cY (af abd (af (cN aT (af abX ah)) (af (cN aT abr) (af abD (af (ag 4) (af acB (af (cN aT (af abg aa3)) (af (ag 5) (af (cN aT (af abg (af (cN aT (af abg (af (cN aT abr) ah))) ah))) ah)))))))))))))))
def cG(C:CC)(D:DD):Sx:=(aq (jA (ag 4) aae (c2 tA abS aac))
  (o8 (iL (au (c2 Wb abS aae)) (au (c2 Yw (ag 3) (cK (.int 24))))) (jA (ag 4) aae aaX) (o8 (au (c2 o9 abR aaR)) (bJ (aN (D .J9) (af (c2 b_ (ag 5) aam) acE))) (o8 (au (c2 o9 abR aaz)) (bJ (aN (D .J9) (af (c2 ak (c2 b_ (ag 5) aag) (c2 b_ (ag 5) aam)) acE))) (o8 (au (c2 o9 abR aau)) (bJ (aN (D .J9) (af (c2 b_ (ag 1) (c2 b_ (ag 5) aac)) (af (ag 1) (af (c2 ak (ag 2) (cN cY (af (c2 b_ (ag 5) aao) ah))) aa2))))) (o8 (au (c2 o9 abR aaU)) (bJ (aN (D .J9) (af (c2 b_ (ag 2) aaX) (af (ag 1) (af (iG (ag 2) fL (dZ aaX)) aa2))))) aS))))))
def GZ(C:CC)(D:DD):Sx:=
 (oK aa1 (N6 5) (cG C D))
def gf(C:CC)(D:DD):Sx:=(aq (aH 6 (c2 cu (c2 ei (aN (D .J_) aaH) aam) abw))
  (aq (o8 (iL (au (c2 Yw aaJ (c2 b_ (ag 1) aac))) (au (c2 Wb (ag 3) aac))) (aH 6 (c2 cu (ag 6) aam)) aS)
  (o8 (au (c2 o9 (ag 6) aae)) (bJ (cM cC bn (ag 4) (af (cN aT (af aaj (af (aN (D .S8) aaH) ah))) ah))) (o8 (au (c2 Wb (ag 6) aam)) (bJ (cM cC eQ (ag 4) (af (aN (D .Q7) ab5) ah))) (o8 (au (c2 o9 (ag 6) aaT)) (bJ (cM cC eQ (ag 4) (af (aN (D .TF) ab5) ah))) (o8 (au (c2 o9 (ag 6) abn)) (bJ (cM cC eQ (ag 4) (af (aN (D .Tg) aaC) ah))) (o8 (au (c2 Wb (ag 6) abn)) (bJ (cM cC eQ (ag 4) (af (aN (D .Tz) aaC) ah))) (bJ (cM cC eQ (ag 4) (af (aN (D .Wl) aaC) ah))))))))))
def qM(C:CC)(D:DD):Sx:=
 (aq (aH 4 aby)
  (aq (oK (fK (af (c2 ak aac (c2 cu (c2 ei (aN (D .J_) aaH) abn) aam)) ah)) (N6 5) (gf C D))
  (aL (ag 4))))
def gc(C:CC):Sx:=(o8 (lR (au (c2 o9 abT aaj)) (lR (au (c2 Vs (ag 1) abH)) (au (c2 o9 (c2 b_ (c2 b_ (ag 1) aaX) aae) aaj)))) (jA (ag 1) aaX (cN aT (af aaj (af (c2 ak (c2 b_ (c2 b_ (ag 1) aaX) aac) (c2 b_ (ag 2) aac)) ah)))) (bJ (cM cC bn (ag 1) aan)))
def xI(C:CC):Sx:=
 (aq (aH 1 aby)
  (aq (oK aa1 (N6 2) (gc C))
  (aL (cN dJ aai))))
def uy(C:CC)(D:DD):Sx:=
 (aq (aH 3 aah)
  (aq (o8 (au (c2 gE (c2 b_ (ag 2) abt) aah)) (aH 3 (aN (D .O5) (af (ag 0) (af (ag 1) (af abB (af (c2 b_ (ag 2) abt) ah)))))) aS)
  (aq (o8 (au (c2 Vt (ag 3) aah)) (aL (aN (D .Q7) ab5)) aS)
  (aL (cN cY (af (cN aT (af aaU aa9)) ah))))))
def mA(C:CC):Ex:=(aG (C .m_) aaH)
def qJ(C:CC):Sx:=
 (aL (cM cV gu aaq (af (cN T3 (cW [1] aa1 bg (mA C))) ah)))
def gZ(C:CC):Sx:=
 (aq (aH 1 (cM cV gR aaW abC))
  (aq (aH 2 (rO acd aaq (c2 ak aa8 (cN Ao acf))))
  (aq (aH 3 (aG (C .d7) (af (c2 ak (c2 ak (c2 ak (c2 ak (c2 ak abu aap) abI) (ag 1)) abq) (ag 2)) ah)))
  (aL (c2 ak (c2 ak (ag 3) (aG (C .G7) abY)) aax)))))
def oj(C:CC):Ex:=(c2 b_ (aG (C .S5) ah) (c2 cu (c2 ak (c2 ei (ag 1) aam) (c2 nR (ag 0) (c2 ak aac (c2 cu (c2 ei (ag 1) (cK (.int 300))) (cK (.int 94)))))) ab8))
def uu(C:CC)(D:DD):Sx:=
 (aq (aH 2 (aN (D .J_) aaH))
  (aL (cM cV gu aaq (af (cN T3 (cW [2] (fK (af (c2 ak aac (c2 cu (ag 2) aam)) ah)) bg (oj C))) ah))))
def jp(C:CC):Tx:=(au (c2 Wx (c2 b_ aap aae) (cN aT (af acs (af abX abr)))))
def mC(C:CC):Ex:=(ag 0)
def ki(C:CC)(D:DD):Sx:=
 (aq (aH 3 (cN T3 (cW [] (gK (aG (C .L_) (af abB ah))) (jp C) (mC C))))
  (aq (aH 4 (aN (D .J_) aaH))
  (aq (o8 (au (c2 o9 (ag 3) abH)) (aL (cN cY (af (cN aT (af aaj (af (aN (D .S8) aaH) ah))) ah))) aS)
  (aq (Ae (Zj 2 (fO (N6 5) (fO (N6 6) pB))) (c2 b_ (ag 3) (c2 cu (ag 4) (cN bK aa9))))
  (aq (aH 7 (c2 b_ (nv [((cK (.str [110])),(cN cY (af acj ah))),(acs,(cN cY (af acz abh))),(abX,(cN cY abh))]) (c2 b_ (ag 6) aae)))
  (aq (o8 (lR (cL (c2 b_ (ag 2) acK)) (au (c2 o9 (c2 cu acy abw) aac))) (aH 7 (cN cY (af acz (af acj (af aci (af aaD (af abk ah))))))) aS)
  (aq (aH 8 (c2 b_ (ag 7) (c2 cu (c2 ei (ag 4) ab9) (cN bK acI))))
  (aq (o8 (iL (cL aaI) (au (c2 o9 (c2 cu acy aam) aac))) (aq (aH 9 (cM zi Dp (nv [(aaD,(cK (.str [10,38,60,62,124]))),(abk,(cK (.str [10])))]) (af (ag 8) (af (cK (.str [32,46,59,60,10])) ah))))
  (aL (cN cY (af ab3 (af (cN aT (af aaj (af (c2 ak (c2 b_ (ag 9) (c2 cu (c2 ei (ag 4) (cK (.int 4096))) (cN bK acg))) (aN (D .S8) aaH)) ah))) ah))))) aS)
  (aL (cN cY (af ab3 ah)))))))))))
def lh(C:CC):Ex:=(cN aT (af aaj (af (c2 b_ (aG (C .S5) ah) (c2 cu (c2 ak (c2 ei (ag 1) ab9) (ag 0)) ab8)) ah)))
def iO(C:CC)(D:DD):Ex:=(aN (D .M4) (af (ag 1) (af (ag 2) (af (ag 3) (af (c2 tA (ag 4) aac) ah)))))
def oE(C:CC)(D:DD):Sx:=
 (aq (aH 4 (aN (D .O5) (af (ag 0) (af (ag 1) (af abB (af (cN cY (af abD ah)) ah))))))
  (aq (aH 5 (aN (D .J_) aaH))
  (aq (o8 acR (aL (aN (D .Tz) aaC)) aS)
  (aq (aH 6 (cN T3 (cW [5] (fK (af aam ah)) bg (lh C))))
  (aq (aH 7 (c2 ak (cN T3 (cW [0,1,2,3] (fK (af (c2 tA aag (cN uI (af (c2 o9 (c2 cu (ag 5) aam) aac) ah))) ah)) bg (iO C D))) (cN cY (af abH ah))))
  (aq (o8 (cL aaI) (aH 7 (cN cY (af (c2 ak (iG (ag 6) fL (dZ aac)) (c2 b_ (ag 7) aae)) (af (c2 ak (iG (ag 6) (dZ aac) (dZ (c2 nR aag (cN bK (af (iG abP fL (dZ aac)) ah))))) abP) ah)))) aS)
  (aq (aH 8 (cN aT (af aaz (af abS (af (aG (C .TQ) (af (c2 b_ (ag 7) aae) ah)) (af (aG (C .TQ) (af abP ah)) ah))))))
  (aL (iG (cN cY (af (ag 8) (af (c2 b_ (ag 6) aag) ah))) fL abb)))))))))
def kt(C:CC):Tx:=(au (c2 o9 (c2 b_ aap aae) abg))
def oq(C:CC):Ex:=(ag 0)
def ux(C:CC)(D:DD):Sx:=
 (aq (aH 4 (cN T3 (cW [] (gK (aG (C .L_) (af abB ah))) (kt C) (oq C))))
  (aq (aH 5 (aN (D .J_) aaH))
  (aq (o8 (au (c2 o9 (ag 4) abH)) (aL (aN (D .Q7) ab5)) aS)
  (aq (Ae (Zj 2 (fO (N6 6) (fO (N6 7) pB))) (c2 b_ (ag 4) (c2 cu (ag 5) (cN bK aa3))))
  (aq (aH 8 (c2 b_ (c2 b_ (ag 2) abF) (c2 cu (c2 ei (ag 5) ab9) (cK (.int 12)))))
  (aq (aH 9 (aN (D .M4) (af (ag 0) (af (ag 1) (af (aG (C .W_) (af (ag 2) (af (cN cY (af (cN aT (af (ag 8) (af abP ah))) ah)) ah))) (af (c2 tA (ag 3) aac) ah))))))
  (aq (aH 10 (c2 b_ (aG (C .S5) ah) (c2 cu acw ab8)))
  (aq (aH 11 (c2 b_ (aG (C .S5) ah) (c2 cu (c2 ak (c2 ak acw aac) (c2 cu (c2 ei (ag 5) (cK (.int 72960))) (cK (.int 94)))) ab8)))
  (aq (o8 (cL aaI) (aH 9 (c2 ak (cN cY (af (cN aT (af aaj ab4)) ah)) (ag 9))) aS)
  (aq (aH 12 (cN aT (af aaR (af (ag 8) (af (ag 6) (af (aG (C .TQ) acg) (af (c2 b_ (cN cY (af aaq (af aaq (af (c2 ak (ag 10) aaW) ab4)))) (c2 cu (c2 ei (ag 5) ab0) aao)) ah)))))))
  (aL (iG (cN cY (af (ag 12) (af (cN aT (af aaj acD)) ah))) fL abb))))))))))))
def xH(C:CC)(D:DD):Sx:=
 (aq (aH 4 (aN (D .J_) aaH))
  (aq (aH 5 aah)
  (aq (o8 (au (c2 Vs acp abH)) (aq (Ae (Zj 3 (fO (N6 6) (fO (N6 7) (fO (N6 8) pB)))) (c2 b_ acp (c2 cu (ag 4) (cN bK (af acp ah)))))
  (aH 5 (aN (D .O5) (af (ag 0) (af (ag 1) (af abB acI)))))) aS)
  (aq (o8 (au (c2 Vt (ag 5) aah)) (aL (aN (D .Tz) aaC)) aS)
  (aq (o8 (au (c2 Vt (ag 8) aah)) (aL (cN cY (af (cN aT (af aau (af (ag 6) (af (ag 5) (af aah ace))))) ah))) aS)
  (aq (aH 9 (cN dJ (af (iG (iG (c2 b_ (ag 2) abF) (dZ (c2 cu (c2 ei (ag 4) ab9) abw)) fL) fL (dZ (cN bK acH))) ah)))
  (aq (aH 10 (aG (C .W_) (af (ag 2) (af (cN tE (af (ag 9) acH)) ah))))
  (aq (aH 11 (aN (D .M4) (af (ag 0) (af (ag 1) (af (ag 10) (af (cN Fq (af (c2 tA (ag 3) aac) (af (c2 ak aac (c2 cu (c2 ei (ag 4) (cK (.int 576))) aag)) ah))) ah))))))
  (aq (o8 (au (c2 o9 (c2 cu (c2 ei (ag 4) (cK (.int 1152))) aag) aac)) (aH 11 (c2 ak (ag 11) (aN (D .TF) (af (ag 0) (af (ag 1) ab4))))) aS)
  (aL (cN cY (af (cN aT (af aau (af (ag 6) (af (ag 5) (af (ag 9) (af (aG (C .TQ) acD) ah)))))) ah))))))))))))
def ku(C:CC):Tx:=(au (c2 o9 (ag 1) (ag 2)))
def lg(C:CC):Ex:=(ag 0)
def dk(C:CC)(D:DD):Sx:=(aq (aH 6 (cN T3 (gT [5] (gK (aG (C .L_) aan)) (ku C) (lg C))))
  (aq (o8 (au (c2 o9 (ag 6) abH)) abx aS)
  (bJ (cM cC bn (ag 4) (af (c2 b_ (ag 6) (c2 cu (aN (D .J_) aaH) (cN bK (af (ag 6) ah)))) ah)))))
def lG(C:CC)(D:DD):Sx:=
 (aq (aH 4 aby)
  (aq (oK (gK (ag 3)) (N6 5) (dk C D))
  (aL (cN dJ aa3))))
def aJ(C:CC):Sx:=
 (aq (o8 (au (c2 o9 aas aaj)) (aL (aG (C .S6) aa7)) aS)
  (aq (o8 (au (c2 o9 aas aaN)) (aq (aH 2 (c2 b_ (cN cY (af aaq (af (c2 ak abO aaf) ah))) (cN uI (af (cOr (ag 1) (c2 Vs aaf aaD)) ah))))
  (aL (c2 ak (c2 ak (c2 ak abE (cM cV gR abp aa7)) (ag 2)) aaK))) aS)
  (aq (o8 (au (c2 o9 aas aaU)) (aL (c2 ak (c2 ak (cK (.str [123,98,111,100,121,40])) (aG (C .Tv) aa7)) (cK (.str [41,125])))) aS)
  (aq (o8 (au (c2 o9 aas aaR)) (aq (aH 2 (c2 ak (c2 b_ (cN cY (af aaq (af abW ah))) (cN uI (af (cOr (ag 1) (c2 Vs aaV aaq)) ah))) (aG (C .S6) abY)))
  (aq (aH 3 (c2 ak (c2 ak (c2 ak (c2 ak (cK (.str [123,102,111,114,32])) aap) abN) (cM cV gR abp abC)) aaK))
  (aL (c2 ak (c2 ak (c2 ak (ag 3) (aG (C .G9) (af aaB aai))) (ag 2)) aax)))) aS)
  (aq (o8 (au (c2 o9 aas aaz)) (aq (aH 2 (c2 ak (c2 b_ (cN cY (af aaq (af ach ah))) (cN uI (af (cOr (ag 1) (c2 Vs aaB (cN aT ah))) ah))) (aG (C .G9) (af aaB aai))))
  (aL (c2 ak (c2 ak (c2 ak (c2 ak (c2 ak (cK (.str [123,105,102,32])) (cM cV gR abp aa7)) aaK) (aG (C .G9) (af aaf aai))) (ag 2)) aax))) aS)
  (aq (aH 3 (c2 ak (c2 ak (c2 ak (c2 ak (cK (.str [123,117,115,101,32])) aap) abI) (aG (C .Tv) abC)) abq))
  (aq (o8 acd (aL (c2 ak (ag 3) aaK)) aS)
  (aL (c2 ak (c2 ak (c2 ak (c2 ak (c2 ak (ag 3) aa6) (cM cV gR aaW acf)) aaK) (aG (C .G9) (af aaV aai))) aax)))))))))
def mV(C:CC):Sx:=
 (aL (DS (cN gW (af (ag 0) (af (cK (.ty "str")) ah))) (DS (c2 pLe abj (ag 1)) (aG (C .R6) (af (ag 0) (af (cK (.str jM)) ah))))))
def iH(C:CC):Sx:=
 (aL (c2 ak (c2 ak abE (ag 0)) aaK))
def iF(C:CC):Ex:=(aG (C .u9) aak)
def jG(C:CC):Sx:=
 (aL (cM cV gu aaq (af (cN T3 (cW [] aa1 bg (iF C))) ah)))
def qI(C:CC):Sx:=
 (aq (aH 0 (cK (.str oP)))
  (aL (c2 ak (ag 0) (cK (.str oO)))))
def mE(C:CC):Ex:=(cN aT (af (cN aT aak) aai))
def mD(C:CC):Ex:=(cN aT (af (c2 ak (ag 2) (cN aT aak)) aai))
def fj(C:CC):Sx:=(aq (Ae acr (c2 b_ (ag 1) (ag 2)))
  (aq (aH 2 abl)
  (o8 (lR (au (c2 o9 abS acu)) (au (c2 Wb (cN bK aa9) aao))) (bJ (cM cC eQ (ag 1) (af (cN T3 (gT [3] (gK (c2 b_ (ag 4) aac)) bg (mD C))) ah))) aS)))
def qL(C:CC):Sx:=
 (aq (aH 1 (cN tM (gT [] (Ba (cFz (cN mc aak))) bg (mE C))))
  (aq (aH 2 aae)
  (aq (eP (au (c2 Wb (ag 2) (cN bK aai))) (fj C))
  (aL (ag 1)))))
def AU(C:CC):Sx:=
 (aq (aH 2 (cN wV aak))
  (aq (ED (ag 2) aay (c2 ak (c2 b_ (ag 0) aay) (ag 1)))
  (aL (cFz (ag 2)))))
def mB(C:CC):Ex:=(cM zi Dp (nv [(abE,acN),(aaK,acM)]) (af (ag 0) aak))
def qK(C:CC):Sx:=
 (aL (cM cV gu aaq (af (cN T3 (cW [] aa1 bg (mB C))) ah)))
def kZ(C:CC):Ex:=(cM cV gR abp aak)
def uv(C:CC):Sx:=
 (aL (cM cV gu aaW (af (cN T3 (cW [] aa1 bg (kZ C))) ah)))
def fm(C:CC):Sx:=(o8 (au (c2 iY (ag 2) (ag 1))) aaZ aS)
def iR(C:CC):Sx:=
 (aq (oK aa1 (N6 2) (fm C))
  (aL (cK (.bl true))))
def dA(C:CC):Sx:=
 (aq (o8 (au (c2 Wx (ag 0) (cK sE))) (aL (cN aT (af (c2 b_ (cK sE) (ag 0)) ah))) aS)
  (aq (o8 (cL (cM cV gV (ag 0) (af abL ah))) (aL (aG (C .K6) (af (iG (ag 0) (dZ (cN bK (af abL ah))) fL) ah))) aS)
  (aq (o8 (cL (cM cV gV (ag 0) (af abZ ah))) (aL (aG (C .N_) (af (iG (ag 0) (dZ (cN bK (af abZ ah))) fL) ah))) aS)
  (aq (o8 (cL (cM cV gV (ag 0) (af abJ ah))) (aL (aG (C .K4) (af (aG (C .bracketed) (af (iG (ag 0) (dZ (cN bK (af abJ ah))) fL) ah)) ah))) aS)
  (aq (o8 (cL (cM cV gV (ag 0) (af acv ah))) (aL (aG (C .J7) (af (aG (C .bracketed) aak) ah))) aS)
  (aq (o8 (cL (cM cV gV (ag 0) (af abu ah))) (aL (aG (C .H7) (af (aG (C .bracketed) (af (iG (ag 0) (dZ (cN bK (af abu ah))) fL) ah)) ah))) aS)
  (aL (aG (C .H6) aak))))))))
def dH(C:CC):Sx:=
 (aq (o8 (au (c2 o9 aas aaL)) (aL acP) aS)
  (aq (o8 (au (c2 o9 aas aau)) (aq (aH 1 aaB)
  (aL (cOr acP (DS (c2 gE (ag 1) aah) (c2 Yw (cN bK aai) aam))))) aS)
  (aq (o8 (au (c2 o9 aas aaU)) (aL (c2 Yw (cN bK aa7) aam)) aS)
  aaZ)))
def aZ(C:CC):Sx:=
 (aq (aH 1 aas)
  (aq (o8 (au (c2 o9 (ag 1) aaj)) (aL (aG (C .D_) aa7)) aS)
  (aq (o8 (au (c2 o9 (ag 1) aaN)) (aL (aG (C .SM) aak)) aS)
  (aq (o8 (au (c2 o9 (ag 1) aaR)) (aL (aG (C .Tr) aak)) aS)
  (aq (o8 (au (c2 o9 (ag 1) aaz)) (aL (aG (C .Q6) aak)) aS)
  (aq (o8 (au (c2 o9 (ag 1) aau)) (aL (aG (C .Tc) aak)) aS)
  (aL (aG (C .d7) (af (c2 ak (c2 ak acv (aG (C .n_) aa7)) abq) ah)))))))))
def de(C:CC):Sx:=
 (aq (aH 1 (cM cV yG (ag 0) (af abO ah)))
  (aq (aH 2 (aG (C .G8) (af aaJ ah)))
  (aq (aH 3 (rO (cL (c2 b_ (ag 1) aac)) (c2 b_ (ag 1) aag) aaD))
  (aq (o8 (iL ab1 (au (c2 iY (ag 3) (cK (.tup (bu.map PV.str)))))) abx aS)
  (aL (cN aT (af aaN (af (ag 2) aa9))))))))
def dY(C:CC):Sx:=
 (aq (aH 1 (cM cV yG (ag 0) (af abN ah)))
  (aq (aH 2 (aG (C .G8) (af (c2 b_ (ag 1) aag) ah)))
  (aq (o8 (iL (hM (cL (aG (C .M6) (af aaJ ah)))) ab1) abx aS)
  (aL (cN aT (af abe (af aaJ aan)))))))
def iS(C:CC):Sx:=
 (aq (aH 1 (aG (C .G8) aak))
  (aq aaY
  (aL (cN aT (af aa_ aai)))))
def cP(C:CC):Sx:=
 (aq (o8 (iL ab2 (hM (cL (aG (C .M6) (af aas ah))))) abx aS)
  (aq (aH 1 (aG (C .O3) aa7))
  (aq aaY
  (aq (o8 (au (c2 o9 aaf aaq)) (aL (cN aT (af aau acO))) aS)
  (aq (o8 (hM (cL (cM cV gV aaf (af aa6 ah)))) abx aS)
  (aq (aH 2 (aG (C .O4) (af (iG aaf (dZ (cN bK (af aa6 ah))) fL) ah)))
  (aq (o8 ab1 abx aS)
  (aL (cN aT (af aau (af aas abf)))))))))))
def eH(C:CC):Sx:=
 (aq (o8 (iL ab2 (au (c2 Vs aaf aaq))) abx aS)
  (aq (aH 1 (aG (C .O3) aa7))
  (aq aaY
  (aL (cN aT (af aaU aai))))))
def bH(C:CC):Sx:=
 (aq (o8 (iL ab2 (hM (cL (aG (C .M6) (af aas ah))))) abx aS)
  (aq (aH 1 (aG (C .O4) aa7))
  (aq aaY
  (aq (o8 (au (c2 o9 aaf aaq)) (aL (cN aT (af aaL acO))) aS)
  (aq (aH 2 (iG aaf (dZ (cN bK (af aa8 ah))) fL))
  (aq (o8 (iL (hM (cL (cM cV gV aaf (af aa8 ah)))) (au (c2 iY (ag 2) (cK (.tup (cH.map PV.str)))))) abx aS)
  (aL (cN aT (af aaL (af aas (af (ag 1) (af (cN BB aan) ah))))))))))))
def gx(C:CC):Sx:=
 (aq (aH 1 (cM cV yH (ag 0) (af abI ah)))
  (aq (aH 2 (cM cV yH (ag 0) (af abq ah)))
  (aq (o8 (hM (au (qG pLe Wb aae (ag 1) (ag 2)))) abx aS)
  (aL (cN aT (af (iG (ag 0) fL (dZ (ag 1))) (af (iG (ag 0) (dZ (c2 ak (ag 1) aac)) (dZ (ag 2))) (af (iG (ag 0) (dZ abl) fL) ah))))))))
def jg(C:CC):Ex:=(aG (C .N7) aak)
def ly(C:CC):Sx:=
 (aL (cM cV gu aaq (af (cN T3 (cW [] aa1 bg (jg C))) ah)))
def gY(C:CC):Sx:=
 (aq (aH 1 (aG (C .n8) aa7))
  (aL (aG (C .d7) (af (rO (au (c2 o9 aaf aaD)) (ag 1) (c2 ak (c2 ak (ag 1) abO) aaf)) ah))))
def iQ(C:CC):Sx:=
 (aq (aH 1 (aG (C .d7) (af (c2 ak (c2 ak (c2 ak abL aap) abN) (aG (C .n8) abC)) ah)))
  (aq (aH 2 (rO (cL aaV) (c2 ak abW (aG (C .D_) abY)) aaq))
  (aL (c2 ak (c2 ak (c2 ak (ag 1) (aG (C .G7) acf)) (ag 2)) aax))))
def gI(C:CC):Sx:=
 (aq (aH 1 (aG (C .d7) (af (c2 ak abZ (aG (C .n8) aa7)) ah)))
  (aq (aH 2 (rO (cL aaB) (c2 ak ach (aG (C .G7) acf)) aaq))
  (aL (c2 ak (c2 ak (c2 ak (ag 1) (aG (C .G7) abC)) (ag 2)) aax))))
def iq(C:CC):Sx:=
 (aq (aH 1 (c2 ak (c2 ak (c2 ak (c2 ak abJ aap) abI) (aG (C .n_) abC)) abq))
  (aq (o8 acd (aL (aG (C .d7) aai)) aS)
  (aL (c2 ak (c2 ak (aG (C .d7) (af (c2 ak (c2 ak (ag 1) aa6) (cM cV gR aaW acf)) ah)) (aG (C .G7) abY)) aax))))
def iE(C:CC):Ex:=(aG (C .n8) aak)
def jF(C:CC):Sx:=
 (aL (cM cV gu aaW (af (cN T3 (cW [] aa1 bg (iE C))) ah)))
def mT(C:CC):Sx:=
 (aq (aH 1 (cN dJ (af (cM cV tD (ag 0) (af abp ah)) ah)))
  (aL (rO (cL (aG (C .Uc) aai)) (ag 1) aah)))
def iV(C:CC):Sx:=
 (aq (o8 (iL (hM (cL (cN gW (af (ag 0) (af (cK (.ty "str")) ah))))) (hM (au (qG pLe pLe aac abj aaT)))) aaZ aS)
  (aL (DS (aG (C .R6) (af (ag 0) (af (cK (.str aY)) ah))) (c2 iY (ag 0) (cK (.tup (fG.map PV.str)))))))
def kX(C:CC):Ex:=(aG (C .G8) aak)
def lC(C:CC):Sx:=
 (aq (aH 1 (cN dJ (af (cN T3 (cW [] (gK (aG (C .listed) aak)) bg (kX C))) ah)))
  (aL (rO (au (c2 Wx aah (ag 1))) aah (ag 1))))
def kY(C:CC):Ex:=(aG (C .M6) aak)
def lF(C:CC):Sx:=
 (aq (aH 1 (aG (C .listed) aak))
  (aL (rO (cL (cN Dr (af (cN T3 (cW [] (gK (ag 1)) bg (kY C))) ah))) (ag 1) aah)))
def gH(C:CC):Sx:=
 (aq (o8 (au (c2 o9 (ag 0) abE)) (aL acN) aS)
  (aq (o8 (au (c2 o9 (ag 0) aaK)) (aL acM) aS)
  (aL (ag 0))))
def lA(C:CC):Sx:=
 (aL (cM cV gR abp aak))
def mF(C:CC):Ex:=(aG (C .M6) aak)
def km(C:CC):Sx:=
 (aq (o8 (iL (hM (cL (cN gW (af (ag 0) (af (cK (.ty "tuple")) ah))))) (hM (au (qG pLe pLe aac abj aao)))) aaZ aS)
  (aL (cN Dr (af (cN T3 (cW [] aa1 bg (mF C))) ah))))
def pO(C:CC):Sx:=
 (aL (rO (cL (ag 0)) (cN dJ (af (cM cV tD (ag 0) (af aaW ah)) ah)) (cN aT ah)))
def FL:Nat->CC×DD×DD
 |0=>(fun _ _=>.bad,fun _ _ _=>.bad,fun _ _ _=>.bad)
 |k+1=>(fun f ps=>match f with
  |.law=>av (Cz (FL k).1 (FL k).2.1) 1 11 ps
  |.K5=>av (jw (FL k).1) 2 2 ps
  |.s6=>av (jk (FL k).1) 3 7 ps
  |.Ua=>av (mU (FL k).1) 1 7 ps
  |.T7=>av (gJ (FL k).1 (FL k).2.2) 1 1 ps
  |.Tw=>av (uw (FL k).1) 1 3 ps
  |.shown=>av (xG (FL k).1) 1 1 ps
  |.Ub=>av (qN (FL k).1) 2 6 ps
  |.TQ=>av (xI (FL k).1) 1 3 ps
  |.G9=>av (qJ (FL k).1) 2 2 ps
  |.SN=>av (gZ (FL k).1) 1 4 ps
  |.m_=>av (aJ (FL k).1) 2 4 ps
  |.M5=>av (mV (FL k).1) 2 2 ps
  |.d7=>av (iH (FL k).1) 1 1 ps
  |.G7=>av (jG (FL k).1) 1 1 ps
  |.S5=>av (qI (FL k).1) 0 1 ps
  |.L_=>av (qL (FL k).1) 1 5 ps
  |.W_=>av (AU (FL k).1) 2 3 ps
  |.S6=>av (qK (FL k).1) 1 1 ps
  |.Tv=>av (uv (FL k).1) 1 1 ps
  |.R6=>av (iR (FL k).1) 2 3 ps
  |.K1=>av (dA (FL k).1) 1 1 ps
  |.G_=>av (dH (FL k).1) 1 2 ps
  |.u9=>av (aZ (FL k).1) 1 2 ps
  |.H6=>av (de (FL k).1) 1 4 ps
  |.K6=>av (dY (FL k).1) 1 3 ps
  |.N_=>av (iS (FL k).1) 1 2 ps
  |.K4=>av (cP (FL k).1) 1 3 ps
  |.J7=>av (eH (FL k).1) 1 2 ps
  |.H7=>av (bH (FL k).1) 1 3 ps
  |.bracketed=>av (gx (FL k).1) 1 3 ps
  |.D_=>av (ly (FL k).1) 1 1 ps
  |.SM=>av (gY (FL k).1) 1 2 ps
  |.Tr=>av (iQ (FL k).1) 1 3 ps
  |.Q6=>av (gI (FL k).1) 1 3 ps
  |.Tc=>av (iq (FL k).1) 1 2 ps
  |.n_=>av (jF (FL k).1) 1 1 ps
  |.G8=>av (mT (FL k).1) 1 2 ps
  |.M6=>av (iV (FL k).1) 1 1 ps
  |.O3=>av (lC (FL k).1) 1 2 ps
  |.O4=>av (lF (FL k).1) 1 2 ps
  |.N7=>av (gH (FL k).1) 1 1 ps
  |.n8=>av (lA (FL k).1) 1 1 ps
  |.Uc=>av (km (FL k).1) 1 1 ps
  |.listed=>av (pO (FL k).1) 1 1 ps
  |_=>.bad,fun f ps h=>match f with
  |.Vh=>jL (kj (FL k).1 (FL k).2.1) 5 18 ps h
  |.J_=>jL (mH (FL k).1) 2 4 ps h
  |.J9=>jL (GZ (FL k).1 (FL k).2.1) 5 6 ps h
  |.M4=>jL (qM (FL k).1 (FL k).2.1) 4 7 ps h
  |.TF=>jL (uy (FL k).1 (FL k).2.1) 3 4 ps h
  |.S8=>jL (uu (FL k).1 (FL k).2.1) 2 3 ps h
  |.Q7=>jL (ki (FL k).1 (FL k).2.1) 3 10 ps h
  |.Tg=>jL (oE (FL k).1 (FL k).2.1) 4 9 ps h
  |.Tz=>jL (ux (FL k).1 (FL k).2.1) 4 13 ps h
  |.Wl=>jL (xH (FL k).1 (FL k).2.1) 4 12 ps h
  |.O5=>jL (lG (FL k).1 (FL k).2.1) 4 7 ps h
  |_=>.bad,fun f ps h=>match f with
  |.read=>pY (gM (FL k).1 (FL k).2.2 (Nat.ble 2 (dl k))) 1 3 ps h
  |.j5=>yk (pQ (FL k).1) 1 1 ps h
  |.d9=>bq (ir (FL k).1) 1 1 ps h
  |.B_=>bq (cS (FL k).1 (FL k).2.2 (Nat.ble 2 (dl k))) 3 5 ps h
  |.j6=>bq (cZ (FL k).1 (FL k).2.2 (Nat.ble 2 (dl k))) 3 3 ps h
  |.d8=>bq (dO (FL k).1 (FL k).2.2 (Nat.ble 2 (dl k))) 3 4 ps h
  |.m6=>bq (bM (FL k).1 (FL k).2.2) 3 4 ps h
  |.i_=>bq (dC (FL k).1 (FL k).2.2 (Nat.ble 2 (dl k))) 3 3 ps h
  |.k_=>bq (fF (FL k).1 (FL k).2.2) 1 2 ps h
  |.j7=>bq (dM (FL k).1 (Nat.ble 2 (dl k))) 2 3 ps h
  |.g_=>bq (cT (FL k).1 (Nat.ble 2 (dl k))) 2 3 ps h
  |.j9=>bq (aX (FL k).1 (FL k).2.2 (Nat.ble 2 (dl k))) 3 3 ps h
  |.j4=>bq (dD (FL k).1 (Nat.ble 2 (dl k))) 2 2 ps h
  |.h_=>yk (gy (FL k).1) 2 2 ps h
  |.j_=>bq (bS (FL k).1) 1 3 ps h
  |_=>.bad)
abbrev X_(k:Nat):DD:=(FL k).2.2
abbrev F(k:Nat):CC:=(FL k).1
abbrev L(k:Nat):DD:=(FL k).2.1
structure Sys(G:SC) where
 adr:Fn->Addr
 fd:Fn->FuncData
 Ve:Nat->Addr
 ok:∀f,Fun G.K (oV f) (Ak f) (pV f) (adr f) (fd f)
 bi:∀f,ko G.K (fd f) (lY f) []
 m:∀f,DG f=true->G.mg (oV f)=some (.ref (adr f))
 n:∀i,G.mg (LI i)=none
 Tq:∃t,G.mg "BLANKS"=some (.str (S [32,10]) t)
 u6:∃t,G.mg "MOST_BODY_NAMES"=some (.int 3 t)
 t_:∃t,G.mg "MOST_BOOK_SIGNS"=some (.int 4000 t)
 G5:∃t,G.mg "MOST_LETTERS"=some (.int 8 t)
 J6:∃t,G.mg "MOST_NAMES"=some (.int 4 t)
 J5:∃t,G.mg "MOST_NODES"=some (.int 200 t)
 s7:∃t,G.mg "MOST_NODE_DEPTH"=some (.int 8 t)
 H8:∃t,G.mg "MOST_PIECES"=some (.int 8 t)
 q9:∃t,G.mg "MOST_PIECE_NAMES"=some (.int 4 t)
 v7:∃t,G.mg "MOST_USE_PATHS"=some (.int 4 t)
 Ud:∃t,G.mg "SIGNS"=some (.str (S jM) t)
 v9:∃t,G.mg "SMALL_LETTERS"=some (.str (S aY) t)
 z_:GT G "COMMAND_WORDS" fG
 Tj:GT G "MANIES" cH
 Vk:GT G "WAYS" bu
 Zk:GDs G "BARE" eA
 Xh:GDs G "BRACES" mP
 Uu:G.T 3=some (Ve 3)
 Uw:G.mg "BadText"=some (.ref (Ve 3))
 T_:G.T 608=some (Ve 608)
 Wk:G.mg "Opened"=some (.ref (Ve 608))
 G4:G.T 609=some (Ve 609)
 W8:G.mg "Shelf"=some (.ref (Ve 609))
 O1:Cls G.K (Ve 608)
 Wi:∀f∈Xg 608,uF G.K (Ve 608) f
 Wj:Mk G.K (Ve 608) (adr .h_)
 R5:gL G.K (Ve 608) "finished" (adr .j_)
 u_:Cls G.K (Ve 609)
 W5:∀f∈Xg 609,uF G.K (Ve 609) f
 W6:Mk G.K (Ve 609) (adr .j5)
 Tf:gL G.K (Ve 609) "is_open" (adr .d9)
 Q_:gL G.K (Ve 609) "take_text" (adr .j6)
 M_:gL G.K (Ve 609) "take_command" (adr .d8)
 SX:gL G.K (Ve 609) "add_text" (adr .m6)
 Q0:gL G.K (Ve 609) "take_piece" (adr .i_)
 SQ:gL G.K (Ve 609) "take_end" (adr .k_)
 R4:gL G.K (Ve 609) "take_else" (adr .j7)
 N5:gL G.K (Ve 609) "take_between" (adr .g_)
 R3:gL G.K (Ve 609) "take_node" (adr .j9)
 Q5:gL G.K (Ve 609) "count_node" (adr .j4)
 q_:W.exmOne G.K (.ref (Ve 3)) (.ref (Ve 3))=some true
 VF:XIn G.K (Ve 3) (adr .m9) "at"
section
variable{S:SC}{k:Nat}{X:Cx}
def uL(Y:Sys S):∀C Ca,mG C=true->S.T C=some Ca->W.exmOne S.K (.ref Ca) (.ref (Y.Ve 3))=some true:=by
 intro C Ca h ha;unfold mG at h;split at h
 .cases Y.Uu.symm.trans ha;exact Y.q_
 .cases h
def vf(Y:Sys S)(h1:(X.toSC=S)\1):OC X 608:=by subst h1;exact⟨_,Y.T_,Y.O1,Y.Wi⟩
def yM(Y:Sys S)(h1:(X.toSC=S)\1):OC X 609:=by subst h1;exact⟨_,Y.G4,Y.u_,Y.W5⟩
def sc:∀f,mW (uJ f) (lY f) (aP (pV f)):=fun f=>by cases f<;>exact⟨rfl,rfl,rfl,by decide+kernel,rfl,by decide+kernel,by decide+kernel⟩
def zT(Y:Sys S)(h1:(X.toSC=S)\1):ZI X 3 "BadText":=by subst h1;exact⟨_,_,_,_,Y.Uu,Y.Uw,Gv (Y.ok .m9) (sc .m9) rfl rfl rfl rfl,Y.VF,Y.bi .m9⟩
def clO:Fn->Nat
 |.d9=>609
 |.j6=>609
 |.d8=>609
 |.m6=>609
 |.i_=>609
 |.k_=>609
 |.j7=>609
 |.g_=>609
 |.j9=>609
 |.j4=>609
 |.j_=>608
 |.j5=>609
 |.h_=>608
 |_=>0
def Mf:Fn->Bool
 |.d9=>true
 |.j6=>true
 |.d8=>true
 |.m6=>true
 |.i_=>true
 |.k_=>true
 |.j7=>true
 |.g_=>true
 |.j9=>true
 |.j4=>true
 |.j_=>true
 |_=>false
def Mg:Fn->Bool
 |.j5=>true
 |.h_=>true
 |_=>false
def Ri:Fn->Bool
 |_=>false
def clN:Fn->Str
 |.j5=>"Shelf"
 |.h_=>"Opened"
 |_=>""
structure Tb(Y:Sys S)(k:Nat):Prop where
 p:∀f,Zt S (dl k) (Y.adr f) (Y.fd f) (lY f) (F k f)
 l:∀f,W4 S true (dl k) (Y.adr f) (Y.fd f) (lY f) (L k f)
 x:∀f,W4 S true (dl k) (Y.adr f) (Y.fd f) (lY f) (X_ k f)
 h:∀f,Ri f=true->W4 S false (dl k) (Y.adr f) (Y.fd f) (lY f) (X_ k f)
structure Bu(Y:Sys S)(k:Nat)(A:Around):Prop extends Tb Y k where
 hr:fC (dl k+1) A
variable{Y:Sys S}{A:Around}{e o:Expr}{es:List Expr}{fo:Ex}{fs:Ax}{pos p0 apos:Pos}{x m:Str}{pl:Sem Bool}
def Bu.r(B:Bu Y k A):fC (dl k) A:=B.hr.mono (afA _)
theorem om(Y:Sys S)(f:Fn)(h:Mf f=true):∃Ca,S.T (clO f)=some Ca/\Cls S.K Ca/\gL S.K Ca (oV f) (Y.adr f)/\oV f∉Xg (clO f):=by
 cases f with
 |d9=>exact⟨_,Y.G4,Y.u_,Y.Tf,by decide⟩
 |j6=>exact⟨_,Y.G4,Y.u_,Y.Q_,by decide⟩
 |d8=>exact⟨_,Y.G4,Y.u_,Y.M_,by decide⟩
 |m6=>exact⟨_,Y.G4,Y.u_,Y.SX,by decide⟩
 |i_=>exact⟨_,Y.G4,Y.u_,Y.Q0,by decide⟩
 |k_=>exact⟨_,Y.G4,Y.u_,Y.SQ,by decide⟩
 |j7=>exact⟨_,Y.G4,Y.u_,Y.R4,by decide⟩
 |g_=>exact⟨_,Y.G4,Y.u_,Y.N5,by decide⟩
 |j9=>exact⟨_,Y.G4,Y.u_,Y.R3,by decide⟩
 |j4=>exact⟨_,Y.G4,Y.u_,Y.Q5,by decide⟩
 |j_=>exact⟨_,Y.T_,Y.O1,Y.R5,by decide⟩
 |_=>cases h
theorem oi(Y:Sys S)(f:Fn)(h:Mg f=true):∃Ca,S.T (clO f)=some Ca/\Mk S.K Ca (Y.adr f)/\S.mg (clN f)=some (.ref Ca):=by
 cases f with
 |j5=>exact⟨_,Y.G4,Y.W6,Y.W8⟩
 |h_=>exact⟨_,Y.T_,Y.Wj,Y.Wk⟩
 |_=>cases h
structure Ja(S:SC)(X:Cx)(A:Around)(n x:Str)(y:Bool):Prop where
 a:X.toSC=S
 b:X.A=A
 c:n=x
 d:y=true
 e:Gl X x
 f:X.calm=true
 g:(x==("__debug__":Str))=false
structure Jo(S:SC)(X:Cx)(A:Around)(n x:Str)(y:Bool):Prop where
 a:X.toSC=S
 b:X.A=A
 c:n=x
 d:y=true
 e:X.calm=true
def zc(B:Bu Y k A)(f:Fn)(ha:RA X (e::es) fs)(h:Ja S X A (oV f) x (DG f)\5)(j:J2 X e es pos\4):RE X (.Call (.Name x p0) (e::es) [] pos) (aG (F k f) fs):=by obtain⟨rfl,rfl,rfl,hp,hg,hc,Ug⟩:=h;exact HO ⟨_,_,_,_,B.p f,B.r,Y.m f hp,(Y.ok f).kp,Y.bi f⟩ hg ha hc Ug j.a j.b
def zc0(B:Bu Y k A)(f:Fn)(h:Ja S X A (oV f) x (DG f)\5):RE X (.Call (.Name x p0) [] [] pos) (aG (F k f) ah):=by obtain⟨rfl,rfl,rfl,hp,hg,hc,Ug⟩:=h;exact Fg ⟨_,_,_,_,B.p f,B.r,Y.m f hp,(Y.ok f).kp,Y.bi f⟩ hg hc Ug
def zd(B:Bu Y k A)(f:Fn)(ha:RA X (e::es) fs)(h:Ja S X A (oV f) x (DG f)\5)(j:J2 X e es pos\4):RE X (.Call (.Name x p0) (e::es) [] pos) (aN (L k f) fs):=by obtain⟨rfl,rfl,rfl,hp,hg,hc,Ug⟩:=h;exact yx ⟨_,_,_,_,_,B.l f,B.r,fun _=>hc,Y.m f hp,(Y.ok f).kp,Y.bi f⟩ hg ha Ug j.a j.b
def zx(B:Bu Y k A)(f:Fn)(ha:RA X (e::es) fs)(h:Ja S X A (oV f) x (DG f)\5)(j:J2 X e es pos\4):RE X (.Call (.Name x p0) (e::es) [] pos) (aN (X_ k f) fs):=by obtain⟨rfl,rfl,rfl,hp,hg,hc,Ug⟩:=h;exact yx ⟨_,_,_,_,_,B.x f,B.r,fun _=>hc,Y.m f hp,(Y.ok f).kp,Y.bi f⟩ hg ha Ug j.a j.b
def zh(B:Bu Y k A)(f:Fn)(ha:RA X (e::es) fs)(h:Ja S X A (oV f) x (DG f)\5)(j:J2 X e es pos\4):RE X (.Call (.Name x p0) (e::es) [] pos) (xE (X_ k f) fs):=by obtain⟨rfl,rfl,rfl,hp,hg,hc,Ug⟩:=h;exact Fe ⟨_,_,_,_,_,B.x f,B.r,fun _=>hc,Y.m f hp,(Y.ok f).kp,Y.bi f⟩ hg ha Ug j.a j.b
def zo(B:Bu Y k A)(f:Fn)(ho:RE X o fo)(ha:RA X (e::es) fs)(h:Jo S X A (oV f) m (Mf f)\11)(j:J2 X e es pos\4)(ht:eval (.Call (.Attribute o m apos) (e::es) [] pos) X.env=(do
   let ov <- eval o X.env
   standAt apos.atName
   let(f,first) <- holding [ov] (getMethod ov m pl)
   callWith pos f first (backTo pos (starEach (e::es) X.env)) (backToKw pos (keywordEach [] X.env))):=by rfl):RE X (.Call (.Attribute o m apos) (e::es) [] pos) (dG (clO f) (X_ k f) fo fs):=by
 obtain⟨rfl,rfl,rfl,hp,hc⟩:=h;obtain⟨_,a,b,c,d⟩:=om Y f hp;exact EY (pl:=pl) ⟨_,_,_,_,_,_,a,b,c,d,B.x f,B.r,fun _=>hc,Y.bi f⟩ ho ha j.a j.b ht
def zo0(B:Bu Y k A)(f:Fn)(ho:RE X o fo)(h:Jo S X A (oV f) m (Mf f)\11)(ht:eval (.Call (.Attribute o m apos) [] [] pos) X.env=(do
   let ov <- eval o X.env
   standAt apos.atName
   let(f,first) <- holding [ov] (getMethod ov m pl)
   callWith pos f first (backTo pos (starEach [] X.env)) (backToKw pos (keywordEach [] X.env))):=by rfl):RE X (.Call (.Attribute o m apos) [] [] pos) (dG (clO f) (X_ k f) fo ah):=by
 obtain⟨rfl,rfl,rfl,hp,hc⟩:=h;obtain⟨_,a,b,c,d⟩:=om Y f hp;exact De (pl:=pl) ⟨_,_,_,_,_,_,a,b,c,d,B.x f,B.r,fun _=>hc,Y.bi f⟩ ho ht
def zk(B:Bu Y k A)(f:Fn)(ha:RA X (e::es) fs)(h:Ja S X A (clN f) x (Mg f)\5)(j:J2 X e es pos\4):RE X (.Call (.Name x p0) (e::es) [] pos) (xD (clO f) (X_ k f) fs):=by obtain⟨rfl,rfl,rfl,hp,hg,hc,Ug⟩:=h;obtain⟨_,a,b,c⟩:=oi Y f hp;exact Lh ⟨_,_,_,_,_,_,a,b,B.x f,B.hr,fun _=>hc,c,Y.bi f⟩ hg ha Ug j.a j.b
def zk0(B:Bu Y k A)(f:Fn)(h:Ja S X A (clN f) x (Mg f)\5):RE X (.Call (.Name x p0) [] [] pos) (xD (clO f) (X_ k f) ah):=by obtain⟨rfl,rfl,rfl,hp,hg,hc,Ug⟩:=h;obtain⟨_,a,b,c⟩:=oi Y f hp;exact HJ ⟨_,_,_,_,_,_,a,b,B.x f,B.hr,fun _=>hc,c,Y.bi f⟩ hg Ug
end
def ck{N:Zl}{Y_ scope:Scope}{j8:Y1}{vs M:Zl}(_:M=vs++j8.map fun i=>N.getD i "")(h:xC N Y_ scope j8 vs M=true):fZ N Y_ scope j8 vs M:=fZ.of h
def RR{S:SC}(Y:Sys S)(c:Bool)(k:Nat)(f:Fn)(b:Sx):Prop:=∀(X:Cx)(cd:Value)(A:Around)(s:Shared),X.toSC=S->fC (dl k+1) (A.deeper (envOfC (Ak f) (aP (pV f)) s.heap.objs.size (Y.adr f) cd))->Xk (lw c X (uJ f) (Ak f) (aP (pV f)) (Y.adr f) cd A s) (iP (pV f)) b
section
variable{S:SC}{Y:Sys S}{c:Bool}{k:Nat}{f:Fn}{b:Sx}
def rz(T:Tb Y k)(h:∀(X:Cx)(Y:Sys X.toSC)(cd:Value)(A:Around)(s:Shared),Bu Y k (lw c X (uJ f) (Ak f) (aP (pV f)) (Y.adr f) cd A s).A->(lw c X (uJ f) (Ak f) (aP (pV f)) (Y.adr f) cd A s).A.units+64<cLine->(∀i,X.mg (LI i)=none)->Xk (lw c X (uJ f) (Ak f) (aP (pV f)) (Y.adr f) cd A s) (iP (pV f)) b):RR Y c k f b:=fun X cd A s e hr=>by subst e;exact h X Y cd A s ⟨T,hr⟩ (hr.mono (afA _)).units Y.n
def fp(h:RR Y true k f b):Zt S (dl (k+1)) (Y.adr f) (Y.fd f) (lY f) (av b (lY f).length (uJ f).length):=Jg (Y.ok f) (sc f) h
def fl(h:RR Y c k f b):W4 S c (dl (k+1)) (Y.adr f) (Y.fd f) (lY f) (jL b (lY f).length (uJ f).length):=sC (Y.ok f) (sc f) h OR
def fg(h:RR Y c k f b):W4 S c (dl (k+1)) (Y.adr f) (Y.fd f) (lY f) (pY b (lY f).length (uJ f).length):=sC (Y.ok f) (sc f) h Kk
def fi(h:RR Y c k f b):W4 S c (dl (k+1)) (Y.adr f) (Y.fd f) (lY f) (yk b (lY f).length (uJ f).length):=sC (Y.ok f) (sc f) h OS
def fe(h:RR Y c k f b):W4 S c (dl (k+1)) (Y.adr f) (Y.fd f) (lY f) (bq b (lY f).length (uJ f).length):=sC (Y.ok f) (sc f) h OT
end
section
variable{S:SC}{Y:Sys S}{k:Nat}(T:Tb Y k)
include T
set_option maxHeartbeats 0 in
theorem Hf:Tb Y (k+1):=by
 refine⟨fun f=>?_,fun f=>?_,fun f=>?_,fun f h=>?_⟩<;>cases f<;>(first|exact .bad|cases h|refine fp (rz T fun X Y _ _ _ B hu n=>?_)|refine fl (rz T fun X Y _ _ _ B hu n=>?_)|refine fe (rz T fun X Y _ _ _ B hu n=>?_)|refine fg (rz T fun X Y _ _ _ B hu n=>?_)|refine fi (rz T fun X Y _ _ _ B hu n=>?_)|refine fh (rz T fun X Y _ _ _ B hu n=>?_))<;>
  (repeat' first
   |(refine(?_:Xk _ _ _);first|refine zr ?_|refine Br ?_|exact HD|refine EF ?_ ?_)
   |(refine(?_:RS _ _ _);first|refine Qb ?_|refine Nx ?_ ?_ ?_|refine HF ?_|refine CY (zT Y) B.r rfl ?_|refine zf ?_ ?_ ?_|refine EM (vf Y) rfl ?_ ?_|refine EL ?_ ?_ ?_|refine KR ?_ ?_|refine yp (ck (by rfl) (by kernel_rfl)) ?_ (fun _ _=>?_) (fun _ _=>?_) rfl rfl (by with_unfolding_all rfl)|refine EM (yM Y) rfl ?_ ?_|refine EJ ?_ ?_|refine yn (ck (by rfl) (by kernel_rfl)) ?_ (fun _ _=>?_) (fun _ _=>?_) rfl rfl (by with_unfolding_all rfl)|refine EK (uL Y) ?_ (fun _=>?_) rfl Y.Uw|refine wE (ck (by rfl) (by kernel_rfl)) ?_ (fun _ _=>?_) (fun _ _=>?_) rfl rfl (by with_unfolding_all rfl)|refine ym (ck (by rfl) (by kernel_rfl)) ?_ (fun _ _=>?_) (fun _ _=>?_) rfl rfl (by with_unfolding_all rfl)|refine HE ?_ ?_ ?_)
   |(refine(?_:RE _ _ _);first|(refine(?_:RE _ (.Name _ _) _);first|exact rv _|exact glD Y.Xh|exact glD Y.Zk|exact glI Y.u6|exact glI Y.t_|exact glS Y.Tq|exact glI Y.H8|exact glI Y.J5|exact glI Y.s7|exact glS Y.Ud|exact glI Y.q9|exact glI Y.v7|exact glT Y.Vk|exact glT Y.Tj|exact glI Y.G5|exact glS Y.v9|exact glT Y.z_|exact glI Y.J6)|(refine(?_:RE _ (.Constant _ _ _) _);first|exact Lj|exact rst|exact Ld|exact NC)|(refine(?_:RE _ (.Call (.Attribute _ _ _) _ _ _) _);first|refine nh zV afU PySem.F.slot_list_append PySem.F.type_list_append Dv ?_ ?_|refine nh nA aej ahs ahq FM ?_ ?_|refine nh nA aej ahs ahq IA ?_ ?_|refine nh nA aej PySem.F.slot_str_startswith PySem.F.type_str_startswith Dt ?_ ?_|refine nh zV afU PySem.F.slot_list_extend PySem.F.type_list_extend Du ?_ ?_|refine zo0 B .d9 ?_|refine zo B .m6 ?_ ?_|refine zo B .j4 ?_ ?_|refine nh Kz ag0 ahu PySem.F.type_dict_get LO ?_ ?_|refine nh nA aej PySem.F.slot_str_partition PySem.F.type_str_partition Iz ?_ ?_|refine nh nA aej aht ahr IB ?_ ?_|refine nh nA aej PySem.F.slot_str_split PySem.F.type_str_split FK ?_ ?_|refine zo B .j6 ?_ ?_|refine nh nA aej aht ahr FN ?_ ?_|refine zo B .d8 ?_ ?_|refine zo B .i_ ?_ ?_|refine zo0 B .k_ ?_|refine zo B .j7 ?_ ?_|refine zo B .g_ ?_ ?_|refine zo B .j9 ?_ ?_|refine Lk zV afU PySem.F.slot_list_pop PySem.F.type_list_pop LN ?_|refine zo0 B .j_ ?_)|(refine(?_:RE _ (.Call _ _ _ _) _);first|refine zc B _ ?_|refine zd B _ ?_|refine zl (n .len) ?_|refine zt Ik (n .tuple) ?_|refine zt NT (n .int) ?_|refine zis (n .isinstance) (n .str) ?_|refine zk B .h_ ?_|refine zb (LD B.hr.gd hu) (n .repr) ?_|refine zt (Iq rfl) (n .dict) ?_|refine zb (NW rfl) (n .all) ?_|exact zk0 B .j5|refine zh B _ ?_|refine zb (NN rfl) (n .sum) ?_|refine zt LC (n .str) ?_|refine Ah rfl (n .len) rfl (n .set) ?_|refine zx B _ ?_|refine zt JQ (n .str) ?_|refine EZ rfl (n .list) rfl (n .zip) ?_|refine zb (NQ rfl) (n .min) ?_|refine zt Ir (n .dict) ?_|refine zt LG (n .int) ?_|refine zis (n .isinstance) (n .tuple) ?_|exact zc0 B _)|(refine(?_:RE _ (.Subscript _ _ _) _);first|refine NA ?_ ?_|refine Dd ?_ ?_ ?_)|(refine(?_:RE _ (.BinOp _ _ _ _) _);first|refine HP ?_ ?_|refine Lg ?_ ?_|refine HL ?_ ?_|refine Lf ?_ ?_|refine KZ ?_ ?_)|refine KY ?_|refine Li ?_|refine Fc (vf Y) rfl ?_|refine Le ?_|refine Fc (yM Y) rfl ?_|refine HN (ck (by rfl) (by kernel_rfl)) ?_ (fun _ _=>?_) (fun _ _=>?_)|refine HK ?_|refine Lc ?_|refine Fa ?_ ?_ ?_|refine Nz ?_ ?_|refine nL NU ?_ ?_ ?_|refine req hu ?_ ?_|refine HM ?_|refine Ll ?_ ?_|refine NB ?_|refine nL (NO hu) ?_ ?_ ?_|refine nL Fv ?_ ?_ ?_|refine Lb ?_ ?_|refine nL LF ?_ ?_ ?_|refine Qd 7 ?_|refine nL Io ?_ ?_ ?_|refine Fd (ck (by rfl) (by kernel_rfl)) ?_ (fun _ _=>?_) (fun _ _=>?_)|refine nL (BF hu) (by with_unfolding_all rfl) ?_ ?_)
   |(refine(?_:RA _ _ _);first|refine ra1 ?_|refine rZ ?_ ?_|exact Aj)
   |(refine(?_:RT _ _ _);first|refine rte hu ?_ ?_|refine KL ?_|refine lX NS ?_ ?_ ?_|refine KM ?_|refine lX LF ?_ ?_ ?_|refine lX Fv ?_ ?_ ?_|refine lX (NO hu) ?_ ?_ ?_|refine lX (Qj (by exact hu)) (by with_unfolding_all rfl) ?_ ?_|refine lX NU ?_ ?_ ?_|refine lX (BF hu) (by with_unfolding_all rfl) ?_ ?_|refine yl Io Io ?_ ?_ ?_|refine yl Io LF ?_ ?_ ?_|refine RW.rt (EE ?_ ?_)|refine RW.rt (JM ?_ ?_))
   |(refine(?_:RW _ _ _);first|refine EE ?_ ?_|refine JM ?_ ?_|refine KK ?_|refine Hy ?_)
   |(refine(?_:RG _ _ _);first|exact gU|refine wH rfl ?_)
   |(refine(?_:RGs _ _ _);first|refine iX ?_ ?_|exact rX)
   |(refine(?_:RO _ _ _);first|refine HH ?_|exact HI)
   |(refine(?_:RI _ _ _ _);first|refine KS ?_|refine Da rfl (n .range) ?_|refine ER ?_)
   |(refine(?_:Ys _ _ _);first|exact KU|refine KT ?_)
   |(refine(?_:RPs _ _ _ _ _);first|refine EN ?_ ?_ ?_|exact HG)
   |exact Aq _)
end
theorem uB{S:SC}(Y:Sys S):∀k,Tb Y k
 |0=>⟨fun _=>.bad,fun _=>.bad,fun _=>.bad,fun _ _=>.bad⟩
 |k+1=>Hf (uB Y k)
def adP(K:W.Frag)(C:Nat->Addr):Fn->Addr->Prop
 |.j5,a=>gL K (C 609) "__init__" a
 |.m9,a=>gL K (C 3) "__init__" a
 |.d9,a=>gL K (C 609) "is_open" a
 |.j6,a=>gL K (C 609) "take_text" a
 |.d8,a=>gL K (C 609) "take_command" a
 |.m6,a=>gL K (C 609) "add_text" a
 |.i_,a=>gL K (C 609) "take_piece" a
 |.k_,a=>gL K (C 609) "take_end" a
 |.j7,a=>gL K (C 609) "take_else" a
 |.g_,a=>gL K (C 609) "take_between" a
 |.j9,a=>gL K (C 609) "take_node" a
 |.j4,a=>gL K (C 609) "count_node" a
 |.h_,a=>gL K (C 608) "__init__" a
 |.j_,a=>gL K (C 608) "finished" a
 |f,a=>W.nsIn K mainGlobals (oV f)=some (some (.ref a))
def fq{K:W.Frag}{Ad:Addr->Prop}{nm ql:Str}{st:Stmt}{ps:Zl}{f:Addr}{od an:Option Addr}{sl:Array (Option Value)}{oc kV dc pm cd ct:Value}(a:Ad f)(l:K.lookup f=some ⟨oc,od,.func (W.fnOf nm ql (sF st) (iP st) (aP st) .none kV dc pm an cd ct),sl⟩)(c:W.codeIn K cd ql=true)(k:W.keepIn K (.ref f)=true)(b:∀(kV doc pm:Value)(an:Option Addr)(cdv ct:Value)(us:Z3),us.length=ps.length->bindArgs (W.fnOf nm ql (sF st) (iP st) (aP st) .none kV doc pm an cdv ct) ⟨us,[]⟩=pure (ps.zip us)):∃a fd,Ad a/\Fun K nm ql st a fd/\ko K fd ps []:=⟨f,_,a,⟨⟨_,_,_,_,_,_,_,_,_,rfl,l,c⟩,k⟩,fun s us _ h=>by rw[adD]at h |-;exact .of_eq (b _ _ _ _ _ _ us h)⟩
def MM{l:W.OpenLaw}{w:World}{K:W.Frag}{h:Heap}{mg:Str->Option Value}{fa:Addr}(X:K.In h)(G:h.Ns mainGlobals mg)(hfa:mg "law"=some (.ref fa))
  {J4:Addr}
  {O2:Addr}
  {v8:Addr}
  {VG:Tok}
  {SJ:Tok}
  {R_:Tok}
  {T5:Tok}
  {UJ:Tok}
  {UG:Tok}
  {R9:Tok}
  {Uh:Tok}
  {Q8:Tok}
  {S_:Tok}
  {Ww:Tok}
  {O8:Tok}
  {TY:Addr} {Vu:Nat} {U9:Tok} {U8:Tok} {U7:Tok} {U6:Tok} {U5:Tok} {U4:Tok} {U3:Tok} {U0:Tok} {UW:Tok} {UL:Tok} {Uv:Tok}
  {Xm:Addr} {Zc:Nat} {XC:Tok} {Xz:Tok} {Xy:Tok} {Xx:Tok}
  {Zv:Addr} {aaF:Nat} {YX:Tok} {YW:Tok} {YT:Tok} {YS:Tok} {YQ:Tok}
  {X4:Addr} {aaG:Nat} {Y6 YM:Tok} {Xf:Int} {Y5 YL:Tok} {Xe:Int} {Y4 YK:Tok} {Xd:Int} {Y0 YJ:Tok} {Xc:Int} {YZ YH:Tok} {Xb:Int}
  {V5:Addr} {Zd:Nat} {XF Xw:Tok} {V0:Int} {XD Xv:Tok} {VR:Int}
  (Vr:W.nsIn K mainGlobals "Opened"=some (some (.ref J4)))
  (O1:Cls K J4)
  (Vg:W.makesIn K J4=true)
  (Vi:W.keepIn K (.ref J4)=true)
  (K9:W.findIn K (.ref J4) "command"=some none)
  (P0:W.findIn K (.ref J4) "nodes"=some none)
  (S7:W.findIn K (.ref J4) "yes"=some none)
  (K_:W.findIn K (.ref J4) "between"=some none)
  (V4:W.nsIn K mainGlobals "Shelf"=some (some (.ref O2)))
  (u_:Cls K O2)
  (VH:W.makesIn K O2=true)
  (VJ:W.keepIn K (.ref O2)=true)
  (O9:W.findIn K (.ref O2) "pieces"=some none)
  (O_:W.findIn K (.ref O2) "opened"=some none)
  (N8:W.findIn K (.ref O2) "counted"=some none)
  (Ux:W.nsIn K mainGlobals "BadText"=some (some (.ref v8)))
  (Um:Ph K v8)
  (q_:W.exmOne K (.ref v8) (.ref v8)=some true)
  (Ut:sL K v8 [.type "ValueError",.type "Exception",.type "BaseException",.type "object"] "ValueError.__new__"=true)
  (Us:W.keepIn K (.ref v8)=true)
  (Ur:Kx K v8=true)
  (Uq:W.findIn K (.ref v8) "__setattr__"=some (some (.builtin "object.__setattr__")))
  (Uo:W.findIn K (.ref v8) "at"=some none)
  (Un:W.hasDictIn K v8=true)
  (hf:∀f:Fn,∃a fd,adP K (fun i=>match i with|608=>J4|609=>O2|3=>v8|_=>0) f a/\Fun K (oV f) (Ak f) (pV f) a fd/\ko K fd (lY f) [])
  (Tq:W.nsIn K mainGlobals "BLANKS"=some (some (.str " \n" VG)))
  (u6:W.nsIn K mainGlobals "MOST_BODY_NAMES"=some (some (.int 3 SJ)))
  (t_:W.nsIn K mainGlobals "MOST_BOOK_SIGNS"=some (some (.int 4000 R_)))
  (G5:W.nsIn K mainGlobals "MOST_LETTERS"=some (some (.int 8 T5)))
  (J6:W.nsIn K mainGlobals "MOST_NAMES"=some (some (.int 4 UJ)))
  (J5:W.nsIn K mainGlobals "MOST_NODES"=some (some (.int 200 UG)))
  (s7:W.nsIn K mainGlobals "MOST_NODE_DEPTH"=some (some (.int 8 R9)))
  (H8:W.nsIn K mainGlobals "MOST_PIECES"=some (some (.int 8 Uh)))
  (q9:W.nsIn K mainGlobals "MOST_PIECE_NAMES"=some (some (.int 4 Q8)))
  (v7:W.nsIn K mainGlobals "MOST_USE_PATHS"=some (some (.int 4 S_)))
  (Ud:W.nsIn K mainGlobals "SIGNS"=some (some (.str "\n !\"#$&'()*+,-./0123456789:;<=>?@ABCDEFGHIJKLMNOPQRSTUVWXYZ[\\]^_`abcdefghijklmnopqrstuvwxyz{|}~" Ww)))
  (v9:W.nsIn K mainGlobals "SMALL_LETTERS"=some (some (.str "abcdefghijklmnopqrstuvwxyz" O8)))
  (z_:W.nsIn K mainGlobals "COMMAND_WORDS"=some (some (.ref TY)))
  (P_:K.lookup TY=some { cls:=.type "tuple",data:=.seq #[.str "as" U9,.str "between" U8,.str "body" U7,.str "else" U6,.str "end" U5,.str "for" U4,.str "if" U3,.str "in" U0,.str "piece" UW,.str "use" UL,.str "with" Uv] Vu })
  (Tj:W.nsIn K mainGlobals "MANIES"=some (some (.ref Xm)))
  (VK:K.lookup Xm=some { cls:=.type "tuple",data:=.seq #[.str "0" XC,.str "1" Xz,.str "2" Xy,.str "3" Xx] Zc })
  (Vk:W.nsIn K mainGlobals "WAYS"=some (some (.ref Zv)))
  (XM:K.lookup Zv=some { cls:=.type "tuple",data:=.seq #[.str "word" YX,.str "number" YW,.str "quoted" YT,.str "plain" YS,.str "line" YQ] aaF })
  (XR:W.nsIn K mainGlobals "BARE"=some (some (.ref X4)))
  (XQ:K.lookup X4=some ⟨.type "dict",none,.dict #[⟨Xf,.str "(" Y6,.str "open" YM⟩,⟨Xe,.str ")" Y5,.str "close" YL⟩,⟨Xd,.str "end" Y4,.str "end" YK⟩,⟨Xc,.str "else" Y0,.str "else" YJ⟩,⟨Xb,.str "between" YZ,.str "between" YH⟩] aaG, #[]⟩)
  (Vq:Xf=hashStr w "(")
  (Vp:Xe=hashStr w ")")
  (Vo:Xd=hashStr w "end")
  (Vn:Xc=hashStr w "else")
  (Vm:Xb=hashStr w "between")
  (Wy:(X4==sysModules)=false)
  (V1:W.nsIn K mainGlobals "BRACES"=some (some (.ref V5)))
  (VL:K.lookup V5=some ⟨.type "dict",none,.dict #[⟨V0,.str "open" XF,.str "{" Xw⟩,⟨VR,.str "close" XD,.str "}" Xv⟩] Zd, #[]⟩)
  (T9:V0=hashStr w "open")
  (T8:VR=hashStr w "close")
  (Vf:(V5==sysModules)=false)
  (hn:∀i:Nt,W.nsIn K mainGlobals (LI i)=some none):
  ∃(fd:FuncData)(T:Nat->Option Addr),(∀(s:Shared)(u:Value),BindsTo s fd ⟨[u],[]⟩ [("_law_script",u)])/\Zt ⟨l.prog,w,K,mg,h,T⟩ (dl 100) fa fd ["_law_script"] (F 100 .law):=by
 let Y:Sys ⟨l.prog,w,K,mg,h,fun i=>match i with|3=>some v8|608=>some J4|609=>some O2|_=>none⟩:={
  adr:=fun f=>(hf f).choose
  fd:=fun f=>(hf f).choose_spec.choose
  ok:=fun f=>(hf f).choose_spec.choose_spec.2.1
  bi:=fun f=>(hf f).choose_spec.choose_spec.2.2
  m:=fun f hp=>aeP X G (by have q:=(hf f).choose_spec.choose_spec.1;cases f<;>first|exact q|cases hp)
  n:=fun i=>W.mg_none_of X G (hn i)
  Ve:=fun i=>match i with|3=>v8|608=>J4|609=>O2|_=>0
  Uu:=rfl
  Uw:=aeP X G Ux
  T_:=rfl
  Wk:=aeP X G Vr
  G4:=rfl
  W8:=aeP X G V4
  q_:=q_
  VF:=⟨.inl Ut,(hf .m9).choose_spec.choose_spec.1.1,(hf .m9).choose_spec.choose_spec.1.2,Us,Ur,Uq,Uo,Un,Um⟩
  Tq:=⟨VG,(aeP X G Tq).trans (congrArg (fun z=>some (Value.str z VG)) (by kernel_rfl))⟩
  u6:=⟨SJ,(aeP X G u6).trans (rfl)⟩
  t_:=⟨R_,(aeP X G t_).trans (rfl)⟩
  G5:=⟨T5,(aeP X G G5).trans (rfl)⟩
  J6:=⟨UJ,(aeP X G J6).trans (rfl)⟩
  J5:=⟨UG,(aeP X G J5).trans (rfl)⟩
  s7:=⟨R9,(aeP X G s7).trans (rfl)⟩
  H8:=⟨Uh,(aeP X G H8).trans (rfl)⟩
  q9:=⟨Q8,(aeP X G q9).trans (rfl)⟩
  v7:=⟨S_,(aeP X G v7).trans (rfl)⟩
  Ud:=⟨Ww,(aeP X G Ud).trans (congrArg (fun z=>some (Value.str z Ww)) (by kernel_rfl))⟩
  v9:=⟨O8,(aeP X G v9).trans (congrArg (fun z=>some (Value.str z O8)) (by kernel_rfl))⟩
  z_:=⟨_,_,_,aeP X G z_,X _ _ P_,by show 11<=sizeLine;decide,Eq.mpr (congrArg (StrsAre _) (show fG.map S=(["as","between","body","else","end","for","if","in","piece","use","with"]:Zl)from by kernel_rfl)) (.cons _ _ (.cons _ _ (.cons _ _ (.cons _ _ (.cons _ _ (.cons _ _ (.cons _ _ (.cons _ _ (.cons _ _ (.cons _ _ (.cons _ _ .nil)))))))))))⟩
  Tj:=⟨_,_,_,aeP X G Tj,X _ _ VK,by show 4<=sizeLine;decide,Eq.mpr (congrArg (StrsAre _) (show cH.map S=(["0","1","2","3"]:Zl)from by kernel_rfl)) (.cons _ _ (.cons _ _ (.cons _ _ (.cons _ _ .nil))))⟩
  Vk:=⟨_,_,_,aeP X G Vk,X _ _ XM,by show 5<=sizeLine;decide,Eq.mpr (congrArg (StrsAre _) (show bu.map S=(["word","number","quoted","plain","line"]:Zl)from by kernel_rfl)) (.cons _ _ (.cons _ _ (.cons _ _ (.cons _ _ (.cons _ _ .nil)))))⟩
  Zk:=Ki (aeP X G XR) (X _ _ XQ) Wy ⋯ (by show 5<=sizeLine;decide) ⟨oh Vq (by kernel_rfl) (by kernel_rfl),oh Vp (by kernel_rfl) (by kernel_rfl),oh Vo (by kernel_rfl) (by kernel_rfl),oh Vn (by kernel_rfl) (by kernel_rfl),oh Vm (by kernel_rfl) (by kernel_rfl),trivial⟩
  Xh:=Ki (aeP X G V1) (X _ _ VL) Vf ⋯ (by show 2<=sizeLine;decide) ⟨oh T9 (by kernel_rfl) (by kernel_rfl),oh T8 (by kernel_rfl) (by kernel_rfl),trivial⟩
  O1:=O1
  Wi:=fun f hf=>by
   simp only[Xg,ac8,adH,or_false]at hf;rcases hf with rfl|rfl|rfl|rfl
   .exact K9
   .exact P0
   .exact S7
   .exact K_
  Wj:=⟨Vg,(hf .h_).choose_spec.choose_spec.1.1,(hf .h_).choose_spec.choose_spec.1.2,Vi⟩
  R5:=(hf .j_).choose_spec.choose_spec.1
  u_:=u_
  W5:=fun f hf=>by
   simp only[Xg,ac8,adH,or_false]at hf;rcases hf with rfl|rfl|rfl
   .exact O9
   .exact O_
   .exact N8
  W6:=⟨VH,(hf .j5).choose_spec.choose_spec.1.1,(hf .j5).choose_spec.choose_spec.1.2,VJ⟩
  Tf:=(hf .d9).choose_spec.choose_spec.1
  Q_:=(hf .j6).choose_spec.choose_spec.1
  M_:=(hf .d8).choose_spec.choose_spec.1
  SX:=(hf .m6).choose_spec.choose_spec.1
  Q0:=(hf .i_).choose_spec.choose_spec.1
  SQ:=(hf .k_).choose_spec.choose_spec.1
  R4:=(hf .j7).choose_spec.choose_spec.1
  N5:=(hf .g_).choose_spec.choose_spec.1
  R3:=(hf .j9).choose_spec.choose_spec.1
  Q5:=(hf .j4).choose_spec.choose_spec.1 }
 have e:=(Y.m .law rfl).symm.trans hfa;obtain rfl:Y.adr .law=fa:=by injection e with e1;injection e1
 exact⟨Y.fd .law,_,fun s v=>by obtain⟨_,_,_,_,_,_,_,_,_,e,_⟩:=(Y.ok .law).ex;rw[e];exact .of_eq rfl,(uB Y 100).p .law⟩
end K7
namespace Z
open PySem PySem.Spec PyProof.Rows
variable{h:Y3}{ls:Ya}{x:Y1}{α:Type}
theorem Res.C_{β:Type}(a:α)(h:Y3)(k:α->Y3->Res β):(Res.ok a h).bind k=k a h:=rfl
theorem PT(a:α)(h:Y3):(Res.ok a h).calm=.ok a h:=rfl
def rD(l:Y1):(S l).cps.toList=l:=by simp[S]
def qw(c:Nat)(x:Y1):tZ [c] x=x.contains c:=by
 unfold tZ aE;rw[aei,List.find?_isSome];simp only[aeu,acX,decide_eq_true_eq,adx,true_and,aep];constructor
 .rintro⟨i,hi,hp⟩
  obtain⟨t,ht⟩:=adG.mp hp;have:c∈x.drop i:=by rw[<- ht];simp
  exact ago this
 .intro h;obtain⟨i,hi⟩:=List.mem_iff_getElem?.mp h
  have hlt:i<x.length:=by
   rcases aeJ i x.length with q|q
   .exact q
   .rw[aft q]at hi;cases hi
  refine⟨i,by lia,adG.mpr ⟨x.drop (i+1),?_⟩⟩;rw[adz hlt,agQ]at hi;rw[<- hi,aga,<- List.drop_eq_getElem_cons hlt]
theorem uQ(ls:Ya):gz (ls.map PV.str)=some ls:=by
 induction ls with
 |nil=>rfl
 |cons l r ih=>simp[gz,ih]
def eJ{xs:List α}{j:Int}{v:α}(h0:0<=j)(h:xs[j.toNat]? =some v):S9 xs j=some v:=by have:=(ac9.mp h).1;simp only[S9,WX,if_pos h0,if_pos (show j<xs.length by lia)];exact h
def sJ(xs:List α)(v:α):S9 (xs++ [v]) (-1)=some v:=by
 have e:(-1+((xs.length+1:Nat):Int)).toNat=xs.length:=by lia
 unfold S9 WX;rw[if_neg ⋯,if_pos (by simp only[acZ,adF];lia),acZ,adF,e];simp
section
variable(ρ:Ev)(h:Y3)
theorem Mz(i:Nat):ag i ρ h=match ρ[i]? with|some (some p)=>.ok (aj h p) h|_=>.bad:=rfl
theorem SG(v:PV):cK v ρ h=.ok v h:=rfl
theorem Rm:ah ρ h=.ok [] h:=rfl
theorem OV:fL ρ h=.ok none h:=rfl
theorem PR:aS ρ h=.nx ρ h:=rfl
@[simp] theorem Jl(f g:Sx):aq f g ρ h=match f ρ h with|.nx ρ1 h1=>g ρ1 h1|.rt v h1=>.rt v h1|.bk ρ1 h1=>.bk ρ1 h1|.ct ρ1 h1=>.ct ρ1 h1|.exc v h1=>.exc v h1|.bad=>.bad:=rfl
theorem Rn(i:Nat)(p:PV):N6 i p ρ=some (ρ.set i (some p)):=rfl
end
section
variable(h:Y3)
theorem Rs(i:Int):aj h (.int i)=.int i:=rfl
theorem Sw(i:Bool):aj h (.bl i)=.bl i:=rfl
theorem Rp(i:Y1):aj h (.str i)=.str i:=rfl
theorem Rq:aj h .non=.non:=rfl
theorem Ro(i:Y2):aj h (.tup i)=.tup i:=rfl
theorem Rr(i:Y2):aj h (.lst i)=.lst i:=rfl
theorem Rt(i:Y2):aj h (.VB i)= .VB i:=rfl
theorem PS(xs:Y2)(r:Y3):aj (.lst xs::r) (.ref 0)=.ref 0:=rfl
@[simp] theorem MQ(a b:Y2):Ap (.lst a) (.lst b) h=if a.length+b.length<=sizeLine then .ok (.lst (a++b)) h else .bad:=rfl
theorem PZ(i j:Int):tA (.int i) (.int j) h=.ok (.int (i - j)) h:=rfl
theorem Qp(i j:Int):nR (.int i) (.int j) h=if jV i j=true then .ok (.int (i * j)) h else .bad:=rfl
theorem Sa(C:Int->Int->Bool)(g:Int->Int->Int)(i j:Int):pI C g (.int i) (.int j) h=if C i j=true then .ok (.int (g i j)) h else .bad:=rfl
theorem Sb(i:Int):iB (.int i) h=.ok (.int (-i)) h:=rfl
theorem Ry(g:Int->Int->Bool)(i j:Int):Dq g (.int i) (.int j) h=.ok (.bl (g i j)) h:=rfl
theorem SE(p:PV):Vt p .non h=.ok (.bl (bP p)) h:=rfl
theorem PM(p:PV):gE p .non h=.ok (.bl (!bP p)) h:=rfl
theorem Ss(l:Y1)(i:Int):b_ (.str l) (.int i) h=match S9 l i with|some c=>if l.length<=sizeLine then .ok (.str [c]) h else .bad|none=>.bad:=rfl
@[simp] theorem tW(l:Y2)(i:Int):b_ (.lst l) (.int i) h=match S9 l i with|some v=>.ok (aj h v) h|none=>.bad:=rfl
theorem JT(l:Y1):bK [.str l] h=match(if l.length<=sizeLine then some l.length else none)with|some n=>.ok (.int n) h|none=>.bad:=rfl
theorem JS(l:Y2):bK [.tup l] h=.ok (.int l.length) h:=rfl
theorem BO(l:Y2):bK [.lst l] h=.ok (.int l.length) h:=rfl
@[simp] theorem JV(l:Y2):bK [.VB l] h=.ok (.int l.length) h:=rfl
theorem Qt(ps:Y2):cY ps h=if ps.length<=sizeLine then .ok (.lst ps) h else .bad:=rfl
theorem Py(ps:Y2):gD ps h=if ps.length<=sizeLine then .ok (.ref h.length) (h++ [.lst ps])else .bad:=rfl
theorem PY(ps:Y2):aT ps h=if ps.length<=sizeLine then .ok (.tup ps) h else .bad:=rfl
theorem Qh(ps:Y2):T3 ps h=.ok (.lst ps) h:=rfl
theorem Iv(ps:Y2):tM ps h=.ok (.ref h.length) (h++ [.lst ps]):=rfl
theorem Su(b:Bool):uI [.bl b] h=.ok (.int (if b then 1 else 0)) h:=rfl
theorem RP(i:Int):Ao [.int i] h=if i.natAbs.log2<1920 then .ok (.str (Em i)) h else .bad:=rfl
theorem Pr(l:Y1):lW (.str l) h=.ok (l.map fun c=>PV.str [c]) h:=rfl
theorem Pq(l:Y2):lW (.tup l) h=.ok l h:=rfl
theorem Ps(l:Y2):lW (.lst l) h=.ok l h:=rfl
theorem Jh(x y:Y1):yH (.str x) [.str y] h=.ok (.int (rn (aE y x 0))) h:=rfl
theorem PN(x:Y1):cV h (.str x)=true:=rfl
theorem PQ(i:Int):cO h (.int i)=some (.int i,h):=by simp[cO,PV.pure]
theorem Rk(i:Bool):cO h (.bl i)=some (.bl i,h):=by simp[cO,PV.pure]
theorem Cd:cO h .non=some (.non,h):=by simp[cO,PV.pure]
theorem PP(i:Y1):cO h (.str i)=some (.str i,h):=by simp[cO,PV.pure]
theorem ON:Vl [] h=some ([],h):=rfl
theorem MZ(p:PV)(r:Y2):Vl (p::r) h=match cO h p with|some (q,h1)=>(match Vl r h1 with|some (qs,h2)=>some (q::qs,h2)|none=>none)|none=>none:=rfl
theorem Oa(a b:Y1):iY (.str a) (.str b) h=.ok (.bl (!tZ a b)) h:=rfl
theorem RN(b:Bool):jl h (.bl b)=some b:=rfl
theorem AJ(l:Y1):gW [.str l,.ty "str"] h=.ok (.bl true) h:=rfl
theorem IU(l:Y2):gW [.tup l,.ty "tuple"] h=.ok (.bl true) h:=rfl
end
def szl:(sizeLine:Nat)=16777216:=by decide
theorem ai(fn:Y2->Out)(ps:Y2)(h:Y3):fM fn ps h=match Vl ps h with|some (qs,h2)=>(match fn qs with|.ok v=>.ok v h2|.bad=>.bad)|none=>.bad:=rfl
def wY{i j:Int}(h:V2 18446744073709551616 j=true):jV i j=true:=by unfold jV;rw[h,aiE,ah8]
def FJ{i j:Int}(h:V2 18446744073709551616 i=true):jV i j=true:=by unfold jV;rw[h,aiE]
def jD(a b:Y1)(h:Y3)(ha:∀c∈a,c<1114112)(hb:∀c∈b,c<1114112):o9 (.str a) (.str b) h=.ok (.bl (decide (a=b))) h:=by
 have ok:∀l:Y1,(∀c∈l,c<1114112)->TP h (.str l)=true:=by intro l hl;unfold TP TV;simp only[toD,PyData.canLay0,PyData.depth];simp[PyData.strOk,S];exact hl
 unfold o9;rw[if_pos ⟨ok a ha,ok b hb⟩]
 have e:PyData.eqv (TV h (.str a)) (TV h (.str b))=decide (a=b):=by
  show PyData.eqv (toD (.str a)) (toD (.str b))=_;simp only[toD,PyData.eqv]
  by_cases q:a=b
  .subst q;simp
  .have:¬ S a=S b:=fun z=>q (zO z);simp[q,this]
 rw[e]
def uA{xs:List α}{i:Int}(d:α)(h0:0<=i)(h1:i<(xs.length:Int)):S9 xs i=some (xs.getD i.toNat d):=by refine eJ h0 ?_;rw[adA,adz ⋯];rfl
def jd{xs:List α}{n:Nat}{d:α}(h:n<xs.length):xs.getD n d∈xs:=by rw[adA,adz h];exact agi h
theorem vy:∀ls:Ya,aI [] ls=ls.flatten
 |[]=>rfl
 |[x]=>by simp[aI]
 |x::y::r=>by show x++ []++aI [] (y::r)=_;rw[vy (y::r),adD];rfl
def tF{sep:Y1}{q:PV}(e:W9 h q=some (ls.map PV.str))(hz:(ls.map (fun l=>l.length)).sum+ls.length * sep.length<=16777216):gu (.str sep) [q] h=.ok (.str (aI sep ls)) h:=by unfold gu;simp only[sKq,oQ1,e,uQ,hz,if_true]
def kF(hz:(ls.map (fun l=>l.length)).sum<=16777216):gu (.str []) [.lst (ls.map PV.str)] h=.ok (.str ls.flatten) h:=by rw[tF (ls:=ls) rfl (by simpa using hz),vy]
theorem Pg(xs:Y2)(r:Y3)(p:PV):bn (.ref 0) [p] (.lst xs::r)=if xs.length<sizeLine then .ok .non (.lst (xs++ [p])::r)else .bad:=rfl
theorem Mi(xs:Y2)(r:Y3):cC (.lst xs::r) (.ref 0)=true:=rfl
def Fr(a b:Int)(h:Y3):o9 (.int a) (.int b) h=.ok (.bl (decide (a=b))) h:=by
 have ok:∀l:Int,TP h (.int l)=true:=fun l=>by unfold TP TV;simp[toD,PyData.canLay0,PyData.depth]
 unfold o9;rw[if_pos ⟨ok a,ok b⟩]
 have e:PyData.eqv (TV h (.int a)) (TV h (.int b))=decide (a=b):=by
  show PyData.eqv (toD (.int a)) (toD (.int b))=_;simp only[toD,PyData.eqv]
  by_cases q:a=b<;>simp[q]
 rw[e]
def lZ(a b:Y1)(h:Y3)(ha:∀c∈a,c<1114112)(hb:∀c∈b,c<1114112):Vs (.str a) (.str b) h=.ok (.bl (!decide (a=b))) h:=by
 have e:=jD a b h ha hb;unfold o9 at e;unfold Vs
 split at e
 .rename_i hc;rw[if_pos hc];injection e with e1 e2
  injection e1 with e1
  rw[e1]
 .cases e
variable{m:Nat}{raw I6:Y1}
section
open PySem.NumText (digitsVal AllDigits)
section
variable(h:Y3)(ρ:Ev)
theorem Pp(xs:Y2):dJ [.lst xs] h=.ok (.tup xs) h:=rfl
end
def qk{l:Y1}(h:Y3)(hl:∀c∈l,c<1114112):TP h (.str l)=true:=by unfold TP TV;simp only[toD,PyData.canLay0,PyData.depth];simp[PyData.strOk,S];exact hl
def MA(a b:Y1)(ha:∀c∈a,c<1114112)(hb:∀c∈b,c<1114112):PyData.eqv (toD (.str a)) (toD (.str b))=decide (a=b):=by
 have:=jD a b [] ha hb;unfold o9 at this;rw[if_pos ⟨qk [] ha,qk [] hb⟩]at this;injection this with this
 injection this
theorem CD{x:Y1}(hx:∀c∈x,c<1114112):∀{ls:Ya},(∀l∈ls,∀c∈l,c<1114112)->((ls.map PV.str).any fun y=>PyData.eqv (toD y) (toD (.str x)))=decide (x∈ls)
 |[],_=>rfl
 |l::r,h=>by rw[ac5,afK,MA l x (h l (by simp)) hx,CD hx fun z hz=>h z (ac1 _ hz),aei,ad8,decide_eq_true_eq,decide_eq_true_eq,decide_eq_true_eq,ac8];exact or_congr eq_comm Iff.rfl
theorem uB:∀{ls:Ya},(∀l∈ls,∀c∈l,c<1114112)->(ls.map PV.str).all (TP [])=true
 |[],_=>rfl
 |l::r,h=>by rw[ac5,aeK,qk [] (h l (by simp)),uB fun z hz=>h z (ac1 _ hz)];rfl
def Ke(hx:∀c∈x,c<1114112)(hl:∀l∈ls,∀c∈l,c<1114112)(h:Y3):Do (.str x) (.tup (ls.map PV.str)) h=some (decide (x∈ls)):=by show(if TP [] (.str x)=true/\(ls.map PV.str).all (TP [])=true then some ((ls.map PV.str).any fun y=>PyData.eqv (toD y) (toD (.str x)))else none)=_;rw[if_pos ⟨qk [] hx,uB hl⟩,CD hx hl]
def Ml(hx:∀c∈x,c<1114112)(hl:∀l∈ls,∀c∈l,c<1114112)(h:Y3):Wx (.str x) (.tup (ls.map PV.str)) h=.ok (.bl (decide (x∈ls))) h:=by unfold Wx;rw[Ke hx hl]
def BG(hx:∀c∈x,c<1114112)(hl:∀l∈ls,∀c∈l,c<1114112)(h:Y3):iY (.str x) (.tup (ls.map PV.str)) h=.ok (.bl (!decide (x∈ls))) h:=by unfold iY;rw[Ke hx hl]
section
variable(ρ:Ev)(h:Y3)
theorem bE(C:Nat)(v:PV):pZ C (.ok [v] h)=.exc (.Wn C v) h:=rfl
end
section
variable(ρ:Ev)(h:Y3)
theorem PU(i j:Int):ak (.int i) (.int j) h=.ok (.int (i+j)) h:=rfl
theorem JE(a b:Y1):ak (.str a) (.str b) h=if a.length+b.length<=sizeLine then .ok (.str (a++b)) h else .bad:=rfl
theorem bF{p:PV}(hp:p.pure=true):cO h p=some (p,h):=by cases p<;>first|(simp[PV.pure]at hp;done)|simp[cO,hp]
theorem mQ{p:PV}(hp:p.pure=true):aj h p=p:=by cases p<;>first|(simp[PV.pure]at hp;done)|rfl
end
section
variable{ρ:Ev}
theorem Sv(n:Nat)(gs:ZR)(ps:Y2):Zj n gs (.tup ps) ρ=if ps.length=n then gs ps ρ else none:=rfl
theorem SF:pB [] ρ=some ρ:=rfl
theorem RY(l:Y1)(lo hi:Zp):nQ (.str l) lo hi h=if l.length<=sizeLine then .ok (.str (cut l lo hi)) h else .bad:=rfl
theorem yc(l:Y2)(lo hi:Zp):nQ (.lst l) lo hi h=.ok (.lst (cut l lo hi)) h:=rfl
end
section
variable(ρ:Ev)(h:Y3)(a K xa:PV)(b:Ev)(c d e f g i j k l m n o p q r s t u v y:Option PV)(w:Nat)(x I O:Ex)(z A:Sx)(B:PV->Y3->Res PV)(C:Y2->Y3->Res PV)(D:Ax)(E:Y2->Out)(G:Y2->Res PV)(H N:PV->PV->Y3->Res PV)(J:Y2)(L:Bool)(M W:Tx)(P Q:Ox)(R:PV->Zp->Zp->Y3->Res PV)(S:Zp)(T:Int)(U:Y3->PV->Bool)(V:PV->Y2->Y3->Res PV)(X:Y1)(Y:Gx)(Z:PV->PV->PV->Ev->Y3->SR)(xb:ZR)
theorem kv0:ag 0 (some a::b) h=.ok (aj h a) h:=rfl
theorem kv1:ag 1 (c::some a::b) h=.ok (aj h a) h:=rfl
theorem kv2:ag 2 (c::d::some a::b) h=.ok (aj h a) h:=rfl
theorem kv3:ag 3 (c::d::e::some a::b) h=.ok (aj h a) h:=rfl
theorem kv4:ag 4 (c::d::e::f::some a::b) h=.ok (aj h a) h:=rfl
theorem kv5:ag 5 (c::d::e::f::g::some a::b) h=.ok (aj h a) h:=rfl
theorem kv6:ag 6 (c::d::e::f::g::i::some a::b) h=.ok (aj h a) h:=rfl
theorem kv7:ag 7 (c::d::e::f::g::i::j::some a::b) h=.ok (aj h a) h:=rfl
theorem kv8:ag 8 (c::d::e::f::g::i::j::k::some a::b) h=.ok (aj h a) h:=rfl
theorem kv9:ag 9 (c::d::e::f::g::i::j::k::l::some a::b) h=.ok (aj h a) h:=rfl
theorem QG:ag 10 (c::d::e::f::g::i::j::k::l::m::some a::b) h=.ok (aj h a) h:=rfl
theorem QF:ag 11 (c::d::e::f::g::i::j::k::l::m::n::some a::b) h=.ok (aj h a) h:=rfl
theorem QE:ag 12 (c::d::e::f::g::i::j::k::l::m::n::o::some a::b) h=.ok (aj h a) h:=rfl
theorem QD:ag 13 (c::d::e::f::g::i::j::k::l::m::n::o::p::some a::b) h=.ok (aj h a) h:=rfl
def Wm(i:Nat)(ρ:Ev)(r:Res PV):SR:=eY r fun v h1=>.nx (ρ.set i (some v)) h1
theorem PC:aH w x ρ h=Wm w ρ (x ρ h):=rfl
theorem ks0:Wm 0 (c::b) (.ok a h)=.nx (some a::b) h:=rfl
theorem ks1:Wm 1 (c::d::b) (.ok a h)=.nx (c::some a::b) h:=rfl
theorem ks2:Wm 2 (c::d::e::b) (.ok a h)=.nx (c::d::some a::b) h:=rfl
theorem ks3:Wm 3 (c::d::e::f::b) (.ok a h)=.nx (c::d::e::some a::b) h:=rfl
theorem ks4:Wm 4 (c::d::e::f::g::b) (.ok a h)=.nx (c::d::e::f::some a::b) h:=rfl
theorem ks5:Wm 5 (c::d::e::f::g::i::b) (.ok a h)=.nx (c::d::e::f::g::some a::b) h:=rfl
theorem ks6:Wm 6 (c::d::e::f::g::i::j::b) (.ok a h)=.nx (c::d::e::f::g::i::some a::b) h:=rfl
theorem ks7:Wm 7 (c::d::e::f::g::i::j::k::b) (.ok a h)=.nx (c::d::e::f::g::i::j::some a::b) h:=rfl
theorem ks8:Wm 8 (c::d::e::f::g::i::j::k::l::b) (.ok a h)=.nx (c::d::e::f::g::i::j::k::some a::b) h:=rfl
theorem ks9:Wm 9 (c::d::e::f::g::i::j::k::l::m::b) (.ok a h)=.nx (c::d::e::f::g::i::j::k::l::some a::b) h:=rfl
theorem QO:Wm 10 (c::d::e::f::g::i::j::k::l::m::n::b) (.ok a h)=.nx (c::d::e::f::g::i::j::k::l::m::some a::b) h:=rfl
theorem QN:Wm 11 (c::d::e::f::g::i::j::k::l::m::n::o::b) (.ok a h)=.nx (c::d::e::f::g::i::j::k::l::m::n::some a::b) h:=rfl
theorem QM:Wm 12 (c::d::e::f::g::i::j::k::l::m::n::o::p::b) (.ok a h)=.nx (c::d::e::f::g::i::j::k::l::m::n::o::some a::b) h:=rfl
theorem QL:Wm 13 (c::d::e::f::g::i::j::k::l::m::n::o::p::q::b) (.ok a h)=.nx (c::d::e::f::g::i::j::k::l::m::n::o::p::some a::b) h:=rfl
theorem QH:Wm w ρ (.exc a h)=.exc a h:=rfl
def Bq(g:Sx)(r:SR):SR:=match r with
 |.nx ρ1 h1=>g ρ1 h1
 |.rt v h1=>.rt v h1
 |.bk ρ1 h1=>.bk ρ1 h1
 |.ct ρ1 h1=>.ct ρ1 h1
 |.exc v h1=>.exc v h1
 |.bad=>.bad
theorem PD:aq z A ρ h=Bq A (z ρ h):=rfl
theorem RX:Bq z (.nx ρ h)=z ρ h:=rfl
theorem RU:Bq z (.rt a h)=.rt a h:=rfl
theorem Qa:Bq z (.exc a h)=.exc a h:=rfl
def kg{α β:Type}(f:α->Y3->Res β)(r:Res α):Res β:=r.bind f
theorem Sj{β:Type}(f:α->Y3->Res β)(a:α):kg f (.ok a h)=f a h:=rfl
theorem Si:c1 B x ρ h=kg B (x ρ h):=rfl
theorem Sf:cN C D ρ h=kg C (D ρ h):=rfl
theorem PH:aG E D ρ h=kg (fM E) (D ρ h):=rfl
theorem On:aN C D ρ h=kg (I9 C) (D ρ h):=rfl
theorem PI:gK x ρ h=kg lW (x ρ h):=rfl
theorem Om:cFz x ρ h=kg fzR (x ρ h):=rfl
def k2(g:PV->PV->Y3->Res PV)(b:Ex)(ρ:Ev)(r:Res PV):Res PV:=r.bind fun x h1=>kg (g x) (b ρ h1)
theorem Sh:c2 H x I ρ h=k2 H I ρ (x ρ h):=rfl
theorem Sr:k2 H x ρ (.ok a h)=kg (H a) (x ρ h):=rfl
def kC2(x:PV)(r:Res Y2):Res Y2:=r.bind fun xs h2=>.ok (x::xs) h2
def kC(r:Ax)(ρ:Ev)(x:Res PV):Res Y2:=x.bind fun x h1=>kC2 x (r ρ h1)
theorem PG:af x D ρ h=kC D ρ (x ρ h):=rfl
theorem Sp:kC D ρ (.ok a h)=kC2 a (D ρ h):=rfl
theorem Re:kC2 a (.ok J h)=.ok (a::J) h:=rfl
def Os(g:Ex)(ρ:Ev)(r:Res PV):Res PV:=r.bind fun p h1=>match p with|.bl b=>if b=true then g ρ h1 else .ok (.bl false) h1|_=>.bad
theorem LY:DS x I ρ h=Os I ρ (x ρ h):=rfl
theorem Mc:Os x ρ (.ok (.bl L) h)=if L=true then x ρ h else .ok (.bl false) h:=rfl
def kOr(g:Ex)(ρ:Ev)(r:Res PV):Res PV:=r.bind fun p h1=>match p with|.bl b=>if b=true then .ok (.bl true) h1 else g ρ h1|_=>.bad
theorem Se:cOr x I ρ h=kOr I ρ (x ρ h):=rfl
theorem Sm:kOr x ρ (.ok (.bl L) h)=if L=true then .ok (.bl true) h else x ρ h:=rfl
def kIe(f g:Ex)(ρ:Ev)(r:Res Bool):Res PV:=r.bind fun b h1=>if b=true then f ρ h1 else g ρ h1
theorem Qx:rO M x I ρ h=kIe x I ρ (M ρ h):=rfl
theorem QZ:kIe x I ρ (.ok L h)=if L=true then x ρ h else I ρ h:=rfl
def kH3(g':PV->PV->Y3->Res PV)(c:Ex)(ρ:Ev)(y:PV)(r:Res PV):Res PV:=r.bind fun z h3=>match z with|.bl false=>.ok (.bl false) h3|.bl true=>kg (g' y) (c ρ h3)|_=>.bad
def kH2(g g':PV->PV->Y3->Res PV)(c:Ex)(ρ:Ev)(x:PV)(r:Res PV):Res PV:=r.bind fun y h2=>kH3 g' c ρ y (g x y h2)
def kH1(g g':PV->PV->Y3->Res PV)(b c:Ex)(ρ:Ev)(r:Res PV):Res PV:=r.bind fun x h1=>kH2 g g' c ρ x (b ρ h1)
theorem Ge:qG H N x I O ρ h=kH1 H N I O ρ (x ρ h):=rfl
theorem Ma:kH1 H N x I ρ (.ok a h)=kH2 H N I ρ a (x ρ h):=rfl
theorem LZ:kH2 H N x ρ a (.ok K h)=kH3 N x ρ K (H a K h):=rfl
theorem Oq:kH3 H x ρ a (.ok (.bl L) h)=if L=true then kg (H a) (x ρ h)else .ok (.bl false) h:=by cases L<;>rfl
def kL2(f:PV->Zp->Zp->Y3->Res PV)(hi:Ox)(ρ:Ev)(p:PV)(r:Res Zp):Res PV:=r.bind fun l h2=>kg (f p l) (hi ρ h2)
def kL1(f:PV->Zp->Zp->Y3->Res PV)(lo hi:Ox)(ρ:Ev)(r:Res PV):Res PV:=r.bind fun p h1=>kL2 f hi ρ p (lo ρ h1)
theorem Qv:iG x P Q ρ h=kL1 nQ P Q ρ (x ρ h):=rfl
theorem QX:kL1 R P Q ρ (.ok a h)=kL2 R Q ρ a (P ρ h):=rfl
theorem QW:kL2 R P ρ a (.ok S h)=kg (R a S) (P ρ h):=rfl
def kO(r:Res PV):Res Zp:=r.bind fun p h1=>match p with|.int i=>.ok (some i) h1|_=>.bad
theorem Ol:dZ x ρ h=kO (x ρ h):=rfl
theorem SA:kO (.ok (.int T) h)=.ok (some T) h:=rfl
def kM(recv:Y3->PV->Bool)(g:PV->Y2->Y3->Res PV)(as:Ax)(ρ:Ev)(r:Res PV):Res PV:=r.bind fun p h1=>if recv h1 p=true then kg (g p) (as ρ h1)else .bad
theorem Sg:cM U V x D ρ h=kM U V D ρ (x ρ h):=rfl
theorem Sn:kM U V D ρ (.ok a h)=if U h a=true then kg (V a) (D ρ h)else .bad:=rfl
def kTo(h:Y3)(o:Option Bool):Res Bool:=match o with|some b=>.ok b h|none=>.bad
def kTr(r:Res PV):Res Bool:=r.bind fun p h1=>kTo h1 (jl h1 p)
theorem Pz:cL x ρ h=kTr (x ρ h):=rfl
theorem QT:kTr (.ok a h)=kTo h (jl h a):=rfl
theorem Sk:kTo h (some L)=.ok L h:=rfl
def kCm(r:Res PV):Res Bool:=r.bind fun p h1=>match p with|.bl b=>.ok b h1|_=>.bad
theorem PA:au x ρ h=kCm (x ρ h):=rfl
theorem So:kCm (.ok (.bl L) h)=.ok L h:=rfl
def kNt(r:Res Bool):Res Bool:=r.bind fun b h1=>.ok (!b) h1
theorem BR:hM M ρ h=kNt (M ρ h):=rfl
theorem Gi:kNt (.ok L h)=.ok (!L) h:=rfl
def kTa(g:Tx)(ρ:Ev)(r:Res Bool):Res Bool:=r.bind fun b h1=>if b=true then g ρ h1 else .ok false h1
theorem PB:lR M W ρ h=kTa W ρ (M ρ h):=rfl
theorem QU:kTa M ρ (.ok L h)=if L=true then M ρ h else .ok false h:=rfl
def kTu(g:Tx)(ρ:Ev)(r:Res Bool):Res Bool:=r.bind fun b h1=>if b=true then .ok true h1 else g ρ h1
theorem Qu:iL M W ρ h=kTu W ρ (M ρ h):=rfl
theorem QS:kTu M ρ (.ok L h)=if L=true then .ok true h else M ρ h:=rfl
def kR1(ps:Y2)(h1:Y3):Res Y2:=match ps with|[.int j]=>if V2 4611686018427387904 j=true then .ok ((List.range j.toNat).map fun i=>PV.int (0+(i:Nat))) h1 else .bad|_=>.bad
theorem MY:fK D ρ h=kg kR1 (D ρ h):=rfl
theorem Sl(j:Int):kR1 [.int j] h=if V2 4611686018427387904 j=true then .ok ((List.range j.toNat).map fun i=>PV.int (0+(i:Nat))) h else .bad:=rfl
def kCo(j8:Y1)(tt:Tx)(te:Ex)(ρ:Ev)(r:Res Y2):Res Y2:=r.bind fun xs h1=>if xs.length<sizeLine then(cD tt te (bX j8 ρ) xs h1).calm else .bad
theorem Oo:cW X D M x ρ h=kCo X M x ρ (D ρ h):=rfl
theorem Rc:kCo X M x ρ (.ok J h)=if J.length<sizeLine then(cD M x (bX X ρ) J h).calm else .bad:=rfl
def kCp(j8:Y1)(tt:Tx)(te:Ex)(ρ:Ev)(r:Res Y2):Res Y2:=r.bind fun xs h1=>if xs.length<sizeLine then(fY tt te (bX j8 ρ) xs h1).calm else .bad
theorem DB:gT X D M x ρ h=kCp X M x ρ (D ρ h):=rfl
theorem Mb:kCp X M x ρ (.ok J h)=if J.length<sizeLine then(fY M x (bX X ρ) J h).calm else .bad:=rfl
def kRt(r:Res PV):SR:=eY r fun v h1=>.rt v h1
theorem PE:aL x ρ h=kRt (x ρ h):=rfl
theorem QV(v:PV):kRt (.ok v h)=.rt v h:=rfl
theorem PJ(v:PV):kRt (.exc v h)=.exc v h:=rfl
def kDr(ρ:Ev)(r:Res PV):SR:=eY r fun _ h1=>.nx ρ h1
theorem Oj:bJ x ρ h=kDr ρ (x ρ h):=rfl
theorem Rb:kDr ρ (.ok a h)=.nx ρ h:=rfl
theorem PL:kDr ρ (.exc a h)=.exc a h:=rfl
def T4(f g:Sx)(ρ:Ev)(r:Res Bool):SR:=CA r fun b h1=>if b=true then f ρ h1 else g ρ h1
theorem Qw:o8 M z A ρ h=T4 z A ρ (M ρ h):=rfl
theorem QY:T4 z A ρ (.ok L h)=if L=true then z ρ h else A ρ h:=rfl
def kFo(g:Gx)(body:Sx)(ρ:Ev)(r:Res Y2):SR:=Ga r fun xs h1=>bC g body xs ρ h1
theorem PF:oK D Y z ρ h=kFo Y z ρ (D ρ h):=rfl
theorem Ra:kFo Y z ρ (.ok J h)=bC Y z J ρ h:=rfl
def kX3(s:PV->PV->PV->Ev->Y3->SR)(ρ:Ev)(v o:PV)(r:Res PV):SR:=eY r fun i h3=>s v o i ρ h3
def kX2(s:PV->PV->PV->Ev->Y3->SR)(fi:Ex)(ρ:Ev)(v:PV)(r:Res PV):SR:=eY r fun o h2=>kX3 s ρ v o (fi ρ h2)
def kX1(s:PV->PV->PV->Ev->Y3->SR)(fo fi:Ex)(ρ:Ev)(r:Res PV):SR:=eY r fun v h1=>kX2 s fi ρ v (fo ρ h1)
theorem Oi:jA x I O ρ h=kX1 gA x I ρ (O ρ h):=rfl
theorem IP:ED x I O ρ h=kX1 Bo x I ρ (O ρ h):=rfl
theorem QR:kX1 Z x I ρ (.ok a h)=kX2 Z I ρ a (x ρ h):=rfl
theorem QQ:kX2 Z x ρ a (.ok K h)=kX3 Z ρ a K (x ρ h):=rfl
theorem QP:kX3 Z ρ a K (.ok xa h)=Z a K xa ρ h:=rfl
def kAo(h:Y3)(o:Option Ev):SR:=match o with|some ρ1=>.nx ρ1 h|none=>.bad
def kAs(g:Gx)(ρ:Ev)(r:Res PV):SR:=eY r fun v h1=>kAo h1 (g v ρ)
theorem Qy:Ae Y x ρ h=kAs Y ρ (x ρ h):=rfl
theorem Rf:kAs Y ρ (.ok a h)=kAo h (Y a ρ):=rfl
theorem Sq:kAo h (some ρ)=.nx ρ h:=rfl
def kG(gs:ZR)(r:Y2)(o:Option Ev):Option Ev:=match o with|some ρ1=>gs r ρ1|none=>none
theorem Sy:fO Y xb (a::J) ρ=kG xb J (Y a ρ):=rfl
theorem SD:kG xb J (some ρ)=xb J ρ:=rfl
def kIx(h:Y3)(o:Option PV):Res PV:=match o with|some v=>.ok (aj h v) h|none=>.bad
theorem Op:kIx h (some a)=.ok (aj h a) h:=rfl
theorem Sc:b_ (.tup J) (.int T) h=kIx h (S9 J T):=rfl
theorem Sd:b_ (.lst J) (.int T) h=kIx h (S9 J T):=rfl
theorem Oh:b_ (.VB J) (.int T) h=kIx h (S9 J T):=rfl
end
section
variable(ρ:Ev)(h:Y3)(a b:PV)(w j:Nat)(x y:Ex)(z g:Sx)(C:Y2->Y3->Res PV)(D:Ax)(J:Y2)(o:Option (Nat×Y2))(f:Nat->Bool)(i:Nat)
theorem NZ:xE C D ρ h=kg C (D ρ h):=rfl
def nMa(C:Y2->Y3->Res PV)(p:PV)(r:Res Y2):Res PV:=r.bind fun ps h2=>C (p::ps) h2
def nMo(w:Nat)(C:Y2->Y3->Res PV)(D:Ax)(ρ:Ev)(r:Res PV):Res PV:=r.bind fun p h1=>if(qo w h1 p).isSome=true then nMa C p (D ρ h1)else .bad
theorem Pu:dG w C x D ρ h=nMo w C D ρ (x ρ h):=by
 unfold dG nMo
 cases x ρ h with
 |ok p h1=>
  show(match qo w h1 p with|some _=>_|none=>_)=_
  cases q:qo w h1 p with
  |none=>simp[Res.bind,q]
  |some _=>simp[Res.bind,q,nMa]
 |exc _ _=>rfl
 |bad=>rfl
theorem Qn:nMo w C D ρ (.ok a h)=if(qo w h a).isSome=true then nMa C a (D ρ h)else .bad:=rfl
theorem Qo:nMa C a (.ok J h)=C (a::J) h:=rfl
theorem Qk:xD w C D ρ h=kg (mkO w C) (D ρ h):=rfl
def LM(w j:Nat)(ρ:Ev)(v:PV)(r:Res PV):SR:=eY r fun o h2=>lV w j v o ρ h2
def Of(w j:Nat)(fo:Ex)(ρ:Ev)(r:Res PV):SR:=eY r fun v h1=>LM w j ρ v (fo ρ h1)
theorem Pt:jq w j x y ρ h=Of w j x ρ (y ρ h):=rfl
theorem Px:Of w j x ρ (.ok a h)=LM w j ρ a (x ρ h):=rfl
theorem Pw:LM w j ρ a (.ok b h)=lV w j a b ρ h:=rfl
end
section
variable(h:Y3)(a:PV)(b:Ev)(c0 c1 c2 c3 c4 c5 c6 c7 c8 c9 YD YC ZF ZD c14 c15 c16 c17 c18:Option PV)
theorem QC:ag 14 (c0::c1::c2::c3::c4::c5::c6::c7::c8::c9::YD::YC::ZF::ZD::some a::b) h=.ok (aj h a) h:=rfl
theorem QB:ag 15 (c0::c1::c2::c3::c4::c5::c6::c7::c8::c9::YD::YC::ZF::ZD::c14::some a::b) h=.ok (aj h a) h:=rfl
theorem QK:Wm 15 (c0::c1::c2::c3::c4::c5::c6::c7::c8::c9::YD::YC::ZF::ZD::c14::c15::b) (.ok a h)=.nx (c0::c1::c2::c3::c4::c5::c6::c7::c8::c9::YD::YC::ZF::ZD::c14::some a::b) h:=rfl
theorem QA:ag 16 (c0::c1::c2::c3::c4::c5::c6::c7::c8::c9::YD::YC::ZF::ZD::c14::c15::some a::b) h=.ok (aj h a) h:=rfl
theorem QJ:Wm 16 (c0::c1::c2::c3::c4::c5::c6::c7::c8::c9::YD::YC::ZF::ZD::c14::c15::c16::b) (.ok a h)=.nx (c0::c1::c2::c3::c4::c5::c6::c7::c8::c9::YD::YC::ZF::ZD::c14::c15::some a::b) h:=rfl
theorem Qz:ag 17 (c0::c1::c2::c3::c4::c5::c6::c7::c8::c9::YD::YC::ZF::ZD::c14::c15::c16::some a::b) h=.ok (aj h a) h:=rfl
theorem QI:Wm 17 (c0::c1::c2::c3::c4::c5::c6::c7::c8::c9::YD::YC::ZF::ZD::c14::c15::c16::c17::b) (.ok a h)=.nx (c0::c1::c2::c3::c4::c5::c6::c7::c8::c9::YD::YC::ZF::ZD::c14::c15::c16::some a::b) h:=rfl
end
section
variable(ρ:Ev)(h:Y3)(x y:Ex)(D:Ax)
theorem Gb:Ba x ρ h=kg BT (x ρ h):=rfl
theorem Oz(J:List (PK×PV)):BT (.dct J) h=.ok (AI J) h:=rfl
theorem LP(i j:Int):Fq [.int i,.int j] h=.ok (.int (if j<i then j else i)) h:=rfl
end
section
variable(h:Y3)
theorem MP(a b:Y2):Ap (.tup a) (.tup b) h=if a.isEmpty=false/\a.length+b.length<=sizeLine then .ok (.tup (a++b)) h else .bad:=rfl
theorem iM{l:Y2}(q:am l=true):cO h (.tup l)=some (.tup l,h):=by simp[cO,PV.pure,q]
def gF(mark raw I6:Y1)(c:Nat):Y1:=match aE [c] raw 0 with
 |some i=>mark++ [I6.getD i 0]
 |none=> [c]
end
theorem Jm(g:Gx)(body:Sx)(p:PV)(r:Y2)(ρ:Ev)(h:Y3):bC g body (p::r) ρ h=match g p ρ with
  |some ρ1=>(match body ρ1 h with
   |.nx ρ2 h2=>bC g body r ρ2 h2
   |.ct ρ2 h2=>bC g body r ρ2 h2
   |.bk ρ2 h2=>.nx ρ2 h2
   |.rt v h2=>.rt v h2
   |.exc v h2=>.exc v h2
   |.bad=>.bad)
  |none=>.bad:=rfl
section
variable(h:Y3)
@[simp] theorem Eh(l:Y1):jl h (.str l)=if l.length<=sizeLine then some (!l.isEmpty)else none:=rfl
end
theorem pJ{tt:Tx}{te:Ex}{cp:Ev}{h:Y3}{t:PV->Bool}{f:PV->PV}:∀(xs:Y2),(∀p∈xs,tt (some p::cp) h=.ok (t p) h)->(∀p∈xs,te (some p::cp) h=.ok (f p) h)->
  cD tt te cp xs h=.ok ((xs.filter t).map f) h
 |[],_,_=>rfl
 |p::r,h1,h2=>by
  have ih:=pJ r (fun q hq=>h1 q (ac1 _ hq)) (fun q hq=>h2 q (ac1 _ hq));rw[cD,h1 p ac4]
  cases e:t p with
  |true=>simp only[Res.C_,if_true,h2 p ac4,ih,ag6,e,ac5]
  |false=>simp only[Res.C_,ad3,if_false,ih,ag6,e]
def vI{te:Ex}{cp:Ev}{f:PV->PV}(xs:Y2)(h2:∀p∈xs,te (some p::cp) h=.ok (f p) h):cD bg te cp xs h=.ok (xs.map f) h:=by have:=pJ (tt:=bg) (t:=fun _=>true) xs (fun _ _=>rfl) h2;rw[this,ahL.mpr (fun _ _=>rfl)]
section
variable(h:Y3)
@[simp] theorem GE(x y:Y1)(i:Int):wU (.str x) [.str y,.int i] h=.ok (.int (qy x y i)) h:=rfl
@[simp] theorem CP(x y:Y1):gV (.str x) [.str y] h=.ok (.bl (mJ x y)) h:=rfl
@[simp] theorem Mj(x:Y1):BB [.str x] h=(match Gp x with|some n=>if x.length<=640 then .ok (.int n) h else .bad|none=>.bad):=rfl
end
theorem Ls(c:Nat)(x:Y1)(i:Nat): [c].isPrefixOf (x.drop i)=decide (x[i]? =some c):=by
 rw[aei,decide_eq_true_eq]
 cases e:x.drop i with
 |nil=>have:x.length<=i:=List.drop_eq_nil_iff.mp e;simp[List.isPrefixOf,this]
 |cons a r=>
  have:x[i]? =some a:=by have:=afp (l:=x) (i:=i);rw[e]at this;simpa using this.symm
  rw[this];show(c==a&&true)=true↔some a=some c;rw[aeA,beq_iff_eq,agQ];exact⟨Eq.symm,Eq.symm⟩
theorem jz{c:Nat}:∀{s:Y1},c∈s->∃a b,s=a++c::b/\(∀z∈a,z≠c)
 |[],h=>by cases h
 |z::r,h=>by
  by_cases q:z=c
  .subst q;exact⟨[],r,rfl,by simp⟩
  .obtain⟨a,b,e,n⟩:=jz (c:=c) (s:=r) (by rcases ac8.mp h with w|w;exact absurd w.symm q;exact w)
   exact⟨z::a,b,by rw[e];rfl,by
    intro y hy;rcases ac8.mp hy with w|w
    .rw[w];exact q
    .exact n y w⟩
def rj{c:Nat}{lo:Nat}(h:c∈x.drop lo):aE [c] x lo=some (lo+((x.drop lo).takeWhile (· !=c)).length):=by
 unfold aE;rw[afc];obtain⟨a,b,e,n⟩:=jz h
 have tw:(x.drop lo).takeWhile (· !=c)=a:=by rw[e,afo (by intro z hz;simpa using n z hz)];simp
 rw[tw]
 have ln:x.length=lo+a.length+1+b.length:=by
  have:(x.drop lo).length=a.length+(b.length+1):=by rw[e];simp
  rw[adS]at this
  lia
 have at_:∀j,x[lo+j]? =(a++c::b)[j]? :=fun j=>by rw[<- e,afQ]
 refine⟨?_,aeu.mpr ⋯,fun j hj=>?_⟩
 .rw[Ls,at_,acX];refine⟨decide_eq_true ⋯,decide_eq_true ?_⟩;rw[adI (acY _),afj];rfl
 .rw[afy,ahw]
  by_cases q:lo<=j
  .right
   obtain⟨d,rfl⟩:=ag4 q;rw[Ls,at_];apply decide_eq_false;have hd:d<a.length:=by lia
   rw[ady hd];intro z;exact n _ (adw z) rfl
  .left
   exact decide_eq_false q
def rm{c:Nat}{lo:Nat}(h:c∉x.drop lo):aE [c] x lo=none:=by
 unfold aE;rw[afR];intro j hj;rw[Ls,acX,decide_eq_true_eq,decide_eq_true_eq]
 rintro⟨q,e⟩
 apply h;obtain⟨d,rfl⟩:=ag4 q;rw[<- afQ]at e;exact adw e
def unL(m:Nat)(raw I6:Y1):Y1->Option Y1
 |[]=>some []
 |[c]=>if c=m then none else some [c]
 |c::d::r=>if c=m then(match aE [d] I6 0 with
   |none=>none
   |some p=>(unL m raw I6 r).map (raw.getD p 0:: ·))
  else(unL m raw I6 (d::r)).map (c:: ·)
structure Tb(m:Nat)(raw I6:Y1):Prop where
 ten:(10:Nat)≠m
 mr:m∈raw
 tr:(10:Nat)∈raw
 go:∀p,p<I6.length->gF [m] raw I6 (raw.getD p 0)=[m,I6.getD p 0]
 bk:∀p,p<raw.length->aE [I6.getD p 0] I6 0=some p
 rl:raw.length<=I6.length
def Mw{c:Nat}{p:Nat}(h:aE [c] x 0=some p):p<x.length/\x.getD p 0=c:=by
 by_cases q:c∈x.drop 0
 .rw[rj q]at h;have h:=aex h;rw[afi]at q h;obtain⟨a,b,e,n⟩:=jz q
  have tw:x.takeWhile (· !=c)=a:=by rw[e,afo (by intro z hz;simpa using n z hz)];simp
  rw[tw,af3]at h;subst h;refine⟨by rw[e];simp,?_⟩;rw[e,adA,adI (acY _),afj];rfl
 .rw[rm q]at h;cases h
variable{m:Nat}{raw I6:Y1}
def zm{s:Y1}(h:AllDigits s)(hn:s≠ [])(hl:s.length<=4300):Gp s=some ((digitsVal s:Nat):Int):=by unfold Gp;exact PySem.intText_digits (x:=S s) (by show AllDigits s;exact h) hn (by rw[db];exact hl)
noncomputable def bA(c:Nat):Y1->Ya
 |[]=>[[]]
 |a::r=>if a=c then[]::bA c r else match bA c r with
  |w::ws=>(a::w)::ws
  |[]=>[[a]]
theorem uS(c:Nat):∀l,bA c l≠ []
 |[]=>by simp[bA]
 |a::r=>by
  unfold bA
  split
  .simp
  .split<;>simp
theorem qQ{c:Nat}:∀{a:Y1},c∉a->bA c a= [a]
 |[],_=>rfl
 |x::r,h=>by have hx:x≠c:=fun z=>h (by rw[z];exact ac4);rw[bA,if_neg hx,qQ fun z=>h (ac1 _ z)]
theorem lT{c:Nat}(r:Y1):∀{a:Y1},c∉a->bA c (a++c::r)=a::bA c r
 |[],_=>by show bA c (c::r)=_;rw[bA,if_pos rfl]
 |x::q,h=>by have hx:x≠c:=fun z=>h (by rw[z];exact ac4);show bA c (x::(q++c::r))=_;rw[bA,if_neg hx,lT r fun z=>h (ac1 _ z)]
theorem hU{c:Nat}:∀{ws:Ya},ws≠ []->(∀w∈ws,c∉w)->bA c (aI [c] ws)=ws
 |[],h,_=>absurd rfl h
 |[w],_,h=>qQ (h w (by simp))
 |w::v::r,_,h=>by show bA c (w++ [c]++aI [c] (v::r))=_;rw[ade,aga,lT _ (h w (by simp)),hU (by simp) fun x hx=>h x (ac1 _ hx)]
def Eo(x y:Y1):(eO x y).map S=Txt.split (S x) (S y):=by
 unfold eO;rw[adB]
 conv=>rhs;rw[<- ail (Txt.split (S x) (S y))]
 exact afe fun z _=>MS z
def CQ(x:Y1)(c:Nat):∀p∈eO x [c],c∉p:=by intro p hp;obtain⟨z,hz,rfl⟩:=adM.mp hp;exact StrLaws.split_free (S x) c z hz
def sQ(x y:Y1):eO x y≠ []:=by
 unfold eO Txt.split;intro h;have h:=ahJ.mp h
 split at h
 .cases h
 .split at h
  .cases h
  .have:=congrArg List.length h;rw[ahF]at this;simp at this
theorem vk{y:Y1}{c:Nat}:∀{ls:Ya}{p:Y1},p∈ls->c∈p->c∈aI y ls
 |[],_,h,_=>by cases h
 |[x],p,h,hc=>by rw[adl.mp h]at hc;exact hc
 |x::z::r,p,h,hc=>by
  show c∈x++y++aI y (z::r);rcases ac8.mp h with e|e
  .rw[e]at hc;simp[hc]
  .exact afs _ (vk e hc)
theorem jW{y:Y1}(hy:y≠ []):∀{ls:Ya},ls≠ []->ls.length<=(aI y ls).length+1
 |[],h=>absurd rfl h
 |[x],_=>by simp
 |x::z::r,_=>by
  have ih:=jW hy (ls:=z::r) (by simp);have:1<=y.length:=ad9.mpr hy;show _<=(x++y++aI y (z::r)).length+1;simp only[acZ,ac6]at ih |-
  lia
theorem oT{y:Y1}:∀{ls:Ya}{p:Y1},p∈ls->p.length<=(aI y ls).length
 |[],_,h=>by cases h
 |[x],p,h=>by rw[adl.mp h];exact acY _
 |x::z::r,p,h=>by
  show _<=(x++y++aI y (z::r)).length;rcases ac8.mp h with e|e
  .rw[e];simp only[acZ];lia
  .have:=oT (y:=y) e;simp only[acZ];lia
def ft(x y:Y1):mJ x y=y.isPrefixOf x:=by
 unfold mJ Txt.startswith;rw[StrLaws.subAt_eq,rD,rD,db,db,afi,aei,acX,decide_eq_true_eq,beq_iff_eq,adG];constructor
 .rintro⟨_,h⟩
  rw[<- h];exact List.take_prefix _ _
 .intro h;refine⟨by have:=h.length_le;lia,?_⟩;exact(ag5.mp h).symm
section
variable(h:Y3)(ρ:Ev)
@[simp] theorem En(x y:Y1):tD (.str x) [.str y] h=if y≠ []/\x.length+2<=sizeLine then .ok (.lst ((eO x y).map PV.str)) h else .bad:=rfl
@[simp] theorem Ie(x y:Y1):yG (.str x) [.str y] h=if y≠ []/\x.length<=sizeLine then .ok (.tup ((tz x y).map PV.str)) h else .bad:=rfl
end
def MO(bs:List Bool)(h:Y3):Dr [.lst (bs.map PV.bl)] h=.ok (.bl (bs.all id)) h:=by
 have e:jv (bs.map PV.bl)=some bs:=by
  induction bs with
  |nil=>rfl
  |cons b r ih=>simp[jv,ih]
 show(match jv (bs.map PV.bl)with|some bs=>Res.ok (PV.bl (bs.all id)) h|none=>.bad)=_;rw[e]
theorem uM:∀{ls:Ya},(∀l∈ls,∀c∈l,c<1114112)->PyData.canLayAll0 (eh (ls.map PV.str))=true/\PyData.depthAll (eh (ls.map PV.str))<=1
 |[],_=>by simp[eh,PyData.canLayAll0,PyData.depthAll]
 |l::r,h=>by
  have ih:=uM fun z hz=>h z (ac1 _ hz);have h1:∀c∈l,c<1114112:=h l (by simp)
  have h2:PyData.canLay0 (toD (.str l))=true:=by have:=qk [] h1;unfold TP at this;exact((acX _ _).mp this).1
  have h3:PyData.depth (toD (.str l))<=1:=by simp[toD,PyData.depth]
  rw[ac5];simp only[eh,PyData.canLayAll0,PyData.depthAll,h2,ih.1,ahR,true_and]
  lia
section
open PySem.Builtin PySem.Builtin.Str
def fV(x y:Y1):aI y (eO x y)=x:=by apply zO;rw[<- Bc,Eo];show Builtin.Str.glued _ _=_;rw[ahp,StrLaws.join_split]
theorem yD(x y:Y1):tz x y=match aE y x 0 with|some i=> [x.take i,y,x.drop (i+y.length)]|none=> [x,[],[]]:=by
 unfold tz Txt.partition;rw[kI]
 cases aE y x 0 with
 |none=>rfl
 |some i=>show[(Builtin.Str.strSub (S x) 0 i).cps.toList,(S y).cps.toList,(Builtin.Str.strSub (S x) (i+(S y).length) (S x).length).cps.toList]=_;rw[ahn,ahn,rD,rD,db,db,afi,ahd,ad0 (l:=x.drop _) (by rw[adS];lia)]
def vC(x y:Y1)(i:Nat):qy x y (i:Int)=rn (aE y x i):=by
 unfold qy Txt.find3
 have:fromIndex (S x).length (i:Int)=i:=by
  unfold fromIndex;rw[if_neg ⋯]
  lia
 rw[this,kI]
 cases aE y x i<;>rfl
def ky(x:Y1)(c:Nat):eO x [c]=bA c x:=by have h:=hU (c:=c) (sQ x [c]) (CQ x c);rw[fV]at h;exact h.symm
def CR{y p:Y1}{c:Nat}(h:p∈eO x y)(hc:c∈p):c∈x:=by have:=vk (y:=y) h hc;rw[fV]at this;exact this
def uR(x:Y1){y:Y1}(hy:y≠ []):(eO x y).length<=x.length+1:=by have:=jW hy (sQ x y);rw[fV]at this;exact this
def Aa{y p:Y1}(h:p∈eO x y):p.length<=x.length:=by have:=oT (y:=y) h;rw[fV]at this;exact this
end
end
end Z
open PySem Z
local macro_rules | `(tactic| simp $c:optConfig $[$d:discharger]? [$k:ident,$xs,*] $[$l:location]?)=>do let z:=fun(s:String)=>s.splitOn.map fun n=>`Z++n.toName;let r:=fun(s:String)=>s.splitOn.map (·.toName);let a:=(z "Res.C_ PT SG Rm OV PR Rn Rs Sw Rp Rq Ro Rr Rt PS PZ Qp Sa Sb Ry SE PM Ss JT JS BO Qt Py PY Qh Su RP Pr Pq Ps PN PQ Rk Cd PP ON MZ Oa RN IU szl Pp bE PU Sv SF RY PC ks1 ks2 ks3 ks4 ks5 ks6 ks7 QH PD RX RU Qa Sj Si Sf PH On PI Sh Sr PG Sp Re Se Sm Qx QZ Qv QX QW Ol SA Sg Sn Pz QT Sk PA So PB QU Qu QS MY Sl Oo Rc PE QV PJ Oj Rb PL Qw QY PF Ra Oi QR QQ QP Qy Rf Sq Sy SD Op Sc Sd Oh NZ Pu Qn Qo Qk Pt Px Pw")++(r "List.getElem?_cons_zero List.getElem?_cons_succ List.set_cons_zero List.set_cons_succ List.map_cons List.map_nil List.append_nil List.nil_append List.cons_append if_true if_false reduceIte Bool.not_true Bool.not_false Bool.true_and Bool.false_and Bool.and_true Bool.and_false Bool.true_or Bool.false_or Bool.or_true Bool.or_false eq_self_iff_true true_and and_true Bool.false_eq_true reduceCtorEq List.length_cons List.length_nil List.replicate Nat.sub_self Nat.zero_add Option.isSome_some Option.isSome_none Nat.reduceAdd Nat.reduceLeDiff Int.reduceLT Int.reduceLE decide_true decide_false Int.reduceNeg Int.reducePow Nat.reducePow Int.reduceAdd Int.reduceMul Int.reduceSub Nat.reduceSub and_self Nat.reduceMul Nat.reduceEqDiff");let w:=a++(z "LY Mc Ge Ma LZ Oq BR Gi Jh AJ Mz MP Eh GE CP Mj En Ie");let v:=w++(z "JE");let g:=a++(z "kv0 kv1 kv2 kv3 kv4 kv5 kv6 kv7 kv8 kv9 QG QF QE ks0 ks8 ks9 QO QN QM Iv Om IP yc QD QL QC QB QK QA QJ Qz QI Gb Oz LP DB Mb JE")++(r "Bool.not_not");let h:=g++(r "yP MD ut NI fX Az Qg TX at1 at2 V3 Xp Me Rg Fr Ql kt1 kt2 kt3 kt4 kt5 kt6 kt7 Vx Ov Ow Oy Ou Ot mls");match [(`EW,w),(`EV,v),(`EG,g),(`EX,v++(r "TX at1 at2 V3 Xp eM cU bL dj fQ dK fN T4 bV dB cf Vx tgi m8.pv m8.kind m8.args bW eN")),(`EH,h),(`EI,h++(r "nT bR"))].lookup k.getId with|none=>Lean.Macro.throwUnsupported|some e=>do let a<-e.toArray.mapM fun n=>`(Lean.Parser.Tactic.simpLemma| $(Lean.mkIdent n):term);`(tactic| simp $c:optConfig $[$d:discharger]? only [$a,*,$xs,*] $[$l:location]?)
namespace K7.R
open PySem Z
variable{a b t u x y:Y1}{h h1:Y3}{i m n:Nat}{ls ns p:Ya}{ps:List Ya}{q:List (Nat×Nat)}{v:PV}{xs:Y2}{α:Type}
noncomputable def CW:Ya:=[[97,115],[98,101,116,119,101,101,110],[98,111,100,121],[101,108,115,101],[101,110,100],[102,111,114],[105,102],[105,110],[112,105,101,99,101],[117,115,101],[119,105,116,104]]
def Pm:∀l∈CW,∀c∈l,c<1114112:=by decide
theorem Pl:fG=CW:=rfl
def Po:∀c∈aY,c<1114112:=by decide
def aM(w:Y1):Bool:=decide (1<=w.length/\w.length<=8)&&w.all aY.contains&&!decide (w∈CW)
abbrev Lt(w:Y1):Prop:=∀c∈w,c<1114112
theorem vm(C:Fn->Y2->Out)(t:PV)(al:Y1)(h:Y3):∀(l:Y1)(o:Option PV),∃o',bC (N6 2) (fm C) (l.map fun c=>PV.str [c]) [some t,some (.str al),o] h=if l.all al.contains=true then .nx [some t,some (.str al),o'] h else .rt (.bl false) h
 |[],o=>⟨o,rfl⟩
 |c::r,o=>by
  obtain⟨o',e⟩:=vm C t al h r (some (.str [c]));refine⟨o',?_⟩;rw[ac5,Jm,aeK]
  cases hc:al.contains c with
  |true=>simp[EV,fm,qw,hc];simpa only[fm,aeT]using e
  |false=>simp[EV,fm,qw,hc]
theorem made(k:Nat)(l al:Y1):F (k+1) .R6 [.str l,.str al]=.ok (.bl (l.all al.contains)):=by
 obtain⟨o',e⟩:=vm (F k) (.str l) al [] l none;show av (iR (F k)) 2 3 [.str l,.str al]=_
 cases q:l.all al.contains with
 |true=>simp[EV,av,iR,e,q,aK]
 |false=>simp[EV,av,iR,e,q,aK]
def M6(k:Nat)(w:Y1)(hz:w.length<=16777216)(hw:Lt w):F (k+2) .M6 [.str w]=.ok (.bl (aM w)):=by
 show av (iV (F (k+1))) 1 1 [.str w]=_;have m:=made k w aY;have n:=BG hw Pm;unfold aM
 by_cases h1:1<=w.length
 .have d1:decide ((1:Int)<=(w.length:Int))=true:=decide_eq_true ⋯
  by_cases h2:w.length<=8
  .have d2:decide ((w.length:Int)<=8)=true:=decide_eq_true ⋯;rw[decide_eq_true (p:=1<=w.length/\w.length<=8) ⟨h1,h2⟩]
   cases q:w.all aY.contains with
   |true=>simp[EV,av,iV,hz,d1,d2,ai,m,q,Pl,n,aK]
   |false=>simp[EV,av,iV,hz,d1,d2,ai,m,q,aK]
  .have d2:decide ((w.length:Int)<=8)=false:=decide_eq_false ⋯;rw[decide_eq_false (p:=1<=w.length/\w.length<=8) (fun z=>h2 z.2)];simp[EV,av,iV,hz,d1,d2,aK]
 .have d1:decide ((1:Int)<=(w.length:Int))=false:=decide_eq_false ⋯;rw[decide_eq_false (p:=1<=w.length/\w.length<=8) (fun z=>h1 z.1)];simp[EV,av,iV,hz,d1,aK]
theorem qe:∀ls:Ya,am (ls.map PV.str)=true
 |[]=>rfl
 |a::r=>by rw[ac5,am,qe r];rfl
noncomputable def bB:Option Ya->PV
 |some ps=>.tup (ps.map PV.str)
 |none=>.non
theorem cj(o:Option Ya):(bB o).pure=true:=by
 cases o with
 |none=>rfl
 |some l=>show(PV.tup (l.map PV.str)).pure=true;rw[PV.pure];exact qe l
def bF(h:v.pure=true)(hp:Y3)(hl:∀l,v≠.ref l):cO hp v=some (v,hp):=by cases v<;>first|exact absurd rfl (hl _)|simp[cO,h]
def Cc(o:Option Ya)(h:Y3):cO h (bB o)=some (bB o,h):=bF (cj o) h (by cases o<;>intro l<;>simp[bB])
def GM(o:Option Ya)(h:Y3):aj h (bB o)=bB o:=by cases o<;>rfl
def mz(ls:Ya)(h:Y3):cO h (.tup (ls.map PV.str))=some (.tup (ls.map PV.str),h):=iM h (qe ls)
def zH{te:Ex}{cp:Ev}(ls:Ya)(H:∀w∈ls,te (some (.str w)::cp) h=.ok (.bl (aM w)) h):cD bg te cp (ls.map PV.str) h=.ok ((ls.map aM).map PV.bl) h:=by
 rw[vI (f:=fun p=>match p with|.str w=>.bl (aM w)|_=>.non)]
 .rw[adB,adB];rfl
 .intro p hp;obtain⟨w,hw,rfl⟩:=adM.mp hp;exact H w hw
def qO(ls:Ya)(h:Y3):Dr [.lst ((ls.map aM).map PV.bl)] h=.ok (.bl (ls.all aM)) h:=by rw[MO,ahe];rfl
abbrev ey(t:Y1):Prop:=t.length<=10000/\Lt t
def ey.part{p:Y1}(g:ey t)(h:p∈eO t y):ey p:=⟨adu (Aa h) g.1,fun c hc=>g.2 c (CR h hc)⟩
theorem ey.drop{t:Y1}(g:ey t)(n:Nat):ey (t.drop n):=⟨by rw[adS];have:=g.1;lia,fun c hc=>g.2 c (ago hc)⟩
theorem ey.take{t:Y1}(g:ey t)(n:Nat):ey (t.take n):=⟨by rw[adU];have:=g.1;lia,fun c hc=>g.2 c (aeg hc)⟩
def iT(k:Nat){w:Y1}(g:ey w):F (k+2) .M6 [.str w]=.ok (.bl (aM w)):=M6 k w (by have:=g.1;lia) g.2
def Uc(k:Nat)(ls:Ya)(hl:ls.length<16777216)(H:∀w∈ls,ey w):F (k+3) .Uc [.tup (ls.map PV.str)]=.ok (.bl (decide (1<=ls.length/\ls.length<=4)&&ls.all aM)):=by
 show av (km (F (k+2))) 1 1 [.tup (ls.map PV.str)]=_
 have cm:=zH (te:=mF (F (k+2))) (cp:=bX [] [some (.tup (ls.map PV.str))]) (h:=[]) ls fun w hw=>by simp[EV,mF,ai,iT k (H w hw)]
 have ln:(ls.map PV.str).length<16777216:=by rw[ac2];exact hl
 have lm:(ls.map PV.str).length=ls.length:=ac2 ..
 by_cases h1:1<=ls.length
 .have d1:decide ((1:Int)<=(ls.length:Int))=true:=decide_eq_true ⋯
  by_cases h2:ls.length<=4
  .have d2:decide ((ls.length:Int)<=4)=true:=decide_eq_true ⋯;rw[decide_eq_true (p:=1<=ls.length/\ls.length<=4) ⟨h1,h2⟩];simp[EV,av,km,lm,hl,d1,d2,cm,qO,aK]
  .have d2:decide ((ls.length:Int)<=4)=false:=decide_eq_false ⋯;rw[decide_eq_false (p:=1<=ls.length/\ls.length<=4) (fun z=>h2 z.2)];simp[EV,av,km,lm,d1,d2,aK]
 .have d1:decide ((1:Int)<=(ls.length:Int))=false:=decide_eq_false ⋯;rw[decide_eq_false (p:=1<=ls.length/\ls.length<=4) (fun z=>h1 z.1)];simp[EV,av,km,lm,d1,aK]
def bY(t:Y1):Option Ya:=if decide ((bA 46 t).length<=4)&&(bA 46 t).all aM then some (bA 46 t)else none
def KC(t:Y1)(c:Nat):1<=(bA c t).length:=ad9.mpr (uS c t)
theorem G8(k:Nat)(g:ey t):F (k+4) .G8 [.str t]=.ok (bB (bY t)):=by
 show av (mT (F (k+3))) 1 2 [.str t]=_;have z:=uR t (y:=[46]) (by simp);have hz:t.length+2<=16777216:=by have:=g.1;lia
 have ip:=Uc k (eO t [46]) (by have:=g.1;lia) fun w hw=>g.part hw;rw[ky]at ip;have l1:=KC t 46;unfold bY
 have e:decide (1<=(bA 46 t).length/\(bA 46 t).length<=4)=decide ((bA 46 t).length<=4):=by
  by_cases q:(bA 46 t).length<=4
  .rw[decide_eq_true ⟨l1,q⟩,decide_eq_true q]
  .rw[decide_eq_false q,decide_eq_false fun z=>q z.2]
 rw[e]at ip
 cases q:decide ((bA 46 t).length<=4)&&(bA 46 t).all aM with
 |true=>rw[q]at ip;simp[EV,av,mT,hz,ky,ne_eq,reduceCtorEq,not_false_eq_true,ai,mz,ip,aK,bB]
 |false=>rw[q]at ip;simp[EV,av,mT,hz,ky,ne_eq,reduceCtorEq,not_false_eq_true,ai,mz,ip,aK,bB]
def aU(t:Y1):Ya:=if t= []then[]else eO t [44,32]
def qY{w:Y1}(g:ey t)(h:w∈aU t):ey w:=by
 unfold aU at h
 split at h
 .cases h
 .exact g.part h
def kK:(aU t).length<=t.length+1:=by
 unfold aU
 split
 .simp
 .exact uR t (by simp)
theorem listed(k:Nat)(g:ey t):F (k+1) .listed [.str t]=.ok (.tup ((aU t).map PV.str)):=by
 show av (pO (F k)) 1 1 [.str t]=_;have hz:t.length+2<=16777216:=by have:=g.1;lia
 have hz1:t.length<=16777216:=by lia
 unfold aU
 cases t with
 |nil=>simp[EV,av,pO,afE,iM,am,aK];rfl
 |cons a r=>simp[EV,av,pO,af4,hz1,aK]at hz hz1 |-;simp[EV,hz,hz1,ne_eq,reduceCtorEq,not_false_eq_true,mz]
def rH(t:Y1):Option Ya:=if(aU t).all aM then some (aU t)else none
theorem O4(k:Nat)(g:ey t):F (k+3) .O4 [.str t]=.ok (bB (rH t)):=by
 show av (lF (F (k+2))) 1 2 [.str t]=_;have hl:(aU t).length<16777216:=by have:=kK (t:=t);have:=g.1;lia
 have lm:((aU t).map PV.str).length=(aU t).length:=ac2 ..
 have cm:=zH (te:=kY (F (k+2))) (cp:=bX [] [some (.str t),some (.tup ((aU t).map PV.str))]) (h:=[]) (aU t) fun w hw=>by simp[EV,kY,ai,iT k (qY g hw)]
 have ls:=listed (k+1) g;unfold rH
 cases q:(aU t).all aM with
 |true=>simp[EV,av,lF,ai,ls,lm,hl,cm,qO,q,mz,bB,aK]
 |false=>simp[EV,av,lF,ai,ls,lm,hl,cm,qO,q,mz,bB,aK]
abbrev vZ(v:PV):Prop:=TP [] v=true/\PyData.eqv (toD v) (toD .non)=bP v
theorem ML:∀{xs:Y2},(∀v∈xs,vZ v)->xs.all (TP [])=true/\(xs.any fun y=>PyData.eqv (toD y) (toD .non))=xs.any bP
 |[],_=>⟨rfl,rfl⟩
 |v::r,h=>by have ih:=ML fun z hz=>h z (ac1 _ hz);have hv:=h v (by simp);exact⟨by rw[aeK,hv.1,ih.1];rfl,by rw[afK,afK,hv.2,ih.2]⟩
def OF(H:∀v∈xs,vZ v)(h:Y3):Wx .non (.tup xs) h=.ok (.bl (xs.any bP)) h:=by
 have e:Do .non (.tup xs) h=some (xs.any bP):=by show(if TP [] .non=true/\xs.all (TP [])=true then some (xs.any fun y=>PyData.eqv (toD y) (toD .non))else none)=_;rw[if_pos ⟨rfl,(ML H).1⟩,(ML H).2]
 unfold Wx;rw[e]
def It:vZ .non:=⟨rfl,rfl⟩
def Fy(h:∀l∈ls,Lt l):vZ (.tup (ls.map PV.str)):=by
 refine⟨?_,rfl⟩;unfold TP TV;have:=uM h;simp only[toD,PyData.canLay0,PyData.depth,this.1,aeT,decide_eq_true_eq]
 lia
def vh{w:Y1}(h:aM w=true):Lt w:=by unfold aM at h;simp only[ac7,adn,aep]at h;exact fun c hc=>Po c (h.1.2 c hc)
def nO{ps:Ya}(h:bY t=some ps):ps=bA 46 t/\ps.length<=4/\∀w∈ps,aM w=true:=by
 unfold bY at h
 split at h
 .rename_i q;injection h with h
  simp only[ac7,decide_eq_true_eq,adn]at q;rw[<- h];exact⟨rfl,q.1,q.2⟩
 .cases h
theorem FC(t:Y1):vZ (bB (bY t)):=by
 cases q:bY t with
 |none=>exact It
 |some ps=>exact Fy fun l hl=>vh ((nO q).2.2 l hl)
def DH(o:Option Ya):bP (bB o)=o.isNone:=by cases o<;>rfl
def iA(t:Y1):Y2:=(aU t).map fun p=>bB (bY p)
def fx(t:Y1):PV:=if(aU t).any (fun p=>(bY p).isNone)then .non else .tup (iA t)
theorem qU(t:Y1):am (iA t)=true:=by
 unfold iA
 induction aU t with
 |nil=>rfl
 |cons a r ih=>rw[ac5,am,ih,cj];rfl
def DT(t:Y1):(iA t).any bP=(aU t).any (fun p=>(bY p).isNone):=by
 unfold iA;rw[ah7]
 congr 1
 funext p
 exact DH _
def DL(t:Y1)(h:Y3):cO h (.tup (iA t))=some (.tup (iA t),h):=iM h (qU t)
def oy(t:Y1)(h:Y3):aj h (fx t)=fx t:=by
 unfold fx
 split<;>rfl
def yC(t:Y1):∀v∈iA t,vZ v:=by intro v hv;obtain⟨p,_,rfl⟩:=adM.mp hv;exact FC p
def GX{te:Ex}{cp:Ev}(ls:Ya)(H:∀w∈ls,te (some (.str w)::cp) h=.ok (bB (bY w)) h):cD bg te cp (ls.map PV.str) h=.ok (ls.map fun p=>bB (bY p)) h:=by
 rw[vI (f:=fun p=>match p with|.str w=>bB (bY w)|_=>.non)]
 .rw[adB];rfl
 .intro p hp;obtain⟨w,hw,rfl⟩:=adM.mp hp;exact H w hw
theorem O3(k:Nat)(g:ey t):F (k+5) .O3 [.str t]=.ok (fx t):=by
 show av (lC (F (k+4))) 1 2 [.str t]=_;have hl:(aU t).length<16777216:=by have:=kK (t:=t);have:=g.1;lia
 have lm:((aU t).map PV.str).length=(aU t).length:=ac2 ..
 have cm:=GX (te:=kX (F (k+4))) (cp:=bX [] [some (.str t),none]) (h:=[]) (aU t) fun w hw=>by simp[EV,kX,ai,G8 k (qY g hw)]
 change _=Res.ok (iA t) _ at cm;have ls:=listed (k+3) g;have iN:=fun h=>OF (yC t) h;rw[DT]at iN;unfold fx
 cases q:(aU t).any (fun p=>(bY p).isNone)with
 |true=>simp[EV,av,lC,ai,ls,lm,hl,cm,iN,q,aK]
 |false=>simp[EV,av,lC,ai,ls,lm,hl,cm,iN,q,DL,aK]
def GQ(l:List α)(a b:Nat)(h:a<=l.length):cut l (some (a:Int)) (some (b:Int))=(l.drop a).take (b - a):=by
 unfold cut;rw[Z.Tt,Z.Tt,ae3 h];rcases agz b l.length with q|q
 .rw[ae3 q]
 .rw[agg q,ad0 (by rw[adS];lia),ad0 (by rw[adS];lia)]
def um(l:List α)(b:Nat):cut l none (some (b:Int))=l.take b:=by
 unfold cut;rw[Z.Tt,Z.Q9,afi,ahd];rcases agz b l.length with q|q
 .rw[ae3 q]
 .rw[agg q,ad0 (adK _),ad0 q]
def ke(l:List α)(a:Nat):cut l (some (a:Int)) none=l.drop a:=by
 unfold cut;rw[Z.Tt,Z.Q9];rcases agz a l.length with q|q
 .rw[ae3 q,ad0 (by rw[adS];lia)]
 .rw[agg q,List.drop_length,List.take_nil,List.drop_eq_nil_of_le q]
def jf(h:aE y x 0=some i):i<=x.length/\x=x.take i++y++x.drop (i+y.length)/\∀j,j<i->y.isPrefixOf (x.drop j)=false:=by
 unfold aE at h;rw[afc]at h;obtain⟨h1,h2,h3⟩:=h;rw[aeu]at h2;simp only[adx,decide_true,aeT]at h1 h3;refine⟨by lia,?_,fun j hj=>by simpa using h3 j hj⟩;obtain⟨z,hz⟩:=adG.mp h1;have e:x.drop (i+y.length)=z:=by rw[<- aeX,<- hz,aeW]
 rw[e,ade,hz,afr]
def Gz(hi:i<=x.length)(h1:y.isPrefixOf (x.drop i)=true)(h2:∀j,j<i->y.isPrefixOf (x.drop j)=false):aE y x 0=some i:=by unfold aE;rw[afc];simp only[adx,decide_true,aeT];exact⟨h1,aeu.mpr ⋯,fun j hj=>by rw[h2 j hj];rfl⟩
def ka{c:Nat}(h:c∉a):aE (c::y) (a++(c::y)++b) 0=some a.length:=by
 refine Gz (by simp) ?_ fun j hj=>?_
 .rw[ade,aeW];exact adG.mpr (List.prefix_append _ _)
 .rw[ae9];intro q;obtain⟨z,hz⟩:=adG.mp q
  have e:(a++(c::y)++b)[j]? =some c:=by
   have:((a++(c::y)++b).drop j)[0]? =some c:=by rw[<- hz];rfl
   rw[afQ]at this;simpa using this
  rw[ade,ady hj]at e;exact h (adw e)
def yy(y r:Y1):y.isPrefixOf r=decide (r.take y.length=y):=by rw[aei,adG,decide_eq_true_eq,ag5];exact eq_comm
def brk(u:Y1):Option (Y1×Y1×Y1):=match aE [40] u 0,aE [41] u 0 with
 |some i,some j=>if i<j then some (u.take i,(u.drop (i+1)).take (j - (i+1)),u.drop (j+1))else none
 |_,_=>none
def pK(u:Y1):PV:=match brk u with
 |some (a,b,r)=>.tup [.str a,.str b,.str r]
 |none=>.non
def OP(a b r:Y1)(h:Y3):cO h (.tup [.str a,.str b,.str r])=some (.tup [.str a,.str b,.str r],h):=iM h rfl
theorem bracketed(k:Nat)(g:ey u):F (k+1) .bracketed [.str u]=.ok (pK u):=by
 show av (gx (F k)) 1 3 [.str u]=_;have hz:u.length<=16777216:=by have:=g.1;lia
 unfold pK brk
 cases q1:aE [40] u 0 with
 |none=>simp[EV,av,gx,q1,rn,aK]
 |some i=>
  have d1:decide ((0:Int)<=(i:Int))=true:=decide_eq_true ⋯
  cases q2:aE [41] u 0 with
  |none=>have d2:decide ((i:Int)< -1)=false:=decide_eq_false ⋯;simp[EV,av,gx,q1,q2,rn,d1,d2,aK]
  |some j=>
   by_cases hij:i<j
   .have d2:decide ((i:Int)<(j:Int))=true:=decide_eq_true ⋯;have l1:=(Mw q1).1;have c1:=um u i;have c2:=GQ u (i+1) j ⋯;have c3:=ke u (j+1);rw[ahl]at c2 c3;simp only[ad2]at c2 c3;simp[EV,av,gx,q1,q2,rn,d1,d2,hz,c1,c2,c3,hij,OP,aK]
   .have d2:decide ((i:Int)<(j:Int))=false:=decide_eq_false ⋯;simp[EV,av,gx,q1,q2,rn,d1,d2,hij,aK]
theorem bW:bP .non=true:=rfl
theorem eN(l:Y2):bP (.tup l)=false:=rfl
theorem iK(l:Y2):bP (.lst l)=false:=rfl
theorem dh(a b c:α):S9 [a,b,c] 0=some a:=rfl
theorem dg(a b c:α):S9 [a,b,c] 1=some b:=rfl
theorem df(a b c:α):S9 [a,b,c] 2=some c:=rfl
abbrev lH:Y1:=[32,119,105,116,104,32]
abbrev lI:Y1:=[32,98,111,100,121,32]
def kh{r:Y1}(g:ey u)(h:brk u=some (a,b,r)):ey a/\ey b/\ey r:=by
 unfold brk at h
 split at h
 .split at h
  .injection h with h
   rw[aiC,aiC]at h;obtain⟨h1,h2,h3⟩:=h;rw[<- h1,<- h2,<- h3];exact⟨g.take _,(g.drop _).take _,g.drop _⟩
  .cases h
 .cases h
def tq(t:Y1):(fx t).pure=true:=by
 unfold fx
 split
 .rfl
 .rw[PV.pure];exact qU t
def Jd(x a:Y1){w:PV}(hv:v.pure=true)(hw:w.pure=true)(h:Y3):cO h (.tup [.str x,.str a,v,w])=some (.tup [.str x,.str a,v,w],h):=by apply iM;simp[am,hv,hw,PV.pure]
def sM(u:Y1):PV:=match brk u with
 |none=>.non
 |some (a,b,r)=>if aM a=true then(if bP (fx b)=true then .non else if r= []then .tup [.str [117,115,101],.str a,fx b,.non]else if r.take 6=lH then(match rH (r.drop 6)with|none=>.non|some ns=>.tup [.str [117,115,101],.str a,fx b,bB (some ns)])else .non)else .non
theorem K4(k:Nat)(g:ey u):F (k+6) .K4 [pK u]=.ok (sM u):=by
 show av (cP (F (k+5))) 1 3 [pK u]=_;unfold pK sM
 cases q:brk u with
 |none=>simp[EV,av,cP,bW,eN,iK,aK]
 |some p=>
  obtain⟨a,b,r⟩:=p;obtain⟨ga,gb,gr⟩:=kh g q;have nm:=iT (k+3) ga
  cases qn:aM a with
  |false=>rw[qn]at nm;simp[EV,av,cP,dh,dg,df,bW,eN,iK,ai,nm,qn,aK]
  |true=>
   rw[qn]at nm;have po:=O3 k gb
   cases qp:bP (fx b)with
   |true=>simp[EV,av,cP,dh,dg,df,bW,eN,iK,ai,nm,qn,po,qp,oy,aK]
   |false=>
    have n1:=fun h=>jD r [] h gr.2 (by simp);have f1:=fun h=>Jd [117,115,101] a (tq b) (w:=.non) rfl h
    by_cases r0:r= []
    .subst r0;rw[decide_eq_true rfl]at n1;simp[EV,av,cP,dh,dg,df,bW,eN,iK,ai,nm,qn,po,qp,oy,n1,f1,aK]
    .rw[decide_eq_false r0]at n1;have st:mJ r lH=decide (r.take 6=lH):=by rw[ft,yy];rfl
     have rz:r.length<=16777216:=by have:=gr.1;lia
     have c6:cut r (some (6:Int)) none=r.drop 6:=ke r 6
     by_cases r1:r.take 6=lH
     .rw[decide_eq_true r1]at st;have ns:=O4 (k+2) (gr.drop 6)
      cases qq:rH (r.drop 6)with
      |none=>rw[qq]at ns;simp[EV,av,cP,dh,dg,df,bW,eN,iK,ai,nm,qn,po,qp,oy,n1,r0,r1,st,rz,ad2,c6,ns,qq,bB,aK]
      |some l=>rw[qq]at ns;have f2:=fun h=>Jd [117,115,101] a (tq b) (cj (some l)) h;simp only[bB]at f2;simp[EV,av,cP,dh,dg,df,bW,eN,iK,ai,nm,qn,po,qp,oy,n1,r0,r1,st,rz,ad2,c6,ns,qq,bB,f2,aK]
     .rw[decide_eq_false r1]at st;simp[EV,av,cP,dh,dg,df,bW,eN,iK,ai,nm,qn,po,qp,oy,n1,r0,r1,st,aK]
open PySem.NumText (digitsVal AllDigits)
def Qr(h:x∈cH):Gp x=some ((digitsVal x:Nat):Int)/\x.length<=640:=by
 simp only[cH,ac8,adH,or_false]at h
 have hd:AllDigits x:=by rcases h with rfl|rfl|rfl|rfl<;>(unfold AllDigits;decide)
 have hn:x≠ []:=by rcases h with rfl|rfl|rfl|rfl<;>simp
 have hl:x.length=1:=by rcases h with rfl|rfl|rfl|rfl<;>rfl
 exact⟨zm hd hn ⋯,by lia⟩
def LQ:∀l∈cH,∀c∈l,c<1114112:=by decide
def jC(u:Y1):PV:=match brk u with
 |none=>.non
 |some (a,b,r)=>if aM a=true then(match rH b with
  |none=>.non
  |some ns=>if r= []then .tup [.str [112,105,101,99,101],.str a,bB (some ns),.non]else if r.take 6=lI/\r.drop 6∈cH then .tup [.str [112,105,101,99,101],.str a,bB (some ns),.int ((digitsVal (r.drop 6):Nat):Int)]else .non)else .non
theorem H7(k:Nat)(g:ey u):F (k+6) .H7 [pK u]=.ok (jC u):=by
 show av (bH (F (k+5))) 1 3 [pK u]=_;unfold pK jC
 cases q:brk u with
 |none=>simp[EV,av,bH,bW,aK]
 |some p=>
  obtain⟨a,b,r⟩:=p;obtain⟨ga,gb,gr⟩:=kh g q;have nm:=iT (k+3) ga
  cases qn:aM a with
  |false=>rw[qn]at nm;simp[EV,av,bH,dh,dg,df,bW,eN,iK,ai,nm,qn,aK]
  |true=>
   rw[qn]at nm;have po:=O4 (k+2) gb
   cases qp:rH b with
   |none=>rw[qp]at po;simp only[bB]at po;simp[EV,av,bH,dh,dg,df,bW,eN,iK,ai,nm,qn,po,qp,aK]
   |some ns=>
    rw[qp]at po;have n1:=fun h=>jD r [] h gr.2 (by simp);have f1:=fun h=>Jd [112,105,101,99,101] a (cj (some ns)) (w:=.non) rfl h;simp only[bB]at f1 po
    by_cases r0:r= []
    .subst r0;rw[decide_eq_true rfl]at n1;simp[EV,av,bH,dh,dg,df,bW,eN,iK,ai,nm,qn,po,qp,n1,f1,bB,aK]
    .rw[decide_eq_false r0]at n1;have st:mJ r lI=decide (r.take 6=lI):=by rw[ft,yy];rfl
     have rz:r.length<=16777216:=by have:=gr.1;lia
     have c6:cut r (some (6:Int)) none=r.drop 6:=ke r 6;have ni:=fun h=>BG (gr.drop 6).2 LQ h
     by_cases r1:r.take 6=lI
     .rw[decide_eq_true r1]at st
      by_cases r2:r.drop 6∈cH
      .rw[decide_eq_true r2]at ni;obtain⟨m1,m2⟩:=Qr r2;have f2:=fun h=>Jd [112,105,101,99,101] a (cj (some ns)) (w:=.int ((digitsVal (r.drop 6):Nat):Int)) rfl h;simp only[bB]at f2;simp[EV,av,bH,dh,dg,df,bW,eN,iK,ai,nm,qn,po,qp,n1,st,rz,ad2,c6,ni,m1,m2,f2,bB,aK,if_neg r0,if_pos (show r.take 6=lI/\r.drop 6∈cH from⟨r1,r2⟩)]
      .rw[decide_eq_false r2]at ni;simp[EV,av,bH,dh,dg,df,bW,eN,iK,ai,nm,qn,po,qp,n1,st,rz,ad2,c6,ni,bB,aK,if_neg r0,if_neg (show¬ (r.take 6=lI/\r.drop 6∈cH)from fun z=>r2 z.2)]
     .rw[decide_eq_false r1]at st;simp[EV,av,bH,dh,dg,df,bW,eN,iK,ai,nm,qn,po,qp,n1,st,rz,ad2,c6,bB,aK,if_neg r0,if_neg (show¬ (r.take 6=lI/\r.drop 6∈cH)from fun z=>r1 z.1)]
def pN(t:Y1):PV:=match brk t with
 |none=>.non
 |some (_,b,r)=>if r= []then(if bP (fx b)=true then .non else .tup [.str [98,111,100,121],fx b])else .non
def OQ(x:Y1)(hv:v.pure=true)(h:Y3):cO h (.tup [.str x,v])=some (.tup [.str x,v],h):=by apply iM;simp[am,hv,PV.pure]
theorem J7(k:Nat)(g:ey u):F (k+6) .J7 [pK u]=.ok (pN u):=by
 show av (eH (F (k+5))) 1 2 [pK u]=_;unfold pK pN
 cases q:brk u with
 |none=>simp[EV,av,eH,bW,aK]
 |some p=>
  obtain⟨a,b,r⟩:=p;obtain⟨ga,gb,gr⟩:=kh g q;have n1:=fun h=>lZ r [] h gr.2 (by simp);have po:=O3 k gb;have f1:=fun h=>OQ [98,111,100,121] (tq b) h
  by_cases r0:r= []
  .subst r0;rw[decide_eq_true rfl]at n1
   cases qp:bP (fx b)with
   |true=>simp[EV,av,eH,dh,dg,df,bW,eN,iK,ai,po,qp,oy,n1,aK]
   |false=>simp[EV,av,eH,dh,dg,df,bW,eN,iK,ai,po,qp,oy,n1,f1,aK]
  .rw[decide_eq_false r0]at n1;simp[EV,av,eH,dh,dg,df,bW,eN,iK,n1,r0,aK]
open PySem.Builtin.Str in
def NE(q c:Nat)(hq:q<1114112)(hc:c<1114112):∀z∈reprChar q c,z<1114112:=by
 have hx:∀w:Nat,∀z∈List.replicate (w - ((Nat.toDigits 16 c).map Char.toNat).length) 48++(Nat.toDigits 16 c).map Char.toNat,z<1114112:=by
  intro w z hz;rcases adv.mp hz with h|h
  .rw[List.eq_of_mem_replicate h];decide
  .obtain⟨ch,_,rfl⟩:=adM.mp h;have:=ch.valid;rcases this with h|h<;>(simp only[Char.toNat];lia)
 unfold reprChar;dsimp only;intro z hz
 repeat' split at hz
 all_goals first
  |(simp only[ac8,adH,or_false]at hz;rcases hz with rfl|rfl<;>first|assumption|decide)
  |(simp only[ac8,adH,or_false]at hz;rcases hz with rfl;assumption)
  |(rcases adv.mp hz with h|h<;>first|exact hx _ z h|(simp only[ac8,adH,or_false]at h;rcases h with rfl|rfl<;>decide))
open PySem.Builtin.Str in
theorem Ce(q:Nat)(hq:q<1114112):∀(l:Y1)(acc:Array Nat),(∀c∈l,c<1114112)->(∀z∈acc.toList,z<1114112)->∀z∈(l.foldl (fun out c=>out++(reprChar q c).toArray) acc).toList,z<1114112
 |[],acc,_,h=>h
 |c::r,acc,hl,h=>by
  rw[afM];refine Ce q hq r _ (fun z hz=>hl z (ac1 _ hz)) fun z hz=>?_;rw[Array.toList_append]at hz;rcases adv.mp hz with e|e
  .exact h z e
  .exact NE q c hq (hl c (by simp)) z e
def Nv(x:Str)(hx:∀c∈x.cps.toList,c<1114112):∀z∈(reprText x).cps.toList,z<1114112:=by
 intro z hz;unfold reprText at hz;have hq:reprQuote x<1114112:=by unfold reprQuote;split<;>decide
 simp only[ah9]at hz;rcases adv.mp hz with e|e
 .rw[<- Array.foldl_toList]at e;exact Ce _ hq x.cps.toList #[reprQuote x] hx (by intro y hy;simp at hy;rw[hy];exact hq) z e
 .rw[adl.mp e];exact hq
def Nj(ts:Zl)(h:∀t∈ts,∀c∈t.cps.toList,c<1114112):∀c∈(tupleText ts).cps.toList,c<1114112:=by
 intro c hc;unfold tupleText at hc;rw[agy,agy,PyProof.Rows.mem_join]at hc;rcases hc with(hc|hc)|hc
 .rw[PyProof.Rows.signs_lparen]at hc;rw[adl.mp hc];decide
 .rcases hc with⟨t,ht,hc⟩|⟨_,hc⟩
  .exact h t ht c hc
  .rw[PyProof.Rows.signs_sep]at hc;simp at hc
   lia
 .split at hc
  .rw[show((",)":String):Str).cps.toList= [44,41] by decide]at hc;simp at hc
   lia
  .rw[show((")":String):Str).cps.toList= [41] by decide]at hc;simp at hc
   lia
structure Gd(n w:Nat)(v:PV):Prop where
 pure:v.pure=true
 lay:(toD v).canLay0=true
 dep:(toD v).depth<=n
 wt:(toD v).weight<=w
 sh:(toD v).showable=true
 iz:(toD v).intsShort 13=true
 sg:∀c∈(toD v).shown.cps.toList,c<1114112
structure YF(n w:Nat)(vs:Y2):Prop where
 pure:am vs=true
 lay:PyData.canLayAll0 (eh vs)=true
 dep:PyData.depthAll (eh vs)<=n
 wt:PyData.weightAll (eh vs)<=w
 sh:PyData.showableAll (eh vs)=true
 iz:PyData.intsShortAll 13 (eh vs)=true
 sg:∀t∈PyData.shownAll (eh vs),∀c∈t.cps.toList,c<1114112
def eR(n w:Nat):YF n w []:=⟨rfl,by simp[eh,PyData.canLayAll0],by simp[eh,PyData.depthAll],by simp[eh,PyData.weightAll],by simp[eh,PyData.showableAll],by simp[eh,PyData.intsShortAll],by simp[eh,PyData.shownAll]⟩
def dT{w w':Nat}{vs:Y2}(a:Gd n w v)(b:YF n w' vs):YF n (w+1+w') (v::vs):=by
 obtain⟨a1,a2,a3,a4,a5,a6,a7⟩:=a;obtain⟨b1,b2,b3,b4,b5,b6,b7⟩:=b;refine⟨?_,?_,?_,?_,?_,?_,?_⟩
 .simp[am,a1,b1]
 .simp[eh,PyData.canLayAll0,a2,b2]
 .simp only[eh,PyData.depthAll];lia
 .simp only[eh,PyData.weightAll];lia
 .simp[eh,PyData.showableAll,a5,b5]
 .simp[eh,PyData.intsShortAll,a6,b6]
 .intro t ht;simp only[eh,PyData.shownAll,ac8]at ht;rcases ht with rfl|ht
  .exact a7
  .exact b7 t ht
def du{w:Nat}{vs:Y2}(b:YF n w vs):Gd (n+1) w (.tup vs):=by
 obtain⟨b1,b2,b3,b4,b5,b6,b7⟩:=b;refine⟨?_,?_,?_,?_,?_,?_,?_⟩
 .simp[PV.pure,b1]
 .simp[toD,PyData.canLay0,b2]
 .simp only[toD,PyData.depth];lia
 .simp only[toD,PyData.weight];lia
 .simp[toD,PyData.showable,b5]
 .simp[toD,PyData.intsShort,b6]
 .simp only[toD,PyData.shown];exact Nj _ b7
def Gd.mono{n' w w':Nat}(a:Gd n w v)(h1:n<=n')(h2:w<=w'):Gd n' w' v:=⟨a.pure,a.lay,adu a.dep h1,adu a.wt h2,a.sh,a.iz,a.sg⟩
def je{l:Y1}{w:Nat}(h:Lt l)(hl:l.length<=w):Gd 1 w (.str l):=by
 refine⟨rfl,?_,?_,?_,?_,?_,?_⟩
 .have:=qk [] h;unfold TP at this;exact((ac7 _ _).mp this).1
 .simp[toD,PyData.depth]
 .simp only[toD,PyData.weight];show(S l).cps.size<=w;have:(S l).cps.size=l.length:=db l
  lia
 .simp[toD,PyData.showable]
 .simp[toD,PyData.intsShort]
 .simp only[toD,PyData.shown];exact Nv _ (by rw[rD];exact h)
def ua:Gd 1 0 .non:=⟨rfl,by simp[toD,PyData.canLay0],by simp[toD,PyData.depth],by simp[toD,PyData.weight],by simp[toD,PyData.showable],by simp[toD,PyData.intsShort],by simp only[toD,PyData.shown];decide⟩
theorem kU{α:Type}{n w:Nat}{f:α->PV}:∀{l:List α},(∀x∈l,Gd n w (f x))->YF n (l.length * (w+1)) (l.map f)
 |[],_=>eR n _
 |a::r,h=>by have:=dT (h a (by simp)) (kU (l:=r) fun x hx=>h x (ac1 _ hx));rw[ac5];rw[ac6,Nat.add_mul,Nat.one_mul,ah6];exact this
def Ay{w:Y1}(h:aM w=true):1<=w.length/\w.length<=8:=by unfold aM at h;simp only[ac7,decide_eq_true_eq]at h;exact h.1.1
def Aw{w:Y1}(h:aM w=true):∀c∈w,c∈aY:=by unfold aM at h;simp only[ac7,adn,aep]at h;exact h.1.2
def gX{w:Y1}(h:aM w=true):Gd 1 8 (.str w):=je (vh h) (Ay h).2
def pD{ps:Ya}(h:bY t=some ps):Gd 2 36 (bB (some ps)):=by obtain⟨_,h2,h3⟩:=nO h;exact(du (kU fun x hx=>gX (h3 x hx))).mono (adK _) ⋯
def uU{ps:Ya}(h:rH t=some ps):ps=aU t/\∀w∈ps,aM w=true:=by
 unfold rH at h
 split at h
 .rename_i q;injection h with h
  rw[adn]at q;rw[<- h];exact⟨rfl,q⟩
 .cases h
def BY{ps:Ya}(g:ey t)(h:rH t=some ps):Gd 2 90009 (bB (some ps)):=by
 obtain⟨e,h3⟩:=uU h;have:=kK (t:=t);have:=g.1;have l:ps.length<=10001:=by rw[e];lia
 exact(du (kU fun x hx=>gX (h3 x hx))).mono (adK _) ⋯
theorem uT(h:bP (fx t)=false):fx t=.tup (iA t)/\∀p∈aU t,(bY p).isSome=true:=by
 unfold fx at h |-
 cases q:(aU t).any (fun p=>(bY p).isNone)with
 |true=>rw[q]at h;cases h
 |false=>
  refine⟨rfl,fun p hp=>?_⟩;rw[agT]at q;have:=q p hp
  cases z:bY p with
  |none=>rw[z]at this;simp at this
  |some _=>rfl
theorem BX(g:ey t)(h:bP (fx t)=false):Gd 3 370037 (fx t):=by
 obtain⟨e,h3⟩:=uT h;have:=kK (t:=t);have:=g.1;rw[e];refine(du (kU (n:=2) (w:=36) fun x hx=>?_)).mono (adK _) ⋯
 cases z:bY x with
 |none=>have:=h3 x hx;rw[z]at this;cases this
 |some ps=>exact pD z
def Yu(v:PV):Prop:=v=.non\/∃xs,v=.tup xs/\Gd 10 1000000 (.tup xs)
def ok4{w:PV}(hx:Lt x)(hxl:x.length<=8)(ha:aM a=true)(hv:Gd 5 400000 v)(hw:Gd 5 400000 w):Yu (.tup [.str x,.str a,v,w]):=by refine .inr ⟨_,rfl,?_⟩;exact(du (dT ((je hx hxl).mono (n':=5) (w':=8) ⋯ ⋯) (dT ((gX ha).mono ⋯ (adK _)) (dT hv (dT hw (eR 5 0)))))).mono ⋯ ⋯
def ok3{w:PV}(hx:Lt x)(hxl:x.length<=8)(hv:Gd 5 400000 v)(hw:Gd 5 400000 w):Yu (.tup [.str x,v,w]):=by refine .inr ⟨_,rfl,?_⟩;exact(du (dT ((je hx hxl).mono (n':=5) (w':=8) ⋯ ⋯) (dT hv (dT hw (eR 5 0))))).mono ⋯ ⋯
def ok2(hx:Lt x)(hxl:x.length<=8)(hv:Gd 5 400000 v):Yu (.tup [.str x,v]):=by refine .inr ⟨_,rfl,?_⟩;exact(du (dT ((je hx hxl).mono (n':=5) (w':=8) ⋯ ⋯) (dT hv (eR 5 0)))).mono ⋯ ⋯
def ok1(hx:Lt x)(hxl:x.length<=8):Yu (.tup [.str x]):=by refine .inr ⟨_,rfl,?_⟩;exact(du (dT ((je hx hxl).mono (n':=5) (w':=8) ⋯ ⋯) (eR 5 0))).mono ⋯ ⋯
def Jc(h:x∈cH):Gd 1 10 (.int ((digitsVal x:Nat):Int)):=by simp only[cH,ac8,adH,or_false]at h;rcases h with rfl|rfl|rfl|rfl<;>exact⟨rfl,by decide+kernel,by decide+kernel,by decide+kernel,by decide+kernel,by decide+kernel,by decide+kernel⟩
def Ly(g:ey u):Yu (sM u):=by
 unfold sM
 split
 .exact .inl rfl
 .rename_i a b r q;obtain⟨ga,gb,gr⟩:=kh g q
  split
  .rename_i hn
   split
   .exact .inl rfl
   .rename_i hp;rw[afH]at hp;have z:=(BX gb hp).mono (n':=5) (w':=400000) ⋯ ⋯
    split
    .exact ok4 ⋯ ⋯ hn z (ua.mono ⋯ ⋯)
    .split
     .split
      .exact .inl rfl
      .rename_i ns e;exact ok4 ⋯ ⋯ hn z ((BY (gr.drop 6) e).mono ⋯ ⋯)
     .exact .inl rfl
  .exact .inl rfl
def Fu(g:ey u):Yu (jC u):=by
 unfold jC
 split
 .exact .inl rfl
 .rename_i a b r q;obtain⟨ga,gb,gr⟩:=kh g q
  split
  .rename_i hn
   split
   .exact .inl rfl
   .rename_i ns e;have z:=(BY gb e).mono (n':=5) (w':=400000) ⋯ ⋯
    split
    .exact ok4 ⋯ ⋯ hn z (ua.mono ⋯ ⋯)
    .split
     .rename_i hm;exact ok4 ⋯ ⋯ hn z ((Jc hm.2).mono ⋯ ⋯)
     .exact .inl rfl
  .exact .inl rfl
def Ii(g:ey u):Yu (pN u):=by
 unfold pN
 split
 .exact .inl rfl
 .rename_i a b r q;obtain⟨ga,gb,gr⟩:=kh g q
  split
  .split
   .exact .inl rfl
   .rename_i hp;rw[afH]at hp;exact ok2 ⋯ ⋯ ((BX gb hp).mono ⋯ ⋯)
  .exact .inl rfl
noncomputable def iJ(D:List (Y1×Y1))(x:Y1):Option Y1:=(D.find? fun kv=>decide (kv.1=x)).map (·.2)
theorem qu(x:Y1):∀D:List (Y1×Y1),lM (D.map fun p=>((.inr p.1:PK),PV.str p.2)) (.inr x)=(iJ D x).map PV.str
 |[]=>rfl
 |(k,v)::r=>by
  have ih:=qu x r;unfold lM iJ at ih |-
  by_cases e:k=x
  .subst e;simp
  .rw[ac5,afk (by simpa using fun z=>e z),afk (by simpa using e),ih]
def inD(D:List (Y1×Y1))(x:Y1)(h:Y3):Wx (.str x) (.dct (D.map fun p=>(.inr p.1,.str p.2))) h=.ok (.bl (iJ D x).isSome) h:=by show(match(some (lM (D.map fun p=>((.inr p.1:PK),PV.str p.2)) (.inr x)).isSome:Option Bool)with|some b=>Res.ok (PV.bl b) h|none=>.bad)=_;rw[qu,Option.isSome_map]
def ixD(D:List (Y1×Y1))(x:Y1)(h:Y3):b_ (.dct (D.map fun p=>(.inr p.1,.str p.2))) (.str x) h=match iJ D x with|some l=>.ok (.str l) h|none=>.bad:=by
 show(match lM (D.map fun p=>((.inr p.1:PK),PV.str p.2)) (.inr x)with|some v=>Res.ok (aj h v) h|none=>.bad)=_;rw[qu]
 cases iJ D x<;>rfl
def nX(t:Y1)(h:Y3):Wx (.str t) sE h=.ok (.bl (iJ eA t).isSome) h:=inD _ t h
def nW(t:Y1)(h:Y3):b_ sE (.str t) h=match iJ eA t with|some l=>.ok (.str l) h|none=>.bad:=ixD _ t h
abbrev Wg:Y1:=[32,105,110,32]
abbrev V_:Y1:=[32,97,115,32]
abbrev dq:Y1:=[112,108,97,105,110]
def Bz(x y:Y1)(i:Nat)(h:aE y x 0=some i):tz x y= [x.take i,y,x.drop (i+y.length)]:=by rw[yD,h]
def By(x y:Y1)(h:aE y x 0=none):tz x y= [x,[],[]]:=by rw[yD,h]
def xq(u:Y1):PV:=match aE Wg u 0 with
 |some i=>if aM (u.take i)=true then(match bY (u.drop (i+4))with
  |some p=>.tup [.str [102,111,114],.str (u.take i),bB (some p)]
  |none=>.non)else .non
 |none=>.non
def OO(x a:Y1)(hv:v.pure=true)(h:Y3):cO h (.tup [.str x,.str a,v])=some (.tup [.str x,.str a,v],h):=by apply iM;simp[am,hv,PV.pure]
def Kj(x a:Y1)(hv:v.pure=true)(h:Y3):cO h (.tup [.str x,v,.str a])=some (.tup [.str x,v,.str a],h):=by apply iM;simp[am,hv,PV.pure]
theorem K6(k:Nat)(g:ey u):F (k+5) .K6 [.str u]=.ok (xq u):=by
 show av (dY (F (k+4))) 1 3 [.str u]=_;have hz:u.length<=16777216:=by have:=g.1;lia
 unfold xq
 cases q:aE Wg u 0 with
 |none=>
  have e:=By u Wg q;have p0:F (k+4) .G8 [.str []]=.ok .non:=G8 k (t:=[]) ⟨by simp,fun c hc=>by cases hc⟩;have nm:=iT (k+2) g
  cases qn:aM u with
  |true=>rw[qn]at nm;simp[EV,av,dY,hz,ne_eq,reduceCtorEq,not_false_eq_true,e,dh,dg,df,ai,p0,nm,bW,aK]
  |false=>rw[qn]at nm;simp[EV,av,dY,hz,ne_eq,reduceCtorEq,not_false_eq_true,e,dh,dg,df,ai,p0,nm,bW,aK]
 |some i=>
  have e:=Bz u Wg i q;have p0:=G8 k (g.drop (i+4));have nm:=iT (k+2) (g.take i)
  cases qn:aM (u.take i)with
  |true=>
   rw[qn]at nm
   cases qp:bY (u.drop (i+4))with
   |none=>rw[qp]at p0;simp[EV,av,dY,hz,ne_eq,reduceCtorEq,not_false_eq_true,e,dh,dg,df,ai,p0,nm,qn,qp,bB,bW,aK]
   |some p=>rw[qp]at p0;have f:=fun h=>OO [102,111,114] (u.take i) (cj (some p)) h;simp only[bB]at f;simp[EV,av,dY,hz,ne_eq,reduceCtorEq,not_false_eq_true,e,dh,dg,df,ai,p0,nm,qn,qp,bB,eN,f,aK]
  |false=>rw[qn]at nm;simp[EV,av,dY,hz,ne_eq,reduceCtorEq,not_false_eq_true,e,dh,dg,df,ai,p0,nm,qn,GM,bW,aK]
def ifV(u:Y1):PV:=match bY u with
 |some p=>.tup [.str [105,102],bB (some p)]
 |none=>.non
theorem N_(k:Nat)(g:ey u):F (k+5) .N_ [.str u]=.ok (ifV u):=by
 show av (iS (F (k+4))) 1 2 [.str u]=_;have p0:=G8 k g;unfold ifV
 cases qp:bY u with
 |none=>rw[qp]at p0;simp[EV,av,iS,ai,p0,bB,bW,aK]
 |some p=>rw[qp]at p0;have f:=fun h=>OQ [105,102] (cj (some p)) h;simp only[bB]at f;simp[EV,av,iS,ai,p0,bB,eN,f,aK]
def rQ:∀l∈bu,∀c∈l,c<1114112:=by decide
def jB(t:Y1):PV:=match aE V_ t 0 with
 |some i=>(match bY (t.take i)with
  |some p=>if t.drop (i+4)∈bu then .tup [.str [112,108,97,99,101],bB (some p),.str (t.drop (i+4))]else .non
  |none=>.non)
 |none=>(match bY t with
  |some p=>.tup [.str [112,108,97,99,101],bB (some p),.str dq]
  |none=>.non)
theorem H6(k:Nat)(g:ey t):F (k+5) .H6 [.str t]=.ok (jB t):=by
 show av (de (F (k+4))) 1 4 [.str t]=_;have hz:t.length<=16777216:=by have:=g.1;lia
 unfold jB
 cases q:aE V_ t 0 with
 |none=>
  have e:=By t V_ q;have p0:=G8 k g
  have ni:∀h,iY (.str dq) (.tup (bu.map PV.str)) h=.ok (.bl false) h:=fun h=>by rw[BG ⋯ rQ h];rfl
  cases qp:bY t with
  |none=>rw[qp]at p0;simp[EV,av,de,hz,ne_eq,reduceCtorEq,not_false_eq_true,e,dh,dg,df,ai,p0,afE,bB,bW,aK]
  |some p=>rw[qp]at p0;have f:=fun h=>Kj [112,108,97,99,101] dq (cj (some p)) h;simp only[bB]at f;simp[EV,av,de,hz,ne_eq,reduceCtorEq,not_false_eq_true,e,dh,dg,df,ai,p0,afE,bB,eN,ni,f,aK]
 |some i=>
  have e:=Bz t V_ i q;have p0:=G8 k (g.take i);have ni:=fun h=>BG (g.drop (i+4)).2 rQ h
  cases qp:bY (t.take i)with
  |none=>rw[qp]at p0;simp[EV,av,de,hz,ne_eq,reduceCtorEq,not_false_eq_true,e,dh,dg,df,ai,p0,qp,af4,bB,bW,aK]
  |some p=>
   rw[qp]at p0
   by_cases hw:t.drop (i+4)∈bu
   .rw[decide_eq_true hw]at ni;have f:=fun h=>Kj [112,108,97,99,101] (t.drop (i+4)) (cj (some p)) h;simp only[bB]at f;simp[EV,av,de,hz,ne_eq,reduceCtorEq,not_false_eq_true,e,dh,dg,df,ai,p0,qp,af4,bB,eN,ni,f,aK,if_pos hw]
   .rw[decide_eq_false hw]at ni;simp[EV,av,de,hz,ne_eq,reduceCtorEq,not_false_eq_true,e,dh,dg,df,ai,p0,qp,af4,bB,eN,ni,aK,if_neg hw]
abbrev mX:Y1:=[102,111,114,32]
abbrev X6:Y1:=[105,102,32]
abbrev jx:Y1:=[117,115,101,32]
abbrev fU:Y1:=[112,105,101,99,101,32]
abbrev jy:Y1:=[98,111,100,121,40]
def eZ(t:Y1):PV:=match iJ eA t with
 |some l=>.tup [.str l]
 |none=>if mX.isPrefixOf t=true then xq (t.drop 4)else if X6.isPrefixOf t=true then ifV (t.drop 3)else if jx.isPrefixOf t=true then sM (t.drop 4)
  else if jy.isPrefixOf t=true then pN t else if fU.isPrefixOf t=true then jC (t.drop 6)else jB t
def Rl(x:Y1)(h:Y3):cO h (.tup [.str x])=some (.tup [.str x],h):=iM h rfl
def xp(u:Y1)(h:Y3):cO h (pK u)=some (pK u,h):=by
 unfold pK
 split
 .exact OP _ _ _ h
 .exact Cd h
def Yu.YB(o:Yu v)(h:Y3):cO h v=some (v,h):=by
 rcases o with rfl|⟨xs,rfl,g⟩
 .exact Cd h
 .exact bF g.pure h (by intro l z;cases z)
def Lz:Yu (xq u):=by
 unfold xq
 split
 .split
  .rename_i hn
   split
   .rename_i p e;exact ok3 ⋯ ⋯ ((gX hn).mono ⋯ ⋯) ((pD e).mono ⋯ ⋯)
   .exact .inl rfl
  .exact .inl rfl
 .exact .inl rfl
def NL:Yu (ifV u):=by
 unfold ifV
 split
 .rename_i p e;exact ok2 ⋯ ⋯ ((pD e).mono ⋯ ⋯)
 .exact .inl rfl
def Ed:∀l∈bu,l.length<=8:=by decide
def Ft:Yu (jB t):=by
 unfold jB
 split
 .split
  .rename_i p e
   split
   .rename_i hw;exact ok3 ⋯ ⋯ ((pD e).mono ⋯ ⋯) ((je (rQ _ hw) (Ed _ hw)).mono ⋯ ⋯)
   .exact .inl rfl
  .exact .inl rfl
 .split
  .rename_i p e;exact ok3 ⋯ ⋯ ((pD e).mono ⋯ ⋯) ((je (l:=dq) (w:=8) ⋯ ⋯).mono ⋯ ⋯)
  .exact .inl rfl
theorem vY{l:Y1}(h:iJ eA t=some l):(∃p∈eA,p.1=t/\p.2=l):=by
 unfold iJ at h
 cases q:eA.find? fun kv=>decide (kv.1=t)with
 |none=>rw[q]at h;cases h
 |some p=>rw[q]at h;have h1:=List.find?_some q;exact⟨p,ae1 q,by simpa using h1,by simpa using h⟩
def Cy:∀p∈eA,(∀c∈p.2,c<1114112)/\p.2.length<=8:=by decide
def LA(g:ey t):Yu (eZ t):=by
 unfold eZ
 split
 .rename_i l h;obtain⟨p,hp,_,rfl⟩:=vY h;exact ok1 (Cy p hp).1 (Cy p hp).2
 .split
  .exact Lz
  .split
   .exact NL
   .split
    .exact Ly (g.drop 4)
    .split
     .exact Ii g
     .split
      .exact Fu (g.drop 6)
      .exact Ft
theorem K1(k:Nat)(g:ey t):F (k+7) .K1 [.str t]=.ok (eZ t):=by
 show av (dA (F (k+6))) 1 1 [.str t]=_;have hz:t.length<=16777216:=by have:=g.1;lia
 have c4:cut t (some (4:Int)) none=t.drop 4:=ke t 4;have c3:cut t (some (3:Int)) none=t.drop 3:=ke t 3;have c6:cut t (some (6:Int)) none=t.drop 6:=ke t 6;have p1:=K6 (k+1) (g.drop 4);have p2:=N_ (k+1) (g.drop 3);have p3:=bracketed (k+5) (g.drop 4);have p4:=K4 k (g.drop 4);have p5:=bracketed (k+5) g;have p6:=J7 k g;have p7:=bracketed (k+5) (g.drop 6);have p8:=H7 k (g.drop 6);have p9:=H6 (k+1) g;have o:=LA g;unfold eZ at o |-
 cases q0:iJ eA t with
 |some l=>simp[EV,av,dA,nX,nW,q0,Rl,aK]
 |none=>
  rw[q0]at o
  cases q1:mX.isPrefixOf t with
  |true=>simp only[q1,if_true]at o;simp[EV,av,dA,nX,nW,q0,ft,q1,hz,ad2,c4,ai,p1,o.YB,aK]
  |false=>
   cases q2:X6.isPrefixOf t with
   |true=>simp only[q1,q2,if_true,if_false,ad3]at o;simp[EV,av,dA,nX,nW,q0,ft,q1,q2,hz,ad2,c3,ai,p2,o.YB,aK]
   |false=>
    cases q3:jx.isPrefixOf t with
    |true=>simp only[q1,q2,q3,if_true,if_false,ad3]at o;simp[EV,av,dA,nX,nW,q0,ft,q1,q2,q3,hz,ad2,c4,ai,p3,xp,p4,o.YB,aK]
    |false=>
     cases q4:jy.isPrefixOf t with
     |true=>simp only[q1,q2,q3,q4,if_true,if_false,ad3]at o;simp[EV,av,dA,nX,nW,q0,ft,q1,q2,q3,q4,hz,ad2,ai,p5,xp,p6,o.YB,aK]
     |false=>
      cases q5:fU.isPrefixOf t with
      |true=>simp only[q1,q2,q3,q4,q5,if_true,if_false,ad3]at o;simp[EV,av,dA,nX,nW,q0,ft,q1,q2,q3,q4,q5,hz,ad2,c6,ai,p7,xp,p8,o.YB,aK]
      |false=>simp only[q1,q2,q3,q4,q5,if_true,if_false,ad3]at o;simp[EV,av,dA,nX,nW,q0,ft,q1,q2,q3,q4,q5,hz,ai,p9,o.YB,aK]
theorem jc{y:Y1}{c:Nat}:∀{ls:Ya},c∈aI y ls->c∈y\/∃w∈ls,c∈w
 |[],h=>by cases h
 |[x],h=>.inr ⟨x,by simp,h⟩
 |x::z::r,h=>by
  change c∈x++y++aI y (z::r)at h;rcases adv.mp h with h|h
  .rcases adv.mp h with h|h
   .exact .inr ⟨x,by simp,h⟩
   .exact .inl h
  .rcases jc h with e|⟨w,hw,e⟩
   .exact .inl e
   .exact .inr ⟨w,ac1 _ hw,e⟩
def yb(c:Nat)(t:Y1):aI [c] (bA c t)=t:=by rw[<- ky,fV]
def uz(b:List α)(z:α):S9 (b++ [z]) (-1)=some z:=by unfold S9 WX;rw[if_neg ⋯,if_pos (by rw[acZ,adF];lia)];rw[show((-1:Int)+((b++ [z]).length:Int)).toNat=b.length by rw[acZ,adF];lia];simp
def sj{w w0:Y1}{rest:Ya}(h:bA 32 t=w0::rest)(hn:w0≠w)(h32:(32:Nat)∉w):(w++ [32]).isPrefixOf t=false:=by
 rw[ae9];intro z;obtain⟨u,hu⟩:=adG.mp z;rw[<- hu,ade,aga,lT _ h32]at h;injection h with h1 h2
 exact hn h1.symm
def Nr{a b:Sx}{ρ ρ1:Z.Ev}(e:a ρ h=.nx ρ1 h1):aq a b ρ h=b ρ1 h1:=by unfold aq;rw[e]
abbrev cs:Y1:=[44,32]
open PySem.StrLaws PySem.Builtin PySem.Builtin.Str in
def xu(x:Str)(a b:Nat)(hn:∀k,a<=k->k<b->¬ At x (S cs) x.length k):∀j,cs.isPrefixOf ((strSub x a b).cps.toList.drop j)=false:=by
 intro j;rw[ae9];intro z;obtain⟨r,hr⟩:=adG.mp z;rw[strSub_toList]at hr;have hl:2<=(((x.cps.toList.drop a).take (b - a)).drop j).length:=by rw[<- hr];simp
 rw[adS,adU,adS]at hl;have hs:x.length=x.cps.toList.length:=rfl;refine hn (a+j) ⋯ ⋯ ⟨?_,?_⟩
 .rw[db];show a+j+2<=_;lia
 .rw[subAt_eq,beq_iff_eq,db,rD];rw[aiA,aeX]at hr;have h2:((x.cps.toList.drop (a+j)).take (b - a - j)).take 2= [44,32]:=by rw[<- hr];rfl
  rw[List.take_take,ae3 ⋯]at h2;exact h2
open PySem.StrLaws PySem.Builtin PySem.Builtin.Str in
theorem vD(x:Str):∀(abU:Y1)(a f:Nat),ChainG x (S cs) x.length a abU f->(∀k,f<=k->¬ At x (S cs) x.length k)->∀p∈partsFrom x (S cs).length a abU,∀j,cs.isPrefixOf (p.cps.toList.drop j)=false
 |[],a,f,h,hn,p,hp=>by have e:f=a:=h;subst e;rw[adl.mp hp];exact xu x f x.length fun k h1 _=>hn k h1
 |d::r,a,f,h,hn,p,hp=>by
  rcases ac8.mp hp with rfl|hp'
  .exact xu x a d h.2.2.1
  .exact vD x r _ f h.2.2.2 hn p hp'
open PySem.StrLaws PySem.Builtin PySem.Builtin.Str in
def CS(t:Y1):∀p∈eO t cs,∀j,cs.isPrefixOf (p.drop j)=false:=by
 intro p hp;obtain⟨z,hz,rfl⟩:=adM.mp hp;obtain⟨f,hG,hn⟩:=occ_tight (S t) (S cs) (by rw[db];decide);unfold Txt.split at hz
 split at hz
 .rename_i hc;rw[adl.mp hz];rw[ad8,decide_eq_true_eq,decide_eq_true_eq]at hc;rcases hc with h|h
  .intro j;rw[ae9];intro y;have:=(adG.mp y).length_le;rw[db,db]at h;rw[rD,adS]at this;simp at this h
   lia
  .exfalso;have k1:Builtin.Str.strKind (S cs)=1:=by unfold Builtin.Str.strKind;rw[if_pos (by rw[<- Array.all_toList,rD];decide)]
   have k2:1<=Builtin.Str.strKind (S t):=by unfold Builtin.Str.strKind;split<;>(try split)<;>lia
   lia
 .split at hz
  .rename_i he;rw[adl.mp hz];have e0:occurrences (S t) (S cs) 0 (S t).length ((S t).length+1)=[]:=afF.mp he;rw[e0]at hG;have ef:f=0:=hG;subst ef;rw[<- sub_whole (S t)];exact xu (S t) 0 _ fun k h1 _=>hn k h1
  .rw[partsBetween_eq]at hz;exact vD (S t) _ 0 f hG hn z hz
def pz(a b:Y1)(r:Ya):aI cs (a::b::r)=a++44::32::aI cs (b::r):=by show a++cs++aI cs (b::r)=_;simp
theorem re:∀{ps ls:Ya},ps≠ []->ls≠ []->(∀p∈ps,∀j,cs.isPrefixOf (p.drop j)=false)->(∀l∈ls,44∉l)->aI cs ps=aI cs ls->ps=ls
 |[],_,h,_,_,_,_=>absurd rfl h
 |_::_,[],_,h,_,_,_=>absurd rfl h
 |[p],[l],_,_,_,_,e=>by have e:p=l:=e;rw[e]
 |[p],l::m::r,_,_,hp,_,e=>by
  exfalso;rw[pz]at e;have e:p=l++44::32::aI cs (m::r):=e;have:=hp p (by simp) l.length;rw[e,aeW]at this
  cases this
 |p::q::r,[l],_,_,_,hl,e=>by exfalso;rw[pz]at e;have e:p++44::32::aI cs (q::r)=l:=e;exact hl l (by simp) (by rw[<- e];simp)
 |p::q::r,l::m::s,_,_,hp,hl,e=>by
  rw[pz,pz]at e;have ih:=fun(z:aI cs (q::r)=aI cs (m::s))=>re (by simp) (by simp) (fun x hx=>hp x (ac1 _ hx)) (fun x hx=>hl x (ac1 _ hx)) z;rcases List.append_eq_append_iff.mp e with⟨a',h1,h2⟩|⟨c',h1,h2⟩
  .cases a' with
   |nil=>
    rw[adD]at h1;injection h2 with _ h2
    injection h2 with _ h2
    rw[h1,ih h2]
   |cons x y=>
    exfalso;injection h2 with h2 _
    exact hl l (by simp) (by rw[h1,<- h2];simp)
  .cases c' with
   |nil=>
    rw[adD]at h1;injection h2 with _ h2
    injection h2 with _ h2
    rw[h1,ih h2.symm]
   |cons x y=>
    exfalso
    cases y with
    |nil=>
     injection h2 with _ h2
     injection h2 with h2 _
     cases h2
    |cons y z=>
     injection h2 with h3 h2
     injection h2 with h4 _
     have:=hp p (by simp) l.length;rw[h1,aeW,<- h3,<- h4]at this
     cases this
theorem qX(h:∀l∈ls,44∉l/\l≠ []):aU (aI cs ls)=ls:=by
 unfold aU
 cases ls with
 |nil=>rfl
 |cons a r=>
  have ne:aI cs (a::r)≠[]:=by
   intro z;have ha:=(h a (by simp)).2
   cases r with
   |nil=>exact ha z
   |cons b r=>rw[pz]at z;have:=congrArg List.length z;simp at this
  rw[if_neg ne];exact re (sQ _ _) (by simp) (CS _) (fun l hl=>(h l hl).1) (fV _ _)
inductive m8 where
 |WT|cls|fin|els|Ul
 |place (p:Ya) (w:Y1)
 |loop (n:Y1) (p:Ya)
 |cond (p:Ya)
 |use (a:Y1) (ps:List Ya) (ns:Option Ya)
 |body (ps:List Ya)
 |piece (a:Y1) (ns:Ya) (m:Option Nat)
abbrev aR(p:Ya):PV:=bB (some p)
abbrev eM:Y1:=[111,112,101,110]
abbrev cU:Y1:=[99,108,111,115,101]
abbrev bL:Y1:=[101,110,100]
abbrev dj:Y1:=[101,108,115,101]
abbrev fQ:Y1:=[98,101,116,119,101,101,110]
abbrev dK:Y1:=[112,108,97,99,101]
abbrev fN:Y1:=[102,111,114]
abbrev T4:Y1:=[105,102]
abbrev bV:Y1:=[117,115,101]
abbrev dB:Y1:=[98,111,100,121]
abbrev cf:Y1:=[112,105,101,99,101]
noncomputable def oY:Option Nat->PV
 |none=>.non
 |some d=>.int (d:Nat)
noncomputable def m8.kind:m8->Y1
 |.WT=>eM|.cls=>cU|.fin=>bL|.els=>dj|.Ul=>fQ
 |.place _ _=>dK|.loop _ _=>fN|.cond _=>T4|.use _ _ _=>bV|.body _=>dB|.piece _ _ _=>cf
def m8.args:m8->Y2
 |.place p w=> [aR p,.str w]
 |.loop n p=> [.str n,aR p]
 |.cond p=> [aR p]
 |.use a ps ns=> [.str a,.tup (ps.map aR),bB ns]
 |.body ps=> [.tup (ps.map aR)]
 |.piece a ns m=> [.str a,aR ns,oY m]
 |_=> []
def m8.pv(c:m8):PV:=.tup (.str c.kind::c.args)
def aA(p:Ya):Y1:=aI [46] p
def aO(ps:List Ya):Y1:=aI cs (ps.map aA)
noncomputable def hS:Option Nat->Y1
 |none=> []
 |some d=>lI++ [48+d]
def ar:m8->Y1
 |.WT=> [40]|.cls=> [41]|.fin=>bL|.els=>dj|.Ul=>fQ
 |.place p w=>if w=dq then aA p else aA p++V_++w
 |.loop n p=>mX++n++Wg++aA p
 |.cond p=>X6++aA p
 |.use a ps none=>jx++a++ [40]++aO ps++ [41]
 |.use a ps (some ns)=>jx++a++ [40]++aO ps++ [41]++lH++aI cs ns
 |.body ps=>jy++aO ps++ [41]
 |.piece a ns m=>fU++a++ [40]++aI cs ns++ [41]++hS m
def bO(p:Ya):Prop:=p≠ []/\p.length<=4/\∀w∈p,aM w=true
def m8.Ok:m8->Prop
 |.place p w=>bO p/\w∈bu
 |.loop n p=>aM n=true/\bO p
 |.cond p=>bO p
 |.use a ps ns=>aM a=true/\(∀p∈ps,bO p)/\∀l,ns=some l->∀w∈l,aM w=true
 |.body ps=>∀p∈ps,bO p
 |.piece a ns m=>aM a=true/\(∀w∈ns,aM w=true)/\∀d,m=some d->d<4
 |_=>True
def jT(h:bY t=some p):aA p=t/\bO p:=by
 obtain⟨e,l,n⟩:=nO h;refine⟨?_,?_,l,n⟩
 .rw[e];exact yb 46 t
 .rw[e];exact uS 46 t
def qW(t:Y1):aI cs (aU t)=t:=by
 unfold aU
 split
 .rename_i e;rw[e];rfl
 .exact fV t cs
def yt(h:rH t=some ns):aI cs ns=t/\∀w∈ns,aM w=true:=by obtain⟨e,n⟩:=uU h;exact⟨by rw[e];exact qW t,n⟩
def yr(h:bP (fx t)=false):∃ps:List Ya,fx t=.tup (ps.map aR)/\aO ps=t/\∀p∈ps,bO p:=by
 obtain⟨e,n⟩:=uT h
 have main:∀ls:Ya,(∀p∈ls,(bY p).isSome=true)->∃ps:List Ya,ls.map (fun p=>bB (bY p))=ps.map aR/\ps.map aA=ls/\∀p∈ps,bO p:=by
  intro ls
  induction ls with
  |nil=>intro _;exact⟨[],rfl,rfl,by simp⟩
  |cons a r ih=>
   intro hs;obtain⟨ps,e1,e2,e3⟩:=ih fun p hp=>hs p (ac1 _ hp);obtain⟨p,hp⟩:=afb.mp (hs a ac4);obtain⟨i1,i2⟩:=jT hp;refine⟨p::ps,?_,?_,?_⟩
   .rw[ac5,ac5,hp,e1]
   .rw[ac5,i1,e2]
   .intro q hq;rcases ac8.mp hq with rfl|hq
    .exact i2
    .exact e3 q hq
 obtain⟨ps,e1,e2,e3⟩:=main (aU t) n;refine⟨ps,?_,?_,e3⟩
 .rw[e];unfold iA;rw[e1]
 .unfold aO;rw[e2];exact qW t
def xF{r:Y1}(h:brk u=some (a,b,r)):u=a++ [40]++b++ [41]++r:=by
 unfold brk at h
 split at h
 .rename_i i j hi hj
  split at h
  .rename_i hl
   cases h
   obtain⟨i1,i2,_⟩:=jf hi;obtain⟨j1,j2,_⟩:=jf hj
   have e1:u.drop (i+1)=(u.drop (i+1)).take (j - (i+1))++[41]++u.drop (j+1):=by
    conv=>lhs;rw[j2]
    rw[ade,List.drop_append,adU,ae3 j1,show i+1 - j=0 by lia,afi,ade,aiA];rfl
   have i2':u=u.take i++([40]++u.drop (i+1)):=by rw[<- ade];exact i2
   have:=i2';rw[e1]at this;simpa only[ade]using this
  .cases h
 .cases h
def oQ{w:Y1}(h:w.isPrefixOf t=true):t=w++t.drop w.length:=by obtain⟨r,e⟩:=adG.mp h;rw[<- e,aeW]
inductive DU(t:Y1):m8->Prop
 |same {c:m8} (e:t=ar c):DU t c
 |plain {p:Ya} (e:t=aA p++V_++dq):DU t (.place p dq)
def kq{w:Y1}(h:w≠dq)(p:Ya):ar (.place p w)=aA p++V_++w:=if_neg h
def Je(h:xq u≠.non):∃c:m8,xq u=c.pv/\c.Ok/\mX++u=ar c:=by
 unfold xq at h |-
 split at h
 .rename_i i hi
  split at h
  .rename_i hn
   split at h
   .rename_i p hp;obtain⟨i1,i2⟩:=jT hp;obtain⟨_,e,_⟩:=jf hi;refine⟨.loop (u.take i) p,?_,⟨hn,i2⟩,?_⟩
    .rw[if_pos hn];rfl
    .show _=mX++u.take i++Wg++aA p;rw[i1]
     conv=>lhs;rw[e]
     simp only[ade];rfl
   .exact absurd rfl h
  .exact absurd rfl h
 .exact absurd rfl h
def Mm(h:ifV u≠.non):∃c:m8,ifV u=c.pv/\c.Ok/\X6++u=ar c:=by
 unfold ifV at h |-
 split at h
 .rename_i p hp;obtain⟨i1,i2⟩:=jT hp;exact⟨.cond p,rfl,i2,by show _=X6++aA p;rw[i1]⟩
 .exact absurd rfl h
def Dj(h:jB t≠.non):∃c:m8,jB t=c.pv/\c.Ok/\DU t c:=by
 unfold jB at h |-
 split at h
 .rename_i i hi
  split at h
  .rename_i p hp
   split at h
   .rename_i hw;obtain⟨i1,i2⟩:=jT hp;obtain⟨_,e,_⟩:=jf hi;refine⟨.place p (t.drop (i+4)),?_,⟨i2,hw⟩,?_⟩
    .simp only[if_pos hw];rfl
    .have e':t=aA p++V_++t.drop (i+4):=by rw[i1];exact e
     by_cases q:t.drop (i+4)=dq
     .rw[q]at e' |-;exact .plain e'
     .exact .same (e'.trans (kq q p).symm)
   .exact absurd rfl h
  .exact absurd rfl h
 .rename_i hi
  split at h
  .rename_i p hp;obtain⟨i1,i2⟩:=jT hp;exact⟨.place p dq,rfl,⟨i2,by decide⟩,.same (by rw[<- i1];rfl)⟩
  .exact absurd rfl h
def Ho(h:sM u≠.non):∃c:m8,sM u=c.pv/\c.Ok/\jx++u=ar c:=by
 unfold sM at h |-
 split at h
 .exact absurd rfl h
 .rename_i a b r hb;have eu:=xF hb
  split at h
  .rename_i hn
   split at h
   .exact absurd rfl h
   .rename_i hr;obtain⟨ps,e1,e2,e3⟩:=yr (ae9.mpr hr)
    split at h
    .rename_i h0;subst h0;refine⟨.use a ps none,?_,⟨hn,e3,fun l e=>(nomatch e)⟩,?_⟩
     .simp only[if_pos hn,if_neg hr];rw[e1];rfl
     .show _=jx++a++ [40]++aO ps++ [41];rw[e2,eu];simp only[ade,adD]
    .rename_i h0
     split at h
     .rename_i hw
      split at h
      .exact absurd rfl h
      .rename_i ns hns;obtain⟨n1,n2⟩:=yt hns;refine⟨.use a ps (some ns),?_,⟨hn,e3,fun l e=>by cases e;exact n2⟩,?_⟩
       .simp only[if_pos hn,if_neg hr,if_neg h0,if_pos hw];rw[e1];rfl
       .show _=jx++a++ [40]++aO ps++ [41]++lH++aI cs ns;rw[e2,n1,eu,<- hw];simp only[ade,afr]
     .exact absurd rfl h
  .exact absurd rfl h
def GY(hp:jy.isPrefixOf t=true)(h:pN t≠.non):∃c:m8,pN t=c.pv/\c.Ok/\t=ar c:=by
 unfold pN at h |-
 split at h
 .exact absurd rfl h
 .rename_i a b r hb;have eu:=xF hb
  split at h
  .rename_i h0;subst h0
   split at h
   .exact absurd rfl h
   .rename_i hr;obtain⟨ps,e1,e2,e3⟩:=yr (ae9.mpr hr);refine⟨.body ps,?_,e3,?_⟩
    .simp only[if_true,if_neg hr];rw[e1];rfl
    .show t=jy++aO ps++ [41]
     have ea:a= [98,111,100,121]:=by
      unfold brk at hb
      split at hb
      .rename_i i j hi hj
       split at hb
       .have ha:=congrArg (fun z=>z.1) (aex hb);dsimp only at ha;have e:=oQ hp
        have:aE [40] t 0=some 4:=by rw[e];exact ka (c:=40) (y:=[]) (a:=[98,111,100,121]) ⋯
        rw[this]at hi;cases hi;rw[<- ha,e];rfl
       .cases hb
      .cases hb
     rw[e2];rw[ea]at eu;rw[eu];simp only[ade,adD];rfl
  .exact absurd rfl h
def FR(h:x∈cH):∃d,d<4/\x= [48+d]/\PySem.NumText.digitsVal x=d:=by
 simp only[cH,ac8,adH,or_false]at h;rcases h with rfl|rfl|rfl|rfl
 .exact⟨0,by lia,rfl,rfl⟩
 .exact⟨1,by lia,rfl,rfl⟩
 .exact⟨2,by lia,rfl,rfl⟩
 .exact⟨3,by lia,rfl,rfl⟩
def Dk(h:jC u≠.non):∃c:m8,jC u=c.pv/\c.Ok/\fU++u=ar c:=by
 unfold jC at h |-
 split at h
 .exact absurd rfl h
 .rename_i a b r hb;have eu:=xF hb
  split at h
  .rename_i hn
   split at h
   .exact absurd rfl h
   .rename_i ns hns;obtain⟨n1,n2⟩:=yt hns
    split at h
    .rename_i h0;subst h0;refine⟨.piece a ns none,?_,⟨hn,n2,fun d e=>(nomatch e)⟩,?_⟩
     .simp only[if_pos hn,if_true];rfl
     .show _=fU++a++ [40]++aI cs ns++ [41]++[];rw[n1,eu];simp only[ade,adD]
    .rename_i h0
     split at h
     .rename_i hw;obtain⟨d,d1,d2,d3⟩:=FR hw.2;refine⟨.piece a ns (some d),?_,⟨hn,n2,fun e z=>by cases z;exact d1⟩,?_⟩
      .simp only[if_pos hn,if_neg h0,if_pos hw];rw[d3];rfl
      .show _=fU++a++ [40]++aI cs ns++ [41]++(lI++ [48+d]);rw[n1,eu,<- d2,<- hw.1,afr];simp only[ade]
     .exact absurd rfl h
  .exact absurd rfl h
theorem Ct(h:eZ t≠.non):∃c:m8,eZ t=c.pv/\c.Ok/\DU t c:=by
 unfold eZ at h |-
 cases q:iJ eA t with
 |some l=>
  obtain⟨p,hp,h1,h2⟩:=vY q;subst h1 h2;simp only[eA,ac8,adH,or_false]at hp;rcases hp with rfl|rfl|rfl|rfl|rfl
  .exact⟨.WT,rfl,trivial,.same rfl⟩
  .exact⟨.cls,rfl,trivial,.same rfl⟩
  .exact⟨.fin,rfl,trivial,.same rfl⟩
  .exact⟨.els,rfl,trivial,.same rfl⟩
  .exact⟨.Ul,rfl,trivial,.same rfl⟩
 |none=>
  rw[q]at h;dsimp only at h |-
  split at h
  .rename_i h1;rw[if_pos h1];obtain⟨c,a,b,d⟩:=Je h;exact⟨c,a,b,.same (by rw[<- d];exact oQ h1)⟩
  .rename_i h1;rw[if_neg h1]
   split at h
   .rename_i h2;rw[if_pos h2];obtain⟨c,a,b,d⟩:=Mm h;exact⟨c,a,b,.same (by rw[<- d];exact oQ h2)⟩
   .rename_i h2;rw[if_neg h2]
    split at h
    .rename_i h3;rw[if_pos h3];obtain⟨c,a,b,d⟩:=Ho h;exact⟨c,a,b,.same (by rw[<- d];exact oQ h3)⟩
    .rename_i h3;rw[if_neg h3]
     split at h
     .rename_i h4;rw[if_pos h4];obtain⟨c,a,b,d⟩:=GY h4 h;exact⟨c,a,b,.same d⟩
     .rename_i h4;rw[if_neg h4]
      split at h
      .rename_i h5;rw[if_pos h5];obtain⟨c,a,b,d⟩:=Dk h;exact⟨c,a,b,.same (by rw[<- d];exact oQ h5)⟩
      .rename_i h5;rw[if_neg h5];exact Dj h
noncomputable def uK(t:Y1):Option m8:=open Classical in if h:eZ t=.non then none else some (Ct h).choose
def vM(h:uK t=none):eZ t=.non:=by
 unfold uK at h
 split at h
 .assumption
 .cases h
def vL{c:m8}(h:uK t=some c):eZ t=c.pv/\c.Ok/\DU t c:=by
 unfold uK at h
 split at h
 .cases h
 .rename_i q
  cases h
  exact(Ct q).choose_spec
abbrev lL:Y1:=[116,101,120,116]
abbrev jb:Y1:=[108,111,111,112]
abbrev dR:Y1:=[99,104,111,105,99,101]
noncomputable def gF(c:Nat):Y1:=if c=123 then[123,40,125]else if c=125 then[123,41,125]else[c]
def esc(t:Y1):Y1:=(t.map gF).flatten
set_option genInjectivity true in
inductive Nd where
 |txt (t:Y1)
 |nd (v:PV) (s:Y1)
variable{l:List Nd}
noncomputable def Nd.pv:Nd->PV
 |.txt t=>.tup [.str lL,.str t]
 |.nd v _=>v
noncomputable def Nd.sh:Nd->Y1
 |.txt t=>esc t
 |.nd _ s=>s
abbrev M7(l:List Nd):PV:=.tup (l.map Nd.pv)
def shs(l:List Nd):Y1:=(l.map Nd.sh).flatten
noncomputable def m7(t:Y1):Y1:=123::t++ [125]
structure o7 where
 c:m8
 ns:List Nd
 yes:Option (List Nd)
 bt:Option Y1
variable{f:o7}
structure St where
 ps:List Nd
 fs:List o7
 n:Nat
variable{st v5:St}
def Zo(b:Y1):Y1:=if b= []then[]else m7 fQ++esc b
def Yo(l:List Nd):Y1:=if l= []then[]else m7 dj++shs l
def o7.fin(f:o7):Nd:=match f.c with
 |.loop n p=>.nd (.tup [.str jb,.str n,aR p,M7 f.ns,.str (f.bt.getD [])]) (m7 (ar f.c)++shs f.ns++Zo (f.bt.getD [])++m7 bL)
 |.cond p=>match f.yes with
  |none=>.nd (.tup [.str dR,aR p,M7 f.ns,.tup []]) (m7 (ar f.c)++shs f.ns++m7 bL)
  |some y=>.nd (.tup [.str dR,aR p,M7 y,M7 f.ns]) (m7 (ar f.c)++shs y++Yo f.ns++m7 bL)
 |c=>.nd (.tup (.str c.kind::c.args++ [M7 f.ns])) (m7 (ar c)++shs f.ns++m7 bL)
noncomputable def ij(l:List Nd):Option Y1:=match l.getLast? with
 |some (.txt t)=>some t
 |_=>none
def O6(c:Nat)(st:St):Option St:=match st.fs with
 |[]=>none
 |f::r=>match f.bt with
  |some b=>some { st with fs:={ f with bt:=some (b++ [c]) }::r }
  |none=>match ij f.ns with
   |some t=>some { st with fs:={ f with ns:=f.ns.dropLast++ [.txt (t++ [c])] }::r }
   |none=>if st.n<200/\st.fs.length<9 then some { st with n:=st.n+1,fs:={ f with ns:=f.ns++ [.txt [c]] }::r }else none
noncomputable def m8.few:m8->Bool
 |.piece _ ns _=>decide (ns.length<=4)
 |.use _ ps ns=>decide (ps.length<=4)&&(match ns with|none=>true|some l=>decide (l.length<=3))
 |.body ps=>decide (ps.length<=3)
 |_=>true
noncomputable def o7.new(c:m8):o7:=⟨c,[],none,none⟩
noncomputable def o7.put(f:o7)(d:Nd):o7:={ f with ns:=f.ns++ [d] }
def mY(c:m8)(f:o7)(r:List o7)(st:St):Option St:=
 if f.bt.isNone/\st.n<200/\st.fs.length<9 then match c with
  |.loop _ _=>some { st with n:=st.n+1,fs:=o7.new c::st.fs }
  |.cond _=>some { st with n:=st.n+1,fs:=o7.new c::st.fs }
  |.use _ _ (some _)=>some { st with n:=st.n+1,fs:=o7.new c::st.fs }
  |.use _ _ none=>some { st with n:=st.n+1,fs:=f.put (.nd (.tup (.str c.kind::c.args++ [.non])) (m7 (ar c)))::r }
  |_=>some { st with n:=st.n+1,fs:=f.put (.nd c.pv (m7 (ar c)))::r }
 else none
def cg(c:m8)(st:St):Option St:=if c.few=true then match c with
  |.piece _ _ _=>if st.fs= []/\st.ps.length<8 then some { st with fs:=[o7.new c] }else none
  |.WT=>O6 123 st
  |.cls=>O6 125 st
  |.fin=>match st.fs with
   |[]=>none
   |[f]=>some { st with ps:=st.ps++ [f.fin],fs:=[] }
   |f::g::r=>some { st with fs:=g.put f.fin::r }
  |.els=>match st.fs with
   |[]=>none
   |f::r=>if f.c.kind=T4/\f.yes=none then some { st with fs:={ f with yes:=some f.ns,ns:=[] }::r }else none
  |.Ul=>match st.fs with
   |[]=>none
   |f::r=>if f.c.kind=fN/\f.bt=none then some { st with fs:={ f with bt:=some [] }::r }else none
  |c=>match st.fs with
   |[]=>none
   |f::r=>mY c f r st
 else none
inductive Seg where
 |sg (c:Nat)
 |cm (t:Y1)
 |bad
noncomputable def gj(s:Seg)(st:St):Option St:=match s with
 |.sg c=>if st.fs= []then(if c=32\/c=10 then some st else none)else O6 c st
 |.cm t=>match uK t with
  |none=>none
  |some c=>cg c st
 |.bad=>none
def Seg.text:Seg->Y1
 |.sg c=> [c]
 |.cm t=>m7 t
 |.bad=> []
noncomputable def run:List Seg->Nat->St->Nat ⊕ St
 |[],_,st=>.inr st
 |s::r,p,st=>match gj s st with
  |none=>.inl p
  |some Xn=>run r (p+s.text.length) Xn
noncomputable def rM:Y1->Option (Y1×Y1)
 |[]=>none
 |c::r=>if c=125 then some ([],r)else(rM r).map fun p=>(c::p.1,p.2)
def mZ:Nat->Y1->List Seg
 |0,_=> []
 |_+1,[]=>[]
 |k+1,c::r=>if c=123 then(match rM r with
   |some (t,r1)=>.cm t::mZ k r1
   |none=> [.bad])else if c=125 then[.bad]else .sg c::mZ k r
def fH(x:Y1):List Seg:=mZ (x.length+1) x
theorem mS:∀{r t r1:Y1},rM r=some (t,r1)->r=t++125::r1/\125∉t
 |[],_,_,h=>by cases h
 |c::r,t,r1,h=>by
  unfold rM at h
  split at h
  .rename_i e;cases h;exact⟨by rw[e];rfl,by simp⟩
  .rename_i e;obtain⟨⟨t',r'⟩,h1,h2⟩:=adZ.mp h
   cases h2
   obtain⟨a,b⟩:=mS h1;refine⟨by rw[a];rfl,?_⟩;intro z;rcases ac8.mp z with z|z
   .exact e z.symm
   .exact b z
theorem vG:∀{r:Y1},rM r=none->125∉r
 |[],_=>by simp
 |c::r,h=>by
  unfold rM at h
  split at h
  .cases h
  .rename_i e;intro z;rcases ac8.mp z with z|z
   .exact e z.symm
   .exact vG (af2.mp h) z
theorem zG:∀{t r1:Y1},125∉t->rM (t++125::r1)=some (t,r1)
 |[],_,_=>by simp[rM]
 |c::t,r1,h=>by have e:c≠125:=fun z=>h (by simp[z]);rw[adY,rM,if_neg e,zG fun z=>h (ac1 _ z)];rfl
theorem mK:∀(k m:Nat)(x:Y1),x.length<k->x.length<m->mZ k x=mZ m x
 |0,_,_,h,_=>absurd h (aip _)
 |_+1,0,_,_,h=>absurd h (aip _)
 |k+1,m+1,[],_,_=>rfl
 |k+1,m+1,c::r,h1,h2=>by
  rw[ac6]at h1 h2;unfold mZ
  split
  .cases q:rM r with
   |none=>rfl
   |some p=>
    obtain⟨t,r1⟩:=p;obtain⟨e,_⟩:=mS q;have:r1.length<r.length:=by rw[e];simp;lia
    dsimp only;rw[mK k m r1 ⋯ ⋯]
  .split
   .rfl
   .rw[mK k m r ⋯ ⋯]
theorem Ez:fH []=[]:=rfl
def yf{r1:Y1}(h:125∉t):fH (123::t++125::r1)=.cm t::fH r1:=by unfold fH;rw[adY,mZ,if_pos rfl,zG h];dsimp only;rw[mK _ (r1.length+1) r1 (by simp;lia) ⋯]
theorem CV{r:Y1}(h:125∉r):fH (123::r)=[.bad]:=by
 unfold fH;rw[mZ,if_pos rfl]
 cases q:rM r with
 |none=>rfl
 |some p=>obtain⟨e,_⟩:=mS (t:=p.1) (r1:=p.2) q;exact absurd (by rw[e];simp) h
def CU{r:Y1}:fH (125::r)=[.bad]:=by unfold fH;rw[mZ,if_neg ⋯,if_pos rfl]
def pW{c:Nat}{r:Y1}(h1:c≠123)(h2:c≠125):fH (c::r)=.sg c::fH r:=by unfold fH;rw[mZ,if_neg h1,if_neg h2,mK _ (r.length+1) r (by simp) ⋯]
noncomputable def ltB(a:Y1):Bool:=a.all fun c=>Nat.blt c 1114112
def fA(h:ltB a=true):Lt a:=fun c hc=>by have:=adn.mp h c hc;rw[Nat.blt_eq]at this;exact this
def ek(a b:Y1)(r:Bool)(ha:ltB a=true)(hb:ltB b=true)(q:(a==b)=r)(h:Y3):o9 (.str a) (.str b) h=.ok (.bl r) h:=by rw[jD a b h (fA ha) (fA hb),<- q];congr 2;rw[aei];simp
def nk(a b:Y1)(r:Bool)(ha:ltB a=true)(hb:ltB b=true)(q:(!(a==b))=r)(h:Y3):Vs (.str a) (.str b) h=.ok (.bl r) h:=by rw[lZ a b h (fA ha) (fA hb),<- q];congr 2;rw[aei];simp
def ik(a:Y1)(ls:Ya)(r:Bool)(ha:ltB a=true)(hb:ls.all ltB=true)(q:ls.contains a=r)(h:Y3):Wx (.str a) (.tup (ls.map PV.str)) h=.ok (.bl r) h:=by rw[Ml (fA ha) (fun l hl=>fA (adn.mp hb l hl)) h,<- q];congr 2;rw[aei];simp
abbrev eE(a b:Y1)(c:Bool):Prop:=∀h,o9 (.str a) (.str b) h=.ok (.bl c) h
def Vx:eE eM cf false/\eE eM dB false/\eE eM bV false/\eE eM dj false/\eE eM fQ false/\eE eM bL false/\eE eM eM true/\eE eM cU false/\eE eM fN false/\eE eM T4 false/\eE cU cf false/\eE cU dB false/\eE cU bV false/\eE cU dj false/\eE cU fQ false/\eE cU bL false/\eE cU eM false/\eE cU cU true/\eE cU fN false/\eE cU T4 false/\eE bL cf false/\eE bL dB false/\eE bL bV false/\eE bL dj false/\eE bL fQ false/\eE bL bL true/\eE bL eM false/\eE bL cU false/\eE bL fN false/\eE bL T4 false/\eE dj cf false/\eE dj dB false/\eE dj bV false/\eE dj dj true/\eE dj fQ false/\eE dj bL false/\eE dj eM false/\eE dj cU false/\eE dj fN false/\eE dj T4 false/\eE fQ cf false/\eE fQ dB false/\eE fQ bV false/\eE fQ dj false/\eE fQ fQ true/\eE fQ bL false/\eE fQ eM false/\eE fQ cU false/\eE fQ fN false/\eE fQ T4 false/\eE dK cf false/\eE dK dB false/\eE dK bV false/\eE dK dj false/\eE dK fQ false/\eE dK bL false/\eE dK eM false/\eE dK cU false/\eE dK fN false/\eE dK T4 false/\eE fN cf false/\eE fN dB false/\eE fN bV false/\eE fN dj false/\eE fN fQ false/\eE fN bL false/\eE fN eM false/\eE fN cU false/\eE fN fN true/\eE fN T4 false/\eE T4 cf false/\eE T4 dB false/\eE T4 bV false/\eE T4 dj false/\eE T4 fQ false/\eE T4 bL false/\eE T4 eM false/\eE T4 cU false/\eE T4 fN false/\eE T4 T4 true/\eE bV cf false/\eE bV dB false/\eE bV bV true/\eE bV dj false/\eE bV fQ false/\eE bV bL false/\eE bV eM false/\eE bV cU false/\eE bV fN false/\eE bV T4 false/\eE dB cf false/\eE dB dB true/\eE dB bV false/\eE dB dj false/\eE dB fQ false/\eE dB bL false/\eE dB eM false/\eE dB cU false/\eE dB fN false/\eE dB T4 false/\eE cf cf true/\eE cf dB false/\eE cf bV false/\eE cf dj false/\eE cf fQ false/\eE cf bL false/\eE cf eM false/\eE cf cU false/\eE cf fN false/\eE cf T4 false:=by
 repeat' apply And.intro
 all_goals exact ek _ _ _ rfl rfl rfl
abbrev eI(a:Y1)(c:Bool):Prop:=∀h,Wx (.str a) (.tup [.str [102,111,114],.str [105,102]]) h=.ok (.bl c) h
abbrev eD(a:Y1)(c:Bool):Prop:=∀h,Wx (.str a) gw h=.ok (.bl c) h
def tgi:eI eM false/\eD eM true/\eI cU false/\eD cU true/\eI bL false/\eD bL false/\eI dj false/\eD dj false/\eI fQ false/\eD fQ false/\eI dK false/\eD dK false/\eI fN true/\eD fN false/\eI T4 true/\eD T4 false/\eI bV false/\eD bV false/\eI dB false/\eD dB false/\eI cf false/\eD cf false:=by
 repeat' apply And.intro
 all_goals first|exact ik _ [[102,111,114],[105,102]] _ rfl rfl rfl|exact fun h=>(inD mP _ h).trans rfl
def TX(a:α)(l:List α):S9 (a::l) 0=some a:=eJ ⋯ rfl
def at1(a b:α)(l:List α):S9 (a::b::l) 1=some b:=eJ ⋯ rfl
def at2(a b c:α)(l:List α):S9 (a::b::c::l) 2=some c:=eJ ⋯ rfl
def V3(a b c d:α)(l:List α):S9 (a::b::c::d::l) 3=some d:=eJ ⋯ rfl
def Xp(a b c d e:α)(l:List α):S9 (a::b::c::d::e::l) 4=some e:=eJ ⋯ rfl
theorem rB(c:m8)(h:Y3):aj h c.pv=c.pv:=rfl
noncomputable def m8.opens:m8->Bool
 |.loop _ _=>true|.cond _=>true|.piece _ _ _=>true|.use _ _ (some _)=>true
 |_=>false
def m8.Sz:m8->Prop
 |.use _ ps ns=>ps.length<=16777216/\∀l,ns=some l->l.length<=16777216
 |.body ps=>ps.length<=16777216
 |.piece _ ns _=>ns.length<=16777216
 |_=>True
def vo:decide ((n:Int)<(m:Int))=decide (n<m):=by
 by_cases h:n<m
 .rw[decide_eq_true h,decide_eq_true ⋯]
 .rw[decide_eq_false h,decide_eq_false ⋯]
def xx(e:h[i]? =some (.lst xs)):aj h (.ref i)=.ref i:=by unfold aj;simp only[e]
def Og(e:h[i]? =some (.lst xs)):Yx h (.ref i)=some xs:=by unfold Yx;simp only[e]
def yS(e:h[i]? =some (.lst xs)):W9 h (.ref i)=some xs:=Og e
def Ko(e:h[i]? =some (.lst xs)):Ye h (.ref i)=none:=by unfold Ye;simp only[e]
def xe(e:h[i]? =some (.lst xs)):iZ h (.ref i)=some (i,xs):=by unfold iZ;simp only[e]
def Md(e:h[i]? =some (.lst xs)){j:Int}(a:S9 xs j=some v):b_ (.ref i) (.int j) h=.ok (aj h v) h:=by show(match Ye h (.ref i)with|some kvs=>_|none=>_)=_;rw[Ko e];show(match W9 h (.ref i)with|some xs=>_|none=>_)=_;rw[yS e];show(match S9 xs j with|some v=>Res.ok (aj h v) h|none=>.bad)=_;rw[a]
def Zx(st:St):Nat:=st.ps.length+(if st.fs= []then 0 else 1)
structure Wf(st:St):Prop where
 bt:∀f∈st.fs,f.bt.isSome=true->∃n p,f.c=.loop n p
 ys:∀f∈st.fs,f.yes.isSome=true->∃p,f.c=.cond p
 kd:∀f∈st.fs,f.c.opens=true
 lp:Zx st<=8
 lf:st.fs.length<=9
 ln:st.n<=200
 tl:∀f∈st.fs.tail,f.bt=none
def kL(c:m8):Lt c.kind:=by cases c<;>exact fA rfl
def JU(e:h[i]? =some (.lst xs)):bK [.ref i] h=.ok (PV.int (xs.length:Nat)) h:=by
 have:IM h (.ref i)=some xs.length:=by show(match Ye h (.ref i)with|some kvs=>some kvs.length|none=>match WQ h (.ref i)with|some xs=>some xs.length|none=>none)=_;rw[Ko e,show WQ h (.ref i)=some xs from yS e]
 show(match IM h (.ref i)with|some n=>Res.ok (PV.int n) h|none=>.bad)=_;rw[this]
theorem kf(c:m8):c.pv.pure=true:=by
 have pp:∀ps:List Ya,am (ps.map aR)=true:=fun ps=>by
  induction ps with
  |nil=>rfl
  |cons a r ih=>rw[ac5,am,ih,show aR a=bB (some a)from rfl,cj];rfl
 unfold m8.pv;rw[PV.pure,am]
 cases c with
 |place p w=>simp only[m8.args,am,cj,PV.pure,aeA]
 |loop n p=>simp only[m8.args,am,cj,PV.pure,aeA]
 |cond p=>simp only[m8.args,am,cj,PV.pure,aeA]
 |use a ps ns=>simp only[m8.args,am,cj,PV.pure,pp,aeA]
 |body ps=>simp only[m8.args,am,PV.pure,pp,aeA]
 |piece a ns m=>cases m<;>simp only[m8.args,oY,am,cj,PV.pure,aeA]
 |_=>rfl
noncomputable def m8.node:m8->Bool
 |.place _ _=>true|.loop _ _=>true|.cond _=>true|.use _ _ _=>true|.body _=>true
 |_=>false
def Fi(c:m8)(h:Y3):b_ c.pv (.int 0) h=.ok (.str c.kind) h:=by unfold m8.pv;simp[EV,TX]
def Au{c:m8}(cn:c.node=true){w:Y1}(hw:ltB w=true)(q:([dK,fN,T4,bV,dB].contains w)=false)(h:Y3):o9 (.str c.kind) (.str w) h=.ok (.bl false) h:=by
 refine ek _ _ _ ?_ hw ?_ h
 .cases c<;>first|(cases cn;done)|rfl
 .rw[beq_eq_false_iff_ne]
  rintro rfl
  cases c<;>first|(cases cn;done)|cases q
noncomputable def fE:SR->Res PV
 |.nx _ h1=>.ok .non h1
 |.rt v h1=>.ok v h1
 |.exc e h1=>.exc e h1
 |_=>.bad
def HC{f:Sx}{np:Nat}{ps:Y2}(hl:ps.length=np):bq f np n ps h=fE (f (ps.map some++List.replicate (n - ps.length) none) h):=by unfold bq;rw[if_pos hl];rfl
def lU{o o':Z.PO}(e:h[i]? =some o):(h.set i o')[i]? =some o':=by rw[aeR (ac9.mp e).1]
def bN{j:Nat}{o':Z.PO}(n:i≠j):(h.set i o')[j]? =h[j]? :=aeL n
def EC(e:h[i]? =some (.lst xs)){k:Int}{j:Nat}(q:WX xs.length k=some j)(v:PV)(ρ:Z.Ev):gA v (.ref i) (.int k) ρ h=.nx ρ (h.set i (.lst (xs.set j v))):=by unfold gA;rw[xe e];dsimp only;rw[q]
abbrev st3(p n:Int)(t:Bool):Z.PO:=.lst [.int p,.int n,.bl t]
def wy{a b:Sx}{ρ ρ1:Z.Ev}(e:a ρ h=.nx ρ1 h1):aq a b ρ h=b ρ1 h1:=by unfold aq;rw[e]
def NH(e:h[i]? =some (.lst (xs++ [v]))):vd (.ref i) [] h=.ok v (h.set i (.lst xs)):=by unfold vd;rw[xe e];dsimp only;rw[ae8];dsimp only;rw[afB]
def BV(e:h[i]? =some (.lst xs)):cC h (.ref i)=true:=by unfold cC;rw[yS e];rfl
def zM(e:h[i]? =some (.lst xs))(z:xs.length<16777216)(v:PV):bn (.ref i) [v] h=.ok .non (h.set i (.lst (xs++ [v]))):=by unfold bn;dsimp only;rw[xe e];dsimp only;rw[if_pos (by rw[szl];exact z)]
def IQ{c:m8}(h:c.kind=T4):∃p,c=.cond p:=by cases c<;>first|exact⟨_,rfl⟩|cases h
def Gg{c:m8}(h:c.kind=fN):∃n p,c=.loop n p:=by cases c<;>first|exact⟨_,_,rfl⟩|cases h
inductive CF:m8->PV->Prop
 |place {p:Ya} {w:Y1}:CF (.place p w) (m8.place p w).pv
 |body {ps:List Ya}:CF (.body ps) (m8.body ps).pv
 |use {a:Y1} {ps:List Ya}:CF (.use a ps none) (.tup (.str bV::(m8.use a ps none).args++ [.non]))
inductive ZM(c:m8)(st:St):St->Prop
 |txt {d:Nat} {v5:St} (hc:c= .WT/\d=123\/c=.cls/\d=125) (q:O6 d st=some v5):ZM c st v5
 |push {f:o7} {r:List o7} (e:st.fs=f::r) (b:f.bt=none) (n:st.n<200) (l:st.fs.length<9) (cn:c.node=true) (o:c.opens=true):ZM c st { st with n:=st.n+1,fs:=o7.new c::st.fs }
 |leaf {f:o7} {r:List o7} {v:PV} (e:st.fs=f::r) (b:f.bt=none) (n:st.n<200) (cn:c.node=true) (o:c.opens=false) (hv:CF c v):ZM c st { st with n:=st.n+1,fs:=f.put (.nd v (m7 (ar c)))::r }
 |piece {a:Y1} {ns:Ya} {m:Option Nat} (ec:c=.piece a ns m) (e:st.fs= []) (l:st.ps.length<8):ZM c st { st with fs:=[o7.new c] }
 |Yn {f:o7} (ec:c=.fin) (e:st.fs= [f]):ZM c st { st with ps:=st.ps++ [f.fin],fs:=[] }
 |fin2 {f g:o7} {r:List o7} (ec:c=.fin) (e:st.fs=f::g::r):ZM c st { st with fs:=g.put f.fin::r }
 |els {p:Ya} {ns:List Nd} {bt:Option Y1} {r:List o7} (ec:c=.els) (e:st.fs=⟨.cond p,ns,none,bt⟩::r):ZM c st { st with fs:=⟨.cond p,[],some ns,bt⟩::r }
 |Ul {n:Y1} {p:Ya} {ns:List Nd} {yes:Option (List Nd)} {r:List o7} (ec:c= .Ul) (e:st.fs=⟨.loop n p,ns,yes,none⟩::r):ZM c st { st with fs:=⟨.loop n p,ns,yes,some []⟩::r }
theorem xZ{c:m8}(q:cg c st=some v5):ZM c st v5:=by
 unfold cg at q
 split at q
 case isFalse=>cases q
 have node:∀(c:m8),c.node=true->(match st.fs with|[]=>none|f::r=>mY c f r st)=some v5->ZM c st v5:=by
  intro c cn q
  cases e:st.fs with
  |nil=>rw[e]at q;cases q
  |cons f r=>
   rw[e]at q;dsimp only at q;unfold mY at q
   split at q
   .rename_i g;have fb:f.bt=none:=by cases h:f.bt with|none=>rfl|some b=>rw[h]at g;cases g.1
    cases c with
    |place p w=>cases q;exact .leaf e fb g.2.1 rfl rfl .place
    |loop n p=>cases q;exact .push e fb g.2.1 g.2.2 rfl rfl
    |cond p=>cases q;exact .push e fb g.2.1 g.2.2 rfl rfl
    |use a ps ns=>
     cases ns with
     |none=>cases q;exact .leaf e fb g.2.1 rfl rfl .use
     |some l=>cases q;exact .push e fb g.2.1 g.2.2 rfl rfl
    |body ps=>cases q;exact .leaf e fb g.2.1 rfl rfl .body
    |_=>cases cn
   .cases q
 cases c with
 |WT=>exact .txt (.inl ⟨rfl,rfl⟩) q
 |cls=>exact .txt (.inr ⟨rfl,rfl⟩) q
 |place p w=>exact node _ rfl q
 |loop n p=>exact node _ rfl q
 |cond p=>exact node _ rfl q
 |use a ps ns=>exact node _ rfl q
 |body ps=>exact node _ rfl q
 |piece a ns m=>
  dsimp only at q
  split at q
  .rename_i g;cases q;exact .piece rfl g.1 g.2
  .cases q
 |fin=>
  dsimp only at q;rcases e:st.fs with _|⟨f,_|⟨g,r⟩⟩
  .rw[e]at q;cases q
  .rw[e]at q;cases q;exact .Yn rfl e
  .rw[e]at q;cases q;exact .fin2 rfl e
 |els=>
  dsimp only at q
  cases e:st.fs with
  |nil=>rw[e]at q;cases q
  |cons f r=>
   rw[e]at q;dsimp only at q
   split at q
   .rename_i g;obtain⟨c,ns,yes,bt⟩:=f;obtain⟨p,ep⟩:=IQ g.1
    cases ep
    cases g.2
    cases q
    exact .els rfl e
   .cases q
 |Ul=>
  dsimp only at q
  cases e:st.fs with
  |nil=>rw[e]at q;cases q
  |cons f r=>
   rw[e]at q;dsimp only at q
   split at q
   .rename_i g;obtain⟨c,ns,yes,bt⟩:=f;obtain⟨n,p,ep⟩:=Gg g.1
    cases ep
    cases g.2
    cases q
    exact .Ul rfl e
   .cases q
def FY(l:List Nd)(v:PV)(s:Y1):ij (l++ [.nd v s])=none:=by unfold ij;rw[ahC];rfl
def vv(l:List Nd)(t:Y1):ij (l++ [.txt t])=some t:=by unfold ij;rw[ahC];rfl
theorem Mx(f:o7):∃v s,f.fin=.nd v s:=by
 obtain⟨c,ns,yes,bt⟩:=f
 cases c with
 |cond p=>cases yes<;>exact⟨_,_,rfl⟩
 |_=>exact⟨_,_,rfl⟩
def Wf.top(W:Wf st){f':o7}{r:List o7}(e:st.fs=f::r)(e':v5.fs=f'::r)(c:f'.c=f.c)(b:f'.bt.isSome=true->∃n p,f'.c=.loop n p)(y:f'.yes.isSome=true->∃p,f'.c=.cond p)(hp:v5.ps=st.ps)(hn:v5.n<=200):Wf v5:=by
 obtain⟨w1,w2,w3,w4,w5,w6,w7⟩:=W;unfold Zx at w4;rw[e]at w1 w2 w3 w4 w5 w7;refine⟨?_,?_,?_,?_,?_,hn,?_⟩
 .rw[e'];intro g hg;rcases ac8.mp hg with rfl|hg
  .exact b
  .exact w1 g (ac1 _ hg)
 .rw[e'];intro g hg;rcases ac8.mp hg with rfl|hg
  .exact y
  .exact w2 g (ac1 _ hg)
 .rw[e'];intro g hg;rcases ac8.mp hg with rfl|hg
  .rw[c];exact w3 f ac4
  .exact w3 g (ac1 _ hg)
 .unfold Zx;rw[e',hp];exact w4
 .rw[e'];exact w5
 .rw[e'];exact w7
def Wf.push(W:Wf st){c:m8}(e:v5.fs=o7.new c::st.fs)(o:c.opens=true)(l:st.fs.length<9)(t:∀f∈st.fs,f.bt=none)(hp:Zx v5<=8)(hn:v5.n<=200):Wf v5:=by
 refine⟨?_,?_,?_,hp,?_,hn,?_⟩
 .rw[e];intro g hg q;rcases ac8.mp hg with rfl|hg
  .cases q
  .exact W.bt g hg q
 .rw[e];intro g hg q;rcases ac8.mp hg with rfl|hg
  .cases q
  .exact W.ys g hg q
 .rw[e];intro g hg;rcases ac8.mp hg with rfl|hg
  .exact o
  .exact W.kd g hg
 .rw[e];exact l
 .rw[e];exact t
def Wf.all(W:Wf st){r:List o7}(e:st.fs=f::r)(b:f.bt=none):∀g∈st.fs,g.bt=none:=by
 intro g hg;have t:=W.tl;rw[e]at hg t;rcases ac8.mp hg with rfl|hg
 .exact b
 .exact t g hg
theorem Wf.O6(W:Wf st){c:Nat}(q:O6 c st=some v5):Wf v5/\v5.fs≠ []:=by
 unfold K7.R.O6 at q
 cases e:st.fs with
 |nil=>rw[e]at q;cases q
 |cons f r=>
  rw[e]at q;have hb:=W.bt f (by rw[e];exact ac4);have hy:=W.ys f (by rw[e];exact ac4);have ln:=W.ln;obtain⟨fc,ns,yes,bt⟩:=f;dsimp only at q
  cases bt with
  |some b=>cases q;exact⟨W.top e rfl rfl (fun _=>hb rfl) hy rfl ln,by intro z;cases z⟩
  |none=>
   dsimp only at q
   cases ql:ij ns with
   |some t=>rw[ql]at q;cases q;exact⟨W.top e rfl rfl (fun z=>nomatch z) hy rfl ln,by intro z;cases z⟩
   |none=>
    rw[ql]at q;dsimp only at q
    split at q
    .rename_i g
     cases q
     exact⟨W.top e rfl rfl (fun z=>nomatch z) hy rfl g.1,by intro z;cases z⟩
    .cases q
theorem Wf.step(W:Wf st){c:m8}(q:cg c st=some v5):Wf v5:=by
 have pc:∀{f r},st.fs=f::r->∀{s2:St} {g l},s2.fs=g::l->s2.ps=st.ps->Zx s2<=8:=fun{f r} e {s2 g l} e' hp=>by have w:=W.lp;unfold Zx at w |-;rw[e]at w;rw[e',hp];exact w
 cases xZ q with
 |txt _ q=>exact(W.O6 q).1
 |push e b n l cn o=>exact W.push rfl o l (W.all e b) (pc e rfl rfl) n
 |@leaf f r v e b n cn o hv=>exact W.top e rfl rfl (W.bt f (by rw[e];exact ac4)) (W.ys f (by rw[e];exact ac4)) rfl n
 |piece ec e l=>exact W.push (by rw[e]) (by rw[ec];rfl) (by rw[e];decide) (by rw[e];intro f hf;cases hf) l W.ln
 |Yn ec e=>have w:=W.lp;unfold Zx at w;rw[e]at w;refine⟨(by intro f hf;cases hf),(by intro f hf;cases hf),(by intro f hf;cases hf),?_,adx _,W.ln,(by intro f hf;cases hf)⟩;unfold Zx;rw[acZ];exact w
 |@fin2 f g r ec e=>
  have hg:g∈st.fs:=by rw[e];exact ac1 _ ac4
  have m:∀x∈g.put f.fin::r,x.bt=g.bt/\x.yes=g.yes/\x.c=g.c\/x∈st.fs:=fun x hx=>by
   rcases ac8.mp hx with rfl|hx
   .exact .inl ⟨rfl,rfl,rfl⟩
   .exact .inr (by rw[e];exact ac1 _ (ac1 _ hx))
  have t:=W.tl;have l:=W.lf;rw[e]at t l;refine⟨?_,?_,?_,pc e rfl rfl,Nat.le_of_succ_le l,W.ln,fun x hx=>t x (ac1 _ hx)⟩
  .intro x hx q;rcases m x hx with⟨a,_,c⟩|hx
   .rw[a]at q;rw[c];exact W.bt g hg q
   .exact W.bt x hx q
  .intro x hx q;rcases m x hx with⟨_,a,c⟩|hx
   .rw[a]at q;rw[c];exact W.ys g hg q
   .exact W.ys x hx q
  .intro x hx;rcases m x hx with⟨_,_,c⟩|hx
   .rw[c];exact W.kd g hg
   .exact W.kd x hx
 |@els p ns bt r ec e=>exact W.top e rfl rfl (W.bt ⟨.cond p,ns,none,bt⟩ (by rw[e];exact ac4)) (fun _=>⟨_,rfl⟩) rfl W.ln
 |@Ul n p ns yes r ec e=>exact W.top e rfl rfl (fun _=>⟨_,_,rfl⟩) (W.ys ⟨.loop n p,ns,yes,none⟩ (by rw[e];exact ac4)) rfl W.ln
def MK(a:Y1)(c:Nat)(r:Y1):S9 (a++c::r) (a.length:Int)=some c:=eJ (Int.natCast_nonneg _) (by rw[aeo,adI (adK _),afj];rfl)
def GD(a:Y1)(r:Y1)(h:125∉t):qy (a++123::(t++125::r)) [125] (a.length:Int)=((a.length+(t.length+1):Nat):Int):=by
 have d:(a++123::(t++125::r)).drop a.length=(123::t)++125::r:=by rw[aeW];rfl
 rw[vC,rj (by rw[d];simp),d,afo,List.takeWhile_cons_of_neg ⋯,adD]
 .rfl
 .intro c hc;rcases ac8.mp hc with rfl|hc
  .decide
  .simp only[bne_iff_ne,ne_eq];intro z;exact h (z▸hc)
def Ji(a:Y1){r:Y1}(h:125∉r):qy (a++123::r) [125] (a.length:Int)= -1:=by have d:(a++123::r).drop a.length=123::r:=aeW;rw[vC,rm (by rw[d];simp[h])];rfl
def Jt(a t r:Y1):cut (a++123::(t++125::r)) (some ((a.length:Int)+1)) (some ((a.length+(t.length+1):Nat):Int))=t:=by
 rw[show((a.length:Int)+1)=((a.length+1:Nat):Int)from rfl,GQ _ _ _ (by simp)];have e:(a++123::(t++125::r)).drop (a.length+1)=t++125::r:=by rw[<- aeX,aeW];rfl
 have e2:a.length+(t.length+1) - (a.length+1)=t.length:=by lia
 rw[e,e2,afh]
def wF(h:(aI cs ls).length<=t.length)(g:ey t):ls.length<=16777216:=by
 have g1:=g.1
 by_cases e:ls= []
 .rw[e];exact adx _
 .have:=jW (y:=cs) ⋯ e
  lia
theorem Hq{c:m8}(T:DU t c)(g:ey t):c.Sz:=by
 cases T with
 |plain e=>exact trivial
 |same e=>
  have pp:∀ps:List Ya,(aO ps).length<=t.length->ps.length<=16777216:=fun ps l=>by
   have:=wF (ls:=ps.map aA) l g
   rwa [ac2]at this
  cases c with
  |use a ps ns=>
   cases ns with
   |none=>refine⟨pp ps ?_,fun l z=>nomatch z⟩;rw[e];simp only[ar,acZ];lia
   |some l=>
    refine⟨pp ps ?_,fun l' z=>?_⟩
    .rw[e];simp only[ar,acZ];lia
    .cases z
     refine wF (t:=t) ?_ g;rw[e];simp only[ar,acZ];lia
  |body ps=>refine pp ps ?_;rw[e];simp only[ar,acZ];lia
  |piece a ns m=>refine wF (t:=t) ?_ g;rw[e];simp only[ar,acZ];lia
  |_=>exact trivial
def eqc(c d:Nat)(hc:c<1114112)(hd:d<1114112)(h:Y3):o9 (.str [c]) (.str [d]) h=.ok (.bl (decide (c=d))) h:=by rw[jD _ _ _ (by simpa using hc) (by simpa using hd)];simp only[afN,and_true]
theorem ya(c:Nat)(st:St):gj (.sg c) st=if st.fs= []then(if c=32\/c=10 then some st else none)else O6 c st:=rfl
theorem OA(c:m8):bP c.pv=false:=rfl
section
variable{t:Tx}{body:Sx}{ρ:Z.Ev}{h2:Y3}
def wD(e:t ρ h=.ok true h1)(b:body ρ h1=.exc v h2):eP t body ρ h=.exc v h2:=by
 have:whl t body 1 ρ h=.exc v h2:=by rw[whl,e];show(match body ρ h1 with|.nx ρ2 h2=>_|.ct ρ2 h2=>_|.bk ρ2 h2=>_|.rt v h2=>_|.exc v h2=>_|.bad=>_)=_;rw[b]
 rw[pX t body (n:=1) (by rw[this];intro z;cases z),this]
end
theorem yj(s:Seg)(r:List Seg)(p:Nat)(st:St):run (s::r) p st=match gj s st with|none=>.inl p|some Xn=>run r (p+s.text.length) Xn:=rfl
abbrev st0:St:=⟨[],[],0⟩
def wf0:Wf st0:=⟨(by intro f h;cases h),(by intro f h;cases h),(by intro f h;cases h),adx _,adx _,adx _,(by intro f h;cases h)⟩
def ig{w:Y1}(h:aM w=true):∀c∈w,97<=c/\c<=122:=fun c hc=>(show∀c∈aY,97<=c/\c<=122 by decide) c (Aw h c hc)
def oS(h:∀w∈p,aM w=true):∀c∈aA p,c=46\/(97<=c/\c<=122):=fun c hc=>by
 rcases jc hc with z|⟨w,hw,z⟩
 .exact .inl (by simpa using z)
 .exact .inr (ig (h w hw) c z)
def vg(h:∀w∈p,aM w=true):∀c∈aI cs p,c<123:=fun c hc=>by
 rcases jc hc with z|⟨w,hw,z⟩
 .exact(show∀c∈cs,c<123 by decide) c z
 .have:=ig (h w hw) c z;lia
def uZ(h:∀p∈ps,bO p):∀c∈aO ps,c<123:=fun c hc=>by
 rcases jc hc with z|⟨w,hw,z⟩
 .exact(show∀c∈cs,c<123 by decide) c z
 .obtain⟨p,hp,rfl⟩:=adM.mp hw;have:=oS (h p hp).2.2 c z;lia
theorem DN{c:m8}(o:c.Ok):∀d∈ar c,d<123:=by
 have ap:∀{a b:Y1},(∀d∈a,d<123)->(∀d∈b,d<123)->∀d∈a++b,d<123:=fun ha hb d hd=>(adv.mp hd).elim (ha d) (hb d);have pa:∀{p},bO p->∀d∈aA p,d<123:=fun h d hd=>by have:=oS h.2.2 d hd;lia
 have nm:∀{w},aM w=true->∀d∈w,d<123:=fun h d hd=>by have:=ig h d hd;lia
 cases c with
 |WT=>decide
 |cls=>decide
 |fin=>decide
 |els=>decide
 |Ul=>decide
 |place p w=>
  by_cases hw:w=dq
  .rw[show ar (.place p w)=aA p from if_pos hw];exact pa o.1
  .rw[kq hw];exact ap (ap (pa o.1) ⋯) ((show∀w∈bu,∀d∈w,d<123 by decide) w o.2)
 |loop n p=>exact ap (ap (ap ⋯ (nm o.1)) ⋯) (pa o.2)
 |cond p=>exact ap ⋯ (pa o)
 |use a ps ns=>
  have b:∀d∈jx++a++ [40]++aO ps++ [41],d<123:=ap (ap (ap (ap ⋯ (nm o.1)) ⋯) (uZ o.2.1)) ⋯
  cases ns with
  |none=>exact b
  |some l=>exact ap (ap b ⋯) (vg (o.2.2 l rfl))
 |body ps=>exact ap (ap ⋯ (uZ o)) ⋯
 |piece a ns m=>
  refine ap (ap (ap (ap (ap ⋯ (nm o.1)) ⋯) (vg o.2.1)) ⋯) ?_
  cases m with
  |none=>intro d hd;cases hd
  |some d=>exact ap ⋯ (by have:=o.2.2 d rfl;simp;lia)
noncomputable def unS:PV->Y1
 |.str w=>w
 |_=> []
noncomputable def Z2:PV->Ya
 |.tup xs=>xs.map unS
 |_=> []
noncomputable def unO:PV->Option Ya
 |.tup xs=>some (xs.map unS)
 |_=>none
noncomputable def unM:PV->Option Nat
 |.int d=>some d.toNat
 |_=>none
noncomputable def unL:PV->List Ya
 |.tup xs=>xs.map Z2
 |_=> []
noncomputable def un:PV->m8
 |.tup [.str k]=>if k=eM then .WT else if k=cU then .cls else if k=bL then .fin else if k=dj then .els else .Ul
 |.tup [.str k,a]=>if k=T4 then .cond (Z2 a)else .body (unL a)
 |.tup [.str k,a,b]=>if k=fN then .loop (unS a) (Z2 b)else .place (Z2 a) (unS b)
 |.tup [.str k,a,b,c]=>if k=bV then .use (unS a) (unL b) (unO c)else .piece (unS a) (Z2 b) (unM c)
 |_=>.WT
def CI(p:Ya):Z2 (aR p)=p:=by show(p.map PV.str).map unS=p;rw[adB];exact ail p
def Ng(ps:List Ya):unL (.tup (ps.map aR))=ps:=by show(ps.map aR).map Z2=ps;rw[adB,show Z2∘aR=id from funext CI,ail]
theorem PW(ns:Option Ya):unO (bB ns)=ns:=by
 cases ns with
 |none=>rfl
 |some l=>exact congrArg some (CI l)
def PX(m:Option Nat):unM (oY m)=m:=by cases m<;>rfl
theorem JI(c:m8):un c.pv=c:=by
 cases c with
 |WT=>rfl
 |cls=>rfl
 |fin=>rfl
 |els=>rfl
 |Ul=>rfl
 |place p w=>exact congrArg (m8.place · w) (CI p)
 |loop n p=>exact congrArg (m8.loop n) (CI p)
 |cond p=>exact congrArg m8.cond (CI p)
 |use a ps ns=>show m8.use a (unL (.tup (ps.map aR))) (unO (bB ns))=_;rw[Ng,PW]
 |body ps=>exact congrArg m8.body (Ng ps)
 |piece a ns m=>show m8.piece a (Z2 (aR ns)) (unM (oY m))=_;rw[CI,PX]
def Lr{c d:m8}(h:c.pv=d.pv):c=d:=by
 have:=congrArg un h
 rwa [JI,JI]at this
theorem Jw{c:m8}(h:eZ t=c.pv):uK t=some c:=by
 cases q:uK t with
 |none=>rw[vM q]at h;cases h
 |some d=>rw[Lr ((vL q).1.symm.trans h)]
def Bx{c:Nat}(h:y.isPrefixOf x=true)(hc:c∈y):c∈x:=by obtain⟨r,e⟩:=adG.mp h;rw[<- e];exact ad7 _ hc
def vK(o:bO p):eZ (aA p)=(m8.place p dq).pv:=by
 have sp:bA 46 (aA p)=p:=hU o.1 fun w hw z=>by have:=ig (o.2.2 w hw) 46 z;lia
 have rg:=oS o.2.2;have np:∀{y:Y1}{c:Nat},c∈y->c≠46->¬ (97<=c/\c<=122)->¬ y.isPrefixOf (aA p)=true:=fun hc h1 h2 z=>(rg _ (Bx z hc)).elim h1 h2
 have lk:iJ eA (aA p)=none:=by
  have key:∀kv∈eA,bA 46 kv.1= [kv.1]/\aM kv.1=false:=by decide
  unfold iJ;rw[af2,afR];intro kv hk z;have e:kv.1=aA p:=by simpa using z
  obtain⟨k1,k2⟩:=key kv hk;rw[e,sp]at k1;have hm:∀q:Ya,q= [aA p]->aA p∈q:=fun q h=>by rw[h];exact List.mem_singleton_self _
  have:=o.2.2 (aA p) (hm p k1);rw[e,this]at k2
  cases k2
 unfold eZ;rw[lk];dsimp only;rw[if_neg (np (c:=32) ⋯ ⋯ ⋯),if_neg (np (c:=32) ⋯ ⋯ ⋯),if_neg (np (c:=32) ⋯ ⋯ ⋯),if_neg (np (c:=40) ⋯ ⋯ ⋯),if_neg (np (c:=32) ⋯ ⋯ ⋯)]
 have pv:bY (aA p)=some p:=by unfold bY;rw[sp,if_pos];rw[ac7,decide_eq_true_eq,adn];exact⟨o.2.1,o.2.2⟩
 have ff:aE V_ (aA p) 0=none:=by
  cases q:aE V_ (aA p) 0 with
  |none=>rfl
  |some i=>
   have:=(jf q).2.1;have z:(32:Nat)∈aA p:=by rw[this];simp
   have:=rg 32 z
   lia
 unfold jB;rw[ff,pv];rfl
def BQ(h:ij l=some t):∃b,l=b++ [.txt t]/\l.dropLast=b:=by
 rcases aeb l with rfl|⟨b,z,rfl⟩
 .cases h
 .rw[aec]at h |-
  cases z with
  |nd v s=>rw[FY]at h;cases h
  |txt u=>rw[vv]at h;cases h;exact⟨b,rfl,afB⟩
def sP{c:m8}(h:uK t=some c)(st:St):gj (.cm t) st=cg c st:=by unfold gj;dsimp only;rw[h]
section
variable{C j:Nat}{ps:Y2}
def zF(e:h[i]? =some (.obj C ps)):aj h (.ref i)=.ref i:=by unfold aj;simp only[e]
def yN(e:h[i]? =some (.obj C ps)):qo C h (.ref i)=some (i,ps):=by unfold qo;simp only[e,if_true]
def ub(e:h[i]? =some (.obj C ps))(q:ps[j]? =some v)(d:aj h v=v):bZ C j (.ref i) h=.ok v h:=by unfold bZ;rw[yN e];dsimp only;rw[q];dsimp only;rw[d]
def sU(e:h[i]? =some (.obj C ps))(l:j<ps.length)(ρ:Z.Ev):lV C j v (.ref i) ρ h=.nx ρ (h.set i (.obj C (ps.set j v))):=by unfold lV;rw[yN e];dsimp only;rw[if_pos l]
def JJ(e:h[i]? =some (.lst xs)):jl h (.ref i)=some (!xs.isEmpty):=by show(match WQ h (.ref i)with|some xs=>some (!xs.isEmpty)|none=>_)=_;rw[show WQ h (.ref i)=some xs from yS e]
def Bl(e:h[i]? =some (.lst xs)):dJ [.ref i] h=.ok (.tup xs) h:=by show(match WQ h (.ref i)with|some xs=>Res.ok (PV.tup xs) h|none=>Res.bad)=_;rw[show WQ h (.ref i)=some xs from yS e]
end
def zt(k:Nat):Nat.ble 2 (dl (k+1))=true:=by show Nat.ble 2 (dl k+2)=true;rw[Nat.ble_eq];lia
def WR(k:Nat)(C:Nat)(as:Ax)(ρ:Z.Ev)(h:Y3):dQ (Nat.ble 2 (dl (k+1))) C as ρ h=pZ C (as ρ h):=by unfold dQ;rw[if_pos (zt k)]
def DZ:Option (List Nd)->PV
 |none=>.non
 |some y=>M7 y
noncomputable def Yq:Option Y1->PV
 |none=>.non
 |some b=>.str b
abbrev VD(f:o7)(m:Nat):Z.PO:=.obj 608 [f.c.pv,.ref m,DZ f.yes,Yq f.bt]
abbrev V7(f:o7):Z.PO:=.lst (f.ns.map Nd.pv)
abbrev Z7(n:Nat):Z.PO:=.obj 609 [.ref 1,.ref 2,.int (n:Nat)]
noncomputable def ix:List (Nat×Nat)->Y1
 |[]=>[]
 |p::q=>p.1::p.2::ix q
def RF:List o7->List (Nat×Nat)->Y3->Prop
 |[],[],_=>True
 |f::r,p::q,h=>h[p.1]? =some (VD f p.2)/\h[p.2]? =some (V7 f)/\RF r q h
 |_,_,_=>False
abbrev Yb(q:List (Nat×Nat)):Z.PO:=.lst (q.reverse.map fun p=>PV.ref p.1)
structure RH(st:St)(q:List (Nat×Nat))(h:Y3):Prop where
 s0:h[0]? =some (Z7 st.n)
 s1:h[1]? =some (.lst (st.ps.map Nd.pv))
 s2:h[2]? =some (Yb q)
 fr:RF st.fs q h
 nd:(0::1::2::ix q).Nodup
theorem RF.set{h:Y3}{j:Nat}{o:Z.PO}:∀{r:List o7}{q:List (Nat×Nat)},RF r q h->j∉ix q->RF r q (h.set j o)
 |[],[],_,_=>trivial
 |f::r,p::q,⟨a,b,c⟩,n=>by
  refine⟨?_,?_,c.set fun z=>n (ac1 _ (ac1 _ z))⟩
  .rw[bN fun z=>n (by rw[z];exact ac4)];exact a
  .rw[bN fun z=>n (by rw[z];exact ac1 _ ac4)];exact b
theorem RF.app{h l:Y3}:∀{r:List o7}{q:List (Nat×Nat)},RF r q h->RF r q (h++l)
 |[],[],_=>trivial
 |f::r,p::q,⟨a,b,c⟩=>by
  refine⟨?_,?_,c.app⟩
  .rw[ady (ac9.mp a).1];exact a
  .rw[ady (ac9.mp b).1];exact b
theorem RF.lt{h:Y3}:∀{r:List o7}{q:List (Nat×Nat)},RF r q h->∀i∈ix q,i<h.length
 |[],[],_,_,z=>nomatch z
 |f::r,p::q,⟨a,b,c⟩,i,z=>by
  rcases ac8.mp z with rfl|z
  .exact(ac9.mp a).1
  .rcases ac8.mp z with rfl|z
   .exact(ac9.mp b).1
   .exact c.lt i z
theorem RF.len{h:Y3}:∀{r:List o7}{q:List (Nat×Nat)},RF r q h->q.length=r.length
 |[],[],_=>rfl
 |f::r,p::q,⟨_,_,c⟩=>congrArg (· +1) c.len
inductive MX(st:St)(h:Y3):List (Nat×Nat)->Prop
 |no (e:st.fs= []):MX st h []
 |yes {f:o7} {r:List o7} {i m:Nat} {q:List (Nat×Nat)} (e:st.fs=f::r) (a:h[i]? =some (VD f m)) (b:h[m]? =some (V7 f)) (c:RF r q h) (n: [0,1,2,i,m].Nodup) (n1:∀j∈ [0,1,2,i,m],j∉ix q) (n2:(0::1::2::ix q).Nodup):MX st h ((i,m)::q)
theorem RH.top(R:RH st q h):MX st h q:=by
 obtain⟨s0,s1,s2,fr,nd⟩:=R
 cases e:st.fs with
 |nil=>
  rw[e]at fr
  cases q with
  |nil=>exact .no e
  |cons p q=>exact fr.elim
 |cons f r=>
  rw[e]at fr
  cases q with
  |nil=>exact fr.elim
  |cons p q=>obtain⟨a,b,c⟩:=fr;have q5: [0,1,2,p.1,p.2]++ix q=0::1::2::ix (p::q):=rfl;rw[<- q5,ae6]at nd;refine .yes e a b c nd.1 (fun j hj z=>nd.2.2 j hj j z rfl) ?_;rw[show 0::1::2::ix q= [0,1,2]++ix q from rfl,ae6];exact⟨by decide,nd.2.1,fun x hx y hy=>nd.2.2 x (ad7 [p.1,p.2] hx) y hy⟩
structure RA(st:St)(h:Y3):Prop where
 d0:aj h (.ref 0)=.ref 0
 d1:aj h (.ref 1)=.ref 1
 d2:aj h (.ref 2)=.ref 2
 ob:(qo 609 h (.ref 0)).isSome=true
 f0:bZ 609 0 (.ref 0) h=.ok (.ref 1) h
 f1:bZ 609 1 (.ref 0) h=.ok (.ref 2) h
 f2:bZ 609 2 (.ref 0) h=.ok (.int (st.n:Nat)) h
 ln:bK [.ref 2] h=.ok (.int (st.fs.length:Nat)) h
 lp:bK [.ref 1] h=.ok (.int (st.ps.length:Nat)) h
 tp:jl h (.ref 1)=some (!st.ps.isEmpty)
 il:cC h (.ref 2)=true
 ip:cC h (.ref 1)=true
def RH.ra(R:RH st q h):RA st h where
 d0:=zF R.s0
 d1:=xx R.s1
 d2:=xx R.s2
 ob:=by rw[yN R.s0];rfl
 f0:=ub R.s0 rfl (xx R.s1)
 f1:=ub R.s0 rfl (xx R.s2)
 f2:=ub R.s0 rfl rfl
 ln:=by rw[JU R.s2,ac2,ahK,R.fr.len]
 lp:=by rw[JU R.s1,ac2]
 tp:=by rw[JJ R.s1];cases st.ps<;>rfl
 il:=BV R.s2
 ip:=BV R.s1
def OH(n:Nat):decide ((n:Int)>0)=decide (0<n):=vo (n:=0)
def xj(n:Nat):decide ((n:Int)>200)=decide (200<n):=vo (n:=200)
def Kf(n:Nat):decide ((n:Int)>8)=decide (8<n):=vo (n:=8)
def pA(k:Nat)(A:RA st h):X_ (k+1) .d9 [.ref 0] h=.ok (.bl (decide (0<st.fs.length))) h:=by show bq (ir (F k)) 1 1 [.ref 0] h=_;obtain⟨d0,d1,d2,ob,f0,f1,f2,ln,lp,tp,il,ip⟩:=A;simp[EV,bq,ir,d0,f1,ln,OH]
abbrev gG(st:St)(h:Y3):Y3:=h.set 0 (Z7 (st.n+1))
def RH.cnt(R:RH st q h):RH { st with n:=st.n+1 } q (gG st h):=by
 have nd:=R.nd;simp only[adL,ac8,not_or]at nd;refine⟨lU R.s0,?_,?_,R.fr.set nd.1.2.2,R.nd⟩
 .rw[bN ⋯];exact R.s1
 .rw[bN ⋯];exact R.s2
def uo(k:Nat)(R:RH st q h)(p:Int):X_ (k+2) .j4 [.ref 0,.int p] h=if st.n<200/\st.fs.length<9 then .ok .non (gG st h)else .exc (.Wn 3 (.int p)) (gG st h):=by
 show bq (dD (F (k+1)) (Nat.ble 2 (dl (k+1)))) 2 2 [.ref 0,.int p] h=_;obtain⟨d0,d1,d2,ob,f0,f1,f2,ln,lp,tp,il,ip⟩:=R.ra;obtain⟨D0,D1,D2,Ob,F0,F1,F2,Ln,Lp,Tp,Il,Ip⟩:=R.cnt.ra;have sf:∀ ρ,lV 609 2 (.int ((st.n:Int)+1)) (.ref 0) ρ h=.nx ρ (gG st h):=fun ρ=>sU R.s0 (ad6 _) ρ;have F2':bZ 609 2 (.ref 0) (gG st h)=.ok (.int ((st.n+1:Nat):Int)) (gG st h):=F2;dsimp only at Ln;generalize gG st h=g at*
 by_cases q1:st.n<200
 .have e1:decide (200<st.n+1)=false:=decide_eq_false ⋯
  by_cases q2:st.fs.length<9
  .have e2:decide (8<st.fs.length)=false:=decide_eq_false ⋯;rw[if_pos ⟨q1,q2⟩];simp[EV,bq,dD,d0,f2,sf,D0,F2',xj,e1,F1,Ln,Kf,e2]
  .have e2:decide (8<st.fs.length)=true:=decide_eq_true ⋯;rw[if_neg fun z=>q2 z.2];simp[EV,bq,dD,d0,f2,sf,D0,F2',xj,e1,F1,Ln,Kf,e2,WR,bE]
 .have e1:decide (200<st.n+1)=true:=decide_eq_true ⋯;rw[if_neg fun z=>q1 z.1];simp[EV,bq,dD,d0,f2,sf,D0,F2',xj,e1,WR,bE]
def Hd(v:PV):Prop:=∃k as,v=.tup (.str k::as)/\k≠lL/\Lt k
structure FB(m:Nat)(f:o7):Prop where
 nn:f.ns.length<=m
 bl:∀b,f.bt=some b->b.length<=m
 tl:∀t,Nd.txt t∈f.ns->t.length<=m
 hd:∀v s,Nd.nd v s∈f.ns->Hd v
abbrev Bd(m:Nat)(st:St):Prop:=∀f∈st.fs,FB m f
def FB.up(b:FB m f):FB (m+1) f:=⟨aee b.nn,fun x h=>aee (b.bl x h),fun t h=>aee (b.tl t h),b.hd⟩
theorem FB.new(m:Nat)(c:m8):FB m (o7.new c):=⟨adx _,(fun _ h=>nomatch h),(fun _ h=>nomatch h),(fun _ _ h=>nomatch h)⟩
theorem FB.put{m:Nat}{f:o7}(b:FB m f){v:PV}{s:Y1}(h:Hd v):FB (m+1) (f.put (.nd v s)):=by
 refine⟨?_,fun x h=>aee (b.bl x h),fun t z=>?_,fun v' s' z=>?_⟩
 .show(f.ns++ [Nd.nd v s]).length<=_;rw[acZ];exact afD b.nn
 .rcases adv.mp z with z|z
  .exact aee (b.tl t z)
  .cases adl.mp z
 .rcases adv.mp z with z|z
  .exact b.hd v' s' z
  .cases adl.mp z;exact h
def sA(c:m8):c.kind≠lL:=by cases c<;>(intro h;cases h)
theorem Mo(o:f.c.opens=true){s:Y1}(e:f.fin=.nd v s):Hd v:=by
 obtain⟨c,ns,yes,bt⟩:=f
 cases c with
 |loop n p=>cases e;exact⟨_,_,rfl,by decide,fA rfl⟩
 |cond p=>cases yes<;>(cases e;exact⟨_,_,rfl,by decide,fA rfl⟩)
 |piece a l m=>cases e;exact⟨_,_,rfl,sA _,kL _⟩
 |use a ps l=>cases e;exact⟨_,_,rfl,sA _,kL _⟩
 |_=>cases o
def Bd.cons{m:Nat}{v5:St}{f':o7}{r:List o7}(b:∀f∈r,FB m f)(e:v5.fs=f'::r)(h:FB (m+1) f'):Bd (m+1) v5:=by
 intro f hf;rw[e]at hf;rcases ac8.mp hf with rfl|hf
 .exact h
 .exact(b f hf).up
theorem Bd.O6{m:Nat}{st v5:St}(B:Bd m st){c:Nat}(q:O6 c st=some v5):Bd (m+1) v5:=by
 unfold K7.R.O6 at q
 cases e:st.fs with
 |nil=>rw[e]at q;cases q
 |cons f r=>
  rw[e]at q;have b:=B f (by rw[e];exact ac4);have b':∀g∈r,FB m g:=fun g hg=>B g (by rw[e];exact ac1 _ hg);obtain⟨fc,ns,yes,bt⟩:=f;obtain⟨b1,b2,b3,b4⟩:=b;dsimp only at q b1 b2 b3 b4
  cases bt with
  |some x=>
   cases q
   refine Bd.cons b' rfl ⟨aee b1,fun y h=>?_,fun t h=>aee (b3 t h),b4⟩
   cases h
   rw[acZ];exact afD (b2 x rfl)
  |none=>
   dsimp only at q
   cases ql:ij ns with
   |some t=>
    rw[ql]at q
    cases q
    obtain⟨a,rfl,e2⟩:=BQ ql;rw[e2];refine Bd.cons b' rfl ⟨?_,(fun y h=>nomatch h),fun u h=>?_,fun v s h=>?_⟩
    .rw[acZ]at b1 |-;exact aee b1
    .rcases adv.mp h with h|h
     .exact aee (b3 u (ad7 _ h))
     .cases adl.mp h
      rw[acZ];exact afD (b3 t (afs _ ac4))
    .rcases adv.mp h with h|h
     .exact b4 v s (ad7 _ h)
     .cases adl.mp h
   |none=>
    rw[ql]at q;dsimp only at q
    split at q
    .cases q
     refine Bd.cons b' rfl ⟨?_,(fun y h=>nomatch h),fun u h=>?_,fun v s h=>?_⟩
     .rw[acZ];exact afD b1
     .rcases adv.mp h with h|h
      .exact aee (b3 u h)
      .cases adl.mp h;exact afD (adx _)
     .rcases adv.mp h with h|h
      .exact b4 v s h
      .cases adl.mp h
    .cases q
theorem Bd.step(W:Wf st)(B:Bd m st){c:m8}(q:cg c st=some v5):Bd (m+1) v5:=by
 have tl:∀{f r},st.fs=f::r->FB m f/\∀g∈r,FB m g:=fun{f r} e=>⟨B f (by rw[e];exact ac4),fun g hg=>B g (by rw[e];exact ac1 _ hg)⟩
 cases xZ q with
 |txt _ q=>exact Bd.O6 B q
 |push e b n l cn o=>exact Bd.cons B rfl (FB.new _ c)
 |leaf e b n cn o hv=>
  refine Bd.cons (tl e).2 rfl ((tl e).1.put ?_)
  cases hv with
  |use=>exact⟨_,_,rfl,sA (.use [] [] none),kL (.use [] [] none)⟩
  |_=>exact⟨_,_,rfl,sA _,kL _⟩
 |piece ec e l=>exact Bd.cons (m:=m) (r:=[]) (fun f h=>nomatch h) rfl (FB.new _ _)
 |Yn ec e=>exact fun f h=>nomatch h
 |@fin2 f g r ec e=>obtain⟨v,s,hf⟩:=Mx f;rw[hf];have t:=(tl e).2;exact Bd.cons (fun x hx=>t x (ac1 _ hx)) rfl ((t g ac4).put (Mo (W.kd f (by rw[e];exact ac4)) hf))
 |els ec e=>exact Bd.cons (tl e).2 rfl ⟨adx _,(tl e).1.up.bl,(fun _ h=>nomatch h),(fun _ _ h=>nomatch h)⟩
 |Ul ec e=>exact Bd.cons (tl e).2 rfl ⟨(tl e).1.up.nn,fun x h=>by cases h;exact adx _,(tl e).1.up.tl,(tl e).1.hd⟩
structure FA(f:o7)(i m:Nat)(h:Y3):Prop where
 di:aj h (.ref i)=.ref i
 dm:aj h (.ref m)=.ref m
 ob:(qo 608 h (.ref i)).isSome=true
 g0:bZ 608 0 (.ref i) h=.ok f.c.pv h
 g1:bZ 608 1 (.ref i) h=.ok (.ref m) h
 g2:bZ 608 2 (.ref i) h=.ok (DZ f.yes) h
 g3:bZ 608 3 (.ref i) h=.ok (Yq f.bt) h
 tn:jl h (.ref m)=some (!f.ns.isEmpty)
 il:cC h (.ref m)=true
 tu:dJ [.ref m] h=.ok (M7 f.ns) h
def rA(a:h[i]? =some (VD f m))(b:h[m]? =some (V7 f)):FA f i m h where
 di:=zF a
 dm:=xx b
 ob:=by rw[yN a];rfl
 g0:=ub a rfl rfl
 g1:=ub a rfl (xx b)
 g2:=ub a rfl (by cases f.yes<;>rfl)
 g3:=ub a rfl (by cases f.bt<;>rfl)
 tn:=by rw[JJ b];cases f.ns<;>rfl
 il:=BV b
 tu:=Bl b
def mM(s2:h[2]? =some (Yb ((i,m)::q)))(a:h[i]? =some (VD f m)):b_ (.ref 2) (.int (-1)) h=.ok (.ref i) h:=by unfold Yb at s2;rw[agR,adi,ac5,adT]at s2;rw[Md s2 (uz _ _),zF a]
section
variable{f':o7}{r:List o7}
def RH.abv(R:RH st ((i,m)::q) h)(e:st.fs=f::r)(e':v5.fs=f'::r)(hp:v5.ps=st.ps)(hn:v5.n=st.n)(ns:f'.ns=f.ns):RH v5 ((i,m)::q) (h.set i (VD f' m)):=by
 obtain⟨s0,s1,s2,fr,nd⟩:=R;rw[e]at fr;obtain⟨a,b,c⟩:=fr;have Z9:=nd;simp only[ix,adL,ac8,not_or]at Z9;refine⟨?_,?_,?_,?_,nd⟩
 .rw[bN ⋯,hn];exact s0
 .rw[bN ⋯,hp];exact s1
 .rw[bN ⋯];exact s2
 .rw[e'];refine⟨lU a,?_,c.set Z9.2.2.2.1.2⟩;rw[bN Z9.2.2.2.1.1];show h[m]? =some (PO.lst (f'.ns.map Nd.pv));rw[ns];exact b
def RH.Z6(R:RH st ((i,m)::q) h)(e:st.fs=f::r)(e':v5.fs=f'::r)(hp:v5.ps=st.ps)(hn:v5.n=st.n)(ho:VD f' m=VD f m):RH v5 ((i,m)::q) (h.set m (V7 f')):=by
 obtain⟨s0,s1,s2,fr,nd⟩:=R;rw[e]at fr;obtain⟨a,b,c⟩:=fr;have Z9:=nd;simp only[ix,adL,ac8,not_or]at Z9;refine⟨?_,?_,?_,?_,nd⟩
 .rw[bN ⋯,hn];exact s0
 .rw[bN ⋯,hp];exact s1
 .rw[bN ⋯];exact s2
 .rw[e'];refine⟨?_,lU b,c.set Z9.2.2.2.2.1⟩;rw[bN (fun z=>Z9.2.2.2.1.1 z.symm)];show h[i]? =some (VD f' m);rw[ho];exact a
end
def iI(r:Res PV)(v:PV)(p:Int):Option St->Prop
 |none=>∃h',r=.exc (.Wn 3 (.int p)) h'
 |some v5=>∃q' h',r=.ok v h'/\RH v5 q' h'
theorem OB(b:Y1):bP (.str b)=false:=rfl
theorem Mh(b:Y2):bP (.tup b)=false:=rfl
def AE(h:ij l=none):l= []\/∃b v s,l=b++ [.nd v s]:=by
 rcases aeb l with rfl|⟨b,z,rfl⟩
 .exact .inl rfl
 .rw[aec]at h |-
  cases z with
  |nd v s=>exact .inr ⟨b,v,s,rfl⟩
  |txt u=>rw[vv]at h;cases h
theorem uC(k:Nat)(R:RH st q h)(B:Bd n st)(hn:n<=100000)(c:Nat)(p:Int)(ne:st.fs≠ []):iI (X_ (k+3) .m6 [.ref 0,.str [c],.int p] h) .non p (O6 c st):=by
 show iI (bq (bM (F (k+2)) (X_ (k+2))) 3 4 [.ref 0,.str [c],.int p] h) .non p (O6 c st);obtain⟨d0,d1,d2,ob,f0,f1,f2,ln,lp,tp,il,ip⟩:=R.ra;have cn:=uo k R p;have rc:=R.cnt;have T:=R.top;have s2:=R.s2
 cases T with
 |no e=>exact absurd e ne
 |@yes f r i m q e a b cc nn n1 n2=>
  obtain⟨di,dm,ob1,g0,g1,g2,g3,tn,il1,tu⟩:=rA a b;have im:=mM s2 a;obtain⟨b1,b2,b3,b4⟩:=B f (by rw[e];exact ac4);have R':=R;obtain⟨fc,ns,yes,bt⟩:=f;unfold O6;rw[e];dsimp only at g0 g2 g3 tn b1 b2 b3 b4 |-
  cases bt with
  |some x=>
   have zl:x.length+1<=16777216:=by have:=b2 x rfl;lia
   have sf:∀ ρ,lV 608 3 (.str (x++ [c])) (.ref i) ρ h=.nx ρ (h.set i (VD ⟨fc,ns,yes,some (x++ [c])⟩ m)):=fun ρ=>sU a (ad6 _) ρ;dsimp only[Yq]at g3;refine⟨(i,m)::q,h.set i (VD ⟨fc,ns,yes,some (x++ [c])⟩ m),?_,R'.abv e rfl rfl rfl rfl⟩;simp[EV,bq,bM,d0,f1,im,di,g3,OB,zl,sf]
  |none=>
   dsimp only[Yq]at g3;dsimp only
   cases ql:ij ns with
   |some t=>
    obtain⟨l,rfl,e2⟩:=BQ ql;rw[e2];have bm:h[m]? =some (.lst (l.map Nd.pv++ [.tup [.str lL,.str t]])):=by rw[b];show some (PO.lst ((l++ [Nd.txt t]).map Nd.pv))=_;rw[adi];rfl
    have il2:b_ (.ref m) (.int (-1)) h=.ok (.tup [.str lL,.str t]) h:=by rw[Md bm (uz _ _)];rfl
    have e1:o9 (.str [116,101,120,116]) (.str [116,101,120,116]) h=.ok (.bl true) h:=ek _ _ _ rfl rfl rfl h;have zl:t.length+1<=16777216:=by have:=b3 t (afs _ ac4);lia
    have Z4:jl h (.ref m)=some true:=by rw[tn];cases l<;>rfl
    have sx:∀ ρ,gA (.tup [.str [116,101,120,116],.str (t++ [c])]) (.ref m) (.int (-1)) ρ h=.nx ρ (h.set m (V7 ⟨fc,l++ [.txt (t++ [c])],yes,none⟩)):=fun ρ=>by
     have ixn:WX (l.map Nd.pv++ [PV.tup [.str lL,.str t]]).length (-1)=some l.length:=by unfold WX;simp;lia
     rw[EC bm ixn];show SR.nx ρ (h.set m _)=SR.nx ρ (h.set m (PO.lst ((l++ [Nd.txt (t++ [c])]).map Nd.pv)));rw[adi,show l.length=(l.map Nd.pv).length by rw[ac2],aeZ _ _ (adK _),afj];rfl
    refine⟨(i,m)::q,h.set m (V7 ⟨fc,l++ [.txt (t++ [c])],yes,none⟩),?_,R'.Z6 e rfl rfl rfl rfl⟩;simp[EV,bq,bM,d0,f1,im,di,dm,g3,bW,g1,Z4,il2,lL,TX,at1,e1,zl,sx]
   |none=>
    have cond:∀hh:Y3,hh=h->(jl h (.ref m)=some false\/(jl h (.ref m)=some true/\∃k as,b_ (.ref m) (.int (-1)) h=.ok (.tup (.str k::as)) h/\o9 (.str k) (.str [116,101,120,116]) h=.ok (.bl false) h)):=fun hh _=>by
     rcases AE ql with rfl|⟨l,v,s,rfl⟩
     .exact .inl tn
     .obtain⟨kk,as,rfl,hk,hlt⟩:=b4 v s (afs _ ac4);refine .inr ⟨by rw[tn];cases l<;>rfl,kk,as,?_,?_⟩
      .have bm:h[m]? =some (.lst (l.map Nd.pv++ [.tup (.str kk::as)])):=by rw[b];show some (PO.lst ((l++ [Nd.nd _ s]).map Nd.pv))=_;rw[adi];rfl
       rw[Md bm (uz _ _)];rfl
      .rw[jD _ _ _ hlt (fA rfl),decide_eq_false hk]
    by_cases g:st.n<200/\st.fs.length<9
    .rw[if_pos g]at cn;dsimp only;rw[if_pos (by rw[<- e];exact g)];have rt:=rc.top;have n0:(0:Nat)≠i/\(0:Nat)≠m:=by simp only[adL,ac8,not_or]at nn;lia
     have a':(gG st h)[i]? =some (VD ⟨fc,ns,yes,none⟩ m):=by rw[bN n0.1];exact a
     have b':(gG st h)[m]? =some (V7 ⟨fc,ns,yes,none⟩):=by rw[bN n0.2];exact b
     obtain⟨Di,Dm,Ob1,G0,G1,G2,G3,Tn,Il1,Tu⟩:=rA a' b';have ap:=zM b' (by rw[ac2];exact ahW (adu b1 hn) ⋯) (.tup [.str [116,101,120,116],.str [c]]);refine⟨(i,m)::q,(gG st h).set m (V7 ⟨fc,ns++ [.txt [c]],yes,none⟩),?_,rc.Z6 e rfl rfl rfl rfl⟩
     have ap':bn (.ref m) [.tup [.str [116,101,120,116],.str [c]]] (gG st h)=.ok .non ((gG st h).set m (V7 ⟨fc,ns++ [.txt [c]],yes,none⟩)):=by rw[ap];show Res.ok PV.non ((gG st h).set m _)=Res.ok PV.non ((gG st h).set m (PO.lst ((ns++ [Nd.txt [c]]).map Nd.pv)));rw[adi];rfl
     generalize gG st h=hc at*;rcases cond h rfl with Z4|⟨Z4,kk,as,il2,e1⟩
     .simp[EV,bq,bM,d0,f1,im,di,dm,g3,bW,g1,Z4,ob,cn,Di,Dm,G1,Il1,ap']
     .simp[EV,bq,bM,d0,f1,im,di,dm,g3,bW,g1,Z4,il2,TX,e1,ob,cn,Di,Dm,G1,Il1,ap']
    .rw[if_neg g]at cn;dsimp only;rw[if_neg (by rw[<- e];exact g)];refine⟨gG st h,?_⟩;generalize gG st h=hc at*;rcases cond h rfl with Z4|⟨Z4,kk,as,il2,e1⟩
     .simp[EV,bq,bM,d0,f1,im,di,dm,g3,bW,g1,Z4,ob,cn]
     .simp[EV,bq,bM,d0,f1,im,di,dm,g3,bW,g1,Z4,il2,TX,e1,ob,cn]
def fR{l:Y3}{o:Z.PO}(e:h[i]? =some o):(h++l)[i]? =some o:=by rw[ady (ac9.mp e).1];exact e
def rU(h:Y3)(o o':Z.PO)(l:Y3):(h++o::l).set h.length o'=h++o'::l:=by rw[aeZ _ _ (adK _),afj];rfl
def jH(h:Y3)(o:Z.PO)(l:Y3):(h++o::l)[h.length]? =some o:=by rw[adI (adK _),afj];rfl
def wx{C j:Nat}{ps:Y2}(e:h[i]? =some (.obj C ps))(l:j=ps.length)(ρ:Z.Ev):lV C j v (.ref i) ρ h=.nx ρ (h.set i (.obj C (ps++ [v]))):=by unfold lV;rw[yN e];dsimp only;rw[if_neg ⋯,if_pos l]
def vj(k:Nat)(c:m8)(h:Y3):mkO 608 (X_ (k+1) .h_) [c.pv] h=.ok (.ref h.length) (h++ [VD (o7.new c) (h.length+1),V7 (o7.new c)]):=by
 have dc:=rB c
 have main:X_ (k+1) .h_ [.ref h.length,c.pv] (h++ [.obj 608 []])=.ok .non (h++ [VD (o7.new c) (h.length+1),V7 (o7.new c)]):=by show yk (gy (F k)) 2 2 [.ref h.length,c.pv] (h++ [.obj 608 []])=_;have d1:=zF (jH h (.obj 608 []) []);have s1:∀ ρ,lV 608 0 c.pv (.ref h.length) ρ (h++ [.obj 608 []])=.nx ρ (h++ [.obj 608 [c.pv]]):=fun ρ=>(wx (jH h _ _) rfl ρ).trans (by rw[rU];rfl);have d2:=zF (jH h (.obj 608 [c.pv]) [.lst []]);have s2:∀ ρ,lV 608 1 (.ref (h.length+1)) (.ref h.length) ρ (h++ [.obj 608 [c.pv],.lst []])=.nx ρ (h++ [.obj 608 [c.pv,.ref (h.length+1)],.lst []]):=fun ρ=>(wx (jH h _ _) rfl ρ).trans (by rw[rU];rfl);have d3:=zF (jH h (.obj 608 [c.pv,.ref (h.length+1)]) [.lst []]);have s3:∀ ρ,lV 608 2 .non (.ref h.length) ρ (h++ [.obj 608 [c.pv,.ref (h.length+1)],.lst []])=.nx ρ (h++ [.obj 608 [c.pv,.ref (h.length+1),.non],.lst []]):=fun ρ=>(wx (jH h _ _) rfl ρ).trans (by rw[rU];rfl);have d4:=zF (jH h (.obj 608 [c.pv,.ref (h.length+1),.non]) [.lst []]);have s4:∀ ρ,lV 608 3 .non (.ref h.length) ρ (h++ [.obj 608 [c.pv,.ref (h.length+1),.non],.lst []])=.nx ρ (h++ [VD (o7.new c) (h.length+1),V7 (o7.new c)]):=fun ρ=>(wx (jH h _ _) rfl ρ).trans (by rw[rU];rfl);unfold yk gy;simp[EV,ade,acZ,dc,d1,s1,d2,s2,d3,s3,d4,s4]
 unfold mkO;rw[main]
abbrev NK(c:m8)(q:List (Nat×Nat))(h:Y3):Y3:=(h++ [VD (o7.new c) (h.length+1),V7 (o7.new c)]).set 2 (Yb ((h.length,h.length+1)::q))
def RH.push(R:RH st q h){c:m8}(e:v5.fs=o7.new c::st.fs)(hp:v5.ps=st.ps)(hn:v5.n=st.n):RH v5 ((h.length,h.length+1)::q) (NK c q h):=by
 have l2:2<h.length:=(ac9.mp R.s2).1;have nd:=R.nd;have lt:=R.fr.lt;refine⟨?_,?_,lU (fR R.s2),?_,?_⟩
 .rw[bN ⋯,hn];exact fR R.s0
 .rw[bN ⋯,hp];exact fR R.s1
 .rw[e];refine⟨?_,?_,R.fr.app.set ?_⟩
  .rw[bN ⋯];exact jH h _ _
  .rw[bN ⋯,adI ⋯,Nat.add_sub_cancel_left];rfl
  .simp only[adL,ac8,not_or]at nd;exact nd.2.2.1
 .have n1:h.length∉ix q:=fun z=>absurd (lt _ z) (adR _);have n2:h.length+1∉ix q:=fun z=>absurd (lt _ z) ⋯;simp only[ix,adL,ac8,not_or]at nd |-;obtain⟨⟨a1,a2,a3⟩,⟨b1,b2⟩,c1,d1⟩:=nd;exact⟨⟨a1,a2,by lia,by lia,a3⟩,⟨b1,by lia,by lia,b2⟩,⟨by lia,by lia,c1⟩,⟨by lia,n1⟩,n2,d1⟩
def BC(R:RH st q h)(hl:st.fs.length<=9)(c:m8):bn (.ref 2) [.ref h.length] (h++ [VD (o7.new c) (h.length+1),V7 (o7.new c)])=.ok .non (NK c q h):=by rw[zM (fR R.s2) (by rw[ac2,ahK,R.fr.len];lia)];show Res.ok PV.non (List.set _ 2 _)=Res.ok PV.non (List.set _ 2 (PO.lst (((h.length,h.length+1)::q).reverse.map fun p=>PV.ref p.1)));rw[agR,adi];rfl
def CM(k:Nat)(R:RH st q h)(B:Bd n st)(hn:n<=100000)(c:Nat)(p:Int):iI (X_ (k+4) .j6 [.ref 0,.str [c],.int p] h) .non p (gj (.sg c) st):=by
 show iI (bq (cZ (F (k+3)) (X_ (k+3)) (Nat.ble 2 (dl (k+2+1)))) 3 3 [.ref 0,.str [c],.int p] h) .non p (gj (.sg c) st);have io:X_ (k+3) .d9 [.ref 0] h=_:=pA (k+2) R.ra;obtain⟨d0,d1,d2,ob,f0,f1,f2,ln,lp,tp,il,ip⟩:=R.ra;rw[ya]
 by_cases e:st.fs= []
 .rw[if_pos e];rw[e]at io
  have bl:tZ [c] [32,10]=decide (c=32\/c=10):=by rw[qw,aei];simp
  by_cases q2:c=32\/c=10
  .rw[decide_eq_true q2]at bl;rw[if_pos q2];refine⟨q,h,?_,R⟩;simp[EV,bq,cZ,d0,ob,io,adR,bl]
  .rw[decide_eq_false q2]at bl;rw[if_neg q2];refine⟨h,?_⟩;simp[EV,bq,cZ,d0,ob,io,adR,bl,WR,bE]
 .rw[if_neg e];rw[decide_eq_true (ad9.mpr e)]at io;have ad:=uC k R B hn c p e
  cases qa:O6 c st with
  |none=>rw[qa]at ad;obtain⟨h',ad⟩:=ad;refine⟨h',?_⟩;simp[EV,bq,cZ,d0,ob,io,ad]
  |some v5=>rw[qa]at ad;obtain⟨q',h',ad,R'⟩:=ad;refine⟨q',h',?_,R'⟩;simp[EV,bq,cZ,d0,ob,io,ad]
def zX(k:Nat)(R:RH st q h)(W:Wf st){m:Option Nat}(few:(m8.piece a ns m).few=true)(p:Int):iI (X_ (k+2) .i_ [.ref 0,(m8.piece a ns m).pv,.int p] h) .non p (cg (.piece a ns m) st):=by
 show iI (bq (dC (F (k+1)) (X_ (k+1)) (Nat.ble 2 (dl (k+1)))) 3 3 [.ref 0,(m8.piece a ns m).pv,.int p] h) .non p (cg (.piece a ns m) st);have io:X_ (k+1) .d9 [.ref 0] h=_:=pA k R.ra;obtain⟨d0,d1,d2,ob,f0,f1,f2,ln,lp,tp,il,ip⟩:=R.ra;unfold cg;rw[if_pos few];dsimp only;have dc:=rB (.piece a ns m)
 have e8:o9 (.int (st.ps.length:Nat)) (.int 8) h=.ok (.bl (decide (st.ps.length=8))) h:=by rw[Fr];congr 2;exact decide_eq_decide.mpr ⋯
 generalize hc:m8.piece a ns m=c at*
 by_cases e:st.fs= []
 .have l8:=W.lp;unfold Zx at l8;rw[if_pos e]at l8;rw[e]at io
  by_cases q2:st.ps.length<8
  .rw[if_pos ⟨e,q2⟩];rw[decide_eq_false ⋯]at e8;have mk:=vj k c h;have ap:=BC R (by rw[e];decide) c;have hl2:=BV (fR (l:=[VD (o7.new c) (h.length+1),V7 (o7.new c)]) R.s2);have d2':=xx (fR (l:=[VD (o7.new c) (h.length+1),V7 (o7.new c)]) R.s2);refine⟨_,_,?_,R.push (c:=c) (by rw[e]) rfl rfl⟩;simp[EV,bq,dC,d0,ob,io,adR,f0,lp,e8,f1,il,dc,mk,ap]
  .rw[if_neg fun z=>q2 z.2];rw[decide_eq_true ⋯]at e8;refine⟨h,?_⟩;simp[EV,bq,dC,d0,ob,io,adR,f0,lp,e8,WR,bE]
 .rw[if_neg fun z=>e z.1];rw[decide_eq_true (ad9.mpr e)]at io;refine⟨h,?_⟩;simp[EV,bq,dC,d0,ob,io,WR,bE]
theorem NJ(bt:Option Y1)(h:Y3)(z:∀b,bt=some b->b.length<=16777216):∃b,jl h (Yq bt)=some b/\(if b=true then Res.ok (Yq bt) h else .ok (.str []) h)=.ok (.str (bt.getD [])) h:=by
 cases bt with
 |none=>exact⟨false,rfl,rfl⟩
 |some x=>
  have zx:=z x rfl;refine⟨!x.isEmpty,?_,?_⟩
  .show(if x.length<=16777216 then some (!x.isEmpty)else none)=_;rw[if_pos zx]
  .cases x<;>rfl
def LX(f g:Ex)(ρ:Z.Ev)(h h1:Y3)(p:PV)(b:Bool)(e:f ρ h=.ok p h1)(t:jl h1 p=some b):Jz f g ρ h=if b=true then .ok p h1 else g ρ h1:=by unfold Jz;rw[e];show(match jl h1 p with|some b=>_|none=>_)=_;rw[t]
theorem fX(p:Ya)(h:Y3):aj h (aR p)=aR p:=rfl
theorem GC(k:Nat)(A:FA f i m h)(o:f.c.opens=true)(z:∀b,f.bt=some b->b.length<=16777216)(ys:f.yes.isSome=true->∃p,f.c=.cond p):X_ (k+1) .j_ [.ref i] h=.ok f.fin.pv h:=by
 show bq (bS (F k)) 1 3 [.ref i] h=_;obtain⟨di,dm,ob1,g0,g1,g2,g3,tn,il1,tu⟩:=A;obtain⟨c,ns,yes,bt⟩:=f;dsimp only at g0 g2 g3 tu z ys
 cases c with
 |loop n p=>obtain⟨b,t1,t2⟩:=NJ bt h z;have ot:=fun ρ v2=>LX (c1 (bZ 608 3) (ag 0)) aaq [some (.ref i),ρ,v2] h h (Yq bt) b (by simp[EV,di,g3]) t1;simp[EV,if_true]at ot;simp only[t2]at ot;simp[EX,bq,bS,di,g0,g1,g3,tu,ot,fX,bB];rfl
 |cond p=>
  cases yes with
  |none=>simp[EX,bq,bS,di,g0,g1,g2,tu,DZ,bW,fX,bB];rfl
  |some y=>simp[EX,bq,bS,di,g0,g1,g2,tu,DZ,Mh,fX,bB];rfl
 |piece a l mm=>simp[EX,bq,bS,di,g0,g1,tu,ak,fX,bB];rfl
 |use a ps l=>simp[EX,bq,bS,di,g0,g1,tu,ak,fX,bB];rfl
 |_=>cases o
section
variable{r:List o7}
def RH.pop(R:RH st ((i,m)::q) h)(e:st.fs=f::r):RH { st with fs:=r } q (h.set 2 (Yb q)):=by
 obtain⟨s0,s1,s2,fr,nd⟩:=R;rw[e]at fr;obtain⟨a,b,c⟩:=fr;simp only[ix,adL,ac8,not_or]at nd;obtain⟨⟨b1,b2,_,_,a0⟩,⟨b3,_,_,a1⟩,⟨_,_,a2⟩,⟨_,a3⟩,a4,a5⟩:=nd;refine⟨?_,?_,lU s2,c.set a2,?_⟩
 .rw[bN ⋯];exact s0
 .rw[bN ⋯];exact s1
 .simp only[adL,ac8,not_or];exact⟨⟨b1,b2,a0⟩,⟨b3,a1⟩,a2,a5⟩
def RH.piece(R:RH st [] h){d:Nd}(e:st.fs= [])(e':v5.fs= [])(hp:v5.ps=st.ps++ [d])(hn:v5.n=st.n):RH v5 [] (h.set 1 (.lst (st.ps.map Nd.pv++ [d.pv]))):=by
 obtain⟨s0,s1,s2,fr,nd⟩:=R;refine⟨?_,?_,?_,?_,nd⟩
 .rw[bN ⋯,hn];exact s0
 .rw[lU s1,hp,adi];rfl
 .rw[bN ⋯];exact s2
 .rw[e'];exact trivial
end
def Lw(i m m':Nat)(q:List (Nat×Nat)):Yb ((i,m)::q)=Yb ((i,m')::q):=by unfold Yb;simp
theorem xW(k:Nat)(R:RH st q h)(W:Wf st)(B:Bd n st)(hn:n<=100000)(p:Int)(ne:st.fs≠ []):iI (X_ (k+2) .k_ [.ref 0] h) .non p (cg .fin st):=by
 show iI (bq (fF (F (k+1)) (X_ (k+1))) 1 2 [.ref 0] h) .non p (cg .fin st);obtain⟨d0,d1,d2,ob,f0,f1,f2,ln,lp,tp,il,ip⟩:=R.ra;have T:=R.top;have R0:=R
 cases T with
 |no e=>exact absurd e ne
 |@yes f r i m q e a b cc nn n1 n2=>
  have n2':(2:Nat)≠i/\(2:Nat)≠m:=by simp only[adL,ac8,not_or]at nn;lia
  have s2:=R.s2;unfold Yb at s2;rw[agR,adi,ac5,adT]at s2;have pp:=NH s2;have R1:=R0.pop e;have a1:(h.set 2 (Yb q))[i]? =some (VD f m):=by rw[bN n2'.1];exact a
  have b1:(h.set 2 (Yb q))[m]? =some (V7 f):=by rw[bN n2'.2];exact b
  have hf:f∈st.fs:=by rw[e];exact ac4
  have FAf:=rA a1 b1;have fn:=GC k FAf (W.kd f hf) (fun x hx=>by have:=(B f hf).bl x hx;lia) (W.ys f hf);have io:X_ (k+1) .d9 [.ref 0] (h.set 2 (Yb q))=_:=pA k R1.ra;dsimp only at io;have ob1:=FAf.ob
  replace pp:vd (.ref 2) [] h=.ok (.ref i) (h.set 2 (Yb q)):=pp
  obtain⟨D0,D1,D2,Ob,F0,F1,F2,Ln,Lp,Tp,Il,Ip⟩:=R1.ra;have Rs1:=R1.s1;have Rs2:=R1.s2;dsimp only at Rs1
  have dfv:∀hh,aj hh f.fin.pv=f.fin.pv:=fun hh=>by
   obtain⟨c,ns,yes,bt⟩:=f
   cases c with
   |cond p=>cases yes<;>rfl
   |_=>rfl
  generalize h.set 2 (Yb q)=g at*;unfold cg;rw[if_pos (show m8.fin.few=true from rfl),e]
  cases r with
  |nil=>
   cases q with
   |cons _ _=>exact cc.elim
   |nil=>have ap:=zM Rs1 (by rw[ac2];have:=W.lp;unfold Zx at this;lia) f.fin.pv;refine⟨[],_,?_,R1.piece (d:=f.fin) rfl rfl rfl rfl⟩;simp only[adh,adR,decide_false]at io;simp[EV,bq,fF,cM0,d0,f1,il,pp,ob1,fn,D0,Ob,io,F0,Ip,dfv,ap]
  |cons gg r=>
   cases q with
   |nil=>exact cc.elim
   |cons p2 q=>
    obtain⟨i2,m2⟩:=p2;have fr1:=R1.fr;obtain⟨a2,b2,_⟩:=fr1;have hg:gg∈st.fs:=by rw[e];exact ac1 _ ac4
    obtain⟨di,dm,ob2,g0,g1,g2,g3,tn,il1,tu⟩:=rA a2 b2;have im:=mM Rs2 a2
    have ap:bn (.ref m2) [f.fin.pv] g=.ok .non (g.set m2 (V7 (gg.put f.fin))):=by rw[zM b2 (by rw[ac2];have:=(B gg hg).nn;lia)];show Res.ok PV.non (g.set m2 _)=Res.ok PV.non (g.set m2 (PO.lst ((gg.ns++ [f.fin]).map Nd.pv)));rw[adi];rfl
    refine⟨(i2,m2)::q,g.set m2 (V7 (gg.put f.fin)),?_,R1.Z6 rfl rfl rfl rfl rfl⟩;rw[decide_eq_true (by simp)]at io;simp[EV,bq,fF,cM0,d0,f1,il,pp,ob1,fn,D0,Ob,io,F1,im,g1,il1,dfv,ap]
def Oc(c:m8)(h:Y3):Vs (.str c.kind) (.str [105,102]) h=.ok (.bl (!decide (c.kind=T4))) h:=lZ _ _ _ (kL c) (fA rfl)
def LK(c:m8)(h:Y3):Vs (.str c.kind) (.str [102,111,114]) h=.ok (.bl (!decide (c.kind=fN))) h:=lZ _ _ _ (kL c) (fA rfl)
def IW(y:Option (List Nd)):bP (DZ y)=y.isNone:=by cases y<;>rfl
def Gm(y:Option Y1):bP (Yq y)=y.isNone:=by cases y<;>rfl
def MB{r:List o7}(e:st.fs=f::r):cg .els st=if f.c.kind=T4/\f.yes=none then some { st with fs:={ f with yes:=some f.ns,ns:=[] }::r }else none:=by unfold cg;rw[if_pos (show m8.els.few=true from rfl),e]
def MJ{r:List o7}(e:st.fs=f::r):cg .Ul st=if f.c.kind=fN/\f.bt=none then some { st with fs:={ f with bt:=some [] }::r }else none:=by unfold cg;rw[if_pos (show m8.Ul.few=true from rfl),e]
def IV{o:Option α}:o=none↔o.isNone=true:=by cases o<;>simp
theorem CO(k:Nat)(R:RH st q h)(p:Int)(ne:st.fs≠ []):iI (X_ (k+2) .j7 [.ref 0,.int p] h) .non p (cg .els st):=by
 show iI (bq (dM (F (k+1)) (Nat.ble 2 (dl (k+1)))) 2 3 [.ref 0,.int p] h) .non p (cg .els st);obtain⟨d0,d1,d2,ob,f0,f1,f2,ln,lp,tp,il,ip⟩:=R.ra;have T:=R.top;have R0:=R;have s2:=R.s2
 cases T with
 |no e=>exact absurd e ne
 |@yes f r i m q e a b cc nn n1 n2=>
  obtain⟨di,dm,ob1,g0,g1,g2,g3,tn,il1,tu⟩:=rA a b;have im:=mM s2 a;have k0:=Fi f.c;have nk:=Oc f.c;have dc:=rB f.c;have iy:=IW f.yes;rw[MB e]
  by_cases q1:f.c.kind=T4
  .rw[decide_eq_true q1]at nk
   by_cases q2:f.yes.isNone=true
   .rw[if_pos ⟨q1,IV.mpr q2⟩];rw[q2]at iy;have sf:∀ ρ,lV 608 2 (M7 f.ns) (.ref i) ρ h=.nx ρ (h.set i (.obj 608 [f.c.pv,.ref m,M7 f.ns,Yq f.bt])):=fun ρ=>sU a (by simp) ρ;have hi:(h.set i (PO.obj 608 [f.c.pv,.ref m,M7 f.ns,Yq f.bt]))[i]? =some (.obj 608 [f.c.pv,.ref m,M7 f.ns,Yq f.bt]):=lU a;have di':=zF (fR (l:=[PO.lst []]) hi)
    have sf2:∀ ρ,lV 608 1 (.ref (h.set i (PO.obj 608 [f.c.pv,.ref m,M7 f.ns,Yq f.bt])).length) (.ref i) ρ (h.set i (PO.obj 608 [f.c.pv,.ref m,M7 f.ns,Yq f.bt])++[PO.lst []])=.nx ρ ((h++ [PO.lst []]).set i (VD { f with yes:=some f.ns,ns:=[] } h.length)):=fun ρ=>by rw[sU (fR hi) (by simp) ρ,ahk];have hl:i<h.length:=(ac9.mp a).1;rw[<- List.set_append_left _ _ hl,List.set_set];rfl
    refine⟨(i,h.length)::q,(h++ [PO.lst []]).set i (VD { f with yes:=some f.ns,ns:=[] } h.length),?_,?_⟩
    .simp[EV,bq,dM,d0,f1,im,di,g0,k0,dc,nk,g2,iy,g1,tu,sf,sf2,di']
    .obtain⟨t0,t1,t2,fr,nd⟩:=R0;have lt:=fr.lt;rw[e]at fr;obtain⟨x1,x2,x3⟩:=fr;have l2:2<h.length:=(ac9.mp t2).1;have li:i<h.length:=(ac9.mp a).1;have ltq:h.length∉ix q:=fun z=>absurd (x3.lt _ z) (adR _);simp only[ix,adL,ac8,not_or]at nd;obtain⟨⟨b1,b2,b4,_,a0⟩,⟨b3,b5,_,a1⟩,⟨b6,_,a2⟩,⟨_,a3⟩,a4,a5⟩:=nd;refine⟨?_,?_,?_,⟨?_,?_,x3.app.set a3⟩,?_⟩
     .rw[bN (fun z=>b4 z.symm)];exact fR t0
     .rw[bN (fun z=>b5 z.symm)];exact fR t1
     .rw[bN (fun z=>b6 z.symm),Lw i h.length m q];exact fR t2
     .exact lU (fR a)
     .rw[bN ⋯];exact jH h _ _
     .simp only[ix,adL,ac8,not_or];exact⟨⟨b1,b2,b4,by lia,a0⟩,⟨b3,b5,by lia,a1⟩,⟨b6,by lia,a2⟩,⟨by lia,a3⟩,ltq,a5⟩
   .rw[if_neg fun z=>q2 (IV.mp z.2)];rw[afH]at q2;rw[q2]at iy;refine⟨h,?_⟩;simp[EV,bq,dM,d0,f1,im,di,g0,k0,dc,nk,g2,iy,WR,bE]
  .rw[decide_eq_false q1]at nk;rw[if_neg fun z=>q1 z.1];refine⟨h,?_⟩;simp[EV,bq,dM,d0,f1,im,di,g0,k0,dc,nk,WR,bE]
theorem wj(k:Nat)(R:RH st q h)(p:Int)(ne:st.fs≠ []):iI (X_ (k+2) .g_ [.ref 0,.int p] h) .non p (cg .Ul st):=by
 show iI (bq (cT (F (k+1)) (Nat.ble 2 (dl (k+1)))) 2 3 [.ref 0,.int p] h) .non p (cg .Ul st);obtain⟨d0,d1,d2,ob,f0,f1,f2,ln,lp,tp,il,ip⟩:=R.ra;have T:=R.top;have R0:=R;have s2:=R.s2
 cases T with
 |no e=>exact absurd e ne
 |@yes f r i m q e a b cc nn n1 n2=>
  obtain⟨di,dm,ob1,g0,g1,g2,g3,tn,il1,tu⟩:=rA a b;have im:=mM s2 a;have k0:=Fi f.c;have nk:=LK f.c;have dc:=rB f.c;have ib:=Gm f.bt;rw[MJ e]
  by_cases q1:f.c.kind=fN
  .rw[decide_eq_true q1]at nk
   by_cases q2:f.bt.isNone=true
   .rw[if_pos ⟨q1,IV.mpr q2⟩];rw[q2]at ib;have sf:∀ ρ,lV 608 3 (.str []) (.ref i) ρ h=.nx ρ (h.set i (VD { f with bt:=some [] } m)):=fun ρ=>sU a (ad6 _) ρ;refine⟨(i,m)::q,h.set i (VD { f with bt:=some [] } m),?_,R0.abv e rfl rfl rfl rfl⟩;simp[EV,bq,cT,d0,f1,im,di,g0,k0,dc,nk,g3,ib,sf]
   .rw[if_neg fun z=>q2 (IV.mp z.2)];rw[afH]at q2;rw[q2]at ib;refine⟨h,?_⟩;simp[EV,bq,cT,d0,f1,im,di,g0,k0,dc,nk,g3,ib,WR,bE]
  .rw[decide_eq_false q1]at nk;rw[if_neg fun z=>q1 z.1];refine⟨h,?_⟩;simp[EV,bq,cT,d0,f1,im,di,g0,k0,dc,nk,WR,bE]
noncomputable def m8.fi:m8->Bool
 |.loop _ _=>true|.cond _=>true
 |_=>false
def OD(c:m8)(h:Y3):Wx (.str c.kind) (.tup [.str [102,111,114],.str [105,102]]) h=.ok (.bl c.fi) h:=by cases c<;>exact ik _ [[102,111,114],[105,102]] _ rfl rfl rfl h
def OX(c:m8)(w:Y1)(hw:Lt w)(h:Y3):o9 (.str c.kind) (.str w) h=.ok (.bl (decide (c.kind=w))) h:=jD _ _ _ (kL c) hw
def JC(c:m8)(h:Y3):ak c.pv (.tup [.non]) h=.ok (.tup (.str c.kind::c.args++ [.non])) h:=by
 have:c.args.length<=3:=by cases c<;>simp[m8.args]
 show(if(PV.str c.kind::c.args).isEmpty=false/\(PV.str c.kind::c.args).length+ [PV.non].length<=16777216 then _ else _)=_;rw[if_pos ⟨rfl,by simp;lia⟩]
theorem CN(k:Nat)(R:RH st q h)(B:Bd n st)(hn:n<=100000)(W:Wf st){c:m8}(cn:c.node=true)(p:Int)(ne:st.fs≠ []):iI (X_ (k+3) .j9 [.ref 0,c.pv,.int p] h) .non p (match st.fs with|[]=>none|f::r=>mY c f r st):=by
 show iI (bq (aX (F (k+2)) (X_ (k+2)) (Nat.ble 2 (dl (k+1+1)))) 3 3 [.ref 0,c.pv,.int p] h) .non p _;obtain⟨d0,d1,d2,ob,f0,f1,f2,ln,lp,tp,il,ip⟩:=R.ra;have ct:=uo k R p;have rc:=R.cnt;have T:=R.top;have s2:=R.s2;have k0:=Fi c;have dc:=rB c;have fi:=OD c;have eu:=OX c [117,115,101] (fA rfl)
 cases T with
 |no e=>exact absurd e ne
 |@yes f r i m q e a b cc nn n1 n2=>
  obtain⟨di,dm,ob1,g0,g1,g2,g3,tn,il1,tu⟩:=rA a b;have im:=mM s2 a;have ib:=Gm f.bt;have Bf:=B f (by rw[e];exact ac4);rw[e];dsimp only;unfold mY
  by_cases q1:f.bt.isNone=true
  .rw[q1]at ib
   by_cases g:st.n<200/\st.fs.length<9
   .rw[if_pos g]at ct;rw[if_pos ⟨q1,g.1,g.2⟩];have n0:(0:Nat)≠i/\(0:Nat)≠m:=by simp only[adL,ac8,not_or]at nn;lia
    have a':(gG st h)[i]? =some (VD f m):=by rw[bN n0.1];exact a
    have b':(gG st h)[m]? =some (V7 f):=by rw[bN n0.2];exact b
    obtain⟨Di,Dm,Ob1,G0,G1,G2,G3,Tn,Il1,Tu⟩:=rA a' b';have Im:=mM rc.s2 a';obtain⟨D0,D1,D2,Ob,F0,F1,F2,Ln,Lp,Tp,Il,Ip⟩:=rc.ra
    have WT:(c.fi=true\/(c.fi=false/\c.kind=bV/\∃l,∀hh,b_ c.pv (.int 3) hh=.ok (bB (some l)) hh))->iI (bq (aX (F (k+2)) (X_ (k+2)) (Nat.ble 2 (dl (k+1+1)))) 3 3 [.ref 0,c.pv,.int p] h) .non p (some { st with n:=st.n+1,fs:=o7.new c::st.fs }):=fun hc=>by
     have mk:=vj (k+1) c (gG st h);have ap:=BC rc (agA g.2) c;refine⟨_,_,?_,rc.push (c:=c) rfl rfl rfl⟩;generalize gG st h=gg at*;rcases hc with fc|⟨fc,uc,l,ic⟩
     .rw[fc]at fi;simp[EV,bq,aX,d0,f1,im,di,g3,ib,ob,ct,dc,k0,fi,D0,F1,Il,mk,ap]
     .rw[fc]at fi;rw[decide_eq_true uc]at eu;simp[EV,bq,aX,d0,f1,im,di,g3,ib,ob,ct,dc,k0,fi,eu,ic,eN,bB,D0,F1,Il,mk,ap]
    have cal:∀v s,c.fi=false->(c.kind=bV/\v=.tup (.str c.kind::c.args++ [.non])/\(∀hh,b_ c.pv (.int 3) hh=.ok .non hh)\/c.kind≠bV/\v=c.pv)->iI (bq (aX (F (k+2)) (X_ (k+2)) (Nat.ble 2 (dl (k+1+1)))) 3 3 [.ref 0,c.pv,.int p] h) .non p (some { st with n:=st.n+1,fs:=f.put (.nd v s)::r }):=fun v s fc hc=>by
     rw[fc]at fi
     have ap:bn (.ref m) [v] (gG st h)=.ok .non ((gG st h).set m (V7 (f.put (.nd v s)))):=by rw[zM b' (by rw[ac2];exact ahW (adu Bf.nn hn) ⋯)];show Res.ok PV.non ((gG st h).set m _)=Res.ok PV.non ((gG st h).set m (PO.lst ((f.ns++ [Nd.nd v s]).map Nd.pv)));rw[adi];rfl
     refine⟨(i,m)::q,(gG st h).set m (V7 (f.put (.nd v s))),?_,rc.Z6 e rfl rfl rfl rfl⟩;generalize gG st h=gg at*;rcases hc with⟨uc,rfl,ic⟩|⟨uc,rfl⟩
     .rw[decide_eq_true uc]at eu;have an:=JC c;simp[EV,bq,aX,d0,f1,im,di,g3,ib,ob,ct,dc,k0,fi,eu,ic,bW,D0,F1,Im,G1,Il1,an]at ap |-;simp[EV,ap]
     .rw[decide_eq_false uc]at eu;simp[EV,bq,aX,d0,f1,im,di,g3,ib,ob,ct,dc,k0,fi,eu,D0,F1,Im,G1,Il1,ap]
    cases c with
    |place p w=>exact cal _ _ rfl (.inr ⟨(by intro z;cases z),rfl⟩)
    |loop n p=>exact WT (.inl rfl)
    |cond p=>exact WT (.inl rfl)
    |use a ps ns=>
     cases ns with
     |none=>exact cal _ _ rfl (.inl ⟨rfl,rfl,fun hh=>rfl⟩)
     |some l=>exact WT (.inr ⟨rfl,rfl,l,fun hh=>rfl⟩)
    |body ps=>exact cal _ _ rfl (.inr ⟨(by intro z;cases z),rfl⟩)
    |_=>cases cn
   .rw[if_neg g]at ct;rw[if_neg fun z=>g ⟨z.2.1,z.2.2⟩];refine⟨gG st h,?_⟩;generalize gG st h=gg at*;simp[EV,bq,aX,d0,f1,im,di,g3,ib,ob,ct]
  .rw[if_neg fun z=>q1 z.1];rw[afH]at q1;rw[q1]at ib;refine⟨h,?_⟩;simp[EV,bq,aX,d0,f1,im,di,g3,ib,WR,bE]
theorem G_(k:Nat){c:m8}(z:c.Sz):F (k+1) .G_ [c.pv]=.ok (.bl (!c.few)):=by
 show av (dH (F k)) 1 2 [c.pv]=_
 have g4:∀n:Nat,decide ((n:Int)>4)=!decide (n<=4):=fun n=>by rw[show decide ((n:Int)>4)=decide (4<n)from vo (n:=4),<- decide_not];exact decide_eq_decide.mpr ⋯
 have g3:∀n:Nat,decide ((n:Int)>3)=!decide (n<=3):=fun n=>by rw[show decide ((n:Int)>3)=decide (3<n)from vo (n:=3),<- decide_not];exact decide_eq_decide.mpr ⋯
 cases c with
 |piece a ns m=>have z:ns.length<=16777216:=z;simp[EX,av,dH,m8.few,bB,ac2,z,g4,aK]
 |body ps=>have z:ps.length<=16777216:=z;simp[EX,av,dH,m8.few,ac2,z,g3,aK]
 |use a ps ns=>
  have z1:ps.length<=16777216:=z.1
  cases ns with
  |none=>by_cases q:ps.length<=4<;>simp[EX,av,dH,m8.few,bB,ac2,z1,g4,q,decide_true,decide_false,aK]
  |some l=>
   have z2:l.length<=16777216:=z.2 l rfl
   by_cases q:ps.length<=4<;>simp[EX,av,dH,m8.few,bB,ac2,z1,z2,g4,g3,q,decide_true,decide_false,aK]
 |_=>simp[EX,av,dH,m8.few,aK]
theorem RD(h:Y3):b_ gw (.str [111,112,101,110]) h=.ok (.str [123]) h:=rfl
theorem RJ(h:Y3):b_ gw (.str [99,108,111,115,101]) h=.ok (.str [125]) h:=rfl
theorem vE(h:Y3):aj h gw=gw:=rfl
noncomputable def rE':Res PV->Res PV
 |.ok _ h=>.ok .non h
 |r=>r
theorem Qe{r:Res PV}{p:Int}{o:Option St}(t:iI r .non p o):iI (rE' r) .non p o:=by
 cases o with
 |none=>obtain⟨h',rfl⟩:=t;exact⟨h',rfl⟩
 |some v5=>obtain⟨q',h',rfl,R'⟩:=t;exact⟨q',h',rfl,R'⟩
def AN(ρ:Z.Ev)(r:Res PV):fE (kDr ρ r)=rE' r:=by cases r<;>rfl
def sX{X r:Res PV}{p:Int}{o:Option St}(e:X=rE' r)(t:iI r .non p o):iI X .non p o:=e▸Qe t
def wh(k:Nat)(R:RH st q h)(B:Bd n st)(hn:n<=100000)(W:Wf st){c:m8}(few:c.few=true)(p:Int):iI (X_ (k+4) .d8 [.ref 0,c.pv,.int p] h) .non p (cg c st):=by
 have io:X_ (k+3) .d9 [.ref 0] h=_:=pA (k+2) R.ra;obtain⟨d0,d1,d2,ob,f0,f1,f2,ln,lp,tp,il,ip⟩:=R.ra;have dc:=rB c;have k0:=Fi c;have X0:X_ (k+4) .d8 [.ref 0,c.pv,.int p] h=fE (dO (F (k+3)) (X_ (k+3)) (Nat.ble 2 (dl (k+2+1))) [some (.ref 0),some c.pv,some (.int p),none] h):=HC (f:=dO (F (k+3)) (X_ (k+3)) (Nat.ble 2 (dl (k+2+1)))) (np:=3) (n:=4) (ps:=[.ref 0,c.pv,.int p]) (h:=h) rfl;rw[X0];unfold dO;rw[Nr (ρ1:=[some (.ref 0),some c.pv,some (.int p),some (.str c.kind)]) (h1:=h) (by simp[EV,dc,k0])]
 by_cases pc:∃a ns m,c=.piece a ns m
 .obtain⟨a,ns,m,rfl⟩:=pc;have e1:∀h,o9 (.str (m8.piece a ns m).kind) (.str [112,105,101,99,101]) h=.ok (.bl true) h:=fun h=>ek _ _ _ rfl rfl rfl h;refine sX (r:=X_ (k+3) .i_ [.ref 0,(m8.piece a ns m).pv,.int p] h) ?_ (zX (k+1) R W few p);generalize m8.piece a ns m=c at*;simp[EV,d0,dc,e1,ob,AN]
 .have e1:=OX c [112,105,101,99,101] (fA rfl);rw[decide_eq_false (by intro z;cases c<;>first|exact pc ⟨_,_,_,rfl⟩|cases z)]at e1
  by_cases e:st.fs= []
  .rw[e]at io
   have sn:cg c st=none:=by
    unfold cg;rw[if_pos few]
    cases c<;>first|exact absurd ⟨_,_,_,rfl⟩ pc|(unfold O6;rw[e])|rw[e]
   rw[sn];refine⟨h,?_⟩;simp[EV,fE,d0,e1,ob,io,adh,adR,WR,bE]
  .rw[decide_eq_true (ad9.mpr e)]at io
   by_cases cn:c.node=true
   .have ib:∀hh,Wx (.str c.kind) gw hh=.ok (.bl false) hh:=fun hh=>by cases c<;>first|exact(inD mP _ hh).trans rfl|cases cn
    have e2:=Au cn (w:=[101,110,100]) rfl rfl;have e3:=Au cn (w:=[101,108,115,101]) rfl rfl;have e4:=Au cn (w:=[98,101,116,119,101,101,110]) rfl rfl
    have es:cg c st=(match st.fs with|[]=>none|f::r=>mY c f r st):=by
     unfold cg
     cases c<;>first|(cases cn;done)|exact if_pos few
    rw[es];refine sX ?_ (CN k R B hn W cn p e);simp[EV,d0,dc,e1,ob,io,vE,ib,e2,e3,e4,AN]
   cases c with
   |piece a ns m=>exact absurd ⟨_,_,_,rfl⟩ pc
   |WT=>refine sX (o:=O6 123 st) ?_ (uC k R B hn 123 p e);simp[EX,d0,ob,io,vE,RD,AN]
   |cls=>refine sX (o:=O6 125 st) ?_ (uC k R B hn 125 p e);simp[EX,d0,ob,io,vE,RJ,AN]
   |fin=>refine sX (r:=X_ (k+3) .k_ [.ref 0] h) ?_ (xW (k+1) R W B hn p e);simp[EX,d0,ob,io,vE,AN]
   |els=>refine sX (r:=X_ (k+3) .j7 [.ref 0,.int p] h) ?_ (CO (k+1) R p e);simp[EX,d0,ob,io,vE,AN]
   |Ul=>refine sX (r:=X_ (k+3) .g_ [.ref 0,.int p] h) ?_ (wj (k+1) R p e);simp[EX,d0,ob,io,vE,AN]
   |_=>exact absurd rfl cn
theorem B_(k:Nat)(R:RH st q h)(B:Bd n st)(hn:n<=100000)(W:Wf st){r:Y1}(g:ey (a++123::(t++125::r)))(ht:125∉t):iI (X_ (k+8) .B_ [.ref 0,.str (a++123::(t++125::r)),.int a.length] h) (.int ((a.length+(m7 t).length:Nat):Int)) a.length (gj (.cm t) st):=by
 show iI (bq (cS (F (k+7)) (X_ (k+7)) (Nat.ble 2 (dl (k+6+1)))) 3 5 [.ref 0,.str (a++123::(t++125::r)),.int a.length] h) _ _ _;obtain⟨d0,d1,d2,ob,f0,f1,f2,ln,lp,tp,il,ip⟩:=R.ra;have hx:=g.1
 have gt:ey t:=by
  refine⟨?_,fun c hc=>g.2 c ?_⟩
  .rw[acZ,ac6,acZ]at hx;lia
  .simp[hc]
 have zx:(a++123::(t++125::r)).length<=16777216:=by lia
 have fd:=GD a r ht;have ct:=Jt a t r;have lb:((a.length+(m7 t).length:Nat):Int)=((a.length+(t.length+1):Nat):Int)+1:=by unfold m7;simp;lia
 rw[lb];have l0:decide (((a.length+(t.length+1):Nat):Int)<0)=false:=decide_eq_false ⋯;generalize a++123::(t++125::r)=x at*;generalize((a.length+(t.length+1):Nat):Int)=b at*;have co:F (k+7) .K1 [.str t]=.ok (eZ t):=K1 k gt
 cases qc:uK t with
 |none=>rw[vM qc]at co;rw[show gj (.cm t) st=none by unfold gj;dsimp only;rw[qc]];refine⟨h,?_⟩;simp[EV,bq,cS,fd,l0,zx,ct,ai,co,bW,WR,bE]
 |some c=>
  obtain⟨cv,o,T⟩:=vL qc;rw[cv]at co;rw[sP qc];have fz:∀hh,cO hh c.pv=some (c.pv,hh):=fun hh=>bF (kf c) hh (by intro l q;cases q);have tm:F (k+7) .G_ [c.pv]=.ok (.bl (!c.few)):=G_ (k+6) (Hq T gt);have ipv:=OA c;have dc:=rB c
  cases fw:c.few with
  |false=>rw[fw]at tm;rw[show cg c st=none by unfold cg;rw[if_neg (by rw[fw];decide)]];refine⟨h,?_⟩;simp[EV,bq,cS,fd,l0,zx,ct,ai,co,ipv,dc,fz,tm,WR,bE]
  |true=>
   rw[fw]at tm;have tk:iI (X_ (k+7) .d8 [.ref 0,c.pv,.int a.length] h) .non a.length (cg c st):=wh (k+3) R B hn W fw a.length
   cases qs:cg c st with
   |none=>rw[qs]at tk;obtain⟨h',tk⟩:=tk;refine⟨h',?_⟩;simp[EV,bq,cS,fd,l0,zx,ct,ai,co,ipv,dc,fz,tm,d0,ob,tk]
   |some v5=>rw[qs]at tk;obtain⟨q',h',tk,R'⟩:=tk;refine⟨q',h',?_,R'⟩;simp[EV,bq,cS,fd,l0,zx,ct,ai,co,ipv,dc,fz,tm,d0,ob,tk]
def Db(k:Nat){r:Y1}(d0:aj h (.ref 0)=.ref 0)(ht:125∉r):X_ (k+8) .B_ [.ref 0,.str (a++123::r),.int a.length] h=.exc (.Wn 3 (.int a.length)) h:=by
 show bq (cS (F (k+7)) (X_ (k+7)) (Nat.ble 2 (dl (k+6+1)))) 3 5 [.ref 0,.str (a++123::r),.int a.length] h=_;have fd:=Ji a ht;have l0:decide ((-1:Int)<0)=true:=by decide
 simp[EV,bq,cS,fd,l0,WR,bE]
abbrev rE(x:Y1)(a:Int):Z.Ev:=[some (.str x),some (.ref 0),some (.int a)]
abbrev yv:Tx:=au (c2 Wb (ag 2) abj)
def ES{a:Nat}(hx:x.length<=10000):yv (rE x a) h=.ok (decide (a<x.length)) h:=by
 have zx:x.length<=16777216:=by lia
 simp[EV,zx,vo]
noncomputable abbrev ng(k:Nat):Sx:=gN (F (k+8)) (X_ (k+8)) (Nat.ble 2 (dl (k+7+1)))
theorem Dc(k:Nat):∀(n:Nat){r a:Y1}{st:St}{q:List (Nat×Nat)}{h:Y3},r.length<=n->RH st q h->Wf st->Bd a.length st->ey (a++r)->
  (∃p h',run (fH r) a.length st=.inl p/\eP yv (ng k) (rE (a++r) a.length) h=.exc (.Wn 3 (.int p)) h')\/
  ∃v5 q' h',run (fH r) a.length st=.inr v5/\RH v5 q' h'/\eP yv (ng k) (rE (a++r) a.length) h=.nx (rE (a++r) (a++r).length) h':=by
 intro n
 induction n with
 |zero=>intro r a st q h hr R W B g;have:r= []:=aeM (ahB.mp hr);subst this;refine .inr ⟨st,q,h,rfl,R,?_⟩;have e:=ES (x:=a++ []) (a:=a.length) (h:=h) g.1;rw[decide_eq_false (by rw[adD];exact adR _)]at e;rw[EB e,adD]
 |succ n ih=>
  intro r a st q h hr R W B g
  cases r with
  |nil=>exact ih (adx _) R W B g
  |cons c r=>
   have e:=ES (x:=a++c::r) (a:=a.length) (h:=h) g.1;rw[decide_eq_true (by simp)]at e;obtain⟨d0,d1,d2,ob,f0,f1,f2,ln,lp,tp,il,ip⟩:=R.ra;have atx:=MK a c r;have zx:(a++c::r).length<=16777216:=by have:=g.1;lia
   have ha:a.length<=100000:=by have:=g.1;rw[acZ]at this;lia
   have hc:=g.2 c (by simp);have e1:=eqc c 123 hc ⋯ h;have e2:=eqc c 125 hc ⋯ h
   by_cases c1:c=123
   .subst c1;rw[decide_eq_true rfl]at e1
    have bod:∀{o:Res PV},X_ (k+8) .B_ [.ref 0,.str (a++123::r),.int a.length] h=o->ng k (rE (a++123::r) a.length) h=(match o with|.ok v h1=>.nx [some (.str (a++123::r)),some (.ref 0),some v] h1|.exc e h1=>.exc e h1|.bad=>.bad):=fun{o} ho=>by
     unfold ng
     cases o<;>simp[EV,gN,atx,zx,e1,d0,ho]<;>rfl
    by_cases z:125∈r
    .obtain⟨t,r1,ez,ht⟩:∃t r1,r=t++125::r1/\125∉t:=by
      cases qb:rM r with
      |none=>exact absurd z (vG qb)
      |some p=>exact⟨p.1,p.2,mS (t:=p.1) (r1:=p.2) qb⟩
     subst ez;have sg:fH (123::(t++125::r1))=.cm t::fH r1:=yf (r1:=r1) ht;have ea:a++123::(t++125::r1)=(a++m7 t)++r1:=by unfold m7;simp
     have rd:=B_ k R B ha W g ht;rw[sg,yj]
     cases qs:gj (.cm t) st with
     |none=>rw[qs]at rd;obtain⟨h',rd⟩:=rd;exact .inl ⟨a.length,h',rfl,wD e (bod rd)⟩
     |some v5=>
      rw[qs]at rd;obtain⟨q',h',rd,R'⟩:=rd;have b:=bod rd;dsimp only at b
      have Ws:Wf v5/\Bd (a.length+1) v5:=by
       cases qc:uK t with
       |none=>unfold gj at qs;dsimp only at qs;rw[qc]at qs;cases qs
       |some c=>rw[sP qc]at qs;exact⟨W.step qs,Bd.step W B qs⟩
      have up:∀{m m':Nat}{f:o7},FB m f->m<=m'->FB m' f:=fun fb l=>⟨adu fb.nn l,fun x hx=>adu (fb.bl x hx) l,fun x hx=>adu (fb.tl x hx) l,fb.hd⟩
      have Xn:=ih (r:=r1) (a:=a++m7 t) (by simp at hr;lia) R' Ws.1 (fun f hf=>up (Ws.2 f hf) (by unfold m7;simp)) (by rw[<- ea];exact g);rw[<- ea,acZ (as:=a) (bs:=m7 t)]at Xn;show(∃p h',run (fH r1) (a.length+(m7 t).length) v5=.inl p/\_)\/_;rcases Xn with⟨p,h2,w1,w2⟩|⟨s2,i2,h2,w1,w2,w4⟩
      .exact .inl ⟨p,h2,w1,yg e b w2 (by intro z;cases z)⟩
      .exact .inr ⟨s2,i2,h2,w1,w2,yg e b w4 (by intro z;cases z)⟩
    .refine .inl ⟨a.length,h,?_,wD e (bod (Db k d0 z))⟩;rw[CV z];rfl
   .rw[decide_eq_false c1]at e1
    by_cases c2:c=125
    .subst c2;rw[decide_eq_true rfl]at e2;refine .inl ⟨a.length,h,?_,wD e ?_⟩
     .rw[CU];rfl
     .unfold ng;simp[EV,gN,atx,zx,e1,e2,WR,bE]
    .rw[decide_eq_false c2]at e2;have sg:=pW (r:=r) c1 c2;have ea:a++c::r=(a++ [c])++r:=by simp
     have rd:iI (X_ (k+8) .j6 [.ref 0,.str [c],.int a.length] h) .non a.length (gj (.sg c) st):=CM (k+4) R B ha c a.length;rw[sg,yj]
     cases qs:gj (.sg c) st with
     |none=>rw[qs]at rd;obtain⟨h',rd⟩:=rd;refine .inl ⟨a.length,h',rfl,wD e ?_⟩;unfold ng;simp[EV,gN,atx,zx,e1,e2,d0,ob,rd]
     |some v5=>
      rw[qs]at rd;obtain⟨q',h',rd,R'⟩:=rd
      have b:ng k (rE (a++c::r) a.length) h=.nx (rE (a++c::r) ((a.length+1:Nat):Int)) h':=by unfold ng;simp[EV,gN,atx,zx,e1,e2,d0,ob,rd];rfl
      have Ws:Wf v5/\Bd (a.length+1) v5:=by
       rw[ya]at qs
       by_cases e0:st.fs= []
       .rw[if_pos e0]at qs
        split at qs
        .cases qs;exact⟨W,fun f hf=>(B f hf).up⟩
        .cases qs
       .rw[if_neg e0]at qs;exact⟨(W.O6 qs).1,Bd.O6 B qs⟩
      have Xn:=ih (r:=r) (a:=a++ [c]) (by simpa using hr) R' Ws.1 (by rw[acZ];exact Ws.2) (by rw[<- ea];exact g);rw[<- ea,acZ (as:=a) (bs:=[c])]at Xn;show(∃p h',run (fH r) (a.length+1) v5=.inl p/\_)\/_;rcases Xn with⟨p,h2,w1,w2⟩|⟨s2,i2,h2,w1,w2,w4⟩
      .exact .inl ⟨p,h2,w1,yg e b w2 (by intro z;cases z)⟩
      .exact .inr ⟨s2,i2,h2,w1,w2,yg e b w4 (by intro z;cases z)⟩
def Vj(x:Y1)(n:Nat):Bool:=decide (x.length<=n)&&x.all jM.contains
def M5(k:Nat)(hx:x.length<=16777216):F (k+2) .M5 [.str x,.int 4000]=.ok (.bl (Vj x 4000)):=by
 show av (mV (F (k+1))) 2 2 [.str x,.int 4000]=_;have md:=made k x jM;have le:decide ((x.length:Int)<=4000)=decide (x.length<=4000):=decide_eq_decide.mpr ⋯;unfold Vj
 by_cases q:x.length<=4000
 .simp[EV,av,mV,hx,le,q,ai,md,decide_true,aK]
 .simp[EV,av,mV,hx,le,q,decide_false,aK]
theorem FO(k:Nat):mkO 609 (X_ (k+1) .j5) [] []=.ok (.ref 0) [Z7 0,.lst [],.lst []]:=rfl
def rh0:RH st0 [] [Z7 0,.lst [],.lst []]:=⟨rfl,rfl,rfl,trivial,by decide⟩
def EU(x:Y1):Nat ⊕ St->Res PV
 |.inl p=>.exc (.Wn 3 (.int p)) []
 |.inr st=>if st.fs≠ []\/st.ps= []then .exc (.Wn 3 (.int (x.length:Nat))) []else .ok (M7 st.ps) []
def oM{f:Sx}{np:Nat}{ps:Y2}(hl:ps.length=np)(e:f (ps.map some++List.replicate (n - ps.length) none) []=.exc v h1)(hp:v.pure=true):pY f np n ps []=.exc v []:=by unfold pY;rw[if_pos hl,e];show Ju 0 v h1=_;unfold Ju;rw[if_pos (by rw[hp];rfl)];rfl
def Hz{f:Sx}{np:Nat}{ps:Y2}(hl:ps.length=np)(e:f (ps.map some++List.replicate (n - ps.length) none) []=.rt v h1)(hp:cO h1 v=some (v,h1)):pY f np n ps []=.ok v []:=by unfold pY;rw[if_pos hl,e];show kW 0 v h1=_;unfold kW;rw[hp];show qC 0 v h1=_;unfold qC;rw[if_pos (show(eG (List.take 0 h1)&&Nat.ble 0 h1.length)=true from rfl)];rfl
def read(k:Nat)(g:ey x)(t:Vj x 4000=true)(pu:∀st,run (fH x) 0 st0=.inr st->am (st.ps.map Nd.pv)=true):X_ (k+9) .read [.str x] []=EU x (run (fH x) 0 st0):=by
 show pY (gM (F (k+8)) (X_ (k+8)) (Nat.ble 2 (dl (k+7+1)))) 1 3 [.str x] []=_;have zx:x.length<=16777216:=by have:=g.1;lia
 have it:F (k+8) .M5 [.str x,.int 4000]=.ok (.bl true):=by rw[<- t];exact M5 (k+6) zx
 have mk:=FO (k+7);have lp:=Dc k x.length (r:=x) (a:=[]) (adK _) rh0 wf0 (fun f hf=>nomatch hf) g;rw[aeh]at lp;have Xn:∀X,aq (o8 (hM (cL (aG (F (k+8) .M5) (af (ag 0) (af (cK (.int 4000)) ah))))) (dQ (Nat.ble 2 (dl (k+7+1))) 3 ace) aS) X [some (.str x),none,none] []=X [some (.str x),none,none] []:=fun X=>wy (by simp[EV,ai,it]);have st2:∀X,aq (aH 1 (xD 609 (X_ (k+8) .j5) ah)) X [some (.str x),none,none] []=X [some (.str x),some (.ref 0),none] [Z7 0,.lst [],.lst []]:=fun X=>wy (by simp[EV,mk]);have st3:∀X,aq (aH 2 aae) X [some (.str x),some (.ref 0),none] [Z7 0,.lst [],.lst []]=X (rE x 0) [Z7 0,.lst [],.lst []]:=fun X=>wy (by simp[EV,if_true]);rcases lp with⟨p,h',w1,w2⟩|⟨v5,q',h',w1,R,w4⟩
 .rw[show run (fH x) 0 st0=_ from w1];refine oM rfl ?_ rfl (h1:=h');show gM (F (k+8)) (X_ (k+8)) (Nat.ble 2 (dl (k+7+1))) [some (.str x),none,none] []=_;unfold gM;rw[Xn,st2,st3];unfold aq;rw[show eP yv (ng k) (rE x 0) [Z7 0,.lst [],.lst []]=_ from w2]
 .rw[show run (fH x) 0 st0=_ from w1];have pu':=pu v5 w1;have st4:∀X,aq (eP yv (ng k)) X (rE x 0) [Z7 0,.lst [],.lst []]=X (rE x x.length) h':=fun X=>wy w4;have io:X_ (k+8) .d9 [.ref 0] h'=_:=pA (k+7) R.ra;have tu:=Bl R.s1;obtain⟨d0,d1,d2,ob,f0,f1,f2,ln,lp,tp,il,ip⟩:=R.ra;unfold EU;dsimp only
  by_cases e:v5.fs= []
  .rw[e]at io
   by_cases e2:v5.ps= []
   .rw[if_pos (.inr e2)];rw[e2]at tp;refine oM rfl ?_ rfl (h1:=h');show gM (F (k+8)) (X_ (k+8)) (Nat.ble 2 (dl (k+7+1))) [some (.str x),none,none] []=_;unfold gM;rw[Xn,st2,st3,st4];simp[EV,d0,ob,io,adh,adR,f0,tp,afE,zx,WR,bE]
   .rw[if_neg (by simp[e,e2])];have tp':jl h' (.ref 1)=some true:=by rw[tp];cases q:v5.ps with|nil=>exact absurd q e2|cons _ _=>rfl
    refine Hz rfl ?_ (h1:=h') (bF (by show am _=true;exact pu') h' (by intro l q;cases q));show gM (F (k+8)) (X_ (k+8)) (Nat.ble 2 (dl (k+7+1))) [some (.str x),none,none] []=_;unfold gM;rw[Xn,st2,st3,st4];simp[EV,d0,ob,io,adh,adR,f0,tp',tu]
  .rw[if_pos (.inl e)];rw[decide_eq_true (ad9.mpr e)]at io;refine oM rfl ?_ rfl (h1:=h');show gM (F (k+8)) (X_ (k+8)) (Nat.ble 2 (dl (k+7+1))) [some (.str x),none,none] []=_;unfold gM;rw[Xn,st2,st3,st4];simp[EV,d0,ob,io,zx,WR,bE]
def ET(k:Nat)(hv:v.pure=true)(it:F (k+8) .M5 [v,.int 4000]=.ok (.bl false)):X_ (k+9) .read [v] []=.exc (.Wn 3 .non) []:=by show pY (gM (F (k+8)) (X_ (k+8)) (Nat.ble 2 (dl (k+7+1)))) 1 3 [v] []=_;refine oM rfl ?_ rfl (h1:=[]);show gM (F (k+8)) (X_ (k+8)) (Nat.ble 2 (dl (k+7+1))) [some v,none,none] []=_;have fz:∀hh,cO hh v=some (v,hh):=fun hh=>bF hv hh (by intro l q;subst q;cases hv);have dv:∀hh,aj hh v=v:=fun hh=>mQ hh hv;simp[EV,gM,dv,ai,fz,it,WR,bE]
def bD(h:Y3)(z:a.length+b.length<=16777216):ak (.str a) (.str b) h=.ok (.str (a++b)) h:=by rw[JE,if_pos (by rw[szl];exact z)]
theorem xY(y:Y1):∀ls:Ya,(ls.map (·.length)).sum<=(aI y ls).length
 |[]=>adK _
 |[x]=>by simp[aI]
 |x::z::r=>by have:=xY y (z::r);rw[ac5,adQ];show _<=(x++y++aI y (z::r)).length;rw[acZ,acZ];lia
def AH(hy:y≠ [])(hl:y.length<=2)(h:(aI y ls).length<=5000000):(ls.map (·.length)).sum+ls.length * y.length<=16777216:=by
 have s:=xY y ls
 have l:ls.length<=5000001:=by
  by_cases e:ls= []
  .rw[e];exact adx _
  .have:=jW hy e;lia
 have:ls.length * y.length<=5000001 * 2:=ahA l hl
 lia
def xh(hy:y≠ [])(hl:y.length<=2)(z:(aI y ls).length<=5000000):gR (.str y) [.tup (ls.map PV.str)] h=.ok (.str (aI y ls)) h:=by unfold gR;simp only[sKq,oQ1,uQ,AH hy hl z,if_true]
def n8(k:Nat)(z:(aA p).length<=5000000):F (k+1) .n8 [aR p]=.ok (.str (aA p)):=by show av (lA (F k)) 1 1 [.tup (p.map PV.str)]=_;have j:=xh (y:=[46]) (ls:=p) (h:=[]) ⋯ ⋯ z;simp[EV,av,lA,j,aK];rfl
theorem oz{α:Type}{te:Ex}{cp:Z.Ev}{h:Y3}{f g:α->PV}:∀(l:List α),(∀a∈l,te (some (f a)::cp) h=.ok (g a) h)->cD bg te cp (l.map f) h=.ok (l.map g) h
 |[],_=>rfl
 |a::r,H=>by have ih:=oz r fun b hb=>H b (ac1 _ hb);have h1:=H a ac4;rw[ac5,ac5];unfold cD;simp only[bg,FZ,Res.C_,Ha,h1,ih,if_true]
def yq(h:(aI cs ls).length<=5000000):ls.length<=5000001:=by
 by_cases e:ls= []
 .rw[e];exact adx _
 .have:=jW (y:=cs) ⋯ e;lia
def n_(k:Nat)(z:(aO ps).length<=5000000):F (k+2) .n_ [.tup (ps.map aR)]=.ok (.str (aO ps)):=by
 show av (jF (F (k+1))) 1 1 [.tup (ps.map aR)]=_;have pl:∀p∈ps,(aA p).length<=5000000:=fun p hp=>adu (oT (y:=cs) (aeQ hp)) z
 have cm:=oz (te:=iE (F (k+1))) (cp:=bX [] [some (.tup (ps.map aR))]) (h:=[]) (f:=aR) (g:=fun p=>.str (aA p)) ps fun p hp=>by have sp:=n8 k (pl p hp);have fz:∀hh,cO hh (aR p)=some (aR p,hh):=fun hh=>Cc (some p) hh;simp[EV,iE,fX,ai,fz,sp]
 have ln:(ps.map aR).length<16777216:=by have:=yq (ls:=ps.map aA) z;rw[ac2]at this |-;lia
 have j:=tF (sep:=cs) (q:=.lst (ps.map fun p=>.str (aA p))) (ls:=ps.map aA) (h:=[]) (by rw[adB];rfl) (AH ⋯ ⋯ z);simp[EV,av,jF,ln,cm,j,aK];rfl
def d7(k:Nat){w:Y1}(z:w.length<=5000000):F (k+1) .d7 [.str w]=.ok (.str (m7 w)):=by show av (iH (F k)) 1 1 [.str w]=_;simp(disch:=simp only[acZ,ac6,adh];lia)[EW,av,iH,bD,aK];rfl
def N7(k:Nat){c:Nat}(hc:c<1114112):F (k+1) .N7 [.str [c]]=.ok (.str (gF c)):=by
 show av (gH (F k)) 1 1 [.str [c]]=_;have e1:=eqc c 123 hc ⋯ [];have e2:=eqc c 125 hc ⋯ [];unfold gF
 by_cases q1:c=123
 .rw[decide_eq_true q1]at e1;rw[if_pos q1];simp[EV,av,gH,e1,aK]
 .rw[decide_eq_false q1]at e1;rw[if_neg q1]
  by_cases q2:c=125
  .rw[decide_eq_true q2]at e2;rw[if_pos q2];simp[EV,av,gH,e1,e2,aK]
  .rw[decide_eq_false q2]at e2;rw[if_neg q2];simp[EV,av,gH,e1,e2,aK]
def lS(f:α->Y1)(l:List α):((l.map f).map (·.length)).sum=(l.map f).flatten.length:=by rw[agx]
theorem sD(t:Y1):t.length<=(esc t).length:=by
 induction t with
 |nil=>exact adK _
 |cons c r ih=>
  show _<=(gF c++esc r).length;have:1<=(gF c).length:=by unfold gF;split<;>(try split)<;>simp
  rw[acZ,ac6];lia
def D_(k:Nat)(z:(esc t).length<=5000000)(hl:Lt t):F (k+2) .D_ [.str t]=.ok (.str (esc t)):=by
 show av (ly (F (k+1))) 1 1 [.str t]=_
 have cm:=oz (te:=jg (F (k+1))) (cp:=bX [] [some (.str t)]) (h:=[]) (f:=fun c=>PV.str [c]) (g:=fun c=>.str (gF c)) t fun c hc=>by have sp:=N7 k (hl c hc);simp[EV,jg,ai,sp]
 have ln:(t.map fun c=>PV.str [c]).length<16777216:=by have:=sD t;rw[ac2];lia
 have j:=kF (ls:=t.map gF) (h:=[]) (by rw[lS];exact adu z ⋯);rw[adB]at j
 replace j:gu (.str []) [.lst (t.map fun c=>PV.str (gF c))] []=.ok (.str (t.map gF).flatten) []:=j
 simp[EV,av,ly,ln,cm,j,aK];rfl
def tgd:(∀h,o9 (.str [116,101,120,116]) (.str [116,101,120,116]) h=.ok (.bl true) h)/\(∀h,o9 (.str [112,108,97,99,101]) (.str [116,101,120,116]) h=.ok (.bl false) h)/\(∀h,o9 (.str [112,108,97,99,101]) (.str [112,108,97,99,101]) h=.ok (.bl true) h)/\(∀h,o9 (.str [108,111,111,112]) (.str [116,101,120,116]) h=.ok (.bl false) h)/\(∀h,o9 (.str [108,111,111,112]) (.str [112,108,97,99,101]) h=.ok (.bl false) h)/\(∀h,o9 (.str [108,111,111,112]) (.str [108,111,111,112]) h=.ok (.bl true) h)/\(∀h,o9 (.str [99,104,111,105,99,101]) (.str [116,101,120,116]) h=.ok (.bl false) h)/\(∀h,o9 (.str [99,104,111,105,99,101]) (.str [112,108,97,99,101]) h=.ok (.bl false) h)/\(∀h,o9 (.str [99,104,111,105,99,101]) (.str [108,111,111,112]) h=.ok (.bl false) h)/\(∀h,o9 (.str [99,104,111,105,99,101]) (.str [99,104,111,105,99,101]) h=.ok (.bl true) h)/\(∀h,o9 (.str [117,115,101]) (.str [116,101,120,116]) h=.ok (.bl false) h)/\(∀h,o9 (.str [117,115,101]) (.str [112,108,97,99,101]) h=.ok (.bl false) h)/\(∀h,o9 (.str [117,115,101]) (.str [108,111,111,112]) h=.ok (.bl false) h)/\(∀h,o9 (.str [117,115,101]) (.str [99,104,111,105,99,101]) h=.ok (.bl false) h)/\(∀h,o9 (.str [117,115,101]) (.str [117,115,101]) h=.ok (.bl true) h)/\(∀h,o9 (.str [98,111,100,121]) (.str [116,101,120,116]) h=.ok (.bl false) h)/\(∀h,o9 (.str [98,111,100,121]) (.str [112,108,97,99,101]) h=.ok (.bl false) h)/\(∀h,o9 (.str [98,111,100,121]) (.str [108,111,111,112]) h=.ok (.bl false) h)/\(∀h,o9 (.str [98,111,100,121]) (.str [99,104,111,105,99,101]) h=.ok (.bl false) h)/\(∀h,o9 (.str [98,111,100,121]) (.str [117,115,101]) h=.ok (.bl false) h):=by refine⟨?_,?_,?_,?_,?_,?_,?_,?_,?_,?_,?_,?_,?_,?_,?_,?_,?_,?_,?_,?_⟩<;>exact ek _ _ _ rfl rfl rfl
inductive Xq:Nat->Nd->Prop
 |txt {d:Nat} {t:Y1} (h:t≠ []) (l:Lt t):Xq d (.txt t)
 |place {d:Nat} {p:Ya} {w:Y1} (o:(m8.place p w).Ok):Xq d (.nd (m8.place p w).pv (m7 (ar (.place p w))))
 |body {d:Nat} {ps:List Ya} (o:(m8.body ps).Ok):Xq d (.nd (m8.body ps).pv (m7 (ar (.body ps))))
 |use {d:Nat} {a:Y1} {ps:List Ya} (o:(m8.use a ps none).Ok):Xq d (.nd (.tup (.str bV::(m8.use a ps none).args++ [.non])) (m7 (ar (.use a ps none))))
 |fin {d:Nat} {f:o7} (o:f.c.Ok) (op:f.c.opens=true) (np:∀a l m,f.c≠.piece a l m) (ns:∀x∈f.ns,Xq d x) (ys:∀y,f.yes=some y->∀x∈y,Xq d x) (bl:∀b,f.bt=some b->Lt b):Xq (d+1) f.fin
theorem gn:∀{l:List Nd},(∀x∈l,x.pv.pure=true)->am (l.map Nd.pv)=true
 |[],_=>rfl
 |x::r,h=>by rw[ac5,am,h x ac4,gn fun y hy=>h y (ac1 _ hy)];rfl
theorem eV:∀{l m:Y2},am l=true->am m=true->am (l++m)=true
 |[],_,_,h=>h
 |x::r,m,h1,h2=>by rw[am,ac7]at h1;rw[adY,am,h1.1,eV h1.2 h2];rfl
def wM(c:m8):am (.str c.kind::c.args)=true:=kf c
theorem kc(h1:∀x∈f.ns,x.pv.pure=true)(h2:∀y,f.yes=some y->∀x∈y,x.pv.pure=true):f.fin.pv.pure=true:=by
 obtain⟨c,ns,yes,bt⟩:=f;have p1:=gn h1;dsimp only at p1;have pp:∀p,(aR p).pure=true:=fun p=>cj (some p)
 have rest:∀c:m8,(PV.tup (.str c.kind::c.args++ [M7 ns])).pure=true:=fun c=>by rw[PV.pure];refine eV (wM c) ?_;rw[am,PV.pure,p1];rfl
 cases c with
 |loop n p=>show(PV.tup [.str jb,.str n,aR p,M7 ns,.str (bt.getD [])]).pure=true;simp only[PV.pure,am,p1,pp];rfl
 |cond p=>
  cases yes with
  |none=>show(PV.tup [.str dR,aR p,M7 ns,.tup []]).pure=true;simp only[PV.pure,am,p1,pp];rfl
  |some y=>have p2:=gn (h2 y rfl);show(PV.tup [.str dR,aR p,M7 y,M7 ns]).pure=true;simp only[PV.pure,am,p1,p2,pp];rfl
 |_=>exact rest _
theorem Xq.pure{d:Nat}{x:Nd}(h:Xq d x):x.pv.pure=true:=by
 induction h with
 |txt _ _=>rfl
 |place o=>exact kf _
 |body o=>exact kf _
 |use o=>exact eV (wM (.use _ _ none)) rfl
 |fin o op np ns ys bl ih1 ih2=>exact kc ih1 ih2
def AS(t:Y1):m7 t≠ []:=by unfold m7;simp
theorem GF(op:f.c.opens=true):f.fin.sh≠ []:=by
 obtain⟨c,ns,yes,bt⟩:=f
 cases c with
 |cond p=>cases yes<;>(unfold o7.fin Nd.sh m7;simp)
 |loop n p=>unfold o7.fin Nd.sh m7;simp
 |piece a l m=>unfold o7.fin Nd.sh m7;simp
 |use a ps l=>unfold o7.fin Nd.sh m7;simp
 |_=>cases op
theorem Xq.ne{d:Nat}{x:Nd}(h:Xq d x):x.sh≠ []:=by
 cases h with
 |txt h _=>intro z;have:=sD ‹_›;rw[show esc _= []from z]at this;exact h (aeM (ahB.mp this))
 |place o=>exact AS _
 |body o=>exact AS _
 |use o=>exact AS _
 |fin o op _ _ _ _=>exact GF op
theorem wm:∀{l:List Nd},(∀x∈l,x.sh≠ [])->l.length<=(shs l).length
 |[],_=>adK _
 |x::r,h=>by have ih:=wm fun y hy=>h y (ac1 _ hy);have:=ad9.mpr (h x ac4);rw[show shs (x::r)=x.sh++shs r from rfl,acZ,ac6];lia
theorem sT:∀{l:List Nd}{x:Nd},x∈l->x.sh.length<=(shs l).length
 |y::r,x,h=>by
  rw[show shs (y::r)=y.sh++shs r from rfl,acZ];rcases ac8.mp h with rfl|h
  .lia
  .have:=sT h;lia
def Kn(x:Nd)(h:x.pv.pure=true)(hh:Y3):aj hh x.pv=x.pv:=mQ hh h
def Inn(j:Nat)(l:List Nd):Prop:=∀x∈l,x.pv.pure=true/\x.sh≠ []/\(x.sh.length<=5000000->F (j+4) .u9 [x.pv]=.ok (.str x.sh))
def ia(j:Nat)(H:Inn j l)(z:(shs l).length<=5000000):F (j+5) .G7 [M7 l]=.ok (.str (shs l)):=by
 show av (jG (F (j+4))) 1 1 [M7 l]=_
 have cm:=oz (te:=iF (F (j+4))) (cp:=bX [] [some (M7 l)]) (h:=[]) (f:=Nd.pv) (g:=fun x=>.str x.sh) l fun x hx=>by obtain⟨h1,h2,h3⟩:=H x hx;have sp:=h3 (adu (sT hx) z);have fz:∀hh,cO hh x.pv=some (x.pv,hh):=fun hh=>Z.bF hh h1;have dx:=Kn x h1;simp[EV,iF,dx,ai,fz,sp]
 have ll:=wm fun x hx=>(H x hx).2.1;have ln:(l.map Nd.pv).length<16777216:=by rw[ac2];lia
 have jn:=kF (ls:=l.map Nd.sh) (h:=[]) (by rw[lS];exact adu z ⋯);rw[adB]at jn
 replace jn:gu (.str []) [.lst (l.map fun x=>PV.str x.sh)] []=.ok (.str (l.map Nd.sh).flatten) []:=jn
 simp[EV,av,jG,ln,cm,jn,aK];rfl
def bx(w:Y1):(m7 w).length=w.length+2:=by unfold m7;simp
def xo(p:Ya)(hh:Y3):cO hh (aR p)=some (aR p,hh):=Cc (some p) hh
def jZ(ps:List Ya)(hh:Y3):cO hh (.tup (ps.map aR))=some (.tup (ps.map aR),hh):=by refine bF ?_ hh (by intro l q;cases q);have:=kf (.body ps);unfold m8.pv at this;simp only[PV.pure,am,m8.args,aeA,aeT]at this;exact this
def pG(h:∀x∈l,x.pv.pure=true)(hh:Y3):cO hh (M7 l)=some (M7 l,hh):=bF (by show am _=true;exact gn h) hh (by intro l q;cases q)
def yW(j:Nat)(hl:Lt t)(z:(esc t).length<=5000000):F (j+4) .u9 [(Nd.txt t).pv]=.ok (.str (esc t)):=by show av (aZ (F (j+3))) 1 2 [.tup [.str lL,.str t]]=_;have st:F (j+3) .D_ [.str t]=_:=D_ (j+1) z hl;simp[EV,av,aZ,TX,at1,lL,tgd,ai,st,aK]
def tR(j:Nat){w:Y1}(o:(m8.place p w).Ok)(z:(m7 (ar (.place p w))).length<=5000000):F (j+4) .u9 [(m8.place p w).pv]=.ok (.str (m7 (ar (.place p w)))):=by
 rw[bx]at z;have zc:(ar (.place p w)).length<=5000000:=by lia
 have fz:∀hh,cO hh (m8.place p w).pv=some ((m8.place p w).pv,hh):=fun hh=>bF (kf _) hh (by intro l q;cases q)
 have zp:(aA p).length<=5000000:=by
  refine adu ?_ z
  by_cases q:w=dq
  .rw[show ar (.place p w)=aA p from if_pos q];lia
  .rw[kq q,acZ,acZ];lia
 have sp:F (j+2) .n8 [aR p]=_:=n8 (j+1) zp;have sc:F (j+2) .d7 [.str (ar (.place p w))]=_:=d7 (j+1) zc;have ew:=fun h=>jD w dq h (rQ w o.2) (fA rfl)
 have s1:F (j+3) .SM [(m8.place p w).pv]=.ok (.str (m7 (ar (.place p w)))):=by
  show av (gY (F (j+2))) 1 2 [.tup [.str dK,aR p,.str w]]=_;have fp:=xo p
  by_cases q:w=dq
  .simp only[decide_eq_true q]at ew;rw[show ar (.place p w)=aA p from if_pos q]at sc |-;simp[EV,av,gY,at1,at2,fX,ai,fp,sp,ew,sc,aK]
  .simp only[decide_eq_false q]at ew;have ct:=kq q p;rw[ct]at sc z |-;have zw:(aA p).length+4+w.length<=5000000:=by simp only[acZ,ac6,adh]at z;lia
   simp(disch:=(first|lia|(simp only[acZ,ac6,adh];lia)))[EW,av,gY,at1,at2,fX,ai,fp,sp,ew,bD,sc,aK]
 show av (aZ (F (j+3))) 1 2 [(m8.place p w).pv]=_;have k0:=Fi (.place p w);have dc:=rB (.place p w);simp only[m8.kind]at k0;generalize(m8.place p w).pv=v at*;simp[EV,av,aZ,dc,k0,dK,tgd,ai,fz,s1,aK]
def vr(j:Nat)(z:(m7 (ar (.body ps))).length<=5000000):F (j+4) .u9 [(m8.body ps).pv]=.ok (.str (m7 (ar (.body ps)))):=by
 rw[bx]at z;have zc:(ar (.body ps)).length<=5000000:=by lia
 have zp:(aO ps).length<=5000000:=by refine adu ?_ z;show _<=(jy++aO ps++ [41]).length+2;simp only[acZ];lia
 have sp:F (j+3) .n_ [.tup (ps.map aR)]=_:=n_ (j+1) zp;have sc:F (j+3) .d7 [.str (jy++aO ps++ [41])]=_:=d7 (j+2) zc;have fp:=jZ ps;show av (aZ (F (j+3))) 1 2 [.tup [.str dB,.tup (ps.map aR)]]=_;simp only[jy,adY,aeh]at sc;simp(disch:=(first|lia|(simp only[acZ,ac6,adh];lia)))[EW,av,aZ,TX,at1,dB,tgd,Vx,ai,fp,sp,bD,sc,aK];rfl
def CH(j:Nat)(z:a.length+(aO ps).length+6<=5000000):F (j+2) .n_ [.tup (ps.map aR)]=.ok (.str (aO ps)):=n_ j ⋯
def yV(j:Nat)(z:(m7 (ar (.use a ps none))).length<=5000000):F (j+4) .u9 [.tup (.str bV::(m8.use a ps none).args++ [.non])]=.ok (.str (m7 (ar (.use a ps none)))):=by
 rw[bx]at z;have zc:(ar (.use a ps none)).length<=5000000:=by lia
 have za:a.length+(aO ps).length+6<=5000000:=by
  replace z:(jx++a++ [40]++aO ps++ [41]).length+2<=5000000:=z
  simp only[acZ,ac6,adh]at z;lia
 have sp:F (j+2) .n_ [.tup (ps.map aR)]=_:=CH j za;have sc:F (j+2) .d7 [.str (jx++a++ [40]++aO ps++ [41])]=_:=d7 (j+1) zc;have fp:=jZ ps
 have s1:F (j+3) .Tc [.tup [.str bV,.str a,.tup (ps.map aR),.non,.non]]=.ok (.str (m7 (ar (.use a ps none)))):=by show av (iq (F (j+2))) 1 2 [.tup [.str bV,.str a,.tup (ps.map aR),.non,.non]]=_;simp only[jx,adY,aeh]at sc;simp(disch:=(first|lia|(simp only[acZ,ac6,adh];lia)))[EW,av,iq,at1,at2,V3,ai,fp,sp,bD,bW,sc,aK];rfl
 show av (aZ (F (j+3))) 1 2 [.tup [.str bV,.str a,.tup (ps.map aR),.non,.non]]=_;have fz:∀hh,cO hh (.tup [.str bV,.str a,.tup (ps.map aR),.non,.non])=some (.tup [.str bV,.str a,.tup (ps.map aR),.non,.non],hh):=fun hh=>bF (by exact eV (wM (.use a ps none)) (m:=[.non]) rfl) hh (by intro l q;cases q);simp only[bV]at fz s1;simp[EV,av,aZ,TX,bV,tgd,ai,fz,s1,aK]
def GG(j:Nat){n:Y1}{ns:List Nd}(H:Inn j ns)(hb:Lt b)(z:(m7 (ar (.loop n p))++shs ns++Zo b++m7 bL).length<=5000000):F (j+7) .u9 [.tup [.str jb,.str n,aR p,M7 ns,.str b]]=.ok (.str (m7 (ar (.loop n p))++shs ns++Zo b++m7 bL)):=by
 simp only[acZ,bx]at z;have zc:(ar (.loop n p)).length<=5000000:=by lia
 have zz:n.length+(aA p).length+8+2+(shs ns).length+(Zo b).length+5<=5000000:=by
  have:(ar (.loop n p)).length=n.length+(aA p).length+8:=by show(mX++n++Wg++aA p).length=_;simp only[acZ,ac6,adh];lia
  simp only[ac6,adh]at z
  lia
 have sp:F (j+5) .n8 [aR p]=_:=n8 (j+4) ⋯;have sc:F (j+5) .d7 [.str (mX++n++Wg++aA p)]=_:=d7 (j+4) zc;have sn:=ia j H ⋯;have fp:=xo p;have fn:=pG fun x hx=>(H x hx).1
 have zb:b.length<=16777216:=by
  unfold Zo at zz
  split at zz
  .rename_i q;rw[q];exact adx _
  .rw[acZ]at zz;have:=sD b;lia
 have s1:F (j+6) .Tr [.tup [.str jb,.str n,aR p,M7 ns,.str b]]=.ok (.str (m7 (ar (.loop n p))++shs ns++Zo b++m7 bL)):=by
  show av (iQ (F (j+5))) 1 3 [.tup [.str jb,.str n,aR p,M7 ns,.str b]]=_;have hh:m7 (ar (.loop n p))=m7 (mX++n++Wg++aA p):=rfl
  have zl:(m7 (ar (.loop n p))).length=n.length+(aA p).length+10:=by rw[bx];show(mX++n++Wg++aA p).length+2=_;simp only[acZ,ac6,adh];lia
  rw[<- hh]at sc;simp only[mX,Wg,adY,aeh,ade]at sc;generalize m7 (ar (.loop n p))=hd at*
  by_cases q:b= []
  .subst q;have bz:Zo []=[]:=rfl;rw[bz]at zz |-;simp only[adh]at zz;simp(disch:=(first|lia|(simp only[acZ,ac6,adh];lia)))[EW,ade,av,iQ,at1,at2,V3,Xp,fX,ai,fp,fn,sp,sn,bD,sc,Eh,afE,adx,aK];rfl
  .have bz:Zo b=m7 fQ++esc b:=if_neg q;rw[bz]at zz |-;rw[acZ]at zz;have lk:(m7 fQ).length=9:=rfl;have st:F (j+5) .D_ [.str b]=_:=D_ (j+3) ⋯ hb;have ie:b.isEmpty=false:=by cases b with|nil=>exact absurd rfl q|cons _ _=>rfl
   simp(disch:=(first|lia|(simp only[acZ,ac6,adh];lia)))[EW,ade,av,iQ,at1,at2,V3,Xp,fX,ai,fp,fn,sp,sn,st,bD,sc,Eh,ie,zb,aK];rfl
 show av (aZ (F (j+6))) 1 2 [.tup [.str jb,.str n,aR p,M7 ns,.str b]]=_;have fz:∀hh,cO hh (.tup [.str jb,.str n,aR p,M7 ns,.str b])=some (.tup [.str jb,.str n,aR p,M7 ns,.str b],hh):=fun hh=>bF (by simp only[PV.pure,am,gn fun x hx=>(H x hx).1,show(aR p).pure=true from cj (some p)];rfl) hh (by intro l q;cases q);simp only[jb]at fz s1;simp[EV,av,aZ,TX,jb,tgd,ai,fz,s1,aK]
def zD(j:Nat){y ns:List Nd}(H1:Inn j y)(H:Inn j ns)(z:(m7 (ar (.cond p))++shs y++Yo ns++m7 bL).length<=5000000):F (j+7) .u9 [.tup [.str dR,aR p,M7 y,M7 ns]]=.ok (.str (m7 (ar (.cond p))++shs y++Yo ns++m7 bL)):=by
 simp only[acZ,bx]at z;have zc:(ar (.cond p)).length<=5000000:=by lia
 have zz:(aA p).length+3+2+(shs y).length+(Yo ns).length+5<=5000000:=by
  have:(ar (.cond p)).length=(aA p).length+3:=by show(X6++aA p).length=_;simp only[acZ,ac6,adh];lia
  simp only[ac6,adh]at z
  lia
 have sp:F (j+5) .n8 [aR p]=_:=n8 (j+4) ⋯;have sc:F (j+5) .d7 [.str (X6++aA p)]=_:=d7 (j+4) zc;have sy:=ia j H1 ⋯;have fp:=xo p;have fn:=pG fun x hx=>(H x hx).1;have fy:=pG fun x hx=>(H1 x hx).1
 have s1:F (j+6) .Q6 [.tup [.str dR,aR p,M7 y,M7 ns]]=.ok (.str (m7 (ar (.cond p))++shs y++Yo ns++m7 bL)):=by
  show av (gI (F (j+5))) 1 3 [.tup [.str dR,aR p,M7 y,M7 ns]]=_;have hh:m7 (ar (.cond p))=m7 (X6++aA p):=rfl
  have zl:(m7 (ar (.cond p))).length=(aA p).length+5:=by rw[bx];show(X6++aA p).length+2=_;simp only[acZ,ac6,adh];lia
  rw[<- hh]at sc;simp only[X6,adY,aeh,ade]at sc;generalize m7 (ar (.cond p))=hd at*
  by_cases q:ns= []
  .subst q;have bz:Yo []=[]:=rfl;rw[bz]at zz |-;simp only[adh]at zz;have tr:∀h,jl h (.tup [])=some false:=fun h=>rfl;simp(disch:=(first|lia|(simp only[acZ,ac6,adh];lia)))[EW,ade,av,gI,at1,at2,V3,fX,ai,fp,fy,sp,sy,bD,sc,tr,aK];rfl
  .have bz:Yo ns=m7 dj++shs ns:=if_neg q;rw[bz]at zz |-;rw[acZ]at zz;have lk:(m7 dj).length=6:=rfl;have sn:=ia j H ⋯;have tr:∀h,jl h (M7 ns)=some true:=fun h=>by cases ns with|nil=>exact absurd rfl q|cons _ _=>rfl
   simp(disch:=(first|lia|(simp only[acZ,ac6,adh];lia)))[EW,ade,av,gI,at1,at2,V3,fX,ai,fp,fn,fy,sp,sn,sy,bD,sc,tr,aK];rfl
 show av (aZ (F (j+6))) 1 2 [.tup [.str dR,aR p,M7 y,M7 ns]]=_;have fz:∀hh,cO hh (.tup [.str dR,aR p,M7 y,M7 ns])=some (.tup [.str dR,aR p,M7 y,M7 ns],hh):=fun hh=>bF (by simp only[PV.pure,am,gn fun x hx=>(H x hx).1,gn fun x hx=>(H1 x hx).1,show(aR p).pure=true from cj (some p)];rfl) hh (by intro l q;cases q);simp only[dR]at fz s1;simp[EV,av,aZ,TX,dR,tgd,ai,fz,s1,aK]
def Jj(j:Nat){l:Ya}{ns:List Nd}(H:Inn j ns)(z:(m7 (ar (.use a ps (some l)))++shs ns++m7 bL).length<=5000000):F (j+7) .u9 [.tup [.str bV,.str a,.tup (ps.map aR),aR l,M7 ns]]=.ok (.str (m7 (ar (.use a ps (some l)))++shs ns++m7 bL)):=by
 simp only[acZ,bx]at z;have zc:(ar (.use a ps (some l))).length<=5000000:=by lia
 have zt':(ar (.use a ps (some l))).length=a.length+(aO ps).length+(aI cs l).length+12:=by show(jx++a++ [40]++aO ps++ [41]++lH++aI cs l).length=_;simp only[acZ,ac6,adh];lia
 have zz:a.length+(aO ps).length+(aI cs l).length+12+2+(shs ns).length+5<=5000000:=by
  simp only[ac6,adh]at z
  lia
 have sp:F (j+5) .n_ [.tup (ps.map aR)]=_:=n_ (j+3) ⋯;have sc:F (j+5) .d7 [.str (jx++a++ [40]++aO ps++ [41]++lH++aI cs l)]=_:=d7 (j+4) zc;have sn:=ia j H ⋯;have fp:=jZ ps;have fn:=pG fun x hx=>(H x hx).1;have jn:=fun h=>xh (y:=cs) (ls:=l) (h:=h) ⋯ ⋯ ⋯
 have s1:F (j+6) .Tc [.tup [.str bV,.str a,.tup (ps.map aR),aR l,M7 ns]]=.ok (.str (m7 (ar (.use a ps (some l)))++shs ns++m7 bL)):=by
  show av (iq (F (j+5))) 1 2 [.tup [.str bV,.str a,.tup (ps.map aR),.tup (l.map PV.str),M7 ns]]=_;have hh:m7 (ar (.use a ps (some l)))=m7 (jx++a++ [40]++aO ps++ [41]++lH++aI cs l):=rfl;have zl:(m7 (ar (.use a ps (some l)))).length=a.length+(aO ps).length+(aI cs l).length+14:=by rw[bx,zt']
  rw[<- hh]at sc;simp only[jx,lH,adY,aeh,ade]at sc;generalize m7 (ar (.use a ps (some l)))=hd at*;simp(disch:=(first|lia|(simp only[acZ,ac6,adh];lia)))[EW,ade,av,iq,at1,at2,V3,Xp,ai,fp,fn,sp,sn,bD,eN,jn,sc,aK];rfl
 show av (aZ (F (j+6))) 1 2 [.tup [.str bV,.str a,.tup (ps.map aR),aR l,M7 ns]]=_;have fz:∀hh,cO hh (.tup [.str bV,.str a,.tup (ps.map aR),aR l,M7 ns])=some (.tup [.str bV,.str a,.tup (ps.map aR),aR l,M7 ns],hh):=fun hh=>bF (by exact eV (wM (.use a ps (some l))) (m:=[M7 ns]) (by rw[am,PV.pure,gn fun x hx=>(H x hx).1];rfl)) hh (by intro l q;cases q);simp only[bV]at fz s1;simp[EV,av,aZ,TX,bV,tgd,ai,fz,s1,aK]
noncomputable def lv:Nat->Nat
 |0=>0
 |d+1=>lv d+3
theorem As:∀(d k:Nat){x:Nd},Xq d x->x.sh.length<=5000000->F (k+lv d+4) .u9 [x.pv]=.ok (.str x.sh):=by
 intro d
 induction d with
 |zero=>
  intro k x h z;generalize hd:0=d at h
  cases h with
  |txt _ l=>exact yW _ l z
  |place o=>exact tR _ o z
  |body o=>exact vr _ z
  |use o=>exact yV _ z
  |fin _ _ _ _ _ _=>cases hd
 |succ d ih=>
  intro k x h z
  cases h with
  |txt _ l=>exact yW _ l z
  |place o=>exact tR _ o z
  |body o=>exact vr _ z
  |use o=>exact yV _ z
  |@fin _ f o op np ns ys bl=>
   have inn:∀{l:List Nd},(∀x∈l,Xq d x)->Inn (k+lv d) l:=fun h x hx=>⟨(h x hx).pure,(h x hx).ne,fun zx=>ih k (h x hx) zx⟩
   obtain⟨c,l,yes,bt⟩:=f;have H:=inn ns
   cases c with
   |loop n p=>exact GG (k+lv d) H (b:=bt.getD []) (by cases bt with|none=>intro c hc;cases hc|some b=>exact bl b rfl) z
   |cond p=>
    cases yes with
    |none=>
     have e0:m7 (ar (.cond p))++shs l++Yo []++m7 bL=m7 (ar (.cond p))++shs l++m7 bL:=by unfold Yo;simp
     have:=zD (k+lv d) (p:=p) H (ns:=[]) (fun x hx=>nomatch hx) (by rw[e0];exact z);rw[e0]at this;exact this
    |some y=>exact zD (k+lv d) (inn (ys y rfl)) H z
   |use a ps us=>
    cases us with
    |none=>cases op
    |some l=>exact Jj (k+lv d) H z
   |piece a l m=>exact absurd rfl (np a l m)
   |_=>cases op
structure JG(f:o7):Prop where
 pc:∃a l m,f.c=.piece a l m
 o:f.c.Ok
 ns:∀x∈f.ns,Xq 8 x
 ys:f.yes=none
theorem JL{d:Nat}(h:d<4):Em (d:Int)=[48+d]:=by
 match d,h with
 |0,_=>rfl
 |1,_=>rfl
 |2,_=>rfl
 |3,_=>rfl
theorem JR{d:Nat}(h:d<4):((d:Nat):Int).natAbs.log2<1920:=by
 match d,h with
 |0,_=>decide
 |1,_=>decide
 |2,_=>decide
 |3,_=>decide
theorem yA(k:Nat)(o:JG f)(z:f.fin.sh.length<=5000000):F (k+lv 8+6) .SN [f.fin.pv]=.ok (.str f.fin.sh):=by
 obtain⟨⟨a,l,m,ec⟩,oc,hn,_⟩:=o;obtain⟨c,ns,yes,bt⟩:=f;dsimp only at ec oc hn;subst ec;have H:Inn (k+lv 8) ns:=fun x hx=>⟨(hn x hx).pure,(hn x hx).ne,fun zx=>As 8 k (hn x hx) zx⟩
 generalize k+lv 8=j at*
 replace z:(m7 (ar (.piece a l m))++shs ns++m7 bL).length<=5000000:=z
 simp only[acZ,bx]at z;have zc:(ar (.piece a l m)).length<=5000000:=by lia
 have zt':(ar (.piece a l m)).length=a.length+(aI cs l).length+(hS m).length+8:=by show(fU++a++ [40]++aI cs l++ [41]++hS m).length=_;simp only[acZ,ac6,adh];lia
 have zz:a.length+(aI cs l).length+(hS m).length+8+2+(shs ns).length+5<=5000000:=by
  simp only[ac6,adh]at z
  lia
 have sc:F (j+5) .d7 [.str (fU++a++ [40]++aI cs l++ [41]++hS m)]=_:=d7 (j+4) zc;have sn:=ia j H ⋯;have fn:=pG fun x hx=>(H x hx).1;have jn:=fun h=>xh (y:=cs) (ls:=l) (h:=h) ⋯ ⋯ ⋯;have hh:m7 (ar (.piece a l m))=m7 (fU++a++ [40]++aI cs l++ [41]++hS m):=rfl;have zl:(m7 (ar (.piece a l m))).length=a.length+(aI cs l).length+(hS m).length+10:=by rw[bx,zt']
 show av (gZ (F (j+5))) 1 4 [.tup [.str cf,.str a,.tup (l.map PV.str),oY m,M7 ns]]=.ok (.str (m7 (ar (.piece a l m))++shs ns++m7 bL));rw[<- hh]at sc
 cases m with
 |none=>simp only[fU,hS,adY,aeh,ade,adD,adh]at sc zz zl;generalize m7 (ar (.piece a l none))=hd at*;simp(disch:=(first|lia|(simp only[acZ,ac6,adh];lia)))[EW,ade,oY,av,gZ,at1,at2,V3,Xp,ai,fn,sn,bD,bW,jn,sc,aK];rfl
 |some d=>have hd4:=oc.2.2 d rfl;have sd:=JL hd4;have ld:=JR hd4;have isd:bP (.int (d:Nat))=false:=rfl;simp only[fU,hS,lI,adY,aeh,ade,ac6,adh]at sc zz zl;generalize m7 (ar (.piece a l (some d)))=hd at*;simp(disch:=(first|lia|(simp only[acZ,ac6,adh];lia)))[EW,ade,oY,av,gZ,at1,at2,V3,Xp,ai,fn,sn,bD,isd,ld,sd,jn,sc,aK];rfl
def wT(o:JG f):f.fin.pv.pure=true:=kc (fun x hx=>(o.ns x hx).pure) (fun y e=>by rw[o.ys]at e;cases e)
def AT(k:Nat)(H:∀x∈l,∃f:o7,x=f.fin/\JG f)(z:(shs l).length<=5000000):F (k+lv 8+7) .shown [M7 l]=.ok (.str (shs l)):=by
 show av (xG (F (k+lv 8+6))) 1 1 [M7 l]=_
 have ne:∀x∈l,x.sh≠ []:=fun x hx=>by obtain⟨f,rfl,o⟩:=H x hx;obtain⟨a,b,m,e⟩:=o.pc;exact GF (by rw[e];rfl)
 have cm:=oz (te:=qA (F (k+lv 8+6))) (cp:=bX [] [some (M7 l)]) (h:=[]) (f:=Nd.pv) (g:=fun x=>.str x.sh) l fun x hx=>by obtain⟨f,rfl,o⟩:=H x hx;have pu:=wT o;have sp:=yA k o (adu (sT hx) z);have fz:∀hh,cO hh f.fin.pv=some (f.fin.pv,hh):=fun hh=>Z.bF hh pu;have dx:=Kn f.fin pu;simp[EV,qA,dx,ai,fz,sp]
 have ll:=wm ne;have ln:(l.map Nd.pv).length<16777216:=by rw[ac2];lia
 have jn:=kF (ls:=l.map Nd.sh) (h:=[]) (by rw[lS];exact adu z ⋯);rw[adB]at jn
 replace jn:gu (.str []) [.lst (l.map fun x=>PV.str x.sh)] []=.ok (.str (l.map Nd.sh).flatten) []:=jn
 simp[EV,av,xG,ln,cm,jn,aK];rfl
end K7.R
namespace K7
structure O7 where
 a:Y1
 f:Ya
variable{d i:Nat}{fn:Y2->Y3->Res PV}{h:Y3}{l ms:Ya}{p:PV}{x:Y1}{α:Type}
noncomputable def H_(p:O7):PV:=.tup (.str p.a::p.f.map PV.str)
def jO(l:List O7):Y2:=l.map H_
noncomputable def nms(l:Ya):PV:=.tup (l.map PV.str)
set_option genInjectivity true in
mutual
inductive Nd where
 |text (s:Y1)
 |place (p:O7) (w:Y1)
 |loop (n:Y1) (p:O7) (ns:K3) (b:Y1)
 |choice (p:O7) (y n:K3)
 |use (n:Y1) (ps:List O7)
 |I_ (n:Y1) (ps:List O7) (h:Ya) (b:K3)
 |body (ps:List O7)
inductive K3 where
 |nil
 |cons (n:Nd) (r:K3)
end
variable{n:Nd}
abbrev tT:Y1:=[116,101,120,116]
abbrev tP:Y1:=[112,108,97,99,101]
abbrev tL:Y1:=[108,111,111,112]
abbrev tC:Y1:=[99,104,111,105,99,101]
abbrev tU:Y1:=[117,115,101]
abbrev tB:Y1:=[98,111,100,121]
abbrev tI:Y1:=[112,105,101,99,101]
mutual
noncomputable def nd:Nd->PV
 |.text s=>.tup [.str tT,.str s]
 |.place p w=>.tup [.str tP,H_ p,.str w]
 |.loop n p ns b=>.tup [.str tL,.str n,H_ p,.tup (q8 ns),.str b]
 |.choice p y n=>.tup [.str tC,H_ p,.tup (q8 y),.tup (q8 n)]
 |.use n ps=>.tup [.str tU,.str n,.tup (jO ps),.non,.non]
 |.I_ n ps h b=>.tup [.str tU,.str n,.tup (jO ps),nms h,.tup (q8 b)]
 |.body ps=>.tup [.str tB,.tup (jO ps)]
noncomputable def q8:K3->Y2
 |.nil=> []
 |.cons n r=>nd n::q8 r
end
structure Pc where
 n:Y1
 ns:Ya
 m:Zp
 b:K3
noncomputable def W7:Zp->PV
 |none=>.non
 |some i=>.int i
def pc(q:Pc):PV:=.tup [.str tI,.str q.n,nms q.ns,W7 q.m,.tup (q8 q.b)]
def bk(l:List Pc):PV:=.tup (l.map pc)
noncomputable def look(E:List Pc)(n:Y1):Option Pc:=E.find? fun q=>q.n==n
def dup(l:Ya):Bool:=decide (rG l<l.length)
def fJ{g:Gx}{b:Sx}{r:Y2}{ρ ρ1 ρ2:Ev}{h2:Y3}(hg:g p ρ=some ρ1)(hb:b ρ1 h=.nx ρ2 h2):bC g b (p::r) ρ h=bC g b r ρ2 h2:=by simp only[bC,hg,hb]
def TX(a:α)(l:List α):S9 (a::l) 0=some a:=eJ ⋯ rfl
def at1(a b:α)(l:List α):S9 (a::b::l) 1=some b:=eJ ⋯ rfl
def at2(a b c:α)(l:List α):S9 (a::b::c::l) 2=some c:=eJ ⋯ rfl
def V3(a b c d:α)(l:List α):S9 (a::b::c::d::l) 3=some d:=eJ ⋯ rfl
def Xp(a b c d e:α)(l:List α):S9 (a::b::c::d::e::l) 4=some e:=eJ ⋯ rfl
def eqk{a b:Y1}(c:Bool)(e:((match o9 (.str a) (.str b) []with|.ok (.bl d) _=>d==c|_=>false)=true)\9)(h:Y3):o9 (.str a) (.str b) h=.ok (.bl c) h:=by
 unfold o9 at e |-
 split at e
 .rename_i d h' z
  split at z
  .rename_i ok
   cases z
   have:TP h (.str a)=true/\TP h (.str b)=true:=ok;rw[if_pos this];have q:=agY e;rw[show TV h (.str a)=TV [] (.str a)from rfl,show TV h (.str b)=TV [] (.str b)from rfl,q]
  .cases z
 .cases e
theorem jJ:∀l:Ya,am (l.map PV.str)=true
 |[]=>rfl
 |a::r=>by rw[ac5,am,jJ r];rfl
def jP(p:O7):(H_ p).pure=true:=by unfold H_;rw[PV.pure,am,jJ];rfl
theorem jN:∀l:List O7,am (jO l)=true
 |[]=>rfl
 |a::r=>by show am (H_ a::jO r)=true;rw[am,jP,jN r];rfl
def yO(l:Ya):(nms l).pure=true:=by unfold nms;rw[PV.pure];exact jJ l
mutual
theorem sw:∀n:Nd,(nd n).pure=true
 |.text s=>by simp[nd,PV.pure,am]
 |.place p w=>by simp[nd,PV.pure,am,jP]
 |.loop n p ns b=>by simp[nd,PV.pure,am,jP,bU ns]
 |.choice p y n=>by simp[nd,PV.pure,am,jP,bU y,bU n]
 |.use n ps=>by simp[nd,PV.pure,am,jN]
 |.I_ n ps h b=>by simp[nd,PV.pure,am,jN,yO,bU b]
 |.body ps=>by simp[nd,PV.pure,am,jN]
theorem bU:∀n:K3,am (q8 n)=true
 |.nil=>by simp[q8,am]
 |.cons n r=>by simp[q8,am,sw n,bU r]
end
def kc{h:Y3}(hp:p.pure=true):aK p h=.ok p:=by unfold aK;rw[bF h hp]
theorem fX(h:Y3)(p:O7):aj h (H_ p)=H_ p:=rfl
theorem MD(h:Y3)(p:Ya):aj h (nms p)=nms p:=rfl
noncomputable def pa:Nd->List O7
 |.text _=> []
 |.place p _=> [p]
 |.loop _ p _ _=> [p]
 |.choice p _ _=> [p]
 |.use _ ps=>ps
 |.I_ _ ps _ _=>ps
 |.body ps=>ps
noncomputable def sgc(l:Y1):Bool:=l.all fun c=>decide (c=10\/(32<=c/\c<127/\c≠37))
def sg(l:Y1):Bool:=decide (l.length<=17)&&sgc l
def CT{l:Y1}(h:sg l=true):sgc l=true:=((acX _ _).mp h).2
def nH{l:Y1}(h:sg l=true):l.length<=17:=of_decide_eq_true ((acX _ _).mp h).1
def lK{l:Y1}(h:sg l=true):∀c∈l,c<1114112:=fun c hc=>by have:=of_decide_eq_true (adn.mp (CT h) c hc);lia
def sgs(l:Ya):Bool:=l.all sg
abbrev sn:Y1->Bool:=R.aM
def Vy(l:Ya):Bool:=l.all sn
def iw{l:Y1}(h:sn l=true):l.length<=8/\∀c∈l,c∈aY:=by unfold sn R.aM at h;rw[acX,acX,decide_eq_true_eq]at h;exact⟨h.1.1.2,fun c hc=>aep.mp (adn.mp h.1.2 c hc)⟩
def RL:∀c∈aY,c=10\/(32<=c/\c<127/\c≠37):=by decide
def sR{l:Y1}(h:sn l=true):sg l=true:=(acX _ _).mpr ⟨decide_eq_true (by have:=(iw h).1;lia),adn.mpr fun c hc=>decide_eq_true (RL c ((iw h).2 c hc))⟩
def Bm(h:Vy l=true):sgs l=true:=adn.mpr fun x hx=>sR (adn.mp h x hx)
def we{w:Y1}(h:decide (w∈bu)=true):sg w=true:=(by decide:∀w∈bu,sg w=true) w (of_decide_eq_true h)
def hT:K3->Bool
 |.cons (.text _) _=>true
 |_=>false
theorem qP:∀l:Ya,gz (l.map PV.str)=some l
 |[]=>rfl
 |a::r=>by rw[ac5,gz,qP r];rfl
theorem Me:bP .non=true:=rfl
theorem Rg(l:Y2):bP (.tup l)=false:=rfl
theorem BZ:∀{l:Y2}(h:Y3),am l=true->Vl l h=some (l,h)
 |[],_,_=>rfl
 |p::r,h,e=>by rw[am,acX]at e;rw[Vl,bF h e.1];dsimp only;rw[BZ h e.2]
def eF{fn:Y2->Out}{ps:Y2}{v:PV}(h:Y3)(hp:am ps=true)(e:fn ps=.ok v):fM fn ps h=.ok v h:=by rw[ai,BZ h hp];dsimp only;rw[e]
def wT(q:Pc):(pc q).pure=true:=by
 unfold pc
 cases h:q.m<;>simp[PV.pure,am,yO,bU,W7]
def Az(h:Y3)(m:Zp):aj h (W7 m)=W7 m:=by cases m<;>rfl
def yP(h:Y3)(n:Nd):aj h (nd n)=nd n:=mQ (h:=h) (sw n)
def wp(p:O7):Bool:=sn p.a&&(Vy p.f&&decide (p.f.length<=3))
def wps(l:List O7):Bool:=l.all wp&&decide (l.length<5)
mutual
noncomputable def wN:Nd->Bool
 |.text s=>sg s&&decide (1<=s.length/\s.length<=1000)
 |.place p w=>wp p&&decide (w∈bu)
 |.loop n p b t=>sn n&&(wp p&&(wS b&&sg t))
 |.choice p y n=>wp p&&(wS y&&wS n)
 |.use n ps=>sn n&&wps ps
 |.I_ n ps h b=>sn n&&(wps ps&&(Vy h&&(decide (h.length<5)&&wS b)))
 |.body ps=>wps ps
noncomputable def wS:K3->Bool
 |.nil=>true
 |.cons n r=>wN n&&(wS r&&!(hT (.cons n .nil)&&hT r))
end
mutual
noncomputable def dN:Nd->Nat
 |.loop _ _ b _=>dS b+1
 |.choice _ y n=>max (dS y) (dS n)+1
 |.I_ _ _ _ b=>dS b+1
 |_=>0
noncomputable def dS:K3->Nat
 |.nil=>0
 |.cons n r=>max (dN n) (dS r)
end
theorem xL(a b:Y2)(h:Y3)(q:a.length+b.length<=sizeLine):ak (.tup a) (.tup b) h=.ok (.tup (a++b)) h:=by
 cases a with
 |nil=>rfl
 |cons x r=>show(if(x::r).isEmpty=false/\(x::r).length+b.length<=sizeLine then Res.ok (PV.tup (x::r++b)) h else .bad)=_;rw[if_pos ⟨rfl,q⟩]
def Hu{a b:Ya}(ha:Vy a=true)(hb:Vy b=true):Vy (a++b)=true:=by unfold Vy at*;rw[ais,ha,hb];rfl
noncomputable def kT:Nd->Y1
 |.text _=>tT
 |.place _ _=>tP
 |.loop _ _ _ _=>tL
 |.choice _ _ _=>tC
 |.use _ _=>tU
 |.I_ _ _ _ _=>tU
 |.body _=>tB
theorem kt1(s:Y1):kT (.text s)=tT:=rfl
theorem kt2(p:O7)(s:Y1):kT (.place p s)=tP:=rfl
theorem kt3(x:Y1)(p:O7)(b:K3)(t:Y1):kT (.loop x p b t)=tL:=rfl
theorem kt4(p:O7)(y z:K3):kT (.choice p y z)=tC:=rfl
theorem kt5(x:Y1)(ps:List O7):kT (.use x ps)=tU:=rfl
theorem kt6(x:Y1)(ps:List O7)(h:Ya)(b:K3):kT (.I_ x ps h b)=tU:=rfl
theorem kt7(ps:List O7):kT (.body ps)=tB:=rfl
abbrev qE(a b:Y1)(c:Bool)(h:Y3):Prop:=o9 (.str a) (.str b) h=.ok (.bl c) h
section
variable(h:Y3)
theorem Vx:qE tT tT true h/\qE tT tP false h/\qE tT tL false h/\qE tT tC false h/\qE tT tU false h/\qE tT tB false h/\qE tP tT false h/\qE tP tP true h/\qE tP tL false h/\qE tP tC false h/\qE tP tU false h/\qE tP tB false h/\qE tL tT false h/\qE tL tP false h/\qE tL tL true h/\qE tL tC false h/\qE tL tU false h/\qE tL tB false h/\qE tC tT false h/\qE tC tP false h/\qE tC tL false h/\qE tC tC true h/\qE tC tU false h/\qE tC tB false h/\qE tU tT false h/\qE tU tP false h/\qE tU tL false h/\qE tU tC false h/\qE tU tU true h/\qE tU tB false h/\qE tB tT false h/\qE tB tP false h/\qE tB tL false h/\qE tB tC false h/\qE tB tU false h/\qE tB tB true h:=by
 repeat' apply And.intro
 all_goals exact eqk _ (h:=h)
theorem Ql(n:Nd):b_ (nd n) (.int 0) h=.ok (.str (kT n)) h:=by cases n<;>(rw[nd];rfl)
theorem Ov(p:O7)(w:Y1):b_ (nd (.place p w)) (.int 1) h=.ok (H_ p) h/\b_ (nd (.place p w)) (.int 2) h=.ok (.str w) h:=by rw[nd];exact⟨rfl,rfl⟩
theorem Ow(x:Y1)(p:O7)(b:K3)(t:Y1):b_ (nd (.loop x p b t)) (.int 1) h=.ok (.str x) h/\b_ (nd (.loop x p b t)) (.int 2) h=.ok (H_ p) h/\b_ (nd (.loop x p b t)) (.int 3) h=.ok (.tup (q8 b)) h/\b_ (nd (.loop x p b t)) (.int 4) h=.ok (.str t) h:=by rw[nd];exact⟨rfl,rfl,rfl,rfl⟩
theorem Oy(p:O7)(y z:K3):b_ (nd (.choice p y z)) (.int 1) h=.ok (H_ p) h/\b_ (nd (.choice p y z)) (.int 2) h=.ok (.tup (q8 y)) h/\b_ (nd (.choice p y z)) (.int 3) h=.ok (.tup (q8 z)) h:=by rw[nd];exact⟨rfl,rfl,rfl⟩
theorem Ou(x:Y1)(ps:List O7):b_ (nd (.use x ps)) (.int 1) h=.ok (.str x) h/\b_ (nd (.use x ps)) (.int 2) h=.ok (.tup (jO ps)) h/\b_ (nd (.use x ps)) (.int 3) h=.ok .non h/\b_ (nd (.use x ps)) (.int 4) h=.ok .non h:=by rw[nd];exact⟨rfl,rfl,rfl,rfl⟩
theorem Ot(x:Y1)(ps:List O7)(hs:Ya)(b:K3):b_ (nd (.I_ x ps hs b)) (.int 1) h=.ok (.str x) h/\b_ (nd (.I_ x ps hs b)) (.int 2) h=.ok (.tup (jO ps)) h/\b_ (nd (.I_ x ps hs b)) (.int 3) h=.ok (nms hs) h/\b_ (nd (.I_ x ps hs b)) (.int 4) h=.ok (.tup (q8 b)) h:=by rw[nd];exact⟨rfl,rfl,rfl,rfl⟩
variable(q:Pc)
theorem Qg:b_ (pc q) (.int 1) h=.ok (.str q.n) h/\b_ (pc q) (.int 2) h=.ok (nms q.ns) h/\b_ (pc q) (.int 3) h=.ok (W7 q.m) h/\b_ (pc q) (.int 4) h=.ok (.tup (q8 q.b)) h:=by refine⟨rfl,rfl,?_,rfl⟩;show Res.ok (aj h (W7 q.m)) h=_;rw[Az]
theorem NI:aj h (pc q)=pc q:=rfl
theorem ut(B:List Pc):aj h (bk B)=bk B:=rfl
end
def mls(x:Int):jV 3 x=true/\jV 5 x=true/\jV 7 x=true/\jV 12 x=true/\jV 31 x=true/\jV 7919 x=true/\jV x 48271=true:=by refine⟨?_,?_,?_,?_,?_,?_,wY ⋯⟩<;>exact FJ ⋯
def wC(q:Pc):Bool:=sn q.n&&(Vy q.ns&&(decide (q.ns.length<60)&&(wS q.b&&decide (dS q.b<=20))))
mutual
noncomputable def R8:Nd->Nat
 |.loop _ _ b _=>I7 b
 |.choice _ y n=>I7 y+I7 n
 |.I_ _ _ _ b=>I7 b
 |_=>0
noncomputable def I7:K3->Nat
 |.nil=>0
 |.cons n r=>R8 n+1+I7 r
end
section
variable{acc:Y2}
def xx(e:h[i]? =some (.lst acc)):aj h (.ref i)=.ref i:=by show(match h[i]? with|some (.E_ q)=>q|_=>PV.ref i)=_;rw[e]
def He(e:h[i]? =some (.lst acc))(x:PV)(hl:acc.length<16000000):bn (.ref i) [x] h=.ok .non (h.set i (.lst (acc++ [x]))):=by
 have e2:iZ h (.ref i)=some (i,acc):=by unfold iZ;simp only[e]
 unfold bn;rw[e2];dsimp only;rw[if_pos (Nat.lt_trans hl ⋯)]
def MR(e:h[i]? =some (.lst acc))(ys:Y2)(hl:acc.length+ys.length<=16000000):ak (.ref i) (.lst ys) h=.ok (.lst (acc++ys)) h:=by show Ap (.ref i) (.lst ys) h=_;unfold Ap;simp only[Yx,e];rw[if_pos (adu hl ⋯)]
end
def fd(d:Nat)(p:PV):Prop:=(toD p).canLay0=true/\(toD p).depth<=d/\p.pure=true
def fds(d:Nat)(l:Y2):Prop:=PyData.canLayAll0 (eh l)=true/\PyData.depthAll (eh l)<=d/\am l=true
def bw(d:Nat):fds d []:=⟨by simp[eh,PyData.canLayAll0],by simp[eh,PyData.depthAll],by simp[am]⟩
def aB{l:Y2}(h:fd d p)(t:fds d l):fds d (p::l):=by
 refine⟨?_,?_,?_⟩
 .simp only[eh,PyData.canLayAll0,h.1,t.1,ahR]
 .simp only[eh,PyData.depthAll];exact aix.mpr ⟨h.2.1,t.2.1⟩
 .simp only[am,h.2.2,t.2.2,ahR]
def GH{l:Y2}(h:fds d l):fd (d+1) (.lst l):=by
 refine⟨?_,?_,?_⟩
 .simp only[toD,PyData.canLay0,h.1]
 .simp only[toD,PyData.depth];have:=h.2.1;lia
 .simpa[PV.pure]using h.2.2
def cI{l:Y2}(h:fds d l):fd (d+1) (.tup l):=by
 refine⟨?_,?_,?_⟩
 .simp only[toD,PyData.canLay0,h.1]
 .simp only[toD,PyData.depth];have:=h.2.1;lia
 .simpa[PV.pure]using h.2.2
def aV{e:Nat}(h:fd d p)(le:d<=e):fd e p:=⟨h.1,adu h.2.1 le,h.2.2⟩
def ue{e:Nat}{l:Y2}(h:fds d l)(le:d<=e):fds e l:=⟨h.1,adu h.2.1 le,h.2.2⟩
def xv{l:Y2}(hl:fds 59 l)(h:Y3):o9 (.lst l) (.lst []) h=.ok (.bl l.isEmpty) h:=by
 have ok:TP h (.lst l)=true:=by
  unfold TP TV;have:=hl.2.1;simp only[toD,PyData.canLay0,PyData.depth,hl.1,aeT,decide_eq_true_eq]
  lia
 unfold o9;rw[if_pos ⟨ok,rfl⟩]
 cases l<;>rfl
def Ix{l:Y2}(hl:fds 59 l)(h:Y3):Vs (.lst l) (.lst []) h=.ok (.bl (!l.isEmpty)) h:=by
 have ok:TP h (.lst l)=true:=by
  unfold TP TV;have:=hl.2.1;simp only[toD,PyData.canLay0,PyData.depth,hl.1,aeT,decide_eq_true_eq]
  lia
 unfold Vs;rw[if_pos ⟨ok,rfl⟩]
 cases l<;>rfl
def um(l:List α)(b:Nat):cut l none (some (b:Int))=l.take b:=by
 unfold cut;rw[Z.Tt,Z.Q9,afi,ahd];rcases agz b l.length with q|q
 .rw[ae3 q]
 .rw[agg q,ad0 (acY _),ad0 q]
def Hv(xs:Y2)(lo hi:Zp)(h:Y3):nQ (.tup xs) lo hi h=.ok (.tup (cut xs lo hi)) h:=by
 unfold nQ;dsimp only
 split
 .rename_i hz;unfold cut;rw[hz.1,hz.2];simp
 .rfl
def KD(xs:Y2)(j:Nat)(h:Y3):nQ (.tup xs) none (some (j:Int)) h=.ok (.tup (xs.take j)) h:=by rw[Hv,um]
def dE{l:Y1}(h:sg l=true):fd d (.str l):=⟨by simp only[toD,PyData.canLay0];simp[PyData.strOk,S];exact fun c hc=>lK h c hc,by simp[toD,PyData.depth],by simp[PV.pure]⟩
def AM(d:Nat):fd d .non:=⟨by simp[toD,PyData.canLay0],by simp[toD,PyData.depth],by simp[PV.pure]⟩
theorem ud{d:Nat}:∀{l:Ya},sgs l=true->fds d (l.map PV.str)
 |[],_=>bw d
 |a::r,h=>by rw[sgs,aeK,acX]at h;exact aB (dE h.1) (ud h.2)
def My(h:sgs l=true):fd (d+1) (nms l):=cI (ud h)
def og{p:O7}(h:wp p=true):fd (d+1) (H_ p):=by rw[wp,acX,acX]at h;exact cI (aB (dE (sR h.1)) (ud (Bm h.2.1)))
theorem pH{d:Nat}:∀{l:List O7},l.all wp=true->fds (d+1) (jO l)
 |[],_=>bw _
 |a::r,h=>by rw[aeK,acX]at h;exact aB (og h.1) (pH h.2)
def wc{l:List O7}(h:wps l=true):l.all wp=true:=by rw[wps,acX]at h;exact h.1
def qZ:sg tT=true/\sg tP=true/\sg tL=true/\sg tC=true/\sg tU=true/\sg tB=true/\sg tI=true:=by decide
mutual
theorem Km:∀{n:Nd},wN n=true->fd (2 * dN n+4) (nd n)
 |.text s,h=>by rw[wN]at h;rw[nd];exact aV (cI (aB (dE qZ.1) (aB (dE ((acX _ _).mp h).1) (bw 0)))) ⋯
 |.place p w,h=>by rw[wN,acX]at h;rw[nd];exact aV (cI (d:=1) (aB (dE qZ.2.1) (aB (og h.1) (aB (dE (we h.2)) (bw 1))))) ⋯
 |.loop x p b t,h=>by rw[wN,acX,acX,acX]at h;rw[nd,dN];have q:=cI (qz h.2.2.1);exact aV (cI (aB (dE qZ.2.2.1) (aB (dE (sR h.1)) (aB (aV (og (d:=0) h.2.1) ⋯) (aB q (aB (dE h.2.2.2) (bw _))))))) ⋯
 |.choice p y z,h=>by rw[wN,acX,acX]at h;rw[nd,dN];have m1:=ad4 (dS y) (dS z);have m2:=adX (dS y) (dS z);have q1:=aV (e:=2 * max (dS y) (dS z)+5) (cI (qz h.2.1)) ⋯;have q2:=aV (e:=2 * max (dS y) (dS z)+5) (cI (qz h.2.2)) ⋯;exact aV (cI (aB (dE qZ.2.2.2.1) (aB (aV (og (d:=0) h.1) ⋯) (aB q1 (aB q2 (bw _)))))) ⋯
 |.use x ps,h=>by rw[wN,acX]at h;rw[nd];exact aV (cI (d:=2) (aB (dE qZ.2.2.2.2.1) (aB (dE (sR h.1)) (aB (cI (pH (wc h.2))) (aB (AM _) (aB (AM _) (bw 2))))))) ⋯
 |.I_ x ps hs b,h=>by rw[wN,acX,acX,acX,acX]at h;rw[nd,dN];have q:=cI (qz h.2.2.2.2);exact aV (cI (aB (dE qZ.2.2.2.2.1) (aB (dE (sR h.1)) (aB (aV (cI (pH (d:=0) (wc h.2.1))) ⋯) (aB (aV (My (d:=0) (Bm h.2.2.1)) ⋯) (aB q (bw _))))))) ⋯
 |.body ps,h=>by rw[wN]at h;rw[nd];exact aV (cI (d:=2) (aB (dE qZ.2.2.2.2.2.1) (aB (cI (pH (wc h))) (bw 2)))) ⋯
theorem qz:∀{b:K3},wS b=true->fds (2 * dS b+4) (q8 b)
 |.nil,_=>by rw[q8];exact bw _
 |.cons n r,h=>by rw[wS,acX,acX]at h;rw[q8,dS];have m1:=ad4 (dN n) (dS r);have m2:=adX (dN n) (dS r);exact aB (aV (Km h.1) ⋯) (ue (qz h.2.1) ⋯)
end
theorem AL{α:Type}{tt:Tx}{te:Ex}{cp:Ev}{h:Y3}(f:α->PV)(T:α->Bool)(g:α->PV):∀l:List α,(∀x∈l,tt (some (f x)::cp) h=.ok (T x) h)->(∀x∈l,te (some (f x)::cp) h=.ok (g x) h)->cD tt te cp (l.map f) h=.ok ((l.filter T).map g) h
 |[],_,_=>rfl
 |x::r,h1,h2=>by
  have ih:=AL f T g r (fun z hz=>h1 z (ac1 _ hz)) fun z hz=>h2 z (ac1 _ hz);rw[ac5,cD,h1 x ac4];simp only[Res.C_]
  cases e:T x with
  |true=>rw[if_pos rfl,h2 x ac4,List.filter_cons_of_pos e];simp only[Res.C_,ih,ac5]
  |false=>rw[if_neg ⋯,ih,List.filter_cons_of_neg (by rw[e];decide)]
def GJ{a b:Y1}(ha:sg a=true)(hb:sg b=true)(h:Y3):o9 (.str a) (.str b) h=.ok (.bl (decide (a=b))) h:=jD a b h (lK ha) (lK hb)
def wZ{te:Ex}{cp:Ev}(f g:α->PV)(l:List α)(h2:∀x∈l,te (some (f x)::cp) h=.ok (g x) h):cD bg te cp (l.map f) h=.ok (l.map g) h:=by rw[AL f (fun _=>true) g l (fun _ _=>rfl) h2,ahL.mpr fun _ _=>rfl]
theorem jQ:∀B:List Pc,am (B.map pc)=true
 |[]=>rfl
 |q::r=>by rw[ac5,am,wT,jQ r];rfl
abbrev Sz:=Int×Int×Int×Int
noncomputable def Zq:K3->K3->K3
 |.nil,z=>z
 |.cons n r,z=>.cons n (Zq r z)
theorem FG:∀(y z:K3),q8 (Zq y z)=q8 y++q8 z
 |.nil,z=>by rw[Zq,q8];rfl
 |.cons n r,z=>by rw[Zq,q8,q8,FG r z];rfl
theorem GV:∀(y z:K3),I7 (Zq y z)=I7 y+I7 z
 |.nil,z=>by rw[Zq,I7];lia
 |.cons n r,z=>by rw[Zq,I7,I7,GV r z];lia
theorem sk:∀b:K3,(q8 b).length<=I7 b
 |.nil=>by rw[q8,I7];simp
 |.cons n r=>by rw[q8,I7,ac6];have:=sk r;lia
def Yn{v:PV}{o:PO}(hv:v.pure=true)(ho:o.pure=true):kW 1 v [o]=.ok v [o]:=by unfold kW;rw[bF _ hv];dsimp only;unfold qC;simp[eG,ho]
noncomputable def cB:Nat->Nat
 |0=>0
 |j+1=>7 * cB j+21
theorem FS(i n:Nat)(l2:Y2)(h2:am l2=true):∀(l1:Y2),am l1=true->Wz (l1++.ref i::l2)=[i]/\Y8 n (l1++.ref i::l2)=l1++.ref n::l2/\qr (l1++.ref i::l2)=true
 |[],_=>by
  have e:∀(l:Y2),am l=true->Wz l= []/\(∀n,Y8 n l=l)/\qr l=true:=fun l hl=>by
   induction l with
   |nil=>exact⟨rfl,fun _=>rfl,rfl⟩
   |cons p r ih=>
    rw[am,acX]at hl;obtain⟨a,b,c⟩:=ih hl.2;have np:∀i,p≠.ref i:=fun i e=>by have:=hl.1;subst e;simp[PV.pure]at this
    have e:qr (p::r)=(p.pure&&qr r):=by cases p<;>first|rfl|exact(np _ rfl).elim
    refine⟨?_,fun n=>?_,by rw[e,hl.1,c];rfl⟩
    .cases p<;>first|exact a|exact(np _ rfl).elim
    .cases p<;>first|exact congrArg _ (b n)|exact(np _ rfl).elim
  obtain⟨a,b,c⟩:=e l2 h2;refine⟨?_,?_,c⟩
  .show i::Wz l2=_;rw[a]
  .show PV.ref n::Y8 (n+1) l2=_;rw[b];rfl
 |p::r,h=>by
  rw[am,acX]at h;obtain⟨a,b,c⟩:=FS i n l2 h2 r h.2;have np:∀i,p≠.ref i:=fun i e=>by have:=h.1;subst e;simp[PV.pure]at this
  have e:qr (p::(r++.ref i::l2))=(p.pure&&qr (r++.ref i::l2)):=by cases p<;>first|rfl|exact(np _ rfl).elim
  rw[adY];refine⟨?_,?_,by rw[e,h.1,c];rfl⟩
  .cases p<;>first|exact a|exact(np _ rfl).elim
  .cases p<;>first|exact congrArg _ b|exact(np _ rfl).elim
def iU(l1 l2:Y2){o o':PO}{v:PV}(h1:am l1=true)(h2:am l2=true)(ho:h[i]? =some o)(oo:o.pure=true)(e:fn (l1++.ref 0::l2) [o]=.ok v [o'])(hv:v.pure=true)(ho':o'.pure=true):
  I9 fn (l1++.ref i::l2) h=.ok v (h.set i o'):=by
 obtain⟨q1,q2,q3⟩:=FS i 0 l2 h2 l1 h1;have e4:nZ h [i]=some [o]:=by simp[nZ,ho]
 unfold I9;rw[q1,e4];dsimp only;rw[q3,q2,e];have e5:(true&&eG [o]&&nS [i])=true:=by simp[eG,oo,nS]
 rw[if_pos e5];dsimp only;rw[if_pos ⟨hv,by simp[eG,ho'],rfl⟩];rfl
inductive Hd where
 |nil
 |cons (b:K3) (i:Int) (h:Hd)
def hv:Hd->PV
 |.nil=>.non
 |.cons b i h=>.tup [.tup (q8 b),.int i,hv h]
abbrev Uj(i:Int):PO:=.lst [.int i]
theorem oZ(i:Int):(Uj i).pure=true:=rfl
noncomputable def upO:Option (Nat×Nat)->Option (Nat×Nat)
 |none=>none
 |some a=>some (a.1+1,a.2+1)
noncomputable def cR(g:Nd->Option (Nat×Nat)):K3->Option (Nat×Nat)
 |.nil=>some (0,0)
 |.cons n r=>match g n,cR g r with
  |some a,some b=>some (a.1+b.1,max a.2 b.2)
  |_,_=>none
def Zn(B:List Pc)(rec:K3->Hd->Option (Nat×Nat))(hd:Hd):Nd->Option (Nat×Nat)
 |.loop _ _ b _=>upO (rec b hd)
 |.choice _ y z=>upO (rec (Zq y z) hd)
 |.use x _=>match look B x with
  |none=>none
  |some q=>upO (rec q.b .nil)
 |.I_ x _ _ b=>match look B x with
  |none=>none
  |some q=>upO (rec q.b (.cons b 0 hd))
 |.body _=>match hd with
  |.nil=>some (1,1)
  |.cons b _ h=>upO (rec b h)
 |_=>some (1,1)
def cX(B:List Pc):Nat->K3->Hd->Option (Nat×Nat)
 |0=>fun _ _=>none
 |f+1=>fun b hd=>cR (Zn B (cX B f) hd) b
theorem sV(f:Nat->Y1):∀(n:Nat)(x:Y1),x∈eK f n↔∃i,i<n/\f i=x
 |0,x=>by simp[eK]
 |n+1,x=>by
  rw[eK,yR,sV f n x];constructor
  .rintro(⟨i,h,e⟩|e)
   .exact⟨i,by lia,e⟩
   .exact⟨n,by lia,e.symm⟩
  .rintro⟨i,h,e⟩
   rcases aeJ i n with q|q
   .exact .inl ⟨i,q,e⟩
   .have:i=n:=by lia
    subst this;exact .inr e.symm
theorem wB(f:Nat->Y1):∀n,(eK f n).length<=n
 |0=>acY _
 |n+1=>by
  have:=wB f n;rw[eK,rP]
  split
  .lia
  .rw[acZ,adF];lia
theorem Bp(f:Nat->Y1):∀n,(eK f n).length=n↔∀i j,i<j->j<n->f i≠f j
 |0=>⟨fun _ i j _ h=>⋯,fun _=>rfl⟩
 |n+1=>by
  have le:=wB f n;have ih:=Bp f n;rw[eK,rP]
  split
  .rename_i hm;obtain⟨i,hi,e⟩:=(sV f n _).mp hm;exact⟨fun z=>by lia,fun z=>(z i n hi ⋯ e).elim⟩
  .rename_i hm;rw[acZ,adF];constructor
   .intro z i j hij hj e;rcases aeJ j n with q|q
    .exact ih.mp ⋯ i j hij q e
    .have:j=n:=by lia
     subst this;exact hm ((sV f j _).mpr ⟨i,hij,e⟩)
   .intro z;have:=ih.mpr fun i j h g=>z i j h ⋯
    lia
def GL(l:Ya):dup l=false↔l.Nodup:=by
 have h:=Bp (fun i=>l.getD i []) l.length;have le:=wB (fun i=>l.getD i []) l.length;unfold dup rG;rw[decide_eq_false_iff_not];constructor
 .intro z;have:=h.mp ⋯;rw[List.Nodup,agN];intro i j hi hj hij;have:=this i j hij hj;simpa[adA,hi,hj]using this
 .intro z
  have:∀i j,i<j->j<l.length->l.getD i []≠l.getD j []:=fun i j hij hj=>by
   rw[List.Nodup,agN]at z;have hi:i<l.length:=by lia
   have:=z i j hi hj hij;simpa[adA,hi,hj]using this
  have:=h.mpr this
  lia
structure Pe where
 n:Y1
 m:Nat
 h:Zp
noncomputable def Vd(q:Pc):Pe:=⟨q.n,q.ns.length,q.m⟩
noncomputable def Ze(P:List Pe)(x:Y1):Option Pe:=P.find? fun p=>p.n==x
def Zb(P:List Pe)(x:Y1)(l:Nat)(h:Zp):Bool:=match Ze P x with
 |none=>false
 |some p=>decide (p.m=l)&&decide (p.h=h)
abbrev Cx:=List Pe×Zp×Ya
noncomputable def okP(X:Cx)(ps:List O7):Bool:=ps.all fun p=>X.2.2.contains p.a
abbrev moX(X:Cx)(h:Ya):Cx:=(X.1,X.2.1,X.2.2++h)
mutual
noncomputable def okN(X:Cx):Nd->Bool
 |.text _=>true
 |.place p _=>okP X [p]
 |.loop x p b _=>okP X [p]&&Ue (moX X [x]) b
 |.choice p y z=>okP X [p]&&(Ue X y&&Ue X z)
 |.use x ps=>okP X ps&&Zb X.1 x ps.length none
 |.I_ x ps h b=>okP X ps&&(Zb X.1 x ps.length (some (h.length:Int))&&(!dup h&&Ue (moX X h) b))
 |.body ps=>okP X ps&&decide (X.2.1=some (ps.length:Int))
noncomputable def Ue(X:Cx):K3->Bool
 |.nil=>true
 |.cons n r=>okN X n&&Ue X r
end
theorem BM(x:Y1):∀E:List Pc,Ze (E.map Vd) x=(look E x).map Vd
 |[]=>rfl
 |q::r=>by
  have ih:=BM x r;unfold Ze look at*;rw[ac5,agu,agu,ih];show(match q.n==x with|true=>_|false=>_)=_
  cases q.n==x<;>rfl
theorem yL{E:List Pc}{l:Nat}{h:Zp}(e:Zb (E.map Vd) x l h=true):∃q,look E x=some q/\q.ns.length=l/\q.m=h:=by
 unfold Zb at e;rw[BM]at e
 cases z:look E x with
 |none=>rw[z]at e;cases e
 |some q=>rw[z]at e;simp only[aio,acX,decide_eq_true_eq]at e;exact⟨q,rfl,e.1,e.2⟩
def Et{l m:Y1}(h:sgc l=true)(hm:∀c∈m,c∈l)(hl:m.length<=17):sg m=true:=(acX _ _).mpr ⟨decide_eq_true hl,adn.mpr fun c hc=>adn.mp h c (hm c hc)⟩
def Co{l:List α}{a b:Zp}{x:α}(h:x∈cut l a b):x∈l:=by unfold cut at h;exact ago (aeg h)
def Ab{a b:Y1}(ha:sg a=true)(hb:sg b=true)(hl:a.length+b.length<=17):sg (a++b)=true:=by refine(acX _ _).mpr ⟨decide_eq_true (by rw[acZ];exact hl),?_⟩;have h1:=CT ha;have h2:=CT hb;unfold sgc at*;rw[ais,h1,h2];rfl
def xy(l:List α)(a b:Zp):(cut l a b).length<=l.length:=by
 unfold cut;rw[adU,adS]
 lia
def sG{β:Type}(f:α->β)(l:List α)(a b:Zp):cut (l.map f) a b=(cut l a b).map f:=by unfold cut;rw[ac2,List.map_take,List.map_drop]
def Es(h:sgs l=true)(hl:l.flatten.length<=17):sg l.flatten=true:=(acX _ _).mpr ⟨decide_eq_true hl,adn.mpr fun c hc=>by obtain⟨x,hx,hc⟩:=agh.mp hc;exact adn.mp (CT (adn.mp h x hx)) c hc⟩
def Ht{m:Ya}(h:Vy l=true)(hm:∀c∈m,c∈l):Vy m=true:=adn.mpr fun c hc=>adn.mp h c (hm c hc)
def azA(i:Int):Nat:=aY.getD (i % 26).toNat 0
def Hb:aY.length=26:=by decide
def Hc(i:Int):S9 aY (i % 26)=some (azA i):=uA 0 (agw _ ⋯) (by rw[Hb];exact afS _ ⋯)
def fS(a b:Y2)(h:Y3)(q:a.length+b.length<=16777216):ak (.lst a) (.lst b) h=.ok (.lst (a++b)) h:=by show Ap (.lst a) (.lst b) h=_;rw[MQ,if_pos (adu q ⋯)]
noncomputable def Te(ms:Ya):PV:=.lst (ms.map PV.str)
theorem nT(h:Y3)(ms:Ya):aj h (Te ms)=Te ms:=rfl
noncomputable def Rv:Ya:=[[97],[98],[97,98],[98,97],[105,116,101,109],[105,116,101,109,115],[99],[120],[120,121],[121],[114,111,119],[114,111,119,115]]
noncomputable def iu:Ya:=[[97,115],[98,101,116,119,101,101,110],[98,111,100,121],[101,108,115,101],[101,110,100],[102,111,114],[105,102],[105,110],[112,105,101,99,101],[117,115,101],[119,105,116,104]]
def Kc(n:Nd):sg (kT n)=true:=by cases n<;>rfl
noncomputable def Vj:Nd->Bool
 |.text _=>true
 |_=>false
def IS(n:Nd)(h:Y3):o9 (.str (kT n)) (.str tT) h=.ok (.bl (Vj n)) h:=by
 rw[GJ (Kc n) qZ.1]
 cases n<;>rfl
noncomputable def Z5:Nd->Nat
 |.text s=>s.length
 |_=>0
def Wv(l:List Nd):Nat:=(l.map Z5).sum
noncomputable def Xi(l:List Nd):Nat:=(l.map fun n=>R8 n+1).sum
structure Rw(kn:Cx)(d c t:Nat)(l:List Nd):Prop where
 w:∀n∈l,wN n=true/\okN kn n=true/\dN n<=d
 c:Xi l<=c
 t:Wv l<=t
theorem eS(l:List Nd):l.length<=Xi l:=by
 induction l with
 |nil=>exact acY _
 |cons a r ih=>unfold Xi at*;rw[ac5,adQ,ac6];lia
def Cr(a b:List Nd):Xi (a++b)=Xi a+Xi b:=by unfold Xi;rw[adi,ahj]
def oH(a b:List Nd):Wv (a++b)=Wv a+Wv b:=by unfold Wv;rw[adi,ahj]
def Rw.mono{kn:Cx}{c t d' c' t':Nat}{l:List Nd}(h:Rw kn d c t l)(hd:d<=d')(hc:c<=c')(ht:t<=t'):Rw kn d' c' t' l:=
 ⟨fun n hn=>⟨(h.w n hn).1,(h.w n hn).2.1,adu (h.w n hn).2.2 hd⟩,adu h.c hc,adu h.t ht⟩
def Rw.app{kn:Cx}{c t c' t':Nat}{l m:List Nd}(h:Rw kn d c t l)(g:Rw kn d c' t' m):Rw kn d (c+c') (t+t') (l++m):=
 ⟨fun n hn=>by rcases adv.mp hn with z|z<;>first|exact h.w n z|exact g.w n z,by rw[Cr];exact aiy h.c g.c,by rw[oH];exact aiy h.t g.t⟩
theorem Jk{l:List Nd}(h:∀n∈l,wN n=true/\dN n<=20):fds 59 (l.map nd):=by
 induction l with
 |nil=>exact bw _
 |cons a r ih=>have:=h a ac4;exact aB (aV (Km this.1) ⋯) (ih fun n hn=>h n (ac1 _ hn))
def LJ{l:Y2}(hl:fds 59 l):Vs (.ref 0) (.lst []) [.lst l]=.ok (.bl (!l.isEmpty)) [.lst l]:=by
 have ok:TP [.lst l] (.ref 0)=true:=by
  unfold TP TV;have:=hl.2.1;simp only[List.getElem?_cons_zero,PyData.canLay0,PyData.depth,hl.1,aeT,decide_eq_true_eq]
  lia
 unfold Vs;rw[if_pos ⟨ok,rfl⟩]
 cases l<;>rfl
theorem mf:∀l:List Nd,am (l.map nd)=true
 |[]=>rfl
 |a::r=>by rw[ac5,am,sw,mf r];rfl
noncomputable def uD(l:List Nd):Nd->List Nd
 |.text s=>match l.getLast? with
  |some (.text t)=>l.dropLast++ [.text (t++s)]
  |_=>l++ [.text s]
 |n=>l++ [n]
def xK{l:List Nd}(h:Vj n=false):uD l n=l++ [n]:=by cases n<;>first|rfl|cases h
def AZ(n:Nd):uD [] n= [n]:=by cases n<;>rfl
theorem AX{l:List Nd}{m:Nd}(h:Vj m=false):uD (l++ [m]) n=l++ [m]++[n]:=by
 cases n with
 |text s=>rw[uD,ae8];cases m<;>first|rfl|cases h
 |_=>rfl
def AY(l:List Nd)(u s:Y1):uD (l++ [.text u]) (.text s)=l++ [.text (u++s)]:=by rw[uD,ae8,afB]
theorem JD(acc:List Nd)(n:Nd):uD acc n=acc++ [n]\/∃B u s,acc=B++ [.text u]/\n=.text s/\uD acc n=B++ [.text (u++s)]:=by
 cases t:Vj n with
 |false=>exact .inl (xK t)
 |true=>
  obtain⟨s,rfl⟩:∃s,n=.text s:=by cases n<;>first|exact⟨_,rfl⟩|cases t
  rcases aeb acc with rfl|⟨B,m,rfl⟩
  .exact .inl (AZ _)
  .rw[aec]
   cases tm:Vj m with
   |false=>exact .inl (AX tm)
   |true=>
    obtain⟨u,rfl⟩:∃u,m=.text u:=by cases m<;>first|exact⟨_,rfl⟩|cases tm
    exact .inr ⟨B,u,s,rfl,rfl,AY ..⟩
theorem Fs(k:Nat)(v:PV)(acc:List Nd)(n:Nd)(hf:fds 59 (acc.map nd))(hl:acc.length<16777216)(ht:Wv acc+Z5 n<=1000000):gc (F k) [some v,some (.ref 0),some (nd n)] [.lst (acc.map nd)]=.nx [some v,some (.ref 0),some (nd n)] [.lst ((uD acc n).map nd)]:=by
 have d0:∀xs:Y2,aj [.lst xs] (.ref 0)=.ref 0:=fun xs=>rfl;have li:∀xs,cC [.lst xs] (.ref 0)=true:=fun _=>rfl;have ne:=LJ hf
 have ap:bn (.ref 0) [nd n] [.lst (acc.map nd)]=.ok .non [.lst ((acc++ [n]).map nd)]:=by rw[Pg,if_pos (by rw[ac2];exact aeI hl ⋯),adi];rfl
 cases t:Vj n with
 |false=>rw[xK t];simp[EH,gc,IS,t,d0,li,ap]
 |true=>
  obtain⟨s,rfl⟩:∃s,n=.text s:=by cases n<;>first|exact⟨_,rfl⟩|cases t
  rcases aeb acc with rfl|⟨B,m,rfl⟩
  .rw[AZ];have e0:(!(([]:List Nd).map nd).isEmpty)=false:=rfl;rw[e0]at ne;simp only[adT]at ne ap |-;simp[EH,gc,IS,t,d0,li,ne,ap]
  .rw[aec]at ne ap hl ht |-;have e0:(!((B++ [m]).map nd).isEmpty)=true:=by simp
   rw[e0]at ne
   have ixl:b_ (.ref 0) (.int (-1)) [.lst ((B++ [m]).map nd)]=.ok (nd m) [.lst ((B++ [m]).map nd)]:=by
    show(match S9 ((B++ [m]).map nd) (-1)with|some v=>Res.ok (aj [.lst ((B++ [m]).map nd)] v) [.lst ((B++ [m]).map nd)]|none=>.bad)=_;have q:S9 ((B++ [m]).map nd) (-1)=some (nd m):=by rw[adi];exact sJ _ _
    rw[q];show Res.ok (aj _ (nd m)) _=_;rw[yP]
   cases tm:Vj m with
   |false=>rw[AX tm];simp[EH,gc,IS,t,tm,d0,li,ne,ixl,ap]
   |true=>
    obtain⟨u,rfl⟩:∃u,m=.text u:=by cases m<;>first|exact⟨_,rfl⟩|cases tm
    rw[AY];have al:u.length+s.length<=16777216:=by rw[oH]at ht;simp only[Wv,ac5,adT,adQ,agB,Z5]at ht;lia
    have st:∀ ρ v,gA v (.ref 0) (.int (-1)) ρ [.lst ((B++ [Nd.text u]).map nd)]=.nx ρ [.lst (B.map nd++ [v])]:=fun ρ v=>by
     show(match WX ((B++ [Nd.text u]).map nd).length (-1)with|some j=>SR.nx ρ [.lst (((B++ [Nd.text u]).map nd).set j v)]|none=>.bad)=_;have:WX ((B++ [Nd.text u]).map nd).length (-1)=some B.length:=by unfold WX;simp;lia
     rw[this];dsimp only;rw[adi]
     congr 3
     rw[aeZ _ _ (by simp)];simp
    have i1:∀z h,b_ (nd (.text z)) (.int 1) h=.ok (.str z) h:=fun z h=>by rw[nd];rfl
    have ma:(B++ [Nd.text (u++s)]).map nd=B.map nd++ [.tup [.str tT,.str (u++s)]]:=by simp[nd]
    simp[EH,gc,IS,t,tm,d0,li,ne,ixl,st,i1,al,ma]
def na(l:List Nd):Prop:=∀A x y C,l=A++x::y::C->¬ (Vj x=true/\Vj y=true)
structure Rwn(kn:Cx)(d c t:Nat)(l:List Nd):Prop extends Rw kn d c t l where
 a:na l
def BK{l:List Nd}(h:na l)(q:Vj n=false\/∀A x,l=A++ [x]->Vj x=false):na (l++ [n]):=fun A x y C e=>by
 rcases aeb C with rfl|⟨D,z,rfl⟩
 .obtain⟨e1,e2⟩:=aez (show l++ [n]=(A++ [x])++[y] by rw[e];simp) rfl
  cases e2
  intro t;rcases q with q|q
  .rw[q]at t;cases t.2
  .rw[q A x e1]at t;cases t.1
 .rw[aec,show A++x::y::(D++ [z])=(A++x::y::D)++[z] by simp]at e;exact h A x y D (aez e rfl).1
theorem LL{l:List Nd}(h:na l)(n:Nd):na (uD l n):=by
 cases t:Vj n with
 |false=>rw[xK t];exact BK h (.inl t)
 |true=>
  obtain⟨s,rfl⟩:∃s,n=.text s:=by cases n<;>first|exact⟨_,rfl⟩|cases t
  rcases aeb l with rfl|⟨B,m,rfl⟩
  .rw[AZ];exact fun A x y C e=>by have:=congrArg List.length e;simp at this;lia
  .rw[aec]at h |-
   cases tm:Vj m with
   |false=>rw[AX tm];exact BK h (.inr fun A x e=>by obtain⟨_,e2⟩:=aez e rfl;cases e2;exact tm)
   |true=>
    obtain⟨u,rfl⟩:∃u,m=.text u:=by cases m<;>first|exact⟨_,rfl⟩|cases tm
    rw[AY];intro A x y C e;rcases aeb C with rfl|⟨D,z,rfl⟩
    .obtain⟨e1,_⟩:=aez (show B++ [Nd.text (u++s)]=(A++ [x])++[y] by rw[e];simp) rfl;intro t;exact h A x (.text u) [] (by rw[e1];simp) ⟨t.1,rfl⟩
    .rw[aec,show A++x::y::(D++ [z])=(A++x::y::D)++[z] by simp]at e;exact h A x y (D++ [.text u]) (by rw[(aez e rfl).1];simp)
theorem yK(kn:Cx)(d c t k:Nat)(hd:d<=20)(hc:c<=1000000)(ht:t<=17)(v:PV):∀(r acc:List Nd)(x2:Option PV),Rw kn d c t (acc++r)->na acc->∃Vw y2,(Rw kn d c t Vw/\na Vw)/\
  bC (N6 2) (gc (F k)) (r.map nd) [some v,some (.ref 0),x2] [.lst (acc.map nd)]=.nx [some v,some (.ref 0),y2] [.lst (Vw.map nd)]
 |[],acc,x2,h,hn=>⟨acc,x2,⟨by rw[adD]at h;exact h,hn⟩,by rw[adT,bC]⟩
 |n::r,acc,x2,h,hn=>by
  have hl:=eS (acc++n::r);have hcc:=h.c;have htt:=h.t;rw[acZ,ac6]at hl;have e1:Wv (acc++n::r)=Wv acc+(Z5 n+Wv r):=by rw[oH];rfl
  have s1:=Fs k v acc n (Jk fun z hz=>⟨(h.w z (ad7 _ hz)).1,adu (h.w z (ad7 _ hz)).2.2 hd⟩) ⋯ ⋯
  have h1:Rw kn d c t (uD acc n++r):=by
   rcases JD acc n with e|⟨B,u,s,rfl,rfl,e⟩<;>rw[e]
   .rw[ade];exact h
   .have wu:=h.w (.text u) (by simp);have ws:=h.w (.text s) (by simp);refine⟨fun z hz=>?_,?_,?_⟩
    .rw[ade]at hz;rcases adv.mp hz with z1|z1
     .exact h.w z (by simp[z1])
     .rcases ac8.mp z1 with z2|z2
      .subst z2;refine⟨?_,rfl,adx _⟩;have a1:=wu.1;have a2:=ws.1;rw[wN,acX]at a1 a2 |-;have:=h.t;simp only[oH]at this;simp only[Wv,ac5,adT,adQ,agB,Z5]at this;exact⟨Ab a1.1 a2.1 ⋯,decide_eq_true (by have:=of_decide_eq_true a1.2;rw[acZ];lia)⟩
      .exact h.w z (by simp[show z∈r from z2])
    .have:=h.c;simp only[Cr]at this |-;simp only[Xi,ac5,adT,adQ,agB,R8]at this |-
     lia
    .have:=h.t;simp only[oH]at this |-;simp only[Wv,ac5,adT,adQ,agB,Z5,acZ]at this |-
     lia
  obtain⟨adN,y2,r1,r2⟩:=yK kn d c t k hd hc ht v r _ (some (nd n)) h1 (LL hn n);refine⟨adN,y2,r1,?_⟩;rw[ac5];exact afC (fJ rfl s1) r2
noncomputable def tv(b:Bool)(xs:Y2):PV:=if b then .tup xs else .lst xs
def Ni(b:Bool)(xs:Y2)(h:Y3):aj h (tv b xs)=tv b xs:=by cases b<;>rfl
def Nh(b:Bool)(xs:Y2)(h:Y3):lW (tv b xs) h=.ok xs h:=by cases b<;>rfl
def Lx(kn:Cx)(d c t k:Nat)(hd:d<=20)(hc:c<=1000000)(ht:t<=17)(b:Bool)(l:List Nd)(h:Rw kn d c t l):∃l',Rwn kn d c t l'/\F (k+1) .TQ [tv b (l.map nd)]=.ok (.tup (l'.map nd)):=by
 obtain⟨l',y2,⟨r0,r1⟩,r2⟩:=yK kn d c t k hd hc ht (tv b (l.map nd)) l [] none h (fun A x y C e=>by cases A<;>cases e);refine⟨l',⟨r0,r1⟩,?_⟩
 have e2:F (k+1) .TQ [tv b (l.map nd)]=match xI (F k) [some (tv b (l.map nd)),none,none] []with
   |.nx _ _=>.ok .non
   |.rt v h=>aK v h
   |_=>.bad:=rfl
 have r2':bC (N6 2) (gc (F k)) (l.map nd) [some (tv b (l.map nd)),some (.ref 0),none] [.lst []]=.nx [some (tv b (l.map nd)),some (.ref 0),y2] [.lst (l'.map nd)]:=r2;have d0:∀xs:Y2,aj [.lst xs] (.ref 0)=.ref 0:=fun xs=>rfl;have tp:dJ [.ref 0] [.lst (l'.map nd)]=.ok (.tup (l'.map nd)) [.lst (l'.map nd)]:=rfl;rw[e2];simp[EH,xI,Ni,Nh,r2',d0,tp];exact kc (by rw[PV.pure];exact mf l')
noncomputable def cv(cs:List Int):PV:=.VB (cs.map PV.int)
theorem mR(cs:List Int):(cv cs).pure=true:=by
 unfold cv;rw[PV.pure]
 induction cs with
 |nil=>rfl
 |cons a r ih=>rw[ac5,am,ih];rfl
theorem bR(cs:List Int)(h:Y3):aj h (cv cs)=cv cs:=rfl
abbrev f9(n m:Int):PO:=.lst [.int n,.int m]
theorem fP(n m:Int):(f9 n m).pure=true:=rfl
theorem Jx(k:Nat)(cs:List Int)(hc:cs.length<=63)(n m:Int)(h0:0<=n)(h1:n<=2000000):∃v,0<=v/\v<400000000/\L (k+1) .J_ [cv cs,.ref 0] [f9 n m]=.ok (.int v) [f9 (n+1) m]:=by
 have Yy:∀i:Int,b_ (.ref 0) (.int 0) [f9 i m]=.ok (.int i) [f9 i m]:=fun m=>rfl;have d0:∀i:Int,aj [f9 i m] (.ref 0)=.ref 0:=fun m=>rfl;have st:∀ ρ,gA (.int (n+1)) (.ref 0) (.int 0) ρ [f9 n m]=.nx ρ [f9 (n+1) m]:=fun ρ=>rfl;have ln:∀h,bK [.VB (cs.map PV.int)] h=.ok (.int cs.length) h:=fun h=>by rw[JV,ac2]
 have m3:∀x:Int,jV x (n+1)=true:=fun x=>wY (dU.mpr ⟨by lia,by lia⟩);have fin:∀b:Int,0<=b * 48271 % 2147483647 / 7/\b * 48271 % 2147483647 / 7<400000000:=fun b=>by lia
 have ct:∀v:Int,kW 1 (.int v) [f9 (n+1) m]=.ok (.int v) [f9 (n+1) m]:=fun v=>rfl
 cases cs with
 |nil=>
  refine⟨_,(fin (31 * (n+1) * (n+1)+7919 * (n+1))).1,(fin _).2,?_⟩;show jL (mH (F k)) 2 4 [.VB [],.ref 0] [f9 n m]=_;have ln0:∀h,bK [.VB []] h=.ok (.int 0) h:=fun h=>rfl;have g0:decide ((0:Int)<0)=false:=by decide
  simp -implicitDefEqProofs[EH,bR,jL,mH,Yy,d0,st,ln0,m3,ct,Int.reduceLT]
 |cons a r=>
  have hl0:(0:Int)<(((a::r).length:Nat):Int):=by rw[ac6];lia
  have hl1:(((a::r).length:Nat):Int)<1073741824:=by lia
  have q0:0<=(n+1) % (((a::r).length:Nat):Int):=agw _ ⋯;have q1:(n+1) % (((a::r).length:Nat):Int)<(((a::r).length:Nat):Int):=afS _ hl0
  have ax:S9 ((a::r).map PV.int) ((n+1) % (((a::r).length:Nat):Int))=some (.int ((a::r).getD ((n+1) % (((a::r).length:Nat):Int)).toNat 0)):=by refine eJ q0 ?_;rw[adO,adA,adz ⋯];rfl
  have dv0:0<=(n+1) / (((a::r).length:Nat):Int):=Int.ediv_nonneg ⋯ ⋯;have dv1:(n+1) / (((a::r).length:Nat):Int)<=n+1:=Int.ediv_le_self _ ⋯;have m5:∀x:Int,jV x (1+(n+1) / (((a::r).length:Nat):Int))=true:=fun x=>wY (dU.mpr ⟨by lia,by lia⟩);have p3:decide ((0:Int)<(((a::r).length:Nat):Int))=true:=decide_eq_true hl0;have p4:decide ((0:Int)<(((a::r).length:Nat):Int)/\(((a::r).length:Nat):Int)<1073741824)=true:=decide_eq_true ⟨hl0,hl1⟩;unfold cv;generalize hL:(((a::r).length:Nat):Int)=Ln at*;generalize hC:(a::r).map PV.int=cl at*;refine⟨_,(fin (31 * (n+1) * (n+1)+7919 * (n+1)+(a::r).getD ((n+1) % Ln).toNat 0 * (1+(n+1) / Ln))).1,(fin _).2,?_⟩;show jL (mH (F k)) 2 4 [.VB cl,.ref 0] [f9 n m]=_;simp -implicitDefEqProofs[EH,bR,jL,mH,Yy,d0,st,ln,p3,ax,m3,m5,p4,ct]
def pev(p:Pe):PV:=.tup [.str p.n,.int p.m,W7 p.h]
structure At where
 ns:Ya
 ps:List Pe
 h:Zp
 ms:Ya
abbrev kN:Y1:=[110,97,109,101,115]
abbrev kP:Y1:=[112,105,101,99,101,115]
abbrev kH:Y1:=[104,97,110,100,101,100]
abbrev kM:Y1:=[109,101,110,117]
def tO(m:Ya):(Te m).pure=true:=by unfold Te;rw[PV.pure];exact jJ m
def mj(hl:ms.length=12)(hs:Vy ms=true)(i:Int)(h0:0<=i)(h1:i<12):∃l,sn l=true/\(∀h,b_ (Te ms) (.int i) h=.ok (.str l) h)/\l∈ms:=by
 have hi:i.toNat<ms.length:=by lia
 refine⟨ms.getD i.toNat [],adn.mp hs _ (jd hi),fun h=>?_,jd hi⟩;unfold Te;rw[tW,eJ (v:=PV.str (ms.getD i.toNat [])) h0 (by rw[adO,adA,adz hi];rfl)];rfl
def bj(x:Int){m:Int}(h:0<m):0<=x % m/\x % m<m:=⟨agw _ ⋯,afS _ h⟩
theorem AA{α:Type}{te:Ex}{cp:Ev}{h:Y3}(f:α->PV)(R:Y1->Prop):∀l:List α,(∀x∈l,∃s,R s/\te (some (f x)::cp) h=.ok (.str s) h)->∃ss:Ya,ss.length=l.length/\(∀s∈ss,R s)/\cD bg te cp (l.map f) h=.ok (ss.map PV.str) h
 |[],_=>⟨[],rfl,by simp,rfl⟩
 |x::r,hx=>by
  obtain⟨s,h1,h2⟩:=hx x ac4;obtain⟨ss,g0,g1,g2⟩:=AA f R r fun z hz=>hx z (ac1 _ hz);refine⟨s::ss,by simp[g0],fun z hz=>?_,?_⟩
  .rcases ac8.mp hz with q|q
   .subst q;exact h1
   .exact g1 z q
  .rw[ac5,cD];simp only[bg,Res.C_,if_true,h2,g2,ac5]
theorem Cl{α β:Type}{te:Ex}{cp:Ev}{m:Int}(f:α->PV)(g:β->PV)(R:β->Prop)(c:Int)(hc:0<=c)(hi:Int):∀(l:List α)(n:Int),0<=n->n+c * l.length<=hi->(∀x∈l,∀n,0<=n->n+c<=hi->∃y n',R y/\n<=n'/\n'<=n+c/\te (some (f x)::cp) [f9 n m]=.ok (g y) [f9 n' m])->
  ∃(ys:List β)(n':Int),ys.length=l.length/\(∀y∈ys,R y)/\n<=n'/\n'<=n+c * l.length/\cD bg te cp (l.map f) [f9 n m]=.ok (ys.map g) [f9 n' m]
 |[],n,_,_,_=>⟨[],n,rfl,by simp,afW _,by simp,rfl⟩
 |x::r,n,h0,hn,hx=>by
  have e:c * ((x::r).length:Int)=c * (r.length:Int)+c:=by rw[ac6,ahl,Int.mul_add];simp
  have hr:0<=c * (r.length:Int):=aiB hc ⋯;rw[e]at hn;obtain⟨y,n1,y1,y2,y3,y4⟩:=hx x ac4 n h0 ⋯;obtain⟨ys,n2,z0,z1,z2,z3,z4⟩:=Cl f g R c hc hi r n1 ⋯ ⋯ fun z hz=>hx z (ac1 _ hz);refine⟨y::ys,n2,by simp[z0],fun z hz=>?_,by lia,by rw[e];lia,?_⟩
  .rcases ac8.mp hz with q|q
   .subst q;exact y1
   .exact z1 z q
  .rw[ac5,cD];simp only[bg,Res.C_,if_true,y4,z4,ac5]
def eW(k:Nat)(cs:List Int)(hc:cs.length<=63)(n m:Int)(h0:0<=n)(h1:n<=2000000)(r:Y3):∃v,0<=v/\v<400000000/\I9 (L (k+1) .J_) [cv cs,.ref 0] (f9 n m::r)=.ok (.int v) (f9 (n+1) m::r):=by obtain⟨v,v0,v1,e⟩:=Jx k cs hc n m h0 h1;exact⟨v,v0,v1,iU (fn:=L (k+1) .J_) [cv cs] [] (by rw[am,mR];rfl) rfl rfl (fP _ _) e rfl (fP _ _)⟩
theorem IJ{P:List Pe}{p:Pe}(h:(P.map (·.n)).Nodup)(hp:p∈P):Ze P p.n=some p:=by
 unfold Ze
 induction P with
 |nil=>cases hp
 |cons q r ih=>
  rw[ac5,adL]at h;rcases ac8.mp hp with z|z
  .subst z;rw[List.find?_cons_of_pos (by simp)]
  .rw[afk,ih h.2 z];intro e;rw[agY e]at h;exact h.1 (adM.mpr ⟨p,z,rfl⟩)
def GR(h:l.Nodup){a b:Zp}:(cut l a b).Nodup:=by unfold cut;exact agH ((afx _ _).trans (agS _ _)) h
noncomputable def M9:List Nd->K3
 |[]=>.nil
 |n::r=>.cons n (M9 r)
theorem BH:∀l:List Nd,q8 (M9 l)=l.map nd
 |[]=>by rw[M9,q8];rfl
 |n::r=>by rw[M9,q8,BH r];rfl
theorem lx:∀l:List Nd,I7 (M9 l)=Xi l
 |[]=>by rw[M9,I7];rfl
 |n::r=>by rw[M9,I7,lx r];unfold Xi;rw[ac5,adQ]
theorem Oe{r:List Nd}(h:na (n::r)):na r/\(hT (.cons n .nil)&&hT (M9 r))=false:=by
 refine⟨fun A x y C e=>h (n::A) x y C (by rw[e];rfl),?_⟩
 cases r with
 |nil=>cases n<;>rfl
 |cons m t=>
  have:=h [] n m t rfl
  cases n<;>cases m<;>first|rfl|exact absurd ⟨rfl,rfl⟩ this
theorem Rwn.q8{kn:Cx}{d c t:Nat}:∀{l:List Nd},Rwn kn d c t l->wS (M9 l)=true/\Ue kn (M9 l)=true/\dS (M9 l)<=d
 |[],_=>⟨rfl,rfl,adx _⟩
 |n::r,h=>by
  have e1:Xi (n::r)=R8 n+1+Xi r:=by unfold Xi;rw[ac5,adQ]
  have e2:Wv (n::r)=Z5 n+Wv r:=by unfold Wv;rw[ac5,adQ]
  have hc:=h.c;have ht:=h.t;obtain⟨na1,na2⟩:=Oe h.a;obtain⟨a,b,e⟩:=Rwn.q8 (kn:=kn) (d:=d) (c:=c) (t:=t) (l:=r) ⟨⟨fun z hz=>h.w z (ac1 _ hz),by lia,by lia⟩,na1⟩;obtain⟨w1,w2,w3⟩:=h.w n ac4;rw[M9,wS,Ue,dS,w1,w2,a,b,na2];exact⟨rfl,rfl,aix.mpr ⟨w3,e⟩⟩
theorem wk(g:Nd->Nat)(f:Nd->Bool):∀l:List Nd,((l.filter f).map g).sum<=(l.map g).sum
 |[]=>acY _
 |a::r=>by
  have:=wk g f r;rw[ag6,ac5,adQ]
  split
  .rw[ac5,adQ]
   lia
  .lia
theorem Rw.filter{kn:Cx}{d c t:Nat}{l:List Nd}(h:Rw kn d c t l)(f:Nd->Bool):Rw kn d c t (l.filter f):=
 ⟨fun n hn=>h.w n (aiq.mp hn).1,adu (wk _ f l) h.c,adu (wk _ f l) h.t⟩
def bh{a b:Sx}{ρ:Ev}{Q:SR->Prop}(ρ1:Ev)(h1:Y3)(e:a ρ h=.nx ρ1 h1)(k:Q (b ρ1 h1)):Q (aq a b ρ h):=by rw[Jl,e];exact k
def qR{a b:Sx}{ρ:Ev}{Q:SR->Prop}(f:α->Ev)(g:α->Y3)(R:α->Prop)(e:∃x,R x/\a ρ h=.nx (f x) (g x))(k:∀x,R x->Q (b (f x) (g x))):Q (aq a b ρ h):=by obtain⟨x,hx,e⟩:=e;exact bh _ _ e (k x hx)
abbrev hB(n m:Int)(B:List Pc)(P:List Pe):Y3:=[f9 n m,.lst (B.map pc),.lst (P.map pev)]
def nn(s:Sz):Prop:=0<=s.2.2.1/\0<=s.2.2.2
mutual
noncomputable def nbN:Nd->Bool
 |.loop _ _ b _=>nbS b
 |.choice _ y z=>nbS y&&nbS z
 |.I_ _ _ _ b=>nbS b
 |.body _=>false
 |_=>true
noncomputable def nbS:K3->Bool
 |.nil=>true
 |.cons n r=>nbN n&&nbS r
end
noncomputable def hb(b:K3):Hd->Bool
 |.nil=>nbS b
 |.cons c _ h=>hb c h
mutual
inductive Kd where
 |w
 |t
 |n
 |b
 |l (k:Kd)
 |r (fs:Zr)
inductive Zr where
 |nil
 |cons (x:Y1) (k:Kd) (r:Zr)
end
mutual
noncomputable def kd:Kd->PV
 |.w=>.tup [.str [119]]
 |.t=>.tup [.str [116]]
 |.n=>.tup [.str [110]]
 |.b=>.tup [.str [98]]
 |.l k=>.tup [.str [108],kd k]
 |.r fs=>.tup [.str [114],.tup (XK fs)]
noncomputable def XK:Zr->Y2
 |.nil=> []
 |.cons x k r=>.tup [.str x,kd k]::XK r
end
mutual
noncomputable def wK:Kd->Bool
 |.w=>true
 |.t=>true
 |.n=>true
 |.b=>true
 |.l k=>wK k
 |.r fs=>wKs fs
noncomputable def wKs:Zr->Bool
 |.nil=>true
 |.cons x k r=>sn x&&(wK k&&wKs r)
end
mutual
noncomputable def zK:Kd->Nat
 |.w=>1
 |.t=>1
 |.n=>1
 |.b=>1
 |.l k=>zK k+1
 |.r fs=>YG fs+1
noncomputable def YG:Zr->Nat
 |.nil=>0
 |.cons _ k r=>zK k+YG r
end
noncomputable def Wh:Kd->Y1
 |.w=> [119]
 |.t=> [116]
 |.n=> [110]
 |.b=> [98]
 |.l _=> [108]
 |.r _=> [114]
def zW(k:Kd):sg (Wh k)=true:=by cases k<;>rfl
def DF(k:Kd)(h:Y3):b_ (kd k) (.int 0) h=.ok (.str (Wh k)) h:=by cases k<;>(rw[kd];rfl)
def Xo(k:Kd):Prop:=wK k=true/\zK k<=14
def DY(k:Kd):1<=zK k:=by cases k<;>rw[zK]<;>lia
mutual
theorem kR:∀k:Kd,(kd k).pure=true
 |.w=>by simp[kd,PV.pure,am]
 |.t=>by simp[kd,PV.pure,am]
 |.n=>by simp[kd,PV.pure,am]
 |.b=>by simp[kd,PV.pure,am]
 |.l k=>by simp[kd,PV.pure,am,kR k]
 |.r fs=>by simp[kd,PV.pure,am,yX fs]
theorem yX:∀k:Zr,am (XK k)=true
 |.nil=>by simp[XK,am]
 |.cons x k r=>by simp[XK,PV.pure,am,kR k,yX r]
end
mutual
theorem uf:∀{k:Kd},wK k=true->fd (3 * zK k) (kd k)
 |.w,_=>by rw[kd,zK];exact aV (cI (aB (dE rfl) (bw 0))) ⋯
 |.t,_=>by rw[kd,zK];exact aV (cI (aB (dE rfl) (bw 0))) ⋯
 |.n,_=>by rw[kd,zK];exact aV (cI (aB (dE rfl) (bw 0))) ⋯
 |.b,_=>by rw[kd,zK];exact aV (cI (aB (dE rfl) (bw 0))) ⋯
 |.l k,h=>by rw[wK]at h;rw[kd,zK];exact aV (cI (aB (dE rfl) (aB (uf h) (bw _)))) ⋯
 |.r fs,h=>by rw[wK]at h;rw[kd,zK];exact aV (cI (aB (dE rfl) (aB (cI (Cj h)) (bw _)))) ⋯
theorem Cj:∀{k:Zr},wKs k=true->fds (3 * YG k+1) (XK k)
 |.nil,_=>by rw[XK];exact bw _
 |.cons x k r,h=>by rw[wKs,acX,acX]at h;rw[XK,YG];exact aB (aV (cI (aB (dE (sR h.1)) (aB (uf h.2.1) (bw _)))) ⋯) (ue (Cj h.2.2) ⋯)
end
def jY(h:Y3)(k:Kd):aj h (kd k)=kd k:=mQ (h:=h) (kR k)
def Kl(hp:fd 60 p)(h:Y3):TP h p=true:=by
 have:TV h p=toD p:=by cases p<;>first|rfl|(have:=hp.2.2;simp[PV.pure]at this)
 unfold TP;rw[this,hp.1];simpa using hp.2.1
def OY{q:PV}(hp:fd 60 p)(hq:fd 60 q):∃b:Bool,∀h,o9 p q h=.ok (.bl b) h:=by
 have e:∀(z:PV),fd 60 z->∀h,TV h z=toD z:=fun z hz h=>by cases z<;>first|rfl|(have:=hz.2.2;simp[PV.pure]at this)
 refine⟨PyData.eqv (toD p) (toD q),fun h=>?_⟩;unfold o9;rw[if_pos ⟨Kl hp h,Kl hq h⟩,e p hp,e q hq]
def OW{a b:Kd}(ha:Xo a)(hb:Xo b):∃c:Bool,∀h,o9 (kd a) (kd b) h=.ok (.bl c) h:=OY (aV (uf ha.1) (by have:=ha.2;lia)) (aV (uf hb.1) (by have:=hb.2;lia))
abbrev Vc:=List (Y1×Kd)
def sv(x:Y1×Kd):PV:=.tup [.str x.1,kd x.2]
def H9(s:Vc):PV:=.lst (s.map sv)
def Hs(x:Y1×Kd):(sv x).pure=true:=by simp[sv,PV.pure,am,kR]
theorem xX:∀s:Vc,am (s.map sv)=true
 |[]=>rfl
 |a::r=>by rw[ac5,am,Hs,xX r];rfl
def hZ(s:Vc):(H9 s).pure=true:=by unfold H9;rw[PV.pure];exact xX s
theorem nJ(h:Y3)(s:Vc):aj h (H9 s)=H9 s:=rfl
abbrev Row:=O7×Kd
def A_(x:Row):PV:=.tup [H_ x.1,kd x.2]
def rW(x:Row):(A_ x).pure=true:=by simp[A_,PV.pure,am,kR,jP]
theorem yi:∀s:List Row,am (s.map A_)=true
 |[]=>rfl
 |a::r=>by rw[ac5,am,rW,yi r];rfl
def G6(l:List Kd):PV:=.lst (l.map kd)
theorem vx:∀s:List Kd,am (s.map kd)=true
 |[]=>rfl
 |a::r=>by rw[ac5,am,kR,vx r];rfl
def ph(l:List Kd):(G6 l).pure=true:=by unfold G6;rw[PV.pure];exact vx l
theorem iC(h:Y3)(l:List Kd):aj h (G6 l)=G6 l:=rfl
def hkv:Option (List Kd)->PV
 |none=>.non
 |some l=>G6 l
def zq(o:Option (List Kd)):(hkv o).pure=true:=by cases o<;>first|rfl|exact ph _
def xi(h:Y3)(o:Option (List Kd)):aj h (hkv o)=hkv o:=by cases o<;>rfl
def Ui(x:Y1×Kd):PK×PV:=(.inr x.1,kd x.2)
theorem Fk:∀s:Vc,nj (s.map sv)=some (s.map Ui)
 |[]=>rfl
 |a::r=>by have ih:=Fk r;show(match pf (.str a.1),nj (r.map sv)with|some kk,some l=>some ((kk,kd a.2)::l)|_,_=>none)=_;rw[ih];rfl
def X8(s:Vc):Prop:=∀x∈s,sn x.1=true/\Xo x.2
def HX(a:Vc)(x:Y1×Kd):∃a':Vc,rI (a.map Ui) (Ui x).1 (Ui x).2=a'.map Ui/\a'.length<=a.length+1/\∀y∈a',y∈a\/(y.1=x.1/\y.2=x.2):=by
 unfold rI
 split
 .refine⟨a.map fun y=>if y.1=x.1 then x else y,?_,by rw[ac2];lia,fun y hy=>?_⟩
  .rw[adB,adB];refine afe fun y _=>?_;show(if(Ui y).1=(Ui x).1 then _ else _)=Ui (if y.1=x.1 then x else y)
   by_cases e:y.1=x.1
   .rw[if_pos (show(Ui y).1=(Ui x).1 by show Sum.inr _=Sum.inr _;rw[e]),if_pos e];show(Sum.inr y.1,_)=(Sum.inr x.1,_);rw[e];rfl
   .rw[if_neg (fun z=>e (by injection z)),if_neg e]
  .obtain⟨z,hz,rfl⟩:=adM.mp hy
   by_cases e:z.1=x.1
   .rw[if_pos e];exact .inr ⟨rfl,rfl⟩
   .rw[if_neg e];exact .inl hz
 .refine⟨a++ [x],by rw[adi];rfl,by simp,fun y hy=>?_⟩;rcases adv.mp hy with h|h
  .exact .inl h
  .cases adl.mp h;exact .inr ⟨rfl,rfl⟩
theorem FP(P:Y1×Kd->Prop):∀(s a:Vc),(∀x∈s,P x)->(∀x∈a,P x)->∃s':Vc,(s.map Ui).foldl (fun acc kv=>rI acc kv.1 kv.2) (a.map Ui)=s'.map Ui/\s'.length<=a.length+s.length/\∀y∈s',P y
 |[],a,_,ha=>⟨a,rfl,by simp,ha⟩
 |x::r,a,hs,ha=>by
  obtain⟨a',e,l,m⟩:=HX a x
  obtain⟨s',e2,l2,m2⟩:=FP P r a' (fun y hy=>hs y (ac1 _ hy)) (fun y hy=>by
   rcases m y hy with z|⟨z1,z2⟩
   .exact ha y z
   .have:=hs x ac4;rwa [show y=x from Prod.ext z1 z2])
  refine⟨s',?_,by rw[ac6];lia,m2⟩;rw[ac5,afM,e];exact e2
theorem xc{α:Type}{te:Ex}{cp:Ev}{h:Y3}(f1 f2 g:α->PV):∀l:List α,(∀x∈l,te (some (f1 x)::some (f2 x)::cp) h=.ok (g x) h)->fY bg te cp (l.map fun x=>.tup [f1 x,f2 x]) h=.ok (l.map g) h
 |[],_=>rfl
 |x::r,h2=>by have ih:=xc f1 f2 g r fun z hz=>h2 z (ac1 _ hz);rw[ac5,fY,show bg (some (f1 x)::some (f2 x)::cp) h=.ok true h from rfl];simp only[Res.C_,if_true];rw[h2 x ac4];simp only[Res.C_,ih,ac5]
structure rOk(ns:Ya)(r:Row):Prop where
 m:r.1.a∈ns
 w:wp r.1=true
 l:r.1.f.length<=3
 k:Xo r.2
noncomputable def kl:Zr->Vc
 |.nil=> []
 |.cons x k r=>(x,k)::kl r
theorem Gh:∀fs:Zr,XK fs=(kl fs).map sv
 |.nil=>by rw[XK];rfl
 |.cons x k r=>by rw[XK,Gh r];rfl
theorem Kb:∀{fs:Zr},wKs fs=true->YG fs<=14->X8 (kl fs)/\((kl fs).map fun x=>zK x.2).sum=YG fs
 |.nil,_,_=>⟨fun x hx=>(by cases hx),rfl⟩
 |.cons x k r,h,z=>by
  rw[wKs,acX,acX]at h;rw[YG]at z;obtain⟨a,b⟩:=Kb (fs:=r) h.2.2 ⋯;refine⟨fun y hy=>?_,?_⟩
  .rcases ac8.mp hy with q|q
   .subst q;exact⟨h.1,h.2.1,by show zK k<=14;lia⟩
   .exact a y q
  .rw[kl,ac5,adQ,YG,b]
def zR(l:List Row):Nat:=(l.map fun x=>zK x.2).sum
theorem wb(l:List Row):l.length<=zR l:=by
 induction l with
 |nil=>exact acY _
 |cons a r ih=>unfold zR at*;rw[ac5,adQ,ac6];have:=DY a.2;lia
def qv(p:O7)(fs:Zr):List Row:=(kl fs).map fun x=>(⟨p.a,p.f++ [x.1]⟩,x.2)
abbrev pE(s:Vc)(i:Nat)(x3 x4:Option PV):Ev:=[some (H9 s),some (.ref 1),some (.int i),x3,x4]
def IT(f:α->PV)(hp:∀x,(f x).pure=true)(z:PO){l:List α}{r:α}(e:l[i]? =some r):b_ (.ref 1) (.int i) [z,.lst (l.map f)]=.ok (f r) [z,.lst (l.map f)]:=by show(match S9 (l.map f) i with|some v=>Res.ok (aj [z,.lst (l.map f)] v) [z,.lst (l.map f)]|none=>.bad)=_;rw[eJ (v:=f r) ⋯ (by rw[aeo,adO,e];rfl)];show Res.ok (aj _ (f r)) _=_;rw[mQ (h:=_) (hp r)]
def Bv(p:O7)(h:Y3):bK [H_ p] h=.ok (.int ((p.f.length+1:Nat):Int)) h:=by unfold H_;rw[JS,ac6,ac2]
def HZ(p:O7)(x:Y1)(h:Y3)(hl:p.f.length<=100):ak (H_ p) (.tup [.str x]) h=.ok (H_ ⟨p.a,p.f++ [x]⟩) h:=by unfold H_;rw[xL _ _ h (by rw[ac6,ac2];exact adu (by simp;lia:_<=1000) ⋯)];rw[adi];rfl
def Dl(k:Nat)(s:Vc)(fz:PO)(D:List Row)(r:Row)(t:List Row)(x3 x4:Option PV)(hr:rOk (s.map (·.1)) r)(hl:D.length+zR (r::t)<=1000000):
  ∃c:List Row,zR c+1<=zK r.2/\(∀x∈c,rOk (s.map (·.1)) x)/\∃y3 y4,fj (F k) (pE s D.length x3 x4) [fz,.lst ((D++r::t).map A_)]=.nx (pE s (D++ [r]).length y3 y4) [fz,.lst ((D++ [r]++(t++c)).map A_)]:=by
 obtain⟨p,kk⟩:=r;have i1:=IT A_ rW fz (l:=D++(p,kk)::t) (i:=D.length) (r:=(p,kk)) (by simp);have d1:∀xs:Y2,aj [fz,.lst xs] (.ref 1)=.ref 1:=fun _=>rfl;have rt:∀h,aj h (A_ (p,kk))=.tup [H_ p,kd kk]:=fun h=>rfl;have rq:A_ (p,kk)=.tup [H_ p,kd kk]:=rfl;have ez:((D.length:Nat):Int)+1=(((D++ [(p,kk)]).length:Nat):Int):=by simp
 have dp:∀h,aj h (H_ p)=H_ p:=fun _=>rfl;have e4:∀h,o9 (.str (Wh kk)) (.str [114]) h=.ok (.bl (decide (Wh kk= [114]))) h:=fun h=>GJ (zW kk) rfl h;have same:(D++ [(p,kk)]++(t++ [])).map A_=(D++(p,kk)::t).map A_:=by simp
 have il:∀xs:Y2,cC [fz,.lst xs] (.ref 1)=true:=fun _=>rfl
 by_cases q:Wh kk= [114]/\p.f.length+1<4
 .obtain⟨q1,q2⟩:=q;obtain⟨fs,rfl⟩:∃fs,kk=.r fs:=by cases kk<;>first|exact⟨_,rfl⟩|(exfalso;simp[Wh]at q1)
  have hk:=hr.k;unfold Xo at hk;rw[wK,zK]at hk;obtain⟨o1,o2⟩:=Kb hk.1 ⋯;have zc:zR (qv p fs)=YG fs:=by unfold zR qv;rw[adB,<- o2];rfl
  refine⟨qv p fs,by rw[zc];show _<=zK (.r fs);rw[zK];lia,fun x hx=>?_,some (H_ p),some (kd (.r fs)),?_⟩
  .obtain⟨y,hy,rfl⟩:=adM.mp hx;obtain⟨y1,y2⟩:=o1 y hy;have w:=hr.w;refine⟨hr.m,?_,?_,y2⟩
   .simp only[wp,acX,decide_eq_true_eq]at w |-;exact⟨w.1,Hu w.2.1 (by simp[Vy,y1]),by show(p.f++ [y.1]).length<=3;simp;lia⟩
   .show(p.f++ [y.1]).length<=3;simp;lia
  .have t1:decide (Wh (.r fs)=[114])=true:=rfl;have t2:decide (((p.f.length+1:Nat):Int)<4)=true:=decide_eq_true ⋯;have ik:∀h,b_ (kd (.r fs)) (.int 1) h=.ok (.tup (XK fs)) h:=fun h=>by rw[kd];rfl
   have cl:((kl fs).map fun x:Y1×Kd=>PV.tup [.str x.1,kd x.2]).length<16777216:=by have:=wb (qv p fs);rw[ac2];unfold qv at this;rw[ac2]at this;unfold qv at zc;lia
   have kk2:XK fs=(kl fs).map fun x:Y1×Kd=>PV.tup [.str x.1,kd x.2]:=Gh fs
   have cm:∀h,fY bg (mD (F k)) [some (H_ p)] ((kl fs).map fun x:Y1×Kd=>PV.tup [.str x.1,kd x.2]) h=.ok ((qv p fs).map A_) h:=fun h=>by
    have:(qv p fs).map A_=(kl fs).map fun x=>A_ (⟨p.a,p.f++ [x.1]⟩,x.2):=by unfold qv;rw[adB];rfl
    rw[this];refine xc (fun x:Y1×Kd=>PV.str x.1) (fun x=>kd x.2) _ (kl fs) fun x _=>?_;simp[EH,mD,dp,jY,HZ p x.1 _ (by lia:p.f.length<=100)];rfl
   have ex:eQ (.ref 1) [.lst ((qv p fs).map A_)] [fz,.lst ((D++(p,Kd.r fs)::t).map A_)]=.ok .non [fz,.lst ((D++ [(p,Kd.r fs)]++(t++qv p fs)).map A_)]:=by
    have e:iZ [fz,.lst ((D++(p,Kd.r fs)::t).map A_)] (.ref 1)=some (1,(D++(p,Kd.r fs)::t).map A_):=rfl;have:=wb (qv p fs);have l2:=wb t;have l3:zR ((p,Kd.r fs)::t)=zK (.r fs)+zR t:=by unfold zR;rw[ac5,adQ]
    rw[zK]at l3;show(match iZ [fz,.lst ((D++(p,Kd.r fs)::t).map A_)] (.ref 1),some ((qv p fs).map A_)with|some (i,xs),some ys=>if xs.length+ys.length<=sizeLine then Res.ok PV.non (List.set _ i (.lst (xs++ys)))else .bad|_,_=>.bad)=_;rw[e];dsimp only;rw[if_pos (by rw[ac2,ac2,acZ,ac6];exact adu (by lia:_<=1000001) ⋯),<- adi];simp
   simp[EH,fj,d1,i1,rq,e4,t1,DF,dp,jY,Bv,t2,ik,kk2,cl,cm,il,ex,bX,Option.getD,ez]
 .refine⟨[],by show 0+1<=_;have:=DY kk;lia,fun x hx=>(by cases hx),some (H_ p),some (kd kk),?_⟩;rw[same]
  by_cases q1:Wh kk= [114]
  .have t1:decide (Wh kk= [114])=true:=decide_eq_true q1;have t2:decide (((p.f.length+1:Nat):Int)<4)=false:=decide_eq_false (by have:¬ p.f.length+1<4:=fun z=>q ⟨q1,z⟩;lia);simp[EH,fj,d1,i1,rq,e4,t1,DF,dp,jY,Bv,t2,ez]
  .have t1:decide (Wh kk= [114])=false:=decide_eq_false q1;simp[EH,fj,d1,i1,rq,e4,t1,DF,dp,jY,ez]
def Ch{xs:Y2}(e:h[i]? =some (.lst xs))(hp:am xs=true):aK (.ref i) h=.ok (.lst xs):=by unfold aK cO;dsimp only;rw[e];dsimp only;rw[if_pos hp]
theorem Dn(k:Nat)(s:Vc)(fz:PO)(N:Nat)(hN:N<=1000000):∀(m:Nat)(t D:List Row)(x3 x4:Option PV),zR t<=m->(∀r∈D,rOk (s.map (·.1)) r)->(∀r∈t,rOk (s.map (·.1)) r)->D.length+zR t<=N->
  ∃rows:List Row,(∀r∈rows,rOk (s.map (·.1)) r)/\rows.length<=N/\∃ ρ,eP (au (c2 Wb (ag 2) (cN bK aai))) (fj (F k)) (pE s D.length x3 x4) [fz,.lst ((D++t).map A_)]=.nx ρ [fz,.lst (rows.map A_)]/\ρ[1]? =some (some (.ref 1)):=by
 intro m
 induction m with
 |zero=>intro t D x3 x4 hm hD ht hl;have:=wb t;obtain rfl:t= []:=aeM ⋯;have ln:∀xs:Y2,bK [.ref 1] [fz,.lst xs]=.ok (.int xs.length) [fz,.lst xs]:=fun _=>rfl;have d1:∀xs:Y2,aj [fz,.lst xs] (.ref 1)=.ref 1:=fun _=>rfl;refine⟨D,hD,by lia,_,EB (h1:=[fz,.lst ((D++ []).map A_)]) ?_ |>.trans (by rw[adD]),rfl⟩;have z:decide (((D.length:Nat):Int)<((D.map A_).length:Nat))=false:=decide_eq_false (by simp);simp[EH,d1,ln,z]
 |succ m ih=>
  intro t D x3 x4 hm hD ht hl;have ln:∀xs:Y2,bK [.ref 1] [fz,.lst xs]=.ok (.int xs.length) [fz,.lst xs]:=fun _=>rfl;have d1:∀xs:Y2,aj [fz,.lst xs] (.ref 1)=.ref 1:=fun _=>rfl
  cases t with
  |nil=>refine⟨D,hD,by lia,_,EB (h1:=[fz,.lst ((D++ []).map A_)]) ?_ |>.trans (by rw[adD]),rfl⟩;have z:decide (((D.length:Nat):Int)<((D.map A_).length:Nat))=false:=decide_eq_false (by simp);simp[EH,d1,ln,z]
  |cons r t=>
   have zt:zR (r::t)=zK r.2+zR t:=by unfold zR;rw[ac5,adQ]
   obtain⟨c,c1,c2,y3,y4,e⟩:=Dl k s fz D r t x3 x4 (ht r ac4) ⋯;have za:zR (t++c)=zR t+zR c:=by unfold zR;rw[adi,ahj]
   have l1:(D++ [r]).length=D.length+1:=by simp
   obtain⟨rows,a1,a2,ρ,a3,a4⟩:=ih (t++c) (D++ [r]) y3 y4 ⋯ (fun x hx=>by
    rcases adv.mp hx with q|q
    .exact hD x q
    .cases adl.mp q;exact ht r ac4) (fun x hx=>by
    rcases adv.mp hx with q|q
    .exact ht x (ac1 _ q)
    .exact c2 x q) ⋯
   refine⟨rows,a1,a2,ρ,yg (h1:=[fz,.lst ((D++r::t).map A_)]) ?_ e a3 (by intro z;cases z),a4⟩;have z:decide (((D.length:Nat):Int)<(((D++r::t).map A_).length:Nat))=true:=decide_eq_true (by simp;lia);simp[EH,d1,ln,z]
theorem Nb(l:List Row)(h:∀r∈l,Xo r.2):zR l<=14 * l.length:=by
 induction l with
 |nil=>exact acY _
 |cons a r ih=>have:=ih fun x hx=>h x (ac1 _ hx);have:=(h a ac4).2;unfold zR at*;rw[ac5,adQ,ac6];lia
def tx(k:Nat)(s:Vc)(hs:X8 s)(hl:s.length<=1000):∃rows:List Row,(∀r∈rows,rOk (s.map (·.1)) r)/\rows.length<=14 * s.length/\F (k+1) .L_ [H9 s]=.ok (.lst (rows.map A_)):=by
 obtain⟨s',m1,m2,m3⟩:=FP (fun x=>x.1∈s.map (·.1)/\sn x.1=true/\Xo x.2) s [] (fun x hx=>⟨aeQ hx,hs x hx⟩) (fun x hx=>(by cases hx));have mk:mkD (s.map Ui)=s'.map Ui:=m1;rw[adh,af3]at m2
 let T:List Row:=s'.map fun x=>(⟨x.1,[]⟩,x.2)
 have tk:∀r∈T,rOk (s.map (·.1)) r:=fun r hr=>by obtain⟨x,hx,rfl⟩:=adM.mp hr;obtain⟨a,b,c⟩:=m3 x hx;exact⟨a,by simp only[wp,acX,decide_eq_true_eq];exact⟨b,rfl,adx _⟩,adx _,c⟩
 have zt:zR T<=14 * s'.length:=by have:=Nb T fun r hr=>(tk r hr).k;rwa [ac2]at this
 have fzp:gC (s'.map Ui)=true:=by
  rw[gP,adB];clear mk m2 zt tk m1 m3
  induction s' with
  |nil=>rfl
  |cons a r ih=>rw[ac5,am,ih];simp[Ui,kR]
 obtain⟨rows,a1,a2,ρ,a3,a4⟩:=Dn k s (.E_ (.dct (s'.map Ui))) (14 * s.length) ⋯ (14 * s.length) T [] none none ⋯ (fun x hx=>(by cases hx)) tk (by rw[adh];lia);refine⟨rows,a1,a2,?_⟩
 have r2:F (k+1) .L_ [H9 s]=match qL (F k) [some (H9 s),none,none,none,none] []with
   |.nx _ _=>.ok .non
   |.rt v h=>aK v h
   |_=>.bad:=rfl
 have dp:mc [H9 s] []=.ok (.ref 0) [.dct (s'.map Ui)]:=by show(match nj (s.map sv)with|some l=>Res.ok (PV.ref 0) [PO.dct (mkD l)]|none=>.bad)=_;rw[Fk];dsimp only;rw[mk]
 have fz:fzR (.ref 0) [.dct (s'.map Ui)]=.ok (.dct (s'.map Ui)) [.E_ (.dct (s'.map Ui))]:=by show(match(if gC (s'.map Ui)=true then some (PV.dct (s'.map Ui),[PO.E_ (.dct (s'.map Ui))])else none)with|some (q,h2)=>Res.ok q h2|none=>.bad)=_;rw[if_pos fzp]
 have im:AI (s'.map Ui)=s'.map fun x:Y1×Kd=>PV.tup [.str x.1,kd x.2]:=by unfold AI;rw[adB];rfl
 have cl:(s'.map fun x:Y1×Kd=>PV.tup [.str x.1,kd x.2]).length<16777216:=by rw[ac2];lia
 have cm:∀h,fY bg (mE (F k)) [] (s'.map fun x:Y1×Kd=>PV.tup [.str x.1,kd x.2]) h=.ok (T.map A_) h:=fun h=>by
  have:T.map A_=s'.map fun x=>A_ (⟨x.1,[]⟩,x.2):=by rw[adB];rfl
  rw[this];refine xc (fun x:Y1×Kd=>PV.str x.1) (fun x=>kd x.2) _ s' fun x _=>?_;simp[EH,mE,jY];rfl
 have nl:tM (T.map A_) [.E_ (.dct (s'.map Ui))]=.ok (.ref 1) [.E_ (.dct (s'.map Ui)),.lst (T.map A_)]:=rfl;have a3':eP (au (c2 Wb (ag 2) (cN bK aai))) (fj (F k)) [some (H9 s),some (.ref 1),some (.int 0),none,none] [.E_ (.dct (s'.map Ui)),.lst (T.map A_)]=.nx ρ [.E_ (.dct (s'.map Ui)),.lst (rows.map A_)]:=a3
 have v1:ag 1 ρ [.E_ (.dct (s'.map Ui)),.lst (rows.map A_)]=.ok (.ref 1) [.E_ (.dct (s'.map Ui)),.lst (rows.map A_)]:=by show(match ρ[1]? with|some (some p)=>Res.ok (aj _ p) _|_=>.bad)=_;rw[a4];rfl
 rw[r2];simp[EH,qL,nJ,dp,fz,im,cl,cm,nl,bX,a3',v1];exact Ch rfl (yi rows)
structure Pk where
 n:Y1
 o:List Kd
 h:Option (List Kd)
def Td(p:Pk):PV:=.tup [.str p.n,G6 p.o,hkv p.h]
def yz(p:Pk):(Td p).pure=true:=by simp[Td,PV.pure,am,ph,zq]
theorem uY:∀s:List Pk,am (s.map Td)=true
 |[]=>rfl
 |a::r=>by rw[ac5,am,yz,uY r];rfl
structure Ta where
 s:Vc
 p:List Pk
 h:Option (List Kd)
 ms:Ya
 td:Bool
 od:Bool
abbrev kS:Y1:=[115,99,111,112,101]
abbrev kTi:Y1:=[116,105,100,121]
abbrev kOd:Y1:=[111,100,100]
def ta(A:Ta):PV:=.dct [(.inr kS,H9 A.s),(.inr kP,.lst (A.p.map Td)),(.inr kH,hkv A.h),(.inr kN,Te A.ms),(.inr kTi,.bl A.td),(.inr kOd,.bl A.od)]
def jo(A:Ta):(ta A).pure=true:=by simp[ta,PV.pure,gC,hZ,uY,zq,tO]
section
variable(A:Ta)(h:Y3)
theorem bI:aj h (ta A)=ta A:=rfl
theorem zY:b_ (ta A) (.str kS) h=.ok (H9 A.s) h:=rfl
theorem Nl:b_ (ta A) (.str kP) h=.ok (.lst (A.p.map Td)) h:=rfl
theorem Nn:b_ (ta A) (.str kH) h=.ok (hkv A.h) h:=by show Res.ok (aj h (hkv A.h)) h=_;rw[xi]
theorem Nm:b_ (ta A) (.str kN) h=.ok (Te A.ms) h:=rfl
theorem rF:b_ (ta A) (.str kTi) h=.ok (.bl A.td) h:=rfl
theorem KA:b_ (ta A) (.str kOd) h=.ok (.bl A.od) h:=rfl
end
def WW(l:List Kd):Prop:=∀k∈l,Xo k
def hOl:Option (List Kd)->Prop
 |none=>True
 |some l=>l.length<=3/\WW l
noncomputable def Z8(p:Pk):Pe:=⟨p.n,p.o.length,p.h.map fun l=>(l.length:Int)⟩
abbrev R7(A:Ta):Cx:=(A.p.map Z8,A.h.map fun l=>(l.length:Int),A.s.map (·.1))
structure Wa(j:Nat)(A:Ta):Prop where
 s:X8 A.s
 l:A.s.length<=j
 pl:A.p.length<=1000
 p:∀p∈A.p,sn p.n=true/\p.o.length<=4/\WW p.o/\hOl p.h
 h:hOl A.h
 ml:A.ms.length=12
 m:Vy A.ms=true
 mn:A.ms.Nodup
 pn:(A.p.map (·.n)).Nodup
theorem Cf{α:Type}{tt:Tx}{te:Ex}{cp:Ev}(f1 f2 g:α->PV):∀l:List α,(∀x∈l,∃b:Bool,∀h,tt (some (f1 x)::some (f2 x)::cp) h=.ok b h)->(∀x∈l,∀h,te (some (f1 x)::some (f2 x)::cp) h=.ok (g x) h)->∃l':List α,(∀y∈l',y∈l)/\l'.length<=l.length/\∀h,fY tt te cp (l.map fun x=>.tup [f1 x,f2 x]) h=.ok (l'.map g) h
 |[],_,_=>⟨[],fun y hy=>hy,acY _,fun h=>rfl⟩
 |x::r,h1,h2=>by
  obtain⟨l',a,b,c⟩:=Cf f1 f2 g r (fun z hz=>h1 z (ac1 _ hz)) fun z hz=>h2 z (ac1 _ hz);obtain⟨q,hq⟩:=h1 x ac4;have hx:=h2 x ac4
  cases q with
  |true=>
   refine⟨x::l',fun y hy=>?_,by simp;lia,fun h=>?_⟩
   .rcases ac8.mp hy with z|z
    .subst z;exact ac4
    .exact ac1 _ (a y z)
   .rw[ac5,fY,hq];simp only[Res.C_,if_true];rw[hx];simp only[Res.C_,c,ac5]
  |false=>refine⟨l',fun y hy=>ac1 _ (a y hy),by simp;lia,fun h=>?_⟩;rw[ac5,fY,hq];simp only[Res.C_,ad3,if_false];exact c h
theorem xr{α:Type}{tt:Tx}{te:Ex}{cp:Ev}(f g:α->PV):∀l:List α,(∀x∈l,∃b:Bool,∀h,tt (some (f x)::cp) h=.ok b h)->(∀x∈l,∀h,te (some (f x)::cp) h=.ok (g x) h)->∃l':List α,(∀y∈l',y∈l/\∀h,tt (some (f y)::cp) h=.ok true h)/\l'.length<=l.length/\∀h,cD tt te cp (l.map f) h=.ok (l'.map g) h
 |[],_,_=>⟨[],fun y hy=>(by cases hy),acY _,fun h=>rfl⟩
 |x::r,h1,h2=>by
  obtain⟨l',a,b,c⟩:=xr f g r (fun z hz=>h1 z (ac1 _ hz)) fun z hz=>h2 z (ac1 _ hz);obtain⟨q,hq⟩:=h1 x ac4;have hx:=h2 x ac4
  cases q with
  |true=>
   refine⟨x::l',fun y hy=>?_,by simp;lia,fun h=>?_⟩
   .rcases ac8.mp hy with z|z
    .subst z;exact⟨ac4,hq⟩
    .exact⟨ac1 _ (a y z).1,(a y z).2⟩
   .rw[ac5,cD,hq];simp only[Res.C_,if_true];rw[hx];simp only[Res.C_,c,ac5]
  |false=>refine⟨l',fun y hy=>⟨ac1 _ (a y hy).1,(a y hy).2⟩,by simp;lia,fun h=>?_⟩;rw[ac5,cD,hq];simp only[Res.C_,ad3,if_false];exact c h
theorem tX(f:α->PV)(hp:∀x,(f x).pure=true){l:List α}(hl:l≠ [])(v:Int):∃x∈l,decide (0<((l.map f).length:Int))=true/\∀h,b_ (.lst (l.map f)) (.int (v % ((l.map f).length:Nat))) h=.ok (f x) h:=by
 have l0:0<l.length:=ad9.mpr hl;have e:((l.map f).length:Int)=(l.length:Int):=by rw[ac2]
 obtain⟨a,b⟩:=bj v (show(0:Int)<(l.length:Int) by lia);have hi:(v % (l.length:Int)).toNat<l.length:=by lia
 refine⟨l[(v % (l.length:Int)).toNat],agi hi,by rw[e];exact decide_eq_true ⋯,fun h=>?_⟩;rw[e,tW,eJ (v:=f l[(v % (l.length:Int)).toNat]) a (by rw[adO,adz hi];rfl)];show Res.ok (aj h (f _)) h=_;rw[mQ (h:=h) (hp _)]
def Za(ns:Ya)(p:O7):Prop:=p.a∈ns/\wp p=true/\p.f.length<=3
abbrev hE(cs:List Int)(s:Vc)(ks:List Kd)(x5 x6:Option PV):Ev:=[some (cv cs),some (.ref 0),some (H9 s),some (G6 ks),some (.ref 1),x5,x6]
def zu(K:Nat)(cs:List Int)(hc:cs.length<=63)(s:Vc)(hs:X8 s)(hl:s.length<=1000)(ks:List Kd)(k:Kd)(hk:Xo k)(n m:Int)(h0:0<=n)(h1:n<=1900000)(acc:List O7)(la:acc.length<=1000)(x6:Option PV):
  dk (F (K+1)) (L (K+1)) (hE cs s ks (some (kd k)) x6) [f9 n m,.lst (acc.map H_)]=.rt .non [f9 n m,.lst (acc.map H_)]\/
  ∃p y6,Za (s.map (·.1)) p/\dk (F (K+1)) (L (K+1)) (hE cs s ks (some (kd k)) x6) [f9 n m,.lst (acc.map H_)]=.nx (hE cs s ks (some (kd k)) y6) [f9 (n+1) m,.lst ((acc++ [p]).map H_)]:=by
 obtain⟨rows,r1,r2,r3⟩:=tx K s hs hl;have cp:∀h,fM (F (K+1) .L_) [H9 s] h=.ok (.lst (rows.map A_)) h:=fun h=>eF h (by rw[am,hZ];rfl) r3
 obtain⟨fl,f1,f2,f3⟩:=Cf (tt:=ku (F (K+1))) (te:=lg (F (K+1))) (cp:=[some (kd k)]) (fun x:Row=>H_ x.1) (fun x=>kd x.2) (fun x=>H_ x.1) rows (fun x hx=>by obtain⟨c,e⟩:=OW (r1 x hx).k hk;exact⟨c,fun h=>by simp[EH,ku,jY,e]⟩) (fun x hx h=>by simp[EH,lg])
 have er:(rows.map A_)=rows.map fun x=>PV.tup [H_ x.1,kd x.2]:=rfl;have lr:(rows.map fun x:Row=>PV.tup [H_ x.1,kd x.2]).length<16777216:=by rw[ac2];lia
 have en:∀h,o9 (.lst (fl.map fun x=>H_ x.1)) (.lst []) h=.ok (.bl (fl.map fun x=>H_ x.1).isEmpty) h:=fun h=>xv (by
  have:(fl.map fun x=>H_ x.1)=jO (fl.map (·.1)):=by unfold jO;rw[adB];rfl
  rw[this];clear f3 f2 this
  induction fl with
  |nil=>exact bw _
  |cons a r ih=>exact aB (aV (og (d:=0) (r1 a (f1 a ac4)).w) ⋯) (ih fun y hy=>f1 y (ac1 _ hy))) h
 have d1:∀(o:PO)(xs:Y2),aj [o,.lst xs] (.ref 1)=.ref 1:=fun _ _=>rfl;have d0:∀(n:Int)(o:PO),aj [f9 n m,o] (.ref 0)=.ref 0:=fun _ _=>rfl
 by_cases ne:fl= []
 .subst ne
  left
  have en0:∀h,o9 (.lst []) (.lst []) h=.ok (.bl true) h:=fun h=>en h;simp[EH,dk,nJ,cp,er,lr,f3,bX,Option.getD,adT,en0]
 .right
  have e0:(fl.map fun x=>H_ x.1).isEmpty=false:=by cases fl<;>first|exact(ne rfl).elim|rfl
  obtain⟨v,v0,v1,ce⟩:=eW K cs hc n m h0 ⋯ [.lst (acc.map H_)];obtain⟨x,hx,q,ix⟩:=tX (fun x:Row=>H_ x.1) (fun x=>jP x.1) ne v;have il:∀(o:PO)(xs:Y2),cC [o,.lst xs] (.ref 1)=true:=fun _ _=>rfl
  have ap:bn (.ref 1) [H_ x.1] [f9 (n+1) m,.lst (acc.map H_)]=.ok .non [f9 (n+1) m,.lst ((acc++ [x.1]).map H_)]:=by rw[He (acc:=acc.map H_) rfl _ (by rw[ac2];lia),adi];rfl
  refine⟨x.1,some (.lst (fl.map fun x=>H_ x.1)),⟨(r1 x (f1 x hx)).m,(r1 x (f1 x hx)).w,(r1 x (f1 x hx)).l⟩,?_⟩;simp[EH,dk,nJ,bR,cp,er,lr,f3,bX,Option.getD,en,e0,d0,d1,ce,il,BO,q,ix,ap]
theorem rh(K:Nat)(cs:List Int)(hc:cs.length<=63)(s:Vc)(hs:X8 s)(hl:s.length<=1000)(ks:List Kd)(m:Int):∀(r:List Kd)(n:Int)(acc:List O7)(x5 x6:Option PV),(∀k∈r,Xo k)->0<=n->n+r.length<=1900000->acc.length+r.length<=1000->(∀p∈acc,Za (s.map (·.1)) p)->
  ∃n':Int,n<=n'/\n'<=n+r.length/\((∃Vw:List O7,bC (N6 5) (dk (F (K+1)) (L (K+1))) (r.map kd) (hE cs s ks x5 x6) [f9 n m,.lst (acc.map H_)]=.rt .non [f9 n' m,.lst (Vw.map H_)])\/
   ∃(ps:List O7)(y5 y6:Option PV),(∀p∈ps,Za (s.map (·.1)) p)/\ps.length=acc.length+r.length/\bC (N6 5) (dk (F (K+1)) (L (K+1))) (r.map kd) (hE cs s ks x5 x6) [f9 n m,.lst (acc.map H_)]=.nx (hE cs s ks y5 y6) [f9 n' m,.lst (ps.map H_)])
 |[],n,acc,x5,x6,_,_,_,_,ha=>⟨n,afW _,by simp,.inr ⟨acc,x5,x6,ha,rfl,by rw[adT,bC]⟩⟩
 |k::r,n,acc,x5,x6,hk,h0,h1,la,ha=>by
  rw[ac6]at h1 la;have ev:∀z,N6 5 z (hE cs s ks x5 x6)=some (hE cs s ks (some z) x6):=fun _=>rfl;rcases zu K cs hc s hs hl ks k (hk k ac4) n m h0 ⋯ acc ⋯ x6 with e|⟨p,y6,hp,e⟩
  .refine⟨n,afW _,by rw[ac6];lia,.inl ⟨acc,?_⟩⟩;rw[ac5,bC,ev];dsimp only;rw[e]
  .obtain⟨n',a,b,c⟩:=rh K cs hc s hs hl ks m r (n+1) (acc++ [p]) (some (kd k)) y6 (fun z hz=>hk z (ac1 _ hz)) ⋯ ⋯ (by rw[acZ,adF];lia) (fun z hz=>by
    rcases adv.mp hz with q|q
    .exact ha z q
    .cases adl.mp q;exact hp)
   have st:=fJ (r:=r.map kd) (ev (kd k)) e;refine⟨n',by lia,by rw[ac6];lia,?_⟩;rw[ac5,st];rcases c with c|⟨ps,y5,y6,c1,c2,c3⟩
   .exact .inl c
   .exact .inr ⟨ps,y5,y6,c1,by rw[c2,acZ,adF,ac6];lia,c3⟩
def opt:Option (List O7)->PV
 |none=>.non
 |some l=>.tup (jO l)
theorem yJ(o:Option (List O7)):(opt o).pure=true:=by cases o with
 |none=>rfl
 |some l=>show(PV.tup (jO l)).pure=true;rw[PV.pure];exact jN l
def DJ(K:Nat)(cs:List Int)(hc:cs.length<=63)(s:Vc)(hs:X8 s)(hl:s.length<=1000)(ks:List Kd)(hk:WW ks)(lk:ks.length<=100)(n m:Int)(h0:0<=n)(h1:n<=1800000):
  ∃(o:Option (List O7))(n':Int),n<=n'/\n'<=n+ks.length/\(∀ps,o=some ps->ps.length=ks.length/\∀p∈ps,Za (s.map (·.1)) p)/\L (K+2) .O5 [cv cs,.ref 0,H9 s,G6 ks] [f9 n m]=.ok (opt o) [f9 n' m]:=by
 obtain⟨n',a,b,c⟩:=rh K cs hc s hs hl ks m ks n [] none none hk h0 ⋯ (by rw[adh];lia) (fun p hp=>(by cases hp));have r2:∀x,lG (F (K+1)) (L (K+1)) [some (cv cs),some (.ref 0),some (H9 s),some (G6 ks),none,none,none] [f9 n m]=x->L (K+2) .O5 [cv cs,.ref 0,H9 s,G6 ks] [f9 n m]=match x with|.nx _ h1=>qC 1 .non h1|.rt v h1=>kW 1 v h1|_=>.bad:=fun x e=>by subst e;rfl
 have lm:gD [] [f9 n m]=.ok (.ref 1) [f9 n m,.lst []]:=rfl;have si:∀h,lW (G6 ks) h=.ok (ks.map kd) h:=fun _=>rfl;have d1:∀(o:PO)(xs:Y2),aj [o,.lst xs] (.ref 1)=.ref 1:=fun _ _=>rfl;rcases c with⟨Vw,c⟩|⟨ps,y5,y6,c1,c2,c3⟩
 .refine⟨none,n',a,b,fun ps e=>(by cases e),?_⟩;have c':bC (N6 5) (dk (F (K+1)) (L (K+1))) (ks.map kd) [some (cv cs),some (.ref 0),some (H9 s),some (G6 ks),some (.ref 1),none,none] [f9 n m,.lst []]=.rt .non [f9 n' m,.lst (Vw.map H_)]:=c;rw[r2 _ rfl];simp[EH,lG,lm,iC,si,c'];rfl
 .refine⟨some ps,n',a,b,fun z e=>by cases e;exact⟨by rw[c2,adh];lia,c1⟩,?_⟩;have c':bC (N6 5) (dk (F (K+1)) (L (K+1))) (ks.map kd) [some (cv cs),some (.ref 0),some (H9 s),some (G6 ks),some (.ref 1),none,none] [f9 n m,.lst []]=.nx [some (cv cs),some (.ref 0),some (H9 s),some (G6 ks),some (.ref 1),y5,y6] [f9 n' m,.lst (ps.map H_)]:=c3;have tp:dJ [.ref 1] [f9 n' m,.lst (ps.map H_)]=.ok (.tup (ps.map H_)) [f9 n' m,.lst (ps.map H_)]:=rfl;rw[r2 _ rfl];simp[EH,lG,lm,iC,si,c',d1,tp];have pp:(PV.tup (ps.map H_)).pure=true:=yJ (some ps);show kW 1 (.tup (ps.map H_)) _=_;unfold kW;rw[bF _ pp];rfl
def Er(k:Nat):F (k+1) .S5 []=.ok (.str (oP++oO)):=by
 show av (qI (F k)) 0 1 []=_;have:oP.length+oO.length<=16777216:=by decide
 simp[EH,av,qI,this];rfl
def ZP:Y1:=oP++oO
def CE:ZP.length=95:=by decide
def MV:sgc ZP=true:=by decide
def wn(i:Int):∃c,sg [c]=true/\c∈ZP/\∀h,b_ (.str ZP) (.int (i % 95)) h=.ok (.str [c]) h:=by
 obtain⟨a,b⟩:=bj i (by decide:(0:Int)<95);have hi:(i % 95).toNat<ZP.length:=by rw[CE];lia
 refine⟨ZP.getD (i % 95).toNat 0,Et (l:=ZP) MV (fun c hc=>by rw[adl.mp hc];exact jd hi) (by simp),jd hi,fun h=>?_⟩;have z:=uA (xs:=ZP) 0 a (by rw[CE];lia);have zl:ZP.length<=16777216:=by decide
 simp[EH,z,zl]
def nG(k:Nat)(h:Y3):fM (F (k+1) .S5) [] h=.ok (.str ZP) h:=eF h rfl (Er k)
theorem Ek(h:∀x∈l,x.length=1):(l.map (fun l=>l.length)).sum=l.length:=by
 induction l with
 |nil=>rfl
 |cons a r ih=>
  have:=ih fun x hx=>h x (ac1 _ hx);have:=h a ac4;simp only[ac5,adQ,ac6]
  lia
def Hr(K:Nat)(cs:List Int)(hc:cs.length<=63)(n m:Int)(h0:0<=n)(h1:n<=1900000):∃s:Y1,sg s=true/\(1<=s.length/\s.length<=3)/\L (K+2) .S8 [cv cs,.ref 0] [f9 n m]=.ok (.str s) [f9 (n+1) m]:=by
 obtain⟨v,v0,v1,ce⟩:=eW K cs hc n m h0 ⋯ [];have t3:=bj v (by decide:(0:Int)<3)
 obtain⟨ss,g0,g1,g2⟩:=AA (te:=oj (F (K+1))) (cp:=[some (.int v)]) (h:=[f9 (n+1) m]) (fun i:Nat=>PV.int (0+(i:Nat))) (fun s=>sg s=true/\s.length=1) (List.range (1+v % 3).toNat) fun i hi=>by have hi':=aeu.mp hi;obtain⟨c,c1,_,c2⟩:=wn (v / 3+(0+(i:Nat)) * (1+v / 300 % 94));have mi:jV (0+(i:Nat)) (1+v / 300 % 94)=true:=FJ (dU.mpr ⟨by lia,by lia⟩);exact⟨[c],⟨c1,rfl⟩,by simp[EH,oj,nG,mi,c2]⟩
 have su:(ss.map fun l=>l.length).sum=ss.length:=Ek fun x hx=>(g1 x hx).2;rw[g0,ad1]at su;have sl:ss.flatten.length=(1+v % 3).toNat:=by rw[agx];exact su
 refine⟨ss.flatten,Es (adn.mpr fun x hx=>(g1 x hx).1) ⋯,by lia,?_⟩;have r2:∀x,uu (F (K+1)) (L (K+1)) [some (cv cs),some (.ref 0),none] [f9 n m]=x->L (K+2) .S8 [cv cs,.ref 0] [f9 n m]=match x with|.nx _ h1=>qC 1 .non h1|.rt v h1=>kW 1 v h1|_=>.bad:=fun x e=>by subst e;rfl
 have d0:∀(n:Int),aj [f9 n m] (.ref 0)=.ref 0:=fun _=>rfl;have bc:V2 4611686018427387904 (1+v % 3)=true:=dU.mpr ⟨by lia,by lia⟩;have ll:((List.range (1+v % 3).toNat).map fun i=>PV.int (0+(i:Nat))).length<16777216:=by rw[ac2,ad1];lia
 have jn:=kF (ls:=ss) (h:=[f9 (n+1) m]) ⋯;rw[r2 _ rfl];simp[EH,uu,bR,d0,ce,bc,ll,bX,Option.getD,g2,jn];rfl
def uN(K:Nat)(cs:List Int)(hc:cs.length<=63)(n m:Int)(h0:0<=n)(h1:n<=1900000)(r:Y3):∃s:Y1,sg s=true/\(1<=s.length/\s.length<=3)/\I9 (L (K+2) .S8) [cv cs,.ref 0] (f9 n m::r)=.ok (.str s) (f9 (n+1) m::r):=by obtain⟨s,v0,v1,e⟩:=Hr K cs hc n m h0 h1;exact⟨s,v0,v1,iU (fn:=L (K+2) .S8) [cv cs] [] (by rw[am,mR];rfl) rfl rfl (fP _ _) e rfl (fP _ _)⟩
abbrev wW:Y1:=[119,111,114,100]
abbrev wN':Y1:=[110,117,109,98,101,114]
abbrev wQ:Y1:=[113,117,111,116,101,100]
abbrev wP:Y1:=[112,108,97,105,110]
abbrev wL:Y1:=[108,105,110,101]
abbrev w5:Ya:=[wW,wN',wQ,wP,wL]
abbrev Pa:PV:=.dct [(.inr [110],.lst [.str wN']),(.inr [119],.lst [.str wW,.str wP,.str wQ,.str wL]),(.inr [116],.lst [.str wP,.str wQ,.str wL])]
abbrev dCl:PV:=.dct [(.inr wP,.str [10,38,60,62,124]),(.inr wL,.str [10])]
theorem Jn(k:Kd)(hk:Wh k∈([[119],[116],[110]]:Ya)):∃W:Ya,W≠ []/\(∀w∈W,w∈w5)/\∀h,b_ Pa (.str (Wh k)) h=.ok (.lst (W.map PV.str)) h:=by
 cases k with
 |w=>exact⟨[wW,wP,wQ,wL],by decide,by decide,fun h=>rfl⟩
 |t=>exact⟨[wP,wQ,wL],by decide,by decide,fun h=>rfl⟩
 |n=>exact⟨[wN'],by decide,by decide,fun h=>rfl⟩
 |b=>simp[Wh]at hk
 |l _=>simp[Wh]at hk
 |r _=>simp[Wh]at hk
def Jp(w:Y1)(hw:w∈w5):∃c:Y1,c≠ []/\c.length<=5/\sg c=true/\∀h,Dp dCl [.str w,.str [32,46,59,60,10]] h=.ok (.str c) h:=by
 simp only[ac8,adH,or_false]at hw;rcases hw with rfl|rfl|rfl|rfl|rfl
 .exact⟨[32,46,59,60,10],by decide,by decide,by decide,fun h=>rfl⟩
 .exact⟨[32,46,59,60,10],by decide,by decide,by decide,fun h=>rfl⟩
 .exact⟨[32,46,59,60,10],by decide,by decide,by decide,fun h=>rfl⟩
 .exact⟨[10,38,60,62,124],by decide,by decide,by decide,fun h=>rfl⟩
 .exact⟨[10],by decide,by decide,by decide,fun h=>rfl⟩
def Gj{c:Y1}(hc:c≠ [])(hl:c.length<=5)(sc:sg c=true)(v:Int):∃x,sg [x]=true/\decide (0<(c.length:Int))=true/\∀h,b_ (.str c) (.int (v % (c.length:Nat))) h=.ok (.str [x]) h:=by
 have l0:0<c.length:=ad9.mpr hc;obtain⟨a,b⟩:=bj v (show(0:Int)<(c.length:Int) by lia);have hi:(v % (c.length:Int)).toNat<c.length:=by lia
 refine⟨c.getD (v % (c.length:Int)).toNat 0,Et (CT sc) (fun z hz=>by rw[adl.mp hz];exact jd hi) (by simp),decide_eq_true ⋯,fun h=>?_⟩;have z:=uA (xs:=c) 0 a b;have zl:c.length<=16777216:=by lia
 simp[EH,z,zl]
def yT{c:Y1}(hl:c.length<=5)(h:Y3):bK [.str c] h=.ok (.int c.length) h:=by rw[JT,if_pos (adu hl ⋯)]
def Pd(n:Nd):Xi [n]=R8 n+1:=by simp[Xi]
def Nk(n:Nd):Wv [n]=Z5 n:=by simp[Wv]
def Rw.one{kn:Cx}{c t:Nat}(w:wN n=true)(o:okN kn n=true)(hd:dN n<=d)(hc:R8 n+1<=c)(ht:Z5 n<=t):Rw kn d c t [n]:=⟨fun x hx=>by cases adl.mp hx;exact⟨w,o,hd⟩,by rw[Pd];exact hc,by rw[Nk];exact ht⟩
theorem Rw.text{kn:Cx}{s:Y1}{t:Nat}(h:sg s=true)(l0:1<=s.length)(l:s.length<=t)(ht:t<=1000):Rw kn 0 1 t [.text s]:=Rw.one (by rw[wN,h];exact decide_eq_true ⋯) rfl (acY _) (acY _) l
theorem Rw.place{ns:Ya}{P:List Pe}{m:Zp}{p:O7}{w:Y1}(h:Za ns p)(hw:w∈w5):Rw (P,m,ns) 0 1 0 [.place p w]:=Rw.one (by rw[wN,h.2.1,show decide (w∈bu)=true from decide_eq_true hw];rfl) (by rw[okN];simp only[okP,aeK,List.all_nil,aeA];exact aep.mpr h.1) (acY _) (acY _) (acY _)
def gQ(X:Cx)(D c t:Nat)(n k m:Int)(r:SR):Prop:=∃(l:List Nd)(n':Int),(Rw X D c t l/\n<=n'/\n'<=n+k)/\r=.rt (.lst (l.map nd)) [f9 n' m]
theorem Fm(K:Nat)(cs:List Int)(hc:cs.length<=63)(A:Ta)(j:Nat)(hA:Wa j A)(hj:j<=1000)(n m:Int)(h0:0<=n)(h1:n<=1800000):
  ∃(l:List Nd)(n':Int),Rw (R7 A) 0 2 4 l/\n<=n'/\n'<=n+2/\L (K+3) .Q7 [cv cs,.ref 0,ta A] [f9 n m]=.ok (.lst (l.map nd)) [f9 n' m]:=by
 have r2:∀x,ki (F (K+2)) (L (K+2)) [some (cv cs),some (.ref 0),some (ta A),none,none,none,none,none,none,none] [f9 n m]=x->L (K+3) .Q7 [cv cs,.ref 0,ta A] [f9 n m]=match x with|.nx _ h1=>qC 1 .non h1|.rt v h1=>kW 1 v h1|_=>.bad:=fun x e=>by subst e;rfl
 have fin:∀(l:List Nd)(n':Int),kW 1 (.lst (l.map nd)) [f9 n' m]=.ok (.lst (l.map nd)) [f9 n' m]:=fun l n'=>Yn (by rw[PV.pure];exact mf l) (fP _ _)
 suffices S:∃(l:List Nd)(n':Int),(Rw (R7 A) 0 2 4 l/\n<=n'/\n'<=n+2)/\ki (F (K+2)) (L (K+2)) [some (cv cs),some (.ref 0),some (ta A),none,none,none,none,none,none,none] [f9 n m]=.rt (.lst (l.map nd)) [f9 n' m] by obtain⟨l,n',⟨a,b,c⟩,e⟩:=S;exact⟨l,n',a,b,c,by rw[r2 _ e];exact fin l n'⟩
 obtain⟨rows,q1,q2,q3⟩:=tx (K+1) A.s hA.s (adu hA.l hj);have cp:∀h,fM (F (K+2) .L_) [H9 A.s] h=.ok (.lst (rows.map A_)) h:=fun h=>eF h (by rw[am,hZ];rfl) q3
 have tg:∀(x:Row) h,jp (F (K+2)) [some (A_ x)] h=.ok (decide (Wh x.2∈([[119],[116],[110]]:Ya))) h:=fun x h=>by
  have i1:b_ (A_ x) (.int 1) h=.ok (kd x.2) h:=by show Res.ok (aj h (kd x.2)) h=_;rw[jY]
  have dr:aj h (A_ x)=A_ x:=rfl;have it:=Ml (ls:=[[119],[116],[110]]) (lK (zW x.2)) ⋯ h;simp only[ac5,adT]at it;simp[EH,jp,dr,i1,DF,it]
 obtain⟨fl,f1,f2,f3⟩:=xr (tt:=jp (F (K+2))) (te:=mC (F (K+2))) (cp:=[]) A_ A_ rows (fun x hx=>⟨_,tg x⟩) (fun x hx h=>by have dr:aj h (A_ x)=A_ x:=rfl;simp[EH,mC,dr])
 have lr:(rows.map A_).length<16777216:=by rw[ac2];have:=hA.l;lia
 obtain⟨v,v0,v1,ce⟩:=eW (K+1) cs hc n m h0 ⋯ [];have d0:∀(n:Int),aj [f9 n m] (.ref 0)=.ref 0:=fun _=>rfl
 have fdr:∀l:List Row,(∀x∈l,x∈rows)->fds 59 (l.map A_):=fun l=>by
  induction l with
  |nil=>intro _;exact bw _
  |cons a r ih=>intro hl;have o:=q1 a (hl a ac4);refine aB (aV (cI (d:=50) (aB (aV (og (d:=0) o.w) ⋯) (aB (aV (uf o.k.1) (by have:=o.k.2;lia)) (bw _)))) ⋯) (ih fun y hy=>hl y (ac1 _ hy))
 have en:∀h,o9 (.lst (fl.map A_)) (.lst []) h=.ok (.bl (fl.map A_).isEmpty) h:=fun h=>xv (fdr fl fun x hx=>(f1 x hx).1) h;obtain⟨s,s1,s2,se⟩:=uN K cs hc (n+1) m ⋯ ⋯ [];have n2:n+1+1=n+2:=by lia
 rw[n2]at se
 by_cases ne:fl= []
 .subst ne;have en0:∀h,o9 (.lst []) (.lst []) h=.ok (.bl true) h:=fun h=>en h;refine⟨[.text s],n+2,⟨(Rw.text s1 s2.1 s2.2 ⋯).mono (acY _) ⋯ ⋯,by lia,by lia⟩,?_⟩;have nt:nd (.text s)=.tup [.str tT,.str s]:=by rw[nd]
  simp[EH,ki,bI,zY,cp,lr,f3,bX,Option.getD,adT,bR,d0,ce,en0,se,nt]
 have e0:(fl.map A_).isEmpty=false:=by cases fl<;>first|exact(ne rfl).elim|rfl
 obtain⟨x,hx,q,ix⟩:=tX A_ rW ne v;obtain⟨hx1,hx2⟩:=f1 x hx;have ro:=q1 x hx1
 have hk:Wh x.2∈([[119],[116],[110]]:Ya):=by
  have:=hx2 [];rw[tg x []]at this;injection this with this _
  exact of_decide_eq_true this
 obtain⟨W0,w1,w2,w3⟩:=Jn x.2 hk;obtain⟨p,kk⟩:=x;have rq:A_ (p,kk)=.tup [H_ p,kd kk]:=rfl;have cd:∀ ρ h,nv [((cK (.str [110])),(cN cY (af acj ah))),(acs,(cN cY (af acz abh))),(abX,(cN cY abh))] ρ h=.ok Pa h:=fun _ _=>rfl;have cd2:∀ ρ h,nv [(aaD,(cK (.str [10,38,60,62,124]))),(abk,(cK (.str [10])))] ρ h=.ok dCl h:=fun _ _=>rfl;have isd:∀h,zi h dCl=true:=fun _=>rfl;show gQ (R7 A) 0 2 4 n 2 m _;unfold ki;refine bh [some (cv cs),some (.ref 0),some (ta A),some (.lst (fl.map A_)),none,none,none,none,none,none] [f9 n m] (by simp[EH,bI,zY,cp,lr,f3,bX,Option.getD]) ?_;refine bh [some (cv cs),some (.ref 0),some (ta A),some (.lst (fl.map A_)),some (.int v),none,none,none,none,none] [f9 (n+1) m] (by simp[EH,bR,d0,ce]) ?_;refine bh [some (cv cs),some (.ref 0),some (ta A),some (.lst (fl.map A_)),some (.int v),none,none,none,none,none] [f9 (n+1) m] (by simp[EH,en,e0]) ?_;refine bh [some (cv cs),some (.ref 0),some (ta A),some (.lst (fl.map A_)),some (.int v),some (H_ p),some (kd kk),none,none,none] [f9 (n+1) m] (by simp[EH,q,ix,rq]) ?_;refine bh [some (cv cs),some (.ref 0),some (ta A),some (.lst (fl.map A_)),some (.int v),some (H_ p),some (kd kk),some (.lst (W0.map PV.str)),none,none] [f9 (n+1) m] (by simp[EH,cd,jY,DF,w3]) ?_
 refine qR (fun W:Ya=>[some (cv cs),some (.ref 0),some (ta A),some (.lst (fl.map A_)),some (.int v),some (H_ p),some (kd kk),some (.lst (W.map PV.str)),none,none]) (fun _=> [f9 (n+1) m]) (fun W=>W≠ []/\∀w∈W,w∈w5) ?_ fun W hW=>?_
 .cases o:A.od with
  |false=>exact⟨W0,⟨w1,w2⟩,by simp[EH,bI,KA,o]⟩
  |true=>
   cases o2:decide (v / 512 % 9=1)with
   |false=>exact⟨W0,⟨w1,w2⟩,by simp[EH,bI,KA,o,o2]⟩
   |true=>exact⟨w5,⟨by decide,fun w h=>h⟩,by simp[EH,bI,KA,o,o2]⟩
 obtain⟨w,hw,wq,wi⟩:=tX PV.str (fun _=>rfl) hW.1 (v / 64);have w5w:=hW.2 w hw;refine bh [some (cv cs),some (.ref 0),some (ta A),some (.lst (fl.map A_)),some (.int v),some (H_ p),some (kd kk),some (.lst (W.map PV.str)),some (.str w),none] [f9 (n+1) m] (by simp[EH,wq,wi]) ?_;obtain⟨c,c1,c2,c3,c4⟩:=Jp w w5w;obtain⟨z,z1,z2,z3⟩:=Gj c1 c2 c3 (v / 4096);have ok:Za (A.s.map (·.1)) p:=⟨ro.m,ro.w,ro.l⟩
 have np:nd (.place p w)=.tup [.str tP,H_ p,.str w]:=by rw[nd]
 have nt:nd (.text (z::s))=.tup [.str tT,.str (z::s)]:=by rw[nd]
 have zs:1+s.length<=16777216:=by lia
 have rp:Rw (R7 A) 0 1 0 [.place p w]:=Rw.place ok w5w
 cases t:(A.td||decide (v / 512 % 3=1))with
 |true=>
  refine⟨[.place p w,.text ([z]++s)],n+2,⟨(Rw.app rp (Rw.text (s:=[z]++s) (t:=4) (Ab z1 s1 (by simp;lia)) (by simp) (by simp;lia) ⋯)).mono (acY _) ⋯ ⋯,by lia,by lia⟩,?_⟩
  cases o:A.td with
  |true=>simp[EH,bI,rF,o,cd2,isd,c4,yT c2,z2,z3,bR,d0,se,zs,np,nt]
  |false=>rw[o,Bool.false_or]at t;simp[EH,bI,rF,o,t,cd2,isd,c4,yT c2,z2,z3,bR,d0,se,zs,np,nt]
 |false=>rw[ahD]at t;refine⟨[.place p w],n+1,⟨rp.mono (acY _) ⋯ ⋯,by lia,by lia⟩,?_⟩;simp[EH,bI,rF,t.1,t.2,np]
def OE(k:Nat)(A:Ta)(j:Nat)(hA:Wa j A)(hj:j<=1000)(mo:Vc)(lm:mo.length<=1000):F (k+1) .W_ [ta A,H9 mo]=.ok (ta { A with s:=A.s++mo }):=by
 have r2:F (k+1) .W_ [ta A,H9 mo]=match AU (F k) [some (ta A),some (H9 mo),none] []with
   |.nx _ _=>.ok .non
   |.rt v h=>aK v h
   |_=>.bad:=rfl
 have dm:wV [ta A] []=.ok (.ref 0) [.dct [(.inr kS,H9 A.s),(.inr kP,.lst (A.p.map Td)),(.inr kH,hkv A.h),(.inr kN,Te A.ms),(.inr kTi,.bl A.td),(.inr kOd,.bl A.od)]]:=rfl
 have ad:∀h,ak (H9 A.s) (H9 mo) h=.ok (H9 (A.s++mo)) h:=fun h=>by unfold H9;rw[fS _ _ h (by rw[ac2,ac2];have:=hA.l;lia),adi]
 have sd:∀ ρ,Bo (H9 (A.s++mo)) (.ref 0) (.str kS) ρ [.dct [(.inr kS,H9 A.s),(.inr kP,.lst (A.p.map Td)),(.inr kH,hkv A.h),(.inr kN,Te A.ms),(.inr kTi,.bl A.td),(.inr kOd,.bl A.od)]]=.nx ρ [.dct [(.inr kS,H9 (A.s++mo)),(.inr kP,.lst (A.p.map Td)),(.inr kH,hkv A.h),(.inr kN,Te A.ms),(.inr kTi,.bl A.td),(.inr kOd,.bl A.od)]]:=fun ρ=>rfl;have tp:=jo { A with s:=A.s++mo }
 have fz:fzR (.ref 0) [.dct [(.inr kS,H9 (A.s++mo)),(.inr kP,.lst (A.p.map Td)),(.inr kH,hkv A.h),(.inr kN,Te A.ms),(.inr kTi,.bl A.td),(.inr kOd,.bl A.od)]]=.ok (ta { A with s:=A.s++mo }) [.E_ (ta { A with s:=A.s++mo })]:=by show(match(if gC [(.inr kS,H9 (A.s++mo)),(.inr kP,.lst (A.p.map Td)),(.inr kH,hkv A.h),(.inr kN,Te A.ms),(.inr kTi,.bl A.td),(.inr kOd,.bl A.od)]=true then some (ta { A with s:=A.s++mo },[PO.E_ (ta { A with s:=A.s++mo })])else none)with|some (q,h2)=>Res.ok q h2|none=>.bad)=_;rw[if_pos (by unfold ta at tp;rw[PV.pure]at tp;exact tp)]
 have d0:∀l,aj [.dct l] (.ref 0)=.ref 0:=fun _=>rfl;rw[r2];simp[EH,AU,bI,nJ,dm,zY,ad,sd,d0,fz];exact kc tp
def Wa.more{j:Nat}{A:Ta}(h:Wa j A){mo:Vc}(hm:X8 mo)(hl:mo.length<=i):Wa (j+i) { A with s:=A.s++mo }:=⟨fun x hx=>by
 rcases adv.mp hx with q|q
 .exact h.s x q
 .exact hm x q,by show(A.s++mo).length<=_;rw[acZ];have:=h.l;lia,h.pl,h.p,h.h,h.ml,h.m,h.mn,h.pn⟩
def Cn(A:Ta)(mo:Vc):R7 { A with s:=A.s++mo }=moX (R7 A) (mo.map (·.1)):=by show(_,_,(A.s++mo).map (·.1))=(_,_,A.s.map (·.1)++mo.map (·.1));rw[adi]
def Cv{k:Nat}{A:Ta}{j:Nat}(hA:Wa j A)(hj:j<=1000)(mo:Vc)(lm:mo.length<=1000)(h:Y3):fM (F (k+1) .W_) [ta A,H9 mo] h=.ok (ta { A with s:=A.s++mo }) h:=eF h (by rw[am,am,jo,hZ];rfl) (OE k A j hA hj mo lm)
def oB(cs:List Int)(l2:Y2)(h2:am l2=true){n m n':Int}{v:PV}(hv:v.pure=true)(e:fn (cv cs::.ref 0::l2) [f9 n m]=.ok v [f9 n' m])(r:Y3):I9 fn (cv cs::.ref 0::l2) (f9 n m::r)=.ok v (f9 n' m::r):=
 iU (fn:=fn) [cv cs] l2 (by rw[am,mR];rfl) h2 rfl (fP _ _) e hv (fP _ _)
def qV(l:List Nd):(PV.lst (l.map nd)).pure=true:=by rw[PV.pure];exact mf l
def nN(K:Nat)(cs:List Int)(hc:cs.length<=63)(A:Ta)(j:Nat)(hA:Wa j A)(hj:j<=1000)(n m:Int)(h0:0<=n)(h1:n<=1800000)(hK:3<=K)(r:Y3):
  ∃(l:List Nd)(n':Int),Rw (R7 A) 0 2 4 l/\n<=n'/\n'<=n+2/\I9 (L K .Q7) [cv cs,.ref 0,ta A] (f9 n m::r)=.ok (.lst (l.map nd)) (f9 n' m::r):=by
 obtain⟨K',rfl⟩:∃K',K=K'+3:=⟨K - 3,by lia⟩
 obtain⟨l,n',a,b,c,e⟩:=Fm K' cs hc A j hA hj n m h0 h1;exact⟨l,n',a,b,c,oB cs [ta A] (by rw[am,jo];rfl) (qV l) e r⟩
def my(K:Nat)(cs:List Int)(hc:cs.length<=63)(s:Vc)(hs:X8 s)(hl:s.length<=1000)(ks:List Kd)(hk:WW ks)(lk:ks.length<=100)(n m:Int)(h0:0<=n)(h1:n<=1800000)(hK:2<=K)(r:Y3):
  ∃(o:Option (List O7))(n':Int),n<=n'/\n'<=n+ks.length/\(∀ps,o=some ps->ps.length=ks.length/\∀p∈ps,Za (s.map (·.1)) p)/\I9 (L K .O5) [cv cs,.ref 0,H9 s,G6 ks] (f9 n m::r)=.ok (opt o) (f9 n' m::r):=by
 obtain⟨K',rfl⟩:∃K',K=K'+2:=⟨K - 2,by lia⟩
 obtain⟨o,n',a,b,c,e⟩:=DJ K' cs hc s hs hl ks hk lk n m h0 h1;exact⟨o,n',a,b,c,oB cs [H9 s,G6 ks] (by rw[am,am,hZ,ph];rfl) (yJ o) e r⟩
def wX{X:Cx}{ps:List O7}(h:∀p∈ps,Za X.2.2 p):okP X ps=true:=adn.mpr fun p hp=>aep.mpr (h p hp).1
def Eb{ns:Ya}{ps:List O7}(h:∀p∈ps,Za ns p)(hl:ps.length<5):wps ps=true:=by rw[wps,acX];exact⟨adn.mpr fun p hp=>(h p hp).2.1,decide_eq_true hl⟩
def uj(b:SR):Res PV:=match b with
 |.nx _ h1=>qC 1 .non h1
 |.rt v h1=>kW 1 v h1
 |_=>.bad
def xn{X:Cx}{D c t:Nat}{n k m:Int}{b:SR}{R:Res PV}(hb:gQ X D c t n k m b)(e:R=uj b):∃(l:List Nd)(n':Int),Rw X D c t l/\n<=n'/\n'<=n+k/\R=.ok (.lst (l.map nd)) [f9 n' m]:=by obtain⟨l,n',⟨a,b1,c1⟩,z⟩:=hb;refine⟨l,n',a,b1,c1,?_⟩;rw[e,z];exact Yn (qV l) (fP _ _)
theorem JB(K:Nat)(cs:List Int)(hc:cs.length<=63)(A:Ta)(j:Nat)(hA:Wa j A)(hj:j<=1000)(n m:Int)(h0:0<=n)(h1:n<=1700000)(hK:3<=K):
  ∃(l:List Nd)(n':Int),Rw (R7 A) 0 2 4 l/\n<=n'/\n'<=n+5/\L (K+1) .TF [cv cs,.ref 0,ta A] [f9 n m]=.ok (.lst (l.map nd)) [f9 n' m]:=by
 refine xn (b:=uy (F K) (L K) [some (cv cs),some (.ref 0),some (ta A),none] [f9 n m]) ?_ rfl;have d0:∀(n:Int),aj [f9 n m] (.ref 0)=.ref 0:=fun _=>rfl;unfold uy;refine bh [some (cv cs),some (.ref 0),some (ta A),some .non] [f9 n m] (by simp[EH,if_true]) ?_;refine qR (fun x:Option (List O7)×Int=> [some (cv cs),some (.ref 0),some (ta A),some (opt x.1)]) (fun x=> [f9 x.2 m]) (fun x=>n<=x.2/\x.2<=n+3/\∀ps,x.1=some ps->A.h.map (fun l=>(l.length:Int))=some (ps.length:Int)/\ps.length<=3/\∀p∈ps,Za (A.s.map (·.1)) p) ?_ fun x hx=>?_
 .cases hh:A.h with
  |none=>exact⟨(none,n),⟨afW _,by show n<=n+3;lia,fun ps e=>(by cases e)⟩,by simp[EH,bI,Nn,hh,hkv,opt]⟩
  |some ks=>have ho:=hA.h;rw[hh]at ho;obtain⟨o,n',a,b,c,e⟩:=my K cs hc A.s hA.s (adu hA.l hj) ks ho.2 (by have:=ho.1;lia) n m h0 ⋯ ⋯ [];have nn:bP (G6 ks)=false:=rfl;refine⟨(o,n'),⟨a,by have:=ho.1;show n'<=n+3;lia,fun ps q=>?_⟩,by simp[EH,bI,Nn,zY,hh,hkv,nn,bR,d0,e]⟩;obtain⟨c1,c2⟩:=c ps q;refine⟨?_,by have:=ho.1;lia,c2⟩;show some (ks.length:Int)=some (ps.length:Int);rw[c1]
 obtain⟨o,n1⟩:=x;obtain⟨x1,x2,x3⟩:=hx;dsimp only at x1 x2 x3 |-
 cases o with
 |none=>obtain⟨l,n',a,b,c,e⟩:=nN K cs hc A j hA hj n1 m ⋯ ⋯ hK [];have o0:opt none=.non:=rfl;refine⟨l,n',⟨a,by lia,by lia⟩,?_⟩;simp[EH,o0,bI,bR,d0,e]
 |some ps=>
  obtain⟨y1,y2,y3⟩:=x3 ps rfl;have o1:∀h,aj h (opt (some ps))=.tup (jO ps):=fun _=>rfl;have nb:nd (.body ps)=.tup [.str tB,.tup (jO ps)]:=by rw[nd]
  refine⟨[.body ps],n1,⟨Rw.one (by rw[wN];exact Eb y3 ⋯) ?_ (adx _) (by show 0+1<=2;lia) (adx _),by lia,by lia⟩,?_⟩
  .rw[okN,wX (X:=R7 A) y3];exact decide_eq_true y1
  .simp[EH,o1,nb]
def qH(K:Nat)(cs:List Int)(hc:cs.length<=63)(A:Ta)(j:Nat)(hA:Wa j A)(hj:j<=1000)(n m:Int)(h0:0<=n)(h1:n<=1700000)(hK:4<=K)(r:Y3):
  ∃(l:List Nd)(n':Int),Rw (R7 A) 0 2 4 l/\n<=n'/\n'<=n+5/\I9 (L K .TF) [cv cs,.ref 0,ta A] (f9 n m::r)=.ok (.lst (l.map nd)) (f9 n' m::r):=by
 obtain⟨K',rfl⟩:∃K',K=K'+1:=⟨K - 1,by lia⟩
 obtain⟨l,n',a,b,c,e⟩:=JB K' cs hc A j hA hj n m h0 h1 ⋯;exact⟨l,n',a,b,c,oB cs [ta A] (by rw[am,jo];rfl) (qV l) e r⟩
noncomputable def Gc:Nat->Nat
 |0=>6
 |d+1=>3 * (2 * Gc d+6)
noncomputable def Uk:Nat->Nat
 |0=>10
 |d+1=>1+3 * (1+(2 * Uk d+20))
def Gc3(h:d<=3):Gc d<=2070:=(by decide:∀d≤3,Gc d<=2070) d h
def Rx(h:d<=3):Uk d<=10000:=(by decide:∀d≤3,Uk d<=10000) d h
def sH(d:Nat):10<=Uk d:=by cases d<;>simp only[Uk]<;>lia
def xM(d:Nat):6<=Gc d:=by cases d<;>simp only[Gc]<;>lia
def hJ(d:Nat):Prop:=∀(K:Nat)(cs:List Int)(A:Ta)(j:Nat)(n m:Int),cs.length<=63->Wa j A->j+3 * d<=100->0<=n->n+Uk d<=1600000->3 * d+6<=K->
 ∃(l:List Nd)(n':Int),Rw (R7 A) d (Gc d) 12 l/\n<=n'/\n'<=n+Uk d/\L K .M4 [cv cs,.ref 0,ta A,.int d] [f9 n m]=.ok (.lst (l.map nd)) [f9 n' m]
def kJ(ok:hJ d)(K:Nat)(cs:List Int)(A:Ta)(j:Nat)(n m:Int)(hc:cs.length<=63)(hA:Wa j A)(hj:j+3 * d<=100)(h0:0<=n)(h1:n+Uk d<=1600000)(hK:3 * d+6<=K)(r:Y3):
  ∃(l:List Nd)(n':Int),Rw (R7 A) d (Gc d) 12 l/\n<=n'/\n'<=n+Uk d/\I9 (L K .M4) [cv cs,.ref 0,ta A,.int d] (f9 n m::r)=.ok (.lst (l.map nd)) (f9 n' m::r):=by
 obtain⟨l,n',a,b,c,e⟩:=ok K cs A j n m hc hA hj h0 h1 hK;exact⟨l,n',a,b,c,oB cs [ta A,.int d] (by rw[am,am,jo];rfl) (qV l) e r⟩
def jU{kn:Cx}{c t:Nat}(k:Nat)(hd:d<=20)(hc:c<=1000000)(ht:t<=17)(l:List Nd)(h:Rw kn d c t l):∃l',Rwn kn d c t l'/\∀g,fM (F (k+1) .TQ) [.lst (l.map nd)] g=.ok (.tup (q8 (M9 l'))) g:=by obtain⟨l',a,e⟩:=Lx kn d c t k hd hc ht false l h;exact⟨l',a,fun g=>by rw[BH];exact eF g (by rw[am,qV];rfl) e⟩
def Cp(a b:PV):cut [a,b] none (some 2)=[a,b]/\cut [a,b] none (some 1)=[a]:=⟨rfl,rfl⟩
theorem Rw.tail{kn:Cx}{c t:Nat}{z:Nat}(x:Bool)(h:Rw kn d c t [n])(hz:sg [z]=true):Rw kn d (c+1) (t+1) (if x=true then[n,.text [z]]else[n]):=by
 cases x with
 |true=>exact Rw.app h ((Rw.text (s:=[z]) (t:=1) hz (acY _) (acY _) ⋯).mono (adx _) (acY _) (acY _))
 |false=>exact h.mono (acY _) ⋯ ⋯
noncomputable def Ul(z:Nat)(i:Int):Y1:=if i % 4=0 then[]else if i % 4=1 then[]else if i % 4=2 then[z,44,32]else[z]
def MH{z:Nat}(hz:sg [z]=true)(i:Int):sg (Ul z i)=true:=by
 have e3:sg [z,44,32]=true:=Ab (a:=[z]) (b:=[44,32]) hz ⋯ (by simp);unfold Ul;split
 .rfl
 .split
  .rfl
  .split
   .exact e3
   .exact hz
def MI(z:Nat)(i:Int)(h:Y3):b_ (.lst [.str [],.str [],.str [z,44,32],.str [z]]) (.int (i % 4)) h=.ok (.str (Ul z i)) h:=by obtain⟨a,b⟩:=bj i (by decide:(0:Int)<4);unfold Ul;rcases(show i % 4=0\/i % 4=1\/i % 4=2\/i % 4=3 by lia)with q|q|q|q<;>rw[q]<;>rfl
theorem IE(d:Nat)(hd:d<=2)(ok:hJ d)(K:Nat)(cs:List Int)(hc:cs.length<=63)(A:Ta)(j:Nat)(hA:Wa j A)(hj:j+3 * (d+1)<=100)(n m:Int)(h0:0<=n)(h1:n+(Uk d+1)<=1600000)(hK:3 * d+6<=K):
  ∃(l:List Nd)(n':Int),Rw (R7 A) (d+1) (Gc d+4) 4 l/\n<=n'/\n'<=n+(Uk d+1)/\L (K+1) .Tz [cv cs,.ref 0,ta A,.int ((d+1:Nat):Int)] [f9 n m]=.ok (.lst (l.map nd)) [f9 n' m]:=by
 obtain⟨K',rfl⟩:∃K',K=K'+2:=⟨K - 2,by lia⟩
 have gp:=xM d;have cq:=sH d;refine xn (b:=ux (F (K'+2)) (L (K'+2)) [some (cv cs),some (.ref 0),some (ta A),some (.int ((d+1:Nat):Int)),none,none,none,none,none,none,none,none,none] [f9 n m]) ?_ rfl;obtain⟨rows,q1,q2,q3⟩:=tx (K'+1) A.s hA.s (by have:=hA.l;lia);have cp:∀h,fM (F (K'+2) .L_) [H9 A.s] h=.ok (.lst (rows.map A_)) h:=fun h=>eF h (by rw[am,hZ];rfl) q3
 have tg:∀(x:Row) h,kt (F (K'+2)) [some (A_ x)] h=.ok (decide (Wh x.2= [108])) h:=fun x h=>by
  have i1:b_ (A_ x) (.int 1) h=.ok (kd x.2) h:=by show Res.ok (aj h (kd x.2)) h=_;rw[jY]
  have dr:aj h (A_ x)=A_ x:=rfl;have it:=GJ (zW x.2) (by decide:sg [108]=true) h;simp[EH,kt,dr,i1,DF,it]
 obtain⟨fl,f1,f2,f3⟩:=xr (tt:=kt (F (K'+2))) (te:=oq (F (K'+2))) (cp:=[]) A_ A_ rows (fun x hx=>⟨_,tg x⟩) (fun x hx h=>by have dr:aj h (A_ x)=A_ x:=rfl;simp[EH,oq,dr])
 have lr:(rows.map A_).length<16777216:=by rw[ac2];have:=hA.l;lia
 obtain⟨v,v0,v1,ce⟩:=eW (K'+1) cs hc n m h0 ⋯ [];have d0:∀(n:Int),aj [f9 n m] (.ref 0)=.ref 0:=fun _=>rfl
 have fdr:∀l:List Row,(∀x∈l,x∈rows)->fds 59 (l.map A_):=fun l=>by
  induction l with
  |nil=>intro _;exact bw _
  |cons a r ih=>intro hl;have o:=q1 a (hl a ac4);refine aB (aV (cI (d:=50) (aB (aV (og (d:=0) o.w) ⋯) (aB (aV (uf o.k.1) (by have:=o.k.2;lia)) (bw _)))) ⋯) (ih fun y hy=>hl y (ac1 _ hy))
 have en:∀h,o9 (.lst (fl.map A_)) (.lst []) h=.ok (.bl (fl.map A_).isEmpty) h:=fun h=>xv (fdr fl fun x hx=>(f1 x hx).1) h;unfold ux;refine bh [some (cv cs),some (.ref 0),some (ta A),some (.int ((d+1:Nat):Int)),some (.lst (fl.map A_)),none,none,none,none,none,none,none,none] [f9 n m] (by simp[EH,bI,zY,cp,lr,f3,bX,Option.getD]) ?_;refine bh [some (cv cs),some (.ref 0),some (ta A),some (.int ((d+1:Nat):Int)),some (.lst (fl.map A_)),some (.int v),none,none,none,none,none,none,none] [f9 (n+1) m] (by simp[EH,bR,d0,ce]) ?_
 by_cases ne:fl= []
 .subst ne;have en0:∀h,o9 (.lst []) (.lst []) h=.ok (.bl true) h:=fun h=>en h;obtain⟨l,n',a,b,c,e⟩:=nN (K'+2) cs hc A j hA ⋯ (n+1) m ⋯ ⋯ ⋯ [];refine⟨l,n',⟨a.mono (adx _) ⋯ (acY _),by lia,by lia⟩,?_⟩;simp[EH,adT,en0,bR,d0,bI,e]
 have e0:(fl.map A_).isEmpty=false:=by cases fl<;>first|exact(ne rfl).elim|rfl
 obtain⟨x,hx,q,ix⟩:=tX A_ rW ne v;obtain⟨hx1,hx2⟩:=f1 x hx;have ro:=q1 x hx1
 have hk:Wh x.2= [108]:=by
  have:=hx2 [];rw[tg x []]at this;injection this with this _
  exact of_decide_eq_true this
 obtain⟨p,kk⟩:=x;obtain⟨k1,rfl⟩:∃k1,kk=.l k1:=by cases kk<;>first|exact⟨_,rfl⟩|(exfalso;simp[Wh]at hk)
 have rq:A_ (p,Kd.l k1)=.tup [H_ p,kd (.l k1)]:=rfl;have kg1:Xo k1:=by have:=ro.k;unfold Xo at this |-;rw[wK,zK]at this;exact⟨this.1,by lia⟩
 obtain⟨nm,m1,m2,m3⟩:=mj hA.ml hA.m (v / 64 % 12) (bj _ ⋯).1 (bj _ ⋯).2;have sm:X8 [(nm,k1)]:=fun y hy=>by cases adl.mp hy;exact⟨m1,kg1⟩
 have ci:=fun h=>Cv (k:=K'+1) hA ⋯ [(nm,k1)] (by simp) h;have sv1:H9 [(nm,k1)]=.lst [.tup [.str nm,kd k1]]:=rfl;rw[sv1]at ci;obtain⟨l,n1,a1,a2,a3,a4⟩:=kJ ok (K'+2) cs { A with s:=A.s++ [(nm,k1)] } (j+1) (n+1) m hc (hA.more sm (acY 1)) ⋯ ⋯ ⋯ ⋯ [];rw[Cn]at a1;obtain⟨z1,y1,_,y2⟩:=wn (v / 768);obtain⟨z2,y3,_,y4⟩:=wn (v / 768+1+v / 72960 % 94);have dd:((d+1:Nat):Int) - 1=(d:Int):=by lia
 have i1:∀h,b_ (kd (.l k1)) (.int 1) h=.ok (kd k1) h:=fun h=>by rw[kd];show Res.ok (aj h (kd k1)) h=_;rw[jY]
 have sc:=fun h=>nG (K'+1) h;refine bh [some (cv cs),some (.ref 0),some (ta A),some (.int ((d+1:Nat):Int)),some (.lst (fl.map A_)),some (.int v),none,none,none,none,none,none,none] [f9 (n+1) m] (by simp[EH,en,e0]) ?_;refine bh [some (cv cs),some (.ref 0),some (ta A),some (.int ((d+1:Nat):Int)),some (.lst (fl.map A_)),some (.int v),some (H_ p),some (kd (.l k1)),none,none,none,none,none] [f9 (n+1) m] (by simp[EH,q,ix,rq]) ?_;refine bh [some (cv cs),some (.ref 0),some (ta A),some (.int ((d+1:Nat):Int)),some (.lst (fl.map A_)),some (.int v),some (H_ p),some (kd (.l k1)),some (.str nm),none,none,none,none] [f9 (n+1) m] (by simp[EH,bI,Nm,m2]) ?_;refine bh [some (cv cs),some (.ref 0),some (ta A),some (.int ((d+1:Nat):Int)),some (.lst (fl.map A_)),some (.int v),some (H_ p),some (kd (.l k1)),some (.str nm),some (.lst (l.map nd)),none,none,none] [f9 n1 m] (by simp[EH,bR,d0,bI,jY,i1,ci,dd,a4]) ?_;refine bh [some (cv cs),some (.ref 0),some (ta A),some (.int ((d+1:Nat):Int)),some (.lst (fl.map A_)),some (.int v),some (H_ p),some (kd (.l k1)),some (.str nm),some (.lst (l.map nd)),some (.str [z1]),none,none] [f9 n1 m] (by simp[EH,sc,y2]) ?_;refine bh [some (cv cs),some (.ref 0),some (ta A),some (.int ((d+1:Nat):Int)),some (.lst (fl.map A_)),some (.int v),some (H_ p),some (kd (.l k1)),some (.str nm),some (.lst (l.map nd)),some (.str [z1]),some (.str [z2]),none] [f9 n1 m] (by simp[EH,sc,y4]) ?_;refine qR (fun l:List Nd=> [some (cv cs),some (.ref 0),some (ta A),some (.int ((d+1:Nat):Int)),some (.lst (fl.map A_)),some (.int v),some (H_ p),some (kd (.l k1)),some (.str nm),some (.lst (l.map nd)),some (.str [z1]),some (.str [z2]),none]) (fun _=> [f9 n1 m]) (fun l=>Rw (moX (R7 A) [nm]) d (Gc d+1) 13 l) ?_ fun l hl=>?_
 .cases t:A.td with
  |false=>exact⟨l,a1.mono (acY _) ⋯ ⋯,by simp[EH,bI,rF,t]⟩
  |true=>
   refine⟨[.text [z1]]++l,(Rw.app ((Rw.text (kn:=moX (R7 A) [nm]) (s:=[z1]) (t:=1) y1 (acY _) (acY _) ⋯).mono (adx d) (acY _) (acY _)) a1).mono (acY _) ⋯ ⋯,?_⟩;have nt:nd (.text [z1])=.tup [.str tT,.str [z1]]:=by rw[nd]
   have g3:=Gc3 (d:=d) ⋯
   have ad:∀h,ak (.lst [.tup [.str tT,.str [z1]]]) (.lst (l.map nd)) h=.ok (.lst (.tup [.str tT,.str [z1]]::l.map nd)) h:=fun h=>by rw[fS _ _ h (by have:=eS l;have:=a1.c;rw[ac2];simp;lia)];rfl
   simp[EH,bI,rF,t,ad,nt]
 obtain⟨l',b1,b2⟩:=jU (K'+1) (by lia:d<=20) (by have:=Gc3 (d:=d) ⋯;lia) ⋯ l hl;obtain⟨w1,w2,w3⟩:=b1.q8;have bt:=MI z1 (v / 7);have bo:=MH y1 (v / 7);have zs:∀h,ak (.str [z1]) (.str [44,32]) h=.ok (.str [z1,44,32]) h:=fun h=>rfl;have nl:nd (.loop nm p (M9 l') (Ul z1 (v / 7)))=.tup [.str tL,.str nm,H_ p,.tup (q8 (M9 l')),.str (Ul z1 (v / 7))]:=by rw[nd]
 refine bh [some (cv cs),some (.ref 0),some (ta A),some (.int ((d+1:Nat):Int)),some (.lst (fl.map A_)),some (.int v),some (H_ p),some (kd (.l k1)),some (.str nm),some (.lst (l.map nd)),some (.str [z1]),some (.str [z2]),some (nd (.loop nm p (M9 l') (Ul z1 (v / 7))))] [f9 n1 m] (by simp[EH,b2,zs,bt,nl]) ?_;have po:Za (A.s.map (·.1)) p:=⟨ro.m,ro.w,ro.l⟩
 have on:Rw (R7 A) (d+1) (Gc d+2) 0 [.loop nm p (M9 l') (Ul z1 (v / 7))]:=Rw.one (by rw[wN,m1,po.2.1,w1,bo];rfl) (by rw[okN,wX (X:=R7 A) (ps:=[p]) (fun q hq=>by cases adl.mp hq;exact po),w2];rfl) (by rw[dN];lia) (by rw[R8,lx];have:=b1.c;lia) (adx _);have nt:nd (.text [z2])=.tup [.str tT,.str [z2]]:=by rw[nd]
 have tl:=on.tail (A.td||decide (v / 5 % 2=1)) y3;refine⟨if(A.td||decide (v / 5 % 2=1))=true then[.loop nm p (M9 l') (Ul z1 (v / 7)),.text [z2]]else[.loop nm p (M9 l') (Ul z1 (v / 7))],n1,⟨tl.mono (acY _) ⋯ ⋯,by lia,by lia⟩,?_⟩
 cases t:A.td with
 |true=>simp[EH,bI,rF,t,Cp,nt]
 |false=>cases q:decide (v / 5 % 2=1)<;>simp[EH,bI,rF,t,q,Cp,nt]
def qt(hd:d<=2)(ok:hJ d)(K:Nat)(cs:List Int)(hc:cs.length<=63)(A:Ta)(j:Nat)(hA:Wa j A)(hj:j+3 * (d+1)<=100)(n m:Int)(h0:0<=n)(h1:n+(Uk d+1)<=1600000)(hK:3 * d+7<=K)(r:Y3):
  ∃(l:List Nd)(n':Int),Rw (R7 A) (d+1) (Gc d+4) 4 l/\n<=n'/\n'<=n+(Uk d+1)/\I9 (L K .Tz) [cv cs,.ref 0,ta A,.int ((d+1:Nat):Int)] (f9 n m::r)=.ok (.lst (l.map nd)) (f9 n' m::r):=by
 obtain⟨K',rfl⟩:∃K',K=K'+1:=⟨K - 1,by lia⟩
 obtain⟨l,n',a,b,c,e⟩:=IE d hd ok K' cs hc A j hA hj n m h0 h1 ⋯;exact⟨l,n',a,b,c,oB cs [ta A,.int ((d+1:Nat):Int)] (by rw[am,am,jo];rfl) (qV l) e r⟩
theorem oX{α β:Type}{te:Ex}{cp:Ev}{h:Y3}(f:α->PV)(g:β->PV)(R:β->Prop):∀l:List α,(∀x∈l,∃s,R s/\te (some (f x)::cp) h=.ok (g s) h)->∃ss:List β,ss.length=l.length/\(∀s∈ss,R s)/\cD bg te cp (l.map f) h=.ok (ss.map g) h
 |[],_=>⟨[],rfl,by simp,rfl⟩
 |x::r,hx=>by
  obtain⟨s,h1,h2⟩:=hx x ac4;obtain⟨ss,g0,g1,g2⟩:=oX f g R r fun z hz=>hx z (ac1 _ hz);refine⟨s::ss,by simp[g0],fun z hz=>?_,?_⟩
  .rcases ac8.mp hz with q|q
   .subst q;exact h1
   .exact g1 z q
  .rw[ac5,cD,show bg (some (f x)::cp) h=.ok true h from rfl];simp only[Res.C_,if_true];rw[h2];simp only[Res.C_,g2,ac5]
def MF(a b c:α):cut [a,b,c] none (some 1)=[a]/\cut [a,b,c] (some 1) (some 0)=[]/\cut [a,b,c] (some 1) (some 2)=[b]:=⟨rfl,rfl,rfl⟩
theorem Pb(l:List α):(cut l none (some 1)).length=if l.isEmpty=true then 0 else 1:=by
 cases l with
 |nil=>rfl
 |cons a r=>
  unfold cut;rw[Z.Q9,adU,adS]
  have:Z.J8 (a::r).length (a::r).length (some 1)=1:=by show(if(1:Int)<0 then((1:Int)+((a::r).length:Nat)).toNat else min (1:Int).toNat (a::r).length)=1;rw[if_neg ⋯];simp
  rw[this];simp
theorem DP(d:Nat)(hd:d<=2)(ok:hJ d)(K:Nat)(cs:List Int)(hc:cs.length<=63)(A:Ta)(j:Nat)(hA:Wa j A)(hj:j+3 * (d+1)<=100)(n m:Int)(h0:0<=n)(h1:n+(2 * Uk d+3)<=1600000)(hK:3 * d+7<=K):
  ∃(l:List Nd)(n':Int),Rw (R7 A) (d+1) (2 * Gc d+4) 4 l/\n<=n'/\n'<=n+(2 * Uk d+3)/\L (K+1) .Tg [cv cs,.ref 0,ta A,.int ((d+1:Nat):Int)] [f9 n m]=.ok (.lst (l.map nd)) [f9 n' m]:=by
 obtain⟨K',rfl⟩:∃K',K=K'+2:=⟨K - 2,by lia⟩
 have gp:=xM d;have cq:=sH d;have g3:=Gc3 (d:=d) ⋯;have d0:∀(n:Int),aj [f9 n m] (.ref 0)=.ref 0:=fun _=>rfl;refine xn (b:=oE (F (K'+2)) (L (K'+2)) [some (cv cs),some (.ref 0),some (ta A),some (.int ((d+1:Nat):Int)),none,none,none,none,none] [f9 n m]) ?_ rfl;obtain⟨o,n1,o1,o2,o3,o4⟩:=my (K'+2) cs hc A.s hA.s (by have:=hA.l;lia) [.b] (fun k hk=>by cases adl.mp hk;exact⟨rfl,by decide⟩) ⋯ n m h0 ⋯ ⋯ [];have kb:G6 [.b]=.lst [.tup [.str [98]]]:=by unfold G6;rw[ac5,kd];rfl
 rw[kb]at o4;rw[show(([Kd.b].length:Nat):Int)=1 from rfl]at o2;obtain⟨v,v0,v1,ce⟩:=eW (K'+1) cs hc n1 m ⋯ ⋯ [];unfold oE;refine bh [some (cv cs),some (.ref 0),some (ta A),some (.int ((d+1:Nat):Int)),some (opt o),none,none,none,none] [f9 n1 m] (by simp[EH,bR,d0,bI,zY,o4]) ?_;refine bh [some (cv cs),some (.ref 0),some (ta A),some (.int ((d+1:Nat):Int)),some (opt o),some (.int v),none,none,none] [f9 (n1+1) m] (by simp[EH,bR,d0,ce]) ?_
 cases o with
 |none=>obtain⟨l,n',a,b,c,e⟩:=qt hd ok (K'+2) cs hc A j hA hj (n1+1) m ⋯ ⋯ ⋯ [];have on:∀h,aj h (opt none)=.non:=fun _=>rfl;refine⟨l,n',⟨a.mono (acY _) ⋯ (acY _),by lia,by lia⟩,?_⟩;simp[EH,on,bR,d0,bI,e]
 |some ps=>
  obtain⟨pl,pk⟩:=o3 ps rfl
  obtain⟨p,rfl⟩:∃p,ps= [p]:=by
   match ps,pl with
   |[p],_=>exact⟨p,rfl⟩
  have po:=pk p ac4;have sc:=fun h=>nG (K'+1) h;have op:∀h,aj h (opt (some [p]))=.tup [H_ p]:=fun _=>rfl;have nn:bP (.tup [H_ p])=false:=rfl
  obtain⟨zs,z1,z2,z3⟩:=oX (te:=lh (F (K'+2))) (cp:=[some (.int v)]) (h:=[f9 (n1+1) m]) (fun i:Nat=>PV.int (0+(i:Nat))) (fun z=>nd (.text [z])) (fun z=>sg [z]=true) (List.range (Int.toNat 3)) fun i hi=>by
   obtain⟨c,c1,_,c2⟩:=wn (v / 64+(0+(i:Nat)));have nt:nd (.text [c])=.tup [.str tT,.str [c]]:=by rw[nd]
   exact⟨c,c1,by simp[EH,lh,sc,c2,nt]⟩
  obtain⟨a0,a1,a2,rfl⟩:∃a b c,zs= [a,b,c]:=by
   match zs,z1 with
   |[a,b,c],_=>exact⟨a,b,c,rfl⟩
  have s0:=z2 a0 (by simp);have s1:=z2 a1 (by simp);have s2:=z2 a2 (by simp);have ll3:((List.range (Int.toNat 3)).map fun i=>PV.int (0+(i:Nat))).length<16777216:=by decide
  have b3:V2 4611686018427387904 3=true:=rfl;refine bh [some (cv cs),some (.ref 0),some (ta A),some (.int ((d+1:Nat):Int)),some (opt (some [p])),some (.int v),none,none,none] [f9 (n1+1) m] (by simp[EH,op,nn]) ?_;refine bh [some (cv cs),some (.ref 0),some (ta A),some (.int ((d+1:Nat):Int)),some (opt (some [p])),some (.int v),some (.lst [nd (.text [a0]),nd (.text [a1]),nd (.text [a2])]),none,none] [f9 (n1+1) m] (by simp[EH,b3,ll3,bX,Option.getD,z3]) ?_;have dd:((d+1:Nat):Int) - 1=(d:Int):=by lia
  obtain⟨cc,hcc,ec⟩:∃cc:Nat,(cc=1\/cc=2)/\(2:Int) - (if decide (v % 3=1)=true then 1 else 0)=(cc:Int):=by
   cases q:decide (v % 3=1)with
   |true=>exact⟨1,.inl rfl,rfl⟩
   |false=>exact⟨2,.inr rfl,rfl⟩
  obtain⟨ys,n2,y1,y2,y3,y4,y5⟩:=Cl (te:=iO (F (K'+2)) (L (K'+2))) (cp:=[some (cv cs),some (.ref 0),some (ta A),some (.int ((d+1:Nat):Int))]) (m:=m) (fun i:Nat=>PV.int (0+(i:Nat))) (fun l:List Nd=>.lst (l.map nd)) (fun l=>Rw (R7 A) d (Gc d) 12 l) (Uk d) ⋯ 1600000 (List.range cc) (n1+1) ⋯ (by rw[ad1];rcases hcc with rfl|rfl<;>lia) fun x _ n3 q0 q1=>by obtain⟨l,n',a,b,c,e⟩:=kJ ok (K'+2) cs A j n3 m hc hA ⋯ q0 ⋯ ⋯ [];exact⟨l,n',a,b,c,by simp[EH,iO,bR,d0,bI,dd,e]⟩
  rw[ad1]at y1 y4;have bc:V2 4611686018427387904 (cc:Int)=true:=dU.mpr ⟨by lia,by rcases hcc with rfl|rfl<;>decide⟩;have llc:((List.range (Int.toNat (cc:Int))).map fun i=>PV.int (0+(i:Nat))).length<16777216:=by rw[ac2,ad1];rcases hcc with rfl|rfl<;>decide
  have y5':cD bg (iO (F (K'+2)) (L (K'+2))) [some (cv cs),some (.ref 0),some (ta A),some (.int ((d+1:Nat):Int))] ((List.range (Int.toNat (cc:Int))).map fun i=>PV.int (0+(i:Nat))) [f9 (n1+1) m]=.ok (ys.map fun l:List Nd=>PV.lst (l.map nd)) [f9 n2 m]:=by rw[aeo];exact y5
  have ad:∀h,ak (.lst (ys.map fun l:List Nd=>PV.lst (l.map nd))) (.lst [.lst []]) h=.ok (.lst ((ys++ [[]]).map fun l:List Nd=>PV.lst (l.map nd))) h:=fun h=>by rw[fS _ _ h (by rw[ac2,y1];rcases hcc with rfl|rfl<;>decide),adi];rfl
  have le:n2<=n1+1+2 * Uk d:=by rcases hcc with rfl|rfl<;>lia
  obtain⟨t0,t1,tr,et,rw0,rw1⟩:∃(t0 t1:List Nd)(tr:List (List Nd)),ys++ [[]]=t0::t1::tr/\Rw (R7 A) d (Gc d) 12 t0/\Rw (R7 A) d (Gc d) 12 t1:=by
   have nil:Rw (R7 A) d (Gc d) 12 []:=⟨fun x hx=>(by cases hx),adx _,adx _⟩
   rcases hcc with rfl|rfl
   .match ys,y1 with
    |[a],_=>exact⟨a,[],[],rfl,y2 a (by simp),nil⟩
   .match ys,y1 with
    |[a,b],_=>exact⟨a,b,[[]],rfl,y2 a (by simp),y2 b (by simp)⟩
  rw[et]at ad
  refine bh [some (cv cs),some (.ref 0),some (ta A),some (.int ((d+1:Nat):Int)),some (opt (some [p])),some (.int v),some (.lst [nd (.text [a0]),nd (.text [a1]),nd (.text [a2])]),some (.lst (.lst (t0.map nd)::.lst (t1.map nd)::tr.map fun l:List Nd=>PV.lst (l.map nd))),none] [f9 n2 m] (by have ad':∀h,ak (.lst (ys.map fun l:List Nd=>PV.lst (l.map nd))) (.lst [.lst []]) h=.ok (.lst (.lst (t0.map nd)::.lst (t1.map nd)::tr.map fun l:List Nd=>PV.lst (l.map nd))) h:=ad;simp[EH,ec,bc,llc,bX,Option.getD,y5',ad']) ?_
  refine qR (fun x:List Nd×List Nd×List (List Nd)=>[some (cv cs),some (.ref 0),some (ta A),some (.int ((d+1:Nat):Int)),some (opt (some [p])),some (.int v),some (.lst [nd (.text [a0]),nd (.text [a1]),nd (.text [a2])]),some (.lst (.lst (x.1.map nd)::.lst (x.2.1.map nd)::x.2.2.map fun l:List Nd=>PV.lst (l.map nd))),none]) (fun _=> [f9 n2 m]) (fun x=>Rw (R7 A) d (Gc d+1) 13 x.1/\Rw (R7 A) d (Gc d+1) 13 x.2.1) ?_ fun x hx=>?_
  .cases t:A.td with
   |false=>exact⟨(t0,t1,tr),⟨rw0.mono (acY _) ⋯ ⋯,rw1.mono (acY _) ⋯ ⋯⟩,by simp[EH,bI,rF,t]⟩
   |true=>
    have l0:=eS t0;have l1:=eS t1;have c0:=rw0.c;have c1:=rw1.c;have A0:∀h,ak (.lst [nd (.text [a0])]) (.lst (t0.map nd)) h=.ok (.lst ((.text [a0]::t0).map nd)) h:=fun h=>by rw[fS _ _ h (by rw[ac2];simp;lia)];rfl
    have R0:Rw (R7 A) d (Gc d+1) 13 (.text [a0]::t0):=(Rw.app ((Rw.text (kn:=R7 A) (s:=[a0]) (t:=1) s0 (acY _) (acY _) ⋯).mono (adx d) (acY _) (acY _)) rw0).mono (acY _) ⋯ ⋯;have e3:=MF (nd (.text [a0])) (nd (.text [a1])) (nd (.text [a2]));have ct:=Pb (t1.map nd)
    cases em:t1.isEmpty with
    |true=>have en:t1= []:=afF.mp em;subst en;have A1:∀h,ak (.lst []) (.lst (([]:List Nd).map nd)) h=.ok (.lst (([]:List Nd).map nd)) h:=fun h=>rfl;refine⟨(.text [a0]::t0,[],[]),⟨R0,rw1.mono (acY _) ⋯ ⋯⟩,?_⟩;have ct0:(cut ([]:Y2) none (some 1)).length=0:=rfl;have m0:jV 2 ((0:Nat):Int)=true:=rfl;have e0:(2:Int) * ((0:Nat):Int)=0:=rfl;simp only[adT]at A1;simp[EH,bI,rF,t,e3.1,A0,adT,ct0,m0,e0,e3.2.1,A1]
    |false=>
     have A1:∀h,ak (.lst [nd (.text [a1])]) (.lst (t1.map nd)) h=.ok (.lst ((.text [a1]::t1).map nd)) h:=fun h=>by rw[fS _ _ h (by rw[ac2];simp;lia)];rfl
     refine⟨(.text [a0]::t0,.text [a1]::t1,[]),⟨R0,(Rw.app ((Rw.text (kn:=R7 A) (s:=[a1]) (t:=1) s1 (acY _) (acY _) ⋯).mono (adx d) (acY _) (acY _)) rw1).mono (acY _) ⋯ ⋯⟩,?_⟩;have ie:(t1.map nd).isEmpty=false:=by cases t1<;>first|rfl|cases em
     rw[ie]at ct;simp only[ad3,if_false]at ct;have m0:jV 2 ((1:Nat):Int)=true:=rfl;have e0:(2:Int) * ((1:Nat):Int)=2:=rfl;simp[EH,bI,rF,t,e3.1,A0,ct,m0,e0,e3.2.2,A1]
  obtain⟨u0,u1,ur⟩:=x;obtain⟨x0,x1⟩:=hx;dsimp only at x0 x1 |-;obtain⟨b0,c0,e0⟩:=jU (K'+1) (by lia:d<=20) ⋯ ⋯ u0 x0;obtain⟨b1,c1,e1⟩:=jU (K'+1) (by lia:d<=20) ⋯ ⋯ u1 x1;obtain⟨w1,w2,w3⟩:=c0.q8;obtain⟨w4,w5,w6⟩:=c1.q8;have nl:nd (.choice p (M9 b0) (M9 b1))=.tup [.str tC,H_ p,.tup (q8 (M9 b0)),.tup (q8 (M9 b1))]:=by rw[nd]
  refine bh [some (cv cs),some (.ref 0),some (ta A),some (.int ((d+1:Nat):Int)),some (opt (some [p])),some (.int v),some (.lst [nd (.text [a0]),nd (.text [a1]),nd (.text [a2])]),some (.lst (.lst (u0.map nd)::.lst (u1.map nd)::ur.map fun l:List Nd=>PV.lst (l.map nd))),some (nd (.choice p (M9 b0) (M9 b1)))] [f9 n2 m] (by simp[EH,op,fX,e0,e1,nl]) ?_;have on:Rw (R7 A) (d+1) (2 * Gc d+3) 0 [.choice p (M9 b0) (M9 b1)]:=Rw.one (by rw[wN,po.2.1,w1,w4];rfl) (by rw[okN,wX (X:=R7 A) (ps:=[p]) (fun q hq=>by cases adl.mp hq;exact po),w2,w5];rfl) (by rw[dN];have:=aix.mpr ⟨w3,w6⟩;lia) (by rw[R8,lx,lx];have:=c0.c;have:=c1.c;lia) (adx _);have tl:=on.tail (A.td||decide (v / 5 % 2=1)) s2;refine⟨if(A.td||decide (v / 5 % 2=1))=true then[.choice p (M9 b0) (M9 b1),.text [a2]]else[.choice p (M9 b0) (M9 b1)],n2,⟨tl.mono (acY _) ⋯ ⋯,by lia,by lia⟩,?_⟩
  cases t:A.td with
  |true=>simp[EH,bI,rF,t,Cp,yP]
  |false=>cases q:decide (v / 5 % 2=1)<;>simp[EH,bI,rF,t,q,Cp,yP]
theorem Pj{e:Nat}(h:e<=d):Gc e<=Gc d:=by
 induction d with
 |zero=>cases ahB.mp h;exact acY _
 |succ d ih=>
  rcases aeJ e (d+1)with q|q
  .have:=ih ⋯;rw[Gc];lia
  .obtain rfl:e=d+1:=by lia
   exact acY _
theorem MG{e:Nat}(h:e<=d):Uk e<=Uk d:=by
 induction d with
 |zero=>cases ahB.mp h;exact acY _
 |succ d ih=>
  rcases aeJ e (d+1)with q|q
  .have:=ih ⋯;rw[Uk];lia
  .obtain rfl:e=d+1:=by lia
   exact acY _
def GS(hl:l.length=12){a:Int}(a0:0<=a)(a1:a<9){k:Nat}(hk:k<=3):(cut (cut l (some a) none) none (some (k:Int))).length=k:=by
 obtain⟨a,rfl⟩:=ag7 a0
 have e:(cut l (some (a:Int)) none).length=12 - a:=by unfold cut;rw[Z.Q9,Z.Tt,adU,adS,hl];lia
 have e2:(cut (cut l (some (a:Int)) none) none (some (k:Int))).length=min k (12 - a):=by generalize cut l (some (a:Int)) none=x at e;unfold cut;rw[Z.Q9,Z.Tt,adU,adS,e];lia
 rw[e2];lia
theorem JH:∀(hs:Ya)(ks:List Kd),Yh (hs.map PV.str) (ks.map kd)=(hs.zip ks).map sv
 |[],_=>by cases ‹List Kd› <;>rfl
 |_::_,[]=>rfl
 |a::r,k::t=>by rw[ac5,ac5,Yh,JH r t];rfl
theorem Bi:∀(hs:Ya)(ks:List Kd),hs.length=ks.length->(hs.zip ks).map (·.1)=hs
 |[],_,_=>by simp
 |a::r,[],h=>by cases h
 |a::r,k::t,h=>by simp only[afO,ac5];rw[Bi r t (by simpa using h)]
def Kv{hs:Ya}{ks:List Kd}(h1:Vy hs=true)(h2:WW ks):X8 (hs.zip ks):=fun x hx=>by obtain⟨a,b⟩:=agt (a:=x.1) (b:=x.2) hx;exact⟨adn.mp h1 _ a,h2 _ b⟩
theorem xt:∀{l:List Kd},WW l->fds 42 (l.map kd)
 |[],_=>bw _
 |a::r,h=>aB (aV (uf (h a ac4).1) (by have:=(h a ac4).2;lia)) (xt fun k hk=>h k (ac1 _ hk))
theorem Ci:∀{l:List Pk},(∀p∈l,sn p.n=true/\p.o.length<=4/\WW p.o/\hOl p.h)->fds 59 (l.map Td)
 |[],_=>bw _
 |a::r,h=>by
  obtain⟨a1,_,a3,a4⟩:=h a ac4;refine aB (aV (cI (d:=43) (aB (dE (sR a1)) (aB (GH (xt a3)) (aB ?_ (bw _))))) ⋯) (Ci fun p hp=>h p (ac1 _ hp))
  cases e:a.h with
  |none=>exact AM _
  |some l=>rw[e]at a4;exact GH (xt a4.2)
theorem Ky(d:Nat)(hd:d<=2)(ok:∀e≤d,hJ e)(K:Nat)(cs:List Int)(hc:cs.length<=63)(A:Ta)(j:Nat)(hA:Wa j A)(hj:j+3 * (d+1)<=100)(n m:Int)(h0:0<=n)(h1:n+(Uk d+10)<=1600000)(hK:3 * d+7<=K):
  ∃(l:List Nd)(n':Int),Rw (R7 A) (d+1) (2 * Gc d+4) 4 l/\n<=n'/\n'<=n+(Uk d+10)/\L (K+1) .Wl [cv cs,.ref 0,ta A,.int ((d+1:Nat):Int)] [f9 n m]=.ok (.lst (l.map nd)) [f9 n' m]:=by
 obtain⟨K',rfl⟩:∃K',K=K'+2:=⟨K - 2,by lia⟩
 have gp:=xM d;have cq:=sH d;have g3:=Gc3 (d:=d) ⋯;have d0:∀(n:Int),aj [f9 n m] (.ref 0)=.ref 0:=fun _=>rfl;refine xn (b:=xH (F (K'+2)) (L (K'+2)) [some (cv cs),some (.ref 0),some (ta A),some (.int ((d+1:Nat):Int)),none,none,none,none,none,none,none,none] [f9 n m]) ?_ rfl;obtain⟨v,v0,v1,ce⟩:=eW (K'+1) cs hc n m h0 ⋯ [];unfold xH;refine bh [some (cv cs),some (.ref 0),some (ta A),some (.int ((d+1:Nat):Int)),some (.int v),none,none,none,none,none,none,none] [f9 (n+1) m] (by simp[EH,bR,d0,ce]) ?_;refine bh [some (cv cs),some (.ref 0),some (ta A),some (.int ((d+1:Nat):Int)),some (.int v),some .non,none,none,none,none,none,none] [f9 (n+1) m] (by simp[EH,if_true]) ?_;have en:∀h,Vs (.lst (A.p.map Td)) (.lst []) h=.ok (.bl (!(A.p.map Td).isEmpty)) h:=fun h=>Ix (Ci hA.p) h
 have X7:∀(n1:Int)(x6 x7 x8:Option PV),n<=n1->n1<=n+5->gQ (R7 A) (d+1) (2 * Gc d+4) 4 n (Uk d+10) m ((aq (o8 (au (c2 Vt (ag 5) aah)) (aL (aN (L (K'+2) .Tz) aaC)) aS) (aq (o8 (au (c2 Vt (ag 8) aah)) (aL (cN cY (af (cN aT (af aau (af (ag 6) (af (ag 5) (af aah ace))))) ah))) aS) (aq (aH 9 (cN dJ (af (iG (iG (c2 b_ (ag 2) abF) (dZ (c2 cu (c2 ei (ag 4) ab9) abw)) fL) fL (dZ (cN bK acH))) ah))) (aq (aH 10 (aG (F (K'+2) .W_) (af (ag 2) (af (cN tE (af (ag 9) acH)) ah)))) (aq (aH 11 (aN (L (K'+2) .M4) (af (ag 0) (af (ag 1) (af (ag 10) (af (cN Fq (af (c2 tA (ag 3) aac) (af (c2 ak aac (c2 cu (c2 ei (ag 4) (cK (.int 576))) aag)) ah))) ah)))))) (aq (o8 (au (c2 o9 (c2 cu (c2 ei (ag 4) (cK (.int 1152))) aag) aac)) (aH 11 (c2 ak (ag 11) (aN (L (K'+2) .TF) (af (ag 0) (af (ag 1) ab4))))) aS) (aL (cN cY (af (cN aT (af aau (af (ag 6) (af (ag 5) (af (ag 9) (af (aG (F (K'+2) .TQ) acD) ah)))))) ah)))))))))
   [some (cv cs),some (.ref 0),some (ta A),some (.int ((d+1:Nat):Int)),some (.int v),some .non,x6,x7,x8,none,none,none] [f9 n1 m]):=fun n1 x6 x7 x8 q0 q1=>by
  obtain⟨l,n',a,b,c,e⟩:=qt hd (ok d (acY _)) (K'+2) cs hc A j hA hj n1 m ⋯ ⋯ ⋯ [];refine⟨l,n',⟨a.mono (acY _) ⋯ (acY _),by lia,by lia⟩,?_⟩;simp[EH,bR,d0,bI,e]
 by_cases ne:A.p= []
 .have e0:(!(A.p.map Td).isEmpty)=false:=by rw[ne];rfl
  refine bh [some (cv cs),some (.ref 0),some (ta A),some (.int ((d+1:Nat):Int)),some (.int v),some .non,none,none,none,none,none,none] [f9 (n+1) m] (by simp[EH,bI,Nl,en,e0]) ?_;exact X7 (n+1) none none none ⋯ ⋯
 have e0:(!(A.p.map Td).isEmpty)=true:=by cases q:A.p<;>first|exact(ne q).elim|rfl
 obtain⟨p,hp,q,ix⟩:=tX Td yz ne v;obtain⟨p1,p2,p3,p4⟩:=hA.p p hp;have pq:Td p=.tup [.str p.n,G6 p.o,hkv p.h]:=rfl;obtain⟨o,n1,o1,o2,o3,o4⟩:=my (K'+2) cs hc A.s hA.s (by have:=hA.l;lia) p.o p3 ⋯ (n+1) m ⋯ ⋯ ⋯ [];refine bh [some (cv cs),some (.ref 0),some (ta A),some (.int ((d+1:Nat):Int)),some (.int v),some (opt o),some (.str p.n),some (G6 p.o),some (hkv p.h),none,none,none] [f9 n1 m] (by simp[EH,bI,Nl,zY,en,e0,q,ix,pq,iC,bR,d0,o4]) ?_
 cases o with
 |none=>exact X7 n1 _ _ _ ⋯ ⋯
 |some ps=>
  obtain⟨pl,pk⟩:=o3 ps rfl;have op:∀h,aj h (opt (some ps))=.tup (jO ps):=fun _=>rfl;have nn:bP (.tup (jO ps))=false:=rfl
  have lk:Ze (R7 A).1 p.n=some (Z8 p):=by
   have hn:((A.p.map Z8).map (·.n)).Nodup:=by rw[adB];exact hA.pn
   exact IJ (p:=Z8 p) hn (aeQ hp)
  have wo:=Eb pk (by lia:ps.length<5);have oo:=wX (X:=R7 A) pk;refine bh [some (cv cs),some (.ref 0),some (ta A),some (.int ((d+1:Nat):Int)),some (.int v),some (opt (some ps)),some (.str p.n),some (G6 p.o),some (hkv p.h),none,none,none] [f9 n1 m] (by simp[EH,op,nn]) ?_
  cases hh:p.h with
  |none=>
   have hn:∀h,aj h (hkv none)=.non:=fun _=>rfl;have nu:nd (.use p.n ps)=.tup [.str tU,.str p.n,.tup (jO ps),.non,.non]:=by rw[nd]
   refine⟨[.use p.n ps],n1,⟨Rw.one (by rw[wN,p1,wo];rfl) ?_ (adx _) (by show 0+1<=_;lia) (adx _),by lia,by lia⟩,?_⟩
   .rw[okN,oo,Zb,lk];show(true&&(decide (p.o.length=ps.length)&&decide (p.h.map (fun l=>(l.length:Int))=none)))=true;rw[hh,pl];simp
   .simp[EH,hn,op,nu]
  |some ks=>
   rw[hh]at p4;obtain⟨k1,k2⟩:=p4;have hn:bP (G6 ks)=false:=rfl;have i9:=bj (v / 64) (by decide:(0:Int)<9);have i2:=bj (v / 576) (by decide:(0:Int)<2)
   let hs:=cut (cut A.ms (some (v / 64 % 9)) none) none (some (ks.length:Int));have hl:hs.length=ks.length:=GS hA.ml i9.1 i9.2 k1;have hsg:Vy hs=true:=Ht hA.m fun x hx=>Co (Co hx);have hnd:hs.Nodup:=GR (GR hA.mn);have sl1:∀h,nQ (Te A.ms) (some (v / 64 % 9)) none h=.ok (Te (cut A.ms (some (v / 64 % 9)) none)) h:=fun h=>by unfold Te;rw[yc,sG]
   have sl2:∀h,nQ (Te (cut A.ms (some (v / 64 % 9)) none)) none (some (ks.length:Int)) h=.ok (Te hs) h:=fun h=>by unfold Te;rw[yc,sG]
   have kln:∀h,bK [G6 ks] h=.ok (.int ks.length) h:=fun h=>by unfold G6;rw[BO,ac2]
   have tp:∀h,dJ [Te hs] h=.ok (nms hs) h:=fun h=>rfl
   have lz:∀h,tE [nms hs,G6 ks] h=.ok (H9 (hs.zip ks)) h:=fun h=>by show Res.ok (PV.lst (Yh (hs.map PV.str) (ks.map kd))) h=_;rw[JH];rfl
   have zl:(hs.zip ks).length<=3:=by rw[air];lia
   have zo:=Kv hsg k2;have ci:=fun h=>Cv (k:=K'+1) hA ⋯ (hs.zip ks) ⋯ h
   let B:Ta:={ A with s:=A.s++hs.zip ks }
   have hB:Wa (j+3) B:=hA.more zo zl;have cB:R7 B=moX (R7 A) hs:=by rw[Cn,Bi hs ks hl]
   obtain⟨e,he,ee⟩:∃e:Nat,e<=d/\(if(1+v / 576 % 2)<(d:Int)then(1+v / 576 % 2)else(d:Int))=(e:Int):=by
    by_cases q:(1+v / 576 % 2)<(d:Int)
    .exact⟨(1+v / 576 % 2).toNat,by lia,by rw[if_pos q];lia⟩
    .exact⟨d,acY _,by rw[if_neg q]⟩
   have dd:((d+1:Nat):Int) - 1=(d:Int):=by lia
   have ce2:=MG he;have ge:=Pj he;obtain⟨l,n2,a1,a2,a3,a4⟩:=kJ (ok e he) (K'+2) cs B (j+3) n1 m hc hB ⋯ ⋯ ⋯ ⋯ [];refine bh [some (cv cs),some (.ref 0),some (ta A),some (.int ((d+1:Nat):Int)),some (.int v),some (opt (some ps)),some (.str p.n),some (G6 p.o),some (G6 ks),none,none,none] [f9 n1 m] (by simp[EH,hkv,iC,hn]) ?_;refine bh [some (cv cs),some (.ref 0),some (ta A),some (.int ((d+1:Nat):Int)),some (.int v),some (opt (some ps)),some (.str p.n),some (G6 p.o),some (G6 ks),some (nms hs),none,none] [f9 n1 m] (by simp[EH,bI,Nm,sl1,iC,kln,sl2,tp]) ?_;refine bh [some (cv cs),some (.ref 0),some (ta A),some (.int ((d+1:Nat):Int)),some (.int v),some (opt (some ps)),some (.str p.n),some (G6 p.o),some (G6 ks),some (nms hs),some (ta B),none] [f9 n1 m] (by simp[EH,bI,iC,lz,ci];rfl) ?_;refine bh [some (cv cs),some (.ref 0),some (ta A),some (.int ((d+1:Nat):Int)),some (.int v),some (opt (some ps)),some (.str p.n),some (G6 p.o),some (G6 ks),some (nms hs),some (ta B),some (.lst (l.map nd))] [f9 n2 m] (by simp[EH,bI,bR,d0,dd,ee,a4]) ?_;obtain⟨lb,n3,b1,b2,b3,b4⟩:=qH (K'+2) cs hc B (j+3) hB ⋯ n2 m ⋯ ⋯ ⋯ [];refine qR (fun x:List Nd×Int=> [some (cv cs),some (.ref 0),some (ta A),some (.int ((d+1:Nat):Int)),some (.int v),some (opt (some ps)),some (.str p.n),some (G6 p.o),some (G6 ks),some (nms hs),some (ta B),some (.lst (x.1.map nd))]) (fun x=> [f9 x.2 m]) (fun x=>Rw (R7 B) d (Gc d+2) 16 x.1/\n2<=x.2/\x.2<=n2+5) ?_ fun x hx=>?_
   .cases t:decide (v / 1152 % 2=1)with
    |false=>exact⟨(l,n2),⟨a1.mono he ⋯ ⋯,afW _,by show n2<=n2+5;lia⟩,by simp[EH,t]⟩
    |true=>
     have ad:∀h,ak (.lst (l.map nd)) (.lst (lb.map nd)) h=.ok (.lst ((l++lb).map nd)) h:=fun h=>by rw[fS _ _ h (by have:=eS l;have:=a1.c;have:=eS lb;have:=b1.c;rw[ac2,ac2];lia),adi]
     exact⟨(l++lb,n3),⟨(Rw.app (a1.mono he ge (acY _)) (b1.mono (adx _) (acY _) (acY _))).mono (acY _) ⋯ ⋯,b2,b3⟩,by simp[EH,t,bI,bR,d0,b4,ad]⟩
   obtain⟨l1,n4⟩:=x;obtain⟨x1,x2,x3⟩:=hx;dsimp only at x1 x2 x3 |-;rw[cB]at x1;obtain⟨b,c0,e0⟩:=jU (K'+1) (by lia:d<=20) ⋯ ⋯ l1 x1;obtain⟨w1,w2,w3⟩:=c0.q8;have nl:nd (.I_ p.n ps hs (M9 b))=.tup [.str tU,.str p.n,.tup (jO ps),nms hs,.tup (q8 (M9 b))]:=by rw[nd]
   refine⟨[.I_ p.n ps hs (M9 b)],n4,⟨Rw.one (by rw[wN,p1,wo,hsg,decide_eq_true (show hs.length<5 by lia),w1];rfl) ?_ (by rw[dN];lia) (by rw[R8,lx];have:=c0.c;lia) (adx _),by lia,by lia⟩,?_⟩
   .rw[okN,oo,Zb,lk,(GL hs).mpr hnd,w2];show(true&&((decide (p.o.length=ps.length)&&decide (p.h.map (fun l=>(l.length:Int))=some (hs.length:Int)))&&(!false&&true)))=true;rw[hh,pl,hl];simp
   .simp[EH,op,e0,nl]
def zJ(hd:d<=2)(ok:hJ d)(K:Nat)(cs:List Int)(hc:cs.length<=63)(A:Ta)(j:Nat)(hA:Wa j A)(hj:j+3 * (d+1)<=100)(n m:Int)(h0:0<=n)(h1:n+(2 * Uk d+3)<=1600000)(hK:3 * d+8<=K)(r:Y3):
  ∃(l:List Nd)(n':Int),Rw (R7 A) (d+1) (2 * Gc d+4) 4 l/\n<=n'/\n'<=n+(2 * Uk d+3)/\I9 (L K .Tg) [cv cs,.ref 0,ta A,.int ((d+1:Nat):Int)] (f9 n m::r)=.ok (.lst (l.map nd)) (f9 n' m::r):=by
 obtain⟨K',rfl⟩:∃K',K=K'+1:=⟨K - 1,by lia⟩
 obtain⟨l,n',a,b,c,e⟩:=DP d hd ok K' cs hc A j hA hj n m h0 h1 ⋯;exact⟨l,n',a,b,c,oB cs [ta A,.int ((d+1:Nat):Int)] (by rw[am,am,jo];rfl) (qV l) e r⟩
def Ef(hd:d<=2)(ok:∀e≤d,hJ e)(K:Nat)(cs:List Int)(hc:cs.length<=63)(A:Ta)(j:Nat)(hA:Wa j A)(hj:j+3 * (d+1)<=100)(n m:Int)(h0:0<=n)(h1:n+(Uk d+10)<=1600000)(hK:3 * d+8<=K)(r:Y3):
  ∃(l:List Nd)(n':Int),Rw (R7 A) (d+1) (2 * Gc d+4) 4 l/\n<=n'/\n'<=n+(Uk d+10)/\I9 (L K .Wl) [cv cs,.ref 0,ta A,.int ((d+1:Nat):Int)] (f9 n m::r)=.ok (.lst (l.map nd)) (f9 n' m::r):=by
 obtain⟨K',rfl⟩:∃K',K=K'+1:=⟨K - 1,by lia⟩
 obtain⟨l,n',a,b,c,e⟩:=Ky d hd ok K' cs hc A j hA hj n m h0 h1 ⋯;exact⟨l,n',a,b,c,oB cs [ta A,.int ((d+1:Nat):Int)] (by rw[am,am,jo];rfl) (qV l) e r⟩
def gr:Nat->Nat
 |0=>2
 |d+1=>2 * Gc d+6
def WK:Nat->Nat
 |0=>3
 |d+1=>2 * Uk d+21
abbrev nE(cs:List Int)(A:Ta)(d:Nat)(x5 x6:Option PV):Ev:=[some (cv cs),some (.ref 0),some (ta A),some (.int d),some (.ref 1),x5,x6]
def zE(o:PO)(a b:List Nd)(hl:a.length+b.length<=1000000):eQ (.ref 1) [.lst (b.map nd)] [o,.lst (a.map nd)]=.ok .non [o,.lst ((a++b).map nd)]:=by show(if(a.map nd).length+(b.map nd).length<=sizeLine then Res.ok PV.non ([o,PO.lst (a.map nd)].set 1 (.lst (a.map nd++b.map nd)))else .bad)=_;rw[if_pos (by rw[ac2,ac2];exact adu hl ⋯),adi];rfl
theorem Ar(d:Nat)(hd:d<=3)(ok:∀e<d,hJ e)(K:Nat)(cs:List Int)(hc:cs.length<=63)(A:Ta)(j:Nat)(hA:Wa j A)(hj:j+3 * d<=100)(n m:Int)(h0:0<=n)(h1:n+WK d<=1600000)(hK:3 * d+5<=K)(acc:List Nd)(la:acc.length<=100000)(x5 x6:Option PV):
  ∃(l:List Nd)(n':Int)(y6:Option PV),Rw (R7 A) d (gr d) 4 l/\n<=n'/\n'<=n+WK d/\gf (F K) (L K) (nE cs A d x5 x6) [f9 n m,.lst (acc.map nd)]=.nx (nE cs A d x5 y6) [f9 n' m,.lst ((acc++l).map nd)]:=by
 obtain⟨K',rfl⟩:∃K',K=K'+2:=⟨K - 2,by lia⟩
 obtain⟨v,v0,v1,ce⟩:=eW (K'+1) cs hc n m h0 ⋯ [.lst (acc.map nd)];have d0:∀(n:Int)(o:PO),aj [f9 n m,o] (.ref 0)=.ref 0:=fun _ _=>rfl;have d1:∀(o:PO)(xs:Y2),aj [o,.lst xs] (.ref 1)=.ref 1:=fun _ _=>rfl;have i0:∀(n:Int)(o:PO),b_ (.ref 0) (.int 0) [f9 n m,o]=.ok (.int n) [f9 n m,o]:=fun _ _=>rfl;have i1:∀(n:Int)(o:PO),b_ (.ref 0) (.int 1) [f9 n m,o]=.ok (.int m) [f9 n m,o]:=fun _ _=>rfl;have il:∀(o:PO)(xs:Y2),cC [o,.lst xs] (.ref 1)=true:=fun _ _=>rfl;have k9:=bj (v / 3) (by decide:(0:Int)<9)
 have go:∀ κ:Int,0<=κ->κ<=8->(d=0->κ<3)->∃(l:List Nd)(n':Int),Rw (R7 A) d (gr d) 4 l/\n<=n'/\n'<=n+WK d/\
   (o8 (au (c2 o9 (ag 6) aae)) (bJ (cM cC bn (ag 4) (af (cN aT (af aaj (af (aN (L (K'+2) .S8) aaH) ah))) ah))) (o8 (au (c2 Wb (ag 6) aam)) (bJ (cM cC eQ (ag 4) (af (aN (L (K'+2) .Q7) ab5) ah))) (o8 (au (c2 o9 (ag 6) aaT)) (bJ (cM cC eQ (ag 4) (af (aN (L (K'+2) .TF) ab5) ah))) (o8 (au (c2 o9 (ag 6) abn)) (bJ (cM cC eQ (ag 4) (af (aN (L (K'+2) .Tg) aaC) ah))) (o8 (au (c2 Wb (ag 6) abn)) (bJ (cM cC eQ (ag 4) (af (aN (L (K'+2) .Tz) aaC) ah))) (bJ (cM cC eQ (ag 4) (af (aN (L (K'+2) .Wl) aaC) ah)))))))) (nE cs A d x5 (some (.int κ))) [f9 (n+1) m,.lst (acc.map nd)]=.nx (nE cs A d x5 (some (.int κ))) [f9 n' m,.lst ((acc++l).map nd)]:=fun κ a0 a1 a2=>by
  by_cases c0:κ=0
  .have t0:decide (κ=0)=true:=decide_eq_true c0;obtain⟨s,s1,s2,se⟩:=uN K' cs hc (n+1) m ⋯ ⋯ [.lst (acc.map nd)]
   have ap:bn (.ref 1) [.tup [.str tT,.str s]] [f9 (n+1+1) m,.lst (acc.map nd)]=.ok .non [f9 (n+1+1) m,.lst ((acc++ [Nd.text s]).map nd)]:=by rw[He (acc:=acc.map nd) rfl _ (by rw[ac2];lia),adi];show Res.ok _ [_,PO.lst (acc.map nd++ [PV.tup [.str tT,.str s]])]=Res.ok _ [_,PO.lst (acc.map nd++ [nd (.text s)])];rw[nd]
   have cr:3<=WK d:=by cases d<;>simp only[WK]<;>lia
   have g2:2<=gr d:=by cases d<;>simp only[gr]<;>lia
   exact⟨[.text s],n+1+1,(Rw.text s1 s2.1 s2.2 ⋯).mono (adx _) ⋯ ⋯,by lia,by lia,by simp[EH,t0,d1,d0,il,bR,se,ap]⟩
  have f0:decide (κ=0)=false:=decide_eq_false c0
  by_cases c3:κ<3
  .have t3:decide (κ<3)=true:=decide_eq_true c3;obtain⟨l,n',a,b,c,e⟩:=nN (K'+2) cs hc A j hA ⋯ (n+1) m ⋯ ⋯ ⋯ [.lst (acc.map nd)];have ll:=eS l;have lc:=a.c;have cr:3<=WK d:=by cases d<;>simp only[WK]<;>lia
   have g2:2<=gr d:=by cases d<;>simp only[gr]<;>lia
   exact⟨l,n',a.mono (adx _) g2 (acY _),by lia,by lia,by simp[EH,f0,t3,d1,d0,il,bR,bI,e,zE (f9 n' m) acc l ⋯]⟩
  have f3:decide (κ<3)=false:=decide_eq_false c3;obtain⟨e,rfl⟩:∃e,d=e+1:=⟨d - 1,by have:=a2;lia⟩
  have gp:=xM e;have g3:=Gc3 (d:=e) ⋯;have cq:=sH e;have er:WK (e+1)=2 * Uk e+21:=rfl;have eg:gr (e+1)=2 * Gc e+6:=rfl
  by_cases c8:κ=8
  .have t8:decide (κ=8)=true:=decide_eq_true c8;obtain⟨l,n',a,b,c,z⟩:=qH (K'+2) cs hc A j hA ⋯ (n+1) m ⋯ ⋯ ⋯ [.lst (acc.map nd)];have ll:=eS l;have lc:=a.c;exact⟨l,n',a.mono (adx _) ⋯ (acY _),by lia,by lia,by simp[EH,f0,f3,t8,d1,d0,il,bR,bI,z,zE (f9 n' m) acc l ⋯]⟩
  have f8:decide (κ=8)=false:=decide_eq_false c8
  by_cases c5:κ=5
  .have t5:decide (κ=5)=true:=decide_eq_true c5;obtain⟨l,n',a,b,c,z⟩:=zJ (by lia:e<=2) (ok e (ad6 _)) (K'+2) cs hc A j hA hj (n+1) m ⋯ ⋯ ⋯ [.lst (acc.map nd)];have ll:=eS l;have lc:=a.c;exact⟨l,n',a.mono (acY _) ⋯ (acY _),by lia,by lia,by simp[EH,f0,f3,f8,t5,d1,d0,il,bR,bI,z,zE (f9 n' m) acc l ⋯]⟩
  have f5:decide (κ=5)=false:=decide_eq_false c5
  by_cases c5':κ<5
  .have t5:decide (κ<5)=true:=decide_eq_true c5';obtain⟨l,n',a,b,c,z⟩:=qt (by lia:e<=2) (ok e (ad6 _)) (K'+2) cs hc A j hA hj (n+1) m ⋯ ⋯ ⋯ [.lst (acc.map nd)];have ll:=eS l;have lc:=a.c;exact⟨l,n',a.mono (acY _) ⋯ (acY _),by lia,by lia,by simp[EH,f0,f3,f8,f5,t5,d1,d0,il,bR,bI,z,zE (f9 n' m) acc l ⋯]⟩
  have g5:decide (κ<5)=false:=decide_eq_false c5';obtain⟨l,n',a,b,c,z⟩:=Ef (by lia:e<=2) (fun i hi=>ok i ⋯) (K'+2) cs hc A j hA hj (n+1) m ⋯ ⋯ ⋯ [.lst (acc.map nd)];have ll:=eS l;have lc:=a.c;exact⟨l,n',a.mono (acY _) ⋯ (acY _),by lia,by lia,by simp[EH,f0,f3,f8,f5,g5,d1,d0,il,bR,bI,z,zE (f9 n' m) acc l ⋯]⟩
 have fin:∀ κ:Int,0<=κ->κ<=8->(d=0->κ<3)->(o8 (iL (au (c2 Yw aaJ (c2 b_ (ag 1) aac))) (au (c2 Wb (ag 3) aac))) (aH 6 (c2 cu (ag 6) aam)) aS (nE cs A d x5 (some (.int (v / 3 % 9)))) [f9 (n+1) m,.lst (acc.map nd)]=.nx (nE cs A d x5 (some (.int κ))) [f9 (n+1) m,.lst (acc.map nd)])->∃(l:List Nd)(n':Int)(y6:Option PV),Rw (R7 A) d (gr d) 4 l/\n<=n'/\n'<=n+WK d/\gf (F (K'+2)) (L (K'+2)) (nE cs A d x5 x6) [f9 n m,.lst (acc.map nd)]=.nx (nE cs A d x5 y6) [f9 n' m,.lst ((acc++l).map nd)]:=fun κ a0 a1 a2 hs=>by obtain⟨l,n',b1,b2,b3,e⟩:=go κ a0 a1 a2;refine⟨l,n',some (.int κ),b1,b2,b3,?_⟩;unfold gf;refine bh (Q:=fun r=>r=SR.nx (nE cs A d x5 (some (.int κ))) [f9 n' m,.lst ((acc++l).map nd)]) (nE cs A d x5 (some (.int (v / 3 % 9)))) [f9 (n+1) m,.lst (acc.map nd)] (by simp[EH,bR,d0,ce]) ?_;exact bh (Q:=fun r=>r=SR.nx (nE cs A d x5 (some (.int κ))) [f9 n' m,.lst ((acc++l).map nd)]) _ _ hs e
 have k3:=bj (v / 3 % 9) (by decide:(0:Int)<3)
 cases q1:decide (n+1>m)with
 |true=>exact fin (v / 3 % 9 % 3) k3.1 ⋯ (fun _=>k3.2) (by simp[EH,d0,i0,i1,q1])
 |false=>
  cases q2:decide ((d:Int)<1)with
  |true=>exact fin (v / 3 % 9 % 3) k3.1 ⋯ (fun _=>k3.2) (by simp[EH,d0,i0,i1,q1,q2])
  |false=>exact fin (v / 3 % 9) k9.1 ⋯ (fun z=>by have:=of_decide_eq_false q2;lia) (by simp[EH,d0,i0,i1,q1,q2])
theorem tJ(d:Nat)(hd:d<=3)(ok:∀e<d,hJ e)(K:Nat)(cs:List Int)(hc:cs.length<=63)(A:Ta)(j:Nat)(hA:Wa j A)(hj:j+3 * d<=100)(m:Int)(hK:3 * d+5<=K):∀(js:Y1)(n:Int)(acc:List Nd)(c t:Nat)(x5 x6:Option PV),0<=n->n+WK d * js.length<=1600000->Rw (R7 A) d c t acc->c+gr d * js.length<=100000->
  ∃(l:List Nd)(n':Int)(y5 y6:Option PV),Rw (R7 A) d (c+gr d * js.length) (t+4 * js.length) l/\n<=n'/\n'<=n+WK d * js.length/\bC (N6 5) (gf (F K) (L K)) (js.map fun i=>PV.int (0+(i:Nat))) (nE cs A d x5 x6) [f9 n m,.lst (acc.map nd)]=.nx (nE cs A d y5 y6) [f9 n' m,.lst (l.map nd)]
 |[],n,acc,c,t,x5,x6,_,_,ha,_=>⟨acc,n,x5,x6,ha,afW _,by simp,by rw[adT,bC]⟩
 |i::r,n,acc,c,t,x5,x6,h0,h1,ha,hl=>by
  rw[ac6,Nat.mul_succ]at hl;have e:(WK d:Int) * ((i::r).length:Nat)=WK d * (r.length:Nat)+WK d:=by rw[ac6,ahl,Int.mul_add];simp
  have p0:0<=(WK d:Int) * (r.length:Nat):=aiB ⋯ ⋯;rw[e]at h1;have al:=eS acc;have ac:=ha.c;obtain⟨l,n1,y6,a1,a2,a3,a4⟩:=Ar d hd ok K cs hc A j hA hj n m h0 ⋯ hK acc ⋯ (some (.int (0+(i:Nat)))) x6;obtain⟨l2,n2,y5,y6',b1,b2,b3,b4⟩:=tJ d hd ok K cs hc A j hA hj m hK r n1 (acc++l) (c+gr d) (t+4) (some (.int (0+(i:Nat)))) y6 ⋯ ⋯ (ha.app a1) ⋯;refine⟨l2,n2,y5,y6',b1.mono (acY _) (by rw[ac6,Nat.mul_succ];lia) (by rw[ac6];lia),by lia,by rw[e];lia,?_⟩;rw[ac5];exact afC (fJ rfl a4) b4
theorem FD:∀d,d<=3->hJ d:=by
 intro d
 induction d using Nat.strongRecOn with
 |ind d ih=>
  intro hd K cs A j n m hc hA hj h0 h1 hK;obtain⟨K',rfl⟩:∃K',K=K'+2:=⟨K - 2,by lia⟩
  have c3:=Rx hd;have g3:=Gc3 hd;have eg:3 * gr d=Gc d:=by cases d<;>simp only[gr,Gc]
  have ec:1+3 * WK d<=Uk d:=by cases d<;>simp only[WK,Uk]<;>lia
  obtain⟨v,v0,v1,ce⟩:=eW K' cs hc n m h0 ⋯ [.lst []];have k3:=bj (v / 5) (by decide:(0:Int)<3);have hl:((List.range (1+v / 5 % 3).toNat).length:Nat)<=3:=by rw[ad1];lia
  have gl:gr d * (List.range (1+v / 5 % 3).toNat).length<=gr d * 3:=ahI _ hl;have cl:(WK d:Int) * ((List.range (1+v / 5 % 3).toNat).length:Nat)<=WK d * 3:=agp ⋯ ⋯;obtain⟨l,n',y5,y6,b1,b2,b3,b4⟩:=tJ d hd (fun e he=>ih e he ⋯) (K'+1) cs hc A j hA hj m ⋯ (List.range (1+v / 5 % 3).toNat) (n+1) [] 0 0 none none ⋯ ⋯ ⟨fun x hx=>(by cases hx),adx _,adx _⟩ ⋯;refine⟨l,n',b1.mono (acY _) ⋯ ⋯,by lia,by lia,?_⟩;have r2:∀x,qM (F (K'+1)) (L (K'+1)) [some (cv cs),some (.ref 0),some (ta A),some (.int d),none,none,none] [f9 n m]=x->L (K'+2) .M4 [cv cs,.ref 0,ta A,.int d] [f9 n m]=uj x:=fun x e=>by subst e;rfl
  have lm:gD [] [f9 n m]=.ok (.ref 1) [f9 n m,.lst []]:=rfl;have d0:∀(n:Int)(o:PO),aj [f9 n m,o] (.ref 0)=.ref 0:=fun _ _=>rfl;have d1:∀(o:PO)(xs:Y2),aj [o,.lst xs] (.ref 1)=.ref 1:=fun _ _=>rfl;have bc:V2 4611686018427387904 (1+v / 5 % 3)=true:=dU.mpr ⟨by lia,by lia⟩;have b4':bC (N6 5) (gf (F (K'+1)) (L (K'+1))) ((List.range (1+v / 5 % 3).toNat).map fun i=>PV.int (0+(i:Nat))) [some (cv cs),some (.ref 0),some (ta A),some (.int d),some (.ref 1),none,none] [f9 (n+1) m,.lst []]=.nx [some (cv cs),some (.ref 0),some (ta A),some (.int d),some (.ref 1),y5,y6] [f9 n' m,.lst (l.map nd)]:=b4;rw[r2 _ rfl];simp[EH,qM,lm,bR,d0,d1,ce,bc,b4'];show kW 1 (.ref 1) [f9 n' m,.lst (l.map nd)]=_
  have fr:cO [f9 n' m,.lst (l.map nd)] (.ref 1)=some (.lst (l.map nd),[f9 n' m,.E_ (.lst (l.map nd))]):=by show(if am (l.map nd)=true then some (PV.lst (l.map nd),[f9 n' m,PO.E_ (.lst (l.map nd))])else none)=_;rw[if_pos (mf l)]
  unfold kW;rw[fr];rfl
def w8(W:Ya):Prop:=W.length=8/\∀x∈W,∃c∈aY,x= [c]
def lO(w:Y1):Prop:=1<=w.length/\w.length<=8/\∀c∈w,c∈aY
def Bj{W:Ya}(h:w8 W){e:Int}(he:1<=e)(hp:Y3):lO (cut W none (some e)).flatten/\gu (.str []) [.lst ((cut W none (some e)).map PV.str)] hp=.ok (.str (cut W none (some e)).flatten) hp:=by
 obtain⟨e,rfl⟩:=ag7 (show 0<=e by lia);have c:=um W e;rw[c];have tl:(W.take e).length=min e 8:=by rw[adU,h.1]
 have s:((W.take e).map (fun l=>l.length)).sum=(W.take e).length:=Ek fun x hx=>by obtain⟨c,_,rfl⟩:=h.2 x (aeg hx);rfl
 have fl:(W.take e).flatten.length=min e 8:=by rw[agx,<- tl];exact s
 refine⟨⟨by rw[fl];lia,by rw[fl];lia,fun c hc=>?_⟩,kF ⋯⟩;obtain⟨x,hx,hc⟩:=agh.mp hc;obtain⟨d,hd,rfl⟩:=h.2 x (aeg hx);rw[adl.mp hc];exact hd
def CB(i:Int):azA i∈aY:=by have h0:=agw i (by decide:(26:Int)≠0);have h1:=afS i (by decide:(0:Int)<26);exact jd (by rw[Hb];lia)
def NY(k:Nat)(n j:Int)(h:Y3):∃W:Ya,w8 W/\cD bg (ju (F k)) [some (.str aY),some (.int n),some (.int j)] ((List.range (Int.toNat 8)).map fun i=>PV.int (0+(i:Nat))) h=.ok (W.map PV.str) h:=by
 obtain⟨W,g0,g1,g2⟩:=AA (te:=ju (F k)) (cp:=[some (.str aY),some (.int n),some (.int j)]) (h:=h) (fun i:Nat=>PV.int (0+(i:Nat))) (fun s=>∃c∈aY,s= [c]) (List.range (Int.toNat 8)) fun i _=>by
  have q2:=bj n (by decide:(0:Int)<2);have mi:∀x:Int,jV x (1 - n % 2)=true:=fun x=>wY (dU.mpr ⟨by lia,by lia⟩);have az:=Hc (n / 128+5 * (0+(i:Int))+3 * (j / 8) * (1 - n % 2));have zl:aY.length<=16777216:=by decide
  exact⟨[azA (n / 128+5 * (0+(i:Int))+3 * (j / 8) * (1 - n % 2))],⟨_,CB _,rfl⟩,by simp[EH,ju,mi,az,zl]⟩
 exact⟨W,⟨by rw[g0];rfl,g1⟩,g2⟩
abbrev nmE(n a:Int)(x4 x5:Option PV):Ev:=[some (.int n),some (.str aY),some (.int a),some (.ref 0),x4,x5,none]
def Av(k:Nat)(n a:Int)(ha:0<=a/\a<8)(j:Nat)(hj:j<12)(x5:Option PV)(acc:Ya)(la:acc.length<16777216)(rest:Y3):∃l Y9 y5,lO l/\
  gh (F k) (nmE n a (some (.int (0+(j:Nat)))) x5) (.lst (acc.map PV.str)::rest)=.nx (nmE n a (some (.int (0+(j:Nat)))) y5) (.lst ((acc++ [l]).map PV.str)::Y9):=by
 obtain⟨W,hW,cm⟩:=NY k n (0+(j:Nat)) (.lst (acc.map PV.str)::rest);have b8:V2 4611686018427387904 8=true:=rfl;have ln:((List.range (Int.toNat 8)).map fun i=>PV.int (0+(i:Nat))).length<16777216:=by decide
 have nl:∀(xs:Y2)(o:PO),tM xs (o::rest)=.ok (.ref (rest.length+1)) (o::(rest++ [.lst xs])):=fun _ _=>rfl;have d0:∀(xs:Y2) r,aj (.lst xs::r) (.ref 0)=.ref 0:=fun xs r=>rfl;have dW:∀(xs ys:Y2),aj (.lst xs::(rest++ [.lst ys])) (.ref (rest.length+1))=.ref (rest.length+1):=fun xs ys=>xx (acc:=ys) (by simp)
 have sW:∀(xs:Y2)(V:Ya) lo hi,nQ (.ref (rest.length+1)) lo hi (.lst xs::(rest++ [.lst (V.map PV.str)]))=.ok (.lst ((cut V lo hi).map PV.str)) (.lst xs::(rest++ [.lst (V.map PV.str)])):=fun xs V lo hi=>by
  show(match Yx (.lst xs::(rest++ [.lst (V.map PV.str)])) (.ref (rest.length+1))with|some ys=>Res.ok (PV.lst (cut ys lo hi)) _|none=>.bad)=_;have:Yx (.lst xs::(rest++ [.lst (V.map PV.str)])) (.ref (rest.length+1))=some (V.map PV.str):=by simp[Yx]
  rw[this,<- sG]
 have ap:∀(l:Y1) r,bn (.ref 0) [.str l] (.lst (acc.map PV.str)::r)=.ok .non (.lst (acc.map PV.str++ [.str l])::r):=fun l r=>by rw[Pg,if_pos (by rw[ac2];exact aeI la ⋯)]
 have ic:=Mi;have p8:decide (0<8 - a)=true:=decide_eq_true ⋯;have q2:=bj n (by decide:(0:Int)<2)
 by_cases q1:n % 2=1
 .have e1:decide (n % 2=1)=true:=decide_eq_true q1;have az:=Hc (n / 128+7 * (0+(j:Nat))+1);have ao:=CB (n / 128+7 * (0+(j:Nat))+1);have zl:aY.length<=16777216:=by decide
  generalize azA (n / 128+7 * (0+(j:Nat))+1)=s at az ao
  have hV:w8 (W.set a.toNat [s]):=by
   refine⟨by rw[ahk];exact hW.1,fun x hx=>?_⟩;rcases List.mem_or_eq_of_mem_set hx with h|h
   .exact hW.2 x h
   .exact⟨s,ao,h⟩
  have e8:=bj (n / 16) (show(0:Int)<8 - a by lia)
  have si:∀ ρ,gA (.str [s]) (.ref (rest.length+1)) (.int a) ρ (.lst (acc.map PV.str)::(rest++ [.lst (W.map PV.str)]))=.nx ρ (.lst (acc.map PV.str)::(rest++ [.lst ((W.set a.toNat [s]).map PV.str)])):=fun ρ=>by
   unfold gA;have e2:iZ (.lst (acc.map PV.str)::(rest++ [.lst (W.map PV.str)])) (.ref (rest.length+1))=some (rest.length+1,W.map PV.str):=by unfold iZ;simp
   have e3:WX (W.map PV.str).length a=some a.toNat:=by unfold WX;rw[ac2,hW.1,if_pos ha.1,if_pos ⋯]
   rw[e2];dsimp only;rw[e3];dsimp only;rw[List.set_cons_succ,aeZ _ _ (acY _),afj,List.set_cons_zero,List.map_set]
  obtain⟨j1,j3⟩:=Bj hV (e:=a+1+n / 16 % (8 - a)) ⋯ (.lst (acc.map PV.str)::(rest++ [.lst ((W.set a.toNat [s]).map PV.str)]));refine⟨_,rest++ [.lst ((W.set a.toNat [s]).map PV.str)],some (.ref (rest.length+1)),j1,?_⟩;have ii:∀(x y:Int),S9 [PV.int x,.int y] 1=some (.int y):=fun _ _=>rfl;simp[EH,gh,b8,ln,cm,bX,Option.getD,nl,e1,q1,ii,d0,dW,sW,ic,az,zl,si,p8,j3,ap,adi]
 .have q0:n % 2=0:=by lia
  have e1:decide (n % 2=1)=false:=decide_eq_false q1;have e8:=bj (0+(j:Nat)) (by decide:(0:Int)<8);obtain⟨j1,j3⟩:=Bj hW (e:=1+(0+(j:Nat)) % 8) ⋯ (.lst (acc.map PV.str)::(rest++ [.lst (W.map PV.str)]));refine⟨_,rest++ [.lst (W.map PV.str)],some (.ref (rest.length+1)),j1,?_⟩;have e0:decide ((0:Int)=1)=false:=rfl;have ii:∀(x y:Int),S9 [PV.int x,.int y] 0=some (.int x):=fun _ _=>rfl;simp[EH,gh,b8,ln,cm,bX,Option.getD,nl,e1,e0,q0,ii,d0,dW,sW,ic,p8,j3,ap,adi]
theorem tK(k:Nat)(n a:Int)(ha:0<=a/\a<8):∀(js:Y1)(x4 x5:Option PV)(acc:Ya)(rest:Y3),(∀j∈js,j<12)->acc.length+js.length<16777216->(∀x∈acc,lO x)->∃(ls:Ya)(y4 y5:Option PV)(Y9:Y3),ls.length=acc.length+js.length/\(∀x∈ls,lO x)/\
  bC (N6 4) (gh (F k)) (js.map fun j=>PV.int (0+(j:Nat))) (nmE n a x4 x5) (.lst (acc.map PV.str)::rest)=.nx (nmE n a y4 y5) (.lst (ls.map PV.str)::Y9)
 |[],x4,x5,acc,rest,_,_,hn=>⟨acc,x4,x5,rest,rfl,hn,by rw[adT,bC]⟩
 |j::r,x4,x5,acc,rest,hj,hl,hn=>by
  rw[ac6]at hl;obtain⟨l,abA,x5',nl,e⟩:=Av k n a ha j (hj j ac4) x5 acc ⋯ rest
  obtain⟨ls,y4,y5,abz,e1,e2,e3⟩:=tK k n a ha r (some (.int (0+(j:Nat)))) x5' (acc++ [l]) abA (fun z hz=>hj z (ac1 _ hz)) (by rw[acZ,adF];lia) (fun z hz=>by
   rcases adv.mp hz with q|q
   .exact hn z q
   .cases adl.mp q;exact nl)
  refine⟨ls,y4,y5,abz,by rw[e1,acZ];simp only[ac6,adh];lia,e2,?_⟩;rw[ac5];exact afC (fJ rfl e) e3
def FI(k:Nat)(n:Int):∃ls:Ya,ls.length=12/\Vy ls=true/\ls.Nodup/\F (k+1) .Ua [.int n]=.ok (Te ls):=by
 have s8:=bj (n / 2) (by decide:(0:Int)<8);obtain⟨ls,y4,y5,rest,e1,nl,e3⟩:=tK k n (n / 2 % 8) s8 (List.range 12) none none [] [] (fun j hj=>aeu.mp hj) (by simp) (fun x hx=>(by cases hx));have l12:ls.length=12:=by rw[e1];simp
 have b12:V2 4611686018427387904 12=true:=rfl;have r12:(List.range (Int.toNat 12))=List.range 12:=rfl;have e3':bC (N6 4) (gh (F k)) ((List.range 12).map fun j=>PV.int (0+(j:Nat))) [some (.int n),some (.str aY),some (.int (n / 2 % 8)),some (.ref 0),none,none,none] [.lst []]=.nx [some (.int n),some (.str aY),some (.int (n / 2 % 8)),some (.ref 0),y4,y5,none] (.lst (ls.map PV.str)::rest):=e3;have d0:∀(xs:Y2) r,aj (.lst xs::r) (.ref 0)=.ref 0:=fun xs r=>rfl;have tl:(iu.map PV.str)=[.str [97,115],.str [98,101,116,119,101,101,110],.str [98,111,100,121],.str [101,108,115,101],.str [101,110,100],.str [102,111,114],.str [105,102],.str [105,110],.str [112,105,101,99,101],.str [117,115,101],.str [119,105,116,104]]:=rfl
 have ad:ak (.ref 0) (.lst (iu.map PV.str)) (.lst (ls.map PV.str)::rest)=.ok (.lst ((ls++iu).map PV.str)) (.lst (ls.map PV.str)::rest):=by rw[MR (acc:=ls.map PV.str) rfl _ (by rw[ac2,ac2,l12];decide),adi]
 have sc:(ls++iu).length+1<scanBound:=by rw[acZ,l12];decide
 have lz:∀h,oU (.lst ((ls++iu).map PV.str)) h=.ok (.int (rG (ls++iu):Nat)) h:=fun h=>by show(match gz ((ls++iu).map PV.str)with|some ls=>if ls.length+1<scanBound then Res.ok (PV.int (rG ls:Nat)) _ else .bad|none=>.bad)=_;rw[qP];dsimp only;rw[if_pos sc]
 have r2:F (k+1) .Ua [.int n]=match mU (F k) [some (.int n),none,none,none,none,none,none] []with
   |.nx _ _=>.ok .non
   |.rt v h=>aK v h
   |_=>.bad:=rfl
 rw[tl]at ad
 by_cases c1:((rG (ls++iu):Nat):Int)<23
 .have z1:decide (((rG (ls++iu):Nat):Int)<23)=true:=decide_eq_true c1;refine⟨Rv,rfl,by decide+kernel,by decide,?_⟩;rw[r2];simp[EH,mU,b12,r12,e3',d0,ad,lz,z1];rfl
 .have z1:decide (((rG (ls++iu):Nat):Int)<23)=false:=decide_eq_false c1;have dn:dup (ls++iu)=false:=by unfold dup;rw[acZ,l12];exact decide_eq_false (by show¬ (rG (ls++iu)<12+11);lia)
  obtain⟨d1,_,d3⟩:=ae6.mp ((GL _).mp dn);refine⟨ls,l12,adn.mpr fun x hx=>?_,d1,?_⟩
  .obtain⟨o1,o2,o3⟩:=nl x hx;show(decide (1<=x.length/\x.length<=8)&&x.all aY.contains&&!decide (x∈R.CW))=true;rw[decide_eq_true ⟨o1,o2⟩,adn.mpr fun c hc=>aep.mpr (o3 c hc)];have nc:x∉R.CW:=fun z=>d3 x hx x z rfl;simp[nc]
  rw[r2];simp[EH,mU,b12,r12,e3',d0,ad,lz,z1];exact Ch rfl (jJ ls)
def Gf(k:Nat)(ms:Ya)(ml:ms.length=12)(hm:Vy ms=true)(n:Int):∃ks:List Kd,ks.length=9/\WW ks/\F (k+1) .Ub [Te ms,.int n]=.ok (G6 ks):=by
 have s5:=bj n (by decide:(0:Int)<5);obtain⟨x0,a0,i0,_⟩:=mj ml hm (n % 5) ⋯ ⋯;obtain⟨x1,a1,i1,_⟩:=mj ml hm (n % 5+1) ⋯ ⋯;obtain⟨x2,a2,i2,_⟩:=mj ml hm (n % 5+2) ⋯ ⋯;obtain⟨x3,a3,i3,_⟩:=mj ml hm (n % 5+3) ⋯ ⋯;obtain⟨x4,a4,i4,_⟩:=mj ml hm (n % 5+4) ⋯ ⋯;obtain⟨x6,a6,i6,_⟩:=mj ml hm (n % 5+6) ⋯ ⋯
 let sm:Kd:=.r (.cons x0 .t (.cons x1 .w (.cons x3 .n (.cons x6 .b .nil))))
 let gt:Kd:=.r (.cons x2 (.l sm) (.cons x0 (.l .w) (.cons x4 sm .nil)));have ws:wK sm=true:=by simp[sm,wK,wKs,a0,a1,a3,a6]
 have zs:zK sm=5:=by simp[sm,zK,YG]
 have wg:wK gt=true:=by simp[gt,wK,wKs,a0,a2,a4,ws]
 have zg:zK gt=14:=by simp[gt,zK,YG,zs]
 have es:kd sm=.tup [.str [114],.tup [.tup [.str x0,.tup [.str [116]]],.tup [.str x1,.tup [.str [119]]],.tup [.str x3,.tup [.str [110]]],.tup [.str x6,.tup [.str [98]]]]]:=by simp[sm,kd,XK]
 have eg:kd gt=.tup [.str [114],.tup [.tup [.str x2,.tup [.str [108],kd sm]],.tup [.str x0,.tup [.str [108],.tup [.str [119]]]],.tup [.str x4,kd sm]]]:=by simp[gt,kd,XK]
 refine⟨[.w,.t,.n,.b,sm,.l .w,.l sm,gt,.l (.l .n)],rfl,?_,?_⟩
 .intro q hq;simp only[ac8,adH,or_false]at hq;rcases hq with rfl|rfl|rfl|rfl|rfl|rfl|rfl|rfl|rfl
  .exact⟨rfl,by decide⟩
  .exact⟨rfl,by decide⟩
  .exact⟨rfl,by decide⟩
  .exact⟨rfl,by decide⟩
  .exact⟨ws,by lia⟩
  .exact⟨rfl,by decide⟩
  .exact⟨by rw[wK];exact ws,by rw[zK];lia⟩
  .exact⟨wg,by lia⟩
  .exact⟨rfl,by decide⟩
 .have r2:F (k+1) .Ub [Te ms,.int n]=match qN (F k) [some (Te ms),some (.int n),none,none,none,none] []with
   |.nx _ _=>.ok .non
   |.rt v h=>aK v h
   |_=>.bad:=rfl
  have ek:G6 [.w,.t,.n,.b,sm,.l .w,.l sm,gt,.l (.l .n)]=.lst [.tup [.str [119]],.tup [.str [116]],.tup [.str [110]],.tup [.str [98]],kd sm,.tup [.str [108],.tup [.str [119]]],.tup [.str [108],kd sm],kd gt,.tup [.str [108],.tup [.str [108],.tup [.str [110]]]]]:=by unfold G6;simp[kd]
  have fi:aK (G6 [.w,.t,.n,.b,sm,.l .w,.l sm,gt,.l (.l .n)]) []=.ok (G6 [.w,.t,.n,.b,sm,.l .w,.l sm,gt,.l (.l .n)]):=kc (ph _);rw[r2];rw[ek,eg,es]at fi |-;simp[EH,qN,nT,i0,i1,i2,i3,i4,i6];exact fi
theorem eV:∀(a b:Y2),am (a++b)=(am a&&am b)
 |[],b=>by simp[am]
 |x::r,b=>by rw[adY,am,am,eV r b,Bool.and_assoc]
def IK{P Q:List Pe}{p:Pe}(h:Ze P x=some p):Ze (P++Q) x=some p:=by unfold Ze at*;rw[List.find?_append,h];rfl
theorem BD{P Q:List Pe}{l:Nat}{h:Zp}(e:Zb P x l h=true):Zb (P++Q) x l h=true:=by
 unfold Zb at*
 cases z:Ze P x with
 |none=>rw[z]at e;cases e
 |some p=>rw[z]at e;rw[IK z];exact e
mutual
theorem Ij(P Q:List Pe)(m:Zp)(ns:Ya):∀n:Nd,okN (P,m,ns) n=true->okN (P++Q,m,ns) n=true
 |.text _,_=>rfl
 |.place p w,h=>by rw[okN]at h |-;exact h
 |.loop x p b t,h=>by rw[okN,acX]at h;rw[okN,acX];exact⟨h.1,jr P Q m _ b h.2⟩
 |.choice p y z,h=>by rw[okN,acX,acX]at h;rw[okN,acX,acX];exact⟨h.1,jr P Q m _ y h.2.1,jr P Q m _ z h.2.2⟩
 |.use x ps,h=>by rw[okN,acX]at h;rw[okN,acX];exact⟨h.1,BD h.2⟩
 |.I_ x ps hs b,h=>by rw[okN,acX,acX,acX]at h;rw[okN,acX,acX,acX];exact⟨h.1,BD h.2.1,h.2.2.1,jr P Q m _ b h.2.2.2⟩
 |.body ps,h=>by rw[okN]at h |-;exact h
theorem jr(P Q:List Pe)(m:Zp)(ns:Ya):∀b:K3,Ue (P,m,ns) b=true->Ue (P++Q,m,ns) b=true
 |.nil,_=>rfl
 |.cons n r,h=>by rw[Ue,acX]at h;rw[Ue,acX];exact⟨Ij P Q m ns n h.1,jr P Q m ns r h.2⟩
end
theorem BE(X:Cx):∀(y z:K3),Ue X y=true->Ue X z=true->Ue X (Zq y z)=true
 |.nil,z,_,h=>h
 |.cons n r,z,h,g=>by rw[Ue,acX]at h;rw[Zq,Ue,h.1,BE X r z h.2 g];rfl
def Vv(q:Pc):PK×PV:=(.inr q.n,.tup (q8 q.b))
def pd(B:List Pc):PV:=.dct (B.map Vv)
theorem wR(B:List Pc):(pd B).pure=true:=by
 show gC (B.map Vv)=true;rw[gP,adB]
 induction B with
 |nil=>rfl
 |cons q r ih=>rw[ac5,am,ih];simp[Vv,PV.pure,bU]
theorem yB(B:List Pc)(h:Y3):aj h (pd B)=pd B:=rfl
theorem xQ(n:Y1):∀B:List Pc,lM (B.map Vv) (.inr n)=(look B n).map fun q=>.tup (q8 q.b)
 |[]=>rfl
 |q::r=>by
  rw[ac5]
  by_cases h:q.n=n
  .subst h;simp[lM,look,Vv]
  .have i:=xQ n r;unfold look at i |-;rw[afk (by simpa using h),<- i];simp[lM,Vv,h]
def JP{B:List Pc}{q:Pc}(e:look B x=some q)(h:Y3):b_ (pd B) (.str x) h=.ok (.tup (q8 q.b)) h:=by show(match lM (B.map Vv) (.inr x)with|some v=>Res.ok (aj h v) h|none=>Res.bad)=_;rw[xQ,e];rfl
inductive HB(B:List Pc):Y2->Zp->Hd->Prop where
 |no (l:Y2):HB B l none .nil
 |yes {l:Y2} {m:Zp} {h:Hd} {b:K3} {ns:Ya} (i:Int) (t:HB B l m h) (ok:Ue (B.map Vd,m,ns) b=true) (ct:I7 b<=1000000):HB B (l++ [.tup (q8 b)]) (some i) (.cons b 0 h)
def Be(B:List Pc)(j:Nat):Prop:=∀(b:K3)(m:Zp)(ns:Ya)(l:Y2)(hd:Hd)(left:Int)(K:Nat),Ue (B.map Vd,m,ns) b=true->I7 b<=1000000->HB B l m hd->am l=true->l.length+j<=1000-> -1<=left->j+1<=K->
 ∃J1:Int,(-1<=J1/\J1<=max left (-1)/\(0<=J1->∃r,cX B (j+1) b hd=some r/\(r.1:Int)+J1<=left))/\L K .J9 [.tup (q8 b),pd B,.lst l,.int (25 - (j:Int)),.ref 0] [Uj left]=.ok .non [Uj J1]
abbrev cE(a:PV)(B:List Pc)(l:Y2)(j:Nat)(x5:Option PV):Ev:=[some a,some (pd B),some (.lst l),some (.int (25 - (j:Int))),some (.ref 0),x5]
def GW(B:List Pc)(hB:∀q∈B,Ue (B.map Vd,q.m,q.ns) q.b=true/\I7 q.b<=1000000)(j k:Nat)(hj:j<=24)(ok:∀j',j'<j->Be B j')(hk:j<=k)(a:PV)(m:Zp)(ns:Ya)(l:Y2)(hd:Hd)(left:Int)(n:Nd)
    (us:okN (B.map Vd,m,ns) n=true) (ct:R8 n<=1000000) (ho:HB B l m hd) (pl:am l=true) (ll:l.length+j<=1000) (hl: -1<=left):∃J1:Int,(-1<=J1/\J1<=max left (-1)/\(0<=J1->∃r,Zn B (cX B j) hd n=some r/\(r.1:Int)+J1<=left))/\
     cG (F k) (L k) (cE a B l j (some (nd n))) [Uj left]=.nx (cE a B l j (some (nd n))) [Uj J1]:=by
  have Yy:∀m:Int,b_ (.ref 0) (.int 0) [Uj m]=.ok (.int m) [Uj m]:=fun m=>rfl;have d0:∀m:Int,aj [Uj m] (.ref 0)=.ref 0:=fun m=>rfl;have st:∀(v m:Int) ρ,gA (.int v) (.ref 0) (.int 0) ρ [Uj m]=.nx ρ [Uj v]:=fun v m ρ=>rfl
  by_cases c1:left - 1<0
  . have z1:decide (left - 1<0)=true:=decide_eq_true c1
    exact⟨-1,⟨by lia,by lia,fun z=>by lia⟩,by simp[EH,cG,d0,Yy,st,z1]⟩
  have z1:decide (left - 1<0)=false:=decide_eq_false c1
  cases j with
  |zero=>exact⟨-1,⟨by lia,by lia,fun z=>by lia⟩,by simp[EH,cG,d0,Yy,st,z1];rfl⟩
  |succ j=>
    have z2:decide (25 - ((j+1:Nat):Int)>24)=false:=decide_eq_false ⋯;have ad:25 - ((j+1:Nat):Int)+1=25 - (j:Int):=by lia
    have go:∀(b:K3)(m':Zp)(ns':Ya)(l':Y2)(h':Hd),Ue (B.map Vd,m',ns') b=true->I7 b<=1000000->HB B l' m' h'->am l'=true->l'.length+j<=1000->∃J1:Int,(-1<=J1/\J1<=max (left - 1) (-1)/\(0<=J1->∃r,cX B (j+1) b h'=some r/\(r.1:Int)+J1<=left - 1))/\I9 (L k .J9) [.tup (q8 b),pd B,.lst l',.int (25 - (j:Int)),.ref 0] [Uj (left - 1)]=.ok .non [Uj J1]:=fun b m' ns' l' h' u c o p q=>by obtain⟨lf,g1,g2⟩:=ok j (ad6 _) b m' ns' l' h' (left - 1) k u c o p q ⋯ ⋯;exact⟨lf,g1,iU (fn:=L k .J9) [.tup (q8 b),pd B,.lst l',.int (25 - (j:Int))] [] (by simp[am,wR,PV.pure,bU,p]) rfl rfl (oZ _) g2 rfl (oZ _)⟩
    have up:∀{b:K3}{h':Hd}{l':Int}{n:Nd},(-1<=l'/\l'<=max (left - 1) (-1)/\(0<=l'->∃r,cX B (j+1) b h'=some r/\(r.1:Int)+l'<=left - 1))->Zn B (cX B (j+1)) hd n=upO (cX B (j+1) b h')-> -1<=l'/\l'<=max left (-1)/\(0<=l'->∃r,Zn B (cX B (j+1)) hd n=some r/\(r.1:Int)+l'<=left):=fun g e=>⟨g.1,by have:=g.2.1;lia,fun z=>by obtain⟨r,hr,hs⟩:=g.2.2 z;rw[e,hr];exact⟨_,rfl,by show((r.1+1:Nat):Int)+_<=_;lia⟩⟩
    cases n with
    |text s=>exact⟨left - 1,⟨by lia,by lia,fun _=>⟨_,rfl,by show(1:Int)+_<=_;lia⟩⟩,by simp[EH,cG,d0,Yy,st,z1,z2]⟩
    |place p s=>exact⟨left - 1,⟨by lia,by lia,fun _=>⟨_,rfl,by show(1:Int)+_<=_;lia⟩⟩,by simp[EH,cG,d0,Yy,st,z1,z2]⟩
    |loop x p b s=>rw[okN,acX]at us;rw[R8]at ct;obtain⟨l',g1,g2⟩:=go b m _ l hd us.2 ct ho pl ⋯;exact⟨l',up g1 rfl,by simp[EH,cG,d0,Yy,st,z1,z2,yB,ad,g2]⟩
    |choice p y z=>rw[okN,acX,acX]at us;rw[R8]at ct;obtain⟨l',g1,g2⟩:=go (Zq y z) m _ l hd (BE _ y z us.2.1 us.2.2) (by rw[GV];exact ct) ho pl ⋯;rw[FG]at g2;have aa:∀h,ak (.tup (q8 y)) (.tup (q8 z)) h=.ok (.tup (q8 y++q8 z)) h:=fun h=>xL _ _ h (by have:=sk y;have:=sk z;exact adu (by lia:_<=1000000) ⋯);exact⟨l',up g1 rfl,by simp[EH,cG,d0,Yy,st,z1,z2,yB,aa,ad,g2]⟩
    |body ps=>
      rw[okN,acX]at us;have us2:m=some (ps.length:Int):=of_decide_eq_true us.2
      cases ho with
      |no l=>cases us2
      |@yes l0 m0 h0 b ns0 i t okb ctb=>
        have plp:am l0=true:=by rw[eV,acX]at pl;exact pl.1
        obtain⟨l',g1,g2⟩:=go b m0 ns0 l0 h0 okb ctb t plp (by rw[acZ]at ll;simp only[adF]at ll;lia);have e0:∀h,b_ (.lst (l0++ [.tup (q8 b)])) (.int (-1)) h=.ok (.tup (q8 b)) h:=fun h=>by rw[tW,sJ];rfl
        have e1:∀h,nQ (.lst (l0++ [.tup (q8 b)])) none (some (-1)) h=.ok (.lst l0) h:=fun h=>by
          rw[yc]
          have:cut (l0++ [PV.tup (q8 b)]) none (some (-1))=l0:=by
            unfold cut;rw[Z.Q9,afi]
            have:Z.J8 (l0++ [PV.tup (q8 b)]).length (l0++ [PV.tup (q8 b)]).length (some (-1))=l0.length:=by show(if(-1:Int)<0 then((-1:Int)+((l0++ [PV.tup (q8 b)]).length:Nat)).toNat else min (-1:Int).toNat (l0++ [PV.tup (q8 b)]).length)=_;rw[if_pos ⋯,acZ,adF];lia
            rw[this,ahd,afh]
          rw[this]
        exact⟨l',up g1 rfl,by simp[EH,cG,d0,Yy,st,z1,z2,yB,e0,e1,ad,g2]⟩
    |use x ps=>rw[okN,acX]at us;obtain⟨q,lk,u1,u2⟩:=yL us.2;have qm:q∈B:=ae1 lk;obtain⟨b1,b2⟩:=hB q qm;rw[u2]at b1;obtain⟨l',g1,g2⟩:=go q.b none q.ns (l++ [.non]) .nil b1 b2 (.no _) (by rw[eV,pl];rfl) (by rw[acZ];simp only[adF];lia);have aa:∀h,ak (.lst l) (.lst [.non]) h=.ok (.lst (l++ [.non])) h:=fun h=>fS _ _ h (by simp only[adF];lia);exact⟨l',up g1 (by rw[Zn,lk]),by simp[EH,cG,d0,Yy,st,z1,z2,yB,JP lk,aa,ad,g2]⟩
    |I_ x ps hs b=>rw[okN,acX,acX,acX]at us;rw[R8]at ct;obtain⟨q,lk,u1,u2⟩:=yL us.2.1;have qm:q∈B:=ae1 lk;obtain⟨b1,b2⟩:=hB q qm;rw[u2]at b1;obtain⟨l',g1,g2⟩:=go q.b (some (hs.length:Int)) q.ns (l++ [.tup (q8 b)]) (.cons b 0 hd) b1 b2 (.yes _ ho us.2.2.2 ct) (by rw[eV,pl,am,PV.pure,bU];rfl) (by rw[acZ];simp only[adF];lia);have aa:∀h,ak (.lst l) (.lst [.tup (q8 b)]) h=.ok (.lst (l++ [.tup (q8 b)])) h:=fun h=>fS _ _ h (by simp only[adF];lia);exact⟨l',up g1 (by rw[Zn,lk]),by simp[EH,cG,d0,Yy,st,z1,z2,yB,JP lk,aa,ad,g2]⟩
theorem vJ(B:List Pc)(hB:∀q∈B,Ue (B.map Vd,q.m,q.ns) q.b=true/\I7 q.b<=1000000)(j k:Nat)(hj:j<=24)(ok:∀j',j'<j->Be B j')(hk:j<=k)(a:PV)(m:Zp)(ns:Ya)(l:Y2)(hd:Hd)(ho:HB B l m hd)(pl:am l=true)(ll:l.length+j<=1000):
    ∀(b:K3)(left:Int)(x5:Option PV),Ue (B.map Vd,m,ns) b=true->I7 b<=1000000-> -1<=left->∃(J1:Int)(y5:Option PV),(-1<=J1/\J1<=max left (-1)/\(0<=J1->∃r,cX B (j+1) b hd=some r/\(r.1:Int)+J1<=left))/\
       bC (N6 5) (cG (F k) (L k)) (q8 b) (cE a B l j x5) [Uj left]=.nx (cE a B l j y5) [Uj J1]
  |.nil,left,x5,_,_,hl=>⟨left,x5,⟨hl,by lia,fun _=>⟨_,rfl,by show(0:Int)+_<=_;lia⟩⟩,by rw[q8,bC]⟩
  |.cons n r,left,x5,us,ct,hl=>by
    rw[Ue,acX]at us;rw[I7]at ct;obtain⟨l1,g1,g2⟩:=GW B hB j k hj ok hk a m ns l hd left n us.1 ⋯ ho pl ll hl;obtain⟨l2,y5,g3,g4⟩:=vJ B hB j k hj ok hk a m ns l hd ho pl ll r l1 (some (nd n)) us.2 ⋯ g1.1
    have one:0<=l2->∃r',cX B (j+1) (.cons n r) hd=some r'/\(r'.1:Int)+l2<=left:=by intro z;obtain⟨r2,h2,h3⟩:=g3.2.2 z;obtain⟨r1,h1,h4⟩:=g1.2.2 (by have:=g3.2.1;lia);have e2:cR (Zn B (cX B j) hd) r=some r2:=h2;show∃r',cR (Zn B (cX B j) hd) (.cons n r)=some r'/\_;rw[cR,h1,e2];exact⟨_,rfl,by show((r1.1+r2.1:Nat):Int)+_<=_;lia⟩
    refine⟨l2,y5,⟨g3.1,by have:=g3.2.1;have:=g1.2.1;lia,one⟩,?_⟩;rw[q8];exact afC (fJ rfl g2) g4
theorem Jv(B:List Pc)(hB:∀q∈B,Ue (B.map Vd,q.m,q.ns) q.b=true/\I7 q.b<=1000000):∀j,j<=24->Be B j:=by
 intro j
 induction j using Nat.strongRecOn with
 |ind j ih=>
  intro hj b m ns l hd left k us ct ho pl ll hl hk;obtain⟨k',rfl⟩:∃k',k=k'+1:=⟨k - 1,by lia⟩
  obtain⟨l',y5,g1,g2⟩:=vJ B hB j k' hj (fun j' h=>ih j' h ⋯) ⋯ (.tup (q8 b)) m ns l hd ho pl ll b left none us ct hl;refine⟨l',g1,?_⟩;have r2:L (k'+1) .J9 [.tup (q8 b),pd B,.lst l,.int (25 - (j:Int)),.ref 0] [Uj left]=uj (bC (N6 5) (cG (F k') (L k')) (q8 b) (cE (.tup (q8 b)) B l j none) [Uj left]):=rfl;rw[r2,g2];rfl
def AF{ks:List Kd}(hk:WW ks)(hl:ks.length=9)(i:Int)(h0:0<=i)(h1:i<9):∃k,Xo k/\∀h,b_ (G6 ks) (.int i) h=.ok (kd k) h:=by
 have hi:i.toNat<ks.length:=by lia
 refine⟨ks[i.toNat],hk _ (agi hi),fun h=>?_⟩;unfold G6;rw[tW,eJ (v:=kd ks[i.toNat]) h0 (by rw[adO,adz hi];rfl)];show Res.ok (aj h (kd _)) h=_;rw[jY]
noncomputable def Uy:K3->List Nd
 |.nil=> []
 |.cons n r=>n::Uy r
theorem BI:∀l:List Nd,Uy (M9 l)=l
 |[]=>rfl
 |n::r=>by rw[M9,Uy,BI r]
theorem oW:∀b:K3,q8 b=(Uy b).map nd
 |.nil=>by rw[q8];rfl
 |.cons n r=>by rw[q8,oW r];rfl
theorem Cq:∀b:K3,Xi (Uy b)=I7 b
 |.nil=>by rw[I7];rfl
 |.cons n r=>by rw[Uy,I7,<- Cq r];unfold Xi;rw[ac5,adQ]
theorem BJ(X:Cx):∀b:K3,wS b=true->Ue X b=true->∀n∈Uy b,wN n=true/\okN X n=true/\dN n<=dS b
 |.nil,_,_,n,h=>by cases h
 |.cons a r,w,o,n,h=>by
  rw[wS,acX]at w;rw[Ue,acX]at o;rw[dS];rcases ac8.mp h with q|q
  .subst q;exact⟨w.1,o.1,ad4 _ _⟩
  .obtain⟨a1,a2,a3⟩:=BJ X r ((acX _ _).mp w.2).1 o.2 n q;exact⟨a1,a2,adu a3 (adX _ _)⟩
structure GI(ms:Ya)(k:Nat)(B:List Pc)(P:List Pk):Prop where
 lB:B.length=k
 nm:P.map Z8=B.map Vd
 p:∀p∈P,sn p.n=true/\p.o.length<=4/\WW p.o/\hOl p.h
 g:∀q∈B,wC q=true/\dS q.b<=3/\I7 q.b<=2100/\q.ns.length<=4/\Wv (Uy q.b)<=17
 o:∀q∈B,Ue (B.map Vd,q.m,q.ns) q.b=true
 n:B.map (·.n)=(ms.drop 8).take k
abbrev kE(cs:List Int)(ms:Ya)(td od:Bool)(f:Int)(ks:List Kd)(x8 x9 Wu Yv Yi X5 WM Wt V6:Option PV):Ev:=[some (cv cs),some (.ref 0),some (Te ms),some (.bl td),some (.bl od),some (.int f),some (G6 ks),some (.ref 1),x8,x9,Wu,Yv,Yi,X5,WM,Wt,V6,none]
def bQ(cs:List Int)(ms:Ya)(td od:Bool)(f:Int)(ks:List Kd)(k:Nat)(n:Int)(r:SR):Prop:=∃(n' m':Int)(B:List Pc)(P:List Pk)(s:Vc)(x9 Wu Yv Yi WM Wt V6:Option PV),GI ms (k+1) B P/\X8 s/\(∀E q,B=E++ [q]->q.ns=s.map (·.1)/\(k=(f % 4).toNat->q.m=none))/\n<=n'/\n'<=n+5000/\r=.nx (kE cs ms td od f ks (some (.lst (P.map Td))) x9 Wu Yv Yi (some (H9 s)) WM Wt V6) [f9 n' m',.lst (B.map pc)]
def Lv(K:Nat)(ks:List Kd)(hk:WW ks)(hl:ks.length=9)(v:Int)(h:Y3):∃os:List Kd,os.length=(v % 5).toNat/\WW os/\cD bg (lu (F K)) [some (G6 ks),some (.int v)] ((List.range (v % 5).toNat).map fun i=>PV.int (0+(i:Nat))) h=.ok (os.map kd) h:=by
 have t5:=bj v (by decide:(0:Int)<5)
 obtain⟨os,a,b,c⟩:=oX (te:=lu (F K)) (cp:=[some (G6 ks),some (.int v)]) (h:=h) (fun i:Nat=>PV.int (0+(i:Nat))) kd Xo (List.range (v % 5).toNat) fun i hi=>by
  have hi':=aeu.mp hi
  obtain⟨w,w1,w2⟩:∃w:Int,S9 [PV.int 1,.int 9,.int 81,.int 729] (0+(i:Nat))=some (.int w)/\decide (0<w/\w<1073741824)=true:=by
   rcases(show i=0\/i=1\/i=2\/i=3 by lia)with rfl|rfl|rfl|rfl
   .exact⟨1,rfl,rfl⟩
   .exact⟨9,rfl,rfl⟩
   .exact⟨81,rfl,rfl⟩
   .exact⟨729,rfl,rfl⟩
  have t9:=bj (v / 4 / w) (by decide:(0:Int)<9);obtain⟨kk,k1,k2⟩:=AF hk hl (v / 4 / w % 9) t9.1 t9.2;exact⟨kk,k1,by simp[EH,lu,iC,w1,w2,k2]⟩
 exact⟨os,by rw[a,ad1],b,c⟩
def Mn(K:Nat)(ks:List Kd)(hk:WW ks)(hl:ks.length=9)(v:Int)(h:Y3):∃os:List Kd,os.length=(v / 7 % 4).toNat/\WW os/\cD bg (lq (F K)) [some (G6 ks),some (.int v)] ((List.range (v / 7 % 4).toNat).map fun i=>PV.int (0+(i:Nat))) h=.ok (os.map kd) h:=by
 have t4:=bj (v / 7) (by decide:(0:Int)<4)
 obtain⟨os,a,b,c⟩:=oX (te:=lq (F K)) (cp:=[some (G6 ks),some (.int v)]) (h:=h) (fun i:Nat=>PV.int (0+(i:Nat))) kd Xo (List.range (v / 7 % 4).toNat) fun i hi=>by
  have hi':=aeu.mp hi
  obtain⟨w,w1,w2⟩:∃w:Int,S9 [PV.int 1,.int 9,.int 81] (0+(i:Nat))=some (.int w)/\decide (0<w/\w<1073741824)=true:=by
   rcases(show i=0\/i=1\/i=2 by lia)with rfl|rfl|rfl
   .exact⟨1,rfl,rfl⟩
   .exact⟨9,rfl,rfl⟩
   .exact⟨81,rfl,rfl⟩
  have t9:=bj (v / 11 / w) (by decide:(0:Int)<9);obtain⟨kk,k1,k2⟩:=AF hk hl (v / 11 / w % 9) t9.1 t9.2;exact⟨kk,k1,by simp[EH,lq,iC,w1,w2,k2]⟩
 exact⟨os,by rw[a,ad1],b,c⟩
def KH(K:Nat)(ms:Ya)(ml:ms.length=12)(hm:Vy ms=true)(os:List Kd)(ho:WW os)(v:Int)(h:Y3):∃s:Vc,s.length=os.length/\X8 s/\cD bg (ji (F K)) [some (Te ms),some (G6 os),some (.int v)] ((List.range os.length).map fun i=>PV.int (0+(i:Nat))) h=.ok (s.map sv) h:=by
 obtain⟨s,a,b,c⟩:=oX (te:=ji (F K)) (cp:=[some (Te ms),some (G6 os),some (.int v)]) (h:=h) (fun i:Nat=>PV.int (0+(i:Nat))) sv (fun x=>sn x.1=true/\Xo x.2) (List.range os.length) fun i hi=>by
  have hi':=aeu.mp hi;have t8:=bj (v / 13+(0+(i:Nat))) (by decide:(0:Int)<8);obtain⟨x,x1,x2,_⟩:=mj ml hm ((v / 13+(0+(i:Nat))) % 8) t8.1 ⋯
  have ix:∀h,b_ (G6 os) (.int (0+(i:Nat))) h=.ok (kd os[i]) h:=fun h=>by unfold G6;rw[tW,eJ (v:=kd os[i]) ⋯ (by rw[show(0+((i:Nat):Int)).toNat=i by lia,adO,adz hi'];rfl)];show Res.ok (aj h (kd _)) h=_;rw[jY]
  exact⟨(x,os[i]),⟨x1,ho _ (agi hi')⟩,by simp[EH,ji,nT,iC,x2,ix];rfl⟩
 exact⟨s,by rw[a,ad1],b,c⟩
def Lu(P:List Pk)(p:Pk)(h:Y3)(hl:P.length<=1000):ak (.lst (P.map Td)) (.lst [.tup [.str p.n,G6 p.o,hkv p.h]]) h=.ok (.lst ((P++ [p]).map Td)) h:=by rw[fS _ _ h (by rw[ac2];simp;lia),adi];rfl
noncomputable def cnt(o:Option (List Kd)):Zp:=o.map fun l=>(l.length:Int)
def uk(l:List α)(k:Nat)(d:α)(h:k<l.length):l.take (k+1)=l.take k++ [l.getD k d]:=by rw[List.take_succ,adA,adz h];rfl
def vS(K:Nat)(hK:17<=K)(cs:List Int)(hc:cs.length<=63)(ms:Ya)(ml:ms.length=12)(hm:Vy ms=true)(md:ms.Nodup)(td od:Bool)(f:Int)(ks:List Kd)(kl:ks.length=9)(hk:WW ks)(k:Nat)(k4:k<4)(n m:Int)(h0:0<=n)(h1:n<=1000000)(B:List Pc)(P:List Pk)(I:GI ms k B P)(Wu Yv Yi X5 WM Wt V6:Option PV):
  bQ cs ms td od f ks k n (iW (F K) (L K) (kE cs ms td od f ks (some (.lst (P.map Td))) (some (.int (0+(k:Nat)))) Wu Yv Yi X5 WM Wt V6) [f9 n m,.lst (B.map pc)]):=by
 obtain⟨K',rfl⟩:∃K',K=K'+2:=⟨K - 2,by lia⟩
 obtain⟨v,v0,v1,ce⟩:=eW (K'+1) cs hc n m h0 ⋯ [.lst (B.map pc)];have d0:∀(n m:Int)(o:PO),aj [f9 n m,o] (.ref 0)=.ref 0:=fun _ _ _=>rfl;have d1:∀(o:PO)(xs:Y2),aj [o,.lst xs] (.ref 1)=.ref 1:=fun _ _=>rfl;have lP:P.length=k:=by have:=congrArg List.length I.nm;rw[ac2,ac2,I.lB]at this;exact this
 have t5:=bj v (by decide:(0:Int)<5);have t4:=bj (v / 7) (by decide:(0:Int)<4);have tf:=bj f (by decide:(0:Int)<4);obtain⟨os,o1,o2,o3⟩:=Lv (K'+2) ks hk kl v [f9 (n+1) m,.lst (B.map pc)];obtain⟨hs,s1,s2,s3⟩:=Mn (K'+2) ks hk kl v [f9 (n+1) m,.lst (B.map pc)];have b5:V2 4611686018427387904 (v % 5)=true:=dU.mpr ⟨by lia,by lia⟩;have b4:V2 4611686018427387904 (v / 7 % 4)=true:=dU.mpr ⟨by lia,by lia⟩;have l5:((List.range (v % 5).toNat).map fun i=>PV.int (0+(i:Nat))).length<16777216:=by rw[ac2,ad1];lia
 have l4:((List.range (v / 7 % 4).toNat).map fun i=>PV.int (0+(i:Nat))).length<16777216:=by rw[ac2,ad1];lia
 unfold iW;refine bh (kE cs ms td od f ks (some (.lst (P.map Td))) (some (.int (0+(k:Nat)))) (some (.int v)) Yv Yi X5 WM Wt V6) [f9 (n+1) m,.lst (B.map pc)] (by simp[EH,bR,d0,ce]) ?_;refine bh (kE cs ms td od f ks (some (.lst (P.map Td))) (some (.int (0+(k:Nat)))) (some (.int v)) (some (G6 os)) Yi X5 WM Wt V6) [f9 (n+1) m,.lst (B.map pc)] (by simp[EH,b5,l5,bX,Option.getD,o3];rfl) ?_;refine bh (kE cs ms td od f ks (some (.lst (P.map Td))) (some (.int (0+(k:Nat)))) (some (.int v)) (some (G6 os)) (some (G6 hs)) X5 WM Wt V6) [f9 (n+1) m,.lst (B.map pc)] (by simp[EH,b4,l4,bX,Option.getD,s3];rfl) ?_;refine qR (fun o:List Kd=>kE cs ms td od f ks (some (.lst (P.map Td))) (some (.int (0+(k:Nat)))) (some (.int v)) (some (G6 o)) (some (G6 hs)) X5 WM Wt V6) (fun _=> [f9 (n+1) m,.lst (B.map pc)]) (fun o=>o.length<=4/\WW o) ?_ fun o ho=>?_
 .cases q:decide (0+((k:Nat):Int)=f % 4)with
  |false=>exact⟨os,⟨by lia,o2⟩,by simp[EH,q]⟩
  |true=>
   obtain⟨k7,g1,g2⟩:=AF hk kl 7 ⋯ ⋯
   have sl:∀h,nQ (G6 os) none (some 3) h=.ok (G6 (os.take 3)) h:=fun h=>by unfold G6;rw[yc,sG,show(3:Int)=((3:Nat):Int)from rfl,um]
   have ad:∀h,ak (.lst [kd k7]) (G6 (os.take 3)) h=.ok (G6 (k7::os.take 3)) h:=fun h=>by unfold G6;rw[fS _ _ h (by rw[ac2,adU];simp;lia)];rfl
   refine⟨k7::os.take 3,⟨by rw[ac6,adU];lia,fun z hz=>?_⟩,by simp[EH,q,iC,g2,sl,ad]⟩;rcases ac8.mp hz with rfl|hz
   .exact g1
   .exact o2 z (aeg hz)
 refine qR (fun o2:Option (List Kd)=>kE cs ms td od f ks (some (.lst (P.map Td))) (some (.int (0+(k:Nat)))) (some (.int v)) (some (G6 o)) (some (hkv o2)) X5 WM Wt V6) (fun _=> [f9 (n+1) m,.lst (B.map pc)]) (fun o2=>hOl o2/\(k=(f % 4).toNat->o2=none)) ?_ fun Uz hh=>?_
 .cases q:decide (0+((k:Nat):Int)=f % 4)with
  |true=>exact⟨none,⟨trivial,fun _=>rfl⟩,by simp[EH,q,hkv]⟩
  |false=>
   have qf:k≠(f % 4).toNat:=fun z=>(of_decide_eq_false q) ⋯
   cases q2:decide (v / 5 % 2=0)with
   |true=>exact⟨none,⟨trivial,fun _=>rfl⟩,by simp[EH,q,q2,hkv]⟩
   |false=>exact⟨some hs,⟨⟨by lia,s2⟩,fun z=>(qf z).elim⟩,by simp[EH,q,q2,hkv]⟩
 obtain⟨s,c1,c2,c3⟩:=KH (K'+2) ms ml hm o ho.2 v [f9 (n+1) m,.lst (B.map pc)];have kln:∀h,bK [G6 o] h=.ok (.int o.length) h:=fun h=>by unfold G6;rw[BO,ac2]
 have bo:V2 4611686018427387904 (o.length:Int)=true:=dU.mpr ⟨by lia,by have:=ho.1;lia⟩;have lo:((List.range (Int.toNat (o.length:Int))).map fun i=>PV.int (0+(i:Nat))).length<16777216:=by rw[ac2,ad1];have:=ho.1;lia
 have c3':cD bg (ji (F (K'+2))) [some (Te ms),some (G6 o),some (.int v)] ((List.range (Int.toNat (o.length:Int))).map fun i=>PV.int (0+(i:Nat))) [f9 (n+1) m,.lst (B.map pc)]=.ok (s.map sv) [f9 (n+1) m,.lst (B.map pc)]:=by rw[aeo];exact c3
 let A:Ta:=⟨s,P,Uz,ms,td,od⟩
 have nP:P.map (·.n)=(ms.drop 8).take k:=by rw[<- I.n];have:=congrArg (List.map (·.n)) I.nm;rw[adB,adB]at this;exact this
 have hA:Wa 4 A:=⟨c2,by show s.length<=4;rw[c1];exact ho.1,by show P.length<=1000;lia,I.p,hh.1,ml,hm,md,by show(P.map (·.n)).Nodup;rw[nP];exact agH ((afx _ _).trans (agS _ _)) md⟩
 have cx:R7 A=(B.map Vd,cnt Uz,s.map (·.1)):=by show(P.map Z8,_,_)=_;rw[I.nm];rfl
 have c3n:Uk 3=4912:=rfl;have g3n:Gc 3=2070:=rfl;obtain⟨l,n1,a1,a2,a3,a4⟩:=kJ (FD 3 (acY _)) (K'+2) cs A 4 (n+1) m hc hA ⋯ ⋯ (by rw[c3n];lia) ⋯ [.lst (B.map pc)];rw[c3n]at a3;rw[g3n]at a1;have a4':I9 (L (K'+2) .M4) [cv cs,.ref 0,ta A,.int 3] [f9 (n+1) m,.lst (B.map pc)]=.ok (.lst (l.map nd)) [f9 n1 m,.lst (B.map pc)]:=a4;refine bh (kE cs ms td od f ks (some (.lst (P.map Td))) (some (.int (0+(k:Nat)))) (some (.int v)) (some (G6 o)) (some (hkv Uz)) (some (H9 s)) WM Wt V6) [f9 (n+1) m,.lst (B.map pc)] (by simp[EH,iC,kln,bo,lo,bX,Option.getD,c3'];rfl) ?_
 refine bh (kE cs ms td od f ks (some (.lst (P.map Td))) (some (.int (0+(k:Nat)))) (some (.int v)) (some (G6 o)) (some (hkv Uz)) (some (H9 s)) (some (ta A)) Wt V6) [f9 (n+1) m,.lst (B.map pc)] (by
  show Wm 14 _ (nv _ _ _)=_
  have cd:nv [(aay,(ag 13)),(aa4,(ag 8)),(abt,(ag 12)),(abF,(ag 2)),(aaQ,(ag 3)),(acK,(ag 4))] (kE cs ms td od f ks (some (.lst (P.map Td))) (some (.int (0+(k:Nat)))) (some (.int v)) (some (G6 o)) (some (hkv Uz)) (some (H9 s)) WM Wt V6) [f9 (n+1) m,.lst (B.map pc)]=.ok (ta A) [f9 (n+1) m,.lst (B.map pc)]:=by cases Uz<;>rfl
  rw[cd];rfl) ?_
 refine bh (kE cs ms td od f ks (some (.lst (P.map Td))) (some (.int (0+(k:Nat)))) (some (.int v)) (some (G6 o)) (some (hkv Uz)) (some (H9 s)) (some (ta A)) (some (.lst (l.map nd))) V6) [f9 n1 m,.lst (B.map pc)] (by simp[EH,bR,d0,bI,a4']) ?_;refine qR (fun x:List Nd×Int=>kE cs ms td od f ks (some (.lst (P.map Td))) (some (.int (0+(k:Nat)))) (some (.int v)) (some (G6 o)) (some (hkv Uz)) (some (H9 s)) (some (ta A)) (some (.lst (x.1.map nd))) V6) (fun x=> [f9 x.2 m,.lst (B.map pc)]) (fun x=>Rw (R7 A) 3 2073 17 x.1/\n1<=x.2/\x.2<=n1+5) ?_ fun x hx=>?_
 .cases e:Uz with
  |none=>have nn:∀h,aj h (hkv none)=.non:=fun _=>rfl;exact⟨(l,n1),⟨a1.mono (acY _) ⋯ ⋯,afW _,by show n1<=n1+5;lia⟩,by simp[EH,nn]⟩
  |some z=>
   obtain⟨lb,n3,b1,b2,b3,b4⟩:=qH (K'+2) cs hc A 4 hA ⋯ n1 m ⋯ ⋯ ⋯ [.lst (B.map pc)];have nn:bP (hkv (some z))=false:=rfl;have nt:nd (.text [60])=.tup [.str tT,.str [60]]:=by rw[nd]
   have ll:=eS l;have lc:=a1.c;have lb1:=eS lb;have lb2:=b1.c
   have A1:∀h,ak (.lst (l.map nd)) (.lst (lb.map nd)) h=.ok (.lst ((l++lb).map nd)) h:=fun h=>by rw[fS _ _ h (by rw[ac2,ac2];lia),adi]
   have A2:∀h,ak (.lst ((l++lb).map nd)) (.lst [.tup [.str tT,.str [60]]]) h=.ok (.lst ((l++lb++ [Nd.text [60]]).map nd)) h:=fun h=>by rw[fS _ _ h (by rw[ac2,acZ];simp;lia),adi (l₁:=l++lb),afP,nt]
   refine⟨(l++lb++ [.text [60]],n3),⟨(Rw.app (Rw.app a1 (b1.mono (adx 3) (acY _) (acY _))) ((Rw.text (kn:=R7 A) (s:=[60]) (t:=1) ⋯ (acY _) (acY _) ⋯).mono (adx 3) (acY _) (acY _))).mono (acY _) ⋯ ⋯,b2,b3⟩,?_⟩;simp[EH,xi,nn,bR,d0,bI,b4,A1,A2]
 obtain⟨l2,n2⟩:=x;obtain⟨r1,r2,r3⟩:=hx;dsimp only at r1 r2 r3 |-;rw[cx]at r1;obtain⟨l3,u1,u2⟩:=jU (K'+1) (by lia:3<=20) ⋯ ⋯ l2 r1;obtain⟨w1,w2,w3⟩:=u1.q8;have i0:∀(n:Int)(o:PO),b_ (.ref 0) (.int 0) [f9 n m,o]=.ok (.int n) [f9 n m,o]:=fun _ _=>rfl;have si:∀(z:Int)(o:PO) ρ,gA (.int z) (.ref 0) (.int 1) ρ [f9 n2 m,o]=.nx ρ [f9 n2 z,o]:=fun _ _ _=>rfl;refine bh (kE cs ms td od f ks (some (.lst (P.map Td))) (some (.int (0+(k:Nat)))) (some (.int v)) (some (G6 o)) (some (hkv Uz)) (some (H9 s)) (some (ta A)) (some (.lst (l2.map nd))) V6) [f9 n2 (n2+30),.lst (B.map pc)] (by simp[EH,d0,i0,si]) ?_
 refine bh (kE cs ms td od f ks (some (.lst (P.map Td))) (some (.int (0+(k:Nat)))) (some (.int v)) (some (G6 o)) (some (hkv Uz)) (some (H9 s)) (some (ta A)) (some (.lst (l2.map nd))) (some (W7 (cnt Uz)))) [f9 n2 (n2+30),.lst (B.map pc)] (by
  cases Uz with
  |none=>have nn:∀h,aj h (hkv none)=.non:=fun _=>rfl;simp[EH,nn];rfl
  |some z=>
   have nn:bP (hkv (some z))=false:=rfl;have zl:∀h,bK [hkv (some z)] h=.ok (.int z.length) h:=fun h=>by show bK [.lst (z.map kd)] h=_;rw[BO,ac2]
   simp[EH,xi,nn,zl];rfl) ?_
 have hi:8+k<ms.length:=by lia
 have e8:(8:Int)+(0+(k:Nat))=((8+k:Nat):Int):=by lia
 let nm:Y1:=ms.getD (8+k) [];have nsg:sn nm=true:=adn.mp hm _ (jd hi)
 have ix8:∀h,b_ (Te ms) (.int ((8+k:Nat):Int)) h=.ok (.str nm) h:=fun h=>by unfold Te;rw[tW,eJ (v:=PV.str nm) ⋯ (by rw[aeo,adO];show(ms[8+k]?).map PV.str=some (.str (ms.getD (8+k) []));rw[adA,adz hi];rfl)];rfl
 have sit:∀h,lW (H9 s) h=.ok (s.map sv) h:=fun _=>rfl;have lsv:(s.map sv).length<16777216:=by rw[ac2,c1];have:=ho.1;lia
 have c4:∀h,cD bg (ou (F (K'+2))) [] (s.map sv) h=.ok ((s.map (·.1)).map PV.str) h:=fun h=>by
  rw[adB]
  exact wZ sv _ s fun x _=>by have i0:b_ (sv x) (.int 0) h=.ok (.str x.1) h:=rfl;have dr:aj h (sv x)=sv x:=rfl;simp[EH,ou,dr,i0];rfl
 have tpl:∀h,dJ [.lst ((s.map (·.1)).map PV.str)] h=.ok (nms (s.map (·.1))) h:=fun h=>rfl;have il:∀(o:PO)(xs:Y2),cC [o,.lst xs] (.ref 1)=true:=fun _ _=>rfl
 let q:Pc:=⟨nm,s.map (·.1),cnt Uz,M9 l3⟩
 have pq:pc q=.tup [.str tI,.str nm,nms (s.map (·.1)),W7 (cnt Uz),.tup (q8 (M9 l3))]:=rfl
 have ap:bn (.ref 1) [.tup [.str tI,.str nm,nms (s.map (·.1)),W7 (cnt Uz),.tup (q8 (M9 l3))]] [f9 n2 (n2+30),.lst (B.map pc)]=.ok .non [f9 n2 (n2+30),.lst ((B++ [q]).map pc)]:=by rw[He (acc:=B.map pc) rfl _ (by rw[ac2,I.lB];lia),adi];rfl
 refine bh (kE cs ms td od f ks (some (.lst (P.map Td))) (some (.int (0+(k:Nat)))) (some (.int v)) (some (G6 o)) (some (hkv Uz)) (some (H9 s)) (some (ta A)) (some (.lst (l2.map nd))) (some (W7 (cnt Uz)))) [f9 n2 (n2+30),.lst ((B++ [q]).map pc)] (by simp[EH,d1,il,nT,e8,ix8,nJ,sit,lsv,bX,c4,tpl,Az,u2,ap]) ?_
 let p:Pk:=⟨nm,o,Uz⟩
 refine⟨n2,n2+30,B++ [q],P++ [p],s,some (.int (0+(k:Nat))),some (.int v),some (G6 o),some (hkv Uz),some (ta A),some (.lst (l2.map nd)),some (W7 (cnt Uz)),⟨?_,?_,?_,?_,?_,?_⟩,c2,fun E q' e=>?_,by lia,by lia,?_⟩
 .rw[acZ,I.lB];rfl
 .rw[adi,adi,I.nm];show B.map Vd++ [Z8 p]=B.map Vd++ [Vd q];have:Z8 p=Vd q:=by show Pe.mk nm o.length (cnt Uz)=Pe.mk nm (s.map (·.1)).length (cnt Uz);rw[ac2,c1]
  rw[this]
 .intro z hz;rcases adv.mp hz with z1|z1
  .exact I.p z z1
  .cases adl.mp z1;exact⟨nsg,ho.1,ho.2,hh.1⟩
 .intro z hz;rcases adv.mp hz with z1|z1
  .exact I.g z z1
  .cases adl.mp z1
   refine⟨?_,w3,by show I7 (M9 l3)<=2100;rw[lx];have:=u1.c;lia,by show(s.map (·.1)).length<=4;rw[ac2,c1];exact ho.1,by show Wv (Uy (M9 l3))<=17;rw[BI];exact u1.t⟩
   have sn1:Vy (s.map (·.1))=true:=adn.mpr fun x hx=>by obtain⟨y,hy,rfl⟩:=adM.mp hx;exact(c2 y hy).1
   show(sn nm&&(Vy (s.map (·.1))&&(decide ((s.map (·.1)).length<60)&&(wS (M9 l3)&&decide (dS (M9 l3)<=20)))))=true;rw[nsg,sn1,w1,decide_eq_true (show(s.map (·.1)).length<60 by rw[ac2,c1];have:=ho.1;lia),decide_eq_true (show dS (M9 l3)<=20 by lia)];rfl
 .intro z hz;rw[adi];rcases adv.mp hz with z1|z1
  .exact jr _ _ _ _ _ (I.o z z1)
  .cases adl.mp z1
   exact jr _ _ _ _ _ w2
 .rw[adi,I.n,uk _ k [] (by rw[adS];lia)];show _++ [nm]=_++ [(ms.drop 8).getD k []];have:(ms.drop 8).getD k []=nm:=by show _=ms.getD (8+k) [];rw[adA,adA,afQ]
  rw[this]
 .obtain⟨_,e2⟩:=aez e rfl
  cases e2
  exact⟨rfl,fun z=>by show cnt Uz=none;rw[hh.2 z];rfl⟩
 .have pa:=fun h=>Lu P p h ⋯;simp[EH,nT,e8,ix8,iC,xi];have pa':∀h,ak (.lst (P.map Td)) (.lst [.tup [.str nm,G6 o,hkv Uz]]) h=.ok (.lst ((P++ [p]).map Td)) h:=pa;simp[EH,pa']
structure GB(B:List Pc):Prop where
 l1:1<=B.length
 l4:B.length<=4
 g:∀q∈B,wC q=true/\dS q.b<=3/\I7 q.b<=2100/\q.ns.length<=4
 o:∀q∈B,Ue (B.map Vd,q.m,q.ns) q.b=true
 nd:(B.map (·.n)).Nodup
 lm:∀E q,B=E++ [q]->q.m=none/\∃r,cX B 25 q.b .nil=some r/\r.1<=2200
 mm:∀q∈B,∀i,q.m=some i->0<=i/\i<4
theorem GI.mm{k:Nat}{B:List Pc}{P:List Pk}(I:GI ms k B P):∀q∈B,∀i,q.m=some i->0<=i/\i<4:=fun q hq i e=>by
 have:Vd q∈P.map Z8:=by rw[I.nm];exact aeQ hq
 obtain⟨p,hp,e2⟩:=adM.mp this;have e3:p.h.map (fun l=>(l.length:Int))=q.m:=congrArg Pe.h e2;have ho:=(I.p p hp).2.2.2
 cases z:p.h with
 |none=>rw[z]at e3;rw[<- e3]at e;cases e
 |some l=>rw[z]at e3 ho;rw[<- e3]at e;cases e;have:=ho.1;dsimp only;exact⟨by lia,by lia⟩
theorem vT(K:Nat)(hK:17<=K)(cs:List Int)(hc:cs.length<=63)(ms:Ya)(ml:ms.length=12)(hm:Vy ms=true)(md:ms.Nodup)(td od:Bool)(f:Int)(ks:List Kd)(kl:ks.length=9)(hk:WW ks):∀(r k:Nat)(n m:Int)(B:List Pc)(P:List Pk)(x9 Wu Yv Yi X5 WM Wt V6:Option PV),(f % 4).toNat=k+r->0<=n->n+5000 * (r+1)<=1000000->GI ms k B P->
  ∃(n' m':Int)(B':List Pc)(P':List Pk)(s:Vc)(y9 Xu Z0 ZX ZW ZV ZS:Option PV),GI ms ((f % 4).toNat+1) B' P'/\X8 s/\(∀E q,B'=E++ [q]->q.ns=s.map (·.1)/\q.m=none)/\n<=n'/\n'<=n+5000 * (r+1)/\
   bC (N6 9) (iW (F K) (L K)) ((List.range' k (r+1)).map fun i=>PV.int (0+(i:Nat))) (kE cs ms td od f ks (some (.lst (P.map Td))) x9 Wu Yv Yi X5 WM Wt V6) [f9 n m,.lst (B.map pc)]=.nx (kE cs ms td od f ks (some (.lst (P'.map Td))) y9 Xu Z0 ZX (some (H9 s)) ZW ZV ZS) [f9 n' m',.lst (B'.map pc)]
 |0,k,n,m,B,P,x9,Wu,Yv,Yi,X5,WM,Wt,V6,hf,h0,h1,I=>by have tf:=bj f (by decide:(0:Int)<4);obtain⟨n',m',B',P',s,y9,Xu,Z0,ZX,ZW,ZV,ZS,g1,g2,g3,g4,g5,e⟩:=vS K hK cs hc ms ml hm md td od f ks kl hk k ⋯ n m h0 ⋯ B P I Wu Yv Yi X5 WM Wt V6;refine⟨n',m',B',P',s,y9,Xu,Z0,ZX,ZW,ZV,ZS,by rw[hf];exact g1,g2,fun E q z=>⟨(g3 E q z).1,(g3 E q z).2 ⋯⟩,g4,by lia,?_⟩;show bC (N6 9) _ (PV.int (0+(k:Nat))::[]) _ _=_;rw[fJ rfl e,bC]
 |r+1,k,n,m,B,P,x9,Wu,Yv,Yi,X5,WM,Wt,V6,hf,h0,h1,I=>by have tf:=bj f (by decide:(0:Int)<4);obtain⟨n',m',B',P',s,y9,Xu,Z0,ZX,ZW,ZV,ZS,g1,g2,g3,g4,g5,e⟩:=vS K hK cs hc ms ml hm md td od f ks kl hk k ⋯ n m h0 ⋯ B P I Wu Yv Yi X5 WM Wt V6;obtain⟨n2,m2,B2,P2,s2,z9,z10,z11,z12,z14,z15,z16,k1,k2,k3,k4,k5,e2⟩:=vT K hK cs hc ms ml hm md td od f ks kl hk r (k+1) n' m' B' P' y9 Xu Z0 ZX (some (H9 s)) ZW ZV ZS ⋯ ⋯ ⋯ g1;refine⟨n2,m2,B2,P2,s2,z9,z10,z11,z12,z14,z15,z16,k1,k2,k3,by lia,by lia,?_⟩;show bC (N6 9) _ (PV.int (0+(k:Nat))::((List.range' (k+1) (r+1)).map fun i=>PV.int (0+(i:Nat)))) _ _=_;rw[fJ rfl e];exact e2
theorem FQ:∀(B a:List Pc),((a++B).map (·.n)).Nodup->(B.map Vv).foldl (fun acc kv=>rI acc kv.1 kv.2) (a.map Vv)=(a++B).map Vv
 |[],a,_=>by simp
 |q::r,a,h=>by
  rw[ac5,afM]
  have ne:(a.map Vv).any (fun kv=>decide (kv.1=(Vv q).1))=false:=by
   rw[agT];intro x hx z;obtain⟨y,hy,rfl⟩:=adM.mp hx;have e:y.n=q.n:=by have:=of_decide_eq_true z;injection this
   rw[adi,ac5,ae6]at h;exact h.2.2 y.n (aeQ hy) q.n ac4 e
  have pp:rI (a.map Vv) (Vv q).1 (Vv q).2=(a++ [q]).map Vv:=by unfold rI;rw[ne,if_neg ⋯,adi];rfl
  rw[pp,FQ r (a++ [q]) (by rw[ade];exact h),ade];rfl
theorem Bw:∀B:List Pc,nj (B.map fun q=>.tup [.str q.n,.tup (q8 q.b)])=some (B.map Vv)
 |[]=>rfl
 |q::r=>by have ih:=Bw r;show(match pf (.str q.n),nj (r.map fun q=>.tup [.str q.n,.tup (q8 q.b)])with|some kk,some l=>some ((kk,PV.tup (q8 q.b))::l)|_,_=>none)=_;rw[ih];rfl
theorem JY(B:List Pc)(X:Cx):∀l:List Nd,(∀n∈l,okN X n=true/\decide (kT n∈ [tT,tP])=true)->cX B 25 (M9 l) .nil=some (l.length,if l.isEmpty then 0 else 1)
 |[],_=>rfl
 |n::r,h=>by
  have ih:=JY B X r fun z hz=>h z (ac1 _ hz)
  have one:Zn B (cX B 24) .nil n=some (1,1):=by
   obtain⟨_,k⟩:=h n ac4
   cases n with
   |text s=>rfl
   |place p s=>rfl
   |loop x p b s=>exact absurd (show decide (tL∈ [tT,tP])=true from k) ⋯
   |choice p y z=>exact absurd (show decide (tC∈ [tT,tP])=true from k) ⋯
   |use x ps=>exact absurd (show decide (tU∈ [tT,tP])=true from k) ⋯
   |I_ x ps hs b=>exact absurd (show decide (tU∈ [tT,tP])=true from k) ⋯
   |body ps=>exact absurd (show decide (tB∈ [tT,tP])=true from k) ⋯
  have ih':cR (Zn B (cX B 24) .nil) (M9 r)=some (r.length,if r.isEmpty then 0 else 1):=ih;show cR (Zn B (cX B 24) .nil) (M9 (n::r))=_;rw[M9,cR,one,ih'];show some (1+r.length,max 1 (if r.isEmpty=true then 0 else 1))=some (r.length+1,_);have:max 1 (if r.isEmpty=true then 0 else 1)=1:=by cases r<;>rfl
  rw[this,ah6];rfl
def Eu(E:List α)(q q':α):(E++ [q]).set E.length q'=E++ [q']:=by rw[aeZ _ _ (acY _),afj];rfl
def JA(K:Nat)(hK:26<=K)(cs:List Int)(hc:cs.length<=63)(ms:Ya)(ml:ms.length=12)(hm:Vy ms=true)(md:ms.Nodup)(td od:Bool)(n m:Int)(h0:0<=n)(h1:n<=900000):
  ∃(B:List Pc)(s:Vc)(n' m':Int),GB B/\X8 s/\(∀E q,B=E++ [q]->q.ns=s.map (·.1))/\n<=n'/\n'<=n+20001/\L (K+1) .Vh [cv cs,.ref 0,Te ms,.bl td,.bl od] [f9 n m]=.ok (.tup [bk B,H9 s]) [f9 n' m']:=by
 obtain⟨K',rfl⟩:∃K',K=K'+1:=⟨K - 1,by lia⟩
 obtain⟨f,f0,f1,ce⟩:=eW K' cs hc n m h0 ⋯ [];obtain⟨ks,k1,k2,k3⟩:=Gf K' ms ml hm (f / 3);have ck:∀h,fM (F (K'+1) .Ub) [Te ms,.int (f / 3)] h=.ok (G6 ks) h:=fun h=>eF h (by rw[am,am,tO];rfl) k3;have tf:=bj f (by decide:(0:Int)<4);have I0:GI ms 0 [] []:=⟨rfl,rfl,fun p h=>(by cases h),fun p h=>(by cases h),fun p h=>(by cases h),rfl⟩
 obtain⟨n1,m1,B,P,s,y9,Xu,Z0,ZX,ZW,ZV,ZS,I,g2,g3,g4,g5,lp⟩:=vT (K'+1) ⋯ cs hc ms ml hm md td od f ks k1 k2 (f % 4).toNat 0 (n+1) m [] [] none none none none none none none none ⋯ ⋯ ⋯ I0
 have rg:(List.range (1+f % 4).toNat).map (fun i=>PV.int (0+(i:Nat)))=(List.range' 0 ((f % 4).toNat+1)).map fun i=>PV.int (0+(i:Nat)):=by rw[show(1+f % 4).toNat=(f % 4).toNat+1 by lia,List.range_eq_range']
 have bf:V2 4611686018427387904 (1+f % 4)=true:=dU.mpr ⟨by lia,by lia⟩;have lB:=I.lB;have Bn:(B.map (·.n)).Nodup:=by rw[I.n];exact agH ((afx _ _).trans (agS _ _)) md
 obtain⟨E,q,eB⟩:∃E q,B=E++ [q]:=by
  rcases aeb B with rfl|⟨E,q,rfl⟩
  .simp at lB
  .exact⟨E,q,aec⟩
 have qB:q∈B:=by rw[eB];simp
 obtain⟨q1,q2⟩:=g3 E q eB;have d0:∀(n m:Int)(r:Y3),aj (f9 n m::r) (.ref 0)=.ref 0:=fun _ _ _=>rfl;have lm1:gD [] [f9 (n+1) m]=.ok (.ref 1) [f9 (n+1) m,.lst []]:=rfl;have lp':bC (N6 9) (iW (F (K'+1)) (L (K'+1))) ((List.range' 0 ((f % 4).toNat+1)).map fun i=>PV.int (0+(i:Nat))) [some (cv cs),some (.ref 0),some (Te ms),some (.bl td),some (.bl od),some (.int f),some (G6 ks),some (.ref 1),some (.lst []),none,none,none,none,none,none,none,none,none] [f9 (n+1) m,.lst []]=.nx (kE cs ms td od f ks (some (.lst (P.map Td))) y9 Xu Z0 ZX (some (H9 s)) ZW ZV ZS) [f9 n1 m1,.lst (B.map pc)]:=lp;have hB:∀q∈B,Ue (B.map Vd,q.m,q.ns) q.b=true/\I7 q.b<=1000000:=fun z hz=>⟨I.o z hz,by have:=(I.g z hz).2.2.1;lia⟩
 obtain⟨lf,cx1,cx2⟩:=Jv B hB 24 (acY _) q.b q.m q.ns [] .nil 400 (K'+1) (I.o q qB) (by have:=(I.g q qB).2.2.1;lia) (by rw[q2];exact .no _) rfl ⋯ ⋯ ⋯;have cc:=fun r=>iU (fn:=L (K'+1) .J9) [.tup (q8 q.b),pd B,.lst [],.int 1] [] (h:=f9 n1 m1::.E_ (.lst (B.map pc))::Uj 400::r) (i:=2) (by simp[am,wR,PV.pure,bU]) rfl rfl (oZ _) cx2 rfl (oZ _);have l6:(B.map pc).length<16777216:=by rw[ac2,lB];lia
 have cm6:∀h,cD bg (jh (F (K'+1))) [] (B.map pc) h=.ok (B.map fun q=>PV.tup [.str q.n,.tup (q8 q.b)]) h:=fun h=>wZ pc _ B fun x _=>by simp[EH,jh]
 have dP:∀h,mc [.lst (B.map fun q=>PV.tup [.str q.n,.tup (q8 q.b)])] h=.ok (.ref h.length) (h++ [.dct (B.map Vv)]):=fun h=>by show(match nj (B.map fun q=>PV.tup [.str q.n,.tup (q8 q.b)])with|some l=>Res.ok (PV.ref h.length) (h++ [PO.dct (mkD l)])|none=>.bad)=_;rw[Bw];dsimp only;have:mkD (B.map Vv)=B.map Vv:=FQ B [] (by simpa using Bn);rw[this]
 have pp:=wR B;have pp':gC (B.map Vv)=true:=by unfold pd at pp;rw[PV.pure]at pp;exact pp
 have fz3:∀a b c,fzR (.ref 3) [a,b,c,.dct (B.map Vv)]=.ok (pd B) [a,b,c,.E_ (pd B)]:=fun a b c=>by show(match(if gC (B.map Vv)=true then some (PV.dct (B.map Vv),[a,b,c,PO.E_ (.dct (B.map Vv))])else none)with|some (q,h2)=>Res.ok q h2|none=>.bad)=_;rw[if_pos pp'];rfl
 have ixl:∀h,b_ (.lst (B.map pc)) (.int (-1)) h=.ok (pc q) h:=fun h=>by rw[tW,eB,adi,afP,sJ];rfl
 have cqv:cQ 7 (aN (L (K'+1) .J9) (af (c2 b_ aco aao) (af (cFz (cN mc (af (cN T3 (cW [] (gK (ag 7)) bg (jh (F (K'+1))))) ah))) (af abH (af aac (af (ag 17) ah)))))) [some (cv cs),some (.ref 0),some (Te ms),some (.bl td),some (.bl od),some (.int f),some (G6 ks),some (.ref 1),some (.lst (P.map Td)),y9,Xu,Z0,ZX,some (H9 s),ZW,ZV,ZS,some (.ref 2)] [f9 n1 m1,.lst (B.map pc),Uj 400]=.ok .non [f9 n1 m1,.lst (B.map pc),Uj lf]:=by
  have run:aN (L (K'+1) .J9) (af (c2 b_ aco aao) (af (cFz (cN mc (af (cN T3 (cW [] (gK (ag 7)) bg (jh (F (K'+1))))) ah))) (af abH (af aac (af (ag 17) ah))))) [some (cv cs),some (.ref 0),some (Te ms),some (.bl td),some (.bl od),some (.int f),some (G6 ks),some (.ref 1),some (.lst (P.map Td)),y9,Xu,Z0,ZX,some (H9 s),ZW,ZV,ZS,some (.ref 2)] [f9 n1 m1,.E_ (.lst (B.map pc)),Uj 400]=.ok .non [f9 n1 m1,.E_ (.lst (B.map pc)),Uj lf,.E_ (pd B)]:=by have dz:∀(o o2:PO)(xs:Y2) r,aj (o::.E_ (.lst xs)::o2::r) (.ref 1)=.lst xs:=fun _ _ _ _=>rfl;have dl:∀(o o2:PO)(x:Int) r,aj (o::o2::Uj x::r) (.ref 2)=.ref 2:=fun _ _ _ _=>rfl;have cc':I9 (L (K'+1) .J9) [.tup (q8 q.b),pd B,.lst [],.int 1,.ref 2] [f9 n1 m1,.E_ (.lst (B.map pc)),Uj 400,.E_ (pd B)]=.ok .non [f9 n1 m1,.E_ (.lst (B.map pc)),Uj lf,.E_ (pd B)]:=cc [.E_ (pd B)];simp[EH,dz,dl,ixl,l6,bX,cm6,dP,fz3,cc']
  have pu:=jQ B;unfold cQ;show(match(if am (B.map pc)=true then(match aN (L (K'+1) .J9) _ _ [f9 n1 m1,.E_ (.lst (B.map pc)),Uj 400]with|.ok .non h2=>if((List.range 3).all fun k=>k==1||match h2[k]? with|some o=>Cg o|none=>false)=true then Res.ok PV.non ((h2.take 3).set 1 (.lst (B.map pc)))else .bad|_=>.bad)else .bad)with|r=>r)=_;rw[if_pos pu,run];rfl
 have r2:∀x,kj (F (K'+1)) (L (K'+1)) [some (cv cs),some (.ref 0),some (Te ms),some (.bl td),some (.bl od),none,none,none,none,none,none,none,none,none,none,none,none,none] [f9 n m]=x->L (K'+1+1) .Vh [cv cs,.ref 0,Te ms,.bl td,.bl od] [f9 n m]=uj x:=fun x e=>by subst e;rfl
 have lm2:gD [.int 400] [f9 n1 m1,.lst (B.map pc)]=.ok (.ref 2) [f9 n1 m1,.lst (B.map pc),Uj 400]:=rfl;have i2:∀(o o2:PO)(x:Int),b_ (.ref 2) (.int 0) [o,o2,Uj x]=.ok (.int x) [o,o2,Uj x]:=fun _ _ _=>rfl;have d2:∀(o o2:PO)(x:Int),aj [o,o2,Uj x] (.ref 2)=.ref 2:=fun _ _ _=>rfl;have d1:∀(o o2:PO)(xs:Y2),aj [o,.lst xs,o2] (.ref 1)=.ref 1:=fun _ _ _=>rfl;have tp:∀(o o2:PO)(xs:Y2),dJ [.ref 1] [o,.lst xs,o2]=.ok (.tup xs) [o,.lst xs,o2]:=fun _ _ _=>rfl
 have ac3:∀(o o2:PO),b_ (.ref 1) (.int (-1)) [o,.lst (B.map pc),o2]=.ok (pc q) [o,.lst (B.map pc),o2]:=fun o o2=>by show(match S9 (B.map pc) (-1)with|some v=>Res.ok (aj _ v) _|none=>.bad)=_;rw[eB,adi,afP,sJ];rfl
 have fin:∀(B':List Pc)(x:Int),uj (.rt (.tup [.tup (B'.map pc),H9 s]) [f9 n1 m1,.lst (B'.map pc),Uj x])=.ok (.tup [bk B',H9 s]) [f9 n1 m1]:=fun B' x=>by
  have pv:(PV.tup [.tup (B'.map pc),H9 s]).pure=true:=by rw[PV.pure,am,am,PV.pure,jQ,hZ];rfl
  show kW 1 _ _=_;unfold kW;rw[bF _ pv];rfl
 have wq:=(I.g q qB).1;unfold wC at wq;simp only[acX,decide_eq_true_eq]at wq;obtain⟨wq1,wq2,wq3,wq4,wq5⟩:=wq;have g20:=I.g q qB
 by_cases neg:lf<0
 .have z1:decide (lf<0)=true:=decide_eq_true neg;have all:=BJ (B.map Vd,q.m,q.ns) q.b wq4 (I.o q qB)
  have flt:∀h,cD (nF (F (K'+1))) (or (F (K'+1))) [] (q8 q.b) h=.ok (((Uy q.b).filter fun x=>decide (kT x∈ [tT,tP])).map nd) h:=fun h=>by
   rw[oW];refine AL nd (fun x=>decide (kT x∈ [tT,tP])) nd (Uy q.b) (fun x _=>?_) fun x _=>?_
   .have it:=Ml (ls:=[tT,tP]) (lK (Kc x)) ⋯ h;simp only[ac5,adT]at it;simp[EH,nF,it]
   .simp[EH,or]
  have R0:Rw (B.map Vd,q.m,q.ns) (dS q.b) (I7 q.b) 17 (Uy q.b):=⟨all,by rw[Cq];exact acY _,g20.2.2.2.2⟩
  have R1:=R0.filter fun x=>decide (kT x∈ [tT,tP])
  have R2:Rw ([],none,q.ns) 0 (I7 q.b) 17 ((Uy q.b).filter fun x=>decide (kT x∈ [tT,tP])):=⟨fun x hx=>by
   obtain⟨a,b⟩:=aiq.mp hx;obtain⟨a1,a2,a3⟩:=all x a
   cases x with
   |text s=>exact⟨a1,rfl,acY _⟩
   |place p s=>exact⟨a1,by rw[okN]at a2 |-;exact a2,acY _⟩
   |loop x p b' s=>exact absurd (show decide (tL∈ [tT,tP])=true from b) ⋯
   |choice p y z=>exact absurd (show decide (tC∈ [tT,tP])=true from b) ⋯
   |use x ps=>exact absurd (show decide (tU∈ [tT,tP])=true from b) ⋯
   |I_ x ps hs b'=>exact absurd (show decide (tU∈ [tT,tP])=true from b) ⋯
   |body ps=>exact absurd (show decide (tB∈ [tT,tP])=true from b) ⋯,R1.c,R1.t⟩
  obtain⟨l',u1,u2⟩:=jU K' (by lia:0<=20) (by have:=g20.2.2.1;lia) ⋯ _ R2;obtain⟨w1,w2,w3⟩:=u1.q8
  let q':Pc:=⟨q.n,q.ns,q.m,M9 l'⟩
  have lnd:(q8 q.b).length<16777216:=by have:=sk q.b;have:=g20.2.2.1;lia
  have sl4:∀h,nQ (pc q) none (some 4) h=.ok (.tup [.str tI,.str q.n,nms q.ns,W7 q.m]) h:=fun h=>by unfold pc;rw[show(4:Int)=((4:Nat):Int)from rfl,KD];rfl
  have ad5:∀h,ak (.tup [.str tI,.str q.n,nms q.ns,W7 q.m]) (.tup [.tup (q8 (M9 l'))]) h=.ok (pc q') h:=fun h=>xL _ _ h (show 4+1<=sizeLine by decide)
  have si:∀(o o2:PO) ρ,gA (pc q') (.ref 1) (.int (-1)) ρ [o,.lst (B.map pc),o2]=.nx ρ [o,.lst ((E++ [q']).map pc),o2]:=fun o o2 ρ=>by
   have e2:iZ [o,.lst (B.map pc),o2] (.ref 1)=some (1,B.map pc):=rfl
   have e3:WX (B.map pc).length (-1)=some E.length:=by
    unfold WX;rw[if_neg ⋯,ac2,eB,acZ,adF,if_pos ⋯]
    congr 1;lia
   unfold gA;rw[e2];dsimp only;rw[e3];dsimp only;rw[eB,adi,afP,show E.length=(E.map pc).length by rw[ac2],Eu,adi];rfl
  have pe:(E++ [q']).map Vd=B.map Vd:=by rw[eB,adi,adi];rfl
  have cl:∀x∈l',okN ([],none,q.ns) x=true/\decide (kT x∈ [tT,tP])=true:=fun x hx=>by
   obtain⟨a1,a2,a3⟩:=u1.w x hx;refine⟨a2,?_⟩
   cases x with
   |text s=>rfl
   |place p s=>rfl
   |loop x p b' s=>rw[dN]at a3;lia
   |choice p y z=>rw[dN]at a3;lia
   |I_ x ps hs b'=>rw[dN]at a3;lia
   |use x ps=>rw[okN,acX]at a2;cases a2.2
   |body ps=>rw[okN,acX]at a2;cases a2.2
  refine⟨E++ [q'],s,n1,m1,⟨by simp,?_,?_,?_,?_,?_,?_⟩,g2,fun E' z e=>?_,by lia,by lia,?_⟩
  .have:=lB;rw[eB]at this;rw[acZ]at this |-;simp only[adF]at this |-;lia
  .intro z hz;rcases adv.mp hz with h|h
   .have:=I.g z (by rw[eB];exact ad7 _ h);exact⟨this.1,this.2.1,this.2.2.1,this.2.2.2.1⟩
   .cases adl.mp h
    refine⟨?_,by show dS (M9 l')<=3;lia,by show I7 (M9 l')<=2100;rw[lx];have:=u1.c;have:=g20.2.2.1;lia,g20.2.2.2.1⟩;show(sn q.n&&(Vy q.ns&&(decide (q.ns.length<60)&&(wS (M9 l')&&decide (dS (M9 l')<=20)))))=true;rw[wq1,wq2,w1,decide_eq_true wq3,decide_eq_true (show dS (M9 l')<=20 by lia)];rfl
  .intro z hz;rw[pe];rcases adv.mp hz with h|h
   .exact I.o z (by rw[eB];exact ad7 _ h)
   .cases adl.mp h
    show Ue (B.map Vd,q.m,q.ns) (M9 l')=true;rw[q2];exact jr [] (B.map Vd) none q.ns _ w2
  .have:=Bn;rw[eB]at this;rw[adi]at this |-;exact this
  .intro E' z e;obtain⟨_,e2⟩:=aez e rfl
   cases e2
   refine⟨q2,_,JY (E++ [q']) ([],none,q.ns) l' cl,?_⟩;have a:=eS l';have b:=u1.c;have c:=g20.2.2.1;show l'.length<=2200;lia
  .intro z hz;rcases adv.mp hz with h|h
   .exact I.mm z (by rw[eB];exact ad7 _ h)
   .cases adl.mp h;exact I.mm q qB
  .obtain⟨_,e2⟩:=aez e rfl
   cases e2
   exact q1
  .rw[r2 _ rfl];rw[show uj (kj (F (K'+1)) (L (K'+1)) [some (cv cs),some (.ref 0),some (Te ms),some (.bl td),some (.bl od),none,none,none,none,none,none,none,none,none,none,none,none,none] [f9 n m])=uj (.rt (.tup [.tup ((E++ [q']).map pc),H9 s]) [f9 n1 m1,.lst ((E++ [q']).map pc),Uj lf])from congrArg uj (by simp[EH,kj,bR,d0,ce,nT,ck,lm1,bf,rg,lp',kE,lm2,cqv,d1,d2,i2,z1,ac3,sl4,lnd,bX,flt,u2,ad5,si,tp,nJ])];exact fin _ _
 .have z1:decide (lf<0)=false:=decide_eq_false neg;refine⟨B,s,n1,m1,⟨by lia,by lia,fun z hz=>by have:=I.g z hz;exact⟨this.1,this.2.1,this.2.2.1,this.2.2.2.1⟩,I.o,Bn,fun E' z e=>?_,I.mm⟩,g2,fun E' z e=>(g3 E' z e).1,by lia,by lia,?_⟩
  .rw[eB]at e;obtain⟨_,e2⟩:=aez e rfl
   cases e2
   obtain⟨r,r1,r3⟩:=cx1.2.2 ⋯;exact⟨q2,r,r1,by lia⟩
  .rw[r2 _ rfl];rw[show uj (kj (F (K'+1)) (L (K'+1)) [some (cv cs),some (.ref 0),some (Te ms),some (.bl td),some (.bl od),none,none,none,none,none,none,none,none,none,none,none,none,none] [f9 n m])=uj (.rt (.tup [.tup (B.map pc),H9 s]) [f9 n1 m1,.lst (B.map pc),Uj lf])from congrArg uj (by simp[EH,kj,bR,d0,ce,nT,ck,lm1,bf,rg,lp',kE,lm2,cqv,d1,d2,i2,z1,tp,nJ])];exact fin _ _
end K7
namespace K7.R
def vp{t:Y1}(h:(32:Nat)∈t\/((40:Nat)∈t/\(98:Nat)∈t)):iJ eA t=none:=by
 have key:∀kv∈eA,(32:Nat)∉kv.1/\¬ ((40:Nat)∈kv.1/\(98:Nat)∈kv.1):=by decide
 unfold iJ;rw[af2,afR];intro kv hk z;have e:kv.1=t:=by simpa using z
 obtain⟨k1,k2⟩:=key kv hk;rw[e]at k1 k2;exact h.elim k1 k2
variable{T a t x y:Y1}{ds:List Nd}{n:Nat}{ns p:Ya}{ps:List Ya}{st v5:St}
def oR(w t:Y1):w.isPrefixOf (w++t)=true:=adG.mpr ⟨t,rfl⟩
def kD(o:bO p):bY (aA p)=some p:=by
 have sp:bA 46 (aA p)=p:=hU o.1 fun w hw z=>by have:=ig (o.2.2 w hw) 46 z;lia
 unfold bY;rw[sp,if_pos];rw[ac7,decide_eq_true_eq,adn];exact⟨o.2.1,o.2.2⟩
def jS(o:bO p){c:Nat}(h1:c≠46)(h2:¬ (97<=c/\c<=122)):c∉aA p:=fun z=>(oS o.2.2 c z).elim h1 h2
def Ic(o:bO p):aA p≠ []:=fun z=>by
 have:=kD o;rw[z,show bY []=none from rfl]at this
 cases this
def Af(o:∀p∈ps,bO p):fx (aO ps)=.tup (ps.map aR):=by
 have l:aU (aO ps)=ps.map aA:=qX fun l hl=>by obtain⟨p,hp,rfl⟩:=adM.mp hl;exact⟨jS (o p hp) ⋯ ⋯,Ic (o p hp)⟩
 unfold fx iA;rw[l,if_neg,adB]
 .exact congrArg PV.tup (afe fun p hp=>by show bB (bY (aA p))=_;rw[kD (o p hp)])
 .rw[ah7];intro z;obtain⟨p,hp,e⟩:=List.any_eq_true.mp z;rw[show((fun p=>(bY p).isNone)∘aA) p=(bY (aA p)).isNone from rfl,kD (o p hp)]at e
  cases e
def Iy{w:Y1}(h:aM w=true):w≠ []:=fun z=>by rw[z]at h;cases h
def Bs(o:∀w∈ns,aM w=true):rH (aI cs ns)=some ns:=by
 have l:aU (aI cs ns)=ns:=qX fun l hl=>⟨fun z=>by have:=ig (o l hl) 44 z;lia,Iy (o l hl)⟩
 unfold rH;rw[l,if_pos (adn.mpr o)]
def AR{b r:Y1}(h1:40∉a)(h2:41∉a)(h3:41∉b):brk (a++ [40]++b++ [41]++r)=some (a,b,r):=by
 have e1:aE [40] (a++ [40]++b++ [41]++r) 0=some a.length:=by rw[show a++ [40]++b++ [41]++r=a++ [40]++(b++ [41]++r) by simp];exact ka h1
 have e2:aE [41] (a++ [40]++b++ [41]++r) 0=some (a++ [40]++b).length:=ka (y:=[]) (fun z=>by
  rcases adv.mp z with z|z
  .rcases adv.mp z with z|z
   .exact h2 z
   .simp at z
  .exact h3 z)
 unfold brk;rw[e1,e2];dsimp only;have l:(a++ [40]++b).length=a.length+1+b.length:=by simp;lia
 rw[l,if_pos ⋯];have s1:(a++ [40]++b++ [41]++r).take a.length=a:=by rw[show a++ [40]++b++ [41]++r=a++([40]++b++ [41]++r) by simp];exact afh
 have s2:(a++ [40]++b++ [41]++r).drop (a.length+1)=b++ [41]++r:=by rw[show a++ [40]++b++ [41]++r=(a++ [40])++(b++ [41]++r) by simp];exact agv (by simp)
 have s3:(a++ [40]++b++ [41]++r).drop (a.length+1+b.length+1)=r:=agv (by simp;lia);rw[s1,s2,s3,show a.length+1+b.length - (a.length+1)=b.length by lia,ade,afh]
def mL{w:Y1}(h:aM w=true){c:Nat}(q:¬ (97<=c/\c<=122)):c∉w:=fun z=>q (ig h c z)
def Jq{n:Y1}(hn:aM n=true)(o:bO p):eZ (ar (.loop n p))=(m8.loop n p).pv:=by
 show eZ (mX++n++Wg++aA p)=_;have a:mX++n++Wg++aA p=mX++(n++Wg++aA p):=by simp
 unfold eZ;rw[a,vp (.inl (by simp)),if_pos (oR _ _),show(mX++(n++Wg++aA p)).drop 4=n++Wg++aA p from rfl];unfold xq;rw[show aE Wg (n++Wg++aA p) 0=some n.length from ka (mL hn ⋯)];dsimp only;have s1:(n++Wg++aA p).take n.length=n:=by rw[ade];exact afh
 have s2:(n++Wg++aA p).drop (n.length+4)=aA p:=agv (by simp);rw[s1,s2,if_pos hn,kD o];rfl
def Jr(o:bO p):eZ (ar (.cond p))=(m8.cond p).pv:=by show eZ (X6++aA p)=_;unfold eZ;rw[vp (.inl (by simp)),if_neg (by simp),if_pos (oR _ _),show(X6++aA p).drop 3=aA p from rfl];unfold ifV;rw[kD o];rfl
def va(o:∀p∈ps,bO p):(41:Nat)∉aO ps:=fun z=>by
 rcases jc z with z|⟨w,hw,z⟩
 .simp at z
 .obtain⟨p,hp,rfl⟩:=adM.mp hw;exact jS (o p hp) ⋯ ⋯ z
def Ds(o:∀w∈ns,aM w=true):(41:Nat)∉aI cs ns:=fun z=>by
 rcases jc z with z|⟨w,hw,z⟩
 .simp at z
 .exact mL (o w hw) ⋯ z
theorem ME{ns:Option Ya}(o:(m8.use a ps ns).Ok):eZ (ar (.use a ps ns))=(m8.use a ps ns).pv:=by
 obtain⟨o1,o2,o3⟩:=o;have b:∀r,brk (a++ [40]++aO ps++ [41]++r)=some (a,aO ps,r):=fun r=>AR (mL o1 ⋯) (mL o1 ⋯) (va o2)
 have u:∀r,eZ (jx++(a++ [40]++aO ps++ [41]++r))=sM (a++ [40]++aO ps++ [41]++r):=fun r=>by unfold eZ;rw[vp (.inl (by simp)),if_neg (by simp),if_neg (by simp),if_pos (oR _ _)];rfl
 cases ns with
 |none=>
  have e:ar (.use a ps none)=jx++(a++ [40]++aO ps++ [41]++[]):=by simp[ar]
  rw[e,u];unfold sM;rw[b];dsimp only;rw[if_pos o1,Af o2,if_neg (by simp[bP]),if_pos rfl];rfl
 |some l=>
  have e:ar (.use a ps (some l))=jx++(a++ [40]++aO ps++ [41]++(lH++aI cs l)):=by simp[ar]
  rw[e,u];unfold sM;rw[b];dsimp only;rw[if_pos o1,Af o2,if_neg (by simp[bP]),if_neg (by simp),if_pos (List.take_left' (by rfl)),show(lH++aI cs l).drop 6=aI cs l from rfl,Bs (o3 l rfl)];rfl
def Js(o:∀p∈ps,bO p):eZ (ar (.body ps))=(m8.body ps).pv:=by
 have e:ar (.body ps)=[98,111,100,121]++[40]++aO ps++ [41]++[]:=by simp[ar]
 have b:brk ([98,111,100,121]++[40]++aO ps++ [41]++[])=some ([98,111,100,121],aO ps,[]):=AR ⋯ ⋯ (va o);rw[e];unfold eZ;rw[vp (.inr (by simp)),if_neg (by simp),if_neg (by simp),if_neg (by simp),if_pos (by rw[show[98,111,100,121]++[40]++aO ps++ [41]++[]=jy++(aO ps++ [41]) by simp];exact oR _ _)];unfold pN;rw[b];dsimp only;rw[if_pos rfl,Af o,if_neg (by simp[bP])];rfl
theorem GO{m:Option Nat}(o:(m8.piece a ns m).Ok):eZ (ar (.piece a ns m))=(m8.piece a ns m).pv:=by
 obtain⟨o1,o2,o3⟩:=o;have b:∀r,brk (a++ [40]++aI cs ns++ [41]++r)=some (a,aI cs ns,r):=fun r=>AR (mL o1 ⋯) (mL o1 ⋯) (Ds o2);have e:ar (.piece a ns m)=fU++(a++ [40]++aI cs ns++ [41]++hS m):=by simp[ar]
 rw[e];unfold eZ;rw[vp (.inl (by simp)),if_neg (by simp),if_neg (by simp),if_neg (by simp),if_neg (by simp),if_pos (oR _ _)];show jC (a++ [40]++aI cs ns++ [41]++hS m)=_;unfold jC;rw[b];dsimp only;rw[if_pos o1,Bs o2];dsimp only
 cases m with
 |none=>rw[show hS none= []from rfl,if_pos rfl];rfl
 |some d=>
  have hd:=o3 d rfl;rw[if_neg (by simp[hS])]
  match d,hd with
  |0,_=>rw[if_pos ⋯];rfl
  |1,_=>rw[if_pos ⋯];rfl
  |2,_=>rw[if_pos ⋯];rfl
  |3,_=>rw[if_pos ⋯];rfl
def Kp{w:Y1}(o:bO p)(hw:w∈bu):eZ (aA p++V_++w)=(m8.place p w).pv:=by
 have w32:(32:Nat)∉w:=(by decide:∀w∈bu,(32:Nat)∉w) w hw;have w40:(40:Nat)∉w:=(by decide:∀w∈bu,(40:Nat)∉w) w hw;have p32:=jS o (c:=32) ⋯ ⋯;have p40:=jS o (c:=40) ⋯ ⋯
 have sp:bA 32 (aA p++V_++w)=[aA p,[97,115],w]:=by
  have:aA p++V_++w=aI [32] [aA p,[97,115],w]:=by simp[aI]
  rw[this];refine hU (by simp) fun x hx=>?_;simp only[ac8,adH,or_false]at hx;rcases hx with rfl|rfl|rfl
  .exact p32
  .decide
  .exact w32
 have ne:∀k:Y1,bY k=none->aA p≠k:=fun k hk z=>by rw[<- z,kD o]at hk;cases hk
 unfold eZ
 rw[vp (.inl (by simp)),if_neg (by rw[show mX=fN++ [32]from rfl,sj sp (ne _ ⋯) ⋯];decide),if_neg (by rw[show X6=T4++ [32]from rfl,sj sp (ne _ ⋯) ⋯];decide),if_neg (by rw[show jx=bV++ [32]from rfl,sj sp (ne _ ⋯) ⋯];decide),
  if_neg (fun z=>by
   have:=Bx z (c:=40) ⋯;simp only[adv]at this;rcases this with(h|h)|h
   .exact p40 h
   .simp at h
   .exact w40 h),if_neg (by rw[show fU=cf++ [32]from rfl,sj sp (ne _ ⋯) ⋯];decide)]
 unfold jB;rw[show aE V_ (aA p++V_++w) 0=some (aA p).length from ka p32];dsimp only;have s1:(aA p++V_++w).take (aA p).length=aA p:=by rw[ade];exact afh
 have s2:(aA p++V_++w).drop ((aA p).length+4)=w:=agv (by simp);rw[s1,s2,kD o];dsimp only;rw[if_pos hw];rfl
def GN{w:Y1}(o:bO p)(hw:w∈bu):eZ (ar (.place p w))=(m8.place p w).pv:=by
 by_cases q:w=dq
 .subst q;rw[show ar (.place p dq)=aA p by simp[ar]];exact vK o
 .rw[show ar (.place p w)=aA p++V_++w by simp[ar,q]];exact Kp o hw
structure Go(x:Y1)(c:Nat)(st v5:St):Prop where
 y:st.n+c<=200->∀r p,∃p',run (fH (x++r)) p st=run (fH r) p' v5
 n:st.n<=200->200<st.n+c->∀r p,∃q,run (fH (x++r)) p st=.inl q
 c:v5.n=st.n+c
def Go.nil(st:St):Go [] 0 st st:=⟨fun _ r p=>⟨p,rfl⟩,fun a b=>by lia,rfl⟩
def Go.app{c d:Nat}{s1 s2:St}(a:Go x c st s1)(b:Go y d s1 s2):Go (x++y) (c+d) st s2:=by
 have ac:=a.c;refine⟨fun h r p=>?_,fun h1 h2 r p=>?_,by rw[b.c,ac];lia⟩
 .obtain⟨p1,e1⟩:=a.y ⋯ (y++r) p;obtain⟨p2,e2⟩:=b.y ⋯ r p1;exact⟨p2,by rw[ade,e1,e2]⟩
 .by_cases q:st.n+c<=200
  .obtain⟨p1,e1⟩:=a.y q (y++r) p;obtain⟨z,e2⟩:=b.n ⋯ ⋯ r p1;exact⟨z,by rw[ade,e1,e2]⟩
  .obtain⟨z,e⟩:=a.n h1 ⋯ (y++r) p;exact⟨z,by rw[ade];exact e⟩
def Go.as{c d:Nat}{s1:St}(a:Go x c st s1)(e:x=y)(f:c=d):Go y d st s1:=by subst e f;exact a
def IZ{s:Seg}(e:∀r,fH (x++r)=s::fH r)(h:gj s st=some v5)(n:v5.n=st.n):Go x 0 st v5:=
 ⟨fun _ r p=>⟨p+s.text.length,by rw[e,run,h]⟩,fun a b=>by lia,n⟩
def OK{s:Seg}(e:∀r,fH (x++r)=s::fH r)(h:st.n<200->gj s st=some v5)(k:st.n=200->gj s st=none)(n:v5.n=st.n+1):Go x 1 st v5:=
 ⟨fun q r p=>⟨p+s.text.length,by rw[e,run,h ⋯]⟩,fun a b r p=>⟨p,by rw[e,run,k ⋯]⟩,n⟩
def wA(h:125∉t)(r:Y1):fH (m7 t++r)=.cm t::fH r:=by rw[show m7 t++r=123::t++125::r by simp[m7]];exact yf h
def oJ{c:m8}(h:eZ t=c.pv)(st:St):gj (.cm t) st=cg c st:=sP (Jw h) st
def Ac(c:Nat):∃s:Seg,(∀r,fH (gF c++r)=s::fH r)/\∀st:St,st.fs≠ []->gj s st=O6 c st:=by
 by_cases h:c=123
 .subst h;exact⟨.cm [40],wA (t:=[40]) ⋯,fun st _=>by rw[oJ (c:=.WT) rfl];rfl⟩
 .by_cases k:c=125
  .subst k;exact⟨.cm [41],wA (t:=[41]) ⋯,fun st _=>by rw[oJ (c:=.cls) rfl];rfl⟩
  .refine⟨.sg c,fun r=>?_,fun st q=>if_neg q⟩;rw[show gF c= [c] by unfold gF;rw[if_neg h,if_neg k]];exact pW h k
theorem uh(c:Nat)(t:Y1):esc (c::t)=gF c++esc t:=rfl
def LV(l:List Nd)(u:Y1):ij (l++ [.txt u])=some u:=by unfold ij;rw[ae8]
theorem BW{ps:List Nd}{n:Nat}{r:List o7}{c:m8}{yes:Option (List Nd)}:∀(t:Y1)(l:List Nd)(u:Y1),Go (esc t) 0 ⟨ps,⟨c,l++ [.txt u],yes,none⟩::r,n⟩ ⟨ps,⟨c,l++ [.txt (u++t)],yes,none⟩::r,n⟩
 |[],l,u=>by rw[adD];exact Go.nil _
 |d::t,l,u=>by
  obtain⟨s,e,h⟩:=Ac d
  have a:Go (gF d) 0 ⟨ps,⟨c,l++ [.txt u],yes,none⟩::r,n⟩ ⟨ps,⟨c,l++ [.txt (u++ [d])],yes,none⟩::r,n⟩:=by refine IZ e ?_ rfl;rw[h _ (by simp)];unfold O6;dsimp only;rw[LV];dsimp only;rw[afB]
  rw[uh];have b:=BW (ps:=ps) (n:=n) (r:=r) (c:=c) (yes:=yes) t l (u++ [d]);rw[ade]at b;exact a.app b
theorem IY{ps:List Nd}{r:List o7}{c:m8}{yes:Option (List Nd)}{l:List Nd}(hl:ij l=none)(hr:r.length<8):∀{t:Y1},t≠ []->Go (esc t) 1 ⟨ps,⟨c,l,yes,none⟩::r,n⟩ ⟨ps,⟨c,l++ [.txt t],yes,none⟩::r,n+1⟩
 |[],h=>absurd rfl h
 |d::t,_=>by
  obtain⟨s,e,h⟩:=Ac d
  have st:∀q:Prop,q=(n<200)->O6 d ⟨ps,⟨c,l,yes,none⟩::r,n⟩=open Classical in if q then some ⟨ps,⟨c,l++ [.txt [d]],yes,none⟩::r,n+1⟩else none:=fun q eq=>by
   subst eq;unfold O6;dsimp only;rw[hl];dsimp only
   by_cases z:n<200
   .rw[if_pos ⟨z,by simp;lia⟩,if_pos z]
   .rw[if_neg (fun y=>z y.1),if_neg z]
  have a:Go (gF d) 1 ⟨ps,⟨c,l,yes,none⟩::r,n⟩ ⟨ps,⟨c,l++ [.txt [d]],yes,none⟩::r,n+1⟩:=by
   refine OK e (fun z=>?_) (fun z=>?_) rfl
   .rw[h _ (by simp),st _ rfl,if_pos z]
   .rw[h _ (by simp),st _ rfl,if_neg (by show¬ n<200;rw[show n=200 from z];lia)]
  rw[uh];exact a.app (BW t l [d])
theorem Kg{ps:List Nd}{n:Nat}{r:List o7}{c:m8}{yes:Option (List Nd)}{l:List Nd}:∀(t b:Y1),Go (esc t) 0 ⟨ps,⟨c,l,yes,some b⟩::r,n⟩ ⟨ps,⟨c,l,yes,some (b++t)⟩::r,n⟩
 |[],b=>by rw[adD];exact Go.nil _
 |d::t,b=>by obtain⟨s,e,h⟩:=Ac d;have a:Go (gF d) 0 ⟨ps,⟨c,l,yes,some b⟩::r,n⟩ ⟨ps,⟨c,l,yes,some (b++ [d])⟩::r,n⟩:=IZ e (by rw[h _ (by simp)];rfl) rfl;rw[uh];have b:=Kg (ps:=ps) (n:=n) (r:=r) (c:=c) (yes:=yes) (l:=l) t (b++ [d]);rw[ade]at b;exact a.app b
noncomputable def Nd.Vj:Nd->Bool
 |.txt _=>true
 |_=>false
def Rd(k:Nat)(x:Y1)(e:Nat)(d:Nd):Prop:=∀(ps:List Nd)(c:m8)(l:List Nd)(yes:Option (List Nd))(r:List o7)(n:Nat),(d.Vj=true->ij l=none)->r.length+k<8->Go x e ⟨ps,⟨c,l,yes,none⟩::r,n⟩ ⟨ps,⟨c,l++ [d],yes,none⟩::r,n+e⟩
noncomputable def fT:List Nd->Bool
 |d::_=>d.Vj
 |[]=>false
def Yr(k:Nat)(x:Y1)(e:Nat)(ds:List Nd):Prop:=∀(ps:List Nd)(c:m8)(l:List Nd)(yes:Option (List Nd))(r:List o7)(n:Nat),(fT ds=true->ij l=none)->r.length+k<8->Go x e ⟨ps,⟨c,l,yes,none⟩::r,n⟩ ⟨ps,⟨c,l++ds,yes,none⟩::r,n+e⟩
theorem Yr.nil(k:Nat):Yr k [] 0 []:=fun ps c l yes r n _ _=>by rw[adD];exact Go.nil _
theorem LW(l:List Nd){d:Nd}(h:d.Vj=false):ij (l++ [d])=none:=by
 unfold ij;rw[ae8]
 cases d with
 |txt t=>cases h
 |nd v s=>rfl
def Yr.cons{k j x y:_}{e f:Nat}{d:Nd}{ds:List Nd}(a:Rd k x e d)(b:Yr j y f ds)(h:(d.Vj&&fT ds)=false):Yr (max k j) (x++y) (e+f) (d::ds):=fun ps c l yes r n q z=>by
 have m1:=ad4 k j;have m2:=adX k j;have A:=a ps c l yes r n q ⋯
 have B:=b ps c (l++ [d]) yes r (n+e) (fun t=>by rw[t,aeA]at h;exact LW l h) ⋯
 rw[ade]at B;have:=A.app B;rw[Nat.add_assoc]at this;exact this
def pU{c:m8}{f:o7}{r:List o7}{ps:List Nd}(fw:c.few=true)(hr:r.length<8)(hb:f.bt=none)(h:mY c f r ⟨ps,f::r,n⟩=if f.bt.isNone/\n<200/\(f::r).length<9 then some v5 else none)(k:cg c ⟨ps,f::r,n⟩=if c.few=true then mY c f r ⟨ps,f::r,n⟩else none):(n<200->cg c ⟨ps,f::r,n⟩=some v5)/\(n=200->cg c ⟨ps,f::r,n⟩=none):=by rw[k,if_pos fw,h];refine⟨fun z=>if_pos ⟨by rw[hb];rfl,z,by simp;lia⟩,fun z=>if_neg fun y=>?_⟩;have:=y.2.1;lia
def mN{c:m8}(v:eZ T=c.pv)(h:125∉T)(s:(st.n<200->cg c st=some v5)/\(st.n=200->cg c st=none))(n:v5.n=st.n+1):Go (m7 T) 1 st v5:=
 OK (wA h) (fun z=>by rw[oJ v];exact s.1 z) (fun z=>by rw[oJ v];exact s.2 z) n
def pC{c:m8}(v:eZ T=c.pv)(h:125∉T)(s:cg c st=some v5)(n:v5.n=st.n):Go (m7 T) 0 st v5:=
 IZ (wA h) (by rw[oJ v];exact s) n
def vH{c:m8}(o:c.Ok):125∉ar c:=fun z=>by have:=DN o 125 z;lia
theorem vF:∀{c:m8},c.Ok->eZ (ar c)=c.pv
 |.WT,_=>rfl
 |.cls,_=>rfl
 |.fin,_=>rfl
 |.els,_=>rfl
 |.Ul,_=>rfl
 |.place _ _,o=>GN o.1 o.2
 |.loop _ _,o=>Jq o.1 o.2
 |.cond _,o=>Jr o
 |.use _ _ _,o=>ME o
 |.body _,o=>Js o
 |.piece _ _ _,o=>GO o
def Lo(h:t≠ []):Rd 0 (esc t) 1 (.txt t):=fun ps c l yes r n q z=>IY (q rfl) ⋯ h
def ND{w:Y1}(v:eZ T=(m8.place p w).pv)(h:125∉T):Rd 0 (m7 T) 1 (.nd (m8.place p w).pv (m7 (ar (.place p w)))):=fun ps c l yes r n q z=>mN v h (pU (f:=⟨c,l,yes,none⟩) rfl ⋯ rfl rfl rfl) rfl
def HW(o:(m8.body ps).Ok)(l3:ps.length<=3):Rd 0 (m7 (ar (.body ps))) 1 (.nd (m8.body ps).pv (m7 (ar (.body ps)))):=fun qs c l yes r n q z=>mN (vF o) (vH o) (pU (f:=⟨c,l,yes,none⟩) (decide_eq_true l3) ⋯ rfl rfl rfl) rfl
def Lm(o:(m8.use a ps none).Ok)(l4:ps.length<=4):Rd 0 (m7 (ar (.use a ps none))) 1 (.nd (.tup (.str bV::(m8.use a ps none).args++ [.non])) (m7 (ar (.use a ps none)))):=fun qs c l yes r n q z=>mN (vF o) (vH o) (pU (f:=⟨c,l,yes,none⟩) (by show(decide (ps.length<=4)&&true)=true;rw[decide_eq_true l4];rfl) ⋯ rfl rfl rfl) rfl
def xk{ps:List Nd}{g f:o7}{r:List o7}:Go (m7 bL) 0 ⟨ps,g::f::r,n⟩ ⟨ps,f.put g.fin::r,n⟩:=pC (c:=.fin) rfl ⋯ rfl rfl
def HS{k e:Nat}{y:Y1}{ds:List Nd}{c:m8}{g:o7}(o:c.Ok)(fw:c.few=true)
  (hs:∀(f:o7)(r:List o7)(ps:List Nd)(n:Nat),cg c ⟨ps,f::r,n⟩=(if c.few=true then mY c f r ⟨ps,f::r,n⟩else none)/\mY c f r ⟨ps,f::r,n⟩=if f.bt.isNone/\n<200/\(f::r).length<9 then some ⟨ps,o7.new c::f::r,n+1⟩else none)
  (a:∀(ps:List Nd)(f:o7)(r:List o7)(n:Nat),r.length+k<7->Go x e ⟨ps,o7.new c::f::r,n⟩ ⟨ps,g::f::r,n+e⟩):Rd (k+1) (m7 (ar c)++x++m7 bL) (e+1) g.fin:=fun ps c' l yes r n q z=>by
 have H:Go (m7 (ar c)) 1 ⟨ps,⟨c',l,yes,none⟩::r,n⟩ ⟨ps,o7.new c::⟨c',l,yes,none⟩::r,n+1⟩:=mN (vF o) (vH o) (pU (f:=⟨c',l,yes,none⟩) fw ⋯ rfl (hs _ _ _ _).2 (hs _ _ _ _).1) rfl;have A:=a ps ⟨c',l,yes,none⟩ r (n+1) ⋯;have E:=(H.app A).app (xk (ps:=ps) (g:=g) (f:=⟨c',l,yes,none⟩) (r:=r) (n:=n+1+e));rw[show 1+e+0=e+1 by lia,show n+1+e=n+(e+1) by lia]at E;exact E
def X3(lo:Bool)(t:Y1):Y1:=if(lo||!t.isEmpty)=true then m7 fQ++esc t else[]
def Mq{ps:List Nd}{r:List o7}{l:List Nd}(lo:Bool)(t:Y1):∃b:Option Y1,b.getD []=t/\Go (X3 lo t) 0 ⟨ps,⟨.loop x p,l,none,none⟩::r,n⟩ ⟨ps,⟨.loop x p,l,none,b⟩::r,n⟩:=by
 unfold X3
 split
 .have A:Go (m7 fQ) 0 ⟨ps,⟨.loop x p,l,none,none⟩::r,n⟩ ⟨ps,⟨.loop x p,l,none,some []⟩::r,n⟩:=pC (c:=.Ul) rfl ⋯ rfl rfl;exact⟨some t,rfl,A.app (Kg t [])⟩
 .rename_i h
  cases t with
  |nil=>exact⟨none,rfl,Go.nil _⟩
  |cons a r=>simp at h
def HU{k e:Nat}{n:Y1}(o:(m8.loop n p).Ok)(a:Yr k x e ds)(lo:Bool)(t:Y1):Rd (k+1) (m7 (ar (.loop n p))++(x++X3 lo t)++m7 bL) (e+1) (o7.fin ⟨.loop n p,ds,none,some t⟩):=fun ps c l yes r m q z=>by obtain⟨b,hb,B⟩:=Mq (ps:=ps) (n:=m+1+e) (r:=⟨c,l,yes,none⟩::r) (x:=n) (p:=p) (l:=ds) lo t;have A:=a ps (.loop n p) [] none (⟨c,l,yes,none⟩::r) (m+1) (fun _=>rfl) (by simp;lia);have H:Go (m7 (ar (.loop n p))) 1 ⟨ps,⟨c,l,yes,none⟩::r,m⟩ ⟨ps,o7.new (.loop n p)::⟨c,l,yes,none⟩::r,m+1⟩:=mN (vF o) (vH o) (pU (f:=⟨c,l,yes,none⟩) rfl ⋯ rfl rfl rfl) rfl;have E:=(H.app (A.app B)).app (xk (ps:=ps) (g:=⟨.loop n p,ds,none,b⟩) (f:=⟨c,l,yes,none⟩) (r:=r) (n:=m+1+e));rw[show 1+(e+0)+0=e+1 by lia,show m+1+e=m+(e+1) by lia]at E;rw[show o7.fin ⟨.loop n p,ds,none,some t⟩=o7.fin ⟨.loop n p,ds,none,b⟩ by unfold o7.fin;dsimp only;rw[hb];rfl];exact E
def Yp(lo:Bool)(z:List Nd)(y:Y1):Y1:=(if(lo||!z.isEmpty)=true then m7 dj else[])++y
def HV{k j e f:Nat}{es:List Nd}(o:(m8.cond p).Ok)(a:Yr k x e ds)(b:Yr j y f es)(hy:es= []->y= []/\f=0)(lo:Bool):Rd (max k j+1) (m7 (ar (.cond p))++(x++Yp lo es y)++m7 bL) (e+f+1) (o7.fin ⟨.cond p,es,some ds,none⟩):=fun ps c l yes r m q z=>by
 have m1:=ad4 k j;have m2:=adX k j;have A:=a ps (.cond p) [] none (⟨c,l,yes,none⟩::r) (m+1) (fun _=>rfl) (by simp;lia);have H:Go (m7 (ar (.cond p))) 1 ⟨ps,⟨c,l,yes,none⟩::r,m⟩ ⟨ps,o7.new (.cond p)::⟨c,l,yes,none⟩::r,m+1⟩:=mN (vF o) (vH o) (pU (f:=⟨c,l,yes,none⟩) rfl ⋯ rfl rfl rfl) rfl;unfold Yp
 split
 .have S:Go (m7 dj) 0 ⟨ps,⟨.cond p,ds,none,none⟩::⟨c,l,yes,none⟩::r,m+1+e⟩ ⟨ps,⟨.cond p,[],some ds,none⟩::⟨c,l,yes,none⟩::r,m+1+e⟩:=pC (c:=.els) rfl ⋯ rfl rfl;have B:=b ps (.cond p) [] (some ds) (⟨c,l,yes,none⟩::r) (m+1+e) (fun _=>rfl) (by simp;lia);have E:=(H.app (A.app (S.app B))).app (xk (ps:=ps) (g:=⟨.cond p,es,some ds,none⟩) (f:=⟨c,l,yes,none⟩) (r:=r) (n:=m+1+e+f));rw[show 1+(e+(0+f))+0=e+f+1 by lia,show m+1+e+f=m+(e+f+1) by lia]at E;exact E
 .rename_i h;obtain rfl:es= []:=by cases es with|nil=>rfl|cons a r=>simp at h
  obtain⟨rfl,rfl⟩:=hy rfl;have E:=(H.app A).app (xk (ps:=ps) (g:=⟨.cond p,ds,none,none⟩) (f:=⟨c,l,yes,none⟩) (r:=r) (n:=m+1+e));rw[show 1+e+0=e+0+1 by lia,show m+1+e=m+(e+0+1) by lia]at E;rw[show x++([]++[])=x by simp,show o7.fin ⟨.cond p,[],some ds,none⟩=o7.fin ⟨.cond p,ds,none,none⟩ by unfold o7.fin;simp[Yo]];exact E
def HQ{k e:Nat}{h:Ya}(o:(m8.use a ps (some h)).Ok)(l4:ps.length<=4)(l3:h.length<=3)(A:Yr k x e ds):Rd (k+1) (m7 (ar (.use a ps (some h)))++x++m7 bL) (e+1) (o7.fin ⟨.use a ps (some h),ds,none,none⟩):=
 HS (g:=⟨.use a ps (some h),ds,none,none⟩) (ds:=ds) (y:=[]) o (by show(decide (ps.length<=4)&&decide (h.length<=3))=true;rw[decide_eq_true l4,decide_eq_true l3];rfl) (fun f r ps n=>⟨rfl,rfl⟩) fun ps f r n z=>A ps _ [] none (f::r) n (fun _=>rfl) (by simp;lia)
def Gq{k e:Nat}{m:Option Nat}(o:(m8.piece a ns m).Ok)(l4:ns.length<=4)(hk:k<8)(A:Yr k x e ds)(ps:List Nd)(h8:ps.length<8)(n:Nat):Go (m7 (ar (.piece a ns m))++x++m7 bL) e ⟨ps,[],n⟩ ⟨ps++ [o7.fin ⟨.piece a ns m,ds,none,none⟩],[],n+e⟩:=by
 have H:Go (m7 (ar (.piece a ns m))) 0 ⟨ps,[],n⟩ ⟨ps,[o7.new (.piece a ns m)],n⟩:=pC (vF o) (vH o) (by show(if decide (ns.length<=4)=true then(if([]:List o7)=[]/\ps.length<8 then some (⟨ps,[o7.new (.piece a ns m)],n⟩:St)else none)else none)=_;rw[if_pos (decide_eq_true l4),if_pos ⟨rfl,h8⟩]) rfl
 have B:=A ps (.piece a ns m) [] none [] n (fun _=>rfl) (by simp;lia);have E:Go (m7 bL) 0 ⟨ps,[⟨.piece a ns m,ds,none,none⟩],n+e⟩ ⟨ps++ [o7.fin ⟨.piece a ns m,ds,none,none⟩],[],n+e⟩:=pC (c:=.fin) rfl ⋯ rfl rfl;have:=(H.app B).app E;rw[show 0+e+0=e by lia]at this;exact this
theorem AK{ps:List Nd}{n:Nat}:∀{g:Y1},(∀c∈g,c=32\/c=10)->Go g 0 ⟨ps,[],n⟩ ⟨ps,[],n⟩
 |[],_=>Go.nil _
 |c::g,h=>by have hc:=h c ac4;have A:Go [c] 0 ⟨ps,[],n⟩ ⟨ps,[],n⟩:=IZ (s:=.sg c) (fun r=>pW ⋯ ⋯) (by unfold gj;dsimp only;rw[if_pos rfl,if_pos hc]) rfl;exact A.app (AK fun d hd=>h d (ac1 _ hd))
end K7.R
namespace K7
abbrev pL(p:O7):Ya:=p.a::p.f
abbrev Vz(l:List O7):List Ya:=l.map pL
mutual
noncomputable def rN:Nd->R.Nd
 |.text s=>.txt s
 |.place p w=>.nd (R.m8.place (pL p) w).pv (R.m7 (R.ar (.place (pL p) w)))
 |.loop x p b t=>R.o7.fin ⟨.loop x (pL p),rS b,none,some t⟩
 |.choice p y z=>R.o7.fin ⟨.cond (pL p),rS z,some (rS y),none⟩
 |.use x ps=>.nd (.tup (.str R.bV::(R.m8.use x (Vz ps) none).args++ [.non])) (R.m7 (R.ar (.use x (Vz ps) none)))
 |.I_ x ps h b=>R.o7.fin ⟨.use x (Vz ps) (some h),rS b,none,none⟩
 |.body ps=>.nd (R.m8.body (Vz ps)).pv (R.m7 (R.ar (.body (Vz ps))))
noncomputable def rS:K3->List R.Nd
 |.nil=> []
 |.cons n r=>rN n::rS r
end
def asL(lo:Bool)(p:O7)(w:Y1):Y1:=if(lo||!decide (w=R.dq))=true then R.aA (pL p)++R.V_++w else R.aA (pL p)
mutual
noncomputable def tN(lo:Bool):Nd->Y1
 |.text s=>R.esc s
 |.place p w=>R.m7 (asL lo p w)
 |.loop x p b t=>R.m7 (R.ar (.loop x (pL p)))++(tS lo b++R.X3 lo t)++R.m7 R.bL
 |.choice p y z=>R.m7 (R.ar (.cond (pL p)))++(tS lo y++R.Yp lo (rS z) (tS lo z))++R.m7 R.bL
 |.use x ps=>R.m7 (R.ar (.use x (Vz ps) none))
 |.I_ x ps h b=>R.m7 (R.ar (.use x (Vz ps) (some h)))++tS lo b++R.m7 R.bL
 |.body ps=>R.m7 (R.ar (.body (Vz ps)))
noncomputable def tS(lo:Bool):K3->Y1
 |.nil=> []
 |.cons n r=>tN lo n++tS lo r
end
def wO{p:O7}(h:wp p=true):R.bO (pL p):=by
 rw[wp,acX,acX,decide_eq_true_eq]at h;refine⟨by simp,by simp;lia,fun w hw=>?_⟩;rcases ac8.mp hw with rfl|hw
 .exact h.1
 .exact adn.mp h.2.1 w hw
def bT{l:List O7}(h:wps l=true):(∀p∈Vz l,R.bO p)/\(Vz l).length<=4:=by rw[wps,acX,decide_eq_true_eq]at h;refine⟨fun p hp=>?_,by rw[ac2];lia⟩;obtain⟨q,hq,rfl⟩:=adM.mp hp;exact wO (adn.mp h.1 q hq)
def c3(X:Cx):Prop:=(∀p∈X.1,∀i,p.h=some i->i<4)/\∀i,X.2.1=some i->i<4
def c3.mo{X:Cx}(h:c3 X)(l:Ya):c3 (moX X l):=h
theorem NM{X:Cx}(h:c3 X){x:Y1}{l:Nat}{n:Nat}(e:Zb X.1 x l (some (n:Int))=true):n<=3:=by
 unfold Zb at e
 cases z:Ze X.1 x with
 |none=>rw[z]at e;cases e
 |some p=>
  rw[z]at e;simp only[acX,decide_eq_true_eq]at e;have:=h.1 p (ae1 z) _ e.2
  lia
noncomputable def Rz:Nd->R.m8
 |.text _=>.fin
 |.place p w=>.place (pL p) w
 |.loop x p _ _=>.loop x (pL p)
 |.choice p _ _=>.cond (pL p)
 |.use x ps=>.use x (Vz ps) none
 |.I_ x ps h _=>.use x (Vz ps) (some h)
 |.body ps=>.body (Vz ps)
theorem cJ{n:Nd}(w:wN n=true):(Rz n).Ok:=by
 cases n with
 |text s=>trivial
 |place p s=>rw[wN,acX]at w;exact⟨wO w.1,of_decide_eq_true w.2⟩
 |loop x p b t=>rw[wN,acX,acX]at w;exact⟨w.1,wO w.2.1⟩
 |choice p y z=>rw[wN,acX]at w;exact wO w.1
 |use x ps=>rw[wN,acX]at w;exact⟨w.1,(bT w.2).1,fun l e=>nomatch e⟩
 |I_ x ps h b=>rw[wN,acX,acX,acX]at w;exact⟨w.1,(bT w.2.1).1,fun l e=>by cases e;exact fun z hz=>adn.mp w.2.2.1 z hz⟩
 |body ps=>rw[wN]at w;exact(bT w).1
theorem OG:∀b:K3,hT b=R.fT (rS b)
 |.nil=>by rw[rS];rfl
 |.cons n r=>by
  rw[rS]
  cases n<;>(rw[R.fT,rN];rfl)
def Qm(n:Nd):hT (.cons n .nil)=(rN n).Vj:=by rw[OG,rS,rS];rfl
theorem Lq:∀b:K3,rS b= []->b=.nil
 |.nil,_=>rfl
 |.cons n r,h=>by rw[rS]at h;cases h
mutual
theorem rdN(lo:Bool):∀(n:Nd)(X:Cx),c3 X->wN n=true->okN X n=true->R.Rd (dN n) (tN lo n) (R8 n+1) (rN n)
 |.text s,X,_,w,_=>by rw[wN,acX,decide_eq_true_eq]at w;rw[tN,rN];exact R.Lo fun z=>by rw[z]at w;exact absurd w.2.1 ⋯
 |.place p s,X,_,w,_=>by
  have o:R.bO (pL p)/\s∈bu:=cJ w;have pn:∀{T:Y1},R.eZ T=(R.m8.place (pL p) s).pv->125∉T->R.Rd 0 (R.m7 T) 1 (.nd (R.m8.place (pL p) s).pv (R.m7 (R.ar (.place (pL p) s)))):=fun v h=>R.ND v h;rw[tN,rN];unfold asL
  split
  .refine pn (R.Kp o.1 o.2) fun z=>?_;rcases adv.mp z with z|z
   .rcases adv.mp z with z|z
    .exact R.jS o.1 ⋯ ⋯ z
    .simp at z
   .exact(by decide:∀w∈bu,(125:Nat)∉w) s o.2 z
  .rename_i h;have e:s=R.dq:=by simp at h;exact h.2
   subst e;exact pn (R.vK o.1) (R.jS o.1 ⋯ ⋯)
 |.loop x p b t,X,hX,w,o=>by have c:=cJ w;rw[wN,acX,acX,acX]at w;rw[okN,acX]at o;rw[tN,rN,R8,dN];exact R.HU c (rdS lo b _ (hX.mo _) w.2.2.1 o.2) lo t
 |.choice p y z,X,hX,w,o=>by have c:=cJ w;rw[wN,acX,acX]at w;rw[okN,acX,acX]at o;rw[tN,rN,R8,dN];exact R.HV c (rdS lo y X hX w.2.1 o.2.1) (rdS lo z X hX w.2.2 o.2.2) (fun e=>by rw[Lq z e,tS,I7];exact⟨rfl,rfl⟩) lo
 |.use x ps,X,hX,w,o=>by have c:=cJ w;rw[wN,acX]at w;rw[tN,rN];exact R.Lm c (bT w.2).2
 |.I_ x ps h b,X,hX,w,o=>by have c:=cJ w;rw[wN,acX,acX,acX,acX]at w;rw[okN,acX,acX,acX]at o;rw[tN,rN,R8,dN];exact R.HQ c (bT w.2.1).2 (NM hX o.2.1) (rdS lo b _ (hX.mo _) w.2.2.2.2 o.2.2.2)
 |.body ps,X,hX,w,o=>by have c:=cJ w;rw[okN,acX,decide_eq_true_eq]at o;rw[tN,rN];exact R.HW c (by have:=hX.2 _ o.2;rw[ac2];lia)
theorem rdS(lo:Bool):∀(b:K3)(X:Cx),c3 X->wS b=true->Ue X b=true->R.Yr (dS b) (tS lo b) (I7 b) (rS b)
 |.nil,X,_,_,_=>by rw[tS,rS,I7,dS];exact R.Yr.nil 0
 |.cons n r,X,hX,w,o=>by
  rw[wS,acX,acX]at w;rw[Ue,acX]at o;rw[tS,rS,I7,dS]
  exact R.Yr.cons (rdN lo n X hX w.1 o.1) (rdS lo r X hX w.2.1 o.2) (by
   rw[<- Qm,<- OG];have e:=w.2.2;generalize(hT (.cons n .nil)&&hT r)=z at e |-
   cases z with
   |false=>rfl
   |true=>cases e)
end
mutual
theorem NF:∀n:Nd,(rN n).pv=nd n
 |.text s=>by rw[rN,nd];rfl
 |.place p w=>by rw[rN,nd];rfl
 |.loop x p b t=>by rw[rN,nd,<- uX b];rfl
 |.choice p y z=>by rw[rN,nd,<- uX y,<- uX z];rfl
 |.use x ps=>by rw[rN,nd];show PV.tup [.str R.bV,.str x,.tup ((Vz ps).map R.aR),.non,.non]=_;rw[adB];rfl
 |.I_ x ps h b=>by rw[rN,nd,<- uX b];show PV.tup [.str R.bV,.str x,.tup ((Vz ps).map R.aR),nms h,R.M7 (rS b)]=_;rw[adB];rfl
 |.body ps=>by rw[rN,nd];show PV.tup [.str R.dB,.tup ((Vz ps).map R.aR)]=_;rw[adB];rfl
theorem uX:∀b:K3,(rS b).map R.Nd.pv=q8 b
 |.nil=>by rw[rS,q8];rfl
 |.cons n r=>by rw[rS,q8,ac5,NF n,uX r]
end
mutual
theorem okn:∀(n:Nd)(d:Nat),dN n<=d->wN n=true->R.Xq d (rN n)
 |.text s,d,_,w=>by rw[wN,acX,decide_eq_true_eq]at w;rw[rN];exact .txt (fun z=>by rw[z]at w;exact absurd w.2.1 ⋯) (lK w.1)
 |.place p s,d,_,w=>by rw[rN];exact .place (cJ w)
 |.loop x p b t,d,h,w=>by
  have c:=cJ w;rw[wN,acX,acX,acX]at w;rw[dN]at h;obtain⟨e,rfl⟩:∃e,d=e+1:=⟨d - 1,by lia⟩
  rw[rN];exact .fin (f:=⟨.loop x (pL p),rS b,none,some t⟩) c rfl (fun _ _ _ z=>by cases z) (oks b e ⋯ w.2.2.1) (fun y z=>by cases z) (fun b' z=>by cases z;exact lK w.2.2.2)
 |.choice p y z,d,h,w=>by
  have c:=cJ w;rw[wN,acX,acX]at w;rw[dN]at h;have m1:=ad4 (dS y) (dS z);have m2:=adX (dS y) (dS z);obtain⟨e,rfl⟩:∃e,d=e+1:=⟨d - 1,by lia⟩
  rw[rN];exact .fin (f:=⟨.cond (pL p),rS z,some (rS y),none⟩) c rfl (fun _ _ _ z=>by cases z) (oks z e ⋯ w.2.2) (fun y' q=>by cases q;exact oks y e ⋯ w.2.1) (fun b' z=>by cases z)
 |.use x ps,d,_,w=>by rw[rN];exact .use (cJ w)
 |.I_ x ps hs b,d,h,w=>by
  have c:=cJ w;rw[wN,acX,acX,acX,acX]at w;rw[dN]at h;obtain⟨e,rfl⟩:∃e,d=e+1:=⟨d - 1,by lia⟩
  rw[rN];exact .fin (f:=⟨.use x (Vz ps) (some hs),rS b,none,none⟩) c rfl (fun _ _ _ z=>by cases z) (oks b e ⋯ w.2.2.2.2) (fun y z=>by cases z) (fun b' z=>by cases z)
 |.body ps,d,_,w=>by rw[rN];exact .body (cJ w)
theorem oks:∀(b:K3)(d:Nat),dS b<=d->wS b=true->∀x∈rS b,R.Xq d x
 |.nil,_,_,_,x,h=>by rw[rS]at h;cases h
 |.cons n r,d,h,w,x,hx=>by
  rw[wS,acX,acX]at w;rw[dS]at h;have m1:=ad4 (dN n) (dS r);have m2:=adX (dN n) (dS r);rw[rS]at hx;rcases ac8.mp hx with rfl|hx
  .exact okn n d ⋯ w.1
  .exact oks r d ⋯ w.2.1 x hx
end
def RB(t:Y1):R.X3 false t=R.Zo t:=by
 unfold R.X3 R.Zo
 cases t<;>rfl
mutual
theorem No:∀n:Nd,tN false n=(rN n).sh
 |.text s=>by rw[rN,tN];rfl
 |.place p w=>by
  rw[rN,tN];show R.m7 _=R.m7 _;unfold asL
  by_cases q:w=R.dq
  .rw[if_neg (by simp[q]),q];simp[R.ar]
  .rw[if_pos (by simp[q])];simp[R.ar,q]
 |.loop x p b t=>by rw[rN,tN,uO b,RB];show _=R.m7 _++R.shs (rS b)++R.Zo t++R.m7 R.bL;simp only[ade]
 |.choice p y z=>by
  rw[rN,tN,uO y,uO z];show _=R.m7 _++R.shs (rS y)++R.Yo (rS z)++R.m7 R.bL
  have e:R.Yp false (rS z) (R.shs (rS z))=R.Yo (rS z):=by
   unfold R.Yp R.Yo
   cases rS z<;>rfl
  rw[e];simp only[ade]
 |.use x ps=>by rw[rN,tN];rfl
 |.I_ x ps h b=>by rw[rN,tN,uO b];rfl
 |.body ps=>by rw[rN,tN];rfl
theorem uO:∀b:K3,tS false b=R.shs (rS b)
 |.nil=>by rw[rS,tS];rfl
 |.cons n r=>by rw[rS,tS,No n,uO r];rfl
end
theorem sB{y:Y1}{k:Nat}:∀{l:Ya},(∀w∈l,w.length<=k)->(aI y l).length<=l.length * (k+y.length)
 |[],_=>adx _
 |[a],h=>by
  have:=h a ac4;show a.length<=1 * _
  lia
 |a::b::r,h=>by
  have:=h a ac4;have ih:=sB (y:=y) (l:=b::r) fun w hw=>h w (ac1 _ hw);show(a++y++aI y (b::r)).length<=_;rw[acZ,acZ,ac6,Nat.add_mul]
  lia
def kB{p:Ya}(o:R.bO p):(R.aA p).length<=36:=by have:=sB (y:=[46]) (k:=8) fun w hw=>(iw (o.2.2 w hw)).1;have l:=o.2.1;exact adu this (by show p.length * 9<=36;lia)
def jR{ps:List Ya}(o:∀p∈ps,R.bO p)(l:ps.length<=4):(R.aO ps).length<=152:=by
 have:=sB (y:=R.cs) (k:=36) (l:=ps.map R.aA) fun w hw=>by obtain⟨p,hp,rfl⟩:=adM.mp hw;exact kB (o p hp)
 rw[ac2]at this;exact adu this (by show ps.length * 38<=152;lia)
def mh{ns:Ya}(o:∀w∈ns,R.aM w=true)(l:ns.length<=4):(aI R.cs ns).length<=40:=by have:=sB (y:=R.cs) (k:=8) fun w hw=>(iw (o w hw)).1;exact adu this (by show ns.length * 10<=40;lia)
theorem ug:∀t:Y1,(R.esc t).length<=3 * t.length
 |[]=>acY _
 |c::t=>by
  have:=ug t;have h:(R.gF c).length<=3:=by unfold R.gF;split<;>(try split)<;>simp
  show(R.gF c++R.esc t).length<=_;rw[acZ,ac6];lia
def bx(t:Y1):(R.m7 t).length=t.length+2:=by simp[R.m7]
mutual
theorem Np(lo:Bool):∀n:Nd,wN n=true->(tN lo n).length<=250 * (R8 n+1)
 |.text s,w=>by
  rw[wN,acX]at w;rw[tN];have:=ug s;have:=nH w.1
  lia
 |.place p s,w=>by
  have c:R.bO (pL p)/\s∈bu:=cJ w;rw[tN,bx];have:=kB c.1;have:=(by decide:∀w∈bu,w.length<=6) s c.2;unfold asL
  split
  .rw[acZ,acZ];show(R.aA (pL p)).length+4+s.length+2<=_;lia
  .lia
 |.loop x p b t,w=>by
  have c:R.aM x=true/\R.bO (pL p):=cJ w;rw[wN,acX,acX,acX]at w;have:=lJ lo b w.2.2.1;have:=kB c.2;have:=(iw c.1).1;have:=ug t;have:=nH w.2.2.2
  have e:(R.X3 lo t).length<=9+(R.esc t).length:=by
   unfold R.X3;split
   .rw[acZ,bx];show 7+2+_<=_;lia
   .exact adx _
  rw[tN,R8,acZ,acZ,acZ,bx,bx];have f:(R.ar (.loop x (pL p))).length=4+x.length+4+(R.aA (pL p)).length:=by simp[R.ar];lia
  rw[f];show _+(3+2)<=_
  lia
 |.choice p y z,w=>by
  have c:R.bO (pL p):=cJ w;rw[wN,acX,acX]at w;have:=lJ lo y w.2.1;have:=lJ lo z w.2.2;have:=kB c
  have e:(R.Yp lo (rS z) (tS lo z)).length<=6+(tS lo z).length:=by
   unfold R.Yp;rw[acZ]
   split
   .rw[bx];show 4+2+_<=_;lia
   .show 0+_<=_;lia
  rw[tN,R8,acZ,acZ,acZ,bx,bx];have f:(R.ar (.cond (pL p))).length=3+(R.aA (pL p)).length:=by simp[R.ar];lia
  rw[f];show _+(3+2)<=_
  lia
 |.use x ps,w=>by
  rw[wN,acX]at w;have:=jR (bT w.2).1 (bT w.2).2;have:=(iw w.1).1;rw[tN,bx];have f:(R.ar (.use x (Vz ps) none)).length=4+x.length+1+(R.aO (Vz ps)).length+1:=by simp[R.ar];lia
  lia
 |.I_ x ps h b,w=>by
  rw[wN,acX,acX,acX,acX,decide_eq_true_eq]at w;have:=lJ lo b w.2.2.2.2;have:=jR (bT w.2.1).1 (bT w.2.1).2;have:=mh (fun z hz=>adn.mp w.2.2.1 z hz) (by have:=w.2.2.2.1;lia);have:=(iw w.1).1;rw[tN,R8,acZ,acZ,bx,bx];have f:(R.ar (.use x (Vz ps) (some h))).length=4+x.length+1+(R.aO (Vz ps)).length+1+6+(aI R.cs h).length:=by simp[R.ar];lia
  rw[f];show _+(3+2)<=_
  lia
 |.body ps,w=>by
  rw[wN]at w;have:=jR (bT w).1 (bT w).2;rw[tN,bx];have f:(R.ar (.body (Vz ps))).length=5+(R.aO (Vz ps)).length+1:=by simp[R.ar];lia
  lia
theorem lJ(lo:Bool):∀b:K3,wS b=true->(tS lo b).length<=250 * I7 b
 |.nil,_=>by rw[tS];exact adx _
 |.cons n r,w=>by rw[wS,acX,acX]at w;have:=Np lo n w.1;have:=lJ lo r w.2.1;rw[tS,I7,acZ];lia
end
end K7
namespace K7.R
abbrev EX:List (PK×PV):=[(.inr [123],.str [123,40,125]),(.inr [125],.str [123,41,125])]
variable{B:List Pc}{bs:Y2}{g t x:Y1}{p:Ya}{ps:List Ya}{q:Pc}
theorem IX(kvs:List (PK×PV))(h:Y3):zi h (.dct kvs)=true:=rfl
def Mt(c:Nat)(h:Y3):Dp (.dct EX) [.str [c],.str [c]] h=.ok (.str (gF c)) h:=by
 show Res.ok (match lM EX (.inr [c])with|some v=>aj h v|none=>.str [c]) h=_
 by_cases q1:c=123
 .subst q1;rfl
 .by_cases q2:c=125
  .subst q2;rfl
  .have e:lM EX (.inr [c])=none:=by have h1:decide (123=c)=false:=decide_eq_false (aem q1);have h2:decide (125=c)=false:=decide_eq_false (aem q2);simp[lM,List.find?,h1,h2]
   rw[e];unfold gF;rw[if_neg q1,if_neg q2]
def S6(k:Nat)(z:(esc t).length<=5000000):F (k+1) .S6 [.str t]=.ok (.str (esc t)):=by
 show av (qK (F k)) 1 1 [.str t]=_;have dx:nv [(abE,acN),(aaK,acM)]=fun ρ h=>.ok (.dct EX) h:=rfl
 have cm:=oz (te:=mB (F k)) (cp:=bX [] [some (.str t)]) (h:=[]) (f:=fun c=>PV.str [c]) (g:=fun c=>.str (gF c)) t fun c hc=>by simp[EV,mB,dx,IX,Mt]
 have ln:(t.map fun c=>PV.str [c]).length<16777216:=by have:=sD t;rw[ac2];lia
 have j:=kF (ls:=t.map gF) (h:=[]) (by rw[lS];exact adu z ⋯);rw[adB]at j
 replace j:gu (.str []) [.lst (t.map fun c=>PV.str (gF c))] []=.ok (.str (t.map gF).flatten) []:=j
 simp[EV,av,qK,ln,cm,j,aK];rfl
def Tv(k:Nat)(z:(aO ps).length<=5000000):F (k+1) .Tv [.tup (ps.map aR)]=.ok (.str (aO ps)):=by
 show av (uv (F k)) 1 1 [.tup (ps.map aR)]=_
 have cm:=oz (te:=kZ (F k)) (cp:=bX [] [some (.tup (ps.map aR))]) (h:=[]) (f:=aR) (g:=fun p=>.str (aA p)) ps fun p hp=>by have zp:(aA p).length<=5000000:=adu (oT (y:=cs) (aeQ hp)) z;have jt:=fun h=>xh (y:=[46]) (ls:=p) (h:=h) ⋯ ⋯ zp;have dp:∀h,aj h (aR p)=aR p:=fun h=>GM (some p) h;show kZ (F k) (some (.tup (p.map PV.str))::_) []=_;simp[EV,kZ,jt];rfl
 have ln:(ps.map aR).length<16777216:=by have:=yq (ls:=ps.map aA) z;rw[ac2]at this |-;lia
 have j:=tF (sep:=cs) (q:=.lst (ps.map fun p=>.str (aA p))) (ls:=ps.map aA) (h:=[]) (by rw[adB];rfl) (AH ⋯ ⋯ z);simp[EV,av,uv,ln,cm,j,aK];rfl
def Iw{l:Y2}(hl:fds 59 l)(h:Y3):Vs (.tup l) (.tup []) h=.ok (.bl (!l.isEmpty)) h:=by
 have ok:TP h (.tup l)=true:=by
  unfold TP TV;have:=hl.2.1;simp only[toD,PyData.canLay0,PyData.depth,hl.1,aeT,decide_eq_true_eq]
  lia
 unfold Vs;rw[if_pos ⟨ok,rfl⟩]
 cases l<;>rfl
def Mv{v:PV}(h:v.pure=true)(q:∀l,v≠.ref l):∀hh,cO hh v=some (v,hh):=fun hh=>bF h hh q
def IG(k:Nat){s:Y1}(lo:Bool)(z:(esc s).length<=5000000):F (k+2) .m_ [.tup [.str lL,.str s],.bl lo]=.ok (.str (esc s)):=by show av (aJ (F (k+1))) 2 4 [.tup [.str lL,.str s],.bl lo]=_;have lp:=S6 k z;simp[EW,av,aJ,TX,at1,lL,K7.Vx,ai,lp,aK]
theorem FT(k:Nat){w:Y1}(lo:Bool)(zp:(aA p).length<=36)(zw:w.length<=6)(hw:Lt w):F (k+1) .m_ [.tup [.str dK,.tup (p.map PV.str),.str w],.bl lo]=.ok (.str (m7 (if(lo||!decide (w=dq))=true then aA p++V_++w else aA p))):=by
 show av (aJ (F k)) 2 4 [.tup [.str dK,.tup (p.map PV.str),.str w],.bl lo]=_;have jn:=fun h=>xh (y:=[46]) (ls:=p) (h:=h) ⋯ ⋯ (show(aA p).length<=5000000 by lia);have nw:=fun h=>lZ w dq h hw (fA rfl);rw[show aI [46] p=aA p from rfl]at jn;generalize aA p=P at*
 cases lo with
 |true=>simp(disch:=(first|lia|(simp only[acZ,ac6,adh];lia)))[EW,av,aJ,TX,at1,at2,dK,K7.Vx,bD,jn,nw,aK];simp[m7]
 |false=>
  cases q:decide (w=dq)with
  |true=>rw[q]at nw;simp(disch:=(first|lia|(simp only[acZ,ac6,adh];lia)))[EW,av,aJ,TX,at1,at2,dK,K7.Vx,bD,jn,nw,aK];simp[m7]
  |false=>rw[q]at nw;simp(disch:=(first|lia|(simp only[acZ,ac6,adh];lia)))[EW,av,aJ,TX,at1,at2,dK,K7.Vx,bD,jn,nw,aK];simp[m7]
def II(k:Nat)(lo:Bool)(z:(aO ps).length<=152):F (k+2) .m_ [.tup [.str dB,.tup (ps.map aR)],.bl lo]=.ok (.str (m7 (ar (.body ps)))):=by show av (aJ (F (k+1))) 2 4 [.tup [.str dB,.tup (ps.map aR)],.bl lo]=_;have lr:=Tv k (show(aO ps).length<=5000000 by lia);have fp:=jZ ps;simp(disch:=(first|lia|(simp only[acZ,ac6,adh];lia)))[EW,av,aJ,TX,at1,dB,K7.Vx,ai,fp,lr,bD,aK];simp[m7,ar]
def oG{l:Y2}(h:am l=true):∀hh,cO hh (.tup l)=some (.tup l,hh):=Mv (by rw[PV.pure];exact h) (fun l q=>by cases q)
theorem IH(k:Nat){B:Y1}(lo:Bool)(ls:F (k+1) .G9 [.tup bs,.bl lo]=.ok (.str B))(pb:am bs=true)(zx:x.length<=8)(zp:(aA p).length<=36)(zt:t.length<=17)(ht:Lt t)(zB:B.length<=5000000):
  F (k+2) .m_ [.tup [.str jb,.str x,.tup (p.map PV.str),.tup bs,.str t],.bl lo]=.ok (.str (m7 (ar (.loop x p))++(B++X3 lo t)++m7 bL)):=by
 show av (aJ (F (k+1))) 2 4 [.tup [.str jb,.str x,.tup (p.map PV.str),.tup bs,.str t],.bl lo]=_;have ze:=K7.ug t;have jn:=fun h=>xh (y:=[46]) (ls:=p) (h:=h) ⋯ ⋯ (show(aA p).length<=5000000 by lia);have nw:=fun h=>lZ t [] h ht (fun c hc=>nomatch hc);have lp:=S6 k (t:=t) ⋯;have fb:=oG pb
 have res:∀M:Y1,M=X3 lo t->Out.ok (.str (([123,102,111,114,32]++x++ [32,105,110,32]++aA p++ [125])++B++M++ [123,101,110,100,125]))=.ok (.str (m7 (ar (.loop x p))++(B++X3 lo t)++m7 bL)):=fun M e=>by subst e;congr 2;simp[m7,ar]
 rw[show aI [46] p=aA p from rfl]at jn;generalize hP:aA p=P at*;generalize hE:esc t=E at*
 cases lo with
 |true=>refine afC ?_ (res ([123,98,101,116,119,101,101,110,125]++E) (by unfold X3;rw[if_pos (show(true||!t.isEmpty)=true from rfl),hE];rfl));simp(disch:=(first|lia|(simp only[acZ,ac6,adh];lia)))[EW,av,aJ,TX,at1,at2,V3,Xp,jb,K7.Vx,ai,fb,ls,lp,bD,jn,nw,aK]
 |false=>
  cases q:decide (t= [])with
  |true=>
   rw[q]at nw;have e0:t= []:=of_decide_eq_true q;have hE0:E= []:=by rw[<- hE,e0];rfl
   refine afC ?_ (res ([]++E) (by rw[hE0];unfold X3;rw[e0];rfl));simp(disch:=(first|lia|(simp only[acZ,ac6,adh];lia)))[EW,av,aJ,TX,at1,at2,V3,Xp,jb,K7.Vx,ai,fb,ls,lp,bD,jn,nw,aK]
  |false=>rw[q]at nw;refine afC ?_ (res ([123,98,101,116,119,101,101,110,125]++E) (by unfold X3;rw[if_pos (show(false||!t.isEmpty)=true by cases t with|nil=>cases q|cons a r=>rfl),hE];rfl));simp(disch:=(first|lia|(simp only[acZ,ac6,adh];lia)))[EW,av,aJ,TX,at1,at2,V3,Xp,jb,K7.Vx,ai,fb,ls,lp,bD,jn,nw,aK]
theorem Dz(k:Nat){B C:Y1}{cs':Y2}{ds:List Nd}(lo:Bool)(ls:F (k+1) .G9 [.tup bs,.bl lo]=.ok (.str B))(lc:F (k+1) .G9 [.tup cs',.bl lo]=.ok (.str C))(pb:am bs=true)(fc:fds 59 cs')(hd:ds.isEmpty=cs'.isEmpty)(zp:(aA p).length<=36)(zB:B.length<=5000000)(zC:C.length<=5000000):
  F (k+2) .m_ [.tup [.str dR,.tup (p.map PV.str),.tup bs,.tup cs'],.bl lo]=.ok (.str (m7 (ar (.cond p))++(B++Yp lo ds C)++m7 bL)):=by
 show av (aJ (F (k+1))) 2 4 [.tup [.str dR,.tup (p.map PV.str),.tup bs,.tup cs'],.bl lo]=_;have jn:=fun h=>xh (y:=[46]) (ls:=p) (h:=h) ⋯ ⋯ (show(aA p).length<=5000000 by lia);have nw:=fun h=>Iw fc h;have fb:=oG pb;have fd:=oG fc.2.2
 have res:∀M:Y1,M=Yp lo ds C->Out.ok (.str ([123,105,102,32]++aA p++ [125]++B++M++ [123,101,110,100,125]))=.ok (.str (m7 (ar (.cond p))++(B++Yp lo ds C)++m7 bL)):=fun M e=>by subst e;congr 2;simp[m7,ar]
 rw[show aI [46] p=aA p from rfl]at jn;generalize hP:aA p=P at*
 cases lo with
 |true=>refine afC ?_ (res ([123,101,108,115,101,125]++C) rfl);simp(disch:=(first|lia|(simp only[acZ,ac6,adh];lia)))[EW,av,aJ,TX,at1,at2,V3,dR,K7.Vx,ai,fb,fd,ls,lc,bD,jn,nw,aK]
 |false=>
  cases q:cs'.isEmpty with
  |true=>rw[q]at nw hd;refine afC ?_ (res ([]++C) (by unfold Yp;rw[hd];rfl));simp(disch:=(first|lia|(simp only[acZ,ac6,adh];lia)))[EW,av,aJ,TX,at1,at2,V3,dR,K7.Vx,ai,fb,fd,ls,lc,bD,jn,nw,aK]
  |false=>rw[q]at nw hd;refine afC ?_ (res ([123,101,108,115,101,125]++C) (by unfold Yp;rw[hd];rfl));simp(disch:=(first|lia|(simp only[acZ,ac6,adh];lia)))[EW,av,aJ,TX,at1,at2,V3,dR,K7.Vx,ai,fb,fd,ls,lc,bD,jn,nw,aK]
def LR(k:Nat)(lo:Bool)(zx:x.length<=8)(z:(aO ps).length<=152):F (k+2) .m_ [.tup [.str bV,.str x,.tup (ps.map aR),.non,.non],.bl lo]=.ok (.str (m7 (ar (.use x ps none)))):=by show av (aJ (F (k+1))) 2 4 [.tup [.str bV,.str x,.tup (ps.map aR),.non,.non],.bl lo]=_;have lr:=Tv k (show(aO ps).length<=5000000 by lia);have fp:=jZ ps;simp(disch:=(first|lia|(simp only[acZ,ac6,adh];lia)))[EW,av,aJ,TX,at1,at2,V3,bV,K7.Vx,ai,fp,lr,bD,bW,aK];simp[m7,ar]
def IF(k:Nat){B:Y1}{hs:Ya}(lo:Bool)(ls:F (k+1) .G9 [.tup bs,.bl lo]=.ok (.str B))(pb:am bs=true)(zx:x.length<=8)(z:(aO ps).length<=152)(zh:(aI cs hs).length<=40)(zB:B.length<=5000000):F (k+2) .m_ [.tup [.str bV,.str x,.tup (ps.map aR),.tup (hs.map PV.str),.tup bs],.bl lo]=.ok (.str (m7 (ar (.use x ps (some hs)))++B++m7 bL)):=by show av (aJ (F (k+1))) 2 4 [.tup [.str bV,.str x,.tup (ps.map aR),.tup (hs.map PV.str),.tup bs],.bl lo]=_;have lr:=Tv k (show(aO ps).length<=5000000 by lia);have jn:=fun h=>xh (y:=cs) (ls:=hs) (h:=h) ⋯ ⋯ (show(aI cs hs).length<=5000000 by lia);have fp:=jZ ps;have fb:=oG pb;generalize hH:aI cs hs=H at*;simp(disch:=(first|lia|(simp only[acZ,ac6,adh];lia)))[EW,av,aJ,TX,at1,at2,V3,Xp,bV,K7.Vx,ai,fp,lr,fb,ls,bD,jn,eN,aK];simp[m7,ar,hH]
theorem Ei(lo:Bool):∀b:K3,tS lo b=((Uy b).map (tN lo)).flatten
 |.nil=>by rw[tS];rfl
 |.cons n r=>by rw[tS,Ei lo r];rfl
theorem FH:∀b:K3,(q8 b).length<=I7 b
 |.nil=>by rw[q8];exact adx _
 |.cons n r=>by have:=FH r;rw[q8,I7,ac6];lia
def ja(K:Nat)(lo:Bool)(b:K3)(w:wS b=true)(hc:I7 b<=10000)(H:∀n∈Uy b,F K .m_ [nd n,.bl lo]=.ok (.str (tN lo n))):F (K+1) .G9 [.tup (q8 b),.bl lo]=.ok (.str (tS lo b)):=by
 show av (qJ (F K)) 2 2 [.tup (q8 b),.bl lo]=_;have z:=lJ lo b w;have ln:(q8 b).length<16777216:=by have:=FH b;lia
 have cp:bX [1] [some (.tup (q8 b)),some (.bl lo)]=[some (.bl lo)]:=rfl
 have cm:cD bg (mA (F K)) (bX [1] [some (.tup (q8 b)),some (.bl lo)]) (q8 b) []=.ok ((Uy b).map fun n=>PV.str (tN lo n)) []:=by
  rw[cp,oW]
  exact K7.wZ nd (fun n=>PV.str (tN lo n)) (Uy b) fun n hn=>by have h1:=H n hn;have dn:∀h,aj h (nd n)=nd n:=fun h=>yP h n;have fn:∀h,cO h (nd n)=some (nd n,h):=Mv (sw n) (fun l q=>by cases n<;>(rw[nd]at q;cases q));simp[EV,mA,dn,ai,fn,h1]
 have j:=kF (ls:=(Uy b).map (tN lo)) (h:=[]) (by rw[lS,<- Ei];show _<=16777216;lia);rw[adB,<- Ei]at j
 replace j:gu (.str []) [.lst ((Uy b).map fun n=>PV.str (tN lo n))] []=.ok (.str (tS lo b)) []:=j
 simp[EV,av,qJ,ln,cm,j,aK]
theorem Od:∀b:K3,(rS b).isEmpty=(q8 b).isEmpty
 |.nil=>by rw[rS,q8];rfl
 |.cons n r=>by rw[rS,q8];rfl
theorem RZ(p:O7):H_ p=.tup ((pL p).map PV.str):=rfl
def qh(l:List O7):jO l=(Vz l).map aR:=by unfold jO;rw[adB];rfl
mutual
theorem shN(lo:Bool):∀(n:K7.Nd)(K:Nat),2 * dN n+2<=K->dN n<=20->wN n=true->R8 n<=10000->F K .m_ [nd n,.bl lo]=.ok (.str (tN lo n))
 |.text s,K,hK,_,w,_=>by
  rw[wN,ac7]at w;rw[nd,tN];obtain⟨k,rfl⟩:∃k,K=k+2:=⟨K - 2,by lia⟩
  exact IG k lo (by have:=K7.ug s;have:=nH w.1;lia)
 |.place p s,K,hK,_,w,_=>by
  have c:bO (pL p)/\s∈bu:=cJ w;rw[nd,tN];obtain⟨k,rfl⟩:∃k,K=k+1:=⟨K - 1,by lia⟩
  exact FT k lo (kB c.1) ((by decide:∀w∈bu,w.length<=6) s c.2) (lK (we (decide_eq_true c.2)))
 |.loop x p b t,K,hK,hd,w,hc=>by
  have c:aM x=true/\bO (pL p):=cJ w;rw[wN,ac7,ac7,ac7]at w;rw[dN]at hK hd;rw[R8]at hc;obtain⟨k,rfl⟩:∃k,K=k+2:=⟨K - 2,by lia⟩
  rw[nd,tN];have zB:=lJ lo b w.2.2.1;exact IH k lo (ja k lo b w.2.2.1 hc (shA lo b k ⋯ ⋯ w.2.2.1 hc)) (bU b) (iw c.1).1 (kB c.2) (nH w.2.2.2) (lK w.2.2.2) ⋯
 |.choice p y z,K,hK,hd,w,hc=>by
  have c:bO (pL p):=cJ w;rw[wN,ac7,ac7]at w;rw[dN]at hK hd;rw[R8]at hc;have m1:=ad4 (dS y) (dS z);have m2:=adX (dS y) (dS z);obtain⟨k,rfl⟩:∃k,K=k+2:=⟨K - 2,by lia⟩
  rw[nd,tN];have zB:=lJ lo y w.2.1;have zC:=lJ lo z w.2.2;exact Dz k lo (ja k lo y w.2.1 ⋯ (shA lo y k ⋯ ⋯ w.2.1 ⋯)) (ja k lo z w.2.2 ⋯ (shA lo z k ⋯ ⋯ w.2.2 ⋯)) (bU y) (ue (qz w.2.2) ⋯) (Od z) (kB c) ⋯ ⋯
 |.use x ps,K,hK,_,w,_=>by
  rw[wN,ac7]at w;rw[nd,tN,qh];obtain⟨k,rfl⟩:∃k,K=k+2:=⟨K - 2,by lia⟩
  exact LR k lo (iw w.1).1 (jR (bT w.2).1 (bT w.2).2)
 |.I_ x ps h b,K,hK,hd,w,hc=>by
  rw[wN,ac7,ac7,ac7,ac7,decide_eq_true_eq]at w;rw[dN]at hK hd;rw[R8]at hc;obtain⟨k,rfl⟩:∃k,K=k+2:=⟨K - 2,by lia⟩
  rw[nd,tN,qh];have zB:=lJ lo b w.2.2.2.2;exact IF k lo (ja k lo b w.2.2.2.2 hc (shA lo b k ⋯ ⋯ w.2.2.2.2 hc)) (bU b) (iw w.1).1 (jR (bT w.2.1).1 (bT w.2.1).2) (mh (fun z hz=>adn.mp w.2.2.1 z hz) (by have:=w.2.2.2.1;lia)) ⋯
 |.body ps,K,hK,_,w,_=>by
  rw[wN]at w;rw[nd,tN,qh];obtain⟨k,rfl⟩:∃k,K=k+2:=⟨K - 2,by lia⟩
  exact II k lo (jR (bT w).1 (bT w).2)
theorem shA(lo:Bool):∀(b:K3)(K:Nat),2 * dS b+2<=K->dS b<=20->wS b=true->I7 b<=10000->∀n∈Uy b,F K .m_ [nd n,.bl lo]=.ok (.str (tN lo n))
 |.nil,_,_,_,_,_,n,h=>by cases h
 |.cons m r,K,hK,hd,w,hc,n,h=>by
  rw[wS,ac7,ac7]at w;rw[dS]at hK hd;rw[I7]at hc;have m1:=ad4 (dN m) (dS r);have m2:=adX (dN m) (dS r);rcases ac8.mp h with e|h
  .rw[e];exact shN lo m K ⋯ ⋯ w.1 ⋯
  .exact shA lo r K ⋯ ⋯ w.2.1 ⋯ n h
end
def shS(lo:Bool)(b:K3)(K:Nat)(hK:2 * dS b+2<=K)(hd:dS b<=20)(w:wS b=true)(hc:I7 b<=10000):F (K+1) .G9 [.tup (q8 b),.bl lo]=.ok (.str (tS lo b)):=ja K lo b w hc (shA lo b K hK hd w hc)
noncomputable def pM(q:Pc):Option Nat:=q.m.map Int.toNat
def pF(q:Pc):o7:=⟨.piece q.n q.ns (pM q),rS q.b,none,none⟩
def pT(lo:Bool)(q:Pc):Y1:=m7 (ar (.piece q.n q.ns (pM q)))++tS lo q.b++m7 bL
structure GP(q:Pc):Prop where
 n:aM q.n=true
 ns:∀w∈q.ns,aM w=true
 w:wS q.b=true
 d:dS q.b<=3
 c:I7 q.b<=2100
 l:q.ns.length<=4
 m:q.m=none\/∃e:Nat,e<4/\q.m=some (e:Int)
 o:∃X,c3 X/\Ue X q.b=true
def GP.ok(g:GP q):(m8.piece q.n q.ns (pM q)).Ok:=⟨g.n,g.ns,fun d e=>by
 rcases g.m with h|⟨i,hi,h⟩
 .rw[pM,h]at e;cases e
 .rw[pM,h]at e;cases e;simpa using hi⟩
def GP.po(g:GP q):JG (pF q):=⟨⟨_,_,_,rfl⟩,g.ok,oks q.b 8 (by have:=g.d;lia) g.w,rfl⟩
theorem GP.pv{q:Pc}(g:GP q):(pF q).fin.pv=pc q:=by
 show PV.tup [.str cf,.str q.n,aR q.ns,oY (pM q),M7 (rS q.b)]=PV.tup [.str tI,.str q.n,nms q.ns,W7 q.m,.tup (q8 q.b)]
 have e:oY (pM q)=W7 q.m:=by
  rcases g.m with h|⟨i,hi,h⟩
  .rw[pM,h];rfl
  .rw[pM,h];rfl
 rw[e,<- uX];rfl
theorem GP.sh{q:Pc}(g:GP q):(pF q).fin.sh=pT false q:=by show m7 _++shs (rS q.b)++m7 bL=_;rw[<- uO];rfl
theorem IC(q:Pc):(hS (pM q)).length<=7:=by
 cases pM q with
 |none=>exact adx _
 |some d=>show(lI++ [48+d]).length<=7;simp
def GP.ct(g:GP q):(ar (.piece q.n q.ns (pM q))).length<=63:=by have:=(iw g.n).1;have:=mh g.ns g.l;have:=IC q;show(fU++q.n++ [40]++aI cs q.ns++ [41]++hS (pM q)).length<=63;simp only[acZ,ac6,adh];lia
def GP.le(g:GP q)(lo:Bool):(pT lo q).length<=600000:=by
 have:=lJ lo q.b g.w;have:=g.c;have:=g.ct;unfold pT;rw[acZ,acZ,bx,bx];show _+(3+2)<=_
 lia
def GP.go(g:GP q)(lo:Bool)(ps:List Nd)(h8:ps.length<8)(n:Nat):Go (pT lo q) (I7 q.b) ⟨ps,[],n⟩ ⟨ps++ [(pF q).fin],[],n+I7 q.b⟩:=by obtain⟨X,x1,x2⟩:=g.o;exact Gq g.ok g.l (by have:=g.d;lia) (rdS lo q.b X x1 g.w x2) ps h8 n
def tB(lo:Bool)(g:Y1)(B:List Pc):Y1:=(B.map fun q=>g++pT lo q).flatten++g
noncomputable def nB(B:List Pc):Nat:=(B.map fun q=>I7 q.b).sum
theorem Cw(lo:Bool){g:Y1}(hg:∀c∈g,c=32\/c=10):∀(B:List Pc),(∀q∈B,GP q)->∀(ps:List Nd)(n:Nat),ps.length+B.length<=8->Go (tB lo g B) (nB B) ⟨ps,[],n⟩ ⟨ps++B.map fun q=>(pF q).fin,[],n+nB B⟩
 |[],_,ps,n,_=>by rw[adT,adD];exact AK hg
 |q::B,H,ps,n,h=>by
  rw[ac6]at h;have A:=(AK (ps:=ps) (n:=n) hg).app ((H q ac4).go lo ps ⋯ n);have C:=Cw lo hg B (fun x hx=>H x (ac1 _ hx)) (ps++ [(pF q).fin]) (n+I7 q.b) (by simp;lia);have D:=A.app C;have e:nB (q::B)=I7 q.b+nB B:=by unfold nB;rw[ac5,adQ]
  rw[ade ps,show n+I7 q.b+nB B=n+nB (q::B) by lia]at D;refine Go.as D ?_ ⋯;unfold tB;simp
def IN(K:Nat)(v:PV)(gq:GP q)(lo:Bool)(g T:Y1)(x5 x6:Option PV)(z:T.length+(g.length+(pT lo q).length)<=5000000)(sh:F K .G9 [.tup (q8 q.b),.bl lo]=.ok (.str (tS lo q.b))):∃y5 y6,cF (F K) [some v,some (.str g),some (.bl lo),some (.str T),some (pc q),x5,x6] []=.nx [some v,some (.str g),some (.bl lo),some (.str (T++(g++pT lo q))),some (pc q),y5,y6] []:=by
 have fb:=oG (bU q.b);have c1:=gq.ct;have jn:=fun h=>xh (y:=cs) (ls:=q.ns) (h:=h) ⋯ ⋯ (by have:=mh gq.ns gq.l;lia);have zn:=(iw gq.n).1;have zj:=mh gq.ns gq.l;have zt:=lJ lo q.b gq.w;have zc:=gq.c
 have zl:(pT lo q).length=(ar (.piece q.n q.ns (pM q))).length+2+(tS lo q.b).length+5:=by unfold pT;rw[acZ,acZ,bx,bx];rfl
 obtain⟨qn,qs,qm,qb⟩:=q;dsimp only at*;have hm:=gq.m;dsimp only at hm;rcases hm with rfl|⟨d,hd,rfl⟩
 .have fin:T++(g++pT lo ⟨qn,qs,none,qb⟩)=T++g++ [123,112,105,101,99,101,32]++(qn++ [40]++aI cs qs++ [41]++[])++[125]++tS lo qb++ [123,101,110,100,125]:=by simp[pT,m7,ar,pM,hS]
  have s0:∀h,yE [.non] h=.ok (.str [78,111,110,101]) h:=fun _=>rfl;refine⟨some (.str []),some (.str (qn++ [40]++aI cs qs++ [41]++[])),?_⟩;rw[fin];show cF (F K) [some v,some (.str g),some (.bl lo),some (.str T),some (.tup [.str tI,.str qn,.tup (qs.map PV.str),.non,.tup (q8 qb)]),x5,x6] []=_;generalize aI cs qs=J at*;simp(disch:=(first|lia|(simp only[acZ,ac6,adh];lia)))[EW,cF,TX,at1,at2,V3,Xp,s0,ai,fb,sh,bD,jn,bW];rfl
 .have fin:T++(g++pT lo ⟨qn,qs,some (d:Int),qb⟩)=T++g++ [123,112,105,101,99,101,32]++(qn++ [40]++aI cs qs++ [41]++([32,98,111,100,121,32]++[48+d]))++[125]++tS lo qb++ [123,101,110,100,125]:=by simp[pT,m7,ar,pM,hS]
  have s0:∀h,yE [.int (d:Nat)] h=.ok (.str [48+d]) h:=fun h=>by show Ao [.int (d:Nat)] h=_;unfold Ao;dsimp only;rw[if_pos (JR hd),JL hd]
  have isd:bP (.int (d:Nat))=false:=rfl;refine⟨some (.str ([32,98,111,100,121,32]++[48+d])),some (.str (qn++ [40]++aI cs qs++ [41]++([32,98,111,100,121,32]++[48+d]))),?_⟩;rw[fin];show cF (F K) [some v,some (.str g),some (.bl lo),some (.str T),some (.tup [.str tI,.str qn,.tup (qs.map PV.str),.int (d:Nat),.tup (q8 qb)]),x5,x6] []=_;generalize aI cs qs=J at*;simp(disch:=(first|lia|(simp only[acZ,ac6,adh];lia)))[EW,cF,TX,at1,at2,V3,Xp,s0,ai,fb,sh,bD,jn,isd];rfl
theorem BP(K:Nat)(v:PV)(lo:Bool)(g:Y1):∀(B:List Pc)(T:Y1)(x4 x5 x6:Option PV),(∀q∈B,GP q/\F K .G9 [.tup (q8 q.b),.bl lo]=.ok (.str (tS lo q.b)))->T.length+(B.map fun q=>g++pT lo q).flatten.length<=5000000->∃y4 y5 y6,bC (N6 4) (cF (F K)) (B.map pc) [some v,some (.str g),some (.bl lo),some (.str T),x4,x5,x6] []=.nx [some v,some (.str g),some (.bl lo),some (.str (T++(B.map fun q=>g++pT lo q).flatten)),y4,y5,y6] []
 |[],T,x4,x5,x6,_,_=>⟨x4,x5,x6,by rw[adT,adT,List.flatten_nil,adD];rfl⟩
 |q::B,T,x4,x5,x6,H,z=>by rw[ac5,aeC,acZ,acZ]at z;obtain⟨h1,h2⟩:=H q ac4;obtain⟨y5,y6,e⟩:=IN K v h1 lo g T x5 x6 ⋯ h2;obtain⟨z4,z5,z6,e2⟩:=BP K v lo g B (T++(g++pT lo q)) (some (pc q)) y5 y6 (fun x hx=>H x (ac1 _ hx)) (by rw[acZ,acZ];lia);refine⟨z4,z5,z6,?_⟩;rw[ac5,ac5,aeC,<- ade];exact afC (K7.fJ rfl e) e2
theorem KB(lo:Bool){g:Y1}(hg:g.length<=4):∀(B:List Pc),(∀q∈B,GP q)->(B.map fun q=>g++pT lo q).flatten.length<=B.length * 600004
 |[],_=>adx _
 |q::B,H=>by have:=(H q ac4).le lo;have:=KB lo hg B fun x hx=>H x (ac1 _ hx);rw[ac5,aeC,acZ,acZ,ac6,Nat.succ_mul];lia
def Ej(lo:Bool)(hg:g.length<=4)(hB:B.length<=8)(H:∀q∈B,GP q):(tB lo g B).length<=4900000:=by have:=KB lo hg B H;have:B.length * 600004<=8 * 600004:=ahA hB (adK _);unfold tB;rw[acZ];lia
def s6(K:Nat)(hK:9<=K)(lo:Bool)(hg:g.length<=4)(hB:B.length<=8)(H:∀q∈B,GP q):F (K+1) .s6 [bk B,.str g,.bl lo]=.ok (.str (tB lo g B)):=by
 obtain⟨k,rfl⟩:∃k,K=k+1:=⟨K - 1,by lia⟩
 show av (jk (F (k+1))) 3 7 [.tup (B.map pc),.str g,.bl lo]=_;have z1:=KB lo hg B H;have z2:B.length * 600004<=8 * 600004:=ahA hB (adK _);obtain⟨y4,y5,y6,lp⟩:=BP (k+1) (.tup (B.map pc)) lo g B [] none none none (fun q hq=>⟨H q hq,shS lo q.b k (by have:=(H q hq).d;lia) (by have:=(H q hq).d;lia) (H q hq).w (by have:=(H q hq).c;lia)⟩) (by rw[adh];lia);rw[aeh]at lp;unfold tB;generalize(B.map fun q=>g++pT lo q).flatten=X at*;simp(disch:=(first|lia|(simp only[acZ,ac6,adh];lia)))[EW,av,jk,lp,bD,aK]
def MN(K:Nat)(n:K7.Nd):Prop:=∀(v:PV)(a:Int),dX (F K) [some v,some (.int a),some (nd n)] []=.nx [some v,some (.int (a+(R8 n:Nat))),some (nd n)] []
theorem BL{K:Nat}(v:PV):∀(l:List K7.Nd)(a:Int)(x:Option PV),(∀n∈l,MN K n)->∃y,bC (N6 2) (dX (F K)) (l.map nd) [some v,some (.int a),x] []=.nx [some v,some (.int (a+((l.map R8).sum:Nat))),y] []
 |[],a,x,_=>⟨x,by rw[adT,adT,agB,show a+((0:Nat):Int)=a by lia];rfl⟩
 |n::r,a,x,H=>by obtain⟨y,e⟩:=BL v r (a+(R8 n:Nat)) (some (nd n)) fun m hm=>H m (ac1 _ hm);refine⟨y,?_⟩;rw[ac5,ac5,adQ,show a+((R8 n+(r.map R8).sum:Nat):Int)=a+(R8 n:Nat)+((r.map R8).sum:Nat) by lia];exact afC (K7.fJ rfl (H n ac4 v a)) e
theorem GU:∀b:K3,I7 b=(Uy b).length+((Uy b).map R8).sum
 |.nil=>by rw[I7];rfl
 |.cons n r=>by have:=GU r;rw[I7,Uy,ac6,ac5,adQ];lia
def jX{K:Nat}(b:K3)(H:∀n∈Uy b,MN K n):F (K+1) .Tw [.tup (q8 b)]=.ok (.int (I7 b:Nat)):=by
 show av (uw (F K)) 1 3 [.tup (q8 b)]=_;obtain⟨y,lp⟩:=BL (.tup (q8 b)) (Uy b) ((Uy b).length:Nat) none H;rw[<- oW,show(((Uy b).length:Nat):Int)+(((Uy b).map R8).sum:Nat)=(I7 b:Nat) by rw[GU];lia]at lp;have ln:∀h,bK [.tup (q8 b)] h=.ok (.int ((Uy b).length:Nat)) h:=fun h=>by rw[JS,oW,ac2]
 simp[EV,av,uw,ln,lp,aK]
mutual
theorem mnN:∀(n:K7.Nd)(K:Nat),dN n<=K->MN K n
 |.text s,K,_=>fun v a=>by
  rw[nd,R8,show a+((0:Nat):Int)=a by lia]
  .simp[EV,dX,TX,K7.Vx]
  all_goals intros;contradiction
 |.place p s,K,_=>fun v a=>by
  rw[nd,R8,show a+((0:Nat):Int)=a by lia]
  .simp[EV,dX,TX,K7.Vx]
  all_goals intros;contradiction
 |.loop x p b t,K,hK=>fun v a=>by
  rw[dN]at hK;obtain⟨k,rfl⟩:∃k,K=k+1:=⟨K - 1,by lia⟩
  have h:=jX b (mnA b k ⋯);have fb:=oG (bU b);rw[nd,R8];simp[EV,dX,TX,V3,K7.Vx,ai,fb,h]
 |.choice p y z,K,hK=>fun v a=>by
  rw[dN]at hK;have m1:=ad4 (dS y) (dS z);have m2:=adX (dS y) (dS z);obtain⟨k,rfl⟩:∃k,K=k+1:=⟨K - 1,by lia⟩
  have h1:=jX y (mnA y k ⋯);have h2:=jX z (mnA z k ⋯);have fb:=oG (bU y);have fc:=oG (bU z);rw[nd,R8,show a+((I7 y+I7 z:Nat):Int)=a+(I7 y:Nat)+(I7 z:Nat) by lia];simp[EV,dX,TX,at2,V3,K7.Vx,ai,fb,fc,h1,h2]
 |.use x ps,K,_=>fun v a=>by
  rw[nd,R8,show a+((0:Nat):Int)=a by lia]
  .simp[EV,dX,TX,Xp,K7.Vx,bW]
  all_goals intros;contradiction
 |.I_ x ps h b,K,hK=>fun v a=>by
  rw[dN]at hK;obtain⟨k,rfl⟩:∃k,K=k+1:=⟨K - 1,by lia⟩
  have h:=jX b (mnA b k ⋯);have fb:=oG (bU b);rw[nd,R8];simp[EV,dX,TX,Xp,K7.Vx,ai,fb,h,eN]
 |.body ps,K,_=>fun v a=>by
  rw[nd,R8,show a+((0:Nat):Int)=a by lia]
  .simp[EV,dX,TX,K7.Vx]
  all_goals intros;contradiction
theorem mnA:∀(b:K3)(K:Nat),dS b<=K->∀n∈Uy b,MN K n
 |.nil,_,_,n,h=>by cases h
 |.cons m r,K,hK,n,h=>by
  rw[dS]at hK;have m1:=ad4 (dN m) (dS r);have m2:=adX (dN m) (dS r);rcases ac8.mp h with e|h
  .rw[e];exact mnN m K ⋯
  .exact mnA r K ⋯ n h
end
abbrev Qc(c:Nat):Prop:=c=10\/(32<=c/\c<127/\c≠37)
def Qs(l:Y1):Prop:=∀c∈l,Qc c
def Qs.app{a b:Y1}(x:Qs a)(y:Qs b):Qs (a++b):=fun c hc=>(adv.mp hc).elim (x c) (y c)
def Qs.nil:Qs []:=fun c hc=>nomatch hc
def TJ(l:Y1)(h:(l.all fun c=>decide (c=10\/(32<=c/\c<127/\c≠37)))=true):Qs l:=fun c hc=>of_decide_eq_true (adn.mp h c hc)
def qd{w:Y1}(h:aM w=true):Qs w:=fun c hc=>by have:=ig h c hc;exact .inr ⟨by lia,by lia,by lia⟩
def Al{y:Y1}{ls:Ya}(hy:Qs y)(h:∀w∈ls,Qs w):Qs (aI y ls):=fun c hc=>(jc hc).elim (hy c) (by rintro ⟨w,hw,z⟩;exact h w hw c z)
def nM(o:bO p):Qs (aA p):=Al (TJ _ rfl) fun w hw=>qd (o.2.2 w hw)
def wJ(o:∀p∈ps,bO p):Qs (aO ps):=Al (TJ _ rfl) fun w hw=>by obtain⟨p,hp,rfl⟩:=adM.mp hw;exact nM (o p hp)
def Bt{ns:Ya}(o:∀w∈ns,aM w=true):Qs (aI cs ns):=Al (TJ _ rfl) fun w hw=>qd (o w hw)
def JN{w:Y1}(h:w∈bu):Qs w:=TJ w ((by decide:∀w∈bu,(w.all fun c=>decide (c=10\/(32<=c/\c<127/\c≠37)))=true) w h)
theorem Dg:∀{c:m8},c.Ok->Qs (ar c)
 |.WT,_=>TJ _ rfl
 |.cls,_=>TJ _ rfl
 |.fin,_=>TJ _ rfl
 |.els,_=>TJ _ rfl
 |.Ul,_=>TJ _ rfl
 |.place p w,o=>by
  show Qs (if w=dq then aA p else aA p++V_++w)
  split
  .exact nM o.1
  .exact((nM o.1).app (TJ _ rfl)).app (JN o.2)
 |.loop n p,o=>(((TJ mX rfl).app (qd o.1)).app (TJ _ rfl)).app (nM o.2)
 |.cond p,o=>(TJ X6 rfl).app (nM o)
 |.use a ps none,o=>((((TJ jx rfl).app (qd o.1)).app (TJ _ rfl)).app (wJ o.2.1)).app (TJ _ rfl)
 |.use a ps (some l),o=>((((((TJ jx rfl).app (qd o.1)).app (TJ _ rfl)).app (wJ o.2.1)).app (TJ _ rfl)).app (TJ _ rfl)).app (Bt (o.2.2 l rfl))
 |.body ps,o=>((TJ jy rfl).app (wJ o)).app (TJ _ rfl)
 |.piece a ns m,o=>(((((TJ fU rfl).app (qd o.1)).app (TJ _ rfl)).app (Bt o.2.1)).app (TJ _ rfl)).app (by
  cases m with
  |none=>exact Qs.nil
  |some d=>refine(TJ lI rfl).app fun c hc=>?_;have:=o.2.2 d rfl;rw[adl.mp hc];exact .inr ⟨by lia,by lia,by lia⟩)
def sY(h:Qs t):Qs (m7 t):=(Qs.app (TJ [123] rfl) h).app (TJ [125] rfl)
def JO(h:Qs t):Qs (esc t):=fun c hc=>by
 unfold esc at hc;obtain⟨l,hl,hc⟩:=agh.mp hc;obtain⟨d,hd,rfl⟩:=adM.mp hl;unfold gF at hc
 split at hc
 .exact TJ [123,40,125] rfl c hc
 .split at hc
  .exact TJ [123,41,125] rfl c hc
  .rw[adl.mp hc];exact h d hd
def NG(h:sg t=true):Qs t:=TJ t (CT h)
mutual
theorem q_N(lo:Bool):∀n:K7.Nd,wN n=true->Qs (tN lo n)
 |.text s,w=>by rw[wN,ac7]at w;rw[tN];exact JO (NG w.1)
 |.place p s,w=>by
  have c:bO (pL p)/\s∈bu:=cJ w;rw[tN];refine sY ?_;unfold asL
  split
  .exact((nM c.1).app (TJ _ rfl)).app (JN c.2)
  .exact nM c.1
 |.loop x p b t,w=>by
  have c:=Dg (cJ w);rw[wN,ac7,ac7,ac7]at w;rw[tN];refine((sY c).app ((q_S lo b w.2.2.1).app ?_)).app (TJ _ rfl);unfold X3
  split
  .exact(TJ (m7 fQ) rfl).app (JO (NG w.2.2.2))
  .exact Qs.nil
 |.choice p y z,w=>by
  have c:=Dg (cJ w);rw[wN,ac7,ac7]at w;rw[tN];refine((sY c).app ((q_S lo y w.2.1).app ?_)).app (TJ _ rfl);unfold Yp;refine Qs.app ?_ (q_S lo z w.2.2)
  split
  .exact TJ (m7 dj) rfl
  .exact Qs.nil
 |.use x ps,w=>by have c:=Dg (cJ w);rw[tN];exact sY c
 |.I_ x ps h b,w=>by have c:=Dg (cJ w);rw[wN,ac7,ac7,ac7,ac7]at w;rw[tN];exact((sY c).app (q_S lo b w.2.2.2.2)).app (TJ _ rfl)
 |.body ps,w=>by have c:=Dg (cJ w);rw[tN];exact sY c
theorem q_S(lo:Bool):∀b:K3,wS b=true->Qs (tS lo b)
 |.nil,_=>by rw[tS];exact Qs.nil
 |.cons n r,w=>by rw[wS,ac7,ac7]at w;rw[tS];exact(q_N lo n w.1).app (q_S lo r w.2.1)
end
def q_B(lo:Bool)(hg:∀c∈g,c=32\/c=10)(H:∀q∈B,GP q):Qs (tB lo g B):=by have qg:Qs g:=fun c hc=>(hg c hc).elim (fun e=>.inr ⟨by lia,by lia,by lia⟩) .inl;refine Qs.app (fun c hc=>?_) qg;obtain⟨l,hl,hc⟩:=agh.mp hc;obtain⟨q,hq,rfl⟩:=adM.mp hl;have G:=H q hq;exact(qg.app (((sY (Dg G.ok)).app (q_S lo q.b G.w)).app (TJ _ rfl))) c hc
def Qf:∀c<127,(c=10\/(32<=c/\c≠37))->jM.contains c=true:=by decide
def Qs.sg(h:Qs x):x.all jM.contains=true:=adn.mpr fun c hc=>Qf c (by rcases h c hc with e|e<;>lia) (by rcases h c hc with e|e<;>lia)
def Qs.lt(h:Qs x):Lt x:=fun c hc=>by rcases h c hc with e|e<;>lia
def Nu(lo:Bool)(hg:∀c∈g,c=32\/c=10)(hB:B.length<=8)(H:∀q∈B,GP q):
  (nB B<=200->run (fH (tB lo g B)) 0 st0=.inr ⟨B.map fun q=>(pF q).fin,[],nB B⟩)/\(¬ nB B<=200->∃q,run (fH (tB lo g B)) 0 st0=.inl q):=by
 have G:=Cw lo hg B H [] 0 (by rw[adh];lia);rw[aeh,af3]at G;refine⟨fun h=>?_,fun h=>?_⟩
 .obtain⟨p,e⟩:=G.y (by show 0+nB B<=200;lia) [] 0;rw[adD]at e;rw[e,Ez,run]
 .obtain⟨q,e⟩:=G.n (adx _) (by show 200<0+nB B;lia) [] 0;rw[adD]at e;exact⟨q,e⟩
def Fh(H:∀q∈B,GP q):(B.map fun q=>(pF q).fin).map Nd.pv=B.map pc:=by rw[adB];exact afe fun q hq=>(H q hq).pv
theorem Kr{fn:Y2->Y3->Res PV}{v:PV}(hv:v.pure=true)(h:Y3):I9 fn [v] h=match fn [v] []with
  |.ok w hs=>if w.pure=true/\eG hs=true/\hs.length=0 then .ok w h else .bad
  |.exc w hs=>if w.pure=true/\eG hs=true/\hs.length=0 then .exc w h else .bad
  |.bad=>.bad:=by
 have nr:Wz [v]=[]/\Y8 0 [v]=[v]/\qr [v]=true:=by cases v<;>first|(refine⟨rfl,rfl,?_⟩;show(PV.pure _&&true)=true;rw[hv];rfl)|cases hv
 unfold I9;rw[nr.1];show(if(qr [v]&&eG []&&nS [])=true then _ else _)=_;rw[nr.2.1,nr.2.2,if_pos ⋯]
 cases fn [v] []with
 |ok w hs=>cases hs<;>rfl
 |exc w hs=>cases hs<;>rfl
 |bad=>rfl
def DA(k:Nat){w:PV}(hw:w.pure=true)(nr:∀l,w≠.ref l)(r:X_ (k+1) .read [.str x] []=.ok w []):F (k+2) .T7 [.str x]=.ok w:=by
 show av (gJ (F (k+1)) (X_ (k+1))) 1 1 [.str x]=_;have c:=Kr (fn:=X_ (k+1) .read) (v:=.str x) rfl [];rw[r]at c;dsimp only at c;rw[if_pos ⟨hw,rfl,rfl⟩]at c;have fz:=Mv hw nr
 have e:gJ (F (k+1)) (X_ (k+1)) [some (.str x)] []=.rt w []:=by unfold gJ yh;simp[EV,c]
 show(match gJ (F (k+1)) (X_ (k+1)) [some (.str x)] []with|.nx _ _=>Out.ok .non|.rt v h=>aK v h|_=>.bad)=_;rw[e];show aK w []=_;unfold aK;rw[fz]
def vw(k:Nat){a:PV}(ha:a.pure=true)(r:X_ (k+1) .read [.str x] []=.exc (.Wn 3 a) []):F (k+2) .T7 [.str x]=.ok .non:=by
 have c:=Kr (fn:=X_ (k+1) .read) (v:=.str x) rfl [];rw[r]at c;dsimp only at c;rw[if_pos ⟨by rw[PV.pure];exact ha,rfl,rfl⟩]at c
 have e:gJ (F (k+1)) (X_ (k+1)) [some (.str x)] []=.rt .non []:=by
  unfold gJ yh;have e1:aL (aN (X_ (k+1) .read) aak) [some (.str x)] []=.exc (.Wn 3 a) []:=by simp[EV,c]
  rw[e1];rfl
 show av (gJ (F (k+1)) (X_ (k+1))) 1 1 [.str x]=_;show(match gJ (F (k+1)) (X_ (k+1)) [some (.str x)] []with|.nx _ _=>Out.ok .non|.rt v h=>aK v h|_=>.bad)=_;rw[e];rfl
def Hw(k:Nat)(hB:B.length<=8)(H:∀q∈B,GP q):F (k+lv 8+7) .shown [bk B]=.ok (.str (tB false [] B)):=by
 have e:shs (B.map fun q=>(pF q).fin)=tB false [] B:=by unfold shs tB;rw[adB,adD];exact congrArg List.flatten (afe fun q hq=>(H q hq).sh)
 have:=AT k (l:=B.map fun q=>(pF q).fin) (fun x hx=>by obtain⟨q,hq,rfl⟩:=adM.mp hx;exact⟨_,rfl,(H q hq).po⟩) (by rw[e];exact adu (Ej false (g:=[]) ⋯ hB H) ⋯);rw[e]at this;rw[<- this];show F _ _ [PV.tup (B.map pc)]=F _ _ [PV.tup ((B.map fun q=>(pF q).fin).map Nd.pv)];rw[Fh H]
def ID(k:Nat)(lo:Bool)(hg:∀c∈g,c=32\/c=10)(gl:g.length<=4)(hB:B.length<=8)(hn:B≠ [])(H:∀q∈B,GP q):F (k+10) .T7 [.str (tB lo g B)]=.ok (if nB B<=200/\(tB lo g B).length<=4000 then bk B else .non):=by
 have Q:=q_B lo hg H;have zx:=Ej lo gl hB H;obtain⟨r1,r2⟩:=Nu lo hg hB H
 by_cases hl:(tB lo g B).length<=4000
 .have it:Vj (tB lo g B) 4000=true:=by unfold Vj;rw[decide_eq_true hl,Q.sg];rfl
  have gd:ey (tB lo g B):=⟨by lia,Q.lt⟩
  have pb:(bk B).pure=true:=by show am (B.map pc)=true;exact jQ B
  have ep:M7 (B.map fun q=>(pF q).fin)=bk B:=by show PV.tup _=PV.tup _;rw[Fh H]
  by_cases h2:nB B<=200
  .rw[if_pos ⟨h2,hl⟩];have rd:=read k gd it (fun st e=>by rw[r1 h2]at e;cases e;show am _=true;rw[Fh H];exact jQ B);rw[r1 h2]at rd;refine DA (k+8) pb (fun l q=>by cases q) (rd.trans ?_);unfold EU;dsimp only;rw[if_neg (fun z=>z.elim (fun y=>y rfl) fun y=>hn (ahJ.mp y)),ep]
  .rw[if_neg fun z=>h2 z.1];obtain⟨q,e⟩:=r2 h2;have rd:=read k gd it (fun st e'=>by rw[e]at e';cases e');rw[e]at rd;exact vw (k+8) (a:=.int q) rfl rd
 .rw[if_neg fun z=>hl z.2]
  have it:F (k+8) .M5 [.str (tB lo g B),.int 4000]=.ok (.bl false):=by rw[M5 (k+6) ⋯];unfold Vj;rw[decide_eq_false hl];rfl
  exact vw (k+8) (a:=.non) rfl (ET k rfl it)
def LB{xs:Y2}(g:Gd 40 1000000 (.tup xs)):okR (toD (.tup xs))=true:=by obtain⟨a1,a2,a3,a4,a5,a6,a7⟩:=g;have z:=PyData.shown_fits (B:=13) ⋯ ⋯ (PyData.leavesShort_of_canLay0 13 (toD (.tup xs)) a2 a6) ⋯;unfold okR;rw[a2,a5,PyData.hasDict_of_canLay _ a2,decide_eq_true z,decide_eq_true ⋯];rfl
def YF.mono{n n' w w':Nat}{v:Y2}(a:YF n w v)(h1:n<=n')(h2:w<=w'):YF n' w' v:=⟨a.pure,a.lay,adu a.dep h1,adu a.wt h2,a.sh,a.iz,a.sg⟩
def xm(o:bO p):Gd 2 36 (aR p):=(du (kU fun x hx=>gX (o.2.2 x hx))).mono (adK _) (by have:=o.2.1;lia)
def xl(o:∀p∈ps,bO p)(l:ps.length<=4):Gd 3 148 (.tup (ps.map aR)):=(du (kU fun x hx=>xm (o x hx))).mono (adK _) ⋯
def zA{l:Ya}(o:∀w∈l,aM w=true)(h:l.length<=4):Gd 2 36 (aR l):=(du (kU fun x hx=>gX (o x hx))).mono (adK _) ⋯
theorem Rj{d:Nat}(h:d<4):Gd 1 10 (.int (d:Nat)):=by
 match d,h with
 |0,_=>exact⟨rfl,by decide+kernel,by decide+kernel,by decide+kernel,by decide+kernel,by decide+kernel,by decide+kernel⟩
 |1,_=>exact⟨rfl,by decide+kernel,by decide+kernel,by decide+kernel,by decide+kernel,by decide+kernel,by decide+kernel⟩
 |2,_=>exact⟨rfl,by decide+kernel,by decide+kernel,by decide+kernel,by decide+kernel,by decide+kernel,by decide+kernel⟩
 |3,_=>exact⟨rfl,by decide+kernel,by decide+kernel,by decide+kernel,by decide+kernel,by decide+kernel,by decide+kernel⟩
def zy(w:Y1)(h:ltB w=true)(hl:w.length<=8):Gd 1 8 (.str w):=je (fA h) hl
def fW{m n w w':Nat}{v:PV}{vs:Y2}(a:Gd m w v)(b:YF n w' vs)(h:m<=n):YF n (w+1+w') (v::vs):=dT (a.mono h (adK _)) b
mutual
theorem gdN:∀n:K7.Nd,wN n=true->Gd (2 * dN n+5) (300 * R8 n+250) (nd n)
 |.text s,w=>by rw[wN,ac7]at w;rw[nd];exact(du (n:=4) (fW (zy tT rfl ⋯) (fW (je (lK w.1) (nH w.1)) (eR _ 0) ⋯) ⋯)).mono ⋯ ⋯
 |.place p s,w=>by have c:bO (pL p)/\s∈bu:=cJ w;rw[nd];exact(du (n:=4) (fW (zy tP rfl ⋯) (fW (xm c.1) (fW (je (lK (we (decide_eq_true c.2))) (nH (we (decide_eq_true c.2)))) (eR _ 0) ⋯) ⋯) ⋯)).mono ⋯ ⋯
 |.loop x p b t,w=>by have c:aM x=true/\bO (pL p):=cJ w;rw[wN,ac7,ac7,ac7]at w;rw[nd,dN,R8];exact(du (fW (zy tL rfl ⋯) (fW (gX c.1) (fW (xm c.2) (fW (du (gdS b w.2.2.1)) (fW (je (lK w.2.2.2) (nH w.2.2.2)) (eR (2 * dS b+6) 0) ⋯) ⋯) ⋯) ⋯) ⋯)).mono ⋯ ⋯
 |.choice p y z,w=>by have c:bO (pL p):=cJ w;rw[wN,ac7,ac7]at w;rw[nd,dN,R8];have m1:=ad4 (dS y) (dS z);have m2:=adX (dS y) (dS z);exact(du (fW (zy tC rfl ⋯) (fW (xm c) (fW (du (gdS y w.2.1)) (fW (du (gdS z w.2.2)) (eR (2 * max (dS y) (dS z)+6) 0) ⋯) ⋯) ⋯) ⋯)).mono ⋯ ⋯
 |.use x ps,w=>by rw[wN,ac7]at w;rw[nd,qh];exact(du (n:=4) (fW (zy tU rfl ⋯) (fW (gX w.1) (fW (xl (bT w.2).1 (bT w.2).2) (fW ua (fW ua (eR _ 0) ⋯) ⋯) ⋯) ⋯) ⋯)).mono ⋯ ⋯
 |.I_ x ps h b,w=>by rw[wN,ac7,ac7,ac7,ac7,decide_eq_true_eq]at w;rw[nd,dN,R8,qh];exact(du (fW (zy tU rfl ⋯) (fW (gX w.1) (fW (xl (bT w.2.1).1 (bT w.2.1).2) (fW (zA (fun z hz=>adn.mp w.2.2.1 z hz) (by have:=w.2.2.2.1;lia)) (fW (du (gdS b w.2.2.2.2)) (eR (2 * dS b+6) 0) ⋯) ⋯) ⋯) ⋯) ⋯)).mono ⋯ ⋯
 |.body ps,w=>by rw[wN]at w;rw[nd,qh];exact(du (n:=4) (fW (zy K7.tB rfl ⋯) (fW (xl (bT w).1 (bT w).2) (eR _ 0) ⋯) ⋯)).mono ⋯ ⋯
theorem gdS:∀b:K3,wS b=true->YF (2 * dS b+5) (300 * I7 b) (q8 b)
 |.nil,_=>by rw[q8];exact eR _ _
 |.cons n r,w=>by rw[wS,ac7,ac7]at w;have m1:=ad4 (dN n) (dS r);have m2:=adX (dN n) (dS r);rw[q8,dS,I7];exact(dT ((gdN n w.1).mono (n':=2 * max (dN n) (dS r)+5) ⋯ (adK _)) ((gdS r w.2.1).mono (n':=2 * max (dN n) (dS r)+5) ⋯ (adK _))).mono (adK _) ⋯
end
def OL(g:GP q):Gd 20 (300 * I7 q.b+100) (pc q):=by
 have gm:Gd 1 10 (W7 q.m):=by
  rcases g.m with h|⟨d,hd,h⟩<;>rw[h]
  .exact ua.mono ⋯ ⋯
  .exact Rj hd
 exact(du (fW (zy tI rfl ⋯) (fW (gX g.n) (fW (zA g.ns g.l) (fW gm (fW (du (gdS q.b g.w)) (eR 19 0) (by have:=g.d;lia)) ⋯) ⋯) ⋯) ⋯)).mono ⋯ ⋯
theorem Gr:∀{B:List Pc},(∀q∈B,GP q)->YF 20 (300 * nB B+101 * B.length) (B.map pc)
 |[],_=>eR _ _
 |q::B,H=>by
  have e:nB (q::B)=I7 q.b+nB B:=by unfold nB;rw[ac5,adQ]
  exact(dT (OL (H q ac4)) (Gr fun x hx=>H x (ac1 _ hx))).mono (adK _) (by rw[e,ac6];lia)
def KV(H:∀q∈B,GP q)(hB:B.length<=8)(z:nB B<=200):∃X:Y1,(∀h,yF [bk B] h=.ok (.str X) h)/\∀h,Vs (.str X) (.str X) h=.ok (.bl false) h:=by
 have gd:Gd 40 1000000 (bk B):=(du (Gr H)).mono ⋯ ⋯;have o:=LB gd;refine⟨(toD (bk B)).shown.cps.toList,fun h=>?_,fun h=>?_⟩
 .show(if okR (toD (bk B))=true then Res.ok (PV.str (toD (bk B)).shown.cps.toList) h else .bad)=_;exact if_pos o
 .rw[lZ _ _ h gd.sg gd.sg,decide_eq_true rfl];rfl
end K7.R
namespace K7
def vQ(k:Nat)(cs:List Int)(i:Nat):∃z:Int,F (k+1) .K5 [cv cs,.int (i:Nat)]=.ok (.int z):=by
 have r2:F (k+1) .K5 [cv cs,.int (i:Nat)]=match jw (F k) [some (cv cs),some (.int (i:Nat))] []with
   |.nx _ _=>.ok .non
   |.rt v h=>aK v h
   |_=>.bad:=rfl
 have ln:∀h,bK [cv cs] h=.ok (.int cs.length) h:=fun h=>by unfold cv;rw[JV,ac2]
 by_cases hi:i<cs.length
 .refine⟨cs[i],?_⟩;have z:decide (((i:Nat):Int)<(cs.length:Nat))=true:=decide_eq_true ⋯
  have ix:∀h,b_ (cv cs) (.int (i:Nat)) h=.ok (.int cs[i]) h:=fun h=>by unfold cv;rw[Oh,eJ (v:=PV.int cs[i]) ⋯ (by rw[show((i:Nat):Int).toNat=i by lia,adO,adz hi];rfl),Op];rfl
  rw[r2];simp[EH,jw,bR,ln,z,ix];rfl
 .refine⟨0,?_⟩;have z:decide (((i:Nat):Int)<(cs.length:Nat))=false:=decide_eq_false ⋯;rw[r2];simp[EH,jw,bR,ln,z];rfl
variable{B:List Pc}
abbrev lE(cs:List Int)(c:Int)(B:List Pc)(s:PV)(T U:Y1)(f:Bool)(x8 x9 Wu:Option PV):Ev:=[some (cv cs),some (.ref 0),some (.int c),some (bk B),some s,some (.str T),some (.str U),some (.bl f),x8,x9,Wu]
theorem Gn:∀B:List Pc,mx (B.map fun q=>PV.int (I7 q.b:Nat))=some (B.map fun q=>((I7 q.b:Nat):Int))
 |[]=>rfl
 |q::r=>by rw[ac5,mx,Gn r];rfl
theorem JK:∀B:List Pc,(B.map fun q=>((I7 q.b:Nat):Int)).sum=(R.nB B:Nat)
 |[]=>rfl
 |q::r=>by have:=JK r;unfold R.nB at*;rw[ac5,ac5,adQ,adQ,this];lia
def Ka(K:Nat)(hK:10<=K)(lo:Bool){g:Y1}(hg:∀c∈g,c=32\/c=10)(gl:g.length<=4)(hB:B.length<=8)(hn:B≠ [])(H:∀q∈B,R.GP q)(cs:List Int)(c:Int)(s:PV)(T U:Y1)(x8 Wu:Option PV)(h:Y3):∃Xu,mI (F K) (lE cs c B s T U (decide (((R.nB B:Nat):Int)<201)) x8 (some (.str (R.tB lo g B))) Wu) h=.nx (lE cs c B s T U (decide (((R.nB B:Nat):Int)<201)) x8 (some (.str (R.tB lo g B))) Xu) h:=by
 obtain⟨k,rfl⟩:∃k,K=k+10:=⟨K - 10,by lia⟩
 have rd:=R.ID k lo hg gl hB hn H;have zx:=R.Ej lo gl hB H;have ln:∀h,bK [.str (R.tB lo g B)] h=.ok (.int (R.tB lo g B).length) h:=fun h=>by rw[JT,if_pos (show(R.tB lo g B).length<=sizeLine from adu zx ⋯)]
 by_cases q:R.nB B<=200/\(R.tB lo g B).length<=4000
 .rw[if_pos q]at rd;have cr:∀h,fM (F (k+10) .T7) [.str (R.tB lo g B)] h=.ok (bk B) h:=fun h=>eF h rfl rd;obtain⟨X,e1,e2⟩:=R.KV H hB q.1;have t1:decide (((R.nB B:Nat):Int)<201)=true:=decide_eq_true ⋯;have t2:decide (((R.tB lo g B).length:Int)<4001)=true:=decide_eq_true ⋯;have ib:bP (bk B)=false:=rfl;refine⟨some (bk B),?_⟩;rw[t1];generalize R.tB lo g B=x at*;simp[EH,mI,cr,ln,t2,ib,e1,e2]
 .rw[if_neg q]at rd;have cr:∀h,fM (F (k+10) .T7) [.str (R.tB lo g B)] h=.ok .non h:=fun h=>eF h rfl rd;refine⟨some .non,?_⟩
  cases t1:decide (((R.nB B:Nat):Int)<201)with
  |false=>generalize R.tB lo g B=x at*;simp[EH,mI,cr,Me]
  |true=>have t2:decide (((R.tB lo g B).length:Int)<4001)=false:=decide_eq_false fun z=>q ⟨by have:=of_decide_eq_true t1;lia,by lia⟩;generalize R.tB lo g B=x at*;simp[EH,mI,cr,ln,t2,Me]
def sI(B:List Pc):(bk B).pure=true:=by unfold bk;rw[PV.pure];exact jQ B
def Jy{fn:Y2->Y3->Res PV}(cs:List Int)(l2:Y2)(h2:am l2=true){n m n' m':Int}{v:PV}(hv:v.pure=true)(e:fn (cv cs::.ref 0::l2) [f9 n m]=.ok v [f9 n' m'])(r:Y3):I9 fn (cv cs::.ref 0::l2) (f9 n m::r)=.ok v (f9 n' m'::r):=
 iU (fn:=fn) [cv cs] l2 (by rw[am,mR];rfl) h2 rfl (fP _ _) e hv (fP _ _)
def JZ(K:Nat)(hK:31<=K)(lo:Bool){g:Y1}(hg:∀c∈g,c=32\/c=10)(gl:g.length<=4)(hB:B.length<=8)(hn:B≠ [])(H:∀q∈B,R.GP q)(cs:List Int)(c:Int)(s:PV)(i:PV)(x9 Wu:Option PV)(h:Y3):∃y9 Xu,rR (F K) (lE cs c B s (R.tB false [] B) (R.tB lo g B) (decide (((R.nB B:Nat):Int)<201)) (some i) x9 Wu) h=.nx (lE cs c B s (R.tB false [] B) (R.tB lo g B) (decide (((R.nB B:Nat):Int)<201)) (some i) y9 Xu) h:=by
 obtain⟨k,rfl⟩:∃k,K=k+R.lv 8+7:=⟨K - 31,by show K=K - 31+24+7;lia⟩
 have sh:=R.Hw k hB H;have cw:∀h,fM (F (k+R.lv 8+7) .shown) [bk B] h=.ok (.str (R.tB false [] B)) h:=fun h=>eF h (by rw[am,sI];rfl) sh;have Q:=(R.q_B false (g:=[]) (fun c hc=>nomatch hc) H).lt;have ne:∀h,Vs (.str (R.tB false [] B)) (.str (R.tB false [] B)) h=.ok (.bl false) h:=fun h=>by rw[lZ _ _ _ Q Q,decide_eq_true rfl];rfl
 obtain⟨y1,e1⟩:=Ka (k+R.lv 8+7) ⋯ false (g:=[]) (fun c hc=>nomatch hc) ⋯ hB hn H cs c s (R.tB false [] B) (R.tB lo g B) (some i) Wu h;obtain⟨y2,e2⟩:=Ka (k+R.lv 8+7) ⋯ lo hg gl hB hn H cs c s (R.tB false [] B) (R.tB lo g B) (some i) y1 h
 have lp:bC (N6 9) (mI (F (k+R.lv 8+7))) [.str (R.tB false [] B),.str (R.tB lo g B)] (lE cs c B s (R.tB false [] B) (R.tB lo g B) (decide (((R.nB B:Nat):Int)<201)) (some i) x9 Wu) h=.nx (lE cs c B s (R.tB false [] B) (R.tB lo g B) (decide (((R.nB B:Nat):Int)<201)) (some i) (some (.str (R.tB lo g B))) y2) h:=by refine(fJ rfl e1).trans ?_;refine(fJ rfl e2).trans ?_;rw[bC]
 refine⟨some (.str (R.tB lo g B)),y2,?_⟩;have is:∀x h,gW [.str x,.ty "str"] h=.ok (.bl true) h:=fun _ _=>rfl;generalize R.tB false [] B=T at*;generalize R.tB lo g B=U at*;generalize decide (((R.nB B:Nat):Int)<201)=f at*;simp[EH,BR,Gi,rR,cw,ut,ne,is,lp]
def OI(G:GB B):∀q∈B,R.GP q:=fun q hq=>by
 obtain⟨w,d,c,l⟩:=G.g q hq;rw[wC,acX,acX,acX,acX]at w;have m4:=G.mm;refine⟨w.1,fun x hx=>adn.mp w.2.1 x hx,w.2.2.2.1,d,c,l,?_,⟨(B.map Vd,q.m,q.ns),⟨fun p hp i e=>?_,fun i e=>(m4 q hq i e).2⟩,G.o q hq⟩⟩
 .cases e:q.m with
  |none=>exact .inl rfl
  |some i=>obtain⟨a,b⟩:=m4 q hq i e;exact .inr ⟨i.toNat,by lia,by rw[ahM a]⟩
 .obtain⟨z,hz,rfl⟩:=adM.mp hp;exact(m4 z hz i e).2
def Mu(c:Int):∃g:Y1,(∀c∈g,c=32\/c=10)/\g.length<=4/\∀h,b_ (.lst [.str [],.str [32],.str [10],.str [10,32,32,10]]) (.int (c / 2 % 4)) h=.ok (.str g) h:=by
 obtain⟨a,b⟩:=bj (c / 2) (by decide:(0:Int)<4);rcases(show c / 2 % 4=0\/c / 2 % 4=1\/c / 2 % 4=2\/c / 2 % 4=3 by lia)with q|q|q|q<;>rw[q]
 .exact⟨[],by simp,by decide,fun h=>rfl⟩
 .exact⟨[32],by simp,by decide,fun h=>rfl⟩
 .exact⟨[10],by simp,by decide,fun h=>rfl⟩
 .exact⟨[10,32,32,10],by simp,by decide,fun h=>rfl⟩
def lQ(r:SR):Prop:=(match r with|.nx _ _=>Out.ok .non|.rt v h=>aK v h|_=>.bad)=.ok (.bl true)
def LU(K:Nat)(hK:40<=K)(cs:List Int)(hc:cs.length<=63):F (K+1) .law [cv cs]=.ok (.bl true):=by
 obtain⟨k,rfl⟩:∃k,K=k+1:=⟨K - 1,by lia⟩
 obtain⟨c,cz⟩:=vQ k cs 0;obtain⟨v,cy⟩:=vQ k cs 1;have ca:∀h,fM (F (k+1) .K5) [cv cs,.int 0] h=.ok (.int c) h:=fun h=>eF h (by rw[am,mR];rfl) cz;have cb:∀h,fM (F (k+1) .K5) [cv cs,.int 1] h=.ok (.int v) h:=fun h=>eF h (by rw[am,mR];rfl) cy;obtain⟨ms,m1,m2,m3,m5⟩:=FI k v;have cn:∀h,fM (F (k+1) .Ua) [.int v] h=.ok (Te ms) h:=fun h=>eF h rfl m5;obtain⟨A,s,n1,k1,GA,_,_,a4,a5,a6⟩:=JA k ⋯ cs hc ms m1 m2 m3 (decide (c % 2=1)) false 0 30 ⋯ ⋯;have pv:(PV.tup [bk A,H9 s]).pure=true:=by rw[PV.pure,am,am,sI,hZ];rfl
 have cA:=Jy (fn:=L (k+1) .Vh) cs [Te ms,.bl (decide (c % 2=1)),.bl false] (by rw[am,tO];rfl) pv a6 [];have d0:∀(n m:Int),aj [f9 n m] (.ref 0)=.ref 0:=fun _ _=>rfl;have lm:gD [.int 0,.int 30] []=.ok (.ref 0) [f9 0 30]:=rfl;have HA:=OI GA;have l1:=GA.l1;have l4:=GA.l4;have sd:∀h,aj h (H9 s)=H9 s:=fun _=>rfl
 obtain⟨B,hB,hn,H,eB⟩:∃B:List Pc,B.length<=8/\B≠ []/\(∀q∈B,R.GP q)/\o8 (au (c2 o9 (c2 cu (c2 ei (ag 2) (cK (.int 16))) aao) aac)) (aH 3 (c2 ak (ag 3) (ag 3))) aS [some (cv cs),some (.ref 0),some (.int c),some (bk A),some (H9 s),none,none,none,none,none,none] [f9 n1 k1]=.nx [some (cv cs),some (.ref 0),some (.int c),some (bk B),some (H9 s),none,none,none,none,none,none] [f9 n1 k1]:=by
  have ne:A≠ []:=fun z=>by rw[z]at l1;exact absurd l1 ⋯
  cases t:decide (c / 16 % 4=1)with
  |false=>exact⟨A,by lia,ne,HA,by simp[EH,t]⟩
  |true=>
   have ad:∀h,ak (bk A) (bk A) h=.ok (bk (A++A)) h:=fun h=>by unfold bk;rw[xL _ _ h (by rw[ac2];exact adu (show A.length+A.length<=8 by lia) ⋯),adi]
   exact⟨A++A,by rw[acZ];lia,fun z=>ne (List.append_eq_nil_iff.mp z).1,fun q hq=>(adv.mp hq).elim (HA q) (HA q),by simp[EH,t,ut,ad]⟩
 obtain⟨g,hg,gl,ge⟩:=Mu c;have s1:=R.s6 k ⋯ false (g:=[]) ⋯ hB H;have s2:=R.s6 k ⋯ (decide (c / 8 % 2=1)) gl hB H;have c1:∀h,fM (F (k+1) .s6) [bk B,.str [],.bl false] h=.ok (.str (R.tB false [] B)) h:=fun h=>eF h (by rw[am,sI];rfl) s1;have c2':∀h,fM (F (k+1) .s6) [bk B,.str g,.bl (decide (c / 8 % 2=1))] h=.ok (.str (R.tB (decide (c / 8 % 2=1)) g B)) h:=fun h=>eF h (by rw[am,sI];rfl) s2
 have cm:∀h,cD bg (xw (F (k+1))) [] (B.map pc) h=.ok (B.map fun q=>PV.int (I7 q.b:Nat)) h:=fun h=>wZ pc _ B fun q hq=>by have mn:=R.jX q.b (R.mnA q.b k (by have:=(H q hq).d;lia));have cl:∀h,fM (F (k+1) .Tw) [.tup (q8 q.b)] h=.ok (.int (I7 q.b:Nat)) h:=fun h=>eF h (by rw[am,PV.pure,bU];rfl) mn;simp[EH,xw,cl]
 have cl:(B.map pc).length<16777216:=by rw[ac2];lia
 have su:∀h,Ig [.lst (B.map fun q=>PV.int (I7 q.b:Nat))] h=.ok (.int (R.nB B:Nat)) h:=fun h=>by show(match mx (B.map fun q=>PV.int (I7 q.b:Nat))with|some ns=>Res.ok (PV.int ns.sum) h|none=>.bad)=_;rw[Gn];dsimp only;rw[JK]
 have si:∀h,lW (bk B) h=.ok (B.map pc) h:=fun _=>rfl;obtain⟨y9,Xu,e1⟩:=JZ (k+1) ⋯ (decide (c / 8 % 2=1)) hg gl hB hn H cs c (H9 s) (.int (0+(0:Nat))) none none [f9 n1 k1];obtain⟨z9,z10,e2⟩:=JZ (k+1) ⋯ (decide (c / 8 % 2=1)) hg gl hB hn H cs c (H9 s) (.int (0+(1:Nat))) y9 Xu [f9 n1 k1]
 have lp:bC (N6 8) (rR (F (k+1))) [.int (0+(0:Nat)),.int (0+(1:Nat))] (lE cs c B (H9 s) (R.tB false [] B) (R.tB (decide (c / 8 % 2=1)) g B) (decide (((R.nB B:Nat):Int)<201)) none none none) [f9 n1 k1]=.nx (lE cs c B (H9 s) (R.tB false [] B) (R.tB (decide (c / 8 % 2=1)) g B) (decide (((R.nB B:Nat):Int)<201)) (some (.int (0+(1:Nat)))) z9 z10) [f9 n1 k1]:=by refine(fJ rfl e1).trans ?_;refine(fJ rfl e2).trans ?_;rw[bC]
 have r2:F (k+1+1) .law [cv cs]=match Cz (F (k+1)) (L (k+1)) [some (cv cs),none,none,none,none,none,none,none,none,none,none] []with
   |.nx _ _=>.ok .non
   |.rt v h=>aK v h
   |_=>.bad:=rfl
 have rg:(List.range (Int.toNat 2)).map (fun i=>PV.int (0+(i:Nat)))=[.int (0+(0:Nat)),.int (0+(1:Nat))]:=rfl;have b2:V2 4611686018427387904 2=true:=rfl;rw[r2];show lQ (Cz (F (k+1)) (L (k+1)) [some (cv cs),none,none,none,none,none,none,none,none,none,none] []);unfold Cz;refine bh (Q:=lQ) [some (cv cs),some (.ref 0),none,none,none,none,none,none,none,none,none] [f9 0 30] (by simp[EH,lm]) ?_;refine bh (Q:=lQ) [some (cv cs),some (.ref 0),some (.int c),none,none,none,none,none,none,none,none] [f9 0 30] (by simp[EH,bR,ca]) ?_;refine bh (Q:=lQ) [some (cv cs),some (.ref 0),some (.int c),some (bk A),some (H9 s),none,none,none,none,none,none] [f9 n1 k1] (by simp[EH,bR,d0,cb,cn,cA,ut,sd]) ?_;refine bh (Q:=lQ) _ _ eB ?_;refine bh (Q:=lQ) [some (cv cs),some (.ref 0),some (.int c),some (bk B),some (H9 s),some (.str (R.tB false [] B)),none,none,none,none,none] [f9 n1 k1] (by simp[EH,ut,c1]) ?_;refine bh (Q:=lQ) [some (cv cs),some (.ref 0),some (.int c),some (bk B),some (H9 s),some (.str (R.tB false [] B)),some (.str (R.tB (decide (c / 8 % 2=1)) g B)),none,none,none,none] [f9 n1 k1] (by simp[EH,ut,ge,c2']) ?_;refine bh (Q:=lQ) (lE cs c B (H9 s) (R.tB false [] B) (R.tB (decide (c / 8 % 2=1)) g B) (decide (((R.nB B:Nat):Int)<201)) none none none) [f9 n1 k1] (by simp[EH,ut,si,cl,bX,cm,su]) ?_;refine bh (Q:=lQ) (lE cs c B (H9 s) (R.tB false [] B) (R.tB (decide (c / 8 % 2=1)) g B) (decide (((R.nB B:Nat):Int)<201)) (some (.int (0+(1:Nat)))) z9 z10) [f9 n1 k1] (by simp[EH,b2,rg,lp]) ?_
 rfl
def FV:∀ns:List Int,ns.length<=63->F 100 .law [.VB (ns.map PV.int)]=.ok (.bl true):=fun cs hc=>LU 99 ⋯ cs hc
end K7
namespace PySem.W.Fast
open Lean in
local macro_rules|`(command|#check tws)=>do let p:=`PySem.Challenge;let q:=p.str "cw_formsmith_k06_shown_and_read_holds";let c<-((List.range 565).map (fun i=>q.str s!"o_{i+43}")++("env_41 heap_39 view_39 heap_608 tree_607 sts_434 tree_47 tree_133 sts_189 sts_297 tree_249 tree_593 sts_513 sts_265 sts_341 tree_433 tree_512 sts_49 tree_186 heap_46 tree_294 tree_264 tree_340 sts_134 sts_250 sts_594".splitOn.map q.str)++[p.str "pw_formsmith_k06_shown_and_read",p.str "rw_formsmith_k06_shown_and_read"]).mapM fun n=>`(command|theorem $(mkIdent (.mkSimple s!"tw{n.hash}")):ident:True:=⟨⟩);return mkNullNode c.toArray
#check tws
end PySem.W.Fast
open PySem PySem.W PyProof.Rows
set_option maxRecDepth 100000 in
set_option maxHeartbeats 0 in
theorem PySem.Challenge.cw_formsmith_k06_shown_and_read_holds : PySem.Challenge.rw_formsmith_k06_shown_and_read.Holds := by
  w_on; o_law; k_head; (case hw => w_witness2)
  k_fill
  refine Z.FU (l := PySem.Challenge.rw_formsmith_k06_shown_and_read) (k := K7.dl 100) (x := "_law_script") (fn := K7.F 100 .law) rfl rfl ⟨by decide, by decide, rfl⟩ (fun w h Y => W.kIn_of Y) K7.FV ?F
  case F =>
    intro w mg fa h KX G hmg
    refine' K7.MM KX G hmg ?Vr ?O1 ?Vg ?Vi ?K9 ?P0 ?S7 ?K_ ?V4 ?u_ ?VH ?VJ ?O9 ?O_ ?N8 ?Ux ?Um ?q_ ?Ut ?Us ?Ur ?Uq ?Uo ?Un ?hf ?Tq ?u6 ?t_ ?G5 ?J6 ?J5 ?s7 ?H8 ?q9 ?v7 ?Ud ?v9 ?z_ ?P_ ?Tj ?VK ?Vk ?XM ?XR ?XQ ?Vq ?Vp ?Vo ?Vn ?Vm ?Wy ?V1 ?VL ?T9 ?T8 ?Vf ?hn
    (case Vr | V4 | Ux | Vg | Vi | K9 | P0 | S7 | K_ | VH | VJ | O9 | O_ | N8 | Us | Uq | Uo | Un | Tq | u6 | t_ | G5 | J6 | J5 | s7 | H8 | q9 | v7 | Ud | v9 | z_ | P_ | Tj | VK | Vk | XM | XR | XQ | V1 | VL=>k_is);(case O1 | u_ | Um => constructor <;> k_is);(case q_ => kts_exm)
    (case Ut | Ur | Vq | Vp | Vo | Vn | Vm | Wy | T9 | T8 | Vf => first | rfl | kernel_rfl)
    (case hf => intro f; cases f <;> (refine' K7.fq (Ad := K7.adP _ _ _) ?fa ?fl ?fc ?fk ?fb; (case fa => dsimp only [K7.adP]; first | k_is | ((first | constructor | skip) <;> (repeat' apply And.intro) <;> k_is)); (case fl=>k_is); (case fc=>k_is); (case fk=>k_is); (case fb => intro _ _ _ _ _ _ us hl; first | (obtain rfl := Z.us0 hl; rfl) | (obtain ⟨_, rfl⟩ := Z.us1 hl; rfl) | (obtain ⟨_, _, rfl⟩ := Z.us2 hl; rfl) | (obtain ⟨_, _, _, rfl⟩ := Z.us3 hl; rfl) | (obtain ⟨_, _, _, _, rfl⟩ := Z.us4 hl; rfl) | (obtain ⟨_, _, _, _, _, rfl⟩ := Z.us5 hl; rfl) | (obtain ⟨_, _, _, _, _, _, rfl⟩ := Z.us6 hl; rfl) | (obtain ⟨_, _, _, _, _, _, _, rfl⟩ := Z.us7 hl; rfl))))
    (case hn => intro i; cases i <;> k_is)
