import PyProof.Rows.All
import Wide.All
import OpenK.AllK
import Wide.FinOn
import Lean
import PyProof.EqAt
import PyProof.EqKinds
import PyProof.TupleCall
import PyProof.StationsW
import PyProof.TupleOps
import PyProof.ExcAttrAll.ValueError
import PyProof.ExcClass3
import PyProof.InstStoreFacts
import KE.KDictOf
import PyProof.AttrMissHeap
import KE.LcSums
import KE.KDictList
import PyProof.StrCalls
import PyProof.FactsAll.range_2
import KE.KRevIter
import PyProof.ZipIter
import PyProof.Draws
import PyProof.EnumMake
import PyProof.CompUse
import PyProof.ListCopy
import KE.KRevSl
import PyProof.DictUpdate
import PyProof.NeKinds
import PySem.Challenge.RW_formsmith_k19_joined_by_own_going
open Array renaming getElem?_toList->adH,getElem?_eq_some_iff->ad1,toList_inj->af5,getElem_toList->agB,length_toList->agJ,forIn_toList->agV
open Bool renaming and_eq_true->ab5,or_eq_true->ac4,true_and->ac6,or_eq_false_iff->adt,false_or->aea,false_ne_true->aei,false_eq_true->aej,and_true->aem,or_true->aeV,not_eq_true'->aeW,and_eq_false_iff->ae3,or_false->ae9,and_assoc->afG,true_or->agh,eq_iff_iff->agp,not_eq_true->ahf,not_false->ahv,false_and->ahw,and_self->ahy
open Eq renaming trans->adT
open Int renaming le_refl->acO,toNat_natCast->ada,emod_lt_of_pos->adq,emod_nonneg->adS,add_comm->ad9,max_assoc->ael,le_of_lt->aex,natCast_add->aeG,max_eq_left->aeH,one_pos->afg,mul_le_mul_of_nonneg_left->afh,mul_nonneg->afD,max_eq_right->af3,eq_ofNat_of_zero_le->af4,zero_add->agg,one_ne_zero->agn,natCast_pow->ago,add_le_add_right->agz,toNat_of_nonneg->agH,add_zero->ag6,natCast_zero->ahe,add_assoc->ahx
open LawfulBEq renaming eq_of_beq->aec
open List renaming map_cons->ab7,length_map->ab9,getElem?_eq_some_iff->acd,mem_cons_of_mem->acg,map_append->aci,mem_of_getElem?->acj,mem_cons->acn,all_eq_true->aco,mem_singleton->acp,getElem?_eq_getElem->acr,length_append->acs,mem_cons_self->acv,length_cons->acw,getD_eq_getElem?_getD->acy,mem_append->acz,getElem?_append_left->acA,cons_append->acB,nil_append->acC,append_assoc->acG,append_nil->acH,getElem?_map->acJ,mem_map->acK,contains_iff_mem->acL,map_nil->acM,length_singleton->acN,getElem?_append_right->acP,not_mem_nil->acR,find?_cons_of_neg->acT,getElem?_set_ne->acX,sum_cons->acZ,replicate_succ->ac3,eq_nil_or_concat->ac7,concat_eq_append->ac8,length_range->ac9,getElem?_cons_succ->ade,mem_append_left->adf,length_nil->adg,find?_cons->adh,lookup_cons->adk,getElem?_set_self->adl,getElem?_take_of_lt->adn,nodup_cons->adp,size_toArray->adx,map_map->ady,find?_cons_of_pos->adz,find?_append->adA,forIn_cons->adE,mem_of_find?_eq_some->adG,set_cons_zero->adL,any_cons->adM,all_cons->adN,nodup_append->adQ,flatten_cons->adR,getElem?_concat_length->adV,contains_cons->ad0,set_append_right->ad3,foldl_cons->ad4,mem_of_mem_take->ad7,mem_iff_getElem->ad8,set_cons_succ->aeg,find?_eq_none->aeh,length_take->aeu,length_drop->aev,getElem_inj->aew,pairwise_iff_getElem->aey,take_succ_cons->aeA,findSome?_cons->aeB,getElem?_replicate->aeL,getElem?_cons_zero->aeM,sum_nil->aeQ,mem_range->aeR,append_inj_right'->aeS,any_eq_false->aeT,length_replicate->ae1,append_inj_left'->ae2,getElem_mem->ae6,mem_filter->afl,head?_drop->afm,all_append->afo,zip_cons_cons->afy,singleton_inj->afz,isPrefixOf_iff_prefix->afA,findSome?_nil->afB,drop_drop->afC,mem_or_eq_of_mem_set->afJ,take_sublist->afO,foldl_append->afP,isEmpty_iff->af0,any_eq_true->af2,take_of_length_le->agc,any_nil->agd,all_map->agf,of_mem_zip->agk,idxOf_cons->agl,find?_some->agm,getElem?_eq_none->agt,getLast?_concat->agx,drop_zero->agy,isEmpty_map->ahd,sum_append->ahn,length_set->aho,take_left->ahs,nodup_nil->aht,forIn_nil->ahu,map_set->ahA
open List.cons renaming injEq->afn
open Nat renaming le_refl->ab8,le_trans->ace,zero_le->acu,le_add_right->acQ,le_succ->acS,lt_of_le_of_lt->acU,ne_of_lt->ac2,le_max_right->adi,le_max_left->ado,lt_succ_self->adJ,lt_of_lt_of_le->adK,lt_succ_of_lt->adP,zero_add->adU,lt_irrefl->adW,le_of_ble_eq_true->ad2,lt_or_ge->ad6,ne_of_gt->aef,add_comm->aes,mul_le_mul_left->aez,one_le_two_pow->aeI,max_assoc->ae8,pow_le_pow_right->afd,mul_le_mul_right->afe,min_eq_left->afk,mul_comm->afs,max_le->afw,add_le_add->afx,add_mul->afN,add_assoc->afT,zero_max->aga,le_of_lt->agb,pow_pos->agw,succ_mul->ag4,lt_succ_of_le->ag5,not_lt_of_le->ahb,min_le_right->ahc,one_mul->ahj,mul_pos->ahk,min_le_left->ahl,le_add_left->ahm
open Ne renaming symm->acW
open Option renaming or_eq_none_iff->ac1,map_eq_some_iff->aee,isSome_iff_exists->aeE,map_some->agj,isSome_some->agS,isSome_none->agT,isSome_map->ag3,getD_none->ag9,bind_some->aha,none_or->ahr
open Option.some renaming inj->adD,injEq->ag2
open PyProof.Rows renaming slot_tuple_getitem->adF,callWith_type1->afr,subscriptTail_builtinR->af7,entry_tuple_getitem->agF,slot_tuple_getitem->agQ,args_tuple_getitem->agR
open PySem renaming wpAny_bind->ab6,wpAny_pure->ach,wpAny_field->acV,wpAny_Call_Name_kw->acY,wpAny_mono->ac5,wpAny_callSpecial?_slot->adb,wpAny_holding->adu,wpAny_seqItems->adv,wpAny_newObj_type->adw,mem_of_lookup->adC,wpAny_pyIter_tuple->adI,wpAny_call_entry->adX,wpAny_setField_rec->adY,wpAny_getItem_str_slice->aeb,sizeLine_eq->aed,wpAny_execs_nil->aek,wpAny_loadPart_at->aep,wpAny_comprehension_free->aeD,codeAny_builtin->aeF,codeAny_mono->aeN,plainObj_wpAny_Assign_Attribute->aeX,wpAny_execs_cons->ae4,wpAny_call->ae5,wpAny_standAt->ae7,wpAny_updateSeq_pair->afa,codeAny_call_builtin->afb,wpAny_ite_false->afi,post_val_or_str->afj,wpAny_typeOf->afq,call_meets->afu,wpAny_binaryOp_repeat_ref->afH,wpAny_truthy_bool->afK,wpAny_pyIter_enum->afL,wpAny_assign_Name->afM,wpAny_onRaise->afQ,wpAny_attempt->afR,wpAny_pyIter_zip->afU,noFill_tuple_add->afV,wpAny_Assign_Subscript->af6,wpAny_passesOwn->agi,exec_Assign_Name_used->agq,builtinLookup_eq_fast->agr,wpAny_ite_true->agu,wpAny_isSubtype_exc->agE,seq_tuple_add->agK,plainId_quiet->agL,wpAny_rule->agN,wpAny_List_spliced->agO,typeIs_int->agP,wpAny_sequenceKey->agW,wpAny_pyIter_list->agX,slot_list_getitem->agY,seqIndex_neg->agZ,concat_meets->ag0,wpAny_letGo->ahg,seqIndex_of->ahh,wpAny_Name->ahp,typeIs_str->ahq
open PySem.Around renaming under_plainId->aer,frames_deeper->agC
open PySem.AutoSeq1 renaming wpAny_loadPart'->ac0
open PySem.Calls renaming spliced_cons->aeJ,spliced_nil->aeU,Name_function_global->afF,evalArgs_plain->agA
open PySem.Code renaming quiet_builtin->afE
open PySem.F renaming plainAttrs_list->acD,type_list_append->acE,slot_list_append->acF,slot_zip_getattribute->adO,excBase_ValueError->adZ,store_object->ad5,slot_zip_next->aen,slot_list_index->aeK,plainAttrs_str->aeP,type_str_join->aeY,slot_str_join->aeZ,slot_dict_get->ae0,excBase_Exception->afI,args_tuple_add_2->afS,type_list_index->afW,plainAttrs_dict->afX,entry_tuple_add->afY,args_zip_next_1->afZ,slot_tuple_add->af8,entry_zip_next->af9,type_dict_get->ags
open PySem.Heap renaming get?_push_of_some->acf,get?_push_size->acq,lt_size->acI,size_push->adB,get?_update_self->aeo,get?_update_ne->aeC,get?_some_iff->agU
open PySem.Heap.DictOf renaming new->afp
open PySem.Heap.SameBut renaming update->agI
open PySem.Obj renaming data_mapFields->afv
open PySem.P renaming add_list->ag8
open PySem.Sem renaming wp_pure->afc,wp_mono->ahi
open PySem.W renaming callWith_K->aeO,kia_one->aft,hideAll_none->agv,mg_of->agD,hideAll_get->agG,plainGet_of->agM,cellsFrom_some->ag7
open PySem.W.Looks renaming here->ahz
open PySem.Walks renaming tuple->ahB
open PySem.Within renaming cons->ag1
open Sum.inr renaming inj->ahC
noncomputable section
noncomputable section
set_option Elab.async false
set_option linter.all false
set_option maxRecDepth 100000
set_option maxHeartbeats 4000000
set_option autoImplicit false
set_option compiler.extract_closed false
namespace L3
open PySem PySem.Spec PyProof.Rows
abbrev PK:=Sum Int (List Nat)
noncomputable def S(l:List Nat):Str:=⟨l.toArray⟩
theorem xx{a b:List Nat}(h:S a=S b):a=b:=by have:=congrArg (fun x=>x.cps.toList) h;simpa[S]using this
theorem NQ(x:Str):S x.cps.toList=x:=by cases x;simp[S]
theorem ij(l:List Nat):(S l).length=l.length:=by show(S l).cps.size=_;simp[S]
inductive PV where
 |non|bl (b:Bool)|int (i:Int)|str (x:List Nat)|ty (n:String)|cls (C:Nat)
 |tup (xs:List PV)|lst (xs:List PV)|QD (xs:List PV)|dct (kvs:List (PK×PV))|ins (C:Nat) (fs:List (Str×PV))
 |ref (i:Nat)|exc (C:Nat)|Ql (C:Nat) (v:PV)
mutual
def PV.pure:PV->Bool
 |.ref _=>false
 |.tup xs=>ar xs
 |.lst xs=>ar xs
 |.QD xs=>ar xs
 |.dct kvs=>aW kvs
 |.ins _ fs=>xX fs
 |.Ql _ v=>v.pure
 |_=>true
def ar:List PV->Bool
 |[]=>true
 |x::r=>x.pure&&ar r
def aW:List (PK×PV)->Bool
 |[]=>true
 |(_,x)::r=>x.pure&&aW r
def xX:List (Str×PV)->Bool
 |[]=>true
 |(_,x)::r=>x.pure&&xX r
end
theorem fS:∀(l:List (PK×PV)),aW l=ar (l.map (·.2))
 |[]=>by simp[ar,aW]
 |(k,x)::r=>by simp[ar,aW,fS r]
noncomputable def UL(C:Nat):Str:=if C<500 then "at" else "word"
noncomputable def Sg:Nat->List Str
 |600=> ["parts","counted"]
 |601=> ["pen","pieces"]
 |602=> ["loops","pieces"]
 |603=> ["numbers","blocks"]
 |604=> ["text","at"]
 |605=> ["block","slots","body","place","walks"]
 |606=> ["things","taken"]
 |607=> ["program","pen","frames","stack","done","result"]
 |608=> ["command","nodes","yes","between"]
 |609=> ["pieces","opened","counted"]
 |_=> []
inductive PO where
 |lst (xs:List PV)|dct (kvs:List (PK×PV))|J8 (v:PV)|obj (C:Nat) (ps:List PV)
inductive Res(α:Type) where
 |ok (a:α) (h:List PO)|exc (e:PV) (h:List PO)|bad
noncomputable def Res.bind{α β:Type}(r:Res α)(k:α->List PO->Res β):Res β:=match r with
 |.ok a h=>k a h
 |.exc e h=>.exc e h
 |.bad=>.bad
abbrev Ev:=List (Option PV)
abbrev Ex:=Ev->List PO->Res PV
abbrev Tx:=Ev->List PO->Res Bool
abbrev Ax:=Ev->List PO->Res (List PV)
end L3
namespace Z
open PySem PySem.Spec PyProof.Rows L3
def Xv:PK->Value->Bool
 |.inl k,v=>Value.isInt k v
 |.inr x,v=>Value.isStrOf (S x) v
theorem gO:∀{k:PK}{v:Value},Xv k v=true->(∃i t,k=Sum.inl i/\v=Value.int i t)\/(∃x t,k=Sum.inr x/\v=Value.str (S x) t)
 |.inl i,v,h=>let⟨t,e⟩:=Value.isInt_shape h;.inl ⟨i,t,rfl,e⟩
 |.inr x,v,h=>let⟨t,e⟩:=Value.isStrOf_shape h;.inr ⟨x,t,rfl,e⟩
def pk(P:Program)(w:World):KeyKind P w PK where
 is:=Xv
 hash:=fun|.inl k=>hashInt k|.inr x=>hashStr w (S x)
 inj:=fun v a b ha hb=>by rcases gO ha with⟨i,t,rfl,rfl⟩|⟨x,t,rfl,rfl⟩<;>rcases gO hb with⟨j,u,rfl,e⟩|⟨y,u,rfl,e⟩<;>first|(injection e with e1;first|rw[e1]|rw[xx e1])|cases e
 byValue:=fun k v h=>by rcases gO h with⟨i,t,rfl,rfl⟩|⟨x,t,rfl,rfl⟩<;>rfl
 pyHash:=fun hv h=>by
  rcases gO hv with⟨i,t,rfl,rfl⟩|⟨x,t,rfl,rfl⟩
  ·exact wpAny_pyHash_int h
  ·exact wpAny_pyHash_str h
 eqBool:=fun hu hv h=>by
  rcases gO hu with⟨i,t,rfl,rfl⟩|⟨x,t,rfl,rfl⟩<;>rcases gO hv with⟨j,u,rfl,rfl⟩|⟨y,u,rfl,rfl⟩
  ·exact wpAny_eqBool_int (by rw[Bool.beq_eq_decide_eq];simpa using h)
  ·exact SeqAt.EqAt.int_str i t _ u _ _ _ _ (by simpa using h)
  ·exact SeqAt.EqAt.str_int _ t j u _ _ _ _ (by simpa using h)
  ·exact wpAny_eqBool_str (by rw[show decide (S x=S y)=decide ((Sum.inr x:PK)=.inr y)from decide_eq_decide.mpr ⟨fun e=>by rw[xx e],fun e=>by cases e;rfl⟩];exact h)
 «strs» :=fun k x t v h=>by
  rcases gO h with⟨i,u,rfl,e⟩|⟨y,u,rfl,e⟩<;>cases e
  cases v<;>rfl
structure SC where
 prog:Program
 w:World
 K:W.Frag
 mg:Str->Option Value
 base:Heap
 T:Nat->Option Addr
abbrev Fz:=Addr->Option Obj
structure Wo where
 F:Fz
 O:Addr->Option Addr
 m:List Addr
 s:Shared
def DO(G:SC)(o:Obj)(kvs:List (PK×Value)):Prop:=o.ExactDict/\∃es ep,o.data=.dict es ep/\KeysOf (pk G.prog G.w) es/\Pairs (pk G.prog G.w) es.toList kvs/\(kvs.map (·.1)).Nodup
def Uz(o:Obj)(fs:List (Str×Value)):Prop:=∃es ep,o.data=.dict es ep/\StrKeys es/\UniqKeys es/\∀n,nsFind es n=fs.lookup n
noncomputable def Vj:PV->Option (String×List PV)
 |.tup ps=>some ("tuple",ps)
 |.lst ps=>some ("list",ps)
 |.QD ps=>some ("list",ps)
 |_=>none
section
variable(G:SC)(F:Fz)(m:List Addr)
mutual
inductive bq:PV->Value->Prop where
 |non:bq .non .none
 |bl (b:Bool):bq (.bl b) (.bool b)
 |int (i:Int) (t:Tok):bq (.int i) (.int i t)
 |str (x:List Nat) (t:Tok):bq (.str x) (.str (S x) t)
 |ty (n:String):bq (.ty n) (.type n)
 |cls {C:Nat} {a:Addr} (c:G.T C=some a):bq (.cls C) (.ref a)
 |tup {ps:List PV} {a:Addr} {h_:Array Value} {n:Nat} (e:F a=some ({ cls:=.type "tuple",data:=.seq h_ n })) (z:h_.size<=sizeLine) (r:aB ps h_.toList):bq (.tup ps) (.ref a)
 |lst {ps:List PV} {a:Addr} {h_:Array Value} {n:Nat} (e:F a=some ({ cls:=.type "list",data:=.seq h_ n })) (z:h_.size<=sizeLine) (r:aB ps h_.toList):bq (.lst ps) (.ref a)
 |QD {ps:List PV} {a:Addr} {h_:Array Value} {n:Nat} (e:F a=some ({ cls:=.type "list",data:=.seq h_ n })) (z:h_.size<=sizeLine) (r:aB ps h_.toList):bq (.QD ps) (.ref a)
 |dct {kps:List (PK×PV)} {a:Addr} {o:Obj} {kvs:List (PK×Value)} (e:F a=some o) (d:DO G o kvs) (sm:(a==sysModules)=false) (z:kvs.length<=sizeLine) (k:kvs.map (·.1)=kps.map (·.1)) (r:aB (kps.map (·.2)) (kvs.map (·.2))):bq (.dct kps) (.ref a)
 |ins {C:Nat} {a Ca dx:Addr} {od:Obj} (c:G.T C=some Ca) (e:F a=some (W.instObj Ca dx)) (d:F dx=some od) (n:Uz od []):bq (.ins C []) (.ref a)
 |ref {i:Nat} {a:Addr} (e:m[i]? =some a):bq (.ref i) (.ref a)
 |exc {C:Nat} {a Ca:Addr} {o:Obj} {vs:Array Value} (c:G.T C=some Ca) (e:F a=some o) (oc:o.cls=.ref Ca) (d:o.data=.fields vs):bq (.exc C) (.ref a)
 |Ql {C:Nat} {a Ca dx:Addr} {o od:Obj} {vs:Array Value} {u:Value} {fs:List (Str×Value)} {p:PV} (c:G.T C=some Ca) (e:F a=some o) (oc:o.cls=.ref Ca) (d:o.data=.fields vs) (VK:o.dict=some dx) (e2:F dx=some od) (n:Uz od fs) (l:fs.lookup (UL C)=some u) (r:bq p u):bq (.Ql C p) (.ref a)
inductive aB:List PV->List Value->Prop where
 |nil:aB [] []
 |cons {p:PV} {v:Value} {ps:List PV} {vs:List Value} (r:bq p v) (t:aB ps vs):aB (p::ps) (v::vs)
end
def sJ(O:Addr->Option Addr)(g:Heap)(a:Addr):PO->Prop
 |.lst ps=>F a=none/\∃h_ n,g.get? a=some { cls:=.type "list",data:=.seq h_ n }/\h_.size<=sizeLine/\aB G F m ps h_.toList
 |.dct kps=>F a=none/\∃o kvs,g.get? a=some o/\DO G o kvs/\(a==sysModules)=false/\kvs.length<=sizeLine/\kvs.map (·.1)=kps.map (·.1)/\aB G F m (kps.map (·.2)) (kvs.map (·.2))
 |.J8 p=>bq G F m p (.ref a)/\p.pure=true/\∃o,F a=some o
 |.obj C ps=>F a=none/\∃Ca dx od vs,G.T C=some Ca/\g.get? a=some (W.instObj Ca dx)/\O dx=some a/\g.get? dx=some od/\Uz od ((Sg C).zip vs)/\vs.length<=(Sg C).length/\aB G F m ps vs
end
section
variable{G:SC}{F F':Fz}{m m':List Addr}
def Sub(m m':List Addr):Prop:=∀(i:Nat)(a:Addr),m[i]? =some a->m'[i]? =some a
theorem aB.mono(hF:∀a o,F a=some o->F' a=some o){p:List PV}{v:List Value}(r:aB G F m p v):ar p=true\/Sub m m'->aB G F' m' p v:=
 aB.rec (motive_1:=fun p v _=>p.pure=true\/Sub m m'->bq G F' m' p v) (motive_2:=fun p v _=>ar p=true\/Sub m m'->aB G F' m' p v) (fun _=>.non) (fun b _=>.bl b) (fun i t _=>.int i t) (fun x t _=>.str x t) (fun n _=>.ty n) (fun c _=>.cls c) (fun e z _ i h=>.tup (hF _ _ e) z (i h)) (fun e z _ i h=>.lst (hF _ _ e) z (i h)) (fun e z _ i h=>.QD (hF _ _ e) z (i h)) (fun e d s z k _ i h=>.dct (hF _ _ e) d s z k (i (h.imp_left fun q=>by simpa[PV.pure,fS]using q))) (fun c e d n _=>.ins c (hF _ _ e) (hF _ _ d) n) (fun e h=>.ref (h.elim nofun fun q=>q _ _ e)) (fun c e o d _=>.exc c (hF _ _ e) o d) (fun c e o d o' e2 n l _ i h=>.Ql c (hF _ _ e) o d o' (hF _ _ e2) n l (i h)) (fun _=>.nil) (fun _ _ i j h=>.cons (i (h.imp_left fun q=>(ab5 _ _▸q:).1)) (j (h.imp_left fun q=>(ab5 _ _▸q:).2))) r
theorem bq.mono(hF:∀a o,F a=some o->F' a=some o){p:PV}{v:Value}(r:bq G F m p v)(h:p.pure=true\/Sub m m'):bq G F' m' p v:=by
 cases aB.mono hF (.cons r .nil) (h.imp_left fun q=>by rw[ar,q];rfl);assumption
theorem aB.ind{P:List PV->List Value->Prop}(n:P [] [])(c:∀{p v ps vs},bq G F m p v->aB G F m ps vs->P ps vs->P (p::ps) (v::vs)){ps:List PV}{vs:List Value}(r:aB G F m ps vs):P ps vs:=by
 induction ps generalizing vs with
 |nil=>cases r;exact n
 |cons _ _ i=>cases r with|cons r t=>exact c r t (i t)
theorem bq.vi{i:Int}{u:Value}(r:bq G F m (.int i) u):∃t,u=.int i t:=by cases r;exact⟨_,rfl⟩
theorem bq.vs{x:List Nat}{u:Value}(r:bq G F m (.str x) u):∃t,u=.str (S x) t:=by cases r;exact⟨_,rfl⟩
theorem bq.vb{b:Bool}{u:Value}(r:bq G F m (.bl b) u):u=.bool b:=by cases r;rfl
theorem bq.vn{u:Value}(r:bq G F m .non u):u=.none:=by cases r;rfl
theorem bq.vt{n:String}{u:Value}(r:bq G F m (.ty n) u):u=.type n:=by cases r;rfl
theorem bq.sq{p:PV}{t:String}{ps:List PV}{a:Addr}{h_:Array Value}{n:Nat}(k:Vj p=some (t,ps))(e:F a=some ({ cls:=.type t,data:=.seq h_ n }))(z:h_.size<=sizeLine)(r:aB G F m ps h_.toList):bq G F m p (.ref a):=by
 unfold Vj at k
 split at k<;>cases k
 ·exact .tup e z r
 ·exact .lst e z r
 ·exact .QD e z r
end
end Z
namespace Z
open PySem PySem.Spec PyProof.Rows L3
structure HR(G:SC)(w:Wo)(h:List PO):Prop where
 sub:∀a o,w.F a=some o->w.s.heap.get? a=some o
 own:∀d a,w.O d=some a->(∃o,w.s.heap.get? d=some o)/\d∉w.m/\w.F d=none
 len:h.length=w.m.length
 nd:w.m.Nodup
 obj:∀(i:Nat)(o:PO)(a:Addr),h[i]? =some o->w.m[i]? =some a->sJ G w.F w.m w.O w.s.heap a o
def Ro(w:Wo)(b:Addr):Prop:=b∉w.m/\w.F b=none/\w.O b=none
def Has(w:Wo)(b:Addr)(o:Obj):Prop:=w.s.heap.get? b=some o/\Ro w b
structure NZ(fs:List Addr)(W:Addr->Prop)(w w':Wo):Prop where
 os:w'.s.os=w.s.os
 ba:AllBare w.s.gens->AllBare w'.s.gens
 fz:∀a o,w.F a=some o->w'.F a=some o
 ow:∀d a,w.O d=some a->w'.O d=some a
 pre:∃t,w'.m=w.m++t
 dom:∀b o,w.s.heap.get? b=some o->∃o',w'.s.heap.get? b=some o'
 keep:∀b o,Has w b o->¬ W b->∃sl,Has w' b { o with slots:=sl }/\(b∈fs\/sl=o.slots)
section
variable{G:SC}{fs:List Addr}{W W':Addr->Prop}{w w1 w2:Wo}{h h1:List PO}{a b:Addr}{o:Obj}{s':Shared}
theorem NZ.refl:NZ fs W w w:=⟨rfl,id,fun _ _ e=>e,fun _ _ e=>e,⟨[],by simp⟩,fun _ o e=>⟨o,e⟩,fun _ o q _=>⟨o.slots,q,.inr rfl⟩⟩
theorem NZ.trans(x:NZ fs W w w1)(y:NZ fs W w1 w2):NZ fs W w w2:=
 ⟨y.os.trans x.os,y.ba∘x.ba,fun a o e=>y.fz a o (x.fz a o e),fun a o e=>y.ow a o (x.ow a o e),let⟨t,e⟩:=x.pre;let⟨u,e'⟩:=y.pre;⟨t++u,by rw[e',e,acG]⟩,fun b o e=>let⟨o',q⟩:=x.dom b o e;y.dom b o' q,fun b o q n=>by obtain⟨sl,q1,z1⟩:=x.keep b o q n;obtain⟨Vl,q2,z2⟩:=y.keep b _ q1 n;exact⟨Vl,q2,z1.elim .inl fun z=>z2.imp_right fun z'=>z'.trans z⟩⟩
theorem NZ.weak{Z0:List Addr}(x:NZ fs W w w1)(k:∀b,W b->W' b)(l:∀b∈fs,b∈Z0:=by exact fun _ z=>z):NZ Z0 W' w w1:=⟨x.os,x.ba,x.fz,x.ow,x.pre,x.dom,fun b o q n=>let⟨sl,q,z⟩:=x.keep b o q fun z=>n (k b z);⟨sl,q,z.imp_left (l b)⟩⟩
theorem NZ.sub(x:NZ fs W w w1):Sub w.m w1.m:=fun i a e=>by obtain⟨t,z⟩:=x.pre;rw[z,acA (acd.mp e).1];exact e
theorem NZ.rep(x:NZ fs W w w1){p:PV}{u:Value}(r:bq G w.F w.m p u):bq G w1.F w1.m p u:=r.mono x.fz (.inr x.sub)
theorem NZ.reps(x:NZ fs W w w1){p:List PV}{u:List Value}(r:aB G w.F w.m p u):aB G w1.F w1.m p u:=r.mono x.fz (.inr x.sub)
theorem HR.there(H:HR G w h)(e:a∈w.m):∃o,w.s.heap.get? a=some o:=by
 obtain⟨i,hi,e⟩:=ad8.mp e;have q:=H.obj i (h[i]'(by rw[H.len];exact hi)) a (by simp) (by simp[<- e])
 revert q
 cases h[i]'(by rw[H.len];exact hi)with
 |lst ps=>exact (by rintro ⟨_,_,_,e,_⟩;exact ⟨_,e⟩)
 |dct kps=>exact (by rintro ⟨_,_,_,e,_⟩;exact ⟨_,e⟩)
 |J8 p=>exact (by rintro ⟨_,_,o,e⟩;exact ⟨o,H.sub a o e⟩)
 |obj C ps=>exact (by rintro ⟨_,_,_,_,_,_,e,_⟩;exact ⟨_,e⟩)
theorem HR.free(H:HR G w h)(e:w.s.heap.get? a=none):Ro w a:=by
 refine⟨fun z=>?_,?_,?_⟩
 ·obtain⟨o,q⟩:=H.there z;rw[e]at q;cases q
 ·cases q:w.F a with
  |none=>rfl
  |some x=>rw[H.sub a x q]at e;cases e
 ·cases q:w.O a with
  |none=>rfl
  |some x=>obtain⟨⟨o,q'⟩,_⟩:=H.own a x q;rw[e]at q';cases q'
theorem HR.at(H:HR G w h)(e:w.F a=some o):w.s.heap.get? a=some o:=H.sub a o e
theorem bj(g:Heap):g.get? g.objs.size=none:=by
 cases q:g.get? g.objs.size with
 |none=>rfl
 |some o=>exact absurd (acI q) (adW _)
theorem sJ.on{g g':Heap}{F F':Fz}{m m':List Addr}{O O':Addr->Option Addr}{po:PO}(hF:∀a o,F a=some o->F' a=some o)(hO:∀d,O d=some a->O' d=some a)(hm:Sub m m')(q:sJ G F m O g a po)(k:∀b o,g.get? b=some o->b=a\/O b=some a->g'.get? b=some o)(f:F a=none->F' a=none):sJ G F' m' O' g' a po:=by
 cases po with
 |lst ps=>obtain⟨z,h_,n,e,l,r⟩:=q;exact⟨f z,h_,n,k _ _ e (.inl rfl),l,r.mono hF (.inr hm)⟩
 |dct kps=>obtain⟨z,o,kvs,e,d,y,l,c,r⟩:=q;exact⟨f z,o,kvs,k _ _ e (.inl rfl),d,y,l,c,r.mono hF (.inr hm)⟩
 |J8 p=>obtain⟨r,z,o,e⟩:=q;exact⟨r.mono hF (.inr hm),z,o,hF _ _ e⟩
 |obj C ps=>obtain⟨z,Ca,dx,od,vs,c,e,d,e2,n,l,r⟩:=q;exact⟨f z,Ca,dx,od,vs,c,k _ _ e (.inl rfl),hO _ d,k _ _ e2 (.inr d),n,l,r.mono hF (.inr hm)⟩
theorem HR.on(H:HR G w h)(k:∀b o,w.s.heap.get? b=some o->¬ Ro w b->s'.heap.get? b=some o):HR G { w with s:=s' } h:=
 have f:∀{b o},w.F b=some o->¬ Ro w b:=fun e z=>by rw[z.2.1]at e;cases e
 have d:∀{b a},w.O b=some a->¬ Ro w b:=fun e z=>by rw[z.2.2]at e;cases e
 ⟨fun a o e=>k a o (H.sub a o e) (f e),fun b a e=>let⟨⟨o,q⟩,z⟩:=H.own b a e;⟨⟨o,k b o q (d e)⟩,z⟩,H.len,H.nd,fun i o a e1 e2=>(H.obj i o a e1 e2).on (fun _ _ e=>e) (fun _ e=>e) (fun _ _ e=>e) (fun b o e z=>k b o e (z.elim (fun z y=>y.1 (z▸acj e2)) d)) id⟩
end
structure Cx extends SC where
 A:Around
 N:List Str
 env:Env
 stack:List Env
 fn:Str->Bool
 calm:Bool
 tr:Bool
 Ep:(Value->Shared->Prop)->Prop
abbrev Cx.L(X:Cx):Addr:=X.env.locals
noncomputable def frs(l:List Env):List Addr:=l.filterMap (·.frame)
abbrev Cx.fs(X:Cx):List Addr:=frs X.stack
abbrev Cx.M(X:Cx):Model:=model X.prog X.w
def Cx.W(X:Cx)(b:Addr):Prop:=b=X.L\/∃x,X.fn x=true/\X.env.cells.lookup x=some b
def Rg:Addr->Prop:=fun _=>False
def Nw(X:Cx)(w w':Wo)(h:List PO):Prop:=NZ X.fs Rg w w'/\HR X.toSC w' h
structure Wd(X:Cx)(w:Wo)(h:List PO):Prop extends HR X.toSC w h where
 ba:AllBare w.s.gens
 bs:∀b o,X.base.get? b=some o->w.F b=some o
 fr:∀b∈X.fs,∃o,Has w b o/\∀vs,o.data≠.fields vs
def xy(env:Env)(g:Heap)(m:Str->Option Value)(x:Str)(u:Value):Prop:=
 (env.kindOf x=some .local/\m x=some u)\/((env.kindOf x=some .cell\/env.kindOf x=some .free)/\∃c,env.cells.lookup x=some c/\g.IsCell c (some u))
structure Cx.Ok(X:Cx):Prop where
 Qs:X.K.In X.base
 gl:X.base.Ns mainGlobals X.mg
 bl:∃mb,X.base.Ns builtinsNs mb/\∀x:Str,x≠"__name__"->mb x=bootBuiltins x
 nl:X.base.NoLimit
 kind:X.env.scope.kind=.function
 glob:X.env.globals=mainGlobals
 blt:X.env.builtins=builtinsNs
 inj:∀x y c,X.env.cells.lookup x=some c->X.env.cells.lookup y=some c->x=y
 has:∀x,(X.env.kindOf x=some .cell\/X.env.kindOf x=some .free)->∃c,X.env.cells.lookup x=some c
 hd:X.calm=true->X.A.handled=none
 frames:X.A.frames=some X.stack
 nd:X.N.Nodup
 sf:∀env∈X.stack,env.scope.kind≠.module/\∃L,env.frame=some L/\X.base.get? L=none
structure Inv(X:Cx)(w:Wo)(ρ:Ev)(h:List PO):Prop extends Wd X w h where
 ok:X.Ok
 loc:∃m o,w.s.heap.Ns X.L m/\Has w X.L o/\∀(i:Nat)(p:PV),ρ[i]? =some (some p)->∃x u,X.N[i]? =some x/\bq X.toSC w.F w.m p u/\xy X.env w.s.heap m x u
 R3:∀x c,X.env.cells.lookup x=some c->∃v o,w.s.heap.IsCell c v/\Has w c o
 ln:ρ.length=X.N.length
section
variable{X:Cx}{w w1 w2:Wo}{ρ:Ev}{h h1:List PO}{b:Addr}{o:Obj}
theorem Nw.trans(x:Nw X w w1 h)(y:Nw X w1 w2 h1):Nw X w w2 h1:=⟨x.1.trans y.1,y.2⟩
theorem rK{g g':Heap}{a:Addr}{m:Str->Option Value}(n:g.Ns a m)(k:∀o,g.get? a=some o->∃sl,g'.get? a=some { o with slots:=sl }):g'.Ns a m:=let⟨o,es,ep,e,r⟩:=n;let⟨sl,q⟩:=k o e;⟨_,es,ep,q,r⟩
theorem yw{g g':Heap}{a:Addr}{v:Option Value}(n:g.IsCell a v)(k:∀o,g.get? a=some o->∃sl,g'.get? a=some { o with slots:=sl }):g'.IsCell a v:=let⟨o,e,d⟩:=n;let⟨sl,q⟩:=k o e;⟨_,q,d⟩
theorem NZ.slots{W:Addr->Prop}{fs:List Addr}(x:NZ fs W w w1)(q:Has w b o)(n:¬ W b):∀o,w.s.heap.get? b=some o->∃sl,w1.s.heap.get? b=some { o with slots:=sl }:=fun o' e=>by rw[q.1]at e;cases e;obtain⟨sl,z,_⟩:=x.keep b o q n;exact⟨sl,z.1⟩
theorem tV{g base:Heap}:∀{l:List Env},(∀env∈l,env.scope.kind≠.module/\∃L,env.frame=some L/\base.get? L=none)->(∀b∈frs l,∃o,g.get? b=some o/\∀vs,o.data≠.fields vs)->g.FunFrames base l
 |[],_,_=>trivial
 |env::r,h,k=>by
  obtain⟨a,L,b,c⟩:=h env (by simp);have e:frs (env::r)=L::frs r:=by simp[frs,b]
  rw[e]at k;obtain⟨o,q,d⟩:=k L (by simp);exact⟨a,⟨L,o,b,c,q,d⟩,tV (fun x hx=>h x (acg _ hx)) fun x hx=>k x (acg _ hx)⟩
theorem Wd.on{W:Addr->Prop}(I:Wd X w h)(x:NZ X.fs W w w1)(hw:∀b∈X.fs,W b->∃o,Has w1 b o/\∀vs,o.data≠.fields vs)(H:HR X.toSC w1 h1):Wd X w1 h1:=
 ⟨H,x.ba I.ba,fun b o e=>x.fz _ _ (I.bs b o e),fun b hb=>by
  by_cases z:W b
  ·exact hw b hb z
  ·obtain⟨o,q,d⟩:=I.fr b hb;obtain⟨sl,q',_⟩:=x.keep b o q z;exact⟨_,q',d⟩⟩
theorem Inv.on(I:Inv X w ρ h)(x:Nw X w w1 h1):Inv X w1 ρ h1:=by
 obtain⟨m,o,n,hl,q⟩:=I.loc;have nw:∀b,¬ Rg b:=fun _ z=>z;have cl:∀x c,X.env.cells.lookup x=some c->∀v,w.s.heap.IsCell c v->w1.s.heap.IsCell c v:=fun y c e v z=>let⟨_,_,_,hc⟩:=I.R3 y c e;yw z (x.1.slots hc (nw c));refine⟨I.toWd.on x.1 (fun _ _ z=>z.elim) x.2,I.ok,⟨m,?_⟩,fun y c e=>?_,I.ln⟩
 ·obtain⟨sl,z,_⟩:=x.1.keep _ _ hl (nw _);refine⟨_,rK n (x.1.slots hl (nw _)),z,fun i p e=>?_⟩;obtain⟨y,u,e1,r,l⟩:=q i p e;exact⟨y,u,e1,x.1.rep r,l.imp_right (by rintro ⟨k,c,e,z⟩;exact ⟨k,c,e,cl y c e _ z⟩)⟩
 ·obtain⟨v,o,z,hc⟩:=I.R3 y c e;obtain⟨sl,q',_⟩:=x.1.keep _ _ hc (nw _);exact⟨v,_,cl y c e v z,q'⟩
theorem Wd.bk(I:Wd X w h){b:Addr}{o:Obj}(e:X.base.get? b=some o):w.s.heap.get? b=some o:=I.toHR.at (I.bs b o e)
theorem Inv.QK(I:Inv X w ρ h):X.K.In w.s.heap:=I.ok.Qs.keeps fun _ _ e=>I.bk e
end
def Fst(B:Heap)(l:List Env)(a:Addr)(cls a0:Value)(h:Heap):Prop:=B.StaysIn h/\B.get? a=none/\h.FunFrames B l/\∃o vs,h.get? a=some o/\o.cls=cls/\o.data=.fields vs/\vs[0]? =some a0/\vs[1]? =some .none
structure Wu(X:Cx)(w w':Wo)(a:Addr)(cls:Value)(dx:Option Addr):Prop where
 f:∃a0 B,(Heap.FlyingW B X.stack a cls a0 w'.s.heap\/X.tr=true/\Fst B X.stack a cls a0 w'.s.heap)/\(∀b o,w.s.heap.get? b=some o->b∉X.fs->∃o',B.get? b=some o')/\∀b,¬ Ro w' b->∃o',B.get? b=some o'
 d:∃o,w'.s.heap.get? a=some o/\o.dict=dx
def XV(G:SC)(F:Fz)(m:List Addr)(cls:Value)(dx:Option Addr):PV->Prop
 |.cls C=>∃Ca,G.T C=some Ca/\cls=.ref Ca/\dx=none
 |.Ql C v=>∃Ca d od fs y,G.T C=some Ca/\cls=.ref Ca/\dx=some d/\F d=some od/\Uz od fs/\fs.lookup (UL C)=some y/\bq G F m v y
 |_=>False
def oB(X:Cx)(w w':Wo)(e:PV)(u:Value):Prop:=∃a cls dx,u=.ref a/\Wu X w w' a cls dx/\XV X.toSC w'.F w'.m cls dx e
theorem oB.to{X:Cx}{w w0 w2 w3:Wo}{e:PV}{u:Value}(r:oB X w w2 e u)(pu:e.pure=true)(hF:w3.F=w2.F)(hs:w3.s=w2.s)(h0:w0.s=w.s)(k:∀b,¬ Ro w3 b->¬ Ro w2 b\/(∃o,w.s.heap.get? b=some o)/\b∉X.fs):oB X w0 w3 e u:=by
 obtain⟨a,cls,dx,rfl,⟨⟨a0,B,f,c1,c2⟩,d⟩,m⟩:=r;refine⟨a,cls,dx,rfl,⟨⟨a0,B,hs▸f,h0▸c1,fun b z=>(k b z).elim (c2 b) (by rintro ⟨⟨o,q⟩,n⟩;exact c1 b o q n)⟩,hs▸d⟩,?_⟩;rw[hF]
 cases e with
 |Ql C v=>obtain⟨Ca,d,od,fs,y,a,b,c,d',e,f,g⟩:=m;exact⟨Ca,d,od,fs,y,a,b,c,d',e,f,g.mono (fun _ _ e=>e) (.inl (by simpa[PV.pure]using pu))⟩
 |_=>exact m
abbrev RV(G:SC)(w:Wo):PV->Value->Prop:=bq G w.F w.m
abbrev RVs(G:SC)(w:Wo):List PV->List Value->Prop:=aB G w.F w.m
def bM{α β:Type}(X:Cx)(R:Wo->α->β->Prop)(w:Wo)(Q:β->Shared->Prop)(E:Value->Shared->Prop):Res α->Prop
 |.ok a h=>X.Ep E/\∀w' x,Nw X w w' h->R w' a x->Q x w'.s
 |.exc e h=>X.Ep E/\∀w' u,Nw X w w' h->oB X w w' e u->E u w'.s
 |.bad=>False
abbrev Wp(X:Cx){β:Type}(t:Sem β)(Q:β->Shared->Prop)(E:Value->Shared->Prop)(s:Shared):Prop:=wpAny (model X.prog X.w) X.A t Q E s
structure RE(X:Cx)(e:Expr)(f:Ex):Prop where
 r:∀{w:Wo}{ρ:Ev}{h:List PO}{Q:Value->Shared->Prop}{E:Value->Shared->Prop},Inv X w ρ h->bM X (RV X.toSC) w Q E (f ρ h)->Wp X (eval e X.env) Q E w.s
structure RT(X:Cx)(e:Expr)(f:Tx):Prop where
 r:∀{w:Wo}{ρ:Ev}{h:List PO}{Q:Bool->Shared->Prop}{E:Value->Shared->Prop},Inv X w ρ h->bM X (fun _ a b=>a=b) w Q E (f ρ h)->Wp X (isTrue e X.env (eval e X.env)) Q E w.s
structure RA(X:Cx)(es:List Expr)(f:Ax):Prop where
 r:∀{w:Wo}{ρ:Ev}{h:List PO}{Q:List Value->Shared->Prop}{E:Value->Shared->Prop}(pos:Pos),Inv X w ρ h->bM X (RVs X.toSC) w Q E (f ρ h)->Wp X (spliced (backTo pos (starEach es X.env))) Q E w.s
section
variable{X:Cx}{w w1:Wo}{ρ:Ev}{h:List PO}{α β γ δ:Type}{R:Wo->α->β->Prop}{R':Wo->γ->δ->Prop}{E:Value->Shared->Prop}
theorem Wu.back{a:Addr}{cls:Value}{dx:Option Addr}{w':Wo}{W:Addr->Prop}{fs:List Addr}(f:Wu X w1 w' a cls dx)(x:NZ fs W w w1):Wu X w w' a cls dx:=
 let⟨a0,B,y,c,d⟩:=f.f;⟨⟨a0,B,y,fun b o e n=>let⟨o',q⟩:=x.dom b o e;c b o' q n,d⟩,f.d⟩
theorem oB.back{w':Wo}{e:PV}{u:Value}{W:Addr->Prop}{fs:List Addr}(r:oB X w1 w' e u)(x:NZ fs W w w1):oB X w w' e u:=let⟨a,c,d,e,f,r⟩:=r;⟨a,c,d,e,f.back x,r⟩
theorem bM.ep{Q:β->Shared->Prop}{r:Res α}(p:bM X R w Q E r):X.Ep E:=match r with
 |.ok _ _=>p.1
 |.exc _ _=>p.1
 |.bad=>p.elim
theorem bM.step{Q:β->Shared->Prop}{r:Res α}{h1:List PO}(p:bM X R w Q E r)(x:Nw X w w1 h1):bM X R w1 Q E r:=match r with
 |.ok _ _=>⟨p.1,fun w' u y=>p.2 w' u (x.trans y)⟩
 |.exc _ _=>⟨p.1,fun w' u y r=>p.2 w' u (x.trans y) (r.back x.1)⟩
 |.bad=>p
theorem bM.Ux{Q:δ->Shared->Prop}{G:β->Shared->Prop}{r:Res α}{k:α->List PO->Res γ}(p:bM X R' w Q E (r.bind k))(c:∀w1 h1 a x,Nw X w w1 h1->R w1 a x->bM X R' w Q E (k a h1)->G x w1.s):bM X R w G E r:=match r with
 |.ok a h=>⟨p.ep,fun w' x y q=>c w' h a x y q p⟩
 |.exc _ _=>p
 |.bad=>p
theorem bM.bind{Q:δ->Shared->Prop}{G:β->Shared->Prop}{r:Res α}{k:α->List PO->Res γ}(p:bM X R' w Q E (r.bind k))(c:∀w1 h1 a x,Nw X w w1 h1->R w1 a x->bM X R' w1 Q E (k a h1)->G x w1.s):bM X R w G E r:=p.Ux fun w1 h1 a x y q p=>c w1 h1 a x y q (p.step y)
theorem bM.now{Q:β->Shared->Prop}{a:α}{x:β}{t:Nat}(p:bM X R w Q E (.ok a h))(H:HR X.toSC w h)(r:R { w with s:={ w.s with toks:=t } } a x):Q x { w.s with toks:=t }:=
 p.2 { w with s:={ w.s with toks:=t } } x ⟨⟨rfl,id,fun _ _ e=>e,fun _ _ e=>e,⟨[],by simp⟩,fun _ o e=>⟨o,e⟩,fun _ o q _=>⟨o.slots,q,.inr rfl⟩⟩,H.on fun _ _ e _=>e⟩ r
theorem bM.here{Q:β->Shared->Prop}{a:α}{x:β}(p:bM X R w Q E (.ok a h))(H:HR X.toSC w h)(r:R w a x):Q x w.s:=p.2 w x ⟨.refl,H⟩ r
end
noncomputable def iV(F:Fz)(a:Addr)(o:Obj):Fz:=fun b=>if b=a then some o else F b
theorem bC{F:Fz}{a:Addr}{o:Obj}:iV F a o a=some o:=if_pos rfl
theorem kj{F:Fz}{a b:Addr}{o:Obj}(n:b≠a):iV F a o b=F b:=if_neg n
theorem cQ{F:Fz}{a b:Addr}{o:Obj}(n:b≠a)(e:F b=none):iV F a o b=none:=(kj n).trans e
theorem dE{F:Fz}{a:Addr}{o:Obj}(n:F a=none)(b:Addr)(x:Obj)(q:F b=some x):iV F a o b=some x:=by rw[kj];exact q;rintro rfl;rw[n]at q;cases q
theorem Nw.lay{X:Cx}{w:Wo}{h:List PO}{a:Addr}{o:Obj}{s':Shared}(H:HR X.toSC w h)(n:w.s.heap.get? a=none)(k:∀b o,w.s.heap.get? b=some o->s'.heap.get? b=some o)(e:s'.heap.get? a=some o)(ho:s'.os=w.s.os:=by rfl)(hg:s'.gens=w.s.gens:=by rfl):Nw X w ⟨iV w.F a o,w.O,w.m,s'⟩ h:=by
 obtain⟨z1,z2,z3⟩:=H.free n;have ne:∀{b o},w.s.heap.get? b=some o->b≠a:=fun q z=>by rw[z,n]at q;cases q
 refine⟨⟨ho,fun q=>hg▸q,dE z2,fun _ _ e=>e,⟨[],by simp⟩,fun b o e=>⟨o,k b o e⟩,fun b ob q _=>⟨ob.slots,⟨k b ob q.1,q.2.1,cQ (ne q.1) q.2.2.1,q.2.2.2⟩,.inr rfl⟩⟩,fun b x q=>?_,fun b a q=>let⟨⟨o,e⟩,z⟩:=H.own b a q;⟨⟨o,k b o e⟩,z.1,cQ (ne e) z.2⟩,H.len,H.nd,fun i ob b e1 e2=>(H.obj i ob b e1 e2).on (dE z2) (fun _ e=>e) (fun _ _ e=>e) (fun b o e _=>k b o e) (cQ fun z=>z1 (z▸acj e2))⟩
 by_cases z:b=a
 ·subst z;cases bC.symm.trans q;exact e
 ·exact k b x (H.sub b x ((kj z).symm.trans q))
end Z
namespace L3
noncomputable def aq(h:List PO):PV->PV
 |.ref i=>match h[i]? with
  |some (.J8 q)=>q
  |_=>.ref i
 |p=>p
noncomputable def ai(i:Nat):Ex:=fun ρ h=>match ρ[i]? with
 |some (some p)=>.ok (aq h p) h
 |_=>.bad
noncomputable def cK(v:PV):Ex:=fun _ h=>.ok v h
def c1(g:PV->List PO->Res PV)(a:Ex):Ex:=fun ρ h=>(a ρ h).bind g
def c2(g:PV->PV->List PO->Res PV)(a b:Ex):Ex:=fun ρ h=>(a ρ h).bind fun x h1=>(b ρ h1).bind fun y h2=>g x y h2
def cN(g:List PV->List PO->Res PV)(a:Ax):Ex:=fun ρ h=>(a ρ h).bind g
noncomputable def am:Ax:=fun _ h=>.ok [] h
def af(a:Ex)(r:Ax):Ax:=fun ρ h=>(a ρ h).bind fun x h1=>(r ρ h1).bind fun xs h2=>.ok (x::xs) h2
end L3
namespace Z
open PySem PySem.Spec PyProof.Rows L3
section
variable{X:Cx}{w w1:Wo}{ρ:Ev}{h:List PO}{a b:Expr}{fa fb:Ex}{ta tb:Tx}{pos:Pos}{Q:Value->Shared->Prop}{E:Value->Shared->Prop}
theorem HR.Rf{G:SC}(H:HR G w h){p:PV}{v:Value}(r:bq G w.F w.m p v):bq G w.F w.m (aq h p) v:=by
 unfold aq
 split
 ·cases r with
  |ref e=>
   split
   ·rename_i q;exact(H.obj _ _ _ q e).1
   ·exact .ref e
 ·exact r
abbrev sE0(X:Cx)(e:Expr)(es:List Expr):Prop:=starEach (e::es) X.env=(false,eval e X.env)::starEach es X.env
abbrev sP0(X:Cx)(es:List Expr)(pos:Pos):Prop:=(backTo pos (starEach es X.env)).any (·.1)=false
abbrev nD0(x:Str):Prop:=(x==("__debug__":Str))=false
theorem xy.nm{m:Str->Option Value}{x:Str}{u:Value}{s:Shared}(l:xy X.env s.heap m x u)(n:s.heap.Ns X.L m)(ok:X.Ok)(z:Q u s)(hd:(x==("__debug__":Str))=false)(T7:(x==("__classdict__":Str))=false):Wp X (eval (.Name x pos) X.env) Q E s:=by
 rcases l with⟨k,e⟩|⟨k|k,c,e,q⟩
 ·exact ahp (wpAny_loadName_local ok.kind k n e z) hd
 ·exact ahp (wpAny_loadName_cell ok.kind k e q z) hd
 ·exact ahp (wpAny_loadName_free ok.kind k e q z T7) hd
theorem rv(i:Nat){x:Str}(hN:X.N[i]? =some x:=by rfl)(hd:nD0 x:=by decide)(T7:(x==("__classdict__":Str))=false:=by decide):RE X (.Name x pos) (ai i) where
 r I p:=by
  unfold ai at p
  split at p
  ·rename_i q;obtain⟨m,_,n,_,l⟩:=I.loc;obtain⟨y,u,e,r,l⟩:=l i _ q
   cases hN.symm.trans e
   exact l.nm n I.ok (p.here I.toHR (I.Rf r)) hd T7
  ·exact p.elim
theorem ah{i:Int}{j}:RE X (.Constant (.int i) j pos) (cK (.int i)):=⟨fun I p=>wpAny_Constant_int (p.now I.toHR (.int i _))⟩
theorem nL{b:Bool}{j}:RE X (.Constant (.bool b) j pos) (cK (.bl b)):=⟨fun I p=>Constant_bool (p.here I.toHR (.bl b))⟩
theorem de{j}:RE X (.Constant .none j pos) (cK .non):=⟨fun I p=>Constant_none (p.here I.toHR .non)⟩
theorem IE(l:List Nat){x:Str}{j}(e:x=S l:=by rfl):RE X (.Constant (.str x) j pos) (cK (.str l)):=⟨fun I p=>Calls.Constant_str (p.now I.toHR (e▸.str l _))⟩
def Rm(X:Cx)(op:Value->Value->Sem Value)(g:PV->PV->List PO->Res PV):Prop:=
 ∀{w h p q u v Q E},Wd X w h->bq X.toSC w.F w.m p u->bq X.toSC w.F w.m q v->bM X (RV X.toSC) w Q E (g p q h)->Wp X (op u v) Q E w.s
def Op1(X:Cx)(op:Value->Sem Value)(g:PV->List PO->Res PV):Prop:=
 ∀{w h p u Q E},Wd X w h->bq X.toSC w.F w.m p u->bM X (RV X.toSC) w Q E (g p h)->Wp X (op u) Q E w.s
def OpN(X:Cx)(op:List Value->Sem Value)(g:List PV->List PO->Res PV):Prop:=
 ∀{w h p u Q E},Wd X w h->aB X.toSC w.F w.m p u->bM X (RV X.toSC) w Q E (g p h)->Wp X (op u) Q E w.s
theorem two{op:Value->Value->Sem Value}{g:PV->PV->List PO->Res PV}(o:Rm X op g)(ha:RE X a fa)(hb:RE X b fb)(I:Inv X w ρ h)(p:bM X (RV X.toSC) w Q E (c2 g fa fb ρ h)):
  Wp X (eval a X.env) (fun v s=>Wp X (eval b X.env) (fun u s=>Wp X (op v u) Q E s) E s) E w.s:=
 ha.r I (p.bind fun _ _ _ _ y r p=>hb.r (I.on y) (p.bind fun _ _ _ _ z r' p=>o ((I.on y).on z).toWd (z.1.rep r) r' p))
theorem qX{op:Operator}{g:PV->PV->List PO->Res PV}(o:Rm X (binaryOp op) g)(ha:RE X a fa)(hb:RE X b fb):RE X (.BinOp a op b pos) (c2 g fa fb):=⟨fun I p=>wpAny_BinOp (two o ha hb I p)⟩
theorem Lr{op:UnaryOp}{g:PV->List PO->Res PV}(o:Op1 X (unaryOp op) g)(ha:RE X a fa):RE X (.UnaryOp op a pos) (c1 g fa):=⟨fun I p=>UnaryOp_ (ha.r I (p.bind fun _ _ _ _ y r p=>o (I.on y).toWd r p))⟩
theorem jZ{op:CmpOp}{g:PV->PV->List PO->Res PV}(o:Rm X (compareOp op) g)(hm:behindInMarks op b=false)(ha:RE X a fa)(hb:RE X b fb):RE X (.Compare a [op] [b] pos) (c2 g fa fb):=⟨fun I p=>wpAny_Compare1 (two o ha hb I p) hm⟩
theorem bX:RA X [] am:=⟨fun _ I p=>aeU (p.here I.toHR .nil)⟩
theorem ag{e:Expr}{es:List Expr}{f:Ex}{fs:Ax}(ha:RE X e f)(hr:RA X es fs)(hs:sE0 X e es:=by rfl):RA X (e::es) (af f fs):=⟨fun pos I p=>by rw[hs];exact aeJ (ha.r I (p.bind fun _ _ _ _ y r p=>hr.r pos (I.on y) (p.bind fun _ _ _ _ z r' p=>p.here z.2 (.cons (z.1.rep r) r'))))⟩
end
end Z
namespace L3
open PySem
noncomputable def Rp(h:List PO):PV->Option (List PV)
 |.lst xs=>some xs
 |.ref i=>match h[i]? with
  |some (.lst xs)=>some xs
  |_=>none
 |_=>none
def S_(h:List PO):PV->Option (List PV)
 |.QD xs=>some xs
 |p=>Rp h p
noncomputable def T9(h:List PO):PV->Option (List (PK×PV))
 |.dct kvs=>some kvs
 |.ref i=>match h[i]? with
  |some (.dct kvs)=>some kvs
  |_=>none
 |_=>none
def RX(h:List PO):PV->Option (List PV)
 |.tup xs=>some xs
 |p=>S_ h p
end L3
namespace Z
open PySem PySem.Spec PyProof.Rows L3
def Vw(g:Heap)(t:String)(a:Addr)(h_:Array Value):Prop:=∃n,g.get? a=some { cls:=.type t,data:=.seq h_ n }
theorem Vw.tup{g:Heap}{a:Addr}{h_:Array Value}(x:Vw g "tuple" a h_):IsTup g a h_:=let⟨n,e⟩:=x;⟨_,e,rfl,n,rfl⟩
theorem Vw.pl{g:Heap}{a:Addr}{h_:Array Value}(x:Vw g "list" a h_):PlainL g a h_:=let⟨n,e⟩:=x;⟨_,n,e,rfl,rfl,rfl⟩
def Vk(h:List PO):PV->Option (String×List PV)
 |.ref i=>match h[i]? with
  |some (.lst xs)=>some ("list",xs)
  |_=>none
 |p=>Vj p
section
variable{G:SC}{w:Wo}{h:List PO}{p:PV}{u:Value}{t:String}{ps:List PV}
inductive Sq0(G:SC)(w:Wo)(u:Value)(t:String)(ps:List PV):Prop where
 |mk (a:Addr)(h_:Array Value)(_:u=.ref a)(_:Vw w.s.heap t a h_)(_:h_.size<=sizeLine)(_:aB G w.F w.m ps h_.toList)
theorem HR.sq(H:HR G w h)(r:bq G w.F w.m p u)(k:Vk h p=some (t,ps)):Sq0 G w u t ps:=by
 unfold Vk at k
 split at k
 ·split at k
  ·rename_i q
   cases k
   cases r with
   |ref e=>obtain⟨_,h_,n,e,z,r⟩:=H.obj _ _ _ q e;exact⟨_,h_,rfl,⟨n,e⟩,z,r⟩
  ·cases k
 ·cases r with
  |tup e z r=>cases k;exact⟨_,_,rfl,⟨_,H.at e⟩,z,r⟩
  |lst e z r=>cases k;exact⟨_,_,rfl,⟨_,H.at e⟩,z,r⟩
  |QD e z r=>cases k;exact⟨_,_,rfl,⟨_,H.at e⟩,z,r⟩
  |_=>cases k
theorem lI(k:Rp h p=some ps):Vk h p=some ("list",ps):=by
 unfold Rp at k
 split at k
 ·cases k;rfl
 ·unfold Vk
  split at k
  ·rename_i q;cases k;simp only[q]
  ·cases k
 ·cases k
theorem ke(k:S_ h p=some ps):Vk h p=some ("list",ps):=by
 unfold S_ at k
 split at k
 ·cases k;rfl
 ·exact lI k
theorem xJ(k:RX h p=some ps):∃t,Vk h p=some (t,ps)/\(t="tuple"\/t="list"):=by
 unfold RX at k
 split at k
 ·cases k;exact⟨_,rfl,.inl rfl⟩
 ·exact⟨_,ke k,.inr rfl⟩
theorem aB.length{F:Fz}{m:List Addr}{ps:List PV}{vs:List Value}(r:aB G F m ps vs):ps.length=vs.length:=aB.ind (P:=fun p v=>p.length=v.length) rfl (fun _ _ i=>congrArg (·+1) i) r
theorem aB.app{F:Fz}{m:List Addr}{ps qs:List PV}{vs us:List Value}(r:aB G F m ps vs)(s:aB G F m qs us):aB G F m (ps++qs) (vs++us):=aB.ind (P:=fun p v=>aB G F m (p++qs) (v++us)) s (fun r _ i=>.cons r i) r
theorem aB.get{F:Fz}{m:List Addr}{p:PV}{ps:List PV}{vs:List Value}{i:Nat}(r:aB G F m ps vs):ps[i]? =some p->∃v,vs[i]? =some v/\bq G F m p v:=aB.ind (P:=fun ps vs=>∀i:Nat,ps[i]? =some p->∃v,vs[i]? =some v/\bq G F m p v) nofun (fun r _ k i e=>by cases i with
 |zero=>cases e;exact⟨_,rfl,r⟩
 |succ i=>exact k i e) r i
theorem aB.td{F:Fz}{m:List Addr}:∀{ps:List PV}{vs:List Value}(n:Nat),aB G F m ps vs->aB G F m (ps.take n) (vs.take n)/\aB G F m (ps.drop n) (vs.drop n)
 |_,_,0,r=>⟨.nil,r⟩
 |_,_,_+1,.nil=>⟨.nil,.nil⟩
 |_,_,n+1,.cons r t=>⟨.cons r (aB.td n t).1,(aB.td n t).2⟩
theorem aB.rep{F:Fz}{m:List Addr}{vs:List Value}(r:aB G F m ps vs):∀n:Nat,aB G F m (List.replicate n ps).flatten (List.replicate n vs).flatten
 |0=>.nil
 |n+1=>by rw[ac3,ac3,adR,adR];exact r.app (r.rep n)
theorem aB.len{F:Fz}{m:List Addr}{h_:Array Value}(r:aB G F m ps h_.toList):ps.length=h_.size:=r.length
end
section
variable{X:Cx}{w:Wo}{h:List PO}{pv:PV}{ps:List PV}{Q:Value->Shared->Prop}{E:Value->Shared->Prop}{t:String}{n tk:Nat}{h_:Array Value}
theorem bM.seq(p:bM X (RV X.toSC) w Q E (.ok pv h))(H:HR X.toSC w h)(k:Vj pv=some (t,ps))(r:aB X.toSC w.F w.m ps h_.toList)(z:h_.size<=sizeLine):Q (.ref w.s.heap.objs.size) { w.s with heap:=w.s.heap.push { cls:=.type t,data:=.seq h_ n },toks:=tk }:=
 have y:=Nw.lay (X:=X) (s':={ w.s with heap:=w.s.heap.push { cls:=.type t,data:=.seq h_ n },toks:=tk }) H (bj _) (fun _ _ e=>acf _ e) (acq _ rfl)
 p.2 _ _ y (.sq k bC z (y.1.reps r))
theorem Nw.mk{s':Shared}{a:Addr}{po:PO}{O:Addr->Option Addr}(H:HR X.toSC w h)(n:w.s.heap.get? a=none)(k:∀b o,w.s.heap.get? b=some o->s'.heap.get? b=some o)(q:sJ X.toSC w.F (w.m++ [a]) O s'.heap a po)(hO:∀d b,w.O d=some b->O d=some b)(hn:∀d b,O d=some b->w.O d=some b\/w.s.heap.get? d=none/\d≠a/\∃o,s'.heap.get? d=some o)(ho:s'.os=w.s.os:=by rfl)(hg:s'.gens=w.s.gens:=by rfl):Nw X w ⟨w.F,O,w.m++ [a],s'⟩ (h++ [po]):=by
 obtain⟨z1,z2⟩:=H.free n;have sb:Sub w.m (w.m++ [a]):=fun i b e=>by rw[acA (acd.mp e).1];exact e
 refine⟨⟨ho,fun q=>hg▸q,fun _ _ e=>e,hO,⟨_,rfl⟩,fun b o e=>⟨o,k b o e⟩,fun b ob q _=>⟨ob.slots,⟨k b ob q.1,fun z=>?_,q.2.2.1,?_⟩,.inr rfl⟩⟩,fun b x q=>k b x (H.sub b x q),fun d b q=>?_,by simp[H.len],adQ.mpr ⟨H.nd,by simp,fun x hx y hy z=>z1 (by simp at hy;rw[<- hy,<- z];exact hx)⟩,fun i ob b e1 e2=>?_⟩
 ·rcases acz.mp z with z|z
  ·exact q.2.1 z
  ·have q:=q.1;simp at z;rw[z,n]at q;cases q
 ·cases e:O b with
  |none=>exact e
  |some d=>
   rcases hn b d e with z|⟨z,_⟩
   ·rw[q.2.2.2]at z;cases z
   ·have q:=q.1;rw[z]at q;cases q
 ·rcases hn d b q with z|⟨z,y,x⟩
  ·obtain⟨⟨o,e⟩,z,y⟩:=H.own d b z;exact⟨⟨o,k d o e⟩,fun q=>(acz.mp q).elim z fun q=>(by simp at q;rw[q,n]at e;cases e),y⟩
  ·exact⟨x,fun q=>(acz.mp q).elim (H.free z).1 fun q=>y (by simpa using q),(H.free z).2.1⟩
 ·rcases ad6 i h.length with l|l
  ·rw[acA l]at e1;rw[acA (H.len▸l)]at e2;exact(H.obj i ob b e1 e2).on (fun _ _ e=>e) (fun d=>hO d b) sb (fun b o e _=>k b o e) id
  ·rw[acP l]at e1;rw[acP (H.len▸l),<- H.len]at e2
   cases e:i - h.length with
   |zero=>rw[e]at e1 e2;cases e1;cases e2;exact q
   |succ _=>rw[e]at e1;simp at e1
theorem bM.lm(p:bM X (RV X.toSC) w Q E (.ok (.ref h.length) (h++ [.lst ps])))(H:HR X.toSC w h)(r:aB X.toSC w.F w.m ps h_.toList)(z:h_.size<=sizeLine):Q (.ref w.s.heap.objs.size) { w.s with heap:=w.s.heap.push { cls:=.type "list",data:=.seq h_ n },toks:=tk }:=
 p.2 _ _ (Nw.mk (s':={ w.s with heap:=w.s.heap.push { cls:=.type "list",data:=.seq h_ n },toks:=tk }) H (bj _) (fun _ _ e=>acf _ e) ⟨(H.free (bj _)).2.1,h_,n,acq _ rfl,z,r.mono (fun _ _ e=>e) (.inr fun i b e=>by rw[acA (acd.mp e).1];exact e)⟩ (fun _ _ e=>e) fun _ _ e=>.inl e) (.ref (by rw[H.len];simp))
end
end Z
namespace HT
open PySem PyProof.Rows
section
variable{prog:Program}{w:World}{A:Around}{E:Value->Shared->Prop}{s:Shared}
theorem Ul{t b:Addr}{vs ws:List Value}{Q:Value->Shared->Prop}(ht:IsTup s.heap t vs.toArray)(hb:IsTup s.heap b ws.toArray)(hv:vs≠ [])
  (h1:ws= []->Q (.ref t) s) (h2:ws≠ []->Q (.ref s.heap.objs.size) { s with heap:=s.heap.push { cls:=.type "tuple",data:=.seq (vs++ws).toArray } })
  (hsz:vs.length+ws.length<=sizeLine):wpAny (model prog w) A (binaryOp .Add (.ref t) (.ref b)) Q E s:=by
 obtain⟨⟨cls,dd,data,sl⟩,ho,hc,n,hd⟩:=id ht;obtain⟨⟨abY,Z5,data2,Za⟩,W4,ZR,n2,hd2⟩:=id hb;simp only at hc hd ZR hd2;subst hc hd ZR hd2;have e:vs.toArray++ws.toArray=(vs++ws).toArray:=by simp
 by_cases hw:ws= []
 ·exact ag0 ⟨_,ho,rfl⟩ ⟨_,W4,rfl⟩ afV agK af8 afY (afS _ _)
   (tuple_addW1 t b vs.toArray ws.toArray n n2 dd Z5 sl Za (by simpa using hv) (by simp[hw])) ⟨ho,W4,h1 hw⟩
 ·refine ag0 ⟨_,ho,rfl⟩ ⟨_,W4,rfl⟩ afV agK af8 afY (afS _ _)
   (tuple_addW2 t b vs.toArray ws.toArray n n2 dd Z5 sl Za (by simpa using hv) (by simpa using hw) (by rw[adx,adx];exact hsz)) ⟨ho,W4,?_⟩
  rw[e];exact h2 hw
noncomputable def M4(n d:Nat):Option Int->Nat
 |none=>d
 |some v=>if v<0 then(v+(n:Int)).toNat else min v.toNat n
theorem RB(n d:Nat):M4 n d none=d:=rfl
theorem QL(n d k:Nat):M4 n d (some (k:Int))=min k n:=by show(if(k:Int)<0 then((k:Int)+(n:Int)).toNat else min (k:Int).toNat n)=min k n;rw[if_neg (by omega),ada]
theorem R6(n d:Nat)(hd:d<=n)(o:Option Int):M4 n d o<=n:=by
 cases o with
 |none=>exact hd
 |some v=>
  show(if v<0 then(v+(n:Int)).toNat else min v.toNat n)<=n
  by_cases hv:v<0
  ·rw[if_pos hv];omega
  ·rw[if_neg hv];exact ahc _ _
theorem nM(a b:Nat):((min a b:Nat):Int)=min (a:Int) b:=by
 rcases Nat.le_total a b with h|h
 ·rw[Nat.min_eq_left h,Int.min_eq_left (Int.ofNat_le.mpr h)]
 ·rw[Nat.min_eq_right h,Int.min_eq_right (Int.ofNat_le.mpr h)]
theorem sB(n d:Nat)(i:Int):max 0 (min (if i<0 then i+(n:Int)else i) (n:Int))=((M4 n d (some i):Nat):Int):=by
 show _=(((if i<0 then(i+(n:Int)).toNat else min i.toNat n):Nat):Int)
 by_cases h:i<0
 ·rw[if_pos h,if_pos h,Int.min_eq_left (by omega),Int.max_comm,Int.ofNat_toNat]
 ·rw[if_neg h,if_neg h,nM,Int.toNat_of_nonneg (Int.not_lt.mp h),Int.max_eq_right (by omega)]
theorem Af(v:Int)(n d:Nat):(if v<0 then max (v+(n:Int)) 0 else min v (n:Int))=((M4 n d (some v):Nat):Int):=by
 show _=(((if v<0 then(v+(n:Int)).toNat else min v.toNat n):Nat):Int)
 by_cases h:v<0
 ·rw[if_pos h,if_pos h,Int.ofNat_toNat]
 ·rw[if_neg h,if_neg h,nM,Int.toNat_of_nonneg (Int.not_lt.mp h)]
theorem yC(lo hi:Option Int)(n:Nat):Builtin.Slice.sliceAdjust lo hi 1 (n:Int)=(((M4 n 0 lo:Nat):Int),((M4 n n hi:Nat):Int)):=by
 have h1:¬ ((1:Int)<0):=by omega
 unfold Builtin.Slice.sliceAdjust;simp only[h1,if_false];refine Prod.ext ?_ ?_
 ·cases lo with
  |none=>rfl
  |some v=>exact Af v n 0
 ·cases hi with
  |none=>rfl
  |some v=>exact Af v n n
theorem xY(i j:Nat):Builtin.Slice.slicePlaces (i:Int) (j:Int) 1=j - i:=by
 unfold Builtin.Slice.slicePlaces;have h1:(1:Int)>0:=by omega
 simp only[h1,if_true,Int.ediv_one]
 split<;>omega
theorem qS{v:Value}{o:Option Int}{Q:Option Int->Shared->Prop}(p:IsPart v o)(h:Q o s):wpAny (model prog w) A (Builtin.Slice.slicePartIndex v) Q E s:=by
 cases p with
 |none=>exact slicePart_none h
 |int i t=>exact slicePart_int h
theorem jB{sl:Addr}{vl vu:Value}{lo hi:Option Int}{n:Nat}{Q:Int×Int×Nat->Shared->Prop}(hs:s.heap.IsSliceOf sl vl vu .none)(pl:IsPart vl lo)(pu:IsPart vu hi)
  (h:Q (((M4 n 0 lo:Nat):Int),1,M4 n n hi - M4 n 0 lo) s):wpAny (model prog w) A (Builtin.Slice.sliceApplied (.ref sl) (pure (n:Int))) Q E s:=by
 obtain⟨os,U_,W5,V9⟩:=id hs;unfold Builtin.Slice.sliceApplied Builtin.Slice.sliceFields;refine ab6 (ab6 (acV U_ V9 (x:=vl) rfl (ab6 (acV U_ V9 (x:=vu) rfl (ab6 (acV U_ V9 (x:=.none) rfl (ach ?_)))))));refine ab6 (slicePart_none ?_);show wpAny _ _ (if((1:Int)==0)=true then _ else _) _ _ s;rw[if_neg (by decide)];refine ab6 (qS pl (ab6 (qS pu (ab6 (ach ?_)))));show wpAny _ _ (match Builtin.Slice.sliceAdjust lo hi 1 (n:Int)with|(lo,hi)=>pure (lo,(1:Int),Builtin.Slice.slicePlaces lo hi 1)) _ _ s;rw[yC lo hi n];show wpAny _ _ (pure (((M4 n 0 lo:Nat):Int),(1:Int),Builtin.Slice.slicePlaces ((M4 n 0 lo:Nat):Int) ((M4 n n hi:Nat):Int) 1)) _ _ s;rw[xY];exact ach h
theorem Cw(xs:Array Value)(i k:Nat):((List.range k).filterMap fun(m:Nat)=>xs[((i:Int)+(m:Int) * 1).toNat]?).toArray=((xs.toList.drop i).take k).toArray:=by
 have e:(fun(m:Nat)=>xs[((i:Int)+(m:Int) * 1).toNat]?)=fun m=>xs[i+m]? :=by
  funext m
  have:((i:Int)+(m:Int) * 1).toNat=i+m:=by omega
  rw[this]
 rw[e];have:=pick_run xs i k;rw[List.filterMap_map]at this;have e2:((fun x=>xs[x]?)∘fun x=>i+x)=fun m=>xs[i+m]? :=rfl;rw[e2]at this;rw[this]
theorem Qi{t sl:Addr}{items:Array Value}{vl vu:Value}{lo hi:Option Int}{Q:Value->Shared->Prop}(ht:IsTup s.heap t items)(hs:s.heap.IsSliceOf sl vl vu .none)(pl:IsPart vl lo)(pu:IsPart vu hi)
  (hw:¬ (M4 items.size 0 lo=0/\M4 items.size items.size hi=items.size))
  (h:Q (.ref s.heap.objs.size) { s with heap:=s.heap.push { cls:=.type "tuple",data:=.seq ((items.toList.drop (M4 items.size 0 lo)).take (M4 items.size items.size hi - M4 items.size 0 lo)).toArray } })
  (hsz:items.size<=sizeLine):wpAny (model prog w) A (getItem (.ref t) (.ref sl)) Q E s:=by
 have SM:sizeOk (.seq ((items.toList.drop (M4 items.size 0 lo)).take (M4 items.size items.size hi - M4 items.size 0 lo)).toArray):=by show((items.toList.drop (M4 items.size 0 lo)).take (M4 items.size items.size hi - M4 items.size 0 lo)).toArray.size<=sizeLine;rw[adx,aeu,aev,agJ];omega
 have hj:M4 items.size items.size hi<=items.size:=R6 _ _ (ab8 _) hi;obtain⟨os,U_,W5,V9⟩:=id hs;have Yh:s.TypeIs (.ref sl) "slice":=⟨os,U_,W5⟩
 unfold getItem
 try with_reducible refine adu ?_
 first|refine ab6 (ach ?_)|skip
 refine ab6 (agW ht.typeIs (by decide) ?_)
 refine ab6 (adb (name:=Str.ofString "__getitem__") ht.typeIs adF
  (adX adF ht.typeIs agF ?_ (agR _ _)))
 show wpAny _ _ (Builtin.Tuple.tupleItemsOf (.ref t) >>= _) _ _ s;refine ab6 (tupleItemsOf_ ht ?_);refine ab6 (afq Yh ?_);rw[if_pos (by decide)];refine ab6 (jB hs pl pu ?_)
 have XQ:¬ ((((M4 items.size 0 lo:Nat):Int)==0&&(1:Int)==1&&(M4 items.size items.size hi - M4 items.size 0 lo)==items.size)=true):=by intro q;rw[ab5,ab5]at q;have q1:((M4 items.size 0 lo:Nat):Int)=0:=aec q.1.1;have q2:M4 items.size items.size hi - M4 items.size 0 lo=items.size:=aec q.2;exact hw ⟨by omega,by omega⟩
 show wpAny _ _ (if(((M4 items.size 0 lo:Nat):Int)==0&&(1:Int)==1&&(M4 items.size items.size hi - M4 items.size 0 lo)==items.size)=true then _ else _) _ _ s;rw[if_neg XQ,Cw]
 first
  |exact ab6 (m:=Builtin.Tuple.tupleExact _) (adw (ach ⟨_,rfl,ach h⟩) SM)
  |exact ab6 (m:=Builtin.Tuple.tupleExact _) (adw (ab6 (ach (ach ⟨_,rfl,ach h⟩))) SM)
  |exact ab6 (ab6 (m:=Builtin.Tuple.tupleExact _) (adw (ach (ach ⟨_,rfl,ach h⟩)) SM))
  |exact ab6 (ab6 (m:=Builtin.Tuple.tupleExact _) (adw (ach ⟨_,rfl,ach h⟩) SM))
theorem Qj{t sl:Addr}{items:Array Value}{vl vu:Value}{lo hi:Option Int}{Q:Value->Shared->Prop}(ht:IsTup s.heap t items)(hs:s.heap.IsSliceOf sl vl vu .none)(pl:IsPart vl lo)(pu:IsPart vu hi)
  (hw:M4 items.size 0 lo=0/\M4 items.size items.size hi=items.size) (h:Q (.ref t) s):wpAny (model prog w) A (getItem (.ref t) (.ref sl)) Q E s:=by
 obtain⟨os,U_,W5,V9⟩:=id hs;have Yh:s.TypeIs (.ref sl) "slice":=⟨os,U_,W5⟩
 unfold getItem
 try with_reducible refine adu ?_
 first|refine ab6 (ach ?_)|skip
 refine ab6 (agW ht.typeIs (by decide) ?_)
 refine ab6 (adb (name:=Str.ofString "__getitem__") ht.typeIs adF
  (adX adF ht.typeIs agF ?_ (agR _ _)))
 show wpAny _ _ (Builtin.Tuple.tupleItemsOf (.ref t) >>= _) _ _ s;refine ab6 (tupleItemsOf_ ht ?_);refine ab6 (afq Yh ?_);rw[if_pos (by decide)];refine ab6 (jB hs pl pu ?_)
 have yes:(((M4 items.size 0 lo:Nat):Int)==0&&(1:Int)==1&&(M4 items.size items.size hi - M4 items.size 0 lo)==items.size)=true:=by rw[hw.1,hw.2];simp
 show wpAny _ _ (if(((M4 items.size 0 lo:Nat):Int)==0&&(1:Int)==1&&(M4 items.size items.size hi - M4 items.size 0 lo)==items.size)=true then _ else _) _ _ s;rw[if_pos yes];obtain⟨⟨ct,dt,da,Vl⟩,hot,V_,n,hdt⟩:=id ht
 cases(show ct=Value.type "tuple" from V_)
 wp_walk using ac0 hot
 exact⟨_,rfl,ach h⟩
end
end HT
namespace L2
open PySem PySem.Spec PyProof.Rows
theorem ab3(a b:Bool):((a&&b)=true)=(a=true/\b=true):=ab5 a b
theorem ab4(n:Nat):n<=n:=ab8 n
theorem pC(h_:List Value):∀(k:Nat)(acc:List Value),
  List.foldl (fun x1 x2=>x1++x2) acc.toArray (List.replicate k h_.toArray)=(acc++(List.replicate k h_).flatten).toArray
 |0,acc=>by simp
 |k+1,acc=>by
  have e:acc.toArray++h_.toArray=(acc++h_).toArray:=by simp
  have e2:(acc++h_)++(List.replicate k h_).flatten=acc++(List.replicate (k+1) h_).flatten:=by rw[ac3,adR,acG]
  rw[<- e2,<- pC h_ k (acc++h_),<- e,ac3,ad4]
theorem uZ{α:Type}(xs:List α)(k:Nat):(List.replicate k xs).flatten.length=k * xs.length:=by
 induction k with
 |zero=>simp
 |succ k ih=>rw[ac3,adR,acs,ih,ag4,aes]
theorem CS{n:Nat}(h:n<=sizeLine):Builtin.List.listTooLong n=false:=by unfold Builtin.List.listTooLong;exact decide_eq_false (by omega)
theorem Au:fillsNumberSlot (.type "tuple") "mul"=pure false:=by kernel_rfl
theorem vQ:seqRepeat? (.type "tuple")=pure (some (.builtin "tuple.__mul__")):=by kernel_rfl
theorem xO(a:Int)(t:Tok)(l:Addr)(h_:Array Value)(n:Nat)(dd:Option Addr)(sl:Array (Option Value)):
  Meets (Builtin.«int.__rmul__» ⟨[.int a t,.ref l],[]⟩) (fun _ R s=>s.heap.get? l=some { cls:=.type "tuple",dict:=dd,data:=.seq h_ n,slots:=sl }/\R (.ok (.ret Value.notImplemented)) s):=
 .of_wp fun prog w A R s h=>by
  obtain⟨hp,g,d,tk,os⟩:=s;obtain⟨hl,h⟩:=h
  wp_walk
  exact⟨_,rfl,h⟩
theorem As(l:Addr)(h_:List Value)(n:Nat)(dd:Option Addr)(sl:Array (Option Value))(k:Int)(t:Tok)(h1: -(2 ^ 63)<=k)(h2:k<2 ^ 63)(hz:h_.length * k.toNat<=sizeLine):
  Meets (Builtin.«tuple.__mul__» ⟨[.ref l,.int k t],[]⟩) (fun _ R s=>s.heap.get? l=some { cls:=.type "tuple",dict:=dd,data:=.seq h_.toArray n,slots:=sl }/\
   ((h_= []\/k=1)->R (.ok (.ret (.ref l))) s)/\R (.ok (.ret (.ref s.heap.objs.size))) { s with heap:=s.heap.push { cls:=.type "tuple",data:=.seq (List.replicate k.toNat h_).flatten.toArray } }):=
 .of_wp fun prog w A R s h=>by
  obtain⟨hp,g,d,tk,os⟩:=s;obtain⟨hl,q1,q2⟩:=h;have f1:=AutoSeq1.idx_int;have f2:=AutoSeq1.sub_tuple_tuple;have b1:¬ ((decide (k< -(2 ^ 63))||decide (k>=2 ^ 63))=true):=by simp;omega
  unfold Builtin.«tuple.__mul__»
  wp_walk using ac0 hl
  rw[if_neg b1]
  wp_walk using ac0 hl
  have em:h_.toArray.isEmpty=h_.isEmpty:=by cases h_<;>rfl
  have fr:∀xs:Array Value,xs.size<=sizeLine->xs=(List.replicate k.toNat h_).flatten.toArray->wpAny (model prog w) A.in1 (Builtin.Tuple.tupleExact xs >>= fun v=>ret v) (fun fin s'=>∃v,fin=Fin.done (Flow.ret v)/\R (Except.ok (Flow.ret v)) s') (fun e s'=>R (Except.error e) s') ⟨hp,g,d,tk,os⟩:=fun xs hx e=>by unfold Builtin.Tuple.tupleExact;subst e;exact ab6 (adw (ach ⟨_,rfl,q2⟩) hx)
  by_cases c:(h_.toArray.isEmpty||k==1)=true
  ·rw[if_pos c]
   wp_walk using ac0 hl
   refine⟨_,rfl,q1 ?_⟩;rw[ac4,em,af0,beq_iff_eq]at c;exact c
  ·rw[if_neg c];rw[ac4,not_or,em,af0]at c
   by_cases c2:(decide (k<=0)||h_.toArray.isEmpty)=true
   ·rw[if_pos c2];rw[ac4,em,af0]at c2
    have k0:k.toNat=0:=by
     rcases c2 with z|z
     ·have:=of_decide_eq_true z;omega
     ·exact absurd z c.1
    exact fr #[] (acu _) (by rw[k0];rfl)
   ·rw[if_neg c2]
    have e2:(h_.toArray.size:Int) * k=((h_.length * k.toNat:Nat):Int):=by
     have:((k.toNat:Nat):Int)=k:=agH (by simp only[ac4,not_or,decide_eq_true_eq]at c2;omega)
     rw[adx];push_cast;rw[this]
    have sl8:(sizeLine:Nat)<=(2 ^ 63 - 1) / 8:=by decide
    rw[if_neg (by rw[e2];intro z;have:(h_.length * k.toNat:Nat)<=(2 ^ 63 - 1) / 8:=ace hz sl8;omega)];rw[if_neg (by rw[e2];unfold Builtin.Tuple.tupleTooMany;intro z;have:=of_decide_eq_true z;have h3:((h_.length * k.toNat:Nat):Int)<=(sizeLine:Nat):=Int.ofNat_le.mpr hz;omega)]
    have hf:List.foldl (fun x1 x2=>x1++x2) #[] (List.replicate k.toNat h_.toArray)=(List.replicate k.toNat h_).flatten.toArray:=by have:=pC h_ k.toNat [];rw[acC]at this;exact this
    refine fr _ ?_ hf;rw[hf,adx,uZ,afs];exact hz
theorem uz(lo hi:Option Int)(n:Nat):(sliceBounds lo hi none n).1=((HT.M4 n 0 lo:Nat):Int)/\(sliceBounds lo hi none n).2.1=((HT.M4 n n hi:Nat):Int)/\(sliceBounds lo hi none n).2.2=1:=by
 refine⟨?_,?_,rfl⟩
 ·cases lo with
  |none=>rfl
  |some i=>exact HT.sB n 0 i
 ·cases hi with
  |none=>rfl
  |some i=>exact HT.sB n n i
theorem sM(h_:List Value)(lo hi:Option Int):slicePick h_.toArray lo hi none=((h_.drop (HT.M4 h_.length 0 lo)).take (HT.M4 h_.length h_.length hi - HT.M4 h_.length 0 lo)).toArray:=by obtain⟨h1,h2,h3⟩:=uz lo hi h_.toArray.size;unfold slicePick;rw[h1,h2,h3];simp only[sliceRange_one,pick_run,adx]<;>rfl
end L2
namespace L3
open PySem PySem.Spec PyProof.Rows
def AO(p q:PV)(h:List PO):Res PV:=match p,q with
 |.int i,.int j=>.ok (.int (i+j)) h
 |.int i,.bl b=>.ok (.int (i+b2i b)) h
 |.str a,.str b=>if a.length+b.length<=sizeLine then .ok (.str (a++b)) h else .bad
 |.tup a,.tup b=>if a.isEmpty=false/\a.length+b.length<=sizeLine then .ok (.tup (a++b)) h else .bad
 |p,q=>match Rp h p,Rp h q with
  |some a,some b=>if a.length+b.length<=sizeLine then .ok (.lst (a++b)) h else .bad
  |_,_=>.bad
def aI(p q:PV)(h:List PO):Res PV:=match p,q with
 |.tup [],.tup b=>.ok (.tup b) h
 |p,q=>AO p q h
noncomputable def pI(C:Int->Int->Bool)(g:Int->Int->Int)(p q:PV)(h:List PO):Res PV:=match p,q with
 |.int i,.int j=>if C i j=true then .ok (.int (g i j)) h else .bad
 |_,_=>.bad
noncomputable def oT(p q:PV)(h:List PO):Res PV:=match p,q with
 |.int i,.int j=>.ok (.int (i - j)) h
 |_,_=>.bad
abbrev eF:=pI (fun _ j=>decide (0<j)) (fun i j=>i % j)
abbrev gI:=pI (fun _ j=>decide (0<j/\j<1073741824)) (fun i j=>i / j)
noncomputable def Q8(n:Nat)(i:Int):Bool:=Nat.blt i.natAbs n
noncomputable def LM(i j:Int):Bool:=decide (Builtin.Int.intBits i+Builtin.Int.intBits j<=134217728)
def jJ(i j:Int):Bool:=Q8 18446744073709551616 i||(Q8 18446744073709551616 j||LM i j)
noncomputable def sQ{α:Type}(xs:List α)(k:Int):List α:=(List.replicate k.toNat xs).flatten
def lF(p q:PV)(h:List PO):Res PV:=match p,q with
 |.int i,.int j=>if jJ i j=true then .ok (.int (i * j)) h else .bad
 |.str a,.int k=>if Q8 1048576 k=true/\a.length * k.toNat<=1048576 then .ok (.str (sQ a k)) h else .bad
 |p,.int k=>match Rp h p with
  |some xs=>if Q8 9223372036854775808 k=true/\xs.length * k.toNat<=sizeLine then .ok (.lst (sQ xs k)) h else .bad
  |_=>.bad
 |_,_=>.bad
def rG(p q:PV)(h:List PO):Res PV:=match p,q with
 |.tup xs,.int k=>if Q8 9223372036854775808 k=true/\xs.length * k.toNat<=sizeLine then .ok (.tup (sQ xs k)) h else .bad
 |p,q=>lF p q h
noncomputable def lC(p:PV)(h:List PO):Res PV:=match p with
 |.int i=>.ok (.int (-i)) h
 |_=>.bad
theorem eT{n:Nat}{i:Int}:Q8 n i=true↔ -(n:Int)<i/\i<(n:Int):=by unfold Q8;rw[Nat.blt_eq];omega
theorem EG(a b:List Nat):S a++S b=S (a++b):=by show(⟨(S a).cps++(S b).cps⟩:Str)=_;simp[S]
end L3
namespace Z
open PySem PySem.Spec PyProof.Rows L3 L2
section
variable{X:Cx}{a b:Expr}{fa fb:Ex}{pos:Pos}
theorem LB:Rm X (binaryOp .Add) aI:=fun{w h p q u v Q E} I rp rq k=>by
 unfold aI at k
 split at k
 ·obtain⟨a,h_,rfl,⟨n,e⟩,z,r⟩:=I.sq (ps:=[]) rp rfl;obtain⟨b,O4,rfl,⟨n',e'⟩,_⟩:=I.sq rq rfl;exact ag0 ⟨_,e,rfl⟩ ⟨_,e',rfl⟩ afV agK F.slot_tuple_add F.entry_tuple_add (F.args_tuple_add_2 _ _) (tuple_addW0 a b _ _ n n' _ _ _ _ (by have:=r.len;simpa using this.symm)) ⟨e,e',k.here I.toHR rq⟩
 ·unfold AO at k
  split at k
  ·obtain⟨_,rfl⟩:=rp.vi;obtain⟨_,rfl⟩:=rq.vi;exact add_int (k.now I.toHR (.int _ _))
  ·obtain⟨_,rfl⟩:=rp.vi;obtain rfl:=rq.vb;exact add_int_bool (k.now I.toHR (.int _ _))
  ·split at k
   ·obtain⟨_,rfl⟩:=rp.vs;obtain⟨_,rfl⟩:=rq.vs;exact add_str (fun _ _=>by rw[EG];exact k.now I.toHR (.str _ _)) (by rw[ij,ij];assumption)
   ·exact k.elim
  ·split at k
   ·rename_i xs ys _ c;obtain⟨a,h_,rfl,x,z,r⟩:=I.sq rp rfl;obtain⟨b,O4,rfl,y,_,r'⟩:=I.sq rq rfl;have l:=r.len;have l':=r'.len;refine HT.Ul (vs:=h_.toList) (ws:=O4.toList) x.tup y.tup (fun z=>?_) (fun z=>?_) (fun z=>?_) (by simp;omega)
    ·obtain rfl:xs= []:=(by simp at z;simpa[z]using l)
     cases c.1
    ·obtain rfl:ys= []:=(by simp at z;simpa[z]using l')
     rw[acH]at k;exact k.here I.toHR rp
    ·exact k.seq I.toHR rfl (by simpa using r.app r') (by simp;omega)
   ·exact k.elim
  ·split at k
   ·rename_i xs ys e1 e2
    split at k
    ·obtain⟨a,h_,rfl,⟨_,x⟩,z,r⟩:=I.sq rp (lI e1);obtain⟨b,O4,rfl,⟨_,y⟩,_,r'⟩:=I.sq rq (lI e2);have l:=r.len;have l':=r'.len;exact ag8 x y (k.seq I.toHR rfl (by simpa using r.app r') (by simp;omega)) (by omega)
    ·exact k.elim
   ·exact k.elim
theorem Zf{op:Operator}{C:Int->Int->Bool}{g:Int->Int->Int}(o:∀{i j t t' s Q} {E:Value->Shared->Prop},C i j=true->Q (.int (g i j) s.toks) { s with toks:=s.toks+1 }->Wp X (binaryOp op (.int i t) (.int j t')) Q E s):Rm X (binaryOp op) (pI C g):=fun I rp rq k=>by
 unfold pI at k
 split at k
 ·obtain⟨_,rfl⟩:=rp.vi;obtain⟨_,rfl⟩:=rq.vi
  split at k
  ·exact o ‹_› (k.now I.toHR (.int _ _))
  ·exact k.elim
 ·exact k.elim
theorem aH(ha:RE X a fa)(hb:RE X b fb):RE X (.BinOp a .Add b pos) (c2 aI fa fb):=qX LB ha hb
theorem jp(ha:RE X a fa)(hb:RE X b fb):RE X (.BinOp a .Sub b pos) (c2 oT fa fb):=qX (fun I rp rq k=>by
 unfold oT at k
 split at k
 ·obtain⟨_,rfl⟩:=rp.vi;obtain⟨_,rfl⟩:=rq.vi;exact sub_int (k.now I.toHR (.int _ _))
 ·exact k.elim) ha hb
theorem bA(ha:RE X a fa)(hb:RE X b fb):RE X (.BinOp a .Mod b pos) (c2 eF fa fb):=qX (Zf fun{i j t t' s Q E} c q=>by have c:=of_decide_eq_true c;exact mod_int' (by omega) (by rw[Int.fmod_eq_emod_of_nonneg i (by omega)];exact q)) ha hb
theorem bN(ha:RE X a fa)(hb:RE X b fb):RE X (.BinOp a .FloorDiv b pos) (c2 gI fa fb):=qX (Zf fun{i j t t' s Q E} c q=>by have c:=of_decide_eq_true c;exact floordiv_int (by omega) (by rw[Int.fdiv_eq_ediv_of_nonneg i (by omega)];exact q) (.inl (PyProof.noPylong_small (by omega)))) ha hb
theorem gv(ha:RE X a fa):RE X (.UnaryOp .USub a pos) (c1 lC fa):=Lr (fun I rp k=>by
 unfold lC at k
 split at k
 ·obtain⟨_,rfl⟩:=rp.vi;exact neg_int (k.now I.toHR (.int _ _))
 ·exact k.elim) ha
theorem DR(l:Array Value)(k:Nat):List.foldl (fun x1 x2=>x1++x2) #[] (List.replicate k l)=(List.replicate k l.toList).flatten.toArray:=by have:=pC l.toList k [];simpa using this
theorem Ni(a:List Nat)(k:Int):Txt.mul (S a) k=S (sQ a k):=by
 unfold Txt.mul sQ
 have f:∀(k:Nat)(acc:List Nat),(List.replicate k a.toArray).foldl (· ++ ·) acc.toArray=(acc++(List.replicate k a).flatten).toArray:=fun k=>by
  induction k with
  |zero=>simp
  |succ k ih=>intro acc;rw[ac3,ad4,ac3,adR,<- acG,<- ih (acc++a)];congr 1;simp
 split
 ·rw[show k.toNat=0 by omega];rfl
 ·split
  ·rename_i h1 h2;rcases ac4 _ _▸h2 with z|z
   ·obtain rfl:k=1:=by simpa using z
    simp
   ·obtain rfl:a= []:=by rw[ij]at z;simpa using z
    simp
  ·show(⟨_⟩:Str)=⟨_⟩
   congr 1
   exact(f k.toNat []).trans (by simp)
theorem Hq:Rm X (binaryOp .Mult) rG:=fun{w h p q u v Q E} I rp rq k=>by
 unfold rG at k
 split at k
 ·split at k
  ·rename_i xs n hz;have hk:=eT.mp hz.1
   obtain⟨_,rfl⟩:=rq.vi
   obtain⟨l,h_,rfl,⟨_,e⟩,z,r⟩:=I.sq rp rfl;have ln:=r.len
   refine afH (T:="tuple") (U:="int") (by decide) ⟨_,e,rfl⟩ (fun s'=>agP s' _ _) Au F.fills_int_mul F.slot_int_rmul vQ F.slot_int_index.lookup
    (afu F.slot_int_rmul (agP w.s _ _) F.entry_int_rmul (F.args_int_rmul_2 _ _) (xO _ _ l h_ _ _ _) ⟨e,rfl,⟨_,e,rfl⟩,afu F.slot_tuple_mul ⟨_,e,rfl⟩ F.entry_tuple_mul (F.args_tuple_mul_2 _ _) (As l h_.toList _ _ _ _ _ (by omega) (by omega) (by simp;rw[<- ln];exact hz.2)) ⟨e,fun c=>?_,k.seq I.toHR rfl (r.rep _) (by rw[adx,uZ,<- r.length,afs];exact hz.2)⟩⟩)
   rw[show sQ xs n=xs by
    rcases c with c|rfl
    ·obtain rfl:xs= []:=by simp at c;simpa[c]using ln
     simp[sQ]
    ·simp[sQ]]at k
   exact k.here I.toHR rp
  ·exact k.elim
 ·unfold lF at k
  split at k
  ·obtain⟨_,rfl⟩:=rp.vi;obtain⟨_,rfl⟩:=rq.vi
   split at k
   ·rename_i hc;unfold jJ at hc;rw[ac4,ac4,eT,eT]at hc
    exact mul_int (k.now I.toHR (.int _ _)) (by
     rcases hc with c|c|c
     ·exact .of_left (intBits_le_64 c.1 c.2)
     ·exact .of_right (intBits_le_64 c.1 c.2)
     ·exact IntMulOk.of_le (ab8 _) (ab8 _) (of_decide_eq_true c))
   ·exact k.elim
  ·rename_i a n _
   obtain⟨_,rfl⟩:=rp.vs;obtain⟨_,rfl⟩:=rq.vi
   split at k
   ·rename_i hc;obtain⟨h1,h2⟩:=eT.mp hc.1;have h3:=hc.2;refine SB.mul ⟨by simp;omega,fun g1 g2=>?_,fun g1 g2=>?_⟩ fun _ _=>by rw[Ni];exact k.now I.toHR (.str _ _)
    ·have:a.length * 1<=a.length * n.toNat:=aez _ (by omega)
     have:(2:Int) ^ 20<=(2 ^ 63 - 1) / n:=by rw[Int.le_ediv_iff_mul_le (by omega)];have:(2:Int) ^ 20 * n<=2 ^ 20 * 2 ^ 20:=afh (by omega) (by decide);omega
     rw[ij];omega
    ·rw[ij];have:(2:Nat) ^ 20<=sizeLine:=by decide
     simp[Builtin.Str.tooLong];omega
   ·exact k.elim
  ·rename_i n _ _ _
   obtain⟨_,rfl⟩:=rq.vi
   split at k
   ·rename_i xs e'
    split at k
    ·rename_i hz;have hk:=eT.mp hz.1;obtain⟨l,h_,rfl,⟨_,e⟩,z,r⟩:=I.sq rp (lI e');have ln:=r.len;have hl:=hz.2;rw[ln]at hl;have:(sizeLine:Nat)<=(2 ^ 63 - 1) / 8:=by decide
     refine afH (T:="list") (U:="int") (by decide) ⟨_,e,rfl⟩ (fun s'=>agP s' _ _) noFill_list_mul F.fills_int_mul F.slot_int_rmul repeat_list F.slot_int_index.lookup
      (afu F.slot_int_rmul (agP w.s _ _) F.entry_int_rmul (F.args_int_rmul_2 _ _) (int___rmul___int_list _ _ l h_ _) ⟨e,rfl,⟨_,e,rfl⟩,afu F.slot_list_mul ⟨_,e,rfl⟩ F.entry_list_mul (F.args_list_mul_2 _ _) (AutoListH.list___mul___list_int_3 l h_ _ n _ (by rw[fitsIndex_both (by omega) (by omega)];exact aei) (by omega) (by rw[CS hl];exact aei)) ⟨e,?_⟩⟩)
     rw[DR,show(List.replicate (if h_.isEmpty=true then 0 else n.toNat) h_.toList).flatten=(List.replicate n.toNat h_.toList).flatten by split<;>simp_all];exact k.seq I.toHR rfl (r.rep _) (by rw[adx,uZ,<- r.length,afs];exact hz.2)
    ·exact k.elim
   ·exact k.elim
  ·exact k.elim
end
end Z
namespace L3
open PySem PySem.Spec PyProof.Rows
mutual
def toD:PV->PyData
 |.non=>.none
 |.bl b=>.bool b
 |.int i=>.int i
 |.str l=>.str (S l)
 |.tup xs=>.tuple (jz xs)
 |.lst xs=>.list (jz xs)
 |.QD xs=>.list (jz xs)
 |_=>.dict []
def jz:List PV->List PyData
 |[]=>[]
 |x::r=>toD x::jz r
end
def O8(h:List PO):PV->PyData
 |.ref i=>match h[i]? with
  |some (.lst xs)=>.list (jz xs)
  |_=>.dict []
 |p=>toD p
def O9(h:List PO)(p:PV):Bool:=(O8 h p).canLay0&&decide ((O8 h p).depth<=60)
def J5(p q:PV)(h:List PO):Res PV:=if O9 h p=true/\O9 h q=true then .ok (.bl (PyData.eqv (O8 h p) (O8 h q))) h else .bad
def QC(p q:PV)(h:List PO):Res PV:=if O9 h p=true/\O9 h q=true then .ok (.bl (!PyData.eqv (O8 h p) (O8 h q))) h else .bad
noncomputable def AN(g:Int->Int->Bool)(p q:PV)(h:List PO):Res PV:=match p,q with
 |.int i,.int j=>.ok (.bl (g i j)) h
 |_,_=>.bad
abbrev Tt:=AN fun i j=>decide (i<j)
abbrev Ti:=AN fun i j=>decide (j<i)
abbrev Ze:=AN fun i j=>decide (j<=i)
noncomputable def kJ:PV->Bool
 |.non=>true
 |_=>false
def Tv(p q:PV)(h:List PO):Res PV:=match q with
 |.non=>.ok (.bl (kJ p)) h
 |_=>.bad
def io(p q:PV)(h:List PO):Res PV:=match q with
 |.non=>.ok (.bl (!kJ p)) h
 |_=>.bad
def Zk(h:List PO)(p q:PV):Bool:=match Rp h p,Rp h q with
 |some xs,some ys=>decide (xs.length≠ys.length)
 |_,_=>false
def aE(f:Ex):Tx:=fun ρ h=>(f ρ h).bind fun p h1=>match p with
 |.bl b=>.ok b h1
 |_=>.bad
def BM(f:Tx):Tx:=fun ρ h=>(f ρ h).bind fun b h1=>.ok (!b) h1
def je(f g:Tx):Tx:=fun ρ h=>(f ρ h).bind fun b h1=>if b=true then g ρ h1 else .ok false h1
def jA(f g:Tx):Tx:=fun ρ h=>(f ρ h).bind fun b h1=>if b=true then .ok true h1 else g ρ h1
def Vv(f g:Ex):Ex:=fun ρ h=>(f ρ h).bind fun p h1=>match p with
 |.bl b=>if b=true then .ok (.bl true) h1 else g ρ h1
 |_=>.bad
def yy(t:Tx)(f g:Ex):Ex:=fun ρ h=>(t ρ h).bind fun b h1=>if b=true then f ρ h1 else g ρ h1
noncomputable def Yl(h:List PO):PV->Option (List (PK×PV))
 |.ref i=>match h[i]? with
  |some (.dct kvs)=>some kvs
  |_=>none
 |_=>none
def uv(h:List PO):PV->Option Bool
 |.non=>some false
 |.bl b=>some b
 |.int i=>some (i !=0)
 |.str l=>if l.length<=sizeLine then some (!l.isEmpty)else none
 |p=>match RX h p with
  |some xs=>some (!xs.isEmpty)
  |none=>match Yl h p with
   |some kvs=>some (!kvs.isEmpty)
   |none=>none
def kD(f:Ex):Tx:=fun ρ h=>(f ρ h).bind fun p h1=>match uv h1 p with
 |some b=>.ok b h1
 |none=>.bad
end L3
namespace Z
open PySem PySem.Spec PyProof.Rows L3
theorem bM.imp{α β:Type}{X:Cx}{R:Wo->α->β->Prop}{w:Wo}{Q Q':β->Shared->Prop}{E:Value->Shared->Prop}{r:Res α}(p:bM X R w Q E r)(k:∀x s,Q x s->Q' x s):bM X R w Q' E r:=match r with
 |.ok _ _=>⟨p.1,fun w' x y q=>k _ _ (p.2 w' x y q)⟩
 |.exc _ _=>p
 |.bad=>p
section
variable{G:SC}{w:Wo}{h:List PO}
theorem aB.reads(H:HR G w h){p:List PV}{u:List Value}(r:aB G w.F w.m p u):PyData.canLayAll0 (jz p)=true->∃as,ReadsAll w.s.heap u (jz p) as:=
 aB.rec (motive_1:=fun p u _=>(toD p).canLay0=true->∃as,Reads w.s.heap u (toD p) as) (motive_2:=fun p u _=>PyData.canLayAll0 (jz p)=true->∃as,ReadsAll w.s.heap u (jz p) as) (fun _=>⟨_,.none⟩) (fun b _=>⟨_,.bool b⟩) (fun i t _=>⟨_,.int i t⟩) (fun x t _=>⟨_,.str _ t⟩) (fun _=>nofun) (fun _=>nofun) (fun e _ _ i c=>let⟨_,q⟩:=i c;⟨_,.tuple (H.at e) rfl rfl q⟩) (fun e _ _ i c=>let⟨_,q⟩:=i c;⟨_,.list (H.at e) rfl rfl q⟩) (fun e _ _ i c=>let⟨_,q⟩:=i c;⟨_,.list (H.at e) rfl rfl q⟩) (fun _ _ _ _ _ _ _=>nofun) (fun _ _ _ _=>nofun) (fun _=>nofun) (fun _ _ _ _=>nofun) (fun _ _ _ _ _ _ _ _ _ _=>nofun) (fun _=>⟨_,.nil⟩) (fun _ _ i j c=>let⟨a,b⟩:=(ab5 _ _▸c:);let⟨_,q⟩:=i a;let⟨_,q'⟩:=j b;⟨_,.cons q q'⟩) r
theorem bq.reads(H:HR G w h){p:PV}{u:Value}(r:bq G w.F w.m p u)(c:(toD p).canLay0=true):∃as,Reads w.s.heap u (toD p) as:=by
 obtain⟨_,q⟩:=aB.reads H (.cons r .nil) (show(_&&_)=true by rw[c];rfl);cases q;exact⟨_,‹_›⟩
theorem HR.reads(H:HR G w h){p:PV}{u:Value}(r:bq G w.F w.m p u)(c:(O8 h p).canLay0=true):∃as,Reads w.s.heap u (O8 h p) as:=by
 unfold O8 at c |-
 split
 ·split
  ·rename_i q
   cases r with
   |ref e=>obtain⟨_,h_,n,e,_,r⟩:=H.obj _ _ _ q e;simp only[q,PyData.canLay0]at c;obtain⟨as,q⟩:=r.reads H c;exact⟨_,.list e rfl rfl q⟩
  ·rename_i q;revert c;dsimp only;split
   ·rename_i q';exact absurd q' (q _)
   ·simp[PyData.canLay0]
 ·rename_i q;have e:O8 h p=toD p:=by unfold O8;split;exact absurd rfl (q _);rfl
  exact r.reads H (by rw[<- e];exact c)
end
section
variable{X:Cx}{w:Wo}{ρ:Ev}{h:List PO}{a b c:Expr}{fa fb fc:Ex}{ta tb:Tx}{pos:Pos}{rest:List Expr}
theorem bf(b:Expr){op:CmpOp}(h:op≠.In:=by decide)(h2:op≠.NotIn:=by decide):behindInMarks op b=false:=by
 have e1:(op==CmpOp.In)=false:=by cases op<;>first|rfl|exact absurd rfl h
 have e2:(op==CmpOp.NotIn)=false:=by cases op<;>first|rfl|exact absurd rfl h2
 cases b<;>simp[behindInMarks,e1,e2]
theorem LA(hu:X.A.units+64<cLine):Rm X (compareOp .Eq) J5:=fun{w h p q u v Q E} I rp rq k=>by
 unfold J5 O9 at k
 split at k
 ·rename_i c;simp only[ab5,decide_eq_true_eq]at c;obtain⟨as,ra⟩:=I.reads rp c.1.1;obtain⟨bs,rb⟩:=I.reads rq c.2.1;exact SeqAt.compareEq_reads ra rb c.1.1 c.2.1 (by have:=ahl (O8 h p).depth (O8 h q).depth;omega) (k.here I.toHR (.bl _))
 ·exact k.elim
theorem sX(hu:X.A.units+64<cLine):Rm X (compareOp .NotEq) QC:=fun{w h p q u v Q E} I rp rq k=>by
 unfold QC O9 at k
 split at k
 ·rename_i c;simp only[ab5,decide_eq_true_eq]at c;obtain⟨as,ra⟩:=I.reads rp c.1.1;obtain⟨bs,rb⟩:=I.reads rq c.2.1;exact SeqAt.compareNe_reads ra rb c.1.1 c.2.1 (by have:=ahl (O8 h p).depth (O8 h q).depth;omega) (k.here I.toHR (.bl _))
 ·exact k.elim
theorem IN{op:CmpOp}{g:Int->Int->Bool}(o:∀{i j t t' s Q} {E:Value->Shared->Prop},Q (.bool (g i j)) s->Wp X (compareOp op (.int i t) (.int j t')) Q E s):Rm X (compareOp op) (AN g):=fun I rp rq k=>by
 unfold AN at k
 split at k
 ·obtain⟨_,rfl⟩:=rp.vi;obtain⟨_,rfl⟩:=rq.vi;exact o (k.here I.toHR (.bl _))
 ·exact k.elim
theorem uS:Rm X (compareOp .Lt) Tt:=IN lt_int
theorem sY:Rm X (compareOp .Gt) Ti:=IN gt_int
theorem Nk:Rm X (compareOp .GtE) Ze:=IN ge_int
theorem tM{G:SC}{F:Fz}{m:List Addr}{p:PV}{u:Value}(r:bq G F m p u):(u==Value.none)=kJ p:=by cases r<;>rfl
theorem pR:Rm X (compareOp .Is) Tv:=fun I rp rq k=>by
 unfold Tv at k
 split at k
 ·obtain rfl:=rq.vn;exact is_none_gen (tM rp▸k.here I.toHR (.bl _))
 ·exact k.elim
theorem mT:Rm X (compareOp .IsNot) io:=fun I rp rq k=>by
 unfold io at k
 split at k
 ·obtain rfl:=rq.vn;exact isnot_none_gen (tM rp▸k.here I.toHR (.bl _))
 ·exact k.elim
theorem bn{op:CmpOp}{g:PV->PV->List PO->Res PV}(o:Rm X (compareOp op) g)(hm:behindInMarks op b=false)(ha:RE X a fa)(hb:RE X b fb):RT X (.Compare a [op] [b] pos) (aE (c2 g fa fb)) where
 r I p:=wpAny_isTrue_Compare1 (two o ha hb I (p.bind fun _ _ q _ y r p=>by
  cases r with
  |bl=>exact afK (p.here y.2 rfl)
  |_=>exact p.elim)) hm
structure RW(X:Cx)(e:Expr)(f:Tx):Prop where
 r:∀{whole:Sem Value}{w:Wo}{ρ:Ev}{h:List PO}{Q:Bool->Shared->Prop}{E:Value->Shared->Prop},Inv X w ρ h->bM X (fun _ a b=>a=b) w Q E (f ρ h)->Wp X (isTrue e X.env whole) Q E w.s
theorem RW.rt{f:Tx}(h:RW X a f):RT X a f:=⟨h.r⟩
theorem Iy(ha:RT X a ta):RT X (.UnaryOp .Not a pos) (BM ta):=⟨fun I p=>isTrue_not (ha.r I (p.bind fun _ _ _ _ y r p=>p.here y.2 (r▸rfl)))⟩
theorem iC(ha:RT X a ta):RW X (.BoolOp .And [a] pos) ta:=⟨fun{_ _ _ _ Q _} I p=>isTrue_and (ha.r I (bM.imp p fun b s q=>by cases b;exact q;exact isTrue_and_nil q))⟩
theorem fR(ha:RT X a ta):RW X (.BoolOp .Or [a] pos) ta:=⟨fun{_ _ _ _ Q _} I p=>isTrue_or (ha.r I (bM.imp p fun b s q=>by cases b;exact isTrue_or_nil q;exact q))⟩
theorem ik(ha:RT X a ta)(hb:RW X (.BoolOp .And (b::rest) pos) tb):RW X (.BoolOp .And (a::b::rest) pos) (je ta tb):=⟨fun I p=>isTrue_and (ha.r I (p.bind fun _ _ c _ y r p=>by
 subst r
 cases c
 ·exact p.here y.2 rfl
 ·exact hb.r (I.on y) p))⟩
theorem hZ(ha:RT X a ta)(hb:RW X (.BoolOp .Or (b::rest) pos) tb):RW X (.BoolOp .Or (a::b::rest) pos) (jA ta tb):=⟨fun I p=>isTrue_or (ha.r I (p.bind fun _ _ c _ y r p=>by
 subst r
 cases c
 ·exact hb.r (I.on y) p
 ·exact p.here y.2 rfl))⟩
theorem uL{op}(ha:RE X a fa):RE X (.BoolOp op [a] pos) fa:=⟨fun I p=>BoolOp_one (ha.r I p)⟩
theorem yU(ha:RE X a fa)(hb:RE X (.BoolOp .Or (b::rest) pos) fb):RE X (.BoolOp .Or (a::b::rest) pos) (Vv fa fb):=⟨fun I p=>BoolOp_or (ha.r I (p.bind fun _ _ c _ y r p=>by
 cases r with
 |bl c=>exact afK (by cases c;exact hb.r (I.on y) p;exact p.here y.2 (.bl _))
 |_=>exact p.elim))⟩
theorem kY(hc:RT X c ta)(ha:RE X a fa)(hb:RE X b fb):RE X (.IfExp c a b pos) (yy ta fa fb):=⟨fun I p=>wpAny_IfExp (hc.r I (p.bind fun _ _ c _ y r p=>by
 subst r
 cases c
 ·exact hb.r (I.on y) p
 ·exact ha.r (I.on y) p))⟩
end
end Z
namespace L3
open PySem
noncomputable def im(ps:List PV)(h:List PO):Res PV:=if ps.length<=sizeLine then .ok (.lst ps) h else .bad
noncomputable def eP(ps:List PV)(h:List PO):Res PV:=if ps.length<=sizeLine then .ok (.ref h.length) (h++ [.lst ps])else .bad
noncomputable def aV(ps:List PV)(h:List PO):Res PV:=if ps.length<=sizeLine then .ok (.tup ps) h else .bad
end L3
namespace Z
open PySem PySem.Spec PyProof.Rows L3
theorem DO.of{G:SC}{o:Obj}{kvs:List (PK×Value)}{g:Heap}{a:Addr}(d:DO G o kvs)(e:g.get? a=some o):g.DictOf (pk G.prog G.w) a kvs:=let⟨x,es,ep,y,z⟩:=d;⟨o,es,ep,e,x,y,z⟩
section
variable{G:SC}{w:Wo}{h:List PO}{p:PV}{u:Value}{kps:List (PK×PV)}
def KU(G:SC)(w:Wo)(kps:List (PK×PV))(kvs:List (PK×Value)):Prop:=kvs.length<=sizeLine/\kvs.map (·.1)=kps.map (·.1)/\aB G w.F w.m (kps.map (·.2)) (kvs.map (·.2))
inductive Dc0(G:SC)(w:Wo)(u:Value)(kps:List (PK×PV)):Prop where
 |mk (a:Addr)(kvs:List (PK×Value))(_:u=.ref a)(_:(a==sysModules)=false)(_:w.s.heap.DictOf (pk G.prog G.w) a kvs)(_:KU G w kps kvs)
theorem HR.dc(H:HR G w h)(r:bq G w.F w.m p u)(k:T9 h p=some kps):Dc0 G w u kps:=by
 unfold T9 at k
 split at k
 ·cases k
  cases r with
  |dct e d y z c r=>exact⟨_,_,rfl,y,d.of (H.at e),z,c,r⟩
 ·split at k
  ·rename_i q
   cases k
   cases r with
   |ref e=>obtain⟨_,o,kvs,e,d,y,z⟩:=H.obj _ _ _ q e;exact⟨_,kvs,rfl,y,d.of e,z⟩
  ·cases k
 ·cases k
theorem aB.sz{F:Fz}{m:List Addr}{ps:List PV}{us:List Value}(r:aB G F m ps us)(z:ps.length<=sizeLine):us.toArray.size<=sizeLine:=ace (Nat.le_of_eq r.length.symm) z
theorem KU.len{kvs:List (PK×Value)}(r:KU G w kps kvs):kvs.length=kps.length:=by have:=congrArg List.length r.2.1;simpa using this
theorem Na(k:Yl h p=some kps):T9 h p=some kps:=by
 unfold Yl at k
 split at k
 ·exact k
 ·cases k
end
section
variable{X:Cx}{w:Wo}{ρ:Ev}{h:List PO}{a b e:Expr}{es:List Expr}{fa fb:Ex}{f:Ax}{pos p0:Pos}{x:Str}{id:String}{g:List PV->List PO->Res PV}
theorem Wd.tru(I:Wd X w h){p:PV}{u:Value}{c:Bool}{Q:Bool->Shared->Prop}{E:Value->Shared->Prop}(r:bq X.toSC w.F w.m p u)(k:uv h p=some c)(q:bM X (fun _ a b=>a=b) w Q E (.ok c h)):Wp X (truthy u) Q E w.s:=by
 have l:sizeLine=16777216:=aed;unfold uv at k
 split at k
 ·cases k;obtain rfl:=r.vn;exact truthy_none (q.here I.toHR rfl)
 ·cases k;obtain rfl:=r.vb;exact afK (q.here I.toHR rfl)
 ·cases k;obtain⟨_,rfl⟩:=r.vi;exact PySem.P.truthy_int (q.here I.toHR rfl)
 ·obtain⟨_,rfl⟩:=r.vs
  split at k
  ·cases k
   exact PySem.P.truthy_str (by rw[ij];omega) (q.now I.toHR (by rw[ij];cases ‹List Nat›;rfl;symm;simp;omega))
  ·cases k
 ·split at k
  ·rename_i e
   cases k
   obtain⟨t,e,ht⟩:=xJ e;replace r:=I.sq r e;obtain⟨a,h_,rfl,y,z,r⟩:=r
   have n:h_.isEmpty=(‹List PV›).isEmpty:=by
    have:=r.len
    cases h_;rename_i l;cases l<;>cases ‹List PV› <;>simp_all
   rcases ht with rfl|rfl
   ·exact truthy_tuple y.tup (by omega) (q.now I.toHR (by rw[n]))
   ·exact wpAny_truthy_list y.pl.isList (by omega) (q.now I.toHR (by rw[n]))
  ·split at k
   ·rename_i e
    cases k
    replace r:=I.dc r (Na e);obtain⟨a,kvs,rfl,y,d,r⟩:=r;exact wpAny_truthy_dict y d (by have:=r.1;omega) (q.now I.toHR (by have:=r.len;cases kvs<;>cases ‹List (PK×PV)› <;>simp_all))
   ·cases k
theorem jV(ha:RE X a fa)(he:∀whole,isTrue a X.env whole=(do let v <- whole;standAt a.pos;holding [v] (truthy v)):=by intro _;rfl):RT X a (kD fa):=⟨fun I p=>isTrue_plain (ha.r I (p.bind fun _ h1 q _ y r p=>by
 cases e:uv h1 q with
 |none=>rw[e]at p;exact p.elim
 |some b=>rw[e]at p;exact(I.on y).toWd.tru r e p)) (he _)⟩
theorem ay{k}(ha:RA X es f):RE X (.Tuple es k pos) (cN aV f):=⟨fun I p=>wpAny_Tuple_spliced (ha.r _ I (p.bind fun _ _ ps us y r p=>by
 unfold aV at p
 split at p
 ·exact⟨r.length▸ ‹_›,p.seq (ps:=ps) y.2 rfl r (r.sz ‹_›)⟩
 ·exact p.elim))⟩
theorem dJ(ha:RA X es f):RE X (.List es pos) (cN im f):=⟨fun I p=>agO (ha.r _ I (p.bind fun _ _ ps us y r p=>by
 unfold im at p
 split at p
 ·exact⟨r.length▸ ‹_›,p.seq (ps:=ps) y.2 rfl r (r.sz ‹_›)⟩
 ·exact p.elim))⟩
theorem fB(ha:RA X es f):RE X (.List es pos) (cN eP f):=⟨fun I p=>agO (ha.r _ I (p.bind fun _ _ ps us y r p=>by
 unfold eP at p
 split at p
 ·exact⟨r.length▸ ‹_›,p.lm (ps:=ps) y.2 r (r.sz ‹_›)⟩
 ·exact p.elim))⟩
def Gl(X:Cx)(x:Str):Prop:=X.env.kindOf x=some .globalImplicit
theorem Inv.Uv(I:Inv X w ρ h){u:Value}{Q:Value->Shared->Prop}{E:Value->Shared->Prop}(hg:Gl X x)(hm:X.mg x=some u)(q:Q u w.s)(hd:nD0 x:=by decide):Wp X (eval (.Name x p0) X.env) Q E w.s:=
 afF I.ok.kind hg (Calls.loadGlobal_global (by rw[I.ok.glob];exact I.ok.gl.keeps fun _ _ e=>I.bk e) hm q) hd
theorem Inv.blt(I:Inv X w ρ h){u:Value}{Q:Value->Shared->Prop}{E:Value->Shared->Prop}(hg:Gl X x)(hm:X.mg x=none)(hv:bootBuiltins x=some u)(q:Q u w.s)(hn:x≠"__name__":=by decide)(hd:nD0 x:=by decide):Wp X (eval (.Name x p0) X.env) Q E w.s:=
 let⟨mb,h1,h2⟩:=I.ok.bl
 afF I.ok.kind hg (Calls.loadGlobal_builtin (by rw[I.ok.glob];exact I.ok.gl.keeps fun _ _ e=>I.bk e) hm (by rw[I.ok.blt];exact h1.keeps fun _ _ e=>I.bk e) ((h2 x hn).trans hv) q) hd
def Tj(X:Cx)(f:Value)(g:List PV->List PO->Res PV):Prop:=X.Ok->OpN X (fun us=>call f us) g
theorem Cj(o:Tj X (.builtin id) g)(hg:Gl X x)(hm:X.mg x=none)(hv:bootBuiltins x=some (.builtin id))(ha:RA X (e::es) f)(hn:x≠"__name__":=by decide)(P0:nD0 x:=by decide)(he:sE0 X e es:=by rfl)(Ov:sP0 X es pos:=by rfl):RE X (.Call (.Name x p0) (e::es) [] pos) (cN g f):=
 ⟨fun I p=>acY (I.blt hg hm hv (callWith_builtin1 (ha.r pos I (p.bind fun _ _ _ _ y r p=>o I.ok (I.on y).toWd r p)) he Ov) hn P0)⟩
theorem AC(o:Tj X (.type id) g)(hg:Gl X x)(hm:X.mg x=none)(hv:bootBuiltins x=some (.type id))(ha:RA X (e::es) f)(hn:x≠"__name__":=by decide)(P0:nD0 x:=by decide)(he:sE0 X e es:=by rfl)(Ov:sP0 X es pos:=by rfl):RE X (.Call (.Name x p0) (e::es) [] pos) (cN g f):=
 ⟨fun I p=>acY (I.blt hg hm hv (callWith_type1 (ha.r pos I (p.bind fun _ _ _ _ y r p=>o I.ok (I.on y).toWd r p)) he Ov) hn P0)⟩
end
end Z
namespace L2
open PySem PySem.Spec PyProof.Rows
noncomputable def Sd(n:Nat)(i:Int):Option Nat:=if 0<=i then(if i<n then some i.toNat else none)else if -(n:Int)<=i then some (i+n).toNat else none
def O_{α:Type}(xs:List α)(i:Int):Option α:=(Sd xs.length i).bind fun j=>xs[j]?
theorem zI{n:Nat}{i:Int}{j:Nat}(h:Sd n i=some j):seqIndex? i n=some j/\j<n/\ -(n:Int)<=i/\i<n:=by
 unfold Sd at h
 by_cases h0:0<=i
 ·rw[if_pos h0]at h
  by_cases h1:i<n
  ·rw[if_pos h1]at h;have e:i.toNat=j:=adD h;exact⟨by rw[ahh h0 h1,e],by omega,by omega,h1⟩
  ·rw[if_neg h1]at h;cases h
 ·rw[if_neg h0]at h
  by_cases h1: -(n:Int)<=i
  ·rw[if_pos h1]at h;have e:(i+n).toNat=j:=adD h;exact⟨by rw[agZ (by omega) h1,e],by omega,h1,by omega⟩
  ·rw[if_neg h1]at h;cases h
theorem vB{α:Type}{xs:List α}{i:Int}{v:α}(h:O_ xs i=some v):∃j,seqIndex? i xs.length=some j/\xs[j]? =some v/\j<xs.length/\ -(xs.length:Int)<=i/\i<xs.length:=by
 unfold O_ at h
 cases e:Sd xs.length i with
 |none=>rw[e]at h;cases h
 |some j=>rw[e]at h;obtain⟨h1,h2,h3,h4⟩:=zI e;exact⟨j,h1,h,h2,h3,h4⟩
end L2
namespace L3
open PySem PySem.Spec PyProof.Rows L2
noncomputable def pS:PV->Option PK
 |.int i=>some (.inl i)
 |.str l=>some (.inr l)
 |_=>none
noncomputable def dI(kvs:List (PK×PV))(k:PK):Option PV:=(kvs.find? fun kv=>decide (kv.1=k)).map (·.2)
def d7(p q:PV)(h:List PO):Res PV:=match p,q with
 |.str l,.int i=>match O_ l i with
  |some c=>if l.length<=sizeLine then .ok (.str [c]) h else .bad
  |none=>.bad
 |.tup xs,.int i=>match O_ xs i with
  |some v=>.ok (aq h v) h
  |none=>.bad
 |p,q=>match T9 h p with
  |some kvs=>match pS q with
   |some k=>match dI kvs k with
    |some v=>.ok (aq h v) h
    |none=>.bad
   |none=>.bad
  |none=>match S_ h p with
   |some xs=>match q with
    |.int i=>match O_ xs i with
     |some v=>.ok (aq h v) h
     |none=>.bad
    |_=>.bad
   |none=>.bad
def cut{α:Type}(xs:List α)(lo hi:Option Int):List α:=(xs.drop (HT.M4 xs.length 0 lo)).take (HT.M4 xs.length xs.length hi - HT.M4 xs.length 0 lo)
abbrev Ox:=Ev->List PO->Res (Option Int)
noncomputable def gJ:Ox:=fun _ h=>.ok none h
def di(f:Ex):Ox:=fun ρ h=>(f ρ h).bind fun p h1=>match p with
 |.int i=>.ok (some i) h1
 |_=>.bad
def Zd(p:PV)(lo hi:Option Int)(h:List PO):Res PV:=match p with
 |.str l=>if l.length<=sizeLine then .ok (.str (cut l lo hi)) h else .bad
 |.tup xs=>if HT.M4 xs.length 0 lo=0/\HT.M4 xs.length xs.length hi=xs.length then .bad else .ok (.tup (cut xs lo hi)) h
 |p=>match S_ h p with
  |some xs=>.ok (.lst (cut xs lo hi)) h
  |none=>.bad
def jq(p:PV)(lo hi:Option Int)(h:List PO):Res PV:=match p with
 |.tup xs=>if HT.M4 xs.length 0 lo=0/\HT.M4 xs.length xs.length hi=xs.length then .ok (.tup xs) h else .ok (.tup (cut xs lo hi)) h
 |p=>Zd p lo hi h
def iB(a:Ex)(lo hi:Ox):Ex:=fun ρ h=>(a ρ h).bind fun p h1=>(lo ρ h1).bind fun l h2=>(hi ρ h2).bind fun u h3=>jq p l u h3
theorem Li(lo hi:Option Int)(n:Nat):Builtin.Str.strSliceIndices lo hi 1 n=(List.range (HT.M4 n n hi - HT.M4 n 0 lo)).map (HT.M4 n 0 lo+ ·):=by
 rw[<- sliceRange_one];unfold Builtin.Str.strSliceIndices
 have e1:∀d:Nat,d<=n->∀o:Option Int,(match o with|none=>(d:Int)|some i=>(if(1:Int)>0 then max 0 (min (if i<0 then i+(n:Int)else i) n)else max (-1) (min (if i<0 then i+(n:Int)else i) ((n:Int) - 1))))=((HT.M4 n d o:Nat):Int):=by
  intro d hd o
  cases o with
  |none=>rfl
  |some i=>
   exact(if_pos (by decide)).trans (HT.sB n d i)
 have e2:=e1 0 (acu _) lo;have e3:=e1 n (ab4 _) hi;simp only[show(1:Int)>0 by decide,if_true]at e2 e3 |-;rw[<- e2,<- e3];rfl
theorem Hg(l:List Nat)(lo hi:Option Int):Txt.slice (S l) lo hi=S (cut l lo hi):=by
 unfold Txt.slice;have hn:(S l).length=l.length:=ij l;rw[hn,Li];have hlo:=HT.R6 l.length 0 (acu _) lo;have hhi:=HT.R6 l.length l.length (ab4 _) hi
 split
 ·rename_i h
  have h':HT.M4 l.length l.length hi - HT.M4 l.length 0 lo=l.length:=by simpa using h
  have e0:HT.M4 l.length 0 lo=0:=by omega
  unfold cut;rw[h',e0];simp
 ·rw[pick_run];show(⟨_⟩:Str)=⟨_⟩
  unfold cut;simp[S]
end L3
namespace Z
open PySem PySem.Spec PyProof.Rows L3 L2
theorem mW{G:SC}{F:Fz}{m:List Addr}{p:PV}{u:Value}{k:PK}(r:bq G F m p u)(e:pS p=some k):(pk G.prog G.w).is k u=true:=by cases r<;>cases e<;>simp[pk,Xv,Value.isInt,Value.isStrOf]
theorem qn{G:SC}{F:Fz}{m:List Addr}:∀{kps:List (PK×PV)}{kvs:List (PK×Value)},kvs.map (·.1)=kps.map (·.1)->aB G F m (kps.map (·.2)) (kvs.map (·.2))->∀k:PK,(∃p v,dI kps k=some p/\valueAt kvs k=some v/\bq G F m p v)\/(dI kps k=none/\valueAt kvs k=none)
 |[],[],_,_,k=>.inr ⟨rfl,rfl⟩
 |[],_::_,h,_,_=>by simp at h
 |_::_,[],h,_,_=>by simp at h
 |(a,p)::ps,(b,v)::vs,h,.cons r t,k=>by
  simp only[ab7,afn]at h;obtain⟨rfl,h⟩:=h;unfold dI valueAt;rw[adh,adh]
  by_cases z:b=k
  ·simp only[z,decide_true];exact .inl ⟨p,v,rfl,rfl,r⟩
  ·simp only[z,decide_false];exact qn h t k
section
variable{X:Cx}{w:Wo}{ρ:Ev}{h:List PO}{a b:Expr}{fa fb:Ex}{pos p2:Pos}{Q:Value->Shared->Prop}{E:Value->Shared->Prop}
theorem Nj(value slice:Expr)(hs:∀o i,subscripted slice false o i=operate [o,i] (getItem o i)):Rm X (subscriptTail value slice) d7:=fun{w h p q u u2 Q E} I rp rq k=>by
 have hl:sizeLine=16777216:=aed;unfold d7 at k
 split at k
 ·obtain⟨_,rfl⟩:=rp.vs;obtain⟨_,rfl⟩:=rq.vi
  split at k
  ·rename_i c e
   split at k
   ·rename_i z;obtain⟨j,h1,h2,h3,h4,h5⟩:=vB e;exact tail_any (ahq w.s _ _) slot_str_getitem.lookup (getItem_str (c:=c) (by rw[adt];exact⟨decide_eq_false (by omega),decide_eq_false (by omega)⟩) (by rw[ij,h1];simpa[S]using h2) (k.now I.toHR (.str [c] _))) (hs _ _)
   ·exact k.elim
  ·exact k.elim
 ·obtain⟨_,rfl⟩:=rq.vi
  split at k
  ·rename_i e;obtain⟨a,h_,rfl,y,z,r⟩:=I.sq rp rfl;obtain⟨j,h1,h2,h3,h4,h5⟩:=vB e;obtain⟨u,eu,ru⟩:=r.get h2;have l:=r.len;exact af7 (x:=u) y.tup.typeIs agQ.lookup (getItem_tuple (j:=j) (Q:=fun r s'=>r=u/\Q r s') y.tup (by omega) (by omega) (by rw[<- l];exact h1) (by simpa using eu) ⟨rfl,k.here I.toHR (I.Rf ru)⟩) (hs _ _)
  ·exact k.elim
 ·split at k
  ·rename_i ed
   split at k
   ·rename_i kk ek
    split at k
    ·rename_i v ev;obtain⟨a,kvs,rfl,y,d,r⟩:=I.dc rp ed;rcases qn r.2.1 r.2.2 kk with⟨p1,v1,h1,h2,r1⟩|⟨h1,_⟩<;>rw[ev]at h1<;>cases h1
     have hT:w.s.TypeIs (.ref a) "dict":=d.mapOf.typeIs;unfold subscriptTail;refine ab6 ?_;rw[getitemInPython_of_ne hT.not_modules];refine ab6 (wpAny_specialOf hT F.slot_dict_getitem.lookup ?_)
     have fin:Wp X (subscripted slice false (.ref a) u2) (fun r s₃=>Wp X (letTemporaryGo value (.ref a) r >>= fun _=>pure r) Q E s₃) E w.s:=by rw[hs];exact wpAny_operating (wpAny_getItem_of (mW rq ek) d.mapOf h2 (ab6 (wpAny_letTemporaryGo (ach (k.now I.toHR (I.Rf r1))))))
     first
      |exact ach (ab6 fin)
      |exact ab6 (ach (ab6 fin))
      |exact ab6 fin
    ·exact k.elim
   ·exact k.elim
  ·split at k
   ·rename_i el
    split at k
    ·rename_i i _ _
     obtain⟨_,rfl⟩:=rq.vi
     split at k
     ·rename_i e;obtain⟨a,h_,rfl,y,z,r⟩:=I.sq rp (ke el);obtain⟨j,h1,h2,h3,h4,h5⟩:=vB e;obtain⟨u,eu,ru⟩:=r.get h2;have l:=r.len;have fin:=k.here I.toHR (I.Rf ru)
      by_cases h0:0<=i
      ·exact item_listR y.pl.isList h0 (by omega) (by rw[show i.toNat=j by rw[ahh h0 h5]at h1;exact adD h1];simpa using eu) fin (hs _ _)
      ·exact af7 (x:=u) y.pl.isList.typeIs agY.lookup (wpAny_getItem_list_neg (Q:=fun r s'=>r=u/\Q r s') y.pl.isList (by omega) (by omega) (by omega) (by rw[show(i+(h_.size:Int)).toNat=j by rw[agZ (by omega) h4]at h1;rw[<- l];exact adD h1];simpa using eu) ⟨rfl,fin⟩) (hs _ _)
     ·exact k.elim
    ·exact k.elim
   ·exact k.elim
theorem ak(ha:RE X a fa)(hb:RE X b fb)(hs:∀o i,subscripted b false o i=operate [o,i] (getItem o i):=by intro _ _;rfl):RE X (.Subscript a b pos) (c2 d7 fa fb):=⟨fun I p=>Subscript_ (two (Nj a b hs) ha hb I p)⟩
structure RO(X:Cx)(e:Option Expr)(f:Ox):Prop where
 r:∀{w:Wo}{ρ:Ev}{h:List PO}{Q:Value->Shared->Prop}{E:Value->Shared->Prop},Inv X w ρ h->bM X (fun _ o u=>IsPart u o) w Q E (f ρ h)->Wp X (evalPart e X.env) Q E w.s
theorem dU:RO X none gJ:=⟨fun I p=>by rw[evalPart_none];exact ach (p.here I.toHR .none)⟩
theorem bZ(ha:RE X a fa):RO X (some a) (di fa):=⟨fun I p=>by
 rw[evalPart_some]
 exact ha.r I (p.bind fun _ _ _ _ y r p=>by
  cases r with
  |int i t=>exact p.here y.2 (.int i t)
  |_=>exact p.elim)⟩
theorem Nw.also{s':Shared}(H:HR X.toSC w h)(k:∀b o,w.s.heap.get? b=some o->s'.heap.get? b=some o)(ho:s'.os=w.s.os:=by rfl)(hg:s'.gens=w.s.gens:=by rfl):Nw X w { w with s:=s' } h:=
 ⟨⟨ho,fun q=>hg▸q,fun _ _ e=>e,fun _ _ e=>e,⟨[],by simp⟩,fun b o e=>⟨o,k b o e⟩,fun b o q _=>⟨o.slots,⟨k b o q.1,q.2⟩,.inr rfl⟩⟩,H.on fun b o e _=>k b o e⟩
theorem aB.cut{G:SC}{F:Fz}{m:List Addr}{ps:List PV}{vs:List Value}(r:aB G F m ps vs)(lo hi:Option Int):aB G F m (L3.cut ps lo hi) (L3.cut vs lo hi):=by unfold L3.cut;rw[<- r.length];exact((r.td _).2.td _).1
theorem kx{α:Type}(xs:List α)(lo hi:Option Int):(L3.cut xs lo hi).length<=xs.length:=by unfold L3.cut;rw[aeu,aev];omega
theorem Wd.sl(I:Wd X w h){p:PV}{u vl vu:Value}{lo hi:Option Int}{sl:Addr}(rp:bq X.toSC w.F w.m p u)(hs:w.s.heap.IsSliceOf sl vl vu .none)(pl:IsPart vl lo)(pu:IsPart vu hi)(k:bM X (RV X.toSC) w Q E (jq p lo hi h)):∃T id,typeLookup (.type T) "__getitem__"=pure (some (.builtin id))/\w.s.TypeIs u T/\Wp X (getItem u (.ref sl)) Q E w.s:=by
 unfold jq at k
 split at k
 ·obtain⟨a,h_,rfl,y,z,r⟩:=I.sq rp rfl;have l:=r.len;refine⟨"tuple",_,agQ.lookup,y.tup.typeIs,?_⟩
  split at k
  ·exact HT.Qj y.tup hs pl pu (by rw[<- l];assumption) (k.here I.toHR rp)
  ·exact HT.Qi y.tup hs pl pu (by rw[<- l];assumption) (k.seq I.toHR rfl (r.cut lo hi) (ace (kx h_.toList lo hi) z)) z
 ·unfold Zd at k
  split at k
  ·obtain⟨_,rfl⟩:=rp.vs
   split at k
   ·refine⟨"str",_,F.slot_str_getitem.lookup,ahq _ _ _,?_⟩;have fin:∀t k,Q (.str (Txt.slice (S _) lo hi) t) { w.s with toks:=k }:=fun t _=>by rw[Hg];exact k.now I.toHR (.str _ t)
    have hz:∀lo hi,(Txt.slice (S _) lo hi).length<=sizeLine:=fun lo hi=>ace (Txt.slice_le _ _ _) (by rw[ij];assumption)
    cases pl with
    |none=>cases pu with
     |none=>exact aeb (l:=none) (u:=none) (st:=none) hs rfl (afj ⟨hz _ _,fin⟩)
     |int j u=>exact aeb (l:=none) (u:=some (j,u)) (st:=none) hs rfl (afj ⟨hz _ _,fin⟩)
    |int i t=>cases pu with
     |none=>exact aeb (l:=some (i,t)) (u:=none) (st:=none) hs rfl (afj ⟨hz _ _,fin⟩)
     |int j u=>exact aeb (l:=some (i,t)) (u:=some (j,u)) (st:=none) hs rfl (afj ⟨hz _ _,fin⟩)
   ·exact k.elim
  ·rename_i n;exact(n _ rfl).elim
  ·split at k
   ·rename_i e;obtain⟨a,h_,rfl,y,z,r⟩:=I.sq rp (ke e);refine⟨"list",_,agY.lookup,y.pl.isList.typeIs,wpAny_getItem_list_slice y.pl.isList hs pl pu .none (by simp) ?_ z⟩;rw[show h_=h_.toList.toArray by simp,sM];exact k.seq I.toHR rfl (r.cut lo hi) (ace (kx h_.toList lo hi) z)
   ·exact k.elim
theorem bI{lo hi:Option Expr}{fl fu:Ox}(ha:RE X a fa)(hl:RO X lo fl)(hh:RO X hi fu):RE X (.Subscript a (.Slice lo hi none p2) pos) (iB fa fl fu):=⟨fun I k=>Subscript_ (ha.r I (k.bind fun _ _ p u y r k=>wpAny_Slice (hl.r (I.on y) (k.bind fun _ _ l vl y1 pl k=>hh.r ((I.on y).on y1) (k.bind fun w h h' vu y2 pu k=>by rw[evalPart_none];refine ach ?_;have n:=Nw.also (X:=X) (s':={ w.s with heap:=w.s.heap.push { cls:=.type "slice",data:=.fields #[vl,vu,.none] } }) y2.2 fun b o e=>acf _ e;obtain⟨T,id,a,b,c⟩:=((((I.on y).on y1).on y2).on n).toWd.sl (y2.1.rep (y1.1.rep r)) (Heap.IsSliceOf.new w.s.heap vl vu .none) pl pu (k.step n);exact tail_any (ops:=[.ref w.s.heap.objs.size,u]) b a c (by with_unfolding_all rfl))))))⟩
end
end Z
namespace L3
inductive SR where
 |nx (ρ:Ev) (h:List PO)|rt (v:PV) (h:List PO)|bk (ρ:Ev) (h:List PO)|ct (ρ:Ev) (h:List PO)|exc (e:PV) (h:List PO)|bad
abbrev Sx:=Ev->List PO->SR
noncomputable def cF:Sx:=fun ρ h=>.nx ρ h
noncomputable def aA(f g:Sx):Sx:=fun ρ h=>match f ρ h with
 |.nx ρ1 h1=>g ρ1 h1
 |.rt v h1=>.rt v h1
 |.bk ρ1 h1=>.bk ρ1 h1
 |.ct ρ1 h1=>.ct ρ1 h1
 |.exc v h1=>.exc v h1
 |.bad=>.bad
noncomputable def fW{α:Type}(f:Res α)(k:α->List PO->SR):SR:=match f with
 |.ok v h=>k v h
 |.exc e h=>.exc e h
 |.bad=>.bad
def eH(f:Res PV)(k:PV->List PO->SR):SR:=fW f k
def HM(f:Res Bool)(k:Bool->List PO->SR):SR:=fW f k
def Ds(f:Res (List PV))(k:List PV->List PO->SR):SR:=fW f k
@[simp] theorem Eg(v:PV)(h:List PO)(k:PV->List PO->SR):eH (.ok v h) k=k v h:=rfl
@[simp] theorem Dr(v:List PV)(h:List PO)(k:List PV->List PO->SR):Ds (.ok v h) k=k v h:=rfl
noncomputable def br(f:Ex):Sx:=fun ρ h=>eH (f ρ h) fun v h1=>.rt v h1
noncomputable def Cc:Sx:=fun _ h=>.rt .non h
def dq(f:Ex):Sx:=fun ρ h=>eH (f ρ h) fun _ h1=>.nx ρ h1
def K3(t:Tx)(f g:Sx):Sx:=fun ρ h=>HM (t ρ h) fun b h1=>if b=true then f ρ h1 else g ρ h1
def aJ(i:Nat)(f:Ex):Sx:=fun ρ h=>eH (f ρ h) fun v h1=>.nx (ρ.set i (some v)) h1
noncomputable def Ix:Sx:=fun _ _=>.bad
abbrev Gx:=PV->Ev->Option Ev
noncomputable def z_(i:Nat):Gx:=fun p ρ=>some (ρ.set i (some p))
abbrev Ub:=List PV->Ev->Option Ev
noncomputable def fX:Ub:=fun ps ρ=>match ps with
 |[]=>some ρ
 |_=>none
noncomputable def bw(g:Gx)(gs:Ub):Ub:=fun ps ρ=>match ps with
 |p::r=>match g p ρ with
  |some ρ1=>gs r ρ1
  |none=>none
 |_=>none
noncomputable def Rc(n:Nat)(gs:Ub):Gx:=fun p ρ=>match p with
 |.tup ps=>if ps.length=n then gs ps ρ else none
 |_=>none
def AA(g:Gx)(f:Ex):Sx:=fun ρ h=>eH (f ρ h) fun v h1=>match g v ρ with
 |some ρ'=>.nx ρ' h1
 |none=>.bad
end L3
namespace Z
open PySem PySem.Spec PyProof.Rows L3 L2
abbrev Q0(X:Cx)(w w':Wo):Prop:=NZ X.fs X.W w w'
def bx(X:Cx)(w:Wo)(Q:Flow->Shared->Prop)(E:Value->Shared->Prop):SR->Prop
 |.nx ρ h=>X.Ep E/\∀w',Q0 X w w'->Inv X w' ρ h->Q .next w'.s
 |.bk ρ h=>X.Ep E/\∀w',Q0 X w w'->Inv X w' ρ h->Q .brk w'.s
 |.ct ρ h=>X.Ep E/\∀w',Q0 X w w'->Inv X w' ρ h->Q .cont w'.s
 |.rt v h=>X.Ep E/\∀w' u ρ,Q0 X w w'->Inv X w' ρ h->bq X.toSC w'.F w'.m v u->Q (.ret u) w'.s
 |.exc e h=>X.Ep E/\∀w' u ρ,Q0 X w w'->Inv X w' ρ h->oB X w w' e u->E u w'.s
 |.bad=>False
structure RS(X:Cx)(st:Stmt)(f:Sx):Prop where
 r:∀{w:Wo}{ρ:Ev}{h:List PO}{Q:Flow->Shared->Prop}{E:Value->Shared->Prop},Inv X w ρ h->bx X w Q E (f ρ h)->Wp X (exec st X.env) Q E w.s
structure S5(X:Cx)(st:List Stmt)(f:Sx):Prop where
 r:∀{w:Wo}{ρ:Ev}{h:List PO}{Q:Flow->Shared->Prop}{E:Value->Shared->Prop},Inv X w ρ h->bx X w Q E (f ρ h)->Wp X (execs st X.env) Q E w.s
structure RG(X:Cx)(tg:Expr)(g:Gx):Prop where
 r:∀{w:Wo}{ρ ρ':Ev}{h:List PO}{p:PV}{u:Value}{Q:Unit->Shared->Prop}{E:Value->Shared->Prop},Inv X w ρ h->bq X.toSC w.F w.m p u->g p ρ=some ρ'->(∀w',Q0 X w w'->Inv X w' ρ' h->Q () w'.s)->Wp X (assign tg X.env u) Q E w.s
section
variable{X:Cx}{w w1:Wo}{ρ:Ev}{h:List PO}{a:Expr}{fa:Ex}{ta:Tx}{pos pos':Pos}{x:Str}{i:Nat}{Q:Flow->Shared->Prop}{E:Value->Shared->Prop}{st:Stmt}{sts U3:List Stmt}{f g:Sx}
theorem Nw.s{h1:List PO}(y:Nw X w w1 h1):Q0 X w w1:=y.1.weak fun _ z=>z.elim
theorem bx.ep{r:SR}(p:bx X w Q E r):X.Ep E:=by cases r<;>first|exact p.1|exact p.elim
theorem bx.step{r:SR}(p:bx X w Q E r)(x:Q0 X w w1):bx X w1 Q E r:=match r with
 |.nx _ _=>⟨p.1,fun w' y=>p.2 w' (x.trans y)⟩
 |.bk _ _=>⟨p.1,fun w' y=>p.2 w' (x.trans y)⟩
 |.ct _ _=>⟨p.1,fun w' y=>p.2 w' (x.trans y)⟩
 |.rt _ _=>⟨p.1,fun w' u ρ y=>p.2 w' u ρ (x.trans y)⟩
 |.exc _ _=>⟨p.1,fun w' u ρ y I r=>p.2 w' u ρ (x.trans y) I (r.back x)⟩
 |.bad=>p
theorem bx.e0{α β:Type}{R:Wo->α->β->Prop}{r:Res α}{k:α->List PO->SR}{G:β->Shared->Prop}(p:bx X w Q E (fW r k))(I:Inv X w ρ h)(c:∀w1 h1 a x,Nw X w w1 h1->Inv X w1 ρ h1->R w1 a x->bx X w Q E (k a h1)->G x w1.s):bM X R w G E r:=match r with
 |.ok a h=>⟨p.ep,fun w' x y q=>c w' h a x y (I.on y) q p⟩
 |.exc _ _=>⟨p.1,fun w' u y r=>p.2 w' u ρ y.s (I.on y) r⟩
 |.bad=>p
theorem bx.e{α β:Type}{R:Wo->α->β->Prop}{r:Res α}{k:α->List PO->SR}{G:β->Shared->Prop}(p:bx X w Q E (fW r k))(I:Inv X w ρ h)(c:∀w1 h1 a x,Nw X w w1 h1->Inv X w1 ρ h1->R w1 a x->bx X w1 Q E (k a h1)->G x w1.s):bM X R w G E r:=p.e0 I fun w1 h1 a x y I r p=>c w1 h1 a x y I r (p.step y.s)
theorem bx.here{ρ:Ev}(p:bx X w Q E (.nx ρ h))(I:Inv X w ρ h):Q .next w.s:=p.2 w .refl I
theorem Inv.store{p:PV}{u:Value}{Q:Unit->Shared->Prop}(I:Inv X w ρ h)(hi:X.N[i]? =some x)(hx:X.env.kindOf x=some .local\/(X.env.kindOf x=some .cell/\X.fn x=true))(r:bq X.toSC w.F w.m p u)(q:∀w',Q0 X w w'->Inv X w' (ρ.set i (some p)) h->Q () w'.s):Wp X (storeName X.env x u) Q E w.s:=by
 obtain⟨m,o,n,hl,l⟩:=I.loc;have V7:i<ρ.length:=by rw[I.ln];exact(acd.mp hi).1
 have go:∀{a:Addr}{s':Shared}(oa VL:Obj),Has w a oa->X.W a->Heap.SameBut a w.s.heap s'.heap->s'.heap.get? a=some VL->s'.os=w.s.os->s'.gens=w.s.gens->(∀vs,VL.data≠.fields vs)->
   (∃m',s'.heap.Ns X.L m'/\∀(j:Nat)(y:Str)(v:Value),X.N[j]? =some y->if j=i then xy X.env s'.heap m' y u else xy X.env w.s.heap m y v->xy X.env s'.heap m' y v)->(∀y c,X.env.cells.lookup y=some c->∃v,s'.heap.IsCell c v)->Q () s':=by
  intro a s' oa VL ha wa sb ea eo eg ed ⟨m',n',lk⟩ cl;have on:∀b o,b≠a->w.s.heap.get? b=some o->s'.heap.get? b=some o:=fun b o z e=>(sb.2 b z).trans e
  have hs:∀b o,Has w b o->∃o',Has { w with s:=s' } b o'/\(b≠a->o'=o)/\(b=a->o'=VL):=fun b o q=>by
   by_cases z:b=a
   ·subst z;exact⟨VL,⟨ea,q.2⟩,fun z=>absurd rfl z,fun _=>rfl⟩
   ·exact⟨o,⟨on b o z q.1,q.2⟩,fun _=>rfl,fun z'=>absurd z' z⟩
  have st:Q0 X w { w with s:=s' }:=⟨eo,fun q=>eg▸q,fun _ _ e=>e,fun _ _ e=>e,⟨[],by simp⟩,fun b o e=>by
   by_cases z:b=a
   ·subst z;exact⟨_,ea⟩
   ·exact⟨o,on b o z e⟩,fun b o q nw=>⟨o.slots,⟨on b o (fun z=>nw (z▸wa)) q.1,q.2⟩,.inr rfl⟩⟩
  refine q { w with s:=s' } st ⟨I.toWd.on st (fun b hb z=>?_) (I.toHR.on fun b o e z=>on b o ?_ e),I.ok,?_,fun y c e=>?_,by simp[I.ln]⟩
  ·obtain⟨o,q,d⟩:=I.fr b hb;obtain⟨o',q',z1,z2⟩:=hs b o q;refine⟨o',q',?_⟩
   by_cases z:b=a
   ·rw[z2 z];exact ed
   ·rw[z1 z];exact d
  ·rintro rfl
   exact z ha.2
  ·obtain⟨o',q',_⟩:=hs _ _ hl;refine⟨m',o',n',q',fun j p' e=>?_⟩
   by_cases z:j=i
   ·subst z;rw[adl V7]at e
    cases e
    have:=lk j x u hi;rw[if_pos rfl]at this;exact⟨x,u,hi,r,this⟩
   ·rw[acX (acW z)]at e;obtain⟨y,v,e1,r',l'⟩:=l j p' e;have:=lk j y v e1;rw[if_neg z]at this;exact⟨y,v,e1,r',this l'⟩
  ·obtain⟨v,o,_,q⟩:=I.R3 y c e;obtain⟨o',q',_⟩:=hs c o q;obtain⟨v',z⟩:=cl y c e;exact⟨v',o',z,q'⟩
 have nx:∀j y,X.N[j]? =some y->j≠i->y≠x:=fun j y e z q=>z (by subst q;obtain⟨h1,e1⟩:=acd.mp e;obtain⟨h2,e2⟩:=acd.mp hi;exact(aew I.ok.nd).mp (e1.trans e2.symm))
 have Yp:∀y c,X.env.cells.lookup y=some c->c≠X.L:=fun y c e z=>by obtain⟨v,o,⟨o',ho,hd⟩,_⟩:=I.R3 y c e;obtain⟨o2,es,ep,XM,O1,_⟩:=n;rw[z,XM]at ho;cases ho;rw[O1]at hd;cases hd
 have Yc:(X.env.scope.kind==.class||(X.env.scope.kind==.module&&X.env.locals !=X.env.globals))=false:=by rw[I.ok.kind];rfl
 rcases hx with hk|⟨hk,hf⟩
 ·refine wpAny_storeName_local hk n (fun h' n' hs=>?_) Yc;obtain⟨o',es,ep,e',d',_⟩:=id n';refine go o o' hl (.inl rfl) hs e' rfl rfl (fun vs z=>by rw[d']at z;cases z) ⟨_,n',fun j y v e=>?_⟩ fun y c e=>let⟨v,_,z,_⟩:=I.R3 y c e;⟨v,z.sameBut hs (Yp y c e)⟩
  split
  ·rename_i z;subst z;cases e.symm.trans hi;exact .inl ⟨hk,by simp⟩
  ·rename_i z
   rintro(⟨k,e'⟩|⟨k,c,e',q'⟩)
   ·exact .inl ⟨k,by simp[nx j y e z,e']⟩
   ·exact .inr ⟨k,c,e',q'.sameBut hs (Yp y c e')⟩
 ·obtain⟨c,hc⟩:=I.ok.has x (.inl hk);obtain⟨v0,oc,z0,ZQ⟩:=I.R3 x c hc;refine wpAny_storeName_cell I.ok.kind hk hc z0 (fun h' Vt hs=>?_);obtain⟨o',e',d'⟩:=id Vt;refine go (s':={ w.s with heap:=h' }) oc o' ZQ (.inr ⟨x,hf,hc⟩) hs e' rfl rfl (fun vs z=>by rw[d']at z;cases z) ⟨m,n.sameBut hs (acW (Yp x c hc)),fun j y v e=>?_⟩ fun y d e=>?_
  ·split
   ·rename_i z;subst z;cases e.symm.trans hi;exact .inr ⟨.inl hk,c,hc,Vt⟩
   ·rename_i z
    rintro(l|⟨k,d,e',q'⟩)
    ·exact .inl l
    ·exact .inr ⟨k,d,e',q'.sameBut hs fun q=>nx j y e z (I.ok.inj y x c (q▸e') hc)⟩
  ·by_cases z:d=c
   ·subst z;exact⟨_,Vt⟩
   ·obtain⟨v,_,q',_⟩:=I.R3 y d e;exact⟨v,q'.sameBut hs z⟩
end
end Z
namespace L3
noncomputable def aN(g:Gx)(body:Sx):List PV->Sx
 |[],ρ,h=>.nx ρ h
 |p::r,ρ,h=>match g p ρ with
  |some ρ1=>match body ρ1 h with
   |.nx ρ2 h2=>aN g body r ρ2 h2
   |.ct ρ2 h2=>aN g body r ρ2 h2
   |.bk ρ2 h2=>.nx ρ2 h2
   |.rt v h2=>.rt v h2
   |.exc v h2=>.exc v h2
   |.bad=>.bad
  |none=>.bad
def gf(it:Ax)(g:Gx)(body:Sx):Sx:=fun ρ h=>Ds (it ρ h) fun xs h1=>aN g body xs ρ h1
end L3
namespace Z
open PySem PySem.Spec PyProof.Rows L3 L2
section
variable{X:Cx}{w w1:Wo}{ρ:Ev}{h:List PO}{a c:Expr}{fa:Ex}{ta:Tx}{pos pos':Pos}{x:Str}{i:Nat}{Q:Flow->Shared->Prop}{E:Value->Shared->Prop}{st:Stmt}{sts U3:List Stmt}{f g:Sx}
theorem Inv.quiet(I:Inv X w ρ h):interactive X.env=false:=by simp[interactive,I.ok.kind]
theorem aK:S5 X [] cF:=⟨fun I p=>aek (p.here I)⟩
theorem aj(ha:RS X st f)(hb:S5 X sts g):S5 X (st::sts) (aA f g):=⟨fun{w ρ h Q E} I p=>ae4 (ha.r I (by
 unfold aA at p
 split at p<;>rename_i e<;>rw[e]
 ·exact⟨p.ep,fun w' y I'=>hb.r I' (p.step y)⟩
 all_goals exact p))⟩
theorem au(ha:RS X st f):S5 X [st] f:=⟨fun{w ρ h Q E} I p=>ae4 (ha.r I (by
 cases e:f ρ h<;>rw[e]at p
 ·exact⟨p.1,fun w' y I'=>aek (p.2 w' y I')⟩
 all_goals exact p))⟩
theorem IA(ha:RE X a fa):RS X (.Return (some a) pos) (br fa):=⟨fun{w ρ h Q E} I p=>wpAny_Return_some (ha.r I (bx.e p I fun _ _ _ _ _ I r p=>p.2 _ _ ρ .refl I r))⟩
theorem Fd:RS X (.Return none pos) Cc:=⟨fun{w ρ h Q E} I p=>wpAny_Return_none (p.2 w _ ρ .refl I .non)⟩
theorem bP(ha:RE X a fa)(hs:swapsWith a none pos.line X.env=pure false:=by rfl):RS X (.Expr a pos) (dq fa):=⟨fun I p=>wpAny_Expr_any (ha.r I (bx.e p I fun _ _ _ _ _ I r p=>p.here I)) I.quiet hs⟩
theorem aP(hc:RT X c ta)(ha:S5 X sts f)(hb:S5 X U3 g):RS X (.If c sts U3 pos) (K3 ta f g):=⟨fun I p=>wpAny_If (hc.r I (bx.e p I fun _ _ b _ _ I r p=>by
 subst r
 cases b
 ·exact hb.r I p
 ·exact ha.r I p))⟩
theorem Iz(hi:X.N[i]? =some x:=by rfl)(hx:X.env.kindOf x=some .local\/(X.env.kindOf x=some .cell/\X.fn x=true):=by first|exact .inl rfl|exact .inr ⟨rfl,rfl⟩)(ha:RE X a fa)(hs:swapsWith a (some (.Name x pos')) pos.line X.env=pure false:=by rfl):RS X (.Assign [.Name x pos'] a pos) (aJ i fa):=
 ⟨fun I p=>wpAny_Assign_Name (ha.r I (bx.e p I fun _ _ _ _ _ I r p=>I.store hi hx r fun w' y I'=>p.2 w' y I')) hs⟩
theorem aY(hi:X.N[i]? =some x:=by rfl)(hx:X.env.kindOf x=some .local\/(X.env.kindOf x=some .cell/\X.fn x=true):=by first|exact .inl rfl|exact .inr ⟨rfl,rfl⟩):RG X (.Name x pos) (z_ i):=⟨fun I r e q=>by cases e;exact afM (I.store hi hx r q)⟩
structure Ws(X:Cx)(tg:List Expr)(g:Ub):Prop where
 r:∀{w:Wo}{ρ ρ':Ev}{h:List PO}{p:List PV}{u:List Value}{Q:Unit->Shared->Prop}{E:Value->Shared->Prop},Inv X w ρ h->aB X.toSC w.F w.m p u->g p ρ=some ρ'->(∀w',Q0 X w w'->Inv X w' ρ' h->Q () w'.s)->Wp X (assignInOrder ((assignEach tg X.env).map (·.2)) u) Q E w.s
theorem jX:Ws X [] fX:=⟨fun I r e q=>by
 unfold fX at e
 split at e<;>cases e
 cases r
 exact assignInOrder_nil (q _ .refl I)⟩
theorem du{e:Expr}{es:List Expr}{g:Gx}{gs:Ub}(h1:RG X e g)(h2:Ws X es gs)(hs:(assignEach (e::es) X.env).map (·.2)=assign e X.env::(assignEach es X.env).map (·.2):=by rfl):Ws X (e::es) (bw g gs):=⟨fun I r e q=>by
 unfold bw at e
 split at e
 ·split at e
  ·rename_i e1
   cases r with
   |cons r t=>rw[hs];exact assignInOrder_cons (h1.r I r e1 fun w' y I'=>h2.r I' (y.reps t) e fun w2 y2=>q w2 (y.trans y2))
  ·cases e
 ·cases e⟩
theorem mP{es:List Expr}{k n:Nat}{gs:Ub}(hc:X.calm=true)(h:Ws X es gs)(hn:(assignEach es X.env).length=n:=by rfl)(Ut:(assignEach es X.env).findIdx? (·.1)=none:=by rfl):RG X (.Tuple es k pos) (Rc n gs):=⟨fun{w ρ ρ' h p u Q E} I r e q=>by
 unfold Rc at e
 split at e
 ·split at e
  ·replace r:=I.sq r rfl;obtain⟨a,h_,rfl,y,z,r⟩:=r;refine assign_Tuple_tuple (I.ok.hd hc) y.tup (by rw[<- r.len,hn];exact Eq.symm ‹_›) Ut fun h' hx=>?_;have n:=Nw.also (X:=X) (s':={ w.s with heap:=h' }) I.toHR fun b o e=>hx b o (ac2 (acI e)) e;exact ‹Ws X es gs›.r (I.on n) r e fun w2 y2=>q w2 (n.s.trans y2)
  ·cases e
 ·cases e⟩
theorem uI{tg:Expr}{g:Gx}(hg:RG X tg g)(ha:RE X a fa)(hs:swapsWithSole [tg] a pos.line X.env=pure false:=by rfl)(hw:swappedStores [tg] a X.env=pure none:=by rfl)(h1:(assignEach [tg] X.env).map (·.2)=[assign tg X.env]:=by rfl):RS X (.Assign [tg] a pos) (AA g fa):=⟨fun I p=>wpAny_Assign_stores (ha.r I (bx.e p I fun _ _ _ _ _ I r p=>by
 rw[h1]
 split at p
 ·exact hg.r I r ‹_› fun w' y I'=>p.2 w' y I'
 ·exact p.elim)) hs hw⟩
end
end Z
namespace Z
open PySem PySem.Spec PyProof.Rows L3 L2
def Rn(w w':Wo):Prop:=(∀a o,w.F a=some o->w'.F a=some o)/\Sub w.m w'.m
theorem NZ.lat{fs:List Addr}{W:Addr->Prop}{w w':Wo}(x:NZ fs W w w'):Rn w w':=⟨x.fz,x.sub⟩
theorem Rn.trans{w w1 w2:Wo}(x:Rn w w1)(y:Rn w1 w2):Rn w w2:=⟨fun a o e=>y.1 a o (x.1 a o e),fun i a e=>y.2 i a (x.2 i a e)⟩
structure Pv(fp:List Addr)(w w':Wo):Prop where
 os:w'.s.os=w.s.os
 ba:AllBare w.s.gens->AllBare w'.s.gens
 fz:∀a o,w.F a=some o->w'.F a=some o
 ow:∀d a,w.O d=some a->w'.O d=some a
 pre:∃t,w'.m=w.m++t
 dom:∀b o,b∉fp->w.s.heap.get? b=some o->∃o',w'.s.heap.get? b=some o'
 keep:∀b o,b∉fp->Has w b o->Has w' b o
theorem Pv.sub{fp:List Addr}{w w1:Wo}(x:Pv fp w w1):Sub w.m w1.m:=fun i a e=>by obtain⟨t,z⟩:=x.pre;rw[z,acA (acd.mp e).1];exact e
structure Bk(G:SC)(w0:Wo)(tg:Expr)(xs:List PV)(it:Addr)(fp:List Addr)(tn:Nat->Heap->Prop):Prop where
 keep:∀{i:Nat}{w1 w2:Wo}{h1 h2:List PO},Rn w0 w1->HR G w1 h1->Rn w1 w2->HR G w2 h2->tn i w1.s.heap->(∀b∈fp,∀o,w1.s.heap.get? b=some o->w2.s.heap.get? b=some o)->tn i w2.s.heap
 item:∀{A:Around}{w:Wo}{h:List PO}{i:Nat}{p:PV}{Q:Value->Shared->Prop}{E:Value->Shared->Prop},A.handled=none->Rn w0 w->HR G w h->tn i w.s.heap->xs[i]? =some p->(∀b∈fp,∃o,Has w b o)->
  (∀u w',Pv fp w w'->HR G w' h->tn (i+1) w'.s.heap->(∀b∈fp,∃o,Has w' b o)->bq G w'.F w'.m p u->Q u w'.s)->
  wpAny (model G.prog G.w) A (pyNext (.ref it)) (fun r s=>∃u,r=some u/\wpAny (model G.prog G.w) A (letOwnedTupleGo tg (.ref it) u) (fun _ s=>Q u s) E s) E w.s
 done:∀{A:Around}{w:Wo}{h:List PO}{i:Nat}{Q:Shared->Prop}{E:Value->Shared->Prop},A.handled=none->Rn w0 w->HR G w h->tn i w.s.heap->xs.length=i->(∀b∈fp,∃o,Has w b o)->
  (∀w',Pv fp w w'->HR G w' h->Q w'.s)->wpAny (model G.prog G.w) A (pyNext (.ref it)) (fun r s=>r=none/\Q s) E w.s
 self:∀{A:Around}{i:Nat}{s:Shared}{Q:Value->Shared->Prop}{E:Value->Shared->Prop},A.handled=none->tn i s.heap->Q (.ref it) s->wpAny (model G.prog G.w) A (pyIter (.ref it)) Q E s
def TV(X:Cx)(b:Addr):Prop:=b≠X.L/\b∉X.fs/\∀x c,X.env.cells.lookup x=some c->c≠b
theorem TV.w{X:Cx}{b:Addr}(n:TV X b):¬ X.W b:=fun z=>z.elim n.1 (by rintro ⟨x,_,e⟩;exact n.2.2 x b e rfl)
theorem Inv.out{X:Cx}{w:Wo}{ρ:Ev}{h:List PO}{b:Addr}(I:Inv X w ρ h)(n:w.s.heap.get? b=none):TV X b:=by
 have k:∀{c o},Has w c o->b≠c:=fun q z=>by have q:=q.1;rw[<- z,n]at q;cases q
 obtain⟨_,_,_,q,_⟩:=I.loc;exact⟨k q,fun z=>let⟨_,q,_⟩:=I.fr b z;k q rfl,fun x c e=>let⟨_,_,_,q⟩:=I.R3 x c e;acW (k q)⟩
def R5(X:Cx)(tg:Expr)(w0 w:Wo)(xs:List PV)(v:Value):Prop:=∃it fp tn,v=.ref it/\Bk X.toSC w tg xs it fp tn/\tn 0 w.s.heap/\∀b∈fp,(∃o,Has w b o)/\TV X b/\w0.s.heap.get? b=none
structure RI(X:Cx)(tg iter:Expr)(f:Ax):Prop where
 r:∀{w:Wo}{ρ:Ev}{h:List PO}{Q:Value->Shared->Prop}{E:Value->Shared->Prop},Inv X w ρ h->bM X (R5 X tg w) w Q E (f ρ h)->Wp X (eval iter X.env) (fun v s=>Wp X (pyIter v) Q E s) E w.s
section
variable{X:Cx}{w w1:Wo}{ρ:Ev}{h:List PO}{pos:Pos}{tg iter:Expr}{it:Ax}{g:Gx}{body:List Stmt}{f:Sx}
theorem Inv.priv{fp:List Addr}{h1:List PO}(I:Inv X w ρ h)(x:Pv fp w w1)(H:HR X.toSC w1 h1)(n:∀b∈fp,TV X b):Inv X w1 ρ h1:=by
 obtain⟨m,o,n1,hl,q⟩:=I.loc;have k:=x.keep;have cl:∀x c,X.env.cells.lookup x=some c->c∉fp:=fun x c e z=>(n c z).2.2 x c e rfl;have ck:∀x c,X.env.cells.lookup x=some c->∀v,w.s.heap.IsCell c v->w1.s.heap.IsCell c v:=(by rintro y c e v ⟨o,q,d⟩;exact (let⟨_,o',⟨_,_,_⟩,hc⟩:=I.R3 y c e;⟨o,(k c o (cl y c e) ⟨q,hc.2⟩).1,d⟩))
 have hL:X.L∉fp:=fun z=>(n _ z).1 rfl;refine⟨⟨H,x.ba I.ba,fun b o e=>x.fz _ _ (I.bs b o e),fun b hb=>let⟨o,q,d⟩:=I.fr b hb;⟨o,k b o (fun z=>(n b z).2.1 hb) q,d⟩⟩,I.ok,⟨m,o,?_,k _ _ hL hl,fun i p e=>?_⟩,fun y c e=>?_,I.ln⟩
 ·obtain⟨o',es,ep,e,r⟩:=n1;exact⟨o',es,ep,(k _ _ hL ⟨e,hl.2⟩).1,r⟩
 ·obtain⟨y,u,e1,r,l⟩:=q i p e;exact⟨y,u,e1,r.mono x.fz (.inr x.sub),l.imp_right (by rintro ⟨k,c,e,z⟩;exact ⟨k,c,e,ck y c e _ z⟩)⟩
 ·obtain⟨v,o,z,hc⟩:=I.R3 y c e;exact⟨v,o,ck y c e v z,k c o (cl y c e) hc⟩
theorem NZ.priv{w0:Wo}{fp fs:List Addr}{W:Addr->Prop}(x:NZ fs W w0 w)(y:Pv fp w w1)(n:∀b∈fp,w0.s.heap.get? b=none):NZ fs W w0 w1:=
 have k:∀{b o},w0.s.heap.get? b=some o->b∉fp:=fun e z=>by rw[n _ z]at e;cases e
 ⟨y.os.trans x.os,y.ba∘x.ba,fun a o e=>y.fz a o (x.fz a o e),fun a o e=>y.ow a o (x.ow a o e),let⟨t,e⟩:=x.pre;let⟨u,e'⟩:=y.pre;⟨t++u,by rw[e',e,acG]⟩,fun b o e=>let⟨o',q⟩:=x.dom b o e;y.dom b o' (k e) q,fun b o q z=>let⟨sl,q1,z1⟩:=x.keep b o q z;⟨sl,y.keep b _ (k q.1) q1,z1⟩⟩
inductive Lq0(X:Cx)(w0 w:Wo)(tn:Nat->Heap->Prop)(fp:List Addr)(xs:List PV)(Q:Flow->Shared->Prop)(E:Value->Shared->Prop)(g:Gx)(f:Sx)(n:Nat)(s:Shared):Prop where
 |mk (w1:Wo)(ρ1:Ev)(h1:List PO)(ys:List PV)(_:w1.s=s)(_:Q0 X w0 w1)(_:Rn w w1)(_:Inv X w1 ρ1 h1)(_:ys.length=n)(_:ys=xs.drop (xs.length - n))(_:n<=xs.length)(_:tn (xs.length - n) w1.s.heap)(_:∀b∈fp,∃o,Has w1 b o)(_:bx X w0 Q E (aN g f ys ρ1 h1))
theorem IB(hp:∀E,X.Ep E->PassesOwn X.M X.A X.env E)(hc:X.calm=true)(hi:RI X tg iter it)(hg:RG X tg g)(hb:S5 X body f)(hs:∀x,foldedSetIterable iter X.env x=pure x:=by intro _;rfl):RS X (.For tg iter body [] pos) (gf it g f) where
 r {w0 ρ h Q E} I0 p:=by
  have hp:=hp E p.ep;refine wpAny_For (hi.r I0 (bx.e0 p I0 fun w h1 xs v y0 I r p=>?_)) hs;obtain⟨it,fp,tn,rfl,T,t0,fr⟩:=r;have no:=fun b hb=>(fr b hb).2.1;have nf:=fun b hb=>(fr b hb).2.2;refine codeAny_forLoop_any (Lq0 X w0 w tn fp xs Q E g f) ?_ xs.length ⟨w,ρ,h1,xs,rfl,y0.s,(NZ.refl (fs:=[]) (W:=Rg)).lat,I,rfl,by simp,ab8 _,by simpa using t0,fun b hb=>(fr b hb).1,p⟩
  rintro n s ⟨w1,ρ1,h1,ys,rfl,y1,l1,I1,ln,dr,le,t1,f1,p1⟩
  cases ys with
  |nil=>
   cases ln
   exact agi hp (ac5 (T.done (I1.ok.hd hc) l1 I1.toHR t1 (by simp) f1 (Q:=fun s=>wpAny X.M X.A (execs [] X.env) Q (notedBy X.M X.A X.env (cameBackBy X.M X.A X.env E)) s) fun w2 y2 H2=>aek (p1.2 w2 (y1.priv y2 nf) (I1.priv y2 H2 no))) (fun r s q=>by obtain⟨rfl,q⟩:=q;exact q) fun _ _ z=>z)
  |cons q ys=>
   have ln':ys.length+1=n:=ln;have eq:xs[xs.length - n]? =some q:=by rw[<- afm,<- dr];rfl
   unfold aN at p1
   split at p1
   ·rename_i ρ2 e2;refine ac5 (T.item (I1.ok.hd hc) l1 I1.toHR t1 eq f1 (Q:=fun u s=>wpAny (model X.prog X.w) X.A (assign tg X.env u) ?R ?N s) ?c) (fun r s q=>by obtain⟨u,rfl,q⟩:=q;exact q) fun _ _ z=>z;intro u w2 y2 H2 t2 f2 r2;refine agi hp (hg.r (I1.priv y2 H2 no) r2 e2 fun w3 y3 I3=>agi hp (hb.r I3 ?_));have YG:=(y1.priv y2 nf).trans y3;have l2:Rn w w2:=l1.trans ⟨y2.fz,y2.sub⟩
    have t3:∀w4 h4,HR X.toSC w4 h4->Q0 X w3 w4->tn (xs.length - ys.length) w4.s.heap/\∀b∈fp,∃o,Has w4 b o:=fun w4 h4 H4 y4=>by
     have k:∀b∈fp,∀o,Has w2 b o->Has w4 b o:=fun b hb o q=>by
      obtain⟨sl,q',z⟩:=(y3.trans y4).keep b o q (no b hb).w;rcases z with z|rfl
      ·exact absurd z (no b hb).2.1
      ·exact q'
     refine⟨?_,fun b hb=>let⟨o,q⟩:=f2 b hb;⟨o,k b hb o q⟩⟩;rw[show xs.length - ys.length=xs.length - n+1 by omega];exact T.keep l2 H2 (y3.trans y4).lat H4 t2 fun b hb o e=>let⟨o',q⟩:=f2 b hb;(k b hb o ⟨e,q.2⟩).1
    have dy:ys=xs.drop (xs.length - ys.length):=by rw[show xs.length - ys.length=xs.length - n+1 by omega,<- afC,<- dr];rfl
    have go:∀ ρ4 h4,bx X w0 Q E (aN g f ys ρ4 h4)->∀w4,Q0 X w3 w4->Inv X w4 ρ4 h4->∃m,m<n/\Lq0 X w0 w tn fp xs Q E g f m w4.s:=fun ρ4 h4 p4 w4 y4 I4=>⟨ys.length,by omega,w4,ρ4,h4,ys,rfl,YG.trans y4,l2.trans (y3.trans y4).lat,I4,rfl,dy,by omega,(t3 w4 h4 I4.toHR y4).1,(t3 w4 h4 I4.toHR y4).2,p4⟩
    split at p1<;>rename_i e3<;>rw[e3]
    ·exact⟨p1.ep,go _ _ p1⟩
    ·exact⟨p1.ep,go _ _ p1⟩
    all_goals exact p1.step YG
   ·exact p1.elim
end
end Z
namespace L3
noncomputable def gQ(h:List PO):PV->Option (PV×List PO)
 |.ref i=>match h[i]? with
  |some (.lst xs)=>if ar xs=true then some (.lst xs,h.set i (.J8 (.lst xs)))else none
  |some (.dct _)=>none
  |some (.J8 p)=>some (p,h)
  |some (.obj _ _)=>none
  |none=>none
 |p=>if p.pure=true then some (p,h)else none
def hM(f:Ax):Ax:=fun ρ h=>(f ρ h).bind fun ps h1=>match ps with
 |[.int j]=>if Q8 4611686018427387904 j=true then .ok ((List.range j.toNat).map fun i=>PV.int (0+(i:Nat))) h1 else .bad
 |_=>.bad
def kE(p:PV)(h:List PO):Res (List PV):=match p with
 |.str l=>.ok (l.map fun c=>PV.str [c]) h
 |.tup xs=>.ok xs h
 |.lst xs=>.ok xs h
 |.QD xs=>.ok xs h
 |p=>match gQ h p with
  |some (.lst xs,h2)=>.ok xs h2
  |_=>.bad
def eI(f:Ex):Ax:=fun ρ h=>(f ρ h).bind kE
end L3
namespace Z
open PySem PySem.Spec PyProof.Rows L3 L2
section
variable{G:SC}{X:Cx}{w w1:Wo}{ρ:Ev}{h:List PO}{pos p0:Pos}{tg a:Expr}{fa:Ex}{it:Addr}{xs:List PV}{s':Shared}{Q:Value->Shared->Prop}{E:Value->Shared->Prop}
theorem oJ{o:Obj}(H:HR G w h)(q:Has w it o)(k:∀b o,b≠it->w.s.heap.get? b=some o->s'.heap.get? b=some o)(ho:s'.os=w.s.os:=by rfl)(hg:s'.gens=w.s.gens:=by rfl):Pv [it] w { w with s:=s' }/\HR G { w with s:=s' } h:=
 ⟨⟨ho,fun q=>hg▸q,fun _ _ e=>e,fun _ _ e=>e,⟨[],by simp⟩,fun b o n e=>⟨o,k b o (by simpa using n) e⟩,fun b o n q=>⟨k b o (by simpa using n) q.1,q.2⟩⟩,H.on fun b o e' z=>k b o (by rintro rfl;exact z q.2) e'⟩
theorem R5.new{w0:Wo}{o:Obj}{tn:Nat->Heap->Prop}{tk:Nat}(I:Inv X w ρ h)(y:NZ X.fs Rg w0 w)(T:Bk X.toSC w tg xs w.s.heap.objs.size [w.s.heap.objs.size] tn)(t:tn 0 (w.s.heap.push o))(ho:o.isFreed=false)(p:bM X (R5 X tg w0) w Q E (.ok xs h)):Q (.ref w.s.heap.objs.size) { w.s with heap:=w.s.heap.push o,toks:=tk }:=by
 have n:=Nw.also (X:=X) (s':={ w.s with heap:=w.s.heap.push o,toks:=tk }) I.toHR fun b o e=>acf _ e;refine p.2 _ _ n ⟨_,_,tn,rfl,⟨T.keep,T.item,T.done,T.self⟩,t,?_⟩;simp only[acp,forall_eq];refine⟨⟨o,acq _ ho,I.toHR.free (bj _)⟩,I.out (bj _),?_⟩
 cases q:w0.s.heap.get? w.s.heap.objs.size with
 |none=>rfl
 |some o=>obtain⟨o',q'⟩:=y.dom _ _ q;rw[bj]at q';cases q'
theorem MN{M:Model}{A:Around}{s:Shared}{u:Value}{o:Obj}{n:String}{vs:Array Value}{Q:Unit->Shared->Prop}(ho:s.heap.get? it=some o)(hc:o.cls=.type n)(hd:o.data=.fields vs)
    (hn: ["enumerate","zip","dict_itemiterator","dict_reverseitemiterator","odict_iterator","itertools.zip_longest","itertools.pairwise"].contains n=false) (hQ:Q () s):wpAny M A (letOwnedTupleGo tg (.ref it) u) Q E s:=by
  unfold letOwnedTupleGo
  cases tg<;>first
    |exact ach hQ
    |(cases u<;>first
      |exact ach hQ
      |(refine ab6 (wpAny_load ho ?_)
        rw[hc,hd];show wpAny M A (if(["enumerate","zip","dict_itemiterator","dict_reverseitemiterator","odict_iterator","itertools.zip_longest","itertools.pairwise"].contains n&&vs[0]? ==some (rawInt _))=true then _ else _) Q E s;rw[if_neg (by intro h;rw[hn,ahw]at h;cases h)];exact ach hQ))
theorem lM{St:Nat->Heap->Prop}{P:Nat->Value->Prop}{src:List Addr}{n:Nat}(W:∀A:Around,A.handled=none->Walks G.prog G.w A it (it::src) [it] n P St)(hl:xs.length=n)(fz:∀b∈src,∃o,w.F b=some o)
  (lv:∀i g,St i g->∃o m vs,g.get? it=some o/\o.cls=.type m/\o.data=.fields vs/\ ["enumerate","zip","dict_itemiterator","dict_reverseitemiterator","odict_iterator","itertools.zip_longest","itertools.pairwise"].contains m=false) (hP:∀i p v,xs[i]? =some p->P i v->bq G w.F w.m p v):Bk G w tg xs it [it] St where
 keep {i w1 w2 h1 h2} l1 H1 l2 H2 st k:=(W callerA rfl).frame i _ _ st fun b hb o e=>by
  rcases acn.mp hb with rfl|hb
  ·exact k b (by simp) o e
  ·obtain⟨o',q⟩:=fz b hb;rw[H1.at (l1.1 _ _ q)]at e
   cases e
   exact H2.at (l2.1 _ _ (l1.1 _ _ q))
 item {A w1 h i p Q E} hh y H st hx f q:=by
  obtain⟨o,ho⟩:=f it (by simp);refine(W A hh).item i _ _ _ (by rw[<- hl];exact(acd.mp hx).1) st fun v h' tk hv Vi k=>⟨v,rfl,?_⟩
  obtain⟨o',m,vs,e',c,d,z⟩:=lv _ _ Vi;obtain⟨a1,a2⟩:=oJ (s':={ w1.s with heap:=h',toks:=tk }) H ho fun b o hb e=>k b o (by simpa using hb) e;exact MN (s:={ w1.s with heap:=h',toks:=tk }) e' c d z (q v _ a1 a2 Vi (by simp;exact⟨o',e',ho.2⟩) ((hP i p v hx hv).mono y.1 (.inr y.2)))
 done {A w1 h i Q E} hh y H st hx f q:=by
  obtain⟨o,ho⟩:=f it (by simp);subst hl hx;refine(W A hh).done _ _ _ st fun h' tk k=>⟨rfl,?_⟩
  obtain⟨a1,a2⟩:=oJ (s':={ w1.s with heap:=h',toks:=tk }) H ho fun b o hb e=>k b o (by simpa using hb) e;exact q _ a1 a2
 self hh st q:=(W _ hh).self _ _ _ _ st q
theorem HR.fix{p:PV}{i:Nat}{a:Addr}{o:Obj}(H:HR X.toSC w h)(e:w.m[i]? =some a)(f:w.F a=none)(e1:w.s.heap.get? a=some o)(rr:bq X.toSC (iV w.F a o) w.m p (.ref a))(pu:p.pure=true):Nw X w ⟨iV w.F a o,w.O,w.m,w.s⟩ (h.set i (.J8 p)):=by
 refine⟨⟨rfl,id,dE f,fun _ _ e=>e,⟨[],by simp⟩,fun b o e=>⟨o,e⟩,fun b o q _=>⟨o.slots,⟨q.1,q.2.1,cQ (fun z=>q.2.1 (z▸acj e)) q.2.2.1,q.2.2.2⟩,.inr rfl⟩⟩,fun b x q=>?_,fun d b q=>let⟨o,z,y⟩:=H.own d b q;⟨o,z,cQ (fun e'=>z (e'▸acj e)) y⟩,by simp[H.len],H.nd,fun j po b h1 h2=>?_⟩
 ·by_cases z:b=a
  ·subst z;cases bC.symm.trans q;exact e1
  ·exact H.sub b x ((kj z).symm.trans q)
 ·by_cases z:j=i
  ·subst z
   cases h2.symm.trans e
   rw[adl (H.len▸(acd.mp e).1)]at h1
   cases h1
   exact⟨rr,pu,_,bC⟩
  ·rw[acX (acW z)]at h1;refine(H.obj j po b h1 h2).on (dE f) (fun _ e=>e) (fun _ _ e=>e) (fun _ _ e _=>e) (cQ ?_)
   rintro rfl
   obtain⟨l1,e1⟩:=acd.mp h2;obtain⟨l2,e2⟩:=acd.mp e;exact z ((aew H.nd).mp (e1.trans e2.symm))
theorem HR.Wc{p q:PV}{u:Value}{h':List PO}(H:HR X.toSC w h)(r:bq X.toSC w.F w.m p u)(k:gQ h p=some (q,h')):∃F',Nw X w ⟨F',w.O,w.m,w.s⟩ h'/\bq X.toSC F' w.m q u/\q.pure=true:=by
 unfold gQ at k
 split at k
 ·rename_i i
  cases r with
  |@ref _ a e=>
   cases q0:h[i]? <;>rw[q0]at k<;>try simp only at k
   ·cases k
   ·rename_i po
    cases po with
    |lst xs=>
     simp only at k
     split at k<;>cases k
     obtain⟨f,h_,n,e1,z,r⟩:=H.obj _ _ _ q0 e;have rr:bq X.toSC (iV w.F a ({ cls:=.type "list",data:=.seq h_ n })) w.m (.lst xs) (.ref a):=.lst bC z (r.mono (dE f) (.inr fun _ _ e=>e));have pu:(PV.lst xs).pure=true:=by simpa[PV.pure]using ‹_›
     exact⟨_,H.fix e f e1 rr pu,rr,pu⟩
    |J8 p=>simp only at k;cases k;obtain⟨r,z,_⟩:=H.obj _ _ _ q0 e;exact⟨w.F,⟨.refl,H⟩,r,z⟩
    |_=>cases k
 ·split at k<;>cases k
  exact⟨w.F,⟨.refl,H⟩,r, ‹_›⟩
theorem Iw{p:PV}{v:Value}{w0:Wo}(I:Inv X w ρ h)(y:NZ X.fs Rg w0 w)(r:bq X.toSC w.F w.m p v)(k:bM X (R5 X tg w0) w Q E (kE p h)):Wp X (pyIter v) Q E w.s:=by
 have seq:∀{w:Wo}{h:List PO}{xs:List PV}{p:PV}{t:String},Inv X w ρ h->NZ X.fs Rg w0 w->bq X.toSC w.F w.m p v->Vj p=some (t,xs)->bM X (R5 X tg w0) w Q E (.ok xs h)->Wp X (pyIter v) Q E w.s:=by
  intro w h xs p t I y r k q
  have tup:∀{a:Addr}{h_:Array Value}{n:Nat},w.F a=some ({ cls:=.type "tuple",data:=.seq h_ n })->aB X.toSC w.F w.m xs h_.toList->Wp X (pyIter (.ref a)) Q E w.s:=fun{a h_ n} e r=>by
   have ne:a≠w.s.heap.objs.size:=fun z=>by have:=I.toHR.at e;rw[z,bj]at this;cases this
   refine adI (items:=h_) ⟨_,I.toHR.at e,rfl,n,rfl⟩ (R5.new I y (lM (src:=[a]) (fun A hA=>ahB hA _ a ne h_) r.len (fun b hb=>by simp at hb;exact⟨_,hb▸e⟩) (fun i g st=>let⟨o,e,c,d⟩:=st.1;⟨o,_,_,e,c,d,by decide⟩) fun i p v e h=>?_) ⟨⟨_,acq _ rfl,rfl,rfl⟩,⟨_,acf _ (I.toHR.at e),rfl,n,rfl⟩⟩ rfl q);obtain⟨u,e',r'⟩:=r.get e;rw[show h_[i]? =some u by simpa using e']at h
   cases h;exact r'
  have lst:∀{a:Addr}{h_:Array Value}{n:Nat},w.F a=some ({ cls:=.type "list",data:=.seq h_ n })->aB X.toSC w.F w.m xs h_.toList->Wp X (pyIter (.ref a)) Q E w.s:=fun{a h_ n} e r=>by
   have ne:a≠w.s.heap.objs.size:=fun z=>by have:=I.toHR.at e;rw[z,bj]at this;cases this
   refine agX (items:=h_) ⟨_,I.toHR.at e,rfl,n,rfl⟩ (R5.new I y (lM (src:=[a]) (fun A hA=>Walks.list hA _ a ne h_) r.len (fun b hb=>by simp at hb;exact⟨_,hb▸e⟩) (fun i g st=>let⟨o,e,c,d⟩:=st.1;⟨o,_,_,e,c,d,by decide⟩) fun i p v e h=>?_) ⟨⟨_,acq _ rfl,rfl,rfl⟩,⟨_,acf _ (I.toHR.at e),rfl,n,rfl⟩⟩ rfl q);obtain⟨u,e',r'⟩:=r.get e;rw[show h_[i]? =some u by simpa using e']at h
   cases h;exact r'
  cases r<;>cases k
  ·exact tup ‹_› ‹_›
  ·exact lst ‹_› ‹_›
  ·exact lst ‹_› ‹_›
 unfold kE at k
 split at k
 ·rename_i l
  obtain⟨_,rfl⟩:=r.vs
  have hP:∀(i:Nat)(p:PV)(v:Value),(l.map fun c=>PV.str [c])[i]? =some p->SignAt (S l) i v->bq X.toSC w.F w.m p v:=fun i p v e ⟨c,t,e',e''⟩=>by
   rw[acJ,show l[i]? =some c by simpa[S]using e']at e
   cases e;subst e'';exact .str [c] t
  cases ha:(S l).cps.all (· <128)
  ·exact wpAny_pyIter_wide ha (R5.new I y (lM (src:=[]) (fun A hA=>Walks.strWide hA _ _ _) (by simp[S]) (fun b hb=>nomatch hb) ((by rintro i g ⟨o,e,c,d⟩;exact ⟨o,_,_,e,c,d,by decide⟩)) hP) ⟨_,acq _ rfl,rfl,rfl⟩ rfl k)
  ·exact wpAny_pyIter_ascii ha (R5.new I y (lM (src:=[]) (fun A hA=>Walks.strAscii hA _ _ _) (by simp[S]) (fun b hb=>nomatch hb) ((by rintro i g ⟨o,e,c,d⟩;exact ⟨o,_,_,e,c,d,by decide⟩)) hP) ⟨_,acq _ rfl,rfl,rfl⟩ rfl k)
 ·exact seq I y r rfl k
 ·exact seq I y r rfl k
 ·exact seq I y r rfl k
 ·split at k
  ·rename_i e;obtain⟨F',n,r',_⟩:=I.toHR.Wc r e;exact seq (w:=⟨F',w.O,w.m,w.s⟩) (I.on n) (y.trans n.1) r' rfl (k.step n)
  ·exact k.elim
theorem bQ(ha:RE X a fa):RI X tg a (eI fa):=⟨fun I p=>ha.r I (p.bind fun _ _ _ _ y r p=>Iw (I.on y) y.1 r p)⟩
theorem fV{e:Expr}{f:Ax}(hg:Gl X "range")(hm:X.mg "range"=none)(ha:RA X [e] f)(hs:starEach [e] X.env= [(false,eval e X.env)]:=by rfl):RI X tg (.Call (.Name "range" p0) [e] [] pos) (hM f):=⟨fun I p=>Call_ (I.blt hg hm boot_range (callWith_type1 (ha.r pos I (p.bind fun w _ ps us y r p=>by
 split at p
 ·rename_i j
  split at p
  ·rename_i hb;have hb:=eT.mp hb
   cases r with
   |cons r t=>
    cases t;obtain⟨_,rfl⟩:=r.vi
    refine call_range_1 ?_;have n:=Nw.also (X:=X) (s':={ w.s with heap:=w.s.heap.push { cls:=.type "range",data:=.fields #[.int 0 w.s.toks,.int j ‹_›,.int 1 (w.s.toks+1)] },toks:=w.s.toks+1+1 }) y.2 fun b o e=>acf _ e;refine wpAny_pyIter_range (IsRange.new ..) (small_one (by omega) (by omega) (by omega) (by omega)) (R5.new ((I.on y).on n) (y.1.trans n.1) (lM (n:=j.toNat) (src:=[]) (fun A hA=>Walks.range hA _ 0 1 _) (by simp) (fun b hb=>nomatch hb) (fun i g st=>⟨_,_,_,st,rfl,rfl,by decide⟩) fun i p v e h=>?_) ?_ rfl (p.step n))
    ·obtain⟨t,rfl⟩:=h;rw[acJ]at e;obtain⟨q,e',rfl⟩:=aee.mp e;obtain rfl:i=q:=by have:=acd.mp e';simpa using this.2
     rw[Int.mul_one];exact .int _ t
    ·show IsRangeIter _ _ (0+((0:Nat):Int) * 1) ((j.toNat:Int) - ((0:Nat):Int)) 1;rw[show(0:Int)+((0:Nat):Int) * 1=0 by simp,show(j.toNat:Int) - ((0:Nat):Int)=Builtin.Range.rangeSize 0 j 1 by rw[rangeSize_one];split<;>omega];exact acq _ rfl
  ·exact p.elim
 ·exact p.elim)) hs rfl))⟩
end
end Z
namespace L2
open PySem PySem.Spec PyProof.Rows
structure mD(N P:List Str)(sc:Scope):Prop where
 kind:sc.kind=.function
 co:sc.isCoroutine=false
 gen:sc.isGenerator=false
 nd:N.Nodup
 pre:N.take P.length=P
 par:∀x∈P,sc.names.lookup x=some .local\/sc.names.lookup x=some .cell
 U5:∀y∈sc.names,y.2≠.free
theorem ui{kindOf:Str->Option NameKind}{x:Str}:∀{binds:List (Str×Value)}{m:Str->Option Value},(∀v,(x,v)∉binds)->bindL kindOf binds m x=m x
 |[],_,_=>rfl
 |(n,v)::r,m,h=>by
  unfold bindL;rw[ui fun w hw=>h w (acg _ hw)]
  split
  ·have:x≠n:=by rintro rfl;exact h v acv
   simp[this]
  ·rfl
theorem uk{kindOf:Str->Option NameKind}{x:Str}:∀{binds:List (Str×Value)}{m:Str->Option Value},(∀v,(x,v)∉binds)->bindC kindOf binds m x=m x
 |[],_,_=>rfl
 |(n,v)::r,m,h=>by
  unfold bindC;rw[uk fun w hw=>h w (acg _ hw)]
  split
  ·rfl
  ·have:x≠n:=by rintro rfl;exact h v acv
   simp[this]
theorem uj{kindOf:Str->Option NameKind}{x:Str}{v:Value}:∀{P:List Str}{vs:List Value}{i:Nat}{m:Str->Option Value},P.Nodup->P[i]? =some x->vs[i]? =some v->kindOf x=some .local->
  bindL kindOf (P.zip vs) m x=some v
 |[],_,_,_,_,h,_,_=>by simp at h
 |_::_,[],_,_,_,_,h,_=>by simp at h
 |p::P,w::vs,0,m,nd,h1,h2,hk=>by simp at h1 h2;subst h1;subst h2;show bindL kindOf ((p,w)::P.zip vs) m p=_;unfold bindL;rw[ui fun v hv=>(adp.mp nd).1 (agk hv).1,if_pos hk];simp
 |p::P,w::vs,i+1,m,nd,h1,h2,hk=>by show bindL kindOf ((p,w)::P.zip vs) m x=_;unfold bindL;exact uj (i:=i) (adp.mp nd).2 (by simpa using h1) (by simpa using h2) hk
theorem ul{kindOf:Str->Option NameKind}{x:Str}{v:Value}:∀{P:List Str}{vs:List Value}{i:Nat}{m:Str->Option Value},P.Nodup->P[i]? =some x->vs[i]? =some v->kindOf x≠some .local->
  bindC kindOf (P.zip vs) m x=some v
 |[],_,_,_,_,h,_,_=>by simp at h
 |_::_,[],_,_,_,_,h,_=>by simp at h
 |p::P,w::vs,0,m,nd,h1,h2,hk=>by simp at h1 h2;subst h1;subst h2;show bindC kindOf ((p,w)::P.zip vs) m p=_;unfold bindC;rw[uk fun v hv=>(adp.mp nd).1 (agk hv).1,if_neg hk];simp
 |p::P,w::vs,i+1,m,nd,h1,h2,hk=>by show bindC kindOf ((p,w)::P.zip vs) m x=_;unfold bindC;exact ul (i:=i) (adp.mp nd).2 (by simpa using h1) (by simpa using h2) hk
theorem xr{sc:Scope}{n:Nat}{x:Str}(h:sc.names.lookup x=some .cell):∃c,(cellsFrom n sc.names []).lookup x=some c:=by have q:=ag7 sc.names n [] (.inl h);exact aeE.mp q
structure fm(k:Nat)(A:Around):Prop where
 dp:A.depth+3 * k+5<recursionLimit
 un:A.units+16 * k+200<cLine
 gd:A.guards=some []
theorem fm.mono{j k:Nat}{A:Around}(r:fm k A)(h:j<=k):fm j A:=⟨by have:=r.dp;omega,by have:=r.un;omega,r.gd⟩
theorem fm.deeper{k:Nat}{A:Around}(r:fm (k+1) A)(env:Env):fm k (A.deeper env):=
 ⟨by have:=r.dp;show A.depth+1+3 * k+5<_;omega,by have:=r.un;show A.units+3+16 * k+200<_;omega,r.gd⟩
theorem yi{A:Around}{C:Addr}{us:List Value}{kw:List (Str×Value)}:(A.under (.builtin "type.__call__" ⟨.ref C::us,kw⟩)).depth=A.depth+1:=by first|rfl|simp[Around.under,Code.weight,Code.isCreation,Code.isGuard,Code.isCaller,Code.frames,Code.isFrame,guardIds]
theorem yh{A:Around}{C:Addr}{us:List Value}{kw:List (Str×Value)}:(A.under (.builtin "type.__call__" ⟨.ref C::us,kw⟩)).units=A.units+1:=by first|rfl|simp[Around.under,Code.cUnits,Code.frames,Code.isFrame]
theorem fm.make{k:Nat}{A:Around}(r:fm (k+1) A)(C:Addr)(us:List Value)(kw:List (Str×Value)):fm k (A.under (.builtin "type.__call__" ⟨.ref C::us,kw⟩)):=
 ⟨by have:=r.dp;rw[yi];omega,by have:=r.un;rw[yh];omega,by first|exact r.gd|(simp[Around.under,Code.guards,Code.isGuard,guardIds,pushGuards];exact r.gd)⟩
theorem fm.depth{k:Nat}{A:Around}(r:fm k A):A.depth<recursionLimit:=by have:=r.dp;omega
theorem fm.units{k:Nat}{A:Around}(r:fm k A):A.units+64<cLine:=by have:=r.un;omega
def jM(K:W.Frag)(fd:FuncData)(ps:List Str)(ds:List Value):Prop:=
 ∀(s:Shared)(us:List Value),K.In s.heap->(us++ds).length=ps.length->BindsTo s fd ⟨us,[]⟩ (ps.zip (us++ds))
noncomputable def og(s:Stmt)(j:Nat):Stmt:=match s with
 |.ClassDef _ _ _ body _ _ _ _ _ _ _=>body.getD j (.Pass ⟨0,0,0,0⟩)
 |_=>.Pass ⟨0,0,0,0⟩
noncomputable def vq(s:Stmt):Arguments:=match s with
 |.FunctionDef _ a _ _ _ _ _ _ _ _=>a
 |_=> { posonlyargs:=[],args:=[],vararg:=none,kwonlyargs:=[],kw_defaults:=[],kwarg:=none,defaults:=[] }
noncomputable def iF(s:Stmt):List Stmt:=match s with
 |.FunctionDef _ _ b _ _ _ _ _ _ _=>b
 |_=> []
noncomputable def aX(s:Stmt):Scope:=match s with
 |.FunctionDef _ _ _ _ _ _ sc _ _ _=>sc
 |_=> { kind:=.function,names:=[],isGenerator:=false,isCoroutine:=false }
structure Vh(K:W.Frag)(x qual:Str)(st:Stmt)(f:Addr)(fd:FuncData):Prop where
 ex:∃(oc:Value)(od:Option Addr)(kV doc pm:Value)(an:Option Addr)(Ve ct:Value)(VJ:Array (Option Value)),
  fd=W.fnOf x qual (vq st) (iF st) (aX st) .none kV doc pm an Ve ct/\K.lookup f=some ⟨oc,od,.func fd,VJ⟩/\W.codeIn K Ve qual=true
 kp:W.keepIn K (.ref f)=true
end L2
namespace L3
noncomputable def st0(n:Nat)(ps:List PV):Ev:=ps.map some++List.replicate (n - ps.length) none
end L3
namespace Z
open PySem PySem.Spec PyProof.Rows L3 L2
noncomputable def kt(c:Bool)(X:Cx)(N:List Str)(qual:Str)(scope:Scope)(f:Addr)(cd:Value)(A:Around)(s:Shared):Cx:=
 { X with A:=A.deeper (envOfC qual scope s.heap.objs.size f cd),N:=N,env:=envOfC qual scope s.heap.objs.size f cd,stack:=envOfC qual scope s.heap.objs.size f cd::X.stack,fn:=fun _=>true,calm:=c,tr:=true,Ep:=PassesOwn (model X.prog X.w) (A.deeper (envOfC qual scope s.heap.objs.size f cd)) (envOfC qual scope s.heap.objs.size f cd) }
def New(X Y:Cx)(w:Wo):Prop:=(∀b,Y.W b->w.s.heap.get? b=none)/\∀b∈Y.fs,b∈X.fs\/w.s.heap.get? b=none
section
variable{X:Cx}{w:Wo}{h:List PO}{N ps:List Str}{qual name:Str}{scope:Scope}{f:Addr}{cd:Value}{A:Around}{qs:List PV}{us:List Value}{k:Nat}{R:Result->Shared->Prop}
def HS(env:Env)(ps:List Str)(us:List Value)(s s1:Shared):Prop:=∃h t,s1= { s with heap:=h,toks:=t }/\(∀b o,s.heap.get? b=some o->h.get? b=some o)/\∃m,h.Ns env.locals m/\∀(i:Nat) y u,ps[i]? =some y->us[i]? =some u->xy env h m y u
theorem AZ{s1:Shared}(S:mD N ps scope){c:Bool}(hd:c=true->A.handled=none)(hf:A.frames=some X.stack)(I:Wd X w h)(ok:X.Ok)(hl:qs.length=ps.length)(r:aB X.toSC w.F w.m qs us)
  (x:InCallC w.s w.s.heap.objs.size (bindL (envOfC qual scope w.s.heap.objs.size f cd).kindOf (ps.zip us) fun _=>none) (cellsFrom (w.s.heap.objs.size+1) scope.names []) (bindC (envOfC qual scope w.s.heap.objs.size f cd).kindOf (ps.zip us) fun _=>none) s1):
  New X (kt c X N qual scope f cd A w.s) w/\NZ X.fs Rg w { w with s:=s1 }/\Inv (kt c X N qual scope f cd A w.s) { w with s:=s1 } (st0 N.length qs) h/\HS (envOfC qual scope w.s.heap.objs.size f cd) ps us w.s s1:=by
 have Ov:ps.length<=N.length:=by have:=congrArg List.length S.pre;rw[aeu]at this;omega
 obtain⟨h1,tk,rfl,hk⟩:=x.done;have n:=Nw.also (X:=X) (s':={ w.s with heap:=h1,toks:=tk }) I.toHR hk;have W:=I.on n.1 (fun _ _ z=>z.elim) n.2;have nn:∀{b},w.s.heap.objs.size<=b->w.s.heap.get? b=none:=fun{b} z=>by cases q:w.s.heap.get? b with|none=>rfl|some o=>exact absurd (adK (acI q) z) (adW _)
 have pv:∀{b o},w.s.heap.objs.size<=b->h1.get? b=some o->Has { w with s:={ w.s with heap:=h1,toks:=tk } } b o:=fun{b o} z e=>⟨e,I.toHR.free (nn z)⟩
 obtain⟨oL,es,ep,eL,dL,_⟩:=id x.toInCall.ns;have hL:=pv (ab8 _) eL;have Zh:ps.Nodup:=by rw[<- S.pre];exact S.nd.sublist (afO _ _)
 have lk:∀(i:Nat) y u,ps[i]? =some y->us[i]? =some u->xy (envOfC qual scope w.s.heap.objs.size f cd) h1 (bindL (envOfC qual scope w.s.heap.objs.size f cd).kindOf (ps.zip us) fun _=>none) y u:=fun i y u hp hu=>by
  rcases S.par y (acj hp)with k|k
  ·exact .inl ⟨k,uj Zh hp hu k⟩
  ·obtain⟨c,e⟩:=xr (n:=w.s.heap.objs.size+1) k;refine .inr ⟨.inl k,c,e,?_⟩;have q:=x.cell y c e;rw[ul Zh hp hu (by show scope.names.lookup y≠_;rw[k];decide)]at q;exact q
 refine⟨⟨fun b z=>z.elim (fun z=>z▸bj _) (by rintro ⟨y,_,e⟩;exact nn (agb (x.above y b (adC e)))),fun b z=>(acn.mp (show b∈w.s.heap.objs.size::X.fs from z)).elim (fun z=>.inr (by rw[z];exact bj _)) .inl⟩,n.1,⟨⟨W.toHR,W.ba,W.bs,fun b hb=>?_⟩,⟨ok.Qs,ok.gl,ok.bl,ok.nl,S.kind,rfl,rfl,fun y z c h1 h2=>?_,fun y hy=>?_,hd,agC hf,S.nd,fun e he=>?_⟩,⟨_,oL,x.toInCall.ns,hL,fun i p e=>?_⟩,fun y c e=>?_,?_⟩,_,_,rfl,hk,_,x.toInCall.ns,lk⟩
 ·rcases acn.mp (show b∈w.s.heap.objs.size::X.fs from hb)with rfl|hb
  ·exact⟨oL,hL,fun vs z=>by rw[dL]at z;cases z⟩
  ·exact W.fr b hb
 ·exact name_of_addr x.apart (adC h1) (adC h2)
 ·have hy:scope.names.lookup y=some .cell\/scope.names.lookup y=some .free:=hy;rcases hy with hy|hy
  ·exact xr hy
  ·exact absurd rfl (S.U5 _ (adC hy))
 ·rcases acn.mp he with rfl|he
  ·exact⟨by rw[show(envOfC qual scope w.s.heap.objs.size f cd).scope.kind=.function from S.kind];decide,_,rfl,by
    cases q:X.base.get? w.s.heap.objs.size with
    |none=>exact q
    |some o=>have:=I.bk q;rw[bj]at this;cases this⟩
  ·exact ok.sf e he
 ·have hi:i<qs.length:=by
   unfold st0 at e
   by_cases hi:i<qs.length
   ·exact hi
   ·rw[acP (by simpa using hi),aeL]at e
    split at e<;>cases e
  have ha:qs[i]? =some p:=by
   unfold st0 at e;rw[acA (by simpa using hi),acJ]at e
   cases e':qs[i]? with
   |none=>rw[e']at e;cases e
   |some a=>rw[e']at e;cases e;rfl
  obtain⟨u,hu,rv⟩:=r.get ha;obtain⟨y,hp⟩:∃y,ps[i]? =some y:=⟨ps[i],by simp[hl▸hi]⟩
  have hN:N[i]? =some y:=by rw[<- S.pre,adn (by omega)]at hp;exact hp
  exact⟨y,u,hN,rv,lk i y u hp hu⟩
 ·obtain⟨o,q,d⟩:=x.cell y c e;exact⟨_,o,⟨o,q,d⟩,pv (agb (x.above y c (adC e))) q⟩
 ·simp only[st0,acs,ab9,ae1];show _=N.length;omega
abbrev RC(Q:Value->Shared->Prop)(E:Value->Shared->Prop)(r:Result)(s:Shared):Prop:=match r with
 |.ok (.ret u)=>Q u s
 |.ok _=>False
 |.error e=>E e s
theorem pK{c:Bool}{st:Stmt}{fd:FuncData}{args:Args}{Q:Value->Shared->Prop}{E:Value->Shared->Prop}(F:Vh X.K name qual st f fd)(S:mD N ps (aX st))(hr:fm (k+1) A)(hd:c=true->A.handled=none)(hf:A.frames=some X.stack)(I:Wd X w h)(ok:X.Ok)(hl:qs.length=ps.length)(r:aB X.toSC w.F w.m qs us)(hb:BindsTo w.s fd args (ps.zip us))
  (go:∀cd s1,fm k (A.deeper (envOfC qual (aX st) w.s.heap.objs.size f cd))->New X (kt c X N qual (aX st) f cd A w.s) w->NZ X.fs Rg w { w with s:=s1 }->Inv (kt c X N qual (aX st) f cd A w.s) { w with s:=s1 } (st0 N.length qs) h->HS (envOfC qual (aX st) w.s.heap.objs.size f cd) ps us w.s s1->
   Wp (kt c X N qual (aX st) f cd A w.s) (execs (iF st) (kt c X N qual (aX st) f cd A w.s).env) (fun fl s=>match fl with|.ret u=>Q u s|.next=>Q .none s|_=>False) (fun e s=>Wp (kt c X N qual (aX st) f cd A w.s) (leaving (kt c X N qual (aX st) f cd A w.s).env e) (fun _ s=>E e s) E s) s1):
  codeAny (model X.prog X.w) A (.call (.ref f) args) (RC Q E) w.s:=by
 obtain⟨oc,od,kV,doc,pm,an,Ve,ct,VJ,rfl,lk,T7⟩:=F.ex;have KX:X.K.In w.s.heap:=ok.Qs.keeps fun _ _ e=>I.bk e;have lim:w.s.heap.NoLimit:=ok.nl.keeps fun _ _ e=>I.bk e;have V6:∀y∈ps.zip us,(aX st).names.lookup y.1=some .local\/((aX st).names.lookup y.1=some .cell/\((cellsFrom (w.s.heap.objs.size+1) (aX st).names []).lookup y.1).isSome=true):=(by rintro ⟨n,v⟩ hy;exact (S.par n (agk hy).1).imp_right fun q=>⟨q,ag7 _ _ _ (.inl q)⟩)
 refine codeAny_call_function hr.depth (KX _ _ lk) rfl S.co S.gen rfl (W.codeRec_of KX T7) (hb _ _ _ _ ?_);refine wpAny_newFunctionEnv_cells S.kind V6 fun env he s1 x=>?_;subst he;refine⟨lim.keeps x.toInCall.keep,codeAny_func ?_⟩;obtain⟨nw,y,J,gr⟩:=AZ (N:=N) (cd:=Ve) S hd hf I ok hl r x;refine ac5 (go Ve s1 (hr.deeper _) nw y J gr) (fun fl s' hs=>?_) fun e s' hs=>hs
 cases fl<;>first|exact hs|exact hs.elim
end
end Z
namespace L3
def Qk:List PV->List PO->Option (List PV×List PO)
 |[],h=>some ([],h)
 |p::r,h=>match gQ h p with
  |some (q,h1)=>match Qk r h1 with
   |some (qs,h2)=>some (q::qs,h2)
   |none=>none
  |none=>none
inductive Out where
 |ok (v:PV)|bad
def gA(v:PV)(h:List PO):Out:=match gQ h v with
 |some (q,_)=>.ok q
 |none=>.bad
def bz(f:Sx)(np n:Nat)(ps:List PV):Out:=if ps.length=np then match f (ps.map some++List.replicate (n - ps.length) none) []with
  |.nx _ _=>.ok .non
  |.rt v h=>gA v h
  |_=>.bad
 else .bad
def bO(fn:List PV->Out)(ps:List PV)(h:List PO):Res PV:=match Qk ps h with
 |some (qs,h2)=>match fn qs with
  |.ok v=>.ok v h2
  |.bad=>.bad
 |none=>.bad
def bG(fn:List PV->Out)(as:Ax):Ex:=fun ρ h=>(as ρ h).bind (bO fn)
end L3
namespace Z
open PySem PySem.Spec PyProof.Rows L3 L2
structure TQ(G:SC)(k:Nat)(f:Addr)(fd:FuncData)(ps:List Str)(fn:List PV->Out):Prop where
 len:∀qs v,fn qs=.ok v->qs.length=ps.length
 run:∀{X:Cx}{w:Wo}{h:List PO}{A:Around}{qs:List PV}{us:List Value}{v:PV}{args:Args}{Q:Value->Shared->Prop}{E:Value->Shared->Prop},X.toSC=G->fm k A->A.handled=none->A.frames=some X.stack->Wd X w h->X.Ok->aB G w.F [] qs us->fn qs=.ok v->BindsTo w.s fd args (ps.zip us)->
  (∀F' s' u,Nw X w ⟨F',w.O,w.m,s'⟩ h->bq G F' [] v u->Q u s')->codeAny (model G.prog G.w) A (.call (.ref f) args) (RC Q E) w.s
section
variable{G:SC}{X:Cx}{w w1:Wo}{ρ:Ev}{h h1:List PO}{N ps:List Str}{qual name:Str}{st:Stmt}{f:Addr}{fd:FuncData}{k:Nat}{g:Sx}
theorem Wd.hide(I:Wd X w h):Wd X ⟨w.F,fun _=>none,[],w.s⟩ []:=⟨⟨I.sub,fun _ _ e=>(nomatch e),rfl,aht,fun _ _ _ e=>(nomatch e)⟩,I.ba,I.bs,fun b hb=>let⟨o,q,d⟩:=I.fr b hb;⟨o,⟨q.1,by simp,q.2.2.1,rfl⟩,d⟩⟩
theorem NZ.out{Y:Cx}{w2:Wo}(nw:New X Y w)(y:Q0 Y w w2):NZ X.fs Rg w w2:=⟨y.os,y.ba,y.fz,y.ow,y.pre,y.dom,fun b o q _=>by
 obtain⟨sl,q',z⟩:=y.keep b o q fun z=>by have q:=q.1;rw[nw.1 b z]at q;cases q
 exact⟨sl,q',z.imp_left fun z=>(nw.2 b z).resolve_right fun z=>by have q:=q.1;rw[z]at q;cases q⟩⟩
theorem Nw.back{m0:List Addr}{h':List PO}(I:Wd X w h)(y:NZ X.fs Rg ⟨w.F,fun _=>none,m0,w.s⟩ w1)(H:HR X.toSC w1 h1)(hl:h'.length=h.length)(hm:∀a∈m0,a∈w.m)(ho:∀(i:Nat) po a,h'[i]? =some po->w.m[i]? =some a->a∈m0->sJ X.toSC w1.F w.m w.O w1.s.heap a po)(hk:∀(i:Nat) po a,h'[i]? =some po->w.m[i]? =some a->a∉m0->h[i]? =some po):Nw X w ⟨w1.F,w.O,w.m,w1.s⟩ h':=by
 have k:∀b o,w.s.heap.get? b=some o->w.F b=none->b∉m0->∃sl,(w1.s.heap.get? b=some { o with slots:=sl }/\w1.F b=none)/\(b∈X.fs\/sl=o.slots):=fun b o e n z=>by obtain⟨sl,q,z⟩:=y.keep b o ⟨e,z,n,rfl⟩ fun z=>z;exact⟨sl,⟨q.1,q.2.2.1⟩,z⟩
 have k':∀b o,w.s.heap.get? b=some o->w.F b=none->b∉m0->b∉X.fs->w1.s.heap.get? b=some o/\w1.F b=none:=fun b o e n y z=>by
  obtain⟨sl,q,z'⟩:=k b o e n y;rcases z' with z'|rfl
  ·exact absurd z' z
  ·exact q
 have nf:∀{b},¬ Ro w b->b∉X.fs:=fun n z=>let⟨_,q,_⟩:=I.fr _ z;n q.2;have no:∀{b a},w.O b=some a->b∉m0:=fun e z=>let⟨_,y,_⟩:=I.own _ _ e;y (hm _ z);refine⟨⟨y.os,y.ba,y.fz,fun _ _ e=>e,⟨[],by simp⟩,y.dom,fun b o q _=>?_⟩,H.sub,fun d a e=>?_,hl.trans I.len,I.nd,fun i po a e1 e2=>?_⟩
 ·obtain⟨sl,q',z⟩:=k b o q.1 q.2.2.1 fun z=>q.2.1 (hm _ z);exact⟨sl,⟨q'.1,q.2.1,q'.2,q.2.2.2⟩,z⟩
 ·obtain⟨⟨o,q⟩,z,n⟩:=I.own d a e;exact⟨y.dom d o q,z,(k' d o q n (no e) (nf fun y=>by rw[y.2.2]at e;cases e)).2⟩
 ·by_cases z0:a∈m0
  ·exact ho i po a e1 e2 z0
  ·refine(I.obj i po a (hk i po a e1 e2 z0) e2).on y.fz (fun _ e=>e) (fun _ _ e=>e) (fun b o e z=>?_) fun n=>?_
   ·cases n:w.F b with
    |some x=>rw[I.sub b x n]at e;cases e;exact H.sub b _ (y.fz _ _ n)
    |none=>exact(k' b o e n (z.elim (fun z=>z▸z0) no) (nf fun y=>z.elim (fun z=>y.1 (z▸acj e2)) fun z=>by rw[y.2.2]at z;cases z)).1
   ·obtain⟨o,q⟩:=I.toHR.there (acj e2);exact(k' a o q n z0 (nf fun y=>y.1 (acj e2))).2
theorem Nw.show{Y:Cx}(I:Wd X w h)(nw:New X Y w)(y:Q0 Y ⟨w.F,fun _=>none,[],w.s⟩ w1)(H:HR X.toSC w1 h1):Nw X w ⟨w1.F,w.O,w.m,w1.s⟩ h:=Nw.back I (NZ.out (w:=⟨w.F,fun _=>none,[],w.s⟩) nw y) H rfl (by simp) (fun _ _ _ _ _ z=>absurd z (by simp)) fun _ _ _ e _ _=>e
theorem GF(F:Vh G.K name qual st f fd)(S:mD N ps (aX st))(hb:∀(X:Cx)(cd:Value)(A:Around)(s:Shared),X.toSC=G->fm k (A.deeper (envOfC qual (aX st) s.heap.objs.size f cd))->S5 (kt true X N qual (aX st) f cd A s) (iF st) g):TQ G (k+1) f fd ps (bz g ps.length N.length) where
 len qs v e:=by
  unfold bz at e
  split at e
  ·assumption
  ·cases e
 run {X w h A qs us v args Q E} hG hr hd hf I ok r e hbd q:=by
  subst hG;unfold bz at e
  split at e
  ·rename_i hl;refine pK (c:=true) (w:=⟨w.F,fun _=>none,[],w.s⟩) F S hr (fun _=>hd) hf I.hide ok hl r hbd fun cd s1 XH nw y J _=>?_
   have ends:∀{w2:Wo}{h2 h3:List PO}{p:PV}{u:Value},Q0 (kt true X N qual (aX st) f cd A w.s) { F:=w.F,O:=fun _=>none,m:=[],s:=s1 } w2->HR X.toSC w2 h2->bq X.toSC w2.F w2.m p u->gQ h2 p=some (v,h3)->Q u w2.s:=fun{w2 h2 h3 p u} y2 H2 r2 e2=>by obtain⟨F',n,r3,pu⟩:=H2.Wc (X:=kt true X N qual (aX st) f cd A w.s) r2 e2;exact q F' w2.s u (Nw.show I nw (NZ.trans (y.weak (fun _ z=>z.elim) fun b z=>acg _ z) (y2.trans n.s)) n.2) (r3.mono (fun _ _ e=>e) (.inl pu))
   refine ac5 ((hb X cd A w.s rfl XH).r (E:=fun _ _=>False) J ?_) (fun _ _ z=>z) fun _ _ z=>z.elim;unfold st0
   split at e<;>rename_i e'<;>first|rw[e']|skip
   ·cases e
    exact⟨.never,fun w2 y2 I2=>ends y2 I2.toHR .non (h3:=_) rfl⟩
   ·unfold gA at e
    split at e<;>cases e
    exact⟨.never,fun w2 u ρ2 y2 I2 r2=>ends y2 I2.toHR r2 ‹_›⟩
   ·cases e
  ·cases e
theorem HR.Qk:∀{ps qs:List PV}{us:List Value}{w:Wo}{h h':List PO},HR X.toSC w h->aB X.toSC w.F w.m ps us->Qk ps h=some (qs,h')->∃F',Nw X w ⟨F',w.O,w.m,w.s⟩ h'/\aB X.toSC F' [] qs us
 |[],_,_,w,_,_,H,.nil,k=>by cases k;exact⟨w.F,⟨.refl,H⟩,.nil⟩
 |p::ps,qs,_,w,h,h',H,.cons r t,k=>by
  unfold L3.Qk at k
  split at k
  ·rename_i e;obtain⟨F1,n1,r1,pu⟩:=H.Wc (X:=X) r e
   split at k<;>cases k
   rename_i e2;obtain⟨F2,n2,r2⟩:=HR.Qk n1.2 (n1.1.reps t) e2;exact⟨F2,n1.trans n2,.cons (r1.mono n2.1.fz (.inl pu)) r2⟩
  ·cases k
structure ZC(X:Cx)(x:Str)(fn:List PV->L3.Out):Prop where
 ex:∃k f fd ps,TQ X.toSC k f fd ps fn/\fm k X.A/\X.mg x=some (.ref f)/\W.keepIn X.K (.ref f)=true/\jM X.K fd ps []
variable{x:Str}{e:Expr}{es:List Expr}{p0 pos:Pos}{fs:Ax}{fn:List PV->L3.Out}
theorem TQ.call{qs:List PV}{us:List Value}{Q:Value->Shared->Prop}{E:Value->Shared->Prop}(F:TQ X.toSC k f fd ps fn)(hr:fm k X.A)(hc:X.calm=true)(hb:jM X.K fd ps [])(I:Inv X w ρ h)(r:aB X.toSC w.F w.m qs us)(p:bM X (RV X.toSC) w Q E (bO fn qs h)):Wp X (call (.ref f) us) Q E w.s:=by
 unfold bO at p
 split at p
 ·rename_i e1
  split at p
  ·rename_i qs' h2 v e2;obtain⟨F',n,r'⟩:=I.toHR.Qk r e1;have I':=I.on n;refine ae5 (F.run (w:=⟨F',w.O,w.m,w.s⟩) rfl hr (I.ok.hd hc) I.ok.frames I'.toWd I'.ok r' e2 (by simpa using hb w.s us I.QK (by rw[acH,<- r'.length];exact F.len _ _ e2)) fun F2 s2 u n2 r2=>?_);exact p.2 _ _ (n.trans n2) (r2.mono (fun _ _ e=>e) (.inr fun _ _ e=>nomatch e))
  ·exact p.elim
 ·exact p.elim
theorem Ff(c:ZC X x fn)(hg:Gl X x)(ha:RA X (e::es) fs)(hc:X.calm=true:=by rfl)(P0:nD0 x:=by decide)(he:sE0 X e es:=by rfl)(Ov:sP0 X es pos:=by rfl):RE X (.Call (.Name x p0) (e::es) [] pos) (bG fn fs):=⟨fun I p=>by obtain⟨k,f,fd,ps,F,hr,hm,hk,hb⟩:=c.ex;exact acY (I.Uv hg hm (aeO (h₀:=X.base) I.ok.Qs hk (ha.r pos I (p.bind fun _ _ _ _ y r p=>⟨(I.on y).QK,F.call hr hc hb (I.on y) r p⟩)) he Ov) P0)⟩
end
end Z
namespace L2
open PySem PySem.Spec PyProof.Rows
noncomputable def eZ(cells:List (Str×Addr)):List (Str×NameKind)->List (Str×Addr)->List (Str×Addr)
 |[],cs=>cs
 |(n,k)::r,cs=>eZ cells r (if k==.free then(match cells.lookup n with|some a=>(n,a)::cs|none=>cs)else cs)
theorem ua(cells:List (Str×Addr)):∀(l:List (Str×NameKind))(cs:List (Str×Addr))(p:Str×Addr),p∈eZ cells l cs->p∈cs\/(cells.lookup p.1=some p.2/\(p.1,NameKind.free)∈l)
 |[],cs,p,h=>.inl h
 |(n,k)::r,cs,p,h=>by
  unfold eZ at h;rcases ua cells r _ p h with q|⟨q1,q2⟩
  ·by_cases hk:k=.free
   ·subst hk;simp only[beq_self_eq_true,if_true]at q
    cases e:cells.lookup n with
    |none=>rw[e]at q;exact .inl q
    |some a=>
     rw[e]at q;rcases acn.mp q with rfl|q
     ·exact .inr ⟨e,acv⟩
     ·exact .inl q
   ·have hb:(k==NameKind.free)=false:=by simpa using hk
    simp only[hb,aej,if_false]at q;exact .inl q
  ·exact .inr ⟨q1,acg _ q2⟩
theorem tZ(cells:List (Str×Addr)):∀(l:List (Str×NameKind))(cs:List (Str×Addr))(p:Str×Addr),p∈cs->p∈eZ cells l cs
 |[],_,_,h=>h
 |(n,k)::r,cs,p,h=>by
  unfold eZ;refine tZ cells r _ p ?_
  split
  ·split
   ·exact acg _ h
   ·exact h
  ·exact h
theorem ub(cells:List (Str×Addr)){x:Str}{c:Addr}(hc:cells.lookup x=some c):∀(l:List (Str×NameKind))(cs:List (Str×Addr)),(x,NameKind.free)∈l->(x,c)∈eZ cells l cs
 |(n,k)::r,cs,h=>by
  unfold eZ;rcases acn.mp h with e|h
  ·cases e
   refine tZ cells r _ _ ?_;simp only[beq_self_eq_true,if_true,hc];exact acv
  ·exact ub cells hc r _ h
theorem mI{x:Str}{c:Addr}:∀{l:List (Str×Addr)},(x,c)∈l->∃c',l.lookup x=some c'
 |(y,d)::r,h=>by
  by_cases e:x=y
  ·subst e;exact⟨d,by simp[adk]⟩
  ·have hb:(x==y)=false:=by simpa using e
   rw[adk,hb];rcases acn.mp h with q|q
   ·cases q;exact absurd rfl e
   ·exact mI q
theorem nj{cells:List (Str×Addr)}{l:List (Str×NameKind)}{x:Str}{c:Addr}(h:(eZ cells l []).lookup x=some c):cells.lookup x=some c/\(x,NameKind.free)∈l:=by
 rcases ua cells l [] (x,c) (adC h)with q|q
 ·cases q
 ·exact q
theorem xp{cells:List (Str×Addr)}{l:List (Str×NameKind)}{x:Str}{c:Addr}(hc:cells.lookup x=some c)(h:(x,NameKind.free)∈l):(eZ cells l []).lookup x=some c:=by obtain⟨c',e⟩:=mI (ub cells hc l [] h);rw[e,<- hc,(nj e).1]
theorem jw{scope:Scope}{env:Env}(h:∀n,(n,NameKind.free)∈scope.names->∃c,env.cells.lookup n=some c):closureFor scope env=pure (eZ env.cells scope.names []):=by
 unfold closureFor
 have go:∀(l:List (Str×NameKind))(cs:List (Str×Addr)),(∀n,(n,NameKind.free)∈l->∃c,env.cells.lookup n=some c)->
   (forIn l cs fun x r=>if(x.2==NameKind.free)=true then do let a <- cellOf env x.1;pure (ForInStep.yield ((x.1,a)::r))else pure (ForInStep.yield r):Sem (List (Str×Addr)))=pure (eZ env.cells l cs):=by
  intro l
  induction l with
  |nil=>intro cs _;rfl
  |cons x r ih=>
   intro cs hl;obtain⟨n,k⟩:=x;rw[adE];have hr:∀n,(n,NameKind.free)∈r->∃c,env.cells.lookup n=some c:=fun y hy=>hl y (acg _ hy)
   by_cases hk:k=.free
   ·subst hk;obtain⟨c,hc⟩:=hl n acv;have e:cellOf env n=pure c:=by unfold cellOf;rw[hc]
    simp only[beq_self_eq_true,if_true,e,pure_bind,eZ,hc];exact ih _ hr
   ·have hb:(k==NameKind.free)=false:=by simpa using hk
    simp only[hb,aej,if_false,pure_bind,eZ];exact ih _ hr
 have q:=go scope.names [] h;simp only[bind_pure];exact q
theorem jY{env:Env}{x:Str}:∀{names:List (Str×NameKind)},(∀y∈names,y.2≠.cell)->∀{k:NameKind},
  (names.map fun(n,k)=>if(k==NameKind.free&&env.scope.kind==.function&&env.kindOf n==some .cell)then(n,NameKind.cell)else(n,k)).lookup x=some k->k=.cell\/k=.free->(x,NameKind.free)∈names
 |[],_,_,h,_=>by simp at h
 |(n,k0)::r,hn,k,h,hk=>by
  have ih:= @jY env x r (fun y hy=>hn y (acg _ hy)) k;rw[ab7]at h
  by_cases hc:(k0==NameKind.free&&env.scope.kind==.function&&env.kindOf n==some .cell)=true
  ·have h2:List.lookup x ((n,NameKind.cell)::r.map fun(n,k)=>if(k==NameKind.free&&env.scope.kind==.function&&env.kindOf n==some .cell)then(n,NameKind.cell)else(n,k))=some k:=by have q:=h;simp only[hc,if_true]at q;exact q
   have hf:k0=.free:=by
    have z:(k0==NameKind.free)=true:=by
     cases e:(k0==NameKind.free)with
     |true=>rfl
     |false=>rw[e]at hc;simp at hc
    simpa using z
   by_cases e:x=n
   ·subst e;subst hf;exact acv
   ·have hb:(x==n)=false:=by simpa using e
    rw[adk,hb]at h2;exact acg _ (ih h2 hk)
  ·have h2:List.lookup x ((n,k0)::r.map fun(n,k)=>if(k==NameKind.free&&env.scope.kind==.function&&env.kindOf n==some .cell)then(n,NameKind.cell)else(n,k))=some k:=by have q:=h;simp only[hc,if_false]at q;exact q
   by_cases e:x=n
   ·subst e;rw[adk,beq_self_eq_true]at h2;have e2:k0=k:=adD h2;subst e2;rcases hk with z|z
    ·exact absurd z (hn (x,k0) acv)
    ·subst z;exact acv
   ·have hb:(x==n)=false:=by simpa using e
    rw[adk,hb]at h2;exact acg _ (ih h2 hk)
theorem nJ{env:Env}{x:Str}:∀{names:List (Str×NameKind)},names.lookup x=some .free->
  (names.map fun(n,k)=>if(k==NameKind.free&&env.scope.kind==.function&&env.kindOf n==some .cell)then(n,NameKind.cell)else(n,k)).lookup x=some .cell\/
  (names.map fun(n,k)=>if(k==NameKind.free&&env.scope.kind==.function&&env.kindOf n==some .cell)then(n,NameKind.cell)else(n,k)).lookup x=some .free
 |[],h=>by simp at h
 |(n,k)::r,h=>by
  have ih:= @nJ env x r;show List.lookup x ((if(k==NameKind.free&&env.scope.kind==.function&&env.kindOf n==some .cell)=true then(n,NameKind.cell)else(n,k))::_)=_\/List.lookup x ((if(k==NameKind.free&&env.scope.kind==.function&&env.kindOf n==some .cell)=true then(n,NameKind.cell)else(n,k))::_)=_
  by_cases hc:(k==NameKind.free&&env.scope.kind==.function&&env.kindOf n==some .cell)=true
  ·rw[if_pos hc]
   cases hx:x==n with
   |true=>left;simp[adk,hx]
   |false=>simp only[adk,hx]at h |-;exact ih h
  ·rw[if_neg hc]
   cases hx:x==n with
   |true=>
    simp only[adk,hx]at h
    right;simp[adk,hx,h]
   |false=>simp only[adk,hx]at h |-;exact ih h
theorem vw{prog:Program}{w:World}{A:Around}{R:Result->Shared->Prop}{s:Shared}{elt target iter:Expr}{ifs:List Expr}{scope:Scope}{pos:Pos}{it acc:Value}{env:Env}(I:Nat->Shared->Prop)
  (turn:∀n s,I n s->wpAny (model prog w) A (pyNext it) (fun r s₁=>match r with
   |none=>R (.ok .next) s₁
   |some v=>wpAny (model prog w) A (letOwnedTupleGo target it v) (fun _ s₂=>wpAny (model prog w) A (assign target env v) (fun _ s₃=>
     wpAny (model prog w) A (forIn ifs true fun c r=>if r=true then do let ok <- isTrue c env (eval c env);pure (ForInStep.yield ok)else pure (ForInStep.yield r)) (fun ok s₄=>
      if ok=true then wpAny (model prog w) A (eval elt env) (fun x s₅=>wpAny (model prog w) A (call (.builtin "list.append") [acc,x]) (fun _ s₆=>∃m,m<n/\I m s₆) (fun _ _=>False) s₅) (fun _ _=>False) s₄
      else∃m,m<n/\I m s₄) (fun _ _=>False) s₃) (fun _ _=>False) s₂) (fun _ _=>False) s₁) (fun _ _=>False) s)
  (n:Nat) (h:I n s):
  codeAny (model prog w) A (.compLoop (.ListComp elt [⟨target,iter,ifs,0⟩] scope pos) 0 it acc env) R s:=by
 refine codeAny_loop rfl I (fun n s hI=>?_) n h;show wpAny _ A ((compTurn (.ListComp elt [⟨target,iter,ifs,0⟩] scope pos) 0 it acc env).onRaise (fun x=>do noteFrame x env;theTreesLotGoes x)) _ _ s;refine wpAny_noted ?_;rw[compTurn_list];refine ab6 (ae7 (ab6 (ac5 (turn n s hI) (fun r s₁ h₁=>?_) fun _ _ h'=>h'.elim)))
 cases r with
 |none=>exact ach h₁
 |some v=>
  refine ab6 (ac5 h₁ (fun _ s₂ h₂=>ab6 (ac5 h₂ (fun _ s₃ h₃=>ab6 (ac5 h₃ (fun ok s₄ h₄=>?_) fun _ _ h'=>h'.elim)) fun _ _ h'=>h'.elim)) fun _ _ h'=>h'.elim)
  cases ok with
  |false=>exact ach ⟨rfl,h₄⟩
  |true=>exact ab6 (ab6 (ac5 h₄ (fun x s₅ h₅=>ab6 (ac5 h₅ (fun _ s₆ h₆=>ach (ach ⟨rfl,h₆⟩)) fun _ _ h'=>h'.elim)) fun _ _ h'=>h'.elim))
end L2
namespace L3
open PySem
noncomputable def Res.calm{α:Type}(r:Res α):Res α:=match r with
 |.exc _ _=>.bad
 |r=>r
noncomputable def dj(m8:List Nat)(ρ:Ev):Ev:=m8.map fun i=>(ρ[i]?).getD none
def eS(g:Gx)(tt:Tx)(te:Ex)(ρ0:Ev):List PV->List PO->Res (List PV)
 |[],h=>.ok [] h
 |p::r,h=>match g p ρ0 with
  |some ρ1=>(tt ρ1 h).bind fun b h1=>if b=true then(te ρ1 h1).bind fun v h2=>(eS g tt te ρ0 r h2).bind fun vs h3=>.ok (v::vs) h3 else eS g tt te ρ0 r h1
  |none=>.bad
def gT(n:Nat)(g:Gx)(m8:List Nat)(it:Ax)(tt:Tx)(te:Ex):Ax:=fun ρ h=>(it ρ h).bind fun xs h1=>if xs.length<sizeLine then(eS g tt te (List.replicate n none++dj m8 ρ) xs h1).calm else .bad
noncomputable def cV:Tx:=fun _ h=>.ok true h
noncomputable def Qu(ps:List PV)(h:List PO):Res PV:=.ok (.lst ps) h
noncomputable def wL(ps:List PV)(h:List PO):Res PV:=.ok (.ref h.length) (h++ [.lst ps])
end L3
namespace Z
open PySem PySem.Spec PyProof.Rows L3 L2
structure cI(N:List Str)(Ur scope:Scope)(m8:List Nat)(vs M:List Str):Prop where
 kind:scope.kind=.function
 R8:∀y∈scope.names,y.2≠.cell
 names:∀y∈scope.names,y.2=.local->scope.names.lookup y.1=some .local
 free:∀y∈scope.names,y.2=.free->Ur.names.lookup y.1=some .cell\/Ur.names.lookup y.1=some .free
 inN:M=vs++m8.map fun i=>N.getD i ""
 cap:∀i∈m8,i<N.length/\scope.names.lookup (N.getD i "")=some .free
 nd:M.Nodup
noncomputable def Ac(N:List Str)(Ur scope:Scope)(m8:List Nat)(vs M:List Str):Bool:=
 decide (scope.kind=.function)&&decide (∀y∈scope.names,y.2≠.cell)&&decide (∀y∈scope.names,y.2=.local->scope.names.lookup y.1=some .local)
  &&decide (∀y∈scope.names,y.2=.free->Ur.names.lookup y.1=some .cell\/Ur.names.lookup y.1=some .free)&&decide (M=vs++m8.map fun i=>N.getD i "")
  &&decide (∀i∈m8,i<N.length/\scope.names.lookup (N.getD i "")=some .free)&&decide M.Nodup
theorem cI.of{N:List Str}{Ur scope:Scope}{m8:List Nat}{vs M:List Str}(h:Ac N Ur scope m8 vs M=true):cI N Ur scope m8 vs M:=by unfold Ac at h;simp only[ab5,decide_eq_true_eq]at h;obtain⟨⟨⟨⟨⟨⟨a,b⟩,c⟩,d⟩,e⟩,f⟩,g⟩:=h;exact⟨a,b,c,d,e,f,g⟩
noncomputable def cH(X:Cx)(M:List Str)(scope:Scope)(cl:List (Str×Addr))(C:Addr):Cx:={ X with N:=M,env:=compEnvC scope cl C X.env,fn:=fun _=>false,Ep:=fun _=>True }
structure Um(X:Cx)(ifs:List Expr)(f:Tx):Prop where
 r:∀{w:Wo}{ρ:Ev}{h:List PO}{Q:Bool->Shared->Prop}{E:Value->Shared->Prop},Inv X w ρ h->bM X (fun _ a b=>a=b) w Q E (f ρ h)->Wp X (forIn ifs true fun c r=>if r=true then do let ok <- isTrue c X.env (eval c X.env);pure (ForInStep.yield ok)else pure (ForInStep.yield r)) Q E w.s
section
variable{X:Cx}{w w1 w2:Wo}{ρ:Ev}{h:List PO}{c:Expr}{f:Tx}
theorem gK:Um X [] cV:=⟨fun I p=>wpAny_tests_nil (p.here I.toHR rfl)⟩
theorem uK(ha:RT X c f):Um X [c] f:=⟨fun I p=>wpAny_tests_one (ha.r I p)⟩
theorem NZ.new{fs:List Addr}{W W':Addr->Prop}(x:NZ fs W w w1)(y:NZ fs W' w1 w2)(n:∀b,W' b->w.s.heap.get? b=none):NZ fs W w w2:=
 ⟨y.os.trans x.os,y.ba∘x.ba,fun a o e=>y.fz a o (x.fz a o e),fun a o e=>y.ow a o (x.ow a o e),let⟨t,e⟩:=x.pre;let⟨u,e'⟩:=y.pre;⟨t++u,by rw[e',e,acG]⟩,fun b o e=>let⟨o',q⟩:=x.dom b o e;y.dom b o' q,fun b o q z=>by
  obtain⟨sl,q1,z1⟩:=x.keep b o q z;obtain⟨Vl,q2,z2⟩:=y.keep b _ q1 fun z=>by have q:=q.1;rw[n b z]at q;cases q
  exact⟨Vl,q2,z1.elim .inl fun z=>z2.imp_right fun z'=>z'.trans z⟩⟩
theorem yv{M:List Str}{scope:Scope}{m8:List Nat}{vs:List Str}{C:Addr}{m:Str->Option Value}{s1:Shared}(S:cI X.N X.env.scope scope m8 vs M)(I:Inv X w ρ h)(hC:w.s.heap.get? C=none)(k:∀b o,w.s.heap.get? b=some o->s1.heap.get? b=some o)(hn:s1.heap.Ns C m)(ho:s1.os=w.s.os)(hg:s1.gens=w.s.gens):
  Inv (cH X M scope (eZ X.env.cells scope.names []) C) { w with s:=s1 } (List.replicate vs.length none++dj m8 ρ) h:=by
 have n:=Nw.also (X:=X) (s':=s1) I.toHR k ho hg;have J:=I.on n;have c0:∀y c,(eZ X.env.cells scope.names []).lookup y=some c->X.env.cells.lookup y=some c:=fun y c h=>(nj h).1;obtain⟨m0,_,_,_,l⟩:=J.loc;obtain⟨oC,es,ep,eC,_⟩:=id hn;refine⟨⟨J.toHR,J.ba,J.bs,J.fr⟩,⟨I.ok.Qs,I.ok.gl,I.ok.bl,I.ok.nl,S.kind,I.ok.glob,I.ok.blt,fun y z c h1 h2=>I.ok.inj y z c (c0 _ _ h1) (c0 _ _ h2),fun y hy=>?_,I.ok.hd,I.ok.frames,S.nd,I.ok.sf⟩,⟨m,oC,hn,⟨eC,I.toHR.free hC⟩,fun i p e=>?_⟩,fun y c e=>J.R3 y c (c0 y c e),?_⟩
 ·have hm:(y,NameKind.free)∈scope.names:=by
   rcases hy with h|h
   ·exact jY S.R8 h (.inl rfl)
   ·exact jY S.R8 h (.inr rfl)
  obtain⟨c,hc⟩:=I.ok.has y (S.free _ hm rfl);exact⟨c,xp hc hm⟩
 ·have hi:vs.length<=i:=by
   rcases ad6 i vs.length with z|z
   ·rw[acA (by simpa using z)]at e;simp[aeL]at e
   ·exact z
  rw[acP (by simpa using hi),ae1]at e;simp only[dj,acJ]at e
  cases e1:m8[i - vs.length]? with
  |none=>rw[e1]at e;cases e
  |some k=>
   rw[e1]at e;obtain⟨c1,c2⟩:=S.cap k (acj e1)
   have e2:ρ[k]? =some (some p):=by
    simp only[agj,ag2]at e
    cases q:ρ[k]? with
    |none=>rw[q]at e;cases e
    |some v=>rw[q]at e;simp at e;rw[e]
   obtain⟨y,u,e3,r,l⟩:=l k p e2;have e4:X.N.getD k ""=y:=by rw[acy,e3];rfl
   rw[e4]at c2;refine⟨y,u,?_,r,?_⟩
   ·show M[i]? =some y;rw[S.inN,acP hi,acJ,e1,<- e4];rfl
   ·have hm:(y,NameKind.free)∈scope.names:=adC c2;rcases l with⟨k1,_⟩|⟨k1,c,e5,q⟩
    ·rcases S.free _ hm rfl with z|z<;>(rw[show X.env.scope.names.lookup y=some .local from k1]at z;cases z)
    ·exact .inr ⟨nJ c2,c,xp e5 hm,q⟩
 ·show _=M.length;rw[S.inN];simp[dj]
theorem Inv.weak{ρ':Ev}(I:Inv X w ρ h)(l:ρ'.length=ρ.length)(k:∀(i:Nat) p,ρ'[i]? =some (some p)->ρ[i]? =some (some p)):Inv X w ρ' h:=let⟨m,o,a,b,c⟩:=I.loc;⟨I.toWd,I.ok,⟨m,o,a,b,fun i p e=>c i p (k i p e)⟩,I.R3,l.trans I.ln⟩
def Uy(K:List PV->List PO->Prop):Res (List PV)->Prop
 |.ok vs h=>K vs h
 |_=>False
theorem uc{α:Type}{K:List PV->List PO->Prop}{r:Res α}{k:α->List PO->Res (List PV)}(p:Uy K (r.bind k).calm):∃a h,r=.ok a h/\Uy K (k a h).calm:=match r with
 |.ok a h=>⟨a,h,rfl,p⟩
 |.exc _ _=>p.elim
 |.bad=>p.elim
inductive Cq0(X Y:Cx)(w0 w:Wo)(tn:Nat->Heap->Prop)(fp:List Addr)(xs:List PV)(ρ:Ev)(D:Addr)(K:List PV->List PO->Prop)(g:Gx)(tt:Tx)(te:Ex)(n:Nat)(s:Shared):Prop where
 |mk (w1:Wo)(h2:List PO)(acc:List PV)(h_:Array Value)(ys:List PV)(_:w1.s=s)(_:NZ X.fs Rg w0 w1)(_:Rn w w1)(_:Inv Y w1 ρ h2)(_:ys.length=n)(_:n<=xs.length)(_:ys=xs.drop (xs.length - n))(_:tn (xs.length - n) w1.s.heap)(_:∀b∈fp,∃o,Has w1 b o)(_:w1.s.heap.PlainList D h_)(_:Ro w1 D)(_:aB X.toSC w1.F w1.m acc h_.toList)(_:h_.size+n<sizeLine)(_:Uy (fun vs h3=>K (acc++vs) h3) (eS g tt te ρ ys h2).calm)
theorem pJ{elt iter tg:Expr}{ifs:List Expr}{scope:Scope}{tt:Tx}{te:Ex}{M vs:List Str}{g:Gx}{pos:Pos}{use:Option (Value->Sem Unit)}{w0 w:Wo}{h1:List PO}{ρ:Ev}{xs:List PV}{v:Value}{Q:Value->Shared->Prop}{E:Value->Shared->Prop}{K:List PV->List PO->Prop}(m8:List Nat)(hc:X.calm=true)(S:cI X.N X.env.scope scope m8 vs M)(hg:∀cl C,RG (cH X M scope cl C) tg g)(ht:∀cl C,Um (cH X M scope cl C) ifs tt)(he:∀cl C,RE (cH X M scope cl C) elt te)
  (gm:∀q cp ρ1,g q (List.replicate vs.length none++cp)=some ρ1->∃l,l.length=vs.length/\ρ1=l++cp) (I0:Inv X w0 ρ h) (y0:Nw X w0 w h1) (rr:R5 X tg w0 w xs v) (hz:xs.length<sizeLine) (p:Uy K (eS g tt te (List.replicate vs.length none++dj m8 ρ) xs h1).calm)
  (hr:∀{w2:Wo}{h2:List PO}{ps:List PV}{h_:Array Value}{D C:Addr}{oC:Obj}{m:Str->Option Value},NZ X.fs Rg w0 w2->HR X.toSC w2 h2->w0.s.heap.get? D=none->w0.s.heap.get? C=none->D≠C->Has w2 C oC->w2.s.heap.Ns C m->w2.s.heap.PlainList D h_->Ro w2 D->aB X.toSC w2.F w2.m ps h_.toList->h_.size<=sizeLine->K ps h2->compPost (model X.prog X.w) X.A E use Q (.ref D) C (.ok .next) w2.s):
  Wp X (newList []) (fun acc s=>Wp X (newFunctionEnv scope X.env.globals (eZ X.env.cells scope.names []) [] X.env.qual none .none (some X.env)) (fun Wj s=>codeAny (model X.prog X.w) X.A (.compStart (.ListComp elt [⟨tg,iter,ifs,0⟩] scope pos) 0 v acc { Wj with scope:=relabel scope X.env }) (compPost (model X.prog X.w) X.A E use Q acc Wj.locals) s) E s) E w.s:=by
  obtain⟨it,fp,tn,rfl,T,t0,fr⟩:=rr;have I:=I0.on y0
  ·refine adw (wpAny_newFunctionEnv S.R8 (by intro y hy;simp at hy) (fun h₁ Ui W0=>?_) S.kind);dsimp only at Ui W0 |-;generalize hP:w.s.heap.push { cls:=.type "list",dict:=none,data:=.seq ([]:List Value).toArray }=P at Ui W0 |-;have zP:P.objs.size=w.s.heap.objs.size+1:=by rw[<- hP,adB]
   have ne:∀{b},b<w.s.heap.objs.size+1->b≠P.objs.size:=fun z e=>by rw[e,zP]at z;exact absurd z (adW _)
   have old:∀b o,w.s.heap.get? b=some o->h₁.get? b=some o:=fun b o e=>W0.extBut b o (ne (adP (acI e))) (acf _ (hP▸acf _ e));have DC:w.s.heap.objs.size≠P.objs.size:=ne (adJ _);have eD:h₁.PlainList w.s.heap.objs.size #[]:=⟨_,W0.extBut _ _ DC (acf _ (hP▸acq _ rfl))⟩
   have nC:w.s.heap.get? P.objs.size=none:=by
    cases q:w.s.heap.get? P.objs.size with
    |none=>rfl
    |some o=>exact absurd rfl (ne (adP (acI q)))
   have n0:∀{b},w.s.heap.get? b=none->w0.s.heap.get? b=none:=fun{b} z=>by
    cases q:w0.s.heap.get? b with
    |none=>rfl
    |some o=>obtain⟨o',q'⟩:=y0.1.dom b o q;rw[z]at q';cases q'
   have nD:=bj w.s.heap;have nf:∀b∈fp,w0.s.heap.get? b=none:=fun b hb=>(fr b hb).2.2;have J:=yv S I nC old Ui (s1:={ w.s with heap:=h₁,toks:=w.s.toks+([]:List (Str×Value)).length }) rfl rfl;have n1:=Nw.also (X:=X) (s':={ w.s with heap:=h₁,toks:=w.s.toks+([]:List (Str×Value)).length }) I.toHR old;generalize hY:cH X M scope (eZ X.env.cells scope.names []) P.objs.size=Y at J;have ZW:Y.fs=X.fs:=by rw[<- hY];rfl
   have apt:∀b,TV X b->b≠P.objs.size->TV Y b:=fun b a z=>by subst hY;exact⟨z,a.2.1,fun x c e=>a.2.2 x c (nj e).1⟩
   have aD:TV Y w.s.heap.objs.size:=apt _ (I.out nD) DC;have aF:∀b∈fp,TV Y b:=fun b hb=>apt b (fr b hb).2.1 (let⟨o,q⟩:=(fr b hb).1;ne (adP (acI q.1)));have dF:w.s.heap.objs.size∉fp:=fun z=>let⟨o,q⟩:=(fr _ z).1;absurd (acI q.1) (adW _)
   have loop:codeAny (model X.prog X.w) X.A (.compLoop (.ListComp elt [⟨tg,iter,ifs,0⟩] scope pos) 0 (.ref it) (.ref w.s.heap.objs.size) (compEnvC scope (eZ X.env.cells scope.names []) P.objs.size X.env)) (compPost (model X.prog X.w) X.A E use Q (.ref w.s.heap.objs.size) P.objs.size) { w.s with heap:=h₁,toks:=w.s.toks+([]:List (Str×Value)).length }:=by
    refine vw (Cq0 X Y w0 w tn fp xs (List.replicate vs.length none++dj m8 ρ) w.s.heap.objs.size K g tt te) ?_ xs.length ⟨_,h1,[], #[],xs,rfl,y0.1.trans n1.1,n1.1.lat,J,rfl,ab8 _,by simp,?_,fun b hb=>?_,eD,I.toHR.free nD,.nil,by simpa using hz,p⟩
    ·rintro n s ⟨w1,h2,acc,h_,ys,rfl,y1,l1,I1,ln,le,dr,t1,f1,d1,Z4,ra,z1,p1⟩
     subst hY
     cases ys with
     |nil=>
      cases ln
      refine ac5 (T.done (I.ok.hd hc) l1 I1.toHR t1 (by simp) f1 (Q:=fun s=>compPost (model X.prog X.w) X.A E use Q (.ref w.s.heap.objs.size) P.objs.size (.ok .next) s) fun w2 y2 H2=>?_) (fun r s q=>by obtain⟨rfl,q⟩:=q;exact q) fun _ _ z=>z;obtain⟨m,o,n,hl,_⟩:=(I1.priv y2 H2 aF).loc;obtain⟨nn,e1⟩:=d1;have q:=y2.keep _ _ dF ⟨e1,Z4⟩;exact hr (y1.priv y2 nf) H2 (n0 nD) (n0 nC) DC hl n ⟨nn,q.1⟩ q.2 (ra.mono y2.fz (.inr y2.sub)) (by omega) (by simpa[eS,Res.calm,Uy]using p1)
     |cons q ys=>
      have ln':ys.length+1=n:=ln;have eq:xs[xs.length - n]? =some q:=by rw[<- afm,<- dr];rfl
      have dy:ys=xs.drop (xs.length - ys.length):=by rw[show xs.length - ys.length=xs.length - n+1 by omega,<- afC,<- dr];rfl
      unfold eS at p1
      split at p1
      ·rename_i ρ2 e2;obtain⟨b,h3,e3,p3⟩:=uc p1;refine ac5 (T.item (I.ok.hd hc) l1 I1.toHR t1 eq f1 (Q:=fun u s=>wpAny (model X.prog X.w) X.A (assign tg (compEnvC scope (eZ X.env.cells scope.names []) P.objs.size X.env) u) ?R ?N s) ?c) (fun r s q=>by obtain⟨u,rfl,q⟩:=q;exact q) fun _ _ z=>z;intro u w2 y2 H2 t2 f2 r2;refine(hg _ _).r (I1.priv y2 H2 aF) r2 e2 fun w3 y3 I3=>(ht _ _).r I3 ?_;rw[e3];refine⟨trivial,fun w4 b' y4 eb=>?_⟩;subst eb;obtain⟨l,ll,rfl⟩:=gm _ _ _ e2;have YF:NZ X.fs Rg w0 w4:=NZ.trans (NZ.new (y1.priv y2 nf) y3 fun b z=>n0 (z.elim (fun z=>z▸nC) (by rintro ⟨_,z,_⟩;exact nomatch z))) y4.1;have l4:Rn w w4:=(l1.trans ⟨y2.fz,y2.sub⟩).trans (y3.lat.trans y4.1.lat)
       have k4:∀b,TV (cH X M scope (eZ X.env.cells scope.names []) P.objs.size) b->∀o,Has w2 b o->Has w4 b o:=fun b a o q=>by
        obtain⟨sl,q',z⟩:=(y3.trans y4.s).keep b o q a.w;rcases z with z|rfl
        ·exact absurd z a.2.1
        ·exact q'
       have D2:∀nn,w1.s.heap.get? w.s.heap.objs.size=some { cls:=.type "list",data:=.seq h_ nn }->Has w4 w.s.heap.objs.size { cls:=.type "list",data:=.seq h_ nn }:=fun nn e=>k4 _ aD _ (y2.keep _ _ dF ⟨e,Z4⟩);obtain⟨nn,e1⟩:=d1;have D4:=D2 nn e1
       have go:∀w5 h5 Sh O4,NZ X.fs Rg w0 w5->Rn w w5->Inv (cH X M scope (eZ X.env.cells scope.names []) P.objs.size) w5 (l++dj m8 ρ) h5->(∀b∈fp,∀o,Has w2 b o->Has w5 b o)->Rn w2 w5->w5.s.heap.PlainList w.s.heap.objs.size O4->Ro w5 w.s.heap.objs.size->aB X.toSC w5.F w5.m Sh O4.toList->O4.size<=h_.size+1->Uy (fun vs h3=>K (Sh++vs) h3) (eS g tt te (List.replicate vs.length none++dj m8 ρ) ys h5).calm->
         ∃m,m<n/\Cq0 X (cH X M scope (eZ X.env.cells scope.names []) P.objs.size) w0 w tn fp xs (List.replicate vs.length none++dj m8 ρ) w.s.heap.objs.size K g tt te m w5.s:=by
        intro w5 h5 Sh O4 a b c d l25 e f ra' i p;refine⟨ys.length,by omega,w5,h5,Sh,O4,ys,rfl,a,b,c.weak (by simp[ll]) fun i p e=>?_,rfl,by omega,dy,?_,fun x hx=>let⟨o,q⟩:=f2 x hx;⟨o,d x hx o q⟩,e,f,ra',by omega,p⟩
        ·rcases ad6 i vs.length with z|z
         ·rw[acA (by simpa using z)]at e;simp[aeL]at e
         ·rw[acP (by simpa using z),ae1]at e;rw[acP (by omega),ll];exact e
        ·rw[show xs.length - ys.length=xs.length - n+1 by omega];exact T.keep (l1.trans ⟨y2.fz,y2.sub⟩) H2 l25 c.toHR t2 fun b hb o e=>let⟨o',q⟩:=f2 b hb;(d b hb o ⟨e,q.2⟩).1
       have WR:Rn w2 w4:=y3.lat.trans y4.1.lat;have Zc:=ra.mono (y2.fz) (.inr y2.sub) |>.mono WR.1 (.inr WR.2)
       cases b with
       |false=>rw[if_neg (by decide)]at p3 |-;exact go w4 h3 acc h_ YF l4 (I3.on y4) (fun b hb=>k4 b (aF b hb)) WR ⟨nn,D4.1⟩ D4.2 Zc (by omega) p3
       |true=>
        rw[if_pos rfl]at p3 |-;obtain⟨v,h5,e5,p5⟩:=uc p3;refine(he _ _).r (I3.on y4) ?_;rw[e5];refine⟨trivial,fun w5 u5 y5 r5=>?_⟩
        have q5:∀b,TV (cH X M scope (eZ X.env.cells scope.names []) P.objs.size) b->∀o,Has w4 b o->Has w5 b o:=fun b a o q=>by
         obtain⟨sl,q',z⟩:=y5.1.keep b o q fun z=>z;rcases z with z|rfl
         ·exact absurd z a.2.1
         ·exact q'
        have D5:=q5 _ aD _ D4;refine wpAny_list_append_plain ⟨nn,D5.1⟩ (fun h' X3 VF=>?_) (by omega);obtain⟨a1,a2⟩:=oJ (s':={ w5.s with heap:=h',toks:=w5.s.toks }) y5.2 D5 fun b o z e=>(VF.2 b z).trans e;refine go _ h5 (acc++ [v]) (h_.push u5) ((YF.trans y5.1).priv a1 (by simp;exact n0 nD)) (l4.trans (y5.1.lat.trans ⟨a1.fz,a1.sub⟩)) (((I3.on y4).on y5).priv a1 a2 (by simp;exact aD)) (fun b hb o q=>a1.keep b o (by simp;rintro rfl;exact dF hb) (q5 b (aF b hb) o (k4 b (aF b hb) o q))) (WR.trans (y5.1.lat.trans ⟨a1.fz,a1.sub⟩)) X3 D5.2 ?_ (by simp) ?_
        ·rw[Array.toList_push];exact(Zc.mono y5.1.fz (.inr y5.1.sub)).app (.cons r5 .nil)
        ·revert p5;cases eS g tt te (List.replicate vs.length none++dj m8 ρ) ys h5<;>simp[Res.bind,Res.calm,Uy]
      ·exact p1.elim
    ·simpa using T.keep (⟨fun _ _ e=>e,fun _ _ e=>e⟩) I.toHR n1.1.lat n1.2 t0 fun b hb o e=>old b o e
    ·obtain⟨o,q⟩:=(fr b hb).1;exact⟨o,old b o q.1,q.2⟩
   exact codeAny_compStart_list loop (T.self (I.ok.hd hc) (T.keep (⟨fun _ _ e=>e,fun _ _ e=>e⟩) I.toHR n1.1.lat n1.2 t0 fun b hb o e=>old b o e) loop)
theorem NK{elt iter tg:Expr}{ifs:List Expr}{scope:Scope}{it:Ax}{tt:Tx}{te:Ex}{M vs:List Str}{g:Gx}{pos:Pos}{r:List PV->List PO->Res PV}(m8:List Nat)(hc:X.calm=true)(S:cI X.N X.env.scope scope m8 vs M)(hi:RI X tg iter it)(hg:∀cl C,RG (cH X M scope cl C) tg g)(ht:∀cl C,Um (cH X M scope cl C) ifs tt)(he:∀cl C,RE (cH X M scope cl C) elt te)
  (hr:∀{w0 w:Wo}{h:List PO}{ps:List PV}{h_:Array Value}{D:Addr}{Q:Value->Shared->Prop}{E:Value->Shared->Prop},NZ X.fs Rg w0 w->HR X.toSC w h->w0.s.heap.get? D=none->w.s.heap.PlainList D h_->Ro w D->aB X.toSC w.F w.m ps h_.toList->h_.size<=sizeLine->bM X (RV X.toSC) w0 Q E (r ps h)->Q (.ref D) w.s)
  (gm:∀q cp ρ1,g q (List.replicate vs.length none++cp)=some ρ1->∃l,l.length=vs.length/\ρ1=l++cp)
  (hs:∀y,foldedSetIterable iter X.env y=pure y:=by intro _;rfl):RE X (.ListComp elt [⟨tg,iter,ifs,0⟩] scope pos) (cN r (gT vs.length g m8 it tt te)) where
 r {w0 ρ h Q E} I0 p:=by
  rw[eval_ListComp];refine aeD rfl hs (jw fun n hn=>I0.ok.has n (S.free _ hn rfl)) S.kind S.names ?_
  have p:bM X (RV X.toSC) w0 Q E ((it ρ h).bind fun xs h1=>(if xs.length<sizeLine then(eS g tt te (List.replicate vs.length none++dj m8 ρ) xs h1).calm else .bad).bind r):=by
   have:cN r (gT vs.length g m8 it tt te) ρ h=(it ρ h).bind fun xs h1=>(if xs.length<sizeLine then(eS g tt te (List.replicate vs.length none++dj m8 ρ) xs h1).calm else .bad).bind r:=by unfold cN gT;cases it ρ h<;>rfl
   rw[<- this];exact p
  refine hi.r I0 (p.Ux fun w h1 xs v y0 rr p=>?_)
  split at p
  ·rename_i hz
   refine pJ (use:=none) (K:=fun ps h=>bM X (RV X.toSC) w0 Q E (r ps h)) m8 hc S hg ht he gm I0 y0 rr hz (by
    revert p
    cases eS g tt te (List.replicate vs.length none++dj m8 ρ) xs h1<;>exact id) fun{w2 h2 ps h_ D C oC m} y2 H2 nD nC DC hl n l f ra z k=>⟨m,n,fun h' sb=>?_⟩
   obtain⟨a1,a2⟩:=oJ (s':={ w2.s with heap:=h' }) H2 hl fun b o z e=>(sb.2 b z).trans e;obtain⟨nn,e1⟩:=l;have q:=a1.keep _ _ (by simp;exact DC) ⟨e1,f⟩;exact hr (y2.priv a1 (by simp;exact nC)) a2 nD ⟨nn,q.1⟩ q.2 ra z k
  ·exact p.elim
theorem JP(q:PV)(cp ρ1:Ev)(e:z_ 0 q (List.replicate 1 none++cp)=some ρ1):∃l:Ev,l.length=1/\ρ1=l++cp:=by cases e;exact⟨[some q],rfl,rfl⟩
theorem GU{w0:Wo}{ps:List PV}{h_:Array Value}{D:Addr}{Q:Value->Shared->Prop}{E:Value->Shared->Prop}(y:NZ X.fs Rg w0 w)(H:HR X.toSC w h)(n:w0.s.heap.get? D=none)(l:w.s.heap.PlainList D h_)(f:Ro w D)(r:aB X.toSC w.F w.m ps h_.toList)(z:h_.size<=sizeLine)(p:bM X (RV X.toSC) w0 Q E (Qu ps h)):Q (.ref D) w.s:=by
 obtain⟨k,e⟩:=l;have fz:=dE (o:={ cls:=.type "list",data:=.seq h_ k }) f.2.1;refine p.2 ⟨iV w.F D { cls:=.type "list",data:=.seq h_ k },w.O,w.m,w.s⟩ _ ⟨⟨y.os,y.ba,fun a o e=>fz a o (y.fz a o e),y.ow,y.pre,y.dom,fun b o q zz=>?_⟩,fun b x q=>?_,fun d b q=>let⟨o,z,y⟩:=H.own d b q;⟨o,z,cQ (fun e'=>by rw[e',f.2.2]at q;cases q) y⟩,H.len,H.nd,fun i po b e1 e2=>(H.obj i po b e1 e2).on fz (fun _ e=>e) (fun _ _ e=>e) (fun _ _ e _=>e) (cQ fun z=>f.1 (z▸acj e2))⟩ (.lst bC z (r.mono fz (.inr fun _ _ e=>e)))
 ·obtain⟨sl,q',z'⟩:=y.keep b o q zz;exact⟨sl,⟨q'.1,q'.2.1,cQ (fun z=>by have q:=q.1;rw[z,n]at q;cases q) q'.2.2.1,q'.2.2.2⟩,z'⟩
 ·by_cases z:b=D
  ·subst z;cases bC.symm.trans q;exact e
  ·exact H.sub b x ((kj z).symm.trans q)
end
end Z
namespace L2
open PySem
def DK(h h':Heap):Prop:=∀b o,h.get? b=some o->∃o',h'.get? b=some o'/\o'.dict=o.dict
theorem DK.refl(h:Heap):DK h h:=fun _ o e=>⟨o,e,rfl⟩
theorem DK.trans{h1 h2 h3:Heap}(x:DK h1 h2)(y:DK h2 h3):DK h1 h3:=fun b o e=>by obtain⟨o1,e1,d1⟩:=x b o e;obtain⟨o2,e2,d2⟩:=y b o1 e1;exact⟨o2,e2,d2.trans d1⟩
def Kd{α:Type}(t:Sem α):Prop:=∀(M:Model)(Γ:Ctx)(Q:α->Pos->Shared->Prop)(E:Value->Pos->Shared->Prop)(p:Pos)(s:Shared),Sem.wp M Γ t Q E p s->
 Sem.wp M Γ t (fun a p' s'=>Q a p' s'/\DK s.heap s'.heap) (fun e p' s'=>E e p' s'/\DK s.heap s'.heap) p s
section
variable{α β:Type}
theorem Kd.bind{m:Sem α}{f:α->Sem β}(hm:Kd m)(hf:∀a,Kd (f a)):Kd (m >>= f):=fun M Γ Q E p s h=>by rw[Sem.wp_bind']at h |-;refine ahi M Γ m (fun a p1 s1 z=>?_) (fun e p1 s1 z=>z) p s (hm M Γ _ _ p s h);exact ahi M Γ (f a) (fun b p2 s2 y=>⟨y.1,z.2.trans y.2⟩) (fun e p2 s2 y=>⟨y.1,z.2.trans y.2⟩) p1 s1 (hf a M Γ Q E p1 s1 z.1)
theorem Kd.pure(a:α):Kd (Pure.pure a:Sem α):=fun M Γ Q E p s h=>by rw[Sem.wp_pure']at h |-;exact⟨h,DK.refl _⟩
theorem Kd.T5(x:String):Kd (unsupported x:Sem α):=fun M Γ Q E p s h=>by rw[show(unsupported x:Sem α)=.unsupported x from rfl,Sem.wp_unsupported]at h;exact h.elim
theorem Kd.load(a:Addr):Kd (PySem.load a):=fun M Γ Q E p s h=>by rw[show PySem.load a=.load a none .pure from rfl,Sem.wp_load]at h |-;obtain⟨o,h1,h2⟩:=h;rw[afc]at h2;exact⟨o,h1,by rw[afc];exact⟨h2,DK.refl _⟩⟩
theorem Kd.stack:Kd PySem.stack:=fun M Γ Q E p s h=>by rw[show PySem.stack=.stack .pure from rfl,Sem.wp_stack,afc]at h |-;exact⟨h,DK.refl _⟩
theorem Kd.alloc(o:Obj):Kd (PySem.alloc o):=fun M Γ Q E p s h=>by rw[show PySem.alloc o=.alloc o .pure from rfl,Sem.wp_alloc,afc]at h |-;exact⟨h,fun b o' e=>⟨o',acf _ e,rfl⟩⟩
theorem Kd.update{a:Addr}{f:Obj->Obj}(hf:∀o,o.isFreed=false->(f o).isFreed=false/\(f o).dict=o.dict):Kd (PySem.update a f):=fun M Γ Q E p s h=>by
 rw[show PySem.update a f=.update a none f .pure from rfl,Sem.wp_update]at h |-;obtain⟨h1,h2⟩:=h;rw[afc]at h2;refine⟨h1,?_⟩;rw[afc];refine⟨h2,fun b o e=>?_⟩
 by_cases hb:a=b
 ·subst hb;obtain⟨z1,z2⟩:=hf o (agU.mp e).2;exact⟨f o,aeo f e z1,z2⟩
 ·exact⟨o,(Heap.get?_update_other _ _ hb).trans e,rfl⟩
theorem Kd.ite{c:Prop}[Decidable c]{t u:Sem α}(ht:Kd t)(hu:Kd u):Kd (if c then t else u):=by
 split
 ·exact ht
 ·exact hu
theorem wW(v:Value):Kd (fieldsOf v):=by
 unfold fieldsOf
 split
 ·refine(Kd.load _).bind fun o=>?_
  split
  ·exact Kd.pure _
  ·exact Kd.T5 _
 ·exact Kd.T5 _
theorem nY(v:Value)(i:Nat):Kd (field v i):=by
 refine(wW v).bind fun vs=>?_
 split
 ·exact Kd.pure _
 ·exact Kd.T5 _
theorem qg(g:Array Value->Array Value)(o:Obj)(h:o.isFreed=false):(Obj.mapFields g o).isFreed=false/\(Obj.mapFields g o).dict=o.dict:=by
 unfold Obj.mapFields
 split
 ·exact⟨rfl,rfl⟩
 ·exact⟨h,rfl⟩
theorem lK(v:Value)(i:Nat)(x:Value):Kd (setField v i x):=by
 unfold setField
 split
 ·unfold updateField;refine(Kd.load _).bind fun o=>?_
  split
  ·exact Kd.ite (Kd.update fun o h=>qg _ o h) (Kd.T5 _)
  ·exact Kd.T5 _
 ·exact Kd.T5 _
theorem kf(e:Value)(f:Option Addr):Kd (setFlight e f):=by refine(nY e 1).bind fun tb=>?_;exact Kd.ite (lK _ _ _) (Kd.pure _)
theorem vb(ty:String)(vs:List Value):Kd (newFields ty vs):=by
 unfold newFields newObj
 have as:Kd (newObjAsIs (.type ty) (.fields vs.toArray) none):=by unfold newObjAsIs;exact(Kd.alloc _).bind fun _=>Kd.pure _
 dsimp only
 split
 ·exact(Kd.T5 _).bind fun _=>as
 ·exact as
theorem lL:∀l:List Env,Kd (readyFrames l)
 |[]=>Kd.pure _
 |env::outer=>by
  unfold readyFrames
  split
  ·refine(Kd.load _).bind fun o=>Kd.ite (Kd.pure _) ?_;refine Kd.bind ?_ fun i=>Kd.bind ?_ fun b=>Kd.bind (Kd.update fun o h=>⟨?_,rfl⟩) fun _=>lL outer
   ·unfold behindIsImport;exact Kd.ite (Kd.pure _) (Kd.ite (Kd.pure _) ((nY _ _).bind fun _=>Kd.pure _))
   ·unfold keptBack
    split
    ·refine Kd.ite (Kd.pure _) ?_;exact Kd.bind (Kd.stack.bind fun _=>Kd.pure _) fun _=>Kd.pure _
    ·exact Kd.pure _
   ·obtain⟨c,d,dt,s0⟩:=o
    cases dt<;>first|rfl|(simp[Obj.isFreed]at h)
  ·exact Kd.T5 _
theorem yj(env:Env):Kd (frameOf env):=by
 unfold frameOf;refine Kd.bind (Kd.stack.bind fun _=>Kd.pure _) fun l=>Kd.bind ?_ fun o=>?_
 ·unfold frameObject
  split
  ·exact Kd.pure _
  ·exact(lL _).bind fun _=>Kd.pure _
 ·split
  ·exact Kd.pure _
  ·exact Kd.T5 _
theorem qh(f:Addr)(b:Bool):Kd (entryPlaceOf f b):=by
 unfold entryPlaceOf;refine Kd.stack.bind fun _=>?_
 split
 ·exact Kd.pure _
 ·exact Kd.pure _
theorem nX(e:Value)(env:Env):Kd (noteFrame e env):=by
 unfold noteFrame
 split
 ·have go:∀hd:Value,∀f:Addr,Kd (do setField e 1 (<- EntryCells.newEntry hd (<- frameOf env) .none (rawInt f) .none (<- entryPlaceOf f (hd != .none)))):=fun hd f=>(yj env).bind fun _=>(qh _ _).bind fun _=>(vb _ _).bind fun _=>lK _ _ _
  refine(nY e 1).bind fun hd=>?_;refine Kd.ite ?_ (go _ _);exact(nY _ _).bind fun x=>Kd.ite (Kd.pure _) ((lK _ _ _).bind fun _=>go _ _)
 ·exact Kd.T5 _
theorem rT(env:Env)(e:Value):Kd (leaving env e):=(nX e env).bind fun _=>kf e none
end
end L2
namespace Z
open PySem PySem.Spec PyProof.Rows L3 L2
theorem wX{α:Type}{M:Model}{A:Around}{t:Sem α}{Q:α->Shared->Prop}{E:Value->Shared->Prop}{s:Shared}{a:Addr}{dx:Option Addr}(k:Kd t)(d:∃o,s.heap.get? a=some o/\o.dict=dx)(h:wpAny M A t (fun x s'=>(∃o,s'.heap.get? a=some o/\o.dict=dx)->Q x s') E s):wpAny M A t Q E s:=
 fun Γ p hΓ=>ahi M Γ t (fun _ _ _ z=>z.1 (let⟨o,e,d⟩:=d;let⟨o',e',d'⟩:=z.2 a o e;⟨o',e',d'.trans d⟩)) (fun _ _ _ z=>z.1) p s (k M Γ _ _ p s (h Γ p hΓ))
section
variable{X Y:Cx}{w w2:Wo}{h h2:List PO}
theorem Hz{B hp:Heap}{V:Addr->Prop}(y:NZ Y.fs V w w2)(W2:Wd Y w2 h2)(c1:∀b o,w.s.heap.get? b=some o->b∉Y.fs->∃o',B.get? b=some o')(c2:∀b,¬ Ro w2 b->∃o',B.get? b=some o')(s1:B.StaysIn w2.s.heap)(s2:B.StaysIn hp)(up:w2.s.heap.UpToSlots hp):NZ Y.fs V w { w2 with s:={ w2.s with heap:=hp } }/\HR Y.toSC { w2 with s:={ w2.s with heap:=hp } } h2:=by
 have fr:∀b∈Y.fs,∀o,w2.s.heap.get? b=some o->∃sl,hp.get? b=some { o with slots:=sl }:=fun b hb o e=>by obtain⟨o',q,d⟩:=W2.fr b hb;have q:=q.1;rw[e]at q;cases q;exact up b o e d
 refine⟨⟨y.os,y.ba,y.fz,y.ow,y.pre,fun b o e=>?_,fun b o q n=>?_⟩,W2.toHR.on fun b o e n=>?_⟩
 ·by_cases hb:b∈Y.fs
  ·obtain⟨o',q⟩:=y.dom b o e;obtain⟨sl,q'⟩:=fr b hb o' q;exact⟨_,q'⟩
  ·obtain⟨o',q⟩:=c1 b o e hb;exact⟨o',s2 b o' q⟩
 ·obtain⟨sl,q',z⟩:=y.keep b o q n
  by_cases hb:b∈Y.fs
  ·obtain⟨Vl,e'⟩:=fr b hb _ q'.1;exact⟨Vl,⟨e',q'.2⟩,.inl hb⟩
  ·obtain⟨o',e'⟩:=c1 b o q.1 hb;have g1:=s1 b o' e';rw[q'.1]at g1;cases g1;exact⟨sl,⟨s2 b _ e',q'.2⟩,z⟩
 ·obtain⟨o',q⟩:=c2 b n;have:=s1 b o' q;rw[e]at this;cases this;exact s2 b o q
theorem LV{e:PV}{u:Value}{Q:Unit->Shared->Prop}{E:Value->Shared->Prop}(nw:New X Y w)(hG:Y.toSC=X.toSC)(Ut:Y.stack=Y.env::X.stack)(hf:Y.env.frame=some Y.L)(hA:Y.A.frames=some Y.stack)(y:Q0 Y w w2)(W2:Wd Y w2 h2)(r:oB Y w w2 e u)
  (c:∀s',NZ X.fs Rg w { w2 with s:=s' }->HR X.toSC { w2 with s:=s' } h2->oB X w { w2 with s:=s' } e u->Q () s'):Wp Y (leaving Y.env u) Q E w2.s:=by
 have ZW:Y.fs=Y.L::X.fs:=by simp[Cx.fs,frs,Ut,hf]
 have oL:∀{b o},w.s.heap.get? b=some o->b≠Y.L:=fun e z=>by rw[z,nw.1 _ (.inl rfl)]at e;cases e
 obtain⟨a,cls,dx,rfl,⟨⟨a0,B,fl,c1,c2⟩,d⟩,m⟩:=r
 have go:∀hp,B.StaysIn w2.s.heap->Heap.FlyingW B X.stack a cls a0 hp->w2.s.heap.UpToSlots hp->(∃o,hp.get? a=some o/\o.dict=dx)->Q () { w2.s with heap:=hp }:=fun hp s1 W7 up Wh=>by obtain⟨g1,g2⟩:=Hz y W2 c1 c2 s1 W7.1 up;exact c _ (NZ.out nw g1) (hG▸g2) ⟨a,cls,dx,rfl,⟨⟨a0,B,.inl W7,fun b o e n=>c1 b o e fun z=>by rw[ZW]at z;exact(acn.mp z).elim (oL e) n,fun b z=>c2 b z⟩,Wh⟩,by revert m;rw[hG];exact id⟩
 rw[Ut]at fl;rcases fl with fl|⟨_,fl⟩
 ·exact wX (rT _ _) d (wpAny_leaves_onW (Ut▸hA) hf fl fun hp W7 up Wh=>go hp fl.1 W7 up Wh)
 ·obtain⟨s1,eB,ff,o,vs,ho,rfl,hd,h0,h1⟩:=fl;exact wX (rT _ _) d (wpAny_leaving_firstW (Ut▸hA) ff hf ho s1 eB hd h1 h0 fun hp L Wh=>go hp s1 ⟨L.1,eB,L.2.1.2.2,L.2.2.1⟩ L.2.2.2 Wh)
end
end Z
namespace L3
noncomputable def PO.pure:PO->Bool
 |.lst xs=>ar xs
 |.dct kvs=>aW kvs
 |.J8 _=>true
 |.obj _ _=>false
def aO:List PO->Bool
 |[]=>true
 |o::r=>o.pure&&aO r
def gB(n:Nat)(v:PV)(h:List PO):Res PV:=if(aO (h.take n)&&Nat.ble n h.length)=true then .ok v (h.take n)else .bad
def eO(n:Nat)(v:PV)(h:List PO):Res PV:=match gQ h v with
 |some (q,h2)=>gB n q h2
 |none=>.bad
def dY(f:Sx)(np n:Nat)(ps:List PV)(h:List PO):Res PV:=if ps.length=np then match f (ps.map some++List.replicate (n - ps.length) none) h with
  |.nx _ h1=>gB h.length .non h1
  |.rt v h1=>eO h.length v h1
  |_=>.bad
 else .bad
def xj(n:Nat)(e:PV)(h:List PO):Res PV:=if(aO (h.take n)&&Nat.ble n h.length&&e.pure)=true then .exc e (h.take n)else .bad
def oP(f:Sx)(np n:Nat)(ps:List PV)(h:List PO):Res PV:=if ps.length=np then match f (ps.map some++List.replicate (n - ps.length) none) h with
  |.nx _ h1=>gB h.length .non h1
  |.rt v h1=>eO h.length v h1
  |.exc e h1=>xj h.length e h1
  |_=>.bad
 else .bad
noncomputable def Q7:List PV->List Nat
 |[]=>[]
 |.ref i::r=>i::Q7 r
 |_::r=>Q7 r
noncomputable def S6:Nat->List PV->List PV
 |_,[]=>[]
 |n,.ref _::r=>.ref n::S6 (n+1) r
 |n,p::r=>p::S6 n r
def ju:List PV->Bool
 |[]=>true
 |.ref _::r=>ju r
 |p::r=>p.pure&&ju r
noncomputable def ki(h:List PO):List Nat->Option (List PO)
 |[]=>some []
 |i::r=>match h[i]? with
  |some o=>match ki h r with
   |some l=>some (o::l)
   |none=>none
  |none=>none
noncomputable def gM:List PO->List Nat->List PO->List PO
 |h,i::r,o::l=>gM (h.set i o) r l
 |h,_,_=>h
noncomputable def iR:List Nat->Bool
 |[]=>true
 |i::r=>!r.contains i&&iR r
def w6(fn:List PV->List PO->Res PV)(ps:List PV)(h:List PO):Res PV:=match ki h (Q7 ps)with
 |some hs=>if(ju ps&&aO hs&&iR (Q7 ps))=true then match fn (S6 0 ps) hs with
   |.ok v SN=>if v.pure=true/\aO SN=true/\SN.length=hs.length then .ok v (gM h (Q7 ps) SN)else .bad
   |.exc v SN=>if v.pure=true/\aO SN=true/\SN.length=hs.length then .exc v (gM h (Q7 ps) SN)else .bad
   |.bad=>.bad
  else .bad
 |none=>.bad
def aR(fn:List PV->List PO->Res PV)(as:Ax):Ex:=fun ρ h=>(as ρ h).bind (w6 fn)
def R_(n:Nat):PV->Bool
 |.ref i=>decide (i<n)
 |p=>p.pure
def SJ(n:Nat):PO->Bool
 |.lst xs=>xs.all (R_ n)
 |.dct kvs=>kvs.all fun x=>R_ n x.2
 |.J8 _=>true
 |.obj _ ps=>ps.all (R_ n)
def xk(n:Nat)(v:PV)(h:List PO):Res PV:=if((h.take n).all (SJ n)&&Nat.ble n h.length)=true then .ok v (h.take n)else .bad
def xf(n:Nat)(v:PV)(h:List PO):Res PV:=if R_ n v=true then xk n v h else match gQ h v with
 |some (q,h2)=>xk n q h2
 |none=>.bad
def Nc(n:Nat)(e:PV)(h:List PO):Res PV:=if((h.take n).all (SJ n)&&Nat.ble n h.length&&e.pure)=true then .exc e (h.take n)else .bad
def gH(f:Sx)(np n:Nat)(ps:List PV)(h:List PO):Res PV:=if ps.length=np then match f (ps.map some++List.replicate (n - ps.length) none) h with
  |.nx _ h1=>xk h.length .non h1
  |.rt v h1=>xf h.length v h1
  |.exc e h1=>Nc h.length e h1
  |_=>.bad
 else .bad
noncomputable def xM(f:Sx)(np n:Nat)(ps:List PV)(h:List PO):Res PV:=if ps.length=np then match f (ps.map some++List.replicate (n - ps.length) none) h with
  |.nx _ h1=>.ok .non h1
  |_=>.bad
 else .bad
def lX(fn:List PV->List PO->Res PV)(as:Ax):Ex:=fun ρ h=>(as ρ h).bind fn
end L3
namespace Z
open PySem PySem.Spec PyProof.Rows L3 L2
def HQ(X:Cx)(w:Wo)(Q:Value->Shared->Prop)(E:Value->Shared->Prop):Res PV->Prop
 |.ok a h=>∀w' x,Nw X w w' h->bq X.toSC w'.F w'.m a x->Q x w'.s
 |.exc e h=>∀w' u,Nw X w w' h->oB X w w' e u->E u w'.s
 |.bad=>False
theorem bM.c{X:Cx}{w:Wo}{Q:Value->Shared->Prop}{E:Value->Shared->Prop}{r:Res PV}(p:bM X (RV X.toSC) w Q E r):HQ X w Q E r:=match r with
 |.ok _ _=>p.2
 |.exc _ _=>p.2
 |.bad=>p
structure Ru(G:SC)(c:Bool)(k:Nat)(f:Addr)(fd:FuncData)(ps:List Str)(fn:List PV->List PO->Res PV):Prop where
 len:∀qs h,fn qs h≠.bad->qs.length=ps.length
 run:∀{X:Cx}{w:Wo}{h:List PO}{A:Around}{qs:List PV}{us:List Value}{args:Args}{Q:Value->Shared->Prop}{E:Value->Shared->Prop},X.toSC=G->fm k A->(c=true->A.handled=none)->A.frames=some X.stack->Wd X w h->X.Ok->aB G w.F w.m qs us->BindsTo w.s fd args (ps.zip us)->
  HQ X w Q E (fn qs h)->codeAny (model G.prog G.w) A (.call (.ref f) args) (RC Q E) w.s
def pV(n:Nat)(h:List PO):Prop:=(h.take n).all (SJ n)=true/\n<=h.length
inductive Fin(n:Nat):SR->Res PV->Prop where
 |nx {ρ:Ev} {h:List PO}:pV n h->Fin n (.nx ρ h) (.ok .non (h.take n))
 |al {ρ:Ev} {h:List PO}:Fin n (.nx ρ h) (.ok .non h)
 |rt {v:PV} {h:List PO}:R_ n v=true->pV n h->Fin n (.rt v h) (.ok v (h.take n))
 |rf {v q:PV} {h h2:List PO}:gQ h v=some (q,h2)->pV n h2->Fin n (.rt v h) (.ok q (h2.take n))
 |ex {e:PV} {h:List PO}:e.pure=true->pV n h->Fin n (.exc e h) (.exc e (h.take n))
section
variable{G:SC}{X Y:Cx}{w w1 w2:Wo}{h h1 h2:List PO}{n:Nat}
theorem bq.lt{F:Fz}{m:List Addr}{p:PV}{u:Value}(r:bq G F m p u)(z:R_ n p=true):bq G F (m.take n) p u:=by
 unfold R_ at z
 split at z
 ·cases r with|ref e=>exact .ref (by rw[adn (of_decide_eq_true z)];exact e)
 ·exact r.mono (fun _ _ e=>e) (.inl z)
theorem aB.lt{n:Nat}{F:Fz}{m:List Addr}{p:List PV}{u:List Value}(r:aB G F m p u):p.all (R_ n)=true->aB G F (m.take n) p u:=aB.ind (P:=fun p u=>p.all (R_ n)=true->aB G F (m.take n) p u) (fun _=>.nil) (fun r _ i z=>have z:=ab5 _ _▸z;.cons (r.lt z.1) (i z.2)) r
theorem HR.cut(H:HR G w h)(c:pV n h):HR G ⟨w.F,w.O,w.m.take n,w.s⟩ (h.take n):=by
 refine⟨H.sub,fun d a e=>let⟨o,z,y⟩:=H.own d a e;⟨o,fun x=>z (ad7 x),y⟩,by simp[H.len],H.nd.sublist (afO _ _),fun i o a e1 e2=>?_⟩
 have hi:i<n:=by
  rcases ad6 i n with z|z
  ·exact z
  ·rw[agt (by simp;omega)]at e1;cases e1
 have z:=aco.mp c.1 o (acj e1);rw[adn hi]at e1;have q:=H.obj i o a e1 (by rw[<- adn hi];exact e2)
 cases o with
 |lst ps=>obtain⟨f,h_,n,e,l,r⟩:=q;exact⟨f,h_,n,e,l,r.lt z⟩
 |dct kps=>obtain⟨f,o,kvs,e,d,y,l,c,r⟩:=q;exact⟨f,o,kvs,e,d,y,l,c,r.lt (by simpa[SJ,agf]using z)⟩
 |J8 p=>obtain⟨r,z,q⟩:=q;exact⟨r.mono (fun _ _ e=>e) (.inl z),z,q⟩
 |obj C ps=>obtain⟨f,Ca,dx,od,vs,c,e,d,e2,nn,l,r⟩:=q;exact⟨f,Ca,dx,od,vs,c,e,d,e2,nn,l,r.lt z⟩
theorem Nw.cut(hl:h.length=w.m.length)(y:NZ X.fs Rg w w2)(H:HR X.toSC w2 h2)(c:pV h.length h2):Nw X w ⟨w2.F,w2.O,w2.m.take h.length,w2.s⟩ (h2.take h.length):=by refine⟨⟨y.os,y.ba,y.fz,y.ow,?_,y.dom,fun b o q z=>let⟨sl,q,z⟩:=y.keep b o q z;⟨sl,⟨q.1,fun z=>q.2.1 (ad7 z),q.2.2⟩,z⟩⟩,H.cut c⟩;obtain⟨t,e⟩:=y.pre;exact⟨[],by simp[e,hl]⟩
theorem oB.cut{e:PV}{u:Value}(r:oB X w w2 e u)(pu:e.pure=true):oB X w ⟨w2.F,w2.O,w2.m.take n,w2.s⟩ e u:=r.to pu rfl rfl rfl fun b z=>.inl fun y=>z ⟨fun z=>y.1 (ad7 z),y.2⟩
variable{N ps:List Str}{qual name:Str}{st:Stmt}{f:Addr}{fd:FuncData}{k:Nat}{g:Sx}{fn:List PV->List PO->Res PV}
theorem qz{c:Bool}(F:Vh G.K name qual st f fd)(S:mD N ps (aX st))(hb:∀(X:Cx)(cd:Value)(A:Around)(s:Shared),X.toSC=G->fm k (A.deeper (envOfC qual (aX st) s.heap.objs.size f cd))->S5 (kt c X N qual (aX st) f cd A s) (iF st) g)
  (ZJ:∀qs h,fn qs h≠.bad->qs.length=ps.length/\Fin h.length (g (st0 N.length qs) h) (fn qs h)):Ru G c (k+1) f fd ps fn where
 len qs h z:=(ZJ qs h z).1
 run {X w h A qs us args Q E} hG hr hd hf I ok r hbd p:=by
  subst hG;obtain⟨hl,fin⟩:=ZJ qs h fun z=>by rw[z]at p;exact p
  refine pK (c:=c) F S hr hd hf I ok hl r hbd fun cd s1 XH nw y J _=>(hb X cd A w.s rfl XH).r J ?_;have yo:∀{w2},Q0 (kt c X N qual (aX st) f cd A w.s) { w with s:=s1 } w2->Q0 (kt c X N qual (aX st) f cd A w.s) w w2:=fun y2=>NZ.trans (y.weak (fun _ z=>z.elim) fun b z=>acg _ z) y2
  revert fin p
  generalize g (st0 N.length qs) h=sr;generalize fn qs h=res;intro p fin
  cases fin with
  |nx ck=>exact⟨.leaving,fun w2 y2 I2=>p ⟨w2.F,w2.O,w2.m.take h.length,w2.s⟩ _ (Nw.cut I.len ((yo y2).out nw) I2.toHR ck) .non⟩
  |al=>exact⟨.leaving,fun w2 y2 I2=>p _ _ ⟨(yo y2).out nw,I2.toHR⟩ .non⟩
  |rt l ck=>exact⟨.leaving,fun w2 u ρ y2 I2 r2=>p ⟨w2.F,w2.O,w2.m.take h.length,w2.s⟩ _ (Nw.cut I.len ((yo y2).out nw) I2.toHR ck) (r2.lt l)⟩
  |rf e ck=>exact⟨.leaving,fun w2 u ρ y2 I2 r2=>by obtain⟨F',n,r3,pu⟩:=I2.toHR.Wc (X:=kt c X N qual (aX st) f cd A w.s) r2 e;exact p ⟨F',w2.O,w2.m.take h.length,w2.s⟩ _ (Nw.cut (w2:=⟨F',w2.O,w2.m,w2.s⟩) I.len ((yo (y2.trans n.s)).out nw) n.2 ck) (r3.mono (fun _ _ e=>e) (.inl pu))⟩
  |ex pu ck=>exact⟨.leaving,fun w2 u ρ y2 I2 r2=>LV nw rfl rfl rfl (agC hf) (yo y2) I2.toWd (r2.back y) fun s' y3 H3 r3=>p ⟨w2.F,w2.O,w2.m.take h.length,s'⟩ _ (Nw.cut (w2:={ w2 with s:=s' }) I.len y3 H3 ck) (r3.cut pu)⟩
theorem Fo{p:PV}(h:p.pure=true):R_ n p=true:=by cases p<;>first|exact h|cases h
theorem rA:∀{l:List PV},ar l=true->l.all (R_ n)=true
 |[],_=>rfl
 |p::r,h=>by simp only[ar,ab5]at h;simp[Fo h.1,rA h.2]
theorem mf:∀{l:List PO},aO l=true->l.all (SJ n)=true
 |[],_=>rfl
 |o::r,h=>by
  simp only[aO,ab5]at h;simp only[adN,mf h.2,aem]
  cases o with
  |lst xs=>exact rA h.1
  |dct kvs=>have:=rA (n:=n) (l:=kvs.map (·.2)) (by rw[<- fS];exact h.1);simpa[SJ,agf]using this
  |J8 _=>rfl
  |obj _ ps=>cases h.1
theorem HF{v:PV}{h:List PO}(z:gB n v h≠.bad):pV n h/\gB n v h=.ok v (h.take n):=by
 unfold gB at z |-
 split at z
 ·rename_i c;rw[if_pos c];simp only[ab5]at c;exact⟨⟨mf c.1,ad2 c.2⟩,rfl⟩
 ·exact absurd rfl z
theorem Ej{v:PV}{h:List PO}(z:xk n v h≠.bad):pV n h/\xk n v h=.ok v (h.take n):=by
 unfold xk at z |-
 split at z
 ·rename_i c;rw[if_pos c];simp only[ab5]at c;exact⟨⟨c.1,ad2 c.2⟩,rfl⟩
 ·exact absurd rfl z
theorem HA{np N:Nat}(qs:List PV)(h:List PO)(z:oP g np N qs h≠.bad):qs.length=np/\Fin h.length (g (st0 N qs) h) (oP g np N qs h):=by
 unfold oP at z |-
 split at z
 ·rename_i l;rw[if_pos l];refine⟨l,?_⟩;unfold st0
  split at z<;>rename_i e<;>(try rw[e])
  ·obtain⟨c,e⟩:=HF z;rw[e];exact .nx c
  ·unfold eO at z |-
   split at z
   ·rename_i e1;obtain⟨c,e⟩:=HF z;rw[e];exact .rf e1 c
   ·exact absurd rfl z
  ·unfold xj at z |-
   split at z
   ·rename_i c;rw[if_pos c];simp only[ab5]at c;exact .ex c.2 ⟨mf c.1.1,ad2 c.1.2⟩
   ·exact absurd rfl z
  ·exact absurd rfl z
 ·exact absurd rfl z
theorem MU{np N:Nat}(qs:List PV)(h:List PO)(z:gH g np N qs h≠.bad):qs.length=np/\Fin h.length (g (st0 N qs) h) (gH g np N qs h):=by
 unfold gH at z |-
 split at z
 ·rename_i l;rw[if_pos l];refine⟨l,?_⟩;unfold st0
  split at z<;>rename_i e<;>(try rw[e])
  ·obtain⟨c,e⟩:=Ej z;rw[e];exact .nx c
  ·unfold xf at z |-
   split at z
   ·rename_i l;rw[if_pos l];obtain⟨c,e⟩:=Ej z;rw[e];exact .rt l c
   ·rename_i l;rw[if_neg l]
    split at z
    ·rename_i e1;obtain⟨c,e⟩:=Ej z;rw[e];exact .rf e1 c
    ·exact absurd rfl z
  ·unfold Nc at z |-
   split at z
   ·rename_i c;rw[if_pos c];simp only[ab5]at c;exact .ex c.2 ⟨c.1.1,ad2 c.1.2⟩
   ·exact absurd rfl z
  ·exact absurd rfl z
 ·exact absurd rfl z
theorem MT{np N:Nat}(qs:List PV)(h:List PO)(z:xM g np N qs h≠.bad):qs.length=np/\Fin h.length (g (st0 N qs) h) (xM g np N qs h):=by
 unfold xM at z |-
 split at z
 ·rename_i l;rw[if_pos l];refine⟨l,?_⟩;unfold st0
  split at z<;>rename_i e<;>(try rw[e])
  ·exact .al
  ·exact absurd rfl z
 ·exact absurd rfl z
theorem MS{np N:Nat}(qs:List PV)(h:List PO)(z:dY g np N qs h≠.bad):qs.length=np/\Fin h.length (g (st0 N qs) h) (dY g np N qs h):=by
 have e:dY g np N qs h=oP g np N qs h:=by
  unfold dY oP at*
  split
  ·rw[if_pos ‹_›]at z;split<;>rename_i e<;>simp_all
  ·rfl
 rw[e]at z |-;exact HA qs h z
end
end Z
namespace Z
open PySem PySem.Spec PyProof.Rows L3 L2
section
variable{G:SC}{X:Cx}{w w1:Wo}{h hs:List PO}{is:List Nat}
theorem mX:∀{is:List Nat}{hs:List PO},ki h is=some hs->is.length=hs.length/\∀(j i:Nat),is[j]? =some i->h[i]? =hs[j]?
 |[],_,e=>by cases e;exact⟨rfl,fun _ _ e=>nomatch e⟩
 |i::r,_,e=>by
  unfold ki at e
  split at e
  ·rename_i e1
   split at e<;>cases e
   rename_i e2;obtain⟨l,k⟩:=mX e2;exact⟨by simp[l],fun j i' q=>by cases j with|zero=>cases q;exact e1|succ j=>exact k j i' q⟩
  ·cases e
theorem rL:∀{is:List Nat},iR is=true->is.Nodup
 |[],_=>.nil
 |i::r,h=>by simp only[iR,ab5,aeW,List.contains_eq_mem,decide_eq_false_iff_not]at h;exact .cons (fun x hx z=>h.1 (z▸hx)) (rL h.2)
theorem rn:∀(is:List Nat)(h hs:List PO),(L3.gM h is hs).length=h.length
 |[],h,_=>by simp[L3.gM]
 |_::_,h,[]=>by simp[L3.gM]
 |i::r,h,o::l=>by simp[L3.gM,rn r]
theorem ry:∀{is:List Nat}{h hs:List PO}{i:Nat},is.Nodup->is.length=hs.length->(∀j∈is,j<h.length)->(∀j:Nat,is[j]? =some i->(L3.gM h is hs)[i]? =hs[j]?)/\(i∉is->(L3.gM h is hs)[i]? =h[i]?)
 |[],h,[],i,_,_,_=>⟨fun _ e=>(nomatch e),fun _=>rfl⟩
 |j0::r,h,o::l,i,nd,e,lt=>by
  rw[adp]at nd;obtain⟨a,b⟩:=ry (h:=h.set j0 o) (hs:=l) (i:=i) nd.2 (by simpa using e) (fun j hj=>by simpa using lt j (acg _ hj));refine⟨fun j q=>?_,fun n=>?_⟩
  ·cases j with
   |zero=>cases q;simp only[L3.gM];rw[b nd.1];simp[lt _ acv]
   |succ j=>simp only[L3.gM];rw[a j q];rfl
  ·simp only[L3.gM];rw[b fun z=>n (acg _ z),acX fun z=>n (by simp[z])]
noncomputable def sel(m:List Addr)(is:List Nat):List Addr:=is.map fun i=>m.getD i 0
theorem qp{m:List Addr}{j i:Nat}{a:Addr}(e:is[j]? =some i)(q:m[i]? =some a):(sel m is)[j]? =some a:=by simp[sel,e,acy,q]
theorem oS:∀{hs:List PO}{j:Nat}{o:PO},aO hs=true->hs[j]? =some o->o.pure=true
 |o::r,j,o',h,e=>by
  simp only[aO,ab5]at h
  cases j with
  |zero=>cases e;exact h.1
  |succ j=>exact oS h.2 e
theorem sJ.pure{F:Fz}{m m':List Addr}{O O':Addr->Option Addr}{g:Heap}{a:Addr}{o:PO}(q:sJ G F m O g a o)(p:o.pure=true):sJ G F m' O' g a o:=by
 cases o with
 |lst ps=>obtain⟨f,h_,n,e,l,r⟩:=q;exact⟨f,h_,n,e,l,r.mono (fun _ _ e=>e) (.inl p)⟩
 |dct kps=>obtain⟨f,o,kvs,e,d,y,l,c,r⟩:=q;exact⟨f,o,kvs,e,d,y,l,c,r.mono (fun _ _ e=>e) (.inl (by rw[<- fS];exact p))⟩
 |J8 p=>obtain⟨r,z,q⟩:=q;exact⟨r.mono (fun _ _ e=>e) (.inl z),z,q⟩
 |obj C ps=>cases p
theorem uE(H:HR G w h)(lt:∀i∈is,i<h.length){a:Addr}(z:a∈sel w.m is):∃i∈is,w.m[i]? =some a:=by obtain⟨i,hi,rfl⟩:=acK.mp z;have l:=lt i hi;rw[H.len]at l;exact⟨i,hi,by simp[acy,acr l]⟩
theorem BY:∀{is:List Nat},is.Nodup->(∀i∈is,i<w.m.length)->w.m.Nodup->(sel w.m is).Nodup
 |[],_,_,_=>.nil
 |i::r,nd,lt,n=>by rw[adp]at nd;refine adp.mpr ⟨fun z=>?_,BY nd.2 (fun j hj=>lt j (acg _ hj)) n⟩;obtain⟨j,hj,e⟩:=acK.mp z;have l1:=lt i (by simp);have l2:=lt j (acg _ hj);simp only[acy,acr l1,acr l2,Option.getD_some]at e;exact nd.1 ((aew n).mp e▸hj)
theorem Wd.sel(I:Wd X w h)(e:ki h is=some hs)(nd:is.Nodup)(pu:aO hs=true)(lt:∀i∈is,i<h.length):Wd X ⟨w.F,fun _=>none,sel w.m is,w.s⟩ hs:=by
 obtain⟨l,k⟩:=mX e;have g:∀i∈is,∃a,w.m[i]? =some a:=fun i hi=>⟨_,acr (I.len▸lt i hi)⟩
 refine⟨⟨I.sub,fun _ _ e=>(nomatch e),by simp[Z.sel,l],BY nd (fun i hi=>I.len▸lt i hi) I.nd,fun j o a e1 e2=>?_⟩,I.ba,I.bs,fun b hb=>let⟨o,q,d⟩:=I.fr b hb;⟨o,⟨q.1,fun z=>let⟨i,_,q'⟩:=uE I.toHR lt z;q.2.1 (acj q'),q.2.2.1,rfl⟩,d⟩⟩;have hj:j<is.length:=by rw[l];exact(acd.mp e1).1
 obtain⟨i,hi⟩:∃i,is[j]? =some i:=⟨_,acr hj⟩
 obtain⟨a',ha⟩:=g i (acj hi)
 cases(qp hi ha).symm.trans e2
 exact(I.obj i o a (by rw[k j i hi];exact e1) ha).pure (oS pu e1)
theorem uJ{F:Fz}{m:List Addr}{ps:List PV}{us:List Value}{n:Nat}{m':List Addr}(r:aB G F m ps us)(ok:ju ps=true)(k:∀(j i:Nat) a,(Q7 ps)[j]? =some i->m[i]? =some a->m'[n+j]? =some a):aB G F m' (S6 n ps) us:=by
 induction ps generalizing us n with
 |nil=>cases r;exact .nil
 |cons p ps Y=>cases r with|cons r t=>
  have z:p.pure=true/\ju ps=true/\Q7 (p::ps)=Q7 ps/\S6 n (p::ps)=p::S6 n ps\/∃i,p=.ref i:=by cases p<;>first|exact .inr ⟨_,rfl⟩|exact .inl ⟨(ab5 _ _▸ok).1,(ab5 _ _▸ok).2,rfl,rfl⟩
  rcases z with⟨z,o,e,e'⟩|⟨i,rfl⟩
  ·rw[e'];rw[e]at k;exact .cons (r.mono (fun _ _ e=>e) (.inl z)) (Y t o k)
  ·cases r with
   |ref e=>exact .cons (.ref (k 0 i _ rfl e)) (Y t ok fun j i a e1 e2=>by have:=k (j+1) i a e1 e2;rwa [show n+1+j=n+(j+1) by omega])
theorem Ru.Wm{c:Bool}{f:Addr}{fd:FuncData}{k:Nat}{ps:List Str}{fn:List PV->List PO->Res PV}{ρ:Ev}{qs:List PV}{us:List Value}{Q:Value->Shared->Prop}{E:Value->Shared->Prop}(F:Ru X.toSC c k f fd ps fn)(hr:fm k X.A)(hc:c=true->X.calm=true)(hb:jM X.K fd ps [])(I:Inv X w ρ h)(r:aB X.toSC w.F w.m qs us)(p:bM X (RV X.toSC) w Q E (fn qs h)):Wp X (call (.ref f) us) Q E w.s:=by refine ae5 (F.run rfl hr (fun z=>I.ok.hd (hc z)) I.ok.frames I.toWd I.ok r (by simpa using hb w.s us I.QK (by rw[acH,<- r.length];exact F.len _ _ fun z=>by rw[z]at p;exact p)) p.c)
theorem Ru.w6{c:Bool}{f:Addr}{fd:FuncData}{k:Nat}{ps:List Str}{fn:List PV->List PO->Res PV}{ρ:Ev}{qs:List PV}{us:List Value}{Q:Value->Shared->Prop}{E:Value->Shared->Prop}(F:Ru X.toSC c k f fd ps fn)(hr:fm k X.A)(hc:c=true->X.calm=true)(hb:jM X.K fd ps [])(I:Inv X w ρ h)(r:aB X.toSC w.F w.m qs us)(p:bM X (RV X.toSC) w Q E (w6 fn qs h)):Wp X (call (.ref f) us) Q E w.s:=by
 unfold L3.w6 at p
 split at p
 ·rename_i hs e
  split at p
  ·rename_i c;simp only[ab5]at c;obtain⟨⟨c1,c2⟩,c3⟩:=c;obtain⟨gl,gk⟩:=mX e;have nd:=rL c3
   have lt:∀i∈Q7 qs,i<h.length:=fun i hi=>by obtain⟨j,hj,rfl⟩:=ad8.mp hi;have:=gk j _ (acr hj);rw[acr (show j<hs.length from gl▸hj)]at this;exact(acd.mp this).1
   have r':aB X.toSC w.F (sel w.m (Q7 qs)) (S6 0 qs) us:=uJ r c1 fun j i a e1 e2=>by rw[adU];exact qp e1 e2
   have I':=I.toWd.sel e nd c2 lt;have hm:∀a∈sel w.m (Q7 qs),a∈w.m:=fun a z=>let⟨i,_,q⟩:=uE I.toHR lt z;acj q
   have bk:∀{w1:Wo}{SN:List PO},Nw X ⟨w.F,fun _=>none,sel w.m (Q7 qs),w.s⟩ w1 SN->aO SN=true->SN.length=hs.length->Nw X w ⟨w1.F,w.O,w.m,w1.s⟩ (L3.gM h (Q7 qs) SN):=fun{w1 SN} y pu l=>by
    have pg:=fun i=>ry (i:=i) (h:=h) (hs:=SN) nd (gl.trans l.symm) lt;refine Nw.back I.toWd y.1 y.2 (rn _ _ _) hm (fun i po a e1 e2 z=>?_) fun i po a e1 e2 z=>?_
    ·obtain⟨i',V7,e3⟩:=uE I.toHR lt z
     have:i=i':=by obtain⟨l1,q1⟩:=acd.mp e2;obtain⟨l2,q2⟩:=acd.mp e3;exact(aew I.nd).mp (q1.trans q2.symm)
     subst this;obtain⟨j,hj,rfl⟩:=ad8.mp V7;have ej:=acr hj;rw[(pg _).1 j ej]at e1;exact(y.2.obj j po a e1 (y.1.sub j a (qp ej e2))).pure (oS pu e1)
    ·rw[(pg i).2 fun hi=>z (acj (qp (acr (ad8.mp hi).choose_spec.choose) (by rw[(ad8.mp hi).choose_spec.choose_spec];exact e2)))]at e1;exact e1
   refine ae5 (F.run (w:=⟨w.F,fun _=>none,sel w.m (Q7 qs),w.s⟩) rfl hr (fun z=>I.ok.hd (hc z)) I.ok.frames I' I.ok r' (by simpa using hb w.s us I.QK (by rw[acH,<- r'.length];exact F.len _ _ fun z=>by rw[z]at p;exact p)) ?_)
   split at p
   ·rename_i e1;rw[e1]
    split at p
    ·rename_i c;exact fun w1 x y r1=>p.2 ⟨w1.F,w.O,w.m,w1.s⟩ _ (bk y c.2.1 c.2.2) (r1.mono (fun _ _ e=>e) (.inl c.1))
    ·exact p.elim
   ·rename_i e1;rw[e1]
    split at p
    ·rename_i c;refine fun w1 x y r1=>p.2 ⟨w1.F,w.O,w.m,w1.s⟩ _ (bk y c.2.1 c.2.2) (r1.to c.1 rfl rfl rfl fun b z=>?_);have nf:¬ Ro w b->b∉X.fs:=fun n z=>let⟨_,q,_⟩:=I.fr _ z;n q.2
     by_cases z1:b∈w.m
     ·exact .inr ⟨I.toHR.there z1,nf fun y=>y.1 z1⟩
     ·by_cases z2:w.O b=none
      ·exact .inl fun y=>z ⟨z1,y.2.1,z2⟩
      ·obtain⟨o,q⟩:=Option.ne_none_iff_exists'.mp z2;exact .inr ⟨(I.own b o q).1,nf fun y=>z2 y.2.2⟩
    ·exact p.elim
   ·exact p.elim
  ·exact p.elim
 ·exact p.elim
structure ZL(X:Cx)(x:Str)(fn:List PV->List PO->Res PV):Prop where
 ex:∃c k f fd ps,Ru X.toSC c k f fd ps fn/\fm k X.A/\(c=true->X.calm=true)/\X.mg x=some (.ref f)/\W.keepIn X.K (.ref f)=true/\jM X.K fd ps []
variable{x:Str}{e:Expr}{es:List Expr}{p0 pos:Pos}{fs:Ax}{fn:List PV->List PO->Res PV}
theorem wf(c:ZL X x fn)(hg:Gl X x)(ha:RA X (e::es) fs)(P0:nD0 x:=by decide)(he:sE0 X e es:=by rfl)(Ov:sP0 X es pos:=by rfl):RE X (.Call (.Name x p0) (e::es) [] pos) (aR fn fs):=⟨fun I p=>by obtain⟨c,k,f,fd,ps,F,hr,hc,hm,hk,hb⟩:=c.ex;exact acY (I.Uv hg hm (aeO (h₀:=X.base) I.ok.Qs hk (ha.r pos I (p.bind fun _ _ _ _ y r p=>⟨(I.on y).QK,F.w6 hr hc hb (I.on y) r p⟩)) he Ov) P0)⟩
theorem Ci(c:ZL X x fn)(hg:Gl X x)(ha:RA X (e::es) fs)(P0:nD0 x:=by decide)(he:sE0 X e es:=by rfl)(Ov:sP0 X es pos:=by rfl):RE X (.Call (.Name x p0) (e::es) [] pos) (lX fn fs):=⟨fun I p=>by obtain⟨c,k,f,fd,ps,F,hr,hc,hm,hk,hb⟩:=c.ex;exact acY (I.Uv hg hm (aeO (h₀:=X.base) I.ok.Qs hk (ha.r pos I (p.bind fun _ _ _ _ y r p=>⟨(I.on y).QK,F.Wm hr hc hb (I.on y) r p⟩)) he Ov) P0)⟩
end
end Z
namespace L3
noncomputable def sV(C:Nat)(h:List PO):PV->Option (Nat×List PV)
 |.ref i=>match h[i]? with
  |some (.obj D ps)=>if D=C then some (i,ps)else none
  |_=>none
 |_=>none
def uQ(C j:Nat)(p:PV)(h:List PO):Res PV:=match sV C h p with
 |some (_,ps)=>match ps[j]? with
  |some q=>.ok (aq h q) h
  |none=>.bad
 |none=>.bad
def BW(C j:Nat)(v p:PV)(ρ:Ev)(h:List PO):SR:=match sV C h p with
 |some (i,ps)=>if j<ps.length then .nx ρ (h.set i (.obj C (ps.set j v)))else if j=ps.length then .nx ρ (h.set i (.obj C (ps++ [v])))else .bad
 |none=>.bad
def qW(C j:Nat)(fo fv:Ex):Sx:=fun ρ h=>eH (fv ρ h) fun v h1=>eH (fo ρ h1) fun o h2=>BW C j v o ρ h2
def gD(C:Nat)(fn:List PV->List PO->Res PV)(o:Ex)(as:Ax):Ex:=fun ρ h=>(o ρ h).bind fun p h1=>match sV C h1 p with
 |some _=>(as ρ h1).bind fun ps h2=>fn (p::ps) h2
 |none=>.bad
noncomputable def Vq(C:Nat)(fn:List PV->List PO->Res PV)(ps:List PV)(h:List PO):Res PV:=match fn (.ref h.length::ps) (h++ [.obj C []])with
 |.ok .non h2=>.ok (.ref h.length) h2
 |_=>.bad
def Bj(C:Nat)(fn:List PV->List PO->Res PV)(as:Ax):Ex:=fun ρ h=>(as ρ h).bind (Vq C fn)
end L3
namespace Z
open PySem PySem.Spec PyProof.Rows L3 L2
section
variable{f:Str}{y:Value}
theorem qK:∀{ns:List Str}{vs:List Value}{j:Nat}{v:Value},ns.Nodup->ns[j]? =some f->vs[j]? =some v->(ns.zip vs).lookup f=some v
 |[],_,_,_,_,e,_=>by simp at e
 |n::ns,[],j,v,_,_,e=>by simp at e
 |n::ns,x::vs,0,v,_,e1,e2=>by cases e1;cases e2;simp[List.lookup]
 |n::ns,x::vs,j+1,v,nd,e1,e2=>by
  rw[adp]at nd;have ne:f≠n:=fun z=>nd.1 (z▸acj e1);have:(f==n)=false:=by simpa using ne
  rw[afy,List.lookup,this];exact qK nd.2 e1 e2
theorem qJ:∀{ns:List Str}{vs:List Value},f∉ns->(ns.zip vs).lookup f=none
 |[],_,_=>by simp
 |n::ns,[],_=>by simp
 |n::ns,x::vs,h=>by
  have:(f==n)=false:=by simpa using fun z=>h (by simp[z])
  rw[afy,List.lookup,this];exact qJ fun z=>h (acg _ z)
theorem yH{n:Str}:∀{ns:List Str}{vs:List Value}{j:Nat},ns.Nodup->ns[j]? =some f->j<=vs.length->(ns.zip (vs.take j++y::vs.drop (j+1))).lookup n=if n=f then some y else(ns.zip vs).lookup n
 |[],_,_,_,e,_=>by simp at e
 |g::ns,vs,0,_,e,_=>by
  cases e
  by_cases z:n=f
  ·simp[z,List.lookup]
  ·have:(n==f)=false:=by simpa using z
   cases vs<;>simp[List.lookup,this,z]
 |g::ns,[],j+1,_,_,e=>by simp at e
 |g::ns,x::vs,j+1,nd,e1,l=>by
  rw[adp]at nd;have ih:=yH (n:=n) nd.2 e1 (Nat.le_of_succ_le_succ l);simp only[aeA,List.drop_succ_cons,acB,afy,List.lookup]
  by_cases z:n=g
  ·have:n≠f:=fun z'=>nd.1 (z▸z'▸acj e1);simp[z,if_neg (z▸this)]
  ·have:(n==g)=false:=by simpa using z
   simp only[this];exact ih
end
theorem rS{y:Str}{v:Value}:∀{fs:List (Str×Value)},fs.lookup y=some v->(y,v)∈fs
 |p::r,e=>by
  simp only[List.lookup]at e
  split at e
  ·rename_i q;cases e;cases aec q;simp
  ·exact acg _ (rS e)
theorem DT(C:Nat):(Sg C).Nodup:=by unfold Sg;split<;>decide+kernel
theorem GE(C:Nat):(Sg C).length<100:=by unfold Sg;split<;>decide+kernel
structure Cls(K:W.Frag)(C:Addr):Prop where
 pg:W.plainGet K C Str.empty=true
 hd:W.hasDictIn K C=true
 po:W.plainOver K C=true
 sa:W.findIn K (.ref C) "__setattr__"=some (some (.builtin "object.__setattr__"))
def vG(K:W.Frag)(C:Addr)(f:Str):Prop:=W.findIn K (.ref C) f=some none
structure sK(K:W.Frag)(C:Addr)(m:Str)(f:Addr):Prop where
 at_:W.findIn K (.ref C) m=some (some (.ref f))
 fn:W.isFn K (.ref f)=true
 kp:W.keepIn K (.ref f)=true
structure Mk(K:W.Frag)(C f:Addr):Prop where
 makes:W.makesIn K C=true
 init:W.findIn K (.ref C) "__init__"=some (some (.ref f))
 fn:W.isFn K (.ref f)=true
 kp:W.keepIn K (.ref C)=true
def OM(g:Heap)(a dx C:Addr)(fs:List (Str×Value)):Prop:=g.get? a=some (W.instObj C dx)/\∃od,g.get? dx=some od/\Uz od fs
section
variable{M:Model}{A:Around}{E:Value->Shared->Prop}{P:Program}{wd:World}{K:W.Frag}{s:Shared}{a dx C:Addr}{fs:List (Str×Value)}{f:Str}
theorem AU{od:Obj}(n:Uz od fs)(name:Str):W.lookIn name od=some (fs.lookup name):=by
 obtain⟨es,ep,hd,hk,_,hm⟩:=n;have e:=hm name;unfold nsFind findBy at e;rw[<- Array.find?_toList]at e;unfold W.lookIn;rw[hd];dsimp only
 split
 ·rename_i y q;rw[q]at e;exact congrArg some e
 ·rename_i q;rw[q]at e
  have n:es.toList.any (·.refKey)=false:=by rw[aeT];intro y hy;obtain⟨z,t,X4⟩:=hk y (Array.mem_toList_iff.mp hy);simp[DictEntry.refKey,X4]
  rw[if_neg (by rw[n];exact aei)];exact congrArg some e
theorem OM.look{g:Heap}(I:OM g a dx C fs):∃od,W.InstAt g a (W.instObj C dx) C (some od)/\∀name,W.lookIn name od=some (fs.lookup name):=
 let⟨hx,od,ho,n⟩:=I;⟨od,⟨hx,rfl,rfl,ho⟩,AU n⟩
theorem Gr{b:Bool}{v:Value}{Q:Value->Shared->Prop}(k:K.In s.heap)(I:OM s.heap a dx C fs)(c:Cls K C)(n:vG K C f)(l:fs.lookup f=some v)(hv:W.handedIn v=true)(h:Q v { s with toks:=s.toks+1 }):wpAny (model P wd) A (getAttr (.ref a) f b) Q E s:=by obtain⟨od,J,hl⟩:=I.look;exact W.get_value k J (agM c.pg).1 (W.findObj_own c.hd n rfl (by rw[hl,l])) hv h
theorem DH{g:Addr}{pl:Sem Bool}{Q:Value×List Value->Shared->Prop}(k:K.In s.heap)(I:OM s.heap a dx C fs)(c:Cls K C)(m:sK K C f g)(l:fs.lookup f=none)(h:Q (.ref g,[.ref a]) s):wpAny (model P wd) A (getMethod (.ref a) f pl) Q E s:=by obtain⟨od,J,hl⟩:=I.look;exact W.method_fn k J (agM (name:=f) c.pg).1 (agM (name:=f) c.pg).2 m.at_ (beq_iff_eq.mp m.fn) (by show(W.lookIn f od).map (·.isSome)=some false;rw[hl,l];rfl) h
theorem EZ{v:Value}{Q:Unit->Shared->Prop}(k:K.In s.heap)(I:OM s.heap a dx C fs)(ne:dx≠a)(c:Cls K C)(n:vG K C f)(z:fs.length<=sizeLine)(h:∀h',h'.Ns1 dx (fun y=>if y=f then some v else fs.lookup y)->Heap.SameBut dx s.heap h'->Q () { s with heap:=h',toks:=s.toks+2 }):wpAny (model P wd) A (setAttr (.ref a) f v) Q E s:=by
 obtain⟨od,J,hl⟩:=I.look;obtain⟨hx,VK,ho,es,ep,q1,q2,q3,q4⟩:=id I;have ns:s.heap.Ns1 dx fun y=>fs.lookup y:=⟨VK,es,ep,ho,q1,q2,q3,q4⟩
 have hw:PySem.Within (fun y=>fs.lookup y) (fs.map (·.1)):=fun y hy=>by
  cases e:fs.lookup y with
  |none=>exact absurd e hy
  |some v=>exact acK.mpr ⟨(y,v),rS e,rfl⟩
 refine W.set_plain k J c.sa (W.osa_open (s:={ s with toks:=s.toks+1 }) (r:=none) k J c.po (by unfold W.takerIn;rw[show W.findIn K (.ref C) f=some none from n];rfl) fun b=>?_);obtain⟨cd,hc,O1⟩:=W.any_some c.hd;refine ab6 (ach (ab6 (ab6 (wpAny_loadPart (show s.heap.get? a=some ⟨.ref C,some dx,.plain, #[]⟩from hx) (ab6 (ahz (s:={ s with toks:=s.toks+1 }) (W.looks_clsIn k hc) ?_))))));rw[O1];refine ach (a:=some dx) (ab6 (ach (ab6 ?_)));refine wpAny_nsSet1 (s:={ s with toks:=s.toks+1 }) ns fun h' ZF W3=>?_;obtain⟨oD,esD,epD,XK,Yb,Yg⟩:=ZF.count (ag1 f v hw);exact ab6 (wpAny_lookBehind XK (by rw[Yb];exact pastItsLine_dict (ace Yg (by rw[acw,ab9];omega))) (ach (h _ ZF W3)))
end
section
variable{G:SC}{X:Cx}{w w1:Wo}{ρ:Ev}{h:List PO}{s':Shared}{a:Addr}{i:Nat}{po:PO}
theorem Nw.upd(H:HR X.toSC w h)(em:w.m[i]? =some a)(n:w.F a=none)(k:∀b o,w.s.heap.get? b=some o->b=a\/w.O b=some a\/s'.heap.get? b=some o)(d:∀b o,w.s.heap.get? b=some o->∃o',s'.heap.get? b=some o')(q:sJ X.toSC w.F w.m w.O s'.heap a po)(ho:s'.os=w.s.os:=by rfl)(hg:s'.gens=w.s.gens:=by rfl):Nw X w { w with s:=s' } (h.set i po):=by
 have k':∀b o,w.s.heap.get? b=some o->b≠a->w.O b≠some a->s'.heap.get? b=some o:=fun b o e x y=>(k b o e).elim (fun z=>absurd z x) fun z=>z.resolve_left y;refine⟨⟨ho,fun q=>hg▸q,fun _ _ e=>e,fun _ _ e=>e,⟨[],by simp⟩,d,fun b o q _=>⟨o.slots,⟨k' b o q.1 (fun z=>q.2.1 (z▸acj em)) (by rw[q.2.2.2];exact fun z=>nomatch z),q.2⟩,.inr rfl⟩⟩,fun b o e=>k' b o (H.sub b o e) (fun z=>by rw[z,n]at e;cases e) (fun z=>by rw[(H.own b a z).2.2]at e;cases e),fun b x e=>let⟨⟨o,q⟩,z⟩:=H.own b x e;⟨d b o q,z⟩,by simp[H.len],H.nd,fun j o b e1 e2=>?_⟩
 by_cases z:j=i
 ·subst z
  cases em.symm.trans e2
  rw[adl (H.len▸(acd.mp em).1)]at e1
  cases e1;exact q
 ·rw[acX (acW z)]at e1
  have nb:b≠a:=fun y=>z (by obtain⟨l1,q1⟩:=acd.mp e2;obtain⟨l2,q2⟩:=acd.mp em;exact(aew H.nd).mp (q1.trans (y.trans q2.symm)))
  exact(H.obj j o b e1 e2).on (fun _ _ e=>e) (fun _ e=>e) (fun _ _ e=>e) (fun c o e y=>k' c o e (y.elim (fun y=>y▸nb) fun y z=>by subst z;exact(H.own _ _ y).2.1 (acj em)) (y.elim (fun y z=>(H.own c a z).2.1 (y▸acj e2)) fun y z=>nb (adD (y.symm.trans z)))) id
inductive Ob0(G:SC)(w:Wo)(C i:Nat)(p:PV)(u:Value)(ps:List PV):Prop where
 |mk (a Ca dx:Addr)(vs:List Value)(_:u=.ref a)(_:p=.ref i)(_:w.m[i]? =some a)(_:w.F a=none)(_:G.T C=some Ca)(_:OM w.s.heap a dx Ca ((Sg C).zip vs))(_:dx≠a)(_:w.O dx=some a)(_:vs.length<=(Sg C).length)(_:aB G w.F w.m ps vs)
theorem HR.ob{C:Nat}{p:PV}{u:Value}{ps:List PV}(H:HR G w h)(r:bq G w.F w.m p u)(e:sV C h p=some (i,ps)):Ob0 G w C i p u ps:=by
 unfold sV at e
 split at e
 ·split at e
  ·rename_i q
   split at e<;>cases e
   subst_vars
   cases r with
   |ref em=>obtain⟨f,Ca,dx,od,vs,c,e1,o,e2,n,l,r⟩:=H.obj _ _ _ q em;exact⟨_,Ca,dx,vs,rfl,rfl,em,f,c,⟨e1,od,e2,n⟩,fun z=>(H.own _ _ o).2.1 (z▸acj em),o,l,r⟩
  ·cases e
 ·cases e
theorem JN{F:Fz}{m:List Addr}{p:PV}{u:Value}(r:bq G F m p u):W.handedIn u=true:=by cases r<;>rfl
structure OC(X:Cx)(C:Nat):Prop where
 ex:∃Ca,X.T C=some Ca/\Cls X.K Ca/\∀f∈Sg C,vG X.K Ca f
variable{f:Str}{o value:Expr}{fo fv:Ex}{pos pos' apos p0:Pos}{C j:Nat}
theorem uM(oc:OC X C)(hj:(Sg C)[j]? =some f)(ho:RE X o fo)(hb:attributeBase o f X.env (eval o X.env)=eval o X.env:=by rfl):RE X (.Attribute o f pos) (c1 (uQ C j) fo):=⟨fun I p=>by
 obtain⟨Ca,t,c,n⟩:=oc.ex;refine Attribute_any_ (ho.r I (p.bind fun w1 h1 a u y r p=>?_)) (by rw[arm_eval_Attribute,hb]);unfold uQ at p
 split at p
 ·rename_i e;obtain⟨a,Cb,dx,vs,rfl,_,em,_,c',O,_,_,_,rr⟩:=y.2.ob r e
  cases t.symm.trans c'
  split at p
  ·obtain⟨v,e3,rq⟩:=rr.get ‹_›;exact Gr (I.on y).QK O c (n f (acj hj)) (qK (DT C) hj e3) (JN rq) (p.now y.2 (y.2.Rf rq))
  ·exact p.elim
 ·exact p.elim⟩
theorem xN(oc:OC X C)(hj:(Sg C)[j]? =some f)(ho:RE X o fo)(hv:RE X value fv)(hs:swapsWith value (some (.Attribute o f pos')) pos.line X.env=pure false:=by rfl):RS X (.Assign [.Attribute o f pos'] value pos) (qW C j fo fv):=⟨fun{w ρ h Q E} I p=>by
 obtain⟨Ca,t,c,n⟩:=oc.ex;refine aeX (hv.r I (bx.e p I fun w1 h1 pv v y1 I1 rv p=>ho.r I1 (bx.e p I1 fun w2 h2 po u y2 I2 r p=>?_))) hs;unfold BW at p
 split at p
 ·rename_i i ps e;obtain⟨a,Cb,dx,vs,rfl,_,em,hf,c',O,ne,od,l,rr⟩:=I2.toHR.ob r e
  cases t.symm.trans c'
  have lj:=(acd.mp hj).1
  have go:∀qs,qs=ps.take j++pv::ps.drop (j+1)->j<=ps.length->bx X w2 Q E (.nx ρ (h2.set i (.obj C qs)))->Wp X (setAttr (.ref a) f v) (fun _=>Q .next) E w2.s:=by
   rintro qs rfl hl p
   have X3:j<=vs.length:=rr.length▸hl;refine EZ I2.QK O ne c (n f (acj hj)) (by have:=GE C;rw[List.length_zip,aed];omega) fun h' ns sb=>?_;obtain⟨VK,es,ep,e1,e2,e3,e4,e5⟩:=id ns
   have y3:=Nw.upd (X:=X) (s':={ w2.s with heap:=h',toks:=w2.s.toks+2 }) (po:=.obj C (ps.take j++pv::ps.drop (j+1))) I2.toHR em hf (fun b o e=>by
     by_cases z:b=dx
     ·exact .inr (.inl (z▸od))
     ·exact .inr (.inr ((sb.2 b z).trans e))) (fun b o e=>by
     by_cases z:b=dx
     ·exact⟨VK,z▸e1⟩
     ·exact⟨o,(sb.2 b z).trans e⟩) ⟨hf,Ca,dx,VK,vs.take j++v::vs.drop (j+1),t,(sb.2 a (acW ne)).trans O.1,od,e1,⟨es,ep,e2,e3,e4,fun m=>by rw[e5 m,yH (DT C) hj X3]⟩,by simp;omega,(rr.td j).1.app (.cons (y2.1.rep rv) (rr.td (j+1)).2)⟩
   exact p.2 _ y3.s (I2.on y3)
  split at p
  ·exact go _ (by rw[List.set_eq_take_append_cons_drop,if_pos ‹_›]) (agb ‹_›) p
  ·split at p
   ·exact go _ (by subst_vars;simp) (Nat.le_of_eq ‹_›) p
   ·exact p.elim
 ·exact p.elim⟩
variable{m x:Str}{e:Expr}{es:List Expr}{fs:Ax}{fn:List PV->List PO->Res PV}
structure ZO(X:Cx)(C:Nat)(m:Str)(fn:List PV->List PO->Res PV):Prop where
 ex:∃Ca c k f fd ps,X.T C=some Ca/\Cls X.K Ca/\sK X.K Ca m f/\m∉Sg C/\Ru X.toSC c k f fd ps fn/\fm k X.A/\(c=true->X.calm=true)/\jM X.K fd ps []
theorem Cg{pl:Sem Bool}(c:ZO X C m fn)(ho:RE X o fo)(ha:RA X (e::es) fs)
  (Ut:sE0 X e es:=by rfl) (Ov:sP0 X es pos:=by rfl)
  (ht:eval (.Call (.Attribute o m apos) (e::es) [] pos) X.env=(do
   let ov <- eval o X.env
   standAt apos.atName
   let(f,first) <- holding [ov] (getMethod ov m pl)
   callWith pos f first (backTo pos (starEach (e::es) X.env)) (backToKw pos (keywordEach [] X.env))):=by rfl):
  RE X (.Call (.Attribute o m apos) (e::es) [] pos) (gD C fn fo fs):=⟨fun I p=>by
 obtain⟨Ca,cc,k,f,fd,ps,t,c,hm,nm,F,hr,hc,hb⟩:=c.ex;refine W.methodCall_KW (pl:=pl) (ho.r I (p.bind fun w1 h1 q u y r p=>?_)) ht
 split at p
 ·obtain⟨a,Cb,dx,vs,rfl,_,em,_,c',O,_⟩:=y.2.ob r ‹_›
  cases t.symm.trans c'
  have I1:=I.on y;exact DH I1.QK O c hm (qJ nm) (aeO (first:=[.ref a]) (h₀:=X.base) I.ok.Qs hm.kp (ha.r pos I1 (p.bind fun w2 h2 qs us y2 r2 p=>⟨(I1.on y2).QK,F.Wm hr hc hb (I1.on y2) (.cons (y2.1.rep r) r2) p⟩)) Ut Ov)
 ·exact p.elim⟩
structure ZK(X:Cx)(C:Nat)(x:Str)(fn:List PV->List PO->Res PV):Prop where
 ex:∃Ca c k f fd ps,X.T C=some Ca/\Mk X.K Ca f/\Ru X.toSC c k f fd ps fn/\fm (k+1) X.A/\(c=true->X.calm=true)/\X.mg x=some (.ref Ca)/\jM X.K fd ps []
theorem make{Ca g:Addr}{fd:FuncData}{k:Nat}{ps:List Str}{qs:List PV}{us:List Value}{Q:Value->Shared->Prop}{E:Value->Shared->Prop}(t:X.T C=some Ca)(M:Mk X.K Ca g){c:Bool}(F:Ru X.toSC c k g fd ps fn)(hr:fm (k+1) X.A)(hc:c=true->X.calm=true)(hb:jM X.K fd ps [])(I:Inv X w ρ h)(r:aB X.toSC w.F w.m qs us)(p:bM X (RV X.toSC) w Q E (Vq C fn qs h)):Wp X (call (.ref Ca) us) Q E w.s:=by
 have hl:fn (.ref h.length::qs) (h++ [.obj C []])≠.bad:=fun z=>by unfold Vq at p;rw[z]at p;exact p
 let s1:Shared:={ w.s with heap:=(w.s.heap.push W.emptyDict).push (W.instObj Ca w.s.heap.objs.size) }
 let w1:Wo:=⟨w.F,fun d=>if d=w.s.heap.objs.size then some (w.s.heap.objs.size+1)else w.O d,w.m++ [w.s.heap.objs.size+1],s1⟩
 have g0:s1.heap.get? w.s.heap.objs.size=some W.emptyDict:=acf _ (acq _ rfl)
 have e1:s1.heap.get? (w.s.heap.objs.size+1)=some (W.instObj Ca w.s.heap.objs.size):=by
  have:=acq (w.s.heap.push W.emptyDict) (o:=W.instObj Ca w.s.heap.objs.size) rfl
  rwa [show(w.s.heap.push W.emptyDict).objs.size=w.s.heap.objs.size+1 by simp[Heap.push]]at this
 have n0:=bj w.s.heap
 have n1:w.s.heap.get? (w.s.heap.objs.size+1)=none:=by
  cases q:w.s.heap.get? (w.s.heap.objs.size+1)with
  |none=>rfl
  |some o=>exact absurd (acI q) (ahb (acS _))
 have y:Nw X w w1 (h++ [.obj C []]):=Nw.mk (s':=s1) I.toHR n1 (fun _ _ e=>acf _ (acf _ e)) ⟨(I.free n1).2.1,Ca,_,_,[],t,e1,if_pos rfl,g0,⟨#[],0,rfl,by intro e he;simp at he,by simp[UniqKeys],fun n=>by simp[nsFind,findBy]⟩,by simp,.nil⟩ (fun d b e=>by
   by_cases z:d=w.s.heap.objs.size
   ·rw[z,(I.free n0).2.2]at e;cases e
   ·exact(if_neg z).trans e) fun d b e=>by
   by_cases z:d=w.s.heap.objs.size
   ·exact .inr ⟨z▸n0,fun z'=>ac2 (adJ _) (z.symm.trans z'),_,z▸g0⟩
   ·exact .inl ((if_neg z).symm.trans e)
 have I1:=I.on y;have r0:bq X.toSC w1.F w1.m (.ref h.length) (.ref (w.s.heap.objs.size+1)):=.ref (by rw[I.len];simp[w1]);have r1:aB X.toSC w1.F w1.m (.ref h.length::qs) (.ref (w.s.heap.objs.size+1)::us):=.cons r0 (y.1.reps r);refine ae5 (W.make_core (W.makes_of I.QK M.makes) (W.looks_findIn I.QK M.init) (fun self=>W.bind_fn I.QK self (beq_iff_eq.mp M.fn)) (.inl rfl) (aeN (F.run (w:=w1) (Q:=fun v s=>v=.none/\Q (.ref (w.s.heap.objs.size+1)) s) (E:=E) rfl (hr.make Ca us []) (fun z=>I.ok.hd (hc z)) (by first|exact I.ok.frames|(simpa[Around.under,Code.envs,Code.isFrame,pushEnvs]using I.ok.frames)) I1.toWd I1.ok r1 (by simpa using hb s1 _ I1.QK (by rw[acH,<- r1.length];exact F.len _ _ hl)) ?_) ?_))
 ·unfold Vq at p
  split at p
  ·rename_i e;rw[e];exact fun w' x y' rx=>by obtain rfl:=rx.vn;exact⟨rfl,p.2 _ _ (y.trans y') (y'.1.rep r0)⟩
  ·exact p.elim
 ·intro r s hq
  cases r with
  |error e=>exact hq
  |ok fl=>
   cases fl with
   |ret u=>exact hq
   |_=>exact False.elim hq
theorem IF(c:ZK X C x fn)(hg:Gl X x)(ha:RA X (e::es) fs)(P0:nD0 x:=by decide)(he:sE0 X e es:=by rfl)(Ov:sP0 X es pos:=by rfl):RE X (.Call (.Name x p0) (e::es) [] pos) (Bj C fn fs):=⟨fun I p=>by obtain⟨Ca,cc,k,f,fd,ps,t,M,F,hr,hc,hm,hb⟩:=c.ex;exact acY (I.Uv hg hm (aeO (h₀:=X.base) I.ok.Qs M.kp (ha.r pos I (p.bind fun _ _ _ _ y r p=>⟨(I.on y).QK,make t M F hr hc hb (I.on y) r p⟩)) he Ov) P0)⟩
end
end Z
namespace L3
end L3
namespace Z
open PySem PySem.Spec PyProof.Rows L3 L2
section
variable{G:SC}{X:Cx}{w w1:Wo}{ρ:Ev}{h:List PO}{o e:Expr}{es:List Expr}{fo:Ex}{fs:Ax}{m x:Str}{pos apos p0:Pos}
theorem yV{u:Value}{p:PV}(hg:Gl X x)(hm:X.mg x=some u)(r:∀F m,(∀b o,X.base.get? b=some o->F b=some o)->bq X.toSC F m p u)(hd:nD0 x:=by decide):RE X (.Name x pos) (cK p):=⟨fun{w ρ h Q E} I q=>I.Uv hg hm (q.here I.toHR (r w.F w.m I.bs)) hd⟩
theorem ID{n:String}(hg:Gl X x)(hm:X.mg x=none)(hv:bootBuiltins x=some (.type n))(hn:x≠"__name__":=by decide)(hd:nD0 x:=by decide):RE X (.Name x pos) (cK (.ty n)):=⟨fun I p=>I.blt hg hm hv (p.here I.toHR (.ty n)) hn hd⟩
end
end Z
namespace L2
open PySem PySem.Spec PyProof.Rows PySem.W PySem.Builtin PySem.Builtin.ObjectAttr PySem.Builtin.Getset_descriptor
structure Nh(K:Frag)(C:Addr):Prop where
 ga:findIn K (.ref C) "__getattribute__"=some (some (.builtin "BaseException.__getattribute__"))
 gt:findIn K (.ref C) "__getattr__"=some none
 mb:mroIn K C (.type "BaseException")=some true
noncomputable def xC:List Value->Bool
 |.ref _::r=>xC r
 |l=>l==[.type "ValueError",.type "Exception",.type "BaseException",.type "object"]||l==[.type "Exception",.type "BaseException",.type "object"]
theorem jQ:∀{l:List Value},xC l=true->(l= [.type "ValueError",.type "Exception",.type "BaseException",.type "object"]\/l= [.type "Exception",.type "BaseException",.type "object"])\/∃c r,l=.ref c::r/\xC r=true:=by
 intro l e;unfold xC at e
 split at e
 ·exact .inr ⟨_,_,rfl,e⟩
 ·rw[ac4]at e;exact .inl (e.imp beq_iff_eq.mp beq_iff_eq.mp)
theorem vM(self:Value):∀(l:List Value),xC l=true->refuseLoop self "__setattr__" l=pure ():=by
 intro l
 induction l with
 |nil=>intro e;rcases jQ e with(z|z)|⟨_,_,z,_⟩<;>cases z
 |cons x r ih=>
  intro e;rcases jQ e with(z|z)|⟨c,r',z,e'⟩
  ·rw[z];exact PySem.F.store_ValueError.passes self
  ·rw[z];exact PySem.F.store_Exception.passes self
  ·cases z;rw[refuseLoop_ref];exact ih e'
theorem vN:∀(l:List Value),xC l=true->l.contains (.type "object")=true:=by
 intro l
 induction l with
 |nil=>intro e;rcases jQ e with(z|z)|⟨_,_,z,_⟩<;>cases z
 |cons x r ih=>
  intro e;rcases jQ e with(z|z)|⟨c,r',z,e'⟩
  ·rw[z];decide+kernel
  ·rw[z];decide+kernel
  ·cases z;rw[ad0,ih e',aeV]
def Ig(K:Frag)(C:Addr):Bool:=(clsIn K C).any fun cd=>cd.hasDict&&xC cd.mro
noncomputable def qM(K:Frag)(C:Addr)(Qm:List Value)(J_:String):Bool:=match K.lookup C with
 |some ⟨.type "type",_,.cls cd,sl⟩=>(match cd.mro,sl.toList with
  |.ref C'::bm,[_,_,_,_,some (.builtin n),_]=>C'==C&&(n==J_&&(!cd.hasDel&&tailIn K Qm bm))
  |_,_=>false)
 |_=>false
inductive Vj0(h:Heap)(C:Addr)(Qm:List Value)(J_:String):Prop where
 |mk (bm:List Value)(N:Addr)(nm q:Str)(bs:List Value)(hdct:Bool)(sn:List Str)(sub:List Value)(ab:Bool)(col:Option Bool)(dd:Option Addr)(k0 k1 k2 k3 k5:Option Value)(_:h.get? C=some (excClassObj nm q C N bs bm hdct sn sub ab col dd k0 k1 k2 k3 k5 J_))(_:OwnTail h Qm bm)
theorem vJ{K:Frag}{h:Heap}{C:Addr}{Qm:List Value}{J_:String}(Qs:K.In h)(ok:qM K C Qm J_=true):Vj0 h C Qm J_:=by
 unfold qM at ok
 split at ok
 case h_2=>exact absurd ok (by decide)
 case h_1 dict Vf Xe lk=>
  split at ok
  case h_2=>exact absurd ok (by decide)
  case h_1 C2 tl f0 f1 f2 f3 nid f5 em es=>
   rw[ab3,ab3,ab3]at ok;obtain⟨z1,z2,z3,z4⟩:=ok;rw[aeW]at z3;have Wf:Xe= #[f0,f1,f2,f3,some (.builtin nid),f5]:=af5.mp es
   cases beq_iff_eq.mp z1
   cases beq_iff_eq.mp z2
   rcases Vf with⟨c1,c2,c3,c4,c5,c6,c7,c8,c9,Yt,Ys⟩
   change c3=_ at em;change Ys=false at z3;subst em z3 Wf;exact⟨tl,c4,c1,c5,c2,c6,c7,c8,c9,Yt,dict,f0,f1,f2,f3,f5,Qs _ _ lk,tail_of_in Qs z4⟩
section
variable{prog:Program}{w:World}{A:Around}{E:Value->Shared->Prop}{h:Heap}{g:Array GenState}{d:Drawn}{t:Nat}{os:OsState}
variable{nm q:Str}{C N fI:Addr}{bs bm Qm Uw us:List Value}{hdct:Bool}{sn:List Str}{sub:List Value}{ab:Bool}{col:Option Bool}{dd:Option Addr}{k0 k1 k2 k3 k5:Option Value}{B Bn J_ nid Pg inN:String}{oI:Obj}
noncomputable def jx(h:Heap)(C:Addr)(us:List Value):Heap:=
 (h.push { cls:=.type "tuple",data:=.seq us.toArray }).push { cls:=.ref C,data:=.fields #[.ref h.objs.size,.none,.none,.none,.bool false,.none] }
theorem jd{b:Addr}{o:Obj}(e:h.get? b=some o):(jx h C us).get? b=some o:=acf _ (acf _ e)
theorem oE:(jx h C us).get? (h.objs.size+1)=some { cls:=.ref C,data:=.fields #[.ref h.objs.size,.none,.none,.none,.bool false,.none] }:=by unfold jx;heap_get
theorem EK{Q:Fin->Shared->Prop}(Fn:ExcBaseFacts Bn J_ inN Uw)(Uu:Qm.contains (.type Bn)=true)(FB:ExcBaseFacts B nid Pg Qm)(T:OwnTail h Qm bm)
  (hc:h.get? C=some (excClassObj nm q C N bs bm hdct sn sub ab col dd k0 k1 k2 k3 k5 J_)) (li:∀h',(∀b o,h.get? b=some o->h'.get? b=some o)->Looks (model prog w) h' (typeLookup (.ref C) "__init__") (some (.ref fI)))
  (fo:h.get? fI=some oI) (fc:oI.cls=.type "function") (len:us.length<=sizeLine)
  (go:wpAny (model prog w) A (call (.ref fI) (.ref (h.objs.size+1)::us)) (fun r s'=>r=.none/\Q (.done (.ret (.ref (h.objs.size+1)))) s') E ⟨jx h C us,g,d,t,os⟩):
  wpAny (model prog w) A (Builtin.«type.__call__» ⟨.ref C::us,[]⟩) Q E ⟨h,g,d,t,os⟩:=by
 repeat (first|with_reducible refine wpAny_madeBy_exc hc ?_|with_reducible refine aep hc ?_|wp_step)
 refine codeAny_call_builtin_code (afE _ Fn.quiet) (wpAny_check_new_subU Fn Uu T hc (codeAny_exc_new_subU Fn Uu FB T hc ?_ len));change wpAny _ _ _ _ _ _;have V3:(Value.ref C::bm).contains (.ref C)=true:=by rw[ad0];simp
 have c1:(jx h C us).get? C=some (excClassObj nm q C N bs bm hdct sn sub ab col dd k0 k1 k2 k3 k5 J_):=jd hc;have e1:=oE (h:=h) (C:=C) (us:=us);have L:=li (jx h C us) fun b o e=>jd e;have f1:(⟨jx h C us,g,d,t,os⟩:Shared).TypeIs (.ref fI) "function":=⟨_,jd fo,fc⟩
 change wpAny _ _ _ _ _ ⟨jx h C us,g,d,t,os⟩;unfold isInstance
 repeat (first|(with_reducible refine agE c1 ?_;rw[V3])|with_reducible refine aep e1 ?_|wp_step)
 change wpAny _ _ (typeLookup (.ref C) _) _ _ _;refine L.at ?_;refine adu (ab6 ?_);unfold bindSpecial;refine ab6 (afq f1 ?_);rw[if_pos (by decide)];refine ach (ab6 (ac5 go (fun r s' z=>?_) fun _ _ z=>z));obtain⟨rfl,z⟩:=z
 wp_walk
 exact z
theorem HX{Q:Value->Shared->Prop}(Fn:ExcBaseFacts Bn J_ inN Uw)(Uu:Qm.contains (.type Bn)=true)(FB:ExcBaseFacts B nid Pg Qm)(T:OwnTail h Qm bm)
  (hc:h.get? C=some (excClassObj nm q C N bs bm hdct sn sub ab col dd k0 k1 k2 k3 k5 J_)) (li:∀h',(∀b o,h.get? b=some o->h'.get? b=some o)->Looks (model prog w) h' (typeLookup (.ref C) "__init__") (some (.ref fI)))
  (fo:h.get? fI=some oI) (fc:oI.cls=.type "function") (len:us.length<=sizeLine)
  (go:wpAny (model prog w) (A.under (.builtin "type.__call__" ⟨.ref C::us,[]⟩)) (call (.ref fI) (.ref (h.objs.size+1)::us)) (fun r s'=>r=.none/\Q (.ref (h.objs.size+1)) s') E ⟨jx h C us,g,d,t,os⟩):
  wpAny (model prog w) A (call (.ref C) us) Q E ⟨h,g,d,t,os⟩:=by
 have g1:=tc_lookup;have g2:=tc_bind (.ref C);have ty:(⟨h,g,d,t,os⟩:Shared).TypeIs (.ref C) "type":=⟨_,hc,rfl⟩
 refine ae5 (codeAny_of_tree ?_);change wpAny _ _ (callAny (.ref C) _) _ _ _
 repeat (any_goals (first|with_reducible refine aep hc ?_|assumption|wp_step))
 refine⟨rfl,codeAny_call_builtin_at (afE _ (by decide+kernel)) entry_typeCall (wpAny_check_type_call_sub hc (EK Fn Uu FB T hc li fo fc len go))⟩
end
noncomputable def kQ(h:Heap)(x:Addr):Heap:=(h.push { cls:=.type "dict",data:=.dict #[] }).update x fun o=> { cls:=o.cls,dict:=some h.objs.size,data:=o.data,slots:=o.slots }
section
variable{prog:Program}{w:World}{A:Around}{E:Value->Shared->Prop}{K:Frag}{x C:Addr}{ox:Obj}{name:Str}{tk:Tok}{v:Value}{s:Shared}
theorem By{h:Heap}(hx:x<h.objs.size):(kQ h x).get? h.objs.size=some { cls:=.type "dict",data:=.dict #[] }:=by unfold kQ;rw[aeC _ _ _ _ (aef hx)];exact Heap.get?_push_at rfl rfl
theorem KY{R:Result->Shared->Prop}(Qs:K.In s.heap)(I:W.InstAt s.heap x ox C none)(ZP:ox.dict=none)(vc:Ig K C=true)(ha:findIn K (.ref C) name=some none)
  (go:∀h',h'.Ns1 s.heap.objs.size (fun y=>if y=name then some v else none)->Heap.SameBut s.heap.objs.size (kQ s.heap x) h'->R (.ok (.ret .none)) { s with heap:=h',toks:=s.toks+1 }):
  codeAny (model prog w) A (.call (.builtin "object.__setattr__") ⟨[.ref x,.str name tk,v],[]⟩) R s:=by
 obtain⟨cd,hc,hv⟩:=any_some vc;rw[ab3]at hv
 have ne:cd.mro.isEmpty=false:=by
  cases z:cd.mro with
  |nil=>rw[z]at hv;exact absurd (vN _ hv.2) (by decide)
  |cons _ _=>rfl
 have isO:Looks (model prog w) s.heap (isInstance (.ref x) (.type "object")) true:=I.type.andThen (looks_mroIn Qs (by unfold mroIn;rw[hc,aha,if_neg (by rw[ne];decide),vN _ hv.2]));have hm:Looks (model prog w) s.heap (mroOf (.ref C)) cd.mro:=(looks_clsIn Qs hc).andThen .now;refine afb ad5.slot.plain ad5.entry (@check_slot (model prog w) _ _ s "object.__setattr__" "object" "__setattr__" (.ref x) [.str name tk,v] [] _ ad5.kind ad5.split isO (ad5.args (.ref x) (.str name tk) v) ?_);rw[osa_eq,refuse_eq];refine ab6 (ab6 (I.type.here (ab6 (hm.here ?_))));rw[vM _ _ hv.2];refine ach (ab6 (I.type.here (ab6 ((looks_findIn Qs ha).here (ab6 (ach (a:=none) ?_))))));obtain⟨hx,Vs,hn, -⟩:=I;obtain⟨oc,odi,oda,VJ⟩:=ox;dsimp only at Vs ZP;subst Vs ZP;refine ab6 (ach (ab6 (ab6 (wpAny_loadPart hx (ab6 ((looks_clsIn Qs hc).here ?_))))));rw[hv.1,if_neg (by decide)];dsimp only;rw[if_neg (by simp[typeHasDict])]
 split
 ·cases hn
 ·have x1:(s.heap.push { cls:=.type "dict",data:=.dict #[] }).get? x=some { cls:=.ref C,data:=oda,slots:=VJ }:=acf _ hx;refine ab6 (wpAny_alloc' (ab6 (wpAny_update' x1 (ach ?_))));show wpAny _ _ (storeInDict s.heap.objs.size (.str name tk) name v) _ _ { s with heap:=kQ s.heap x };have e0:(kQ s.heap x).Ns s.heap.objs.size (fun _=>none):=⟨_, #[],_,By (acI hx),rfl,fun e he=>absurd he (by simp),fun _=>rfl⟩
  unfold storeInDict newKeyGuard;refine ab6 (ach (ab6 (wpAny_nsSet1 (s:={ s with heap:=kQ s.heap x }) (Heap.Ns1.of_empty e0) fun h' n1 sb=>?_)));obtain⟨oD,esD,epD,XK,Yb,Yg⟩:=n1.count (ag1 name v PySem.Within.nil);refine ab6 (wpAny_lookBehind XK (by rw[Yb];exact pastItsLine_dict (ace Yg (by rw[aed,acN];decide))) ?_);exact ach (go h' n1 sb)
end
inductive Ea0(h:Heap)(C:Addr)(Qm:List Value)(J_:String):Prop where
 |mk (bm:List Value)(N:Addr)(nm q:Str)(bs:List Value)(hdct:Bool)(sn:List Str)(sub:List Value)(ab:Bool)(col:Option Bool)(dd:Option Addr)(k0 k1 k2 k3 k5:Option Value)(mN:Str->Option Value)(_:h.get? C=some (excClassObj nm q C N bs bm hdct sn sub ab col dd k0 k1 k2 k3 k5 J_))(_:h.Ns N mN)(_:mN "__init__"=none)(_:OwnTail h Qm bm)
theorem Ea{K:W.Frag}{h:Heap}{C:Addr}{Qm:List Value}{J_:String}(Qs:K.In h)(ok:W.excIn K C Qm J_=true):Ea0 h C Qm J_:=by
 unfold W.excIn at ok
 split at ok
 case h_2=>exact absurd ok (by decide)
 case h_1 dict Vf Xe lk=>
  split at ok
  case h_2=>exact absurd ok (by decide)
  case h_1 C2 tl f0 f1 f2 f3 nid f5 em es=>
   rw[ab3,ab3,ab3,ab3,ab3]at ok;obtain⟨⟨⟨⟨⟨z1,z2⟩,z3⟩,z4⟩,z5⟩,z6⟩:=ok;rw[aeW]at z3;have Wf:Xe= #[f0,f1,f2,f3,some (.builtin nid),f5]:=af5.mp es
   cases beq_iff_eq.mp z1
   cases beq_iff_eq.mp z2
   rcases Vf with⟨c1,c2,c3,c4,c5,c6,c7,c8,c9,Yt,Ys⟩
   change c3=_ at em;change Ys=false at z3;subst em z3 Wf;exact⟨tl,c4,c1,c5,c2,c6,c7,c8,c9,Yt,dict,f0,f1,f2,f3,f5,_,Qs _ _ lk,.of_isNs (W.isNs_of_in Qs z5),W.nsMap_none_of_in Qs z5 (beq_iff_eq.mp z6),W.tail_of_in Qs z4⟩
structure Xa(K:Frag)(C fI:Addr)(f:Str):Prop where
 lies:qM K C [.type "ValueError",.type "Exception",.type "BaseException",.type "object"] "ValueError.__new__"=true\/qM K C [.type "Exception",.type "BaseException",.type "object"] "Exception.__new__"=true
 init:findIn K (.ref C) "__init__"=some (some (.ref fI))
 fn:isFn K (.ref fI)=true
 kp:keepIn K (.ref C)=true
 v:Ig K C=true
 sa:findIn K (.ref C) "__setattr__"=some (some (.builtin "object.__setattr__"))
 no:findIn K (.ref C) f=some none
 hd:hasDictIn K C=true
 x:Nh K C
inductive Xp0(Ee:Value->Shared->Prop)(v:Value)(s1:Shared):Prop where
 |mk (e C N t:Addr)(dx:Option Addr)(sl:Array (Option Value))(nm q:Str)(bs bm:List Value)(hdct:Bool)(sn:List Str)(sub:List Value)(ab:Bool)(col:Option Bool)(dd:Option Addr)(k0 k1 k2 k3 k5:Option Value)(nid:String)(_:v=.ref e)(_:s1.heap.get? C=some (excClassObj nm q C N bs bm hdct sn sub ab col dd k0 k1 k2 k3 k5 nid))(_:bm.contains (.type "BaseException")=true)(_:s1.heap.get? e=some ⟨.ref C,dx,.fields #[.ref t,.none,.none,.none,.bool false,.none],sl⟩)(_:Ee (.ref e) s1)
theorem xP{M:Model}{A:Around}{Ee:Value->Shared->Prop}{env:Env}{x:Sem Value}{Q:Flow->Shared->Prop}{s:Shared}(hh:A.handled=none)
  (h:wpAny M A x (Xp0 Ee) Ee s):
  wpAny M A (raiseStmt env (some x) none) Q Ee s:=by
 unfold raiseStmt;refine ab6 (ac5 h (fun v s1 z=>?_) fun _ _ z=>z);obtain⟨e,C,N,t,dx,sl,nm,q,bs,bm,hdct,sn,sub,ab,col,dd,k0,k1,k2,k3,k5,nid,rfl,hC,hB,he,hE⟩:=z;have both:(Value.ref C::bm).contains (.type "BaseException")=true:=by rw[ad0,hB,aeV]
 obtain⟨hp,g,d,tk,os⟩:=s1
 repeat (first|with_reducible refine aep he ?_|with_reducible refine aep hC ?_|(with_reducible refine agE hC ?_;rw[both])|wp_step)
 exact wpAny_raiseNew_none hh hE
end L2
namespace L3
open PySem
noncomputable def uG(C:Nat)(as:Ax):Sx:=fun ρ h=>match as ρ h with
 |.ok qs h1=>if qs.length<=sizeLine then .exc (.cls C) h1 else .bad
 |.exc e h1=>.exc e h1
 |.bad=>.bad
noncomputable def oQ(C:Nat):Res (List PV)->SR
 |.ok [v] h1=>.exc (.Ql C v) h1
 |.exc e h1=>.exc e h1
 |_=>.bad
def lZ(z:Bool)(C:Nat)(as:Ax):Sx:=if z=true then fun ρ h=>oQ C (as ρ h)else fun _ _=>.bad
end L3
namespace Z
open PySem PySem.Spec PyProof.Rows L3 L2
section
variable{X:Cx}{w w1 w3:Wo}{ρ:Ev}{h:List PO}{a:Addr}{o:Obj}
theorem tX{vs:Array Value}{a0:Value}(ok:X.Ok)(W:Wd X w3 h)(y:Q0 X w w3)(tr:X.tr=true)(nw:w.s.heap.get? a=none)(ha:Has w3 a o)(hd:o.data=.fields vs)(h0:vs[0]? =some a0)(h1:vs[1]? =some .none):Wu X w w3 a o.cls o.dict:=by
 have na:a∉X.fs:=fun z=>by obtain⟨o',q,d⟩:=W.fr a z;have q:=q.1;rw[ha.1]at q;cases q;exact d vs hd
 refine⟨⟨a0,PySem.W.hideAll w3.s.heap (a::X.fs),.inr ⟨tr,fun b o q=>PySem.W.of_hideAll _ q,agv _ (by simp),tV (fun env he=>?_) fun b hb=>let⟨o,q,d⟩:=W.fr b hb;⟨o,q.1,d⟩,o,vs,ha.1,rfl,hd,h0,h1⟩,fun b o' e n=>?_,fun b z=>?_⟩,o,ha.1,rfl⟩
 ·obtain⟨k,L,e,_⟩:=ok.sf env he;exact⟨k,L,e,agv _ (acg _ (List.mem_filterMap.mpr ⟨env,he,e⟩))⟩
 ·obtain⟨o2,q⟩:=y.dom b o' e;exact⟨o2,agG _ q (by simp only[acn,not_or];exact⟨fun z=>(by rw[z,nw]at e;cases e),n⟩)⟩
 ·have nb:b∉a::X.fs:=by simp only[acn,not_or];exact⟨fun q=>z (q▸ha.2),fun q=>let⟨_,r,_⟩:=W.fr b q;z r.2⟩
  have go:(∃o,w3.s.heap.get? b=some o)->∃o',(PySem.W.hideAll w3.s.heap (a::X.fs)).get? b=some o':=(by rintro ⟨o,q⟩;exact ⟨o,agG _ q nb⟩)
  by_cases z1:b∈w3.m
  ·exact go (W.toHR.there z1)
  ·cases z2:w3.F b with
   |some o=>exact go ⟨o,W.sub b o z2⟩
   |none=>cases z3:w3.O b with
    |some x=>exact go (W.own b x z3).1
    |none=>exact absurd ⟨z1,z2,z3⟩ z
structure ZX(X:Cx)(C:Nat)(x:Str):Prop where
 ex:∃Ca Qm J_ Bn inN Uw B nid Pg,ExcBaseFacts Bn J_ inN Uw/\Qm.contains (.type Bn)=true/\ExcBaseFacts B nid Pg Qm/\W.excIn X.K Ca Qm J_=true/\X.T C=some Ca/\X.mg x=some (.ref Ca)
variable{x:Str}{C:Nat}{np Pj pos:Pos}{e0:Expr}{es:List Expr}{fs:Ax}
theorem Cd(c:ZX X C x)(hg:Gl X x)(ha:RA X (e0::es) fs)(hc:X.calm=true:=by rfl)(XF:X.tr=true:=by rfl)(P0:nD0 x:=by decide)(he:starEach (e0::es) X.env=(false,eval e0 X.env)::starEach es X.env:=by rfl)(Ov:(backTo Pj (starEach es X.env)).any (·.1)=false:=by rfl):
  RS X (.Raise (some (.Call (.Name x np) (e0::es) [] Pj)) none pos) (uG C fs):=⟨fun{w ρ h Q E} I p=>by
 obtain⟨Ca,Qm,J_,Bn,inN,Uw,B,nid,Pg,Fn,Uu,FB,ok,t,hm⟩:=c.ex;obtain⟨bm,N,nm,q,bs,hdct,sn,sub,ab,col,dd,k0,k1,k2,k3,k5,mN,hC,hN,hni,T⟩:=Ea I.ok.Qs ok
 have step:=ha.r Pj I (bx.e (k:=fun qs h1=>if qs.length<=sizeLine then .exc (.cls C) h1 else .bad) (show bx X w Q E (fW (fs ρ h) _) by unfold uG at p;cases z:fs ρ h<;>rw[z]at p<;>exact p) I (G:=fun us s2=>us.length<=sizeLine/\s2.heap.get? Ca=some (excClassObj nm q Ca N bs bm hdct sn sub ab col dd k0 k1 k2 k3 k5 J_)/\s2.heap.Ns N mN/\OwnTail s2.heap Qm bm/\∀(h':Heap)(e:Addr),s2.heap.MadeExcOf h' e (.ref Ca) us->E (.ref e) { s2 with heap:=h' }) fun w2 h2 qs us y I2 r p=>by
  split at p
  ·refine⟨r.length▸ ‹_›,I2.bk hC,hN.keeps fun _ _ e=>I2.bk e,T.keeps fun _ _ e=>I2.bk e,fun h' e made=>?_⟩;have n:=Nw.also (X:=X) (s':={ w2.s with heap:=h' }) I2.toHR made.keeps;have I3:=I2.on n;obtain⟨tt,e1,_⟩:=made.there;exact p.2 _ _ ρ n.s I3 ⟨e,_,none,rfl,tX I3.ok I3.toWd n.s XF made.new ⟨e1,I2.toHR.free made.new⟩ rfl rfl rfl,Ca,t,rfl,rfl⟩
  ·exact p.elim)
 refine wpAny_Raise_call_subU (C:=Ca) (nm:=nm) (q:=q) (N:=N) (bs:=bs) (bm:=bm) (hdct:=hdct) (sn:=sn) (sub:=sub) (ab:=ab) (col:=col) (dd:=dd) (k0:=k0) (k1:=k1) (k2:=k2) (k3:=k3) (k5:=k5)
  Fn Uu FB (mN:=mN) (T.hasType FB.hasBase) (I.ok.hd hc) ?_ hni (I.Uv hg hm ⟨rfl,?_⟩ P0)
 ·rw[he];show(false||(backTo Pj (starEach es X.env)).any (·.1))=false;rw[Ov];rfl
 ·rw[he]at step |-;exact agA (ac5 step (fun us s2 z=>⟨rfl,z⟩) fun _ _ z=>z)⟩
structure Yz(G:SC)(fI:Addr)(fd:FuncData)(ps:List Str)(f:Str):Prop where
 len:ps.length=2
 run:∀{X:Cx}{w:Wo}{h:List PO}{A:Around}{C:Nat}{Ca a:Addr}{o:Obj}{vs:Array Value}{v:PV}{u:Value}{args:Args}{Q:Value->Shared->Prop}{E:Value->Shared->Prop},X.toSC=G->fm 1 A->A.handled=none->A.frames=some X.stack->Wd X w h->X.Ok->G.T C=some Ca->Xa G.K Ca fI f->Has w a o->o.cls=.ref Ca->o.data=.fields vs->o.dict=none->bq G w.F w.m v u->BindsTo w.s fd args (ps.zip [.ref a,u])->
  (∀h' t dx od,(∀b o,b≠a->w.s.heap.get? b=some o->h'.get? b=some o)->h'.get? a=some { o with dict:=some dx }->w.s.heap.get? dx=none->h'.get? dx=some od->Uz od [(f,u)]->Q .none { w.s with heap:=h',toks:=t })->codeAny (model G.prog G.w) A (.call (.ref fI) args) (RC Q E) w.s
theorem HR.freeze{G:SC}(H:HR G w h)(ha:Has w a o):HR G ⟨iV w.F a o,w.O,w.m,w.s⟩ h:=by
 have nb:∀{b},¬ Ro w b->b≠a:=fun n z=>n (z▸ha.2);refine⟨fun b x e=>?_,fun d b e=>let⟨q,z,y⟩:=H.own d b e;⟨q,z,cQ (nb fun z=>by rw[z.2.2]at e;cases e) y⟩,H.len,H.nd,fun i po b e1 e2=>(H.obj i po b e1 e2).on (dE ha.2.2.1) (fun _ e=>e) (fun _ _ e=>e) (fun _ _ e _=>e) (cQ (nb fun z=>z.1 (acj e2)))⟩
 by_cases z:b=a
 ·subst z;cases bC.symm.trans e;exact ha.1
 ·exact H.sub b x ((kj z).symm.trans e)
theorem DU{G:SC}{N ps:List Str}{qual name f x y':Str}{st:Stmt}{fI:Addr}{fd:FuncData}{p1 p2 p3 p4:Pos}(F:Vh G.K name qual st fI fd)(S:mD N ps (aX st))(hl:ps.length=2)(hx:N[0]? =some x)(hy:N[1]? =some y')(hb:iF st= [.Assign [.Attribute (.Name x p1) f p2] (.Name y' p3) p4])
  (hs:∀env,swapsWith (.Name y' p3) (some (.Attribute (.Name x p1) f p2)) p4.line env=pure false:=by intro _;rfl) (hd:nD0 x:=by decide) (T7:(x==("__classdict__":Str))=false:=by decide) (O1:(y'==("__debug__":Str))=false:=by decide) (Yd:(y'==("__classdict__":Str))=false:=by decide):Yz G fI fd ps f where
 len:=hl
 run {X w h A C Ca a o vs v u args Q E} hG hr hn hf I ok t c ha Vs hda hdi r hbd q:=by
  subst hG
  have H':Wd X ⟨iV w.F a o,w.O,w.m,w.s⟩ h:=⟨I.toHR.freeze ha,I.ba,fun b o' e=>dE ha.2.2.1 _ _ (I.bs b o' e),fun b hb=>by obtain⟨o',z,d⟩:=I.fr b hb;exact⟨o',⟨z.1,z.2.1,cQ (fun y=>by subst y;have z:=z.1;rw[ha.1]at z;cases z;exact d vs hda) z.2.2.1,z.2.2.2⟩,d⟩⟩
  refine pK (c:=true) (w:=⟨iV w.F a o,w.O,w.m,w.s⟩) (qs:=[.exc C,v]) F S hr (fun _=>hn) hf H' ok hl.symm (.cons (.exc t bC Vs hda) (.cons (r.mono (dE ha.2.2.1) (.inr fun _ _ e=>e)) .nil)) hbd fun cd s1 _ nw y J gr=>?_;obtain⟨h1,t1,rfl,kp,m,ns,lk⟩:=gr;have px:ps[0]? =some x/\ps[1]? =some y':=by rw[<- S.pre,hl];exact⟨by rw[adn (by decide)];exact hx,by rw[adn (by decide)];exact hy⟩
  rw[hb];refine ae4 (aeX ((lk 1 _ _ px.2 rfl).nm ns J.ok ((lk 0 _ _ px.1 rfl).nm ns J.ok ?_ hd T7) O1 Yd) (hs _));have ho:h1.get? a=some o:=kp _ _ ha.1;have I0:W.InstAt h1 a o Ca none:=⟨ho,Vs,by unfold W.notCls;rw[hda],by rw[hdi];exact True.intro⟩
  refine W.set_plain J.QK I0 c.sa (KY (s:={ w.s with heap:=h1,toks:=t1+1 }) J.QK I0 hdi c.v c.no fun h' Pa sb=>aek ?_);obtain⟨od,es,ep,e1,e2,e3,e4,e5⟩:=Pa;have ne:a≠h1.objs.size:=ac2 (acI ho)
  have hk:∀b q,b≠a->h1.get? b=some q->h'.get? b=some q:=fun b q hb z=>by rw[sb.2 b (ac2 (acI z))];unfold kQ;rw[aeC _ _ _ _ hb];exact acf _ z
  refine q h' _ h1.objs.size od (fun b q hb z=>hk b q hb (kp b q z)) ?_ ?_ e1 ⟨es,ep,e2,e3,e4,fun n=>?_⟩
  ·rw[sb.2 a ne];unfold kQ;refine aeo _ (acf _ ho) ?_;have fr:=(agU.mp ho).2;obtain⟨oc,od,odt,VJ⟩:=o
   cases odt<;>first|rfl|exact fr
  ·cases z:w.s.heap.get? h1.objs.size with
   |none=>rfl
   |some o=>have:=kp _ _ z;rw[bj]at this;cases this
  ·rw[e5 n]
   by_cases z:n=f
   ·simp[z,List.lookup]
   ·have:(n==f)=false:=by simpa using z
    simp[z,List.lookup,this]
structure ZI(X:Cx)(C:Nat)(x:Str):Prop where
 ex:∃Ca fI fd ps,X.T C=some Ca/\X.mg x=some (.ref Ca)/\Yz X.toSC fI fd ps (UL C)/\Xa X.K Ca fI (UL C)/\jM X.K fd ps []
theorem KW{Ca fI:Addr}{fd:FuncData}{ps:List Str}{v:PV}{u:Value}{Q:Value->Shared->Prop}{E:Value->Shared->Prop}(t:X.T C=some Ca)(F:Yz X.toSC fI fd ps (UL C))(c:Xa X.K Ca fI (UL C))(hb:jM X.K fd ps [])(hr:fm 2 X.A)(hd:X.A.handled=none)(I:Inv X w ρ h)(r:bq X.toSC w.F w.m v u)
  (q:∀h' tk a dx od tt,Nw X w ⟨iV w.F dx od,w.O,w.m,{ w.s with heap:=h',toks:=tk }⟩ h->w.s.heap.get? a=none->dx≠a->h'.get? a=some ⟨.ref Ca,some dx,.fields #[.ref tt,.none,.none,.none,.bool false,.none], #[]⟩->Uz od [(UL C,u)]->Q (.ref a) { w.s with heap:=h',toks:=tk }):Wp X (call (.ref Ca) [u]) Q E w.s:=by
 obtain⟨Qm,J_,Bn,inN,Uw,B,nid,Pg,Fn,Uu,FB,lz⟩:∃Qm J_ Bn inN Uw B nid Pg,ExcBaseFacts Bn J_ inN Uw/\Qm.contains (.type Bn)=true/\ExcBaseFacts B nid Pg Qm/\qM X.K Ca Qm J_=true:=by
  rcases c.lies with l|l
  ·exact⟨_,_,_,_,_,_,_,_,adZ,by decide+kernel,adZ,l⟩
  ·exact⟨_,_,_,_,_,_,_,_,afI,by decide+kernel,afI,l⟩
 obtain⟨bm,N,nm,q0,bs,hdct,sn,sub,ab,col,dd,k0,k1,k2,k3,k5,hC,T⟩:=vJ I.QK lz;have L:∀h',(∀b o,w.s.heap.get? b=some o->h'.get? b=some o)->W.Looks (model X.prog X.w) h' (typeLookup (.ref Ca) "__init__") (some (.ref fI)):=fun h' k=>W.looks_findIn (I.QK.keeps k) c.init
 obtain⟨oI,fo,fc⟩:∃oI,w.s.heap.get? fI=some oI/\oI.cls=.type "function":=by obtain⟨oI,h1,h2⟩:=aee.mp (show(X.K.lookup fI).map (·.cls)=some (.type "function")from beq_iff_eq.mp c.fn);exact⟨oI,I.QK _ _ h1,h2⟩
 have kp:∀b o,w.s.heap.get? b=some o->(jx w.s.heap Ca [u]).get? b=some o:=fun b o e=>jd e;have n:=Nw.also (X:=X) (s':={ w.s with heap:=jx w.s.heap Ca [u] }) I.toHR kp;have I1:=I.on n
 have na:w.s.heap.get? (w.s.heap.objs.size+1)=none:=by
  cases q:w.s.heap.get? (w.s.heap.objs.size+1)with
  |none=>rfl
  |some o=>exact absurd (acI q) (ahb (acS _))
 refine HX (h:=w.s.heap) (g:=w.s.gens) (d:=w.s.drawn) (t:=w.s.toks) (os:=w.s.os) Fn Uu FB T hC L fo fc (by show 1<=sizeLine;decide) ?_;have bd:=hb { w.s with heap:=jx w.s.heap Ca [u] } [.ref (w.s.heap.objs.size+1),u] I1.QK (by rw[acH,F.len];rfl);rw[acH]at bd;refine ae5 (aeN (F.run (w:={ w with s:={ w.s with heap:=jx w.s.heap Ca [u] } }) (args:=⟨[.ref (w.s.heap.objs.size+1),u],[]⟩) (Q:=fun v s=>v=.none/\Q (.ref (w.s.heap.objs.size+1)) s) (E:=fun _ _=>False) rfl (hr.make Ca [u] []) hd (by first|exact I.ok.frames|(simpa[Around.under,Code.envs,Code.isFrame,pushEnvs]using I.ok.frames)) I1.toWd I1.ok t c ⟨oE,I.toHR.free na⟩ rfl rfl rfl r bd fun h' tk dx od k ha nd hdx ns=>⟨rfl,?_⟩) fun r s' hq=>?_)
 ·have Vo:w.s.heap.get? dx=none:=by
   cases z:w.s.heap.get? dx with
   |none=>rfl
   |some o=>rw[kp _ _ z]at nd;cases nd
  exact q h' tk _ dx od _ (Nw.lay I.toHR Vo (fun b o e=>k b o (fun z=>by rw[z,na]at e;cases e) (kp b o e)) hdx) na (fun z=>by rw[z,oE]at nd;cases nd) ha ns
 ·cases r with
  |error e=>exact hq.elim
  |ok fl=>
   cases fl with
   |ret u=>exact hq
   |_=>exact False.elim hq
theorem tx{k:Nat}{e:Expr}(c:ZI X C x)(hr:fm k X.A)(hg:Gl X x)(ha:RA X [e] fs)(hc:X.calm=true:=by rfl)(XF:X.tr=true:=by rfl)(P0:nD0 x:=by decide)(he:starEach [e] X.env= [(false,eval e X.env)]:=by rfl)(Ov:(backTo Pj (starEach [] X.env)).any (·.1)=false:=by rfl):
  RS X (.Raise (some (.Call (.Name x np) [e] [] Pj)) none pos) (lZ (Nat.ble 2 k) C fs):=⟨fun{w ρ h Q E} I p=>by
 unfold lZ at p
 split at p
 ·rename_i hz;obtain⟨Ca,fI,fd,ps,t,hm,F,c,hb⟩:=c.ex
  obtain⟨Qm,J_,XD,lz⟩:∃(Qm:List Value)(J_:String),Qm.contains (.type "BaseException")=true/\qM X.K Ca Qm J_=true:=by
   rcases c.lies with l|l
   ·exact⟨_,_,by decide+kernel,l⟩
   ·exact⟨_,_,by decide+kernel,l⟩
  obtain⟨bm,N,nm,q0,bs,hdct,sn,sub,ab,col,dd,k0,k1,k2,k3,k5,hC,T⟩:=vJ I.ok.Qs lz;rw[arm_exec_Raise]
  refine ab6 (ae7 (xP (I.ok.hd hc) (ab6 (ac5 (Q:=Xp0 E) (acY (I.Uv hg hm (aeO (h₀:=X.base) I.ok.Qs c.kp (ha.r Pj I ?_) he Ov) P0)) (fun v s1 z=>ab6 (ae7 (ach z))) fun _ _ z=>z))))
  have p:bx X w Q E (fW (fs ρ h) fun qs h1=>oQ C (.ok qs h1)):=by
   have p:bx X w Q E (oQ C (fs ρ h)):=p
   cases z:fs ρ h<;>rw[z]at p<;>exact p
  refine bx.e p I fun w2 h2 qs us y I2 r p=>⟨I2.QK,?_⟩
  unfold oQ at p
  split at p
  ·rename_i z
   cases z
   cases r with
   |cons r t'=>
    cases t'
    refine KW t F c hb (hr.mono (ad2 hz)) (I.ok.hd hc) I2 r fun h' tk a dx od tt n na ne ea ns=>?_;have I3:=I2.on n;have ha:Has ⟨iV w2.F dx od,w2.O,w2.m,{ w2.s with heap:=h',toks:=tk }⟩ a ⟨.ref Ca,some dx,.fields #[.ref tt,.none,.none,.none,.bool false,.none], #[]⟩:=⟨ea,(I2.toHR.free na).1,cQ (acW ne) (I2.toHR.free na).2.1,(I2.toHR.free na).2.2⟩
    exact⟨a,Ca,N,tt,_,_,nm,q0,bs,bm,hdct,sn,sub,ab,col,dd,k0,k1,k2,k3,k5,_,rfl,I3.bk hC,T.hasType XD,ea,p.2 _ _ ρ n.s I3 ⟨a,_,_,rfl,tX I3.ok I3.toWd n.s XF na ha rfl rfl rfl,Ca,dx,od,_,_,t,rfl,rfl,bC,ns,by simp[List.lookup],n.1.rep r⟩⟩
  ·rename_i z;cases z
  ·exact p.elim
 ·exact p.elim⟩
end
end Z
namespace L3
noncomputable def MW:PV->Option (Nat×PV)
 |.cls C=>some (C,.exc C)
 |.Ql C v=>some (C,.Ql C v)
 |_=>none
end L3
namespace Z
open PySem PySem.Spec PyProof.Rows L3 L2
section
variable{X:Cx}{w w1 w3:Wo}{ρ:Ev}{h h1:List PO}{a:Addr}{o:Obj}
abbrev Cx.tried(X:Cx):Cx:={ X with tr:=false,Ep:=fun _=>True }
abbrev Cx.suite(X:Cx)(a:Addr):Cx:={ X with A:=X.A.mark (some (.ref a)),calm:=false,tr:=false,Ep:=fun _=>True }
theorem Inv.tried(I:Inv X w ρ h):Inv X.tried w ρ h:=⟨⟨I.toHR,I.ba,I.bs,I.fr⟩,⟨I.ok.Qs,I.ok.gl,I.ok.bl,I.ok.nl,I.ok.kind,I.ok.glob,I.ok.blt,I.ok.inj,I.ok.has,I.ok.hd,I.ok.frames,I.ok.nd,I.ok.sf⟩,I.loc,I.R3,I.ln⟩
theorem Inv.suite(I:Inv X w ρ h):Inv (X.suite a) w ρ h:=⟨⟨I.toHR,I.ba,I.bs,I.fr⟩,⟨I.ok.Qs,I.ok.gl,I.ok.bl,I.ok.nl,I.ok.kind,I.ok.glob,I.ok.blt,I.ok.inj,I.ok.has,fun z=>(nomatch z),I.ok.frames,I.ok.nd,I.ok.sf⟩,I.loc,I.R3,I.ln⟩
theorem Inv.Ue(ok:X.Ok)(I:Inv (X.suite a) w ρ h):Inv X w ρ h:=⟨⟨I.toHR,I.ba,I.bs,I.fr⟩,ok,I.loc,I.R3,I.ln⟩
theorem Nw.freeze(n:Nw X w w1 h)(na:w.s.heap.get? a=none)(ha:Has w1 a o):Nw X w ⟨iV w1.F a o,w1.O,w1.m,w1.s⟩ h:=⟨⟨n.1.os,n.1.ba,fun b o' e=>dE ha.2.2.1 _ _ (n.1.fz b o' e),n.1.ow,n.1.pre,n.1.dom,fun b o' q z=>let⟨sl,q',z⟩:=n.1.keep b o' q z;⟨sl,⟨q'.1,q'.2.1,cQ (fun y=>by have q:=q.1;rw[y,na]at q;cases q) q'.2.2.1,q'.2.2.2⟩,z⟩⟩,n.2.freeze ha⟩
end
end Z
namespace L3
open PySem
def LS(h:List PO)(p:PV):Option Nat:=match p with
 |.str l=>if l.length<=sizeLine then some l.length else none
 |p=>match T9 h p with
  |some kvs=>some kvs.length
  |none=>match RX h p with
   |some xs=>some xs.length
   |none=>none
def gh(ps:List PV)(h:List PO):Res PV:=match ps with
 |[p]=>match LS h p with
  |some n=>.ok (.int n) h
  |none=>.bad
 |_=>.bad
def BK(h:List PO):PV->Option String
 |.non=>some "NoneType"
 |.bl _=>some "bool"
 |.int _=>some "int"
 |.str _=>some "str"
 |.tup _=>some "tuple"
 |p=>match T9 h p with
  |some _=>some "dict"
  |none=>match S_ h p with
   |some _=>some "list"
   |none=>none
noncomputable def BP(t c:String):Bool:=(t==c)||(t=="bool"&&c=="int")
noncomputable def zK:List String:=["str","int","bool","list","tuple","dict"]
def mj(ps:List PV)(h:List PO):Res PV:=match ps with
 |[p,.ty c]=>if zK.contains c=true then match BK h p with
   |some t=>.ok (.bl (BP t c)) h
   |none=>.bad
  else .bad
 |_=>.bad
noncomputable def jb(i:Int):List Nat:=(Str.ofString (toString i)).cps.toList
def AL(ps:List PV)(h:List PO):Res PV:=match ps with
 |[.int i]=>if i.natAbs.log2<1920 then .ok (.str (jb i)) h else .bad
 |_=>.bad
noncomputable def CG(ps:List PV)(h:List PO):Res PV:=match ps with
 |[.int i]=>.ok (.int i) h
 |[.bl b]=>.ok (.int (if b then 1 else 0)) h
 |_=>.bad
noncomputable def wA(ps:List PV)(h:List PO):Res PV:=match ps with
 |[.int i,.int j]=>.ok (.int (if j>i then j else i)) h
 |_=>.bad
def df(ps:List PV)(h:List PO):Res PV:=match ps with
 |[p]=>match RX h p with
  |some xs=>.ok (.tup xs) h
  |none=>.bad
 |_=>.bad
end L3
namespace Z
open PySem PySem.Spec PyProof.Rows L3 L2
section
variable{G:SC}{X:Cx}{w w1:Wo}{ρ:Ev}{h:List PO}
theorem aB.one{F:Fz}{m:List Addr}{p:PV}{us:List Value}(r:aB G F m [p] us):∃u,us= [u]/\bq G F m p u:=by cases r with|cons r t=>cases t;exact⟨_,rfl,r⟩
theorem aB.two{F:Fz}{m:List Addr}{p q:PV}{us:List Value}(r:aB G F m [p,q] us):∃u v,us= [u,v]/\bq G F m p u/\bq G F m q v:=by cases r with|cons r t=>obtain⟨v,rfl,r'⟩:=t.one;exact⟨_,v,rfl,r,r'⟩
theorem Wd.QK(I:Wd X w h)(ok:X.Ok):X.K.In w.s.heap:=ok.Qs.keeps fun _ _ e=>I.bk e
theorem Lz:Tj X (.builtin "len") gh:=fun ok {w h p u Q E} I rs k=>by
 have l:sizeLine=16777216:=aed;unfold gh at k
 split at k
 ·obtain⟨u,rfl,r1⟩:=rs.one;show Wp X (call (.builtin "len") [u]) Q E w.s
  split at k
  ·rename_i e;unfold LS at e
   split at e
   ·split at e<;>cases e
    obtain⟨_,rfl⟩:=r1.vs
    exact len_str (by rw[ij];omega) (by rw[ij];exact k.now I.toHR (.int _ _))
   ·split at e
    ·cases e
     obtain⟨a,kvs,rfl,y,d,r⟩:=I.dc r1 ‹_›;exact call_len_dict y d (by have:=r.1;omega) (by rw[r.len];exact k.now I.toHR (.int _ _))
    ·split at e<;>cases e
     obtain⟨t,e,ht⟩:=xJ ‹_›;obtain⟨a,h_,rfl,y,z,r⟩:=I.sq r1 e;rcases ht with rfl|rfl
     ·exact len_tuple y.tup (by omega) (k.now I.toHR (by rw[r.len];exact .int _ _))
     ·exact Calls.call_len_list y.pl.isList (by omega) (k.now I.toHR (by rw[r.len];exact .int _ _))
  ·exact k.elim
 ·exact k.elim
theorem AX(K:W.Frag){t c:String}(ht:t∈ ["NoneType","bool","int","str","tuple","dict","list"])(hc:zK.contains c=true):W.kitOne K (.type t) (.type c)=some (BP t c):=by
 have Vt:c∈zK:=by simpa using hc
 simp only[zK,acn,acR,or_false]at Vt ht;rcases ht with rfl|rfl|rfl|rfl|rfl|rfl|rfl<;>rcases Vt with rfl|rfl|rfl|rfl|rfl|rfl<;>rfl
theorem CL:Tj X (.builtin "isinstance") mj:=fun ok {w h p u Q E} I rs k=>by
 unfold mj at k
 split at k
 ·obtain⟨u,v,rfl,r,r2⟩:=rs.two
  obtain rfl:=r2.vt
  show Wp X (call (.builtin "isinstance") [u,_]) Q E w.s
  split at k
  ·rename_i hc
   split at k
   ·rename_i t e;have fin:∀tk,Q (.bool (BP t _)) { w.s with toks:=tk }:=fun tk=>k.now I.toHR (.bl _);have hh:=fun tt=>AX (t:=tt) X.K (hc:=hc);have KI:=I.QK ok;unfold BK at e
    split at e
    ·cases e;obtain rfl:=r.vn;exact aft W.kitx_none KI True.intro (hh _ (by simp)) (fun z=>nomatch z) fin
    ·cases e;obtain rfl:=r.vb;exact aft W.kitx_bool KI True.intro (hh _ (by simp)) (fun z=>nomatch z) fin
    ·cases e;obtain⟨_,rfl⟩:=r.vi;exact aft W.kitx_int KI True.intro (hh _ (by simp)) (fun z=>nomatch z) fin
    ·cases e;obtain⟨_,rfl⟩:=r.vs;exact aft W.kitx_str KI True.intro (hh _ (by simp)) (fun z=>nomatch z) fin
    ·cases e
     replace r:=I.sq r rfl;obtain⟨a,h_,rfl,⟨n,y⟩,z,r⟩:=r;exact aft W.kitx_tuple KI ⟨_,y,rfl⟩ (hh _ (by simp)) (fun z=>nomatch z) fin
    ·split at e
     ·cases e
      obtain⟨a,kvs,rfl,_,⟨o,es,ep,h1,h2,_⟩,_⟩:=I.dc r ‹_›;exact aft W.kitx_dict KI ⟨o,h1,h2.1⟩ (hh _ (by simp)) (fun z=>nomatch z) fin
     ·split at e<;>cases e
      replace r:=I.sq r (ke ‹_›);obtain⟨a,h_,rfl,⟨n,y⟩,z,r⟩:=r;exact aft W.kitx_list KI ⟨_,y,rfl⟩ (hh _ (by simp)) (fun z=>nomatch z) fin
   ·exact k.elim
  ·exact k.elim
 ·exact k.elim
theorem CK:Tj X (.type "str") AL:=fun ok {w h p u Q E} I rs k=>by
 unfold AL at k
 split at k
 ·obtain⟨u,rfl,r⟩:=rs.one
  obtain⟨_,rfl⟩:=r.vi
  split at k
  ·exact PySem.P.str_of_int ‹_› (k.now I.toHR (by have:= @bq.str X.toSC w.F w.m (jb ‹_›) w.s.toks;rw[jb,NQ]at this;exact this))
  ·exact k.elim
 ·exact k.elim
theorem Hr:Tj X (.type "int") CG:=fun ok {w h p u Q E} I rs k=>by
 unfold CG at k
 split at k
 ·obtain⟨u,rfl,r⟩:=rs.one
  obtain⟨_,rfl⟩:=r.vi
  exact call_int_int (k.here I.toHR (.int _ _))
 ·obtain⟨u,rfl,r⟩:=rs.one
  obtain rfl:=r.vb
  exact call_int_bool (k.now I.toHR (.int _ _))
 ·exact k.elim
theorem wI(hc:X.calm=true):Tj X (.builtin "max") wA:=fun ok {w h p u Q E} I rs k=>by
 unfold wA at k
 split at k
 ·obtain⟨u,v,rfl,r,r2⟩:=rs.two
  obtain⟨_,rfl⟩:=r.vi;obtain⟨_,rfl⟩:=r2.vi
  refine max_two_ints (ok.hd hc) fun h' tk kp=>?_;have n:=Nw.also (X:=X) (s':={ w.s with heap:=h',toks:=tk }) I.toHR kp;refine k.2 _ _ n ?_
  split
  ·exact .int _ _
  ·exact .int _ _
 ·exact k.elim
end
end Z
namespace L2
open PySem PySem.Spec PyProof.Rows
theorem nB:plainId "dict.update.loop"=true:=by decide+kernel
theorem vO:entryFor table "dict.update.loop"=some Builtin.«dict.update.loop» :=entryFor_of_tree (by kernel_rfl)
section
variable{prog:Program}{w:World}{κ:Type} [DecidableEq κ] {knd:KeyKind prog w κ} {A:Around} {R:Result->Shared->Prop} {E:Value->Shared->Prop}
theorem Ar{s:Shared}{a:Addr}{x y:Value}{Q:List Value->Shared->Prop}(t:IsTup s.heap a #[x,y])(q:Q [x,y] s):wpAny (model prog w) A (Builtin.Dict.pairItems (.ref a)) Q E s:=by
 obtain⟨o,ho,hc,n,hd⟩:=t;have ty:s.TypeIs (.ref a) "tuple":=⟨o,ho,hc⟩
 unfold Builtin.Dict.pairItems;refine ab6 (afq ty ?_)
 wp_walk
 rw[hd];exact ach (ach q)
end
end L2
namespace L3
open PySem
noncomputable def dP(kvs:List (PK×PV))(k:PK)(v:PV):List (PK×PV):=
 if(kvs.any fun kv=>decide (kv.1=k))=true then kvs.map (fun kv=>if kv.1=k then(kv.1,v)else kv)else kvs++ [(k,v)]
def Sy(ps:List (PK×PV)):List (PK×PV):=ps.foldl (fun acc kv=>dP acc kv.1 kv.2) []
def pL:List (Ex×Ex)->Ev->List PO->Res (List (PK×PV))
 |[],_,h=>.ok [] h
 |(a,b)::r,ρ,h=>(a ρ h).bind fun x h1=>(b ρ h1).bind fun y h2=>match pS x with
  |some k=>(pL r ρ h2).bind fun ps h3=>.ok ((k,y)::ps) h3
  |none=>.bad
def ug(fs:List (Ex×Ex)):Ex:=fun ρ h=>(pL fs ρ h).bind fun ps h1=>.ok (.dct (Sy ps)) h1
noncomputable def lW:Ex:=fun _ h=>.ok (.ref h.length) (h++ [.dct []])
def iQ(ps:List PV)(h:List PO):Res PV:=match ps with
 |[p]=>match T9 h p with
  |some kps=>.ok (.ref h.length) (h++ [.dct kps])
  |none=>.bad
 |_=>.bad
end L3
namespace Z
open PySem PySem.Spec PyProof.Rows L3 L2
section
variable{G:SC}{F:Fz}{m:List Addr}{kps:List (PK×PV)}{kvs:List (PK×Value)}
def RK(G:SC)(F:Fz)(m:List Addr)(kps:List (PK×PV))(kvs:List (PK×Value)):Prop:=kvs.map (·.1)=kps.map (·.1)/\aB G F m (kps.map (·.2)) (kvs.map (·.2))
theorem RK.length(r:RK G F m kps kvs):kvs.length=kps.length:=by have:=congrArg List.length r.1;simpa using this
theorem RK.mono{F':Fz}{m':List Addr}(r:RK G F m kps kvs)(hF:∀a o,F a=some o->F' a=some o)(hm:Sub m m'):RK G F' m' kps kvs:=⟨r.1,r.2.mono hF (.inr hm)⟩
theorem RK.any(k:PK):∀{kps:List (PK×PV)}{kvs:List (PK×Value)},kvs.map (·.1)=kps.map (·.1)->(kvs.any fun kv=>decide (kv.1=k))=kps.any fun kv=>decide (kv.1=k)
 |[],[],_=>rfl
 |[],_::_,h=>by simp at h
 |_::_,[],h=>by simp at h
 |a::r,b::t,h=>by simp only[ab7,afn]at h;simp only[adM,h.1,RK.any k h.2]
theorem RK.repl{k:PK}{p:PV}{v:Value}(r:bq G F m p v):∀{kps:List (PK×PV)}{kvs:List (PK×Value)},RK G F m kps kvs->RK G F m (kps.map fun kv=>if kv.1=k then(kv.1,p)else kv) (kvs.map fun kv=>if kv.1=k then(kv.1,v)else kv)
 |[],[],h=>h
 |[],_::_,h=>by have:=h.1;simp at this
 |_::_,[],h=>by have:=h.1;simp at this
 |(k1,a)::t,(k2,b)::t',⟨h1,h2⟩=>by
  simp only[ab7,afn]at h1;obtain⟨rfl,h1⟩:=h1
  cases h2 with
  |cons x y=>
   obtain⟨i1,i2⟩:=RK.repl r ⟨h1,y⟩;simp only[ab7]
   by_cases z:k2=k
   ·simp only[z,if_true];exact⟨by simp[i1],.cons r i2⟩
   ·simp only[z,if_false];exact⟨by simp[i1],.cons x i2⟩
theorem RK.put{k:PK}{p:PV}{v:Value}(h:RK G F m kps kvs)(r:bq G F m p v):RK G F m (dP kps k p) (stored kvs k v):=by
 unfold dP stored;rw[RK.any k h.1]
 split
 ·exact h.repl r
 ·exact⟨by rw[aci,aci,h.1];rfl,by rw[aci,aci];exact h.2.app (.cons r .nil)⟩
theorem RK.merge:∀{more:List (PK×PV)}{mv:List (PK×Value)}{kps:List (PK×PV)}{kvs:List (PK×Value)},RK G F m more mv->RK G F m kps kvs->RK G F m (more.foldl (fun acc kv=>dP acc kv.1 kv.2) kps) (merged kvs mv)
 |[],[],_,_,_,h=>h
 |[],_::_,_,_,h,_=>by have:=h.1;simp at this
 |_::_,[],_,_,h,_=>by have:=h.1;simp at this
 |(k1,p1)::more,(k2,v2)::mv,kps,kvs,⟨h1,h2⟩,h=>by
  simp only[ab7,afn]at h1 h2;obtain⟨rfl,h1⟩:=h1
  cases h2 with
  |cons a b=>show RK G F m (more.foldl _ (dP kps k2 p1)) (merged (stored kvs k2 v2) mv);exact RK.merge ⟨h1,b⟩ (h.put a)
theorem qR(k:PK)(v:Value):(stored kvs k v).length<=kvs.length+1:=by unfold stored;split<;>simp
theorem mV:∀(mv:List (PK×Value))(kvs:List (PK×Value)),(merged kvs mv).length<=kvs.length+mv.length
 |[],_=>ab8 _
 |(k,v)::mv,kvs=>by have:=mV mv (stored kvs k v);have:=qR (kvs:=kvs) k v;show(merged (stored kvs k v) mv).length<=_;simp;omega
end
section
variable{X:Cx}{w w1:Wo}{ρ:Ev}{h:List PO}{kps:List (PK×PV)}{kvs:List (PK×Value)}{s':Shared}{Q:Value->Shared->Prop}{E:Value->Shared->Prop}{a:Addr}{o:Obj}{pos:Pos}
theorem Wd.big(I:Wd X w h)(ok:X.Ok):(w.s.heap.objs.size==sysModules)=false:=by obtain⟨o,es,ep,e,_⟩:=ok.gl;have:=acI (I.bk e);exact beq_eq_false_iff_ne.mpr fun z=>absurd (z▸this) (by decide)
theorem bM.dm(p:bM X (RV X.toSC) w Q E (.ok (.ref h.length) (h++ [.dct kps])))(I:Wd X w h)(ok:X.Ok)(k:∀b o,w.s.heap.get? b=some o->s'.heap.get? b=some o)(d:s'.heap.DictOf (pk X.prog X.w) w.s.heap.objs.size kvs)(z:kvs.length<=sizeLine)(r:RK X.toSC w.F w.m kps kvs)(ho:s'.os=w.s.os:=by rfl)(hg:s'.gens=w.s.gens:=by rfl):Q (.ref w.s.heap.objs.size) s':=by
 obtain⟨o,es,ep,e1,e2,e3⟩:=d;have sb:Sub w.m (w.m++ [w.s.heap.objs.size]):=fun i b e=>by rw[acA (acd.mp e).1];exact e
 exact p.2 _ _ (Nw.mk I.toHR (bj _) k ⟨(I.toHR.free (bj _)).2.1,o,kvs,e1,⟨e2,es,ep,e3⟩,I.big ok,z,r.1,(r.mono (fun _ _ e=>e) sb).2⟩ (fun _ _ e=>e) (fun _ _ e=>.inl e) ho hg) (.ref (by rw[I.len];simp))
theorem Nw.priv{o2:Obj}(n:Nw X w w1 h)(na:w.s.heap.get? a=none)(ha:Has w1 a o2)(sb:Heap.SameBut a w1.s.heap s'.heap)(e:s'.heap.get? a=some o)(ho:s'.os=w1.s.os:=by rfl)(hg:s'.gens=w1.s.gens:=by rfl):Nw X w { w1 with s:=s' } h/\Has { w1 with s:=s' } a o:=by
 have on:∀b o,b≠a->w1.s.heap.get? b=some o->s'.heap.get? b=some o:=fun b o z e=>(sb.2 b z).trans e;have ne:∀{b o},w.s.heap.get? b=some o->b≠a:=fun q z=>by rw[z,na]at q;cases q
 refine⟨⟨⟨ho.trans n.1.os,fun q=>hg▸n.1.ba q,n.1.fz,n.1.ow,n.1.pre,fun b o e=>let⟨o',q⟩:=n.1.dom b o e;⟨o',on b o' (ne e) q⟩,fun b o q z=>let⟨sl,q',z⟩:=n.1.keep b o q z;⟨sl,⟨on b _ (ne q.1) q'.1,q'.2⟩,z⟩⟩,n.2.on fun b o e z=>on b o (fun y=>z (y▸ha.2)) e⟩,e,ha.2⟩
theorem Nw.track{po:PO}(n:Nw X w w1 h)(na:w.s.heap.get? a=none)(ha:Has w1 a o)(q:sJ X.toSC w1.F (w1.m++ [a]) w1.O w1.s.heap a po):Nw X w ⟨w1.F,w1.O,w1.m++ [a],w1.s⟩ (h++ [po]):=by
 have H:=n.2;have ne:∀{b o},w.s.heap.get? b=some o->b≠a:=fun q z=>by rw[z,na]at q;cases q
 have sb:Sub w1.m (w1.m++ [a]):=fun i b e=>by rw[acA (acd.mp e).1];exact e
 refine⟨⟨n.1.os,n.1.ba,n.1.fz,n.1.ow,let⟨t,e⟩:=n.1.pre;⟨t++ [a],by rw[e,acG]⟩,n.1.dom,fun b o q z=>let⟨sl,q',z⟩:=n.1.keep b o q z;⟨sl,⟨q'.1,fun y=>(acz.mp y).elim q'.2.1 fun y=>ne q.1 (by simpa using y),q'.2.2⟩,z⟩⟩,H.sub,fun d b e=>let⟨x,z,y⟩:=H.own d b e;⟨x,fun q'=>(acz.mp q').elim z fun q'=>(by simp at q';rw[q',ha.2.2.2]at e;cases e),y⟩,by simp[H.len],adQ.mpr ⟨H.nd,by simp,fun x hx y hy z=>ha.2.1 (by simp at hy;rw[<- hy,<- z];exact hx)⟩,fun i ob b e1 e2=>?_⟩;rcases ad6 i h.length with l|l
 ·rw[acA l]at e1;rw[acA (H.len▸l)]at e2;exact(H.obj i ob b e1 e2).on (fun _ _ e=>e) (fun _ e=>e) sb (fun _ _ e _=>e) id
 ·rw[acP l]at e1;rw[acP (H.len▸l),<- H.len]at e2
  cases z:i - h.length with
  |zero=>rw[z]at e1 e2;cases e1;cases e2;exact q
  |succ _=>rw[z]at e1;simp at e1
theorem mc:RE X (.Dict [] [] pos) lW:=⟨fun{w ρ h Q E} I p=>wpAny_Dict_empty (bM.dm p I.toWd I.ok (fun _ _ e=>acf _ e) (afp _) (acu _) ⟨rfl,.nil⟩)⟩
theorem Ch:RE X (.Dict [] [] pos) (cK (.dct [])):=⟨fun{w ρ h Q E} I p=>wpAny_Dict_empty (by obtain⟨o,es,ep,e1,e2,e3⟩:(w.s.heap.push { cls:=.type "dict",data:=.dict #[] }).DictOf (pk X.prog X.w) w.s.heap.objs.size []:=afp _;exact p.2 _ _ (Nw.lay (s':={ w.s with heap:=w.s.heap.push { cls:=.type "dict",data:=.dict #[] } }) I.toHR (bj _) (fun _ _ e=>acf _ e) e1) (.dct (kvs:=[]) bC ⟨e2,es,ep,e3⟩ (I.big I.ok) (acu _) rfl .nil))⟩
theorem nR:Tj X (.type "dict") iQ:=fun ok {w h p u Q E} I rs k=>by
 unfold iQ at k
 split at k
 ·obtain⟨u,rfl,r⟩:=rs.one
  split at k
  ·replace r:=I.dc r ‹_›;obtain⟨a,kvs,rfl,y,d,r⟩:=r;exact kt_call_dict y d r.1 fun h' Yk hs=>bM.dm k I ok (fun b q hq=>(hs.2 b (ac2 (acI hq))).trans (acf _ hq)) Yk r.1 r.2
  ·exact k.elim
 ·exact k.elim
structure Wr(X:Cx)(pos:Pos)(keys:List (Option Expr))(values:List Expr)(fs:List (Ex×Ex)):Prop where
 r:∀{w:Wo}{ρ:Ev}{h:List PO}{Q:List (Value×Value)->Shared->Prop}{E:Value->Shared->Prop},Inv X w ρ h->bM X (fun w ps vs=>∃kvs,Carries (pk X.prog X.w) vs kvs/\RK X.toSC w.F w.m ps kvs/\kvs.length=keys.length) w Q E (pL fs ρ h)->Wp X (evalPairs (pairTrees keys values X.env pos)) Q E w.s
theorem yS:Wr X pos [] [] []:=⟨fun I p=>pairTrees_nil_walk (p.here I.toHR ⟨[],trivial,⟨rfl,.nil⟩,rfl⟩)⟩
theorem jC{k v:Expr}{fa fb:Ex}{keys:List (Option Expr)}{values:List Expr}{fs:List (Ex×Ex)}(hk:RE X k fa)(hv:RE X v fb)(hr:Wr X pos keys values fs):Wr X pos (some k::keys) (v::values) ((fa,fb)::fs):=⟨fun I p=>pairTrees_cons_walk (hk.r I (p.bind fun _ _ x _ y1 r1 p=>hv.r (I.on y1) (p.bind fun _ _ _ _ y2 r2 p=>by
 split at p
 ·refine hr.r ((I.on y1).on y2) (p.bind (by rintro _ _ _ _ y3 ⟨kvs,c,rk,l⟩ p;exact p.here y3.2 ⟨(_,_)::kvs,⟨mW (y2.1.rep r1) ‹_›,rfl,c⟩,⟨by simp[rk.1],.cons (y3.1.rep r2) rk.2⟩,by simp[l]⟩))
 ·exact p.elim)))⟩
theorem NJ{keys:List (Option Expr)}{values:List Expr}{fs:List (Ex×Ex)}{k:List (PK×PV)->List PO->Res PV}(hr:Wr X pos keys values fs)(TG:keys.all (·.isSome)=true)(hl:keys.length=values.length)(h0:keys≠ [])(Yi:keys.length<=15)
  (go:∀{w w2:Wo}{h2:List PO}{a:Addr}{ps:List (PK×PV)}{kvs:List (PK×Value)}{o:Obj}{Q:Value->Shared->Prop}{E:Value->Shared->Prop},Nw X w w2 h2->w.s.heap.get? a=none->(a==sysModules)=false->Has w2 a o->DO X.toSC o kvs->kvs.length<=sizeLine->RK X.toSC w2.F w2.m (Sy ps) kvs->bM X (RV X.toSC) w Q E (k ps h2)->Q (.ref a) w2.s):RE X (.Dict keys values pos) (fun ρ h=>(pL fs ρ h).bind k):=⟨fun{w ρ h Q E} I p=>wpAny_Dict_walk (knd:=pk X.prog X.w) TG hl h0 Yi (by
 have n1:=Nw.also (X:=X) (s':={ w.s with heap:=w.s.heap.push { cls:=.type "dict",data:=.dict #[] } }) I.toHR fun _ _ e=>acf _ e;refine hr.r (I.on n1) ?_
 cases e:pL fs ρ h with
 |bad=>rw[e]at p;exact p
 |exc _ _=>rw[e]at p;exact⟨p.1,fun w' u y r=>p.2 w' u (n1.trans y) (r.back n1.1)⟩
 |ok ps h2=>
  rw[e]at p;refine⟨p.ep,?_⟩;rintro w2 vs y ⟨kvs,c,rk,l⟩;have na:=bj w.s.heap;have z:w.s.heap.objs.size∉X.fs:=fun z=>by obtain⟨o,q,_⟩:=I.fr _ z;have q:=q.1;rw[na]at q;cases q
  obtain⟨sl,ha,zz⟩:=y.1.keep w.s.heap.objs.size _ ⟨acq _ rfl,I.toHR.free na⟩ fun z=>z
  cases zz.resolve_left z
  obtain⟨o,es,ep,e1,e2⟩:(w.s.heap.push { cls:=.type "dict",data:=.dict #[] }).DictOf (pk X.prog X.w) w.s.heap.objs.size []:=afp _;rw[acq _ rfl]at e1
  cases e1
  refine⟨kvs,c,⟨_,es,ep,ha.1,e2⟩,?_⟩;rintro h' ⟨o',Wf,ep',g1,g2⟩ sb;obtain⟨n3,ha3⟩:=Nw.priv (s':={ w2.s with heap:=h',toks:=w2.s.toks+vs.length }) (n1.trans y) na ha sb g1;exact go n3 na (I.big I.ok) ha3 ⟨g2.1,Wf,ep',g2.2⟩ (ace (mV _ _) (by rw[aed];simp;omega)) (RK.merge rk ⟨rfl,.nil⟩) p)⟩
theorem yW{keys:List (Option Expr)}{values:List Expr}{fs:List (Ex×Ex)}(hr:Wr X pos keys values fs)(TG:keys.all (·.isSome)=true:=by rfl)(hl:keys.length=values.length:=by rfl)(h0:keys≠ []:=by intro z;cases z)(Yi:keys.length<=15:=by decide):RE X (.Dict keys values pos) (ug fs):=NJ hr TG hl h0 Yi fun{w w2 h2 a ps kvs o Q E} n na sm ha d z r p=>p.2 ⟨iV w2.F a o,w2.O,w2.m,w2.s⟩ _ (n.freeze na ha) (.dct bC d sm z r.1 (r.mono (dE ha.2.2.1) fun _ _ e=>e).2)
end
end Z
namespace L3
open PySem L2
noncomputable def mJ(h:List PO):PV->Option (Nat×List PV)
 |.ref i=>match h[i]? with
  |some (.lst xs)=>some (i,xs)
  |_=>none
 |_=>none
noncomputable def nV(h:List PO):PV->Option (Nat×List (PK×PV))
 |.ref i=>match h[i]? with
  |some (.dct kvs)=>some (i,kvs)
  |_=>none
 |_=>none
def iN(v o i:PV)(ρ:Ev)(h:List PO):SR:=match mJ h o,i with
 |some (n,xs),.int k=>match Sd xs.length k with
  |some j=>.nx ρ (h.set n (.lst (xs.set j v)))
  |none=>.bad
 |_,_=>.bad
def iO(fo fi fv:Ex):Sx:=fun ρ h=>eH (fv ρ h) fun v h1=>eH (fo ρ h1) fun o h2=>eH (fi ρ h2) fun i h3=>iN v o i ρ h3
def mG(v o i:PV)(ρ:Ev)(h:List PO):SR:=match nV h o,pS i with
 |some (n,kps),some k=>if kps.length<sizeLine then .nx ρ (h.set n (.dct (dP kps k v)))else .bad
 |_,_=>.bad
def kF(fo fi fv:Ex):Sx:=fun ρ h=>eH (fv ρ h) fun v h1=>eH (fo ρ h1) fun o h2=>eH (fi ρ h2) fun i h3=>mG v o i ρ h3
def W6(h:List PO)(p:PV):Option (PV×List PO):=match nV h p with
 |some (i,kvs)=>if aW kvs=true then some (.dct kvs,h.set i (.J8 (.dct kvs)))else none
 |none=>gQ h p
def TJ(p:PV)(h:List PO):Res PV:=match W6 h p with
 |some (q,h2)=>.ok q h2
 |none=>.bad
def R4(f:Ex):Ex:=fun ρ h=>(f ρ h).bind TJ
def cM(recv:List PO->PV->Bool)(g:PV->List PV->List PO->Res PV)(o:Ex)(as:Ax):Ex:=fun ρ h=>(o ρ h).bind fun p h1=>if recv h1 p=true then(as ρ h1).bind fun ps h2=>g p ps h2 else .bad
def bD(p:PV)(ps:List PV)(h:List PO):Res PV:=match ps with
 |[q]=>match mJ h p with
  |some (i,xs)=>if xs.length<sizeLine then .ok .non (h.set i (.lst (xs++ [q])))else .bad
  |none=>.bad
 |_=>.bad
end L3
namespace Z
open PySem PySem.Spec PyProof.Rows L3 L2
section
variable{G:SC}{X:Cx}{w w1:Wo}{ρ:Ev}{h:List PO}{p:PV}{u:Value}{i:Nat}{ps:List PV}{kps:List (PK×PV)}{a:Addr}{o:Obj}
inductive Ll0(G:SC)(w:Wo)(i:Nat)(u:Value)(ps:List PV):Prop where
 |mk (a:Addr)(h_:Array Value)(n:Nat)(_:u=.ref a)(_:w.m[i]? =some a)(_:w.F a=none)(_:w.s.heap.get? a=some { cls:=.type "list",data:=.seq h_ n })(_:h_.size<=sizeLine)(_:aB G w.F w.m ps h_.toList)
theorem HR.ll(H:HR G w h)(r:bq G w.F w.m p u)(k:mJ h p=some (i,ps)):Ll0 G w i u ps:=by
 unfold mJ at k
 split at k
 ·split at k<;>cases k
  rename_i q
  cases r with
  |ref e=>obtain⟨f,h_,n,g,z,r⟩:=H.obj _ _ _ q e;exact⟨_,h_,n,rfl,e,f,g,z,r⟩
 ·cases k
inductive Ld0(G:SC)(w:Wo)(i:Nat)(u:Value)(kps:List (PK×PV)):Prop where
 |mk (a:Addr)(o:Obj)(kvs:List (PK×Value))(_:u=.ref a)(_:w.m[i]? =some a)(_:w.F a=none)(_:(a==sysModules)=false)(_:w.s.heap.get? a=some o)(_:DO G o kvs)(_:kvs.length<=sizeLine)(_:RK G w.F w.m kps kvs)
theorem HR.ld(H:HR G w h)(r:bq G w.F w.m p u)(k:nV h p=some (i,kps)):Ld0 G w i u kps:=by
 unfold nV at k
 split at k
 ·split at k<;>cases k
  rename_i q
  cases r with
  |ref e=>obtain⟨f,o,kvs,g,d,y,z,c,r⟩:=H.obj _ _ _ q e;exact⟨_,o,kvs,rfl,e,f,y,g,d,z,c,r⟩
 ·cases k
theorem aB.set{F:Fz}{m:List Addr}{x:PV}{u:Value}(r:bq G F m x u):∀{xs:List PV}{us:List Value}(i:Nat),aB G F m xs us->aB G F m (xs.set i x) (us.set i u)
 |_,_,_,.nil=>.nil
 |_,_,0,.cons _ t=>.cons r t
 |_,_,i+1,.cons q t=>.cons q (aB.set r i t)
theorem Nw.V0{f:Obj->Obj}{O4:Array Value}{n' tk:Nat}(H:HR X.toSC w h)(em:w.m[i]? =some a)(hf:w.F a=none)(e:w.s.heap.get? a=some o)(ef:f o= { cls:=.type "list",data:=.seq O4 n' })(z:O4.size<=sizeLine)(r:aB X.toSC w.F w.m ps O4.toList):Nw X w { w with s:={ w.s with heap:=w.s.heap.update a f,toks:=tk } } (h.set i (.lst ps)):=by
 have eu:(w.s.heap.update a f).get? a=some { cls:=.type "list",data:=.seq O4 n' }:=ef▸aeo _ e (by rw[ef];rfl)
 exact Nw.upd (s':={ w.s with heap:=w.s.heap.update a f,toks:=tk }) H em hf (fun b o' e=>by
  by_cases z:b=a
  ·exact .inl z
  ·exact .inr (.inr ((aeC _ _ _ _ z).trans e))) (fun b o' e=>by
  by_cases z:b=a
  ·exact⟨{ cls:=.type "list",data:=.seq O4 n' },by subst z;exact eu⟩
  ·exact⟨o',(aeC _ _ _ _ z).trans e⟩) ⟨hf,O4,n',eu,z,r⟩
variable{oe ie ve:Expr}{fo fi fv:Ex}{px pos:Pos}
theorem gu(ho:RE X oe fo)(hi:RE X ie fi)(hv:RE X ve fv)
  (hs:swapsWith ve (some (.Subscript oe ie px)) pos.line X.env=pure false:=by rfl):RS X (.Assign [.Subscript oe ie px] ve pos) (iO fo fi fv):=⟨fun{w ρ h Q E} I p=>af6 (hv.r I (bx.e p I fun w1 h1 pv v y1 I1 rv p=>ho.r I1 (bx.e p I1 fun w2 h2 po u y2 I2 ro p=>hi.r I2 (bx.e p I2 fun w3 h3 pi iv y3 I3 ri p=>by
 unfold iN at p
 split at p
 ·rename_i el
  split at p
  ·rename_i j hj;obtain⟨a,h_,n,rfl,em,hf,e,z,r⟩:=I3.toHR.ll (y3.1.rep ro) el
   obtain⟨_,rfl⟩:=ri.vi
   obtain⟨h1,h2,h3,h4⟩:=zI hj;have hl:=r.len;have sl:=aed;have hz:∀t,Nw X w3 { w3 with s:={ w3.s with heap:=w3.s.heap.update a (Obj.mapSeq (·.setIfInBounds j v)),toks:=t } } _:=fun t=>Nw.V0 (O4:=h_.setIfInBounds j v) (n':=n) I3.toHR em hf e (by simp[Obj.mapSeq]) (by simpa using z) (by simpa using r.set (y3.1.rep (y2.1.rep rv)) j);rename_i k _ _
   by_cases h0:0<=k
   ·have hk:k.toNat=j:=by rw[ahh h0 h4]at h1;exact adD h1
    exact W.ki_setAt e h0 (by omega) (by rw[<- hl];exact h4) (by rw[hk];exact p.2 _ (hz _).s (I3.on (hz _)))
   ·have hk:(k+(h_.size:Int)).toNat=j:=by rw[agZ (by omega) h3]at h1;rw[<- hl];exact adD h1
    exact W.ki_setBack e (by omega) (by rw[<- hl];exact h3) (by omega) (by rw[hk];exact p.2 _ (hz _).s (I3.on (hz _)))
  ·exact p.elim
 ·exact p.elim)))) hs⟩
theorem gX(ho:RE X oe fo)(hi:RE X ie fi)(hv:RE X ve fv)
  (hs:swapsWith ve (some (.Subscript oe ie px)) pos.line X.env=pure false:=by rfl):RS X (.Assign [.Subscript oe ie px] ve pos) (kF fo fi fv):=⟨fun{w ρ h Q E} I p=>af6 (hv.r I (bx.e p I fun w1 h1 pv v y1 I1 rv p=>ho.r I1 (bx.e p I1 fun w2 h2 po u y2 I2 ro p=>hi.r I2 (bx.e p I2 fun w3 h3 pi iv y3 I3 ri p=>by
 unfold mG at p
 split at p
 ·rename_i el ek
  split at p
  ·rename_i hz;obtain⟨a,o,kvs,rfl,em,hf,sm,e,d,z,r⟩:=I3.toHR.ld (y3.1.rep ro) el;refine wpAny_setItem_pairs (hsz:=z) (mW ri ek) (d.of e) fun h' Yk sb=>?_;obtain⟨o',es,ep,e1,e2,e3⟩:=Yk;have r':=r.put (k:= ‹PK›) (y3.1.rep (y2.1.rep rv))
   have y4:=Nw.upd (X:=X) (s':={ w3.s with heap:=h',toks:=w3.s.toks+1 }) I3.toHR em hf (fun b o e=>by
     by_cases z:b=a
     ·exact .inl z
     ·exact .inr (.inr ((sb.2 b z).trans e))) (fun b o e=>by
     by_cases z:b=a
     ·exact⟨o',by subst z;exact e1⟩
     ·exact⟨o,(sb.2 b z).trans e⟩) (po:=.dct _) ⟨hf,o',_,e1,⟨e2,es,ep,e3⟩,sm,ace (qR _ _) (by rw[r.length];exact hz),r'.1,r'.2⟩
   exact p.2 _ y4.s (I3.on y4)
  ·exact p.elim
 ·exact p.elim)))) hs⟩
theorem nK{ae:Expr}{fa:Ex}(ha:RE X ae fa):RE X ae (R4 fa):=⟨fun I p=>ha.r I (p.bind fun w1 h1 q u y r p=>by
 unfold TJ W6 at p
 split at p
 ·rename_i e
  split at e
  ·split at e<;>cases e
   rename_i hp;obtain⟨a,o,kvs,rfl,em,hf,sm,e,d,z,r'⟩:=y.2.ld r ‹_›;have rr:bq X.toSC (iV w1.F a o) w1.m (.dct _) (.ref a):=.dct bC d sm z r'.1 (r'.2.mono (dE hf) (.inr fun _ _ e=>e));exact p.2 ⟨iV w1.F a o,w1.O,w1.m,w1.s⟩ _ (y.2.fix em hf e rr (by simpa[PV.pure]using hp)) rr
  ·obtain⟨F',n,r',_⟩:=y.2.Wc (X:=X) r e;exact p.2 ⟨F',w1.O,w1.m,w1.s⟩ _ n r'
 ·exact p.elim)⟩
end
end Z
namespace L3
open PySem L2
noncomputable def tK(_:List PO)(p:PV):Bool:=match p with
 |.str _=>true
 |_=>false
def dZ(h:List PO)(p:PV):Bool:=(S_ h p).isSome
noncomputable def fJ:List PV->Option (List (List Nat))
 |[]=>some []
 |.str l::r=>(fJ r).map (l:: ·)
 |_::_=>none
noncomputable def mK(sep:List Nat):List (List Nat)->List Nat
 |[]=>[]
 |[x]=>x
 |x::rest=>x++sep++mK sep rest
def nO(p:PV)(ps:List PV)(h:List PO):Res PV:=match p,ps with
 |.str sep,[q]=>match S_ h q with
  |some xs=>match fJ xs with
   |some ls=>if(ls.map (·.length)).sum+ls.length * sep.length<=16777216 then .ok (.str (mK sep ls)) h else .bad
   |none=>.bad
  |none=>.bad
 |_,_=>.bad
end L3
namespace Z
open PySem PySem.Spec PyProof.Rows L3 L2
section
variable{G:SC}{X:Cx}{w w1:Wo}{ρ:Ev}{h:List PO}{p:PV}{u:Value}{i:Nat}{ps:List PV}{kps:List (PK×PV)}{kvs:List (PK×Value)}{a:Addr}{o:Obj}{h':Heap}
def Wt(X:Cx)(id:String)(g:PV->List PV->List PO->Res PV):Prop:=
 ∀{w h p u ps us Q E},Wd X w h->bq X.toSC w.F w.m p u->aB X.toSC w.F w.m ps us->bM X (RV X.toSC) w Q E (g p ps h)->Wp X (call (.builtin id) (u::us)) Q E w.s
def TyM(X:Cx)(Ty:String)(recv:List PO->PV->Bool):Prop:=∀{w h p u},HR X.toSC w h->bq X.toSC w.F w.m p u->recv h p=true->w.s.TypeIs u Ty/\∀a,u=.ref a->∃ob,w.s.heap.get? a=some ob/\ob.dict=none
theorem fH{Ty:String}{recv:List PO->PV->Bool}{name:Str}{id:String}{g:PV->List PV->List PO->Res PV}{oe e:Expr}{es:List Expr}{fo:Ex}{fs:Ax}{apos Pj:Pos}(ty:TyM X Ty recv)(pa:PlainAttrs Ty)(slot:Slot Ty name id)(XD:typeOf (.builtin id)=pure (.type "method_descriptor"))(hm:Wt X id g)
  (ho:RE X oe fo) (ha:RA X (e::es) fs)
  (Wb:attributeBase oe name X.env (eval oe X.env)=eval oe X.env:=by rfl)
  (X5:((backTo Pj (starEach (e::es) X.env)).all (fun x=>!x.1)&&(backToKw Pj (keywordEach [] X.env)).all (fun x=>x.1.isSome)
   &&decide ((e::es).length+([]:List Keyword).length+(if([]:List Keyword).isEmpty then 0 else 1)<30))=true:=by rfl)
  (hline:(apos.endLine==Pj.line)=true:=by rfl)(hs:sE0 X e es:=by rfl) (U9:(backTo Pj (starEach es X.env)).any (·.1)=false:=by rfl):
  RE X (.Call (.Attribute oe name apos) (e::es) [] Pj) (cM recv g fo fs):=⟨fun I p=>wpAny_Call_method_late Wb X5 hline rfl (ho.r I (p.bind fun w1 h1 q u y r p=>by
 split at p
 ·obtain⟨t1,t2⟩:=ty y.2 r ‹_›;refine⟨Ty,id,pa,slot,XD,t1,t2,?_⟩;have hA:=ha.r Pj (I.on y) (p.bind (G:=fun us s=>Wp X (call (.builtin id) (u::us)) _ _ s) fun w2 h2 qs us y2 r2 p=>hm ((I.on y).on y2).toWd (y2.1.rep r) r2 p);rw[hs]at hA |-;exact Calls.callWith_builtin (by show(false||(backTo Pj (starEach es X.env)).any (·.1))=false;rw[U9]<;>rfl) (agA hA)
 ·exact p.elim))⟩
theorem xG:TyM X "str" tK:=fun H r e=>by
 unfold tK at e
 split at e
 ·obtain⟨_,rfl⟩:=r.vs;exact⟨ahq _ _ _,fun _ e=>nomatch e⟩
 ·cases e
theorem eY:TyM X "list" dZ:=fun H r e=>by obtain⟨xs,ex⟩:=aeE.mp e;obtain⟨a,h_,rfl,⟨n,y⟩,_⟩:=H.sq r (ke ex);exact⟨⟨_,y,rfl⟩,fun _ e=>by cases e;exact⟨_,y,rfl⟩⟩
theorem cG:Wt X "list.append" bD:=fun{w h p u ps us Q E} I r rs k=>by
 unfold bD at k
 split at k
 ·split at k
  ·split at k
   ·obtain⟨v,rfl,rv⟩:=rs.one;replace r:=I.toHR.ll r ‹_›;obtain⟨a,h_,n,rfl,em,hf,e,z,r⟩:=r;refine afu F.slot_list_append ⟨_,e,rfl⟩ F.entry_list_append (F.args_list_append_2 _ _) (PySem.list_append a h_ n v z) ⟨e,?_⟩;exact k.2 _ _ (Nw.V0 (f:=Obj.mapSeq (·.push v)) (O4:=h_.push v) (tk:=w.s.toks) I.toHR em hf e (by simp[Obj.mapSeq];rfl) (by have:=r.len;simp;omega) (by simpa using r.app (.cons rv .nil))) .non
   ·exact k.elim
  ·exact k.elim
 ·exact k.elim
theorem jT{F:Fz}{m:List Addr}{ps:List PV}{us:List Value}{ls:List (List Nat)}(e:fJ ps=some ls)(r:aB G F m ps us):StrsAre us (ls.map S):=by
 induction ps generalizing us ls with
 |nil=>cases r;cases e;exact .nil
 |cons p _ i=>cases r with|cons rp t=>cases p with
  |str l=>
   simp only[fJ,aee]at e;obtain⟨_,e1,rfl⟩:=e
   cases rp
   exact .cons _ _ (i e1 t)
  |_=>cases e
theorem HP(a b:List Nat):S a++S b=S (a++b):=by show(⟨(S a).cps++(S b).cps⟩:Str)=_;simp[S]
theorem KT(sep:List Nat)(xs:List (List Nat)):Txt.join (S sep) (xs.map S)=S (mK sep xs):=by
 have go:∀xs:List (List Nat),Str.join (S sep) (xs.map S)=S (mK sep xs):=by
  intro xs
  induction xs with
  |nil=>rfl
  |cons x r ih=>
   cases r with
   |nil=>rfl
   |cons y r=>have e:mK sep (x::y::r)=x++sep++mK sep (y::r):=rfl;rw[e,<- HP,<- HP,<- ih];rfl
 show Builtin.Str.glued _ _=_;rw[StrLaws.glued_eq_join];exact go xs
theorem uW:Wt X "str.join" nO:=fun{w h p u ps us Q E} I r rs k=>by
 unfold nO at k
 split at k
 ·split at k
  ·split at k
   ·split at k
    ·rename_i el hz
     obtain⟨_,rfl⟩:=r.vs
     obtain⟨v,rfl,rv⟩:=rs.one;obtain⟨a,h_,rfl,y,_,r⟩:=I.sq rv (ke ‹_›);refine join_list y.pl.isList (jT ‹_› r) ?_ fun t' k'=>by rw[KT];exact k.now I.toHR (.str _ _)
     rw[ady,ab9,ij,show((fun x:Str=>x.length)∘S)=(·.length)from funext ij];exact hz
    ·exact k.elim
   ·exact k.elim
  ·exact k.elim
 ·exact k.elim
end
end Z
namespace L3
open PySem L2
noncomputable def gR(y x:List Nat)(lo:Nat):Option Nat:=(List.range (x.length+1)).find? fun i=>decide (lo<=i)&&y.isPrefixOf (x.drop i)
def zL(y x:List Nat):Bool:=(gR y x 0).isSome
def AM(p q:PV)(h:List PO):Option Bool:=match q with
 |.str b=>match p with
  |.str a=>some (zL a b)
  |_=>none
 |q=>match T9 h q with
  |some kvs=>match pS p with
   |some k=>some (dI kvs k).isSome
   |none=>none
  |none=>match RX h q with
   |some xs=>if O9 [] p=true/\xs.all (O9 [])=true then some (xs.any fun y=>PyData.eqv (toD y) (toD p))else none
   |none=>none
def R7(p q:PV)(h:List PO):Res PV:=match AM p q h with
 |some b=>.ok (.bl b) h
 |none=>.bad
def jr(p q:PV)(h:List PO):Res PV:=match AM p q h with
 |some b=>.ok (.bl (!b)) h
 |none=>.bad
end L3
namespace Z
open PySem PySem.Spec PyProof.Rows L3 L2
theorem tu(x y:List Nat)(i:Nat)(hi:i+y.length<=x.length):Builtin.Str.subAt (S x) (S y) i=y.isPrefixOf (x.drop i):=by
 unfold Builtin.Str.subAt;rw[ij];rw[agp,beq_iff_eq,afA]
 have e:(S x).cps.extract i (i+y.length)=((x.drop i).take y.length).toArray:=by apply af5.mp;simp[S,List.extract_eq_drop_take]
 rw[e];show((x.drop i).take y.length).toArray=(S y).cps↔_;constructor
 ·intro h;have h':(x.drop i).take y.length=y:=by simpa[S]using congrArg Array.toList h
  refine⟨(x.drop i).drop y.length,?_⟩;have q:=List.take_append_drop y.length (x.drop i);rw[h']at q;exact q
 ·rintro⟨t,ht⟩
  rw[<- ht,ahs];rfl
theorem yA(x y:List Nat)(i:Nat):StrLaws.At (S x) (S y) (S x).length i↔i<=x.length/\y.isPrefixOf (x.drop i)=true:=by
 unfold StrLaws.At;rw[ij,ij];constructor
 ·rintro⟨h1,h2⟩
  rw[tu x y i h1]at h2;exact⟨by omega,h2⟩
 ·rintro⟨h1,h2⟩
  have:i+y.length<=x.length:=by have:=(afA.mp h2).length_le;rw[aev]at this;omega
  exact⟨this,by rw[tu x y i this];exact h2⟩
theorem yc(x y:List Nat)(lo:Nat):Builtin.Str.occurrences (S x) (S y) lo (S x).length 1=(gR y x lo).toList:=by
 have Rj:=StrLaws.occ_length_le (S x) (S y) lo (S x).length 1;rcases StrLaws.occ_head_from (S x) (S y) lo 1 (ab8 _)with⟨h0,hn⟩|⟨i,r,h0,hl,ha,hn⟩
 ·rw[h0]
  have:gR y x lo=none:=by unfold gR;rw[aeh];intro i hi hc;simp only[ab5,decide_eq_true_eq]at hc;exact hn i hc.1 ((yA x y i).mpr ⟨by have:=aeR.mp hi;omega,hc.2⟩)
  rw[this];rfl
 ·rw[h0]at Rj |-
  have hr:r= []:=by cases r with
   |nil=>rfl
   |cons _ _=>simp at Rj
  subst hr;obtain⟨a1,a2⟩:=(yA x y i).mp ha
  have:gR y x lo=some i:=by
   unfold gR;rw[List.find?_range_eq_some];refine⟨by simp[hl,a2],by simp;omega,fun j hj=>?_⟩;simp only[aeW,ae3,decide_eq_false_iff_not];rcases ad6 j lo with q|q
   ·exact .inl (by omega)
   ·right
    cases z:y.isPrefixOf (x.drop j)with
    |false=>rfl
    |true=>exact absurd ((yA x y j).mpr ⟨by omega,z⟩) (hn j q hj)
  rw[this];rfl
theorem NS(x y:List Nat):(!(Builtin.Str.occurrences (S x) (S y) 0 (S x).length 1).isEmpty)=zL y x:=by
 rw[yc];unfold zL
 cases gR y x 0<;>rfl
noncomputable def sy(h:Heap)(d:PyData)(y:Value):Bool:=open Classical in if q:∃e as,Reads h y e as/\e.canLay0=true then PyData.eqv q.choose d else false
theorem zV{h:Heap}{d e:PyData}{y:Value}{as:List Addr}(r:Reads h y e as)(c:e.canLay0=true):sy h d y=PyData.eqv e d:=by
 have q:∃e as,Reads h y e as/\e.canLay0=true:=⟨e,as,r,c⟩
 unfold sy;rw[dif_pos q];obtain⟨as',r',c'⟩:=q.choose_spec;rw[SeqAt.Reads.unique _ _ _ _ _ c r r']
theorem wM{A:Around}{s:Shared}{d:PyData}{v:Value}{bs:List Addr}(rv:Reads s.heap v d bs)(cd:d.canLay0=true)(hu:A.units+d.depth<cLine){us:List Value}{ds:List PyData}{as:List Addr}(r:ReadsAll s.heap us ds as)(c:ds.all PyData.canLay0=true):∀u∈us,SeqAt.EqAt A s u v (sy s.heap d u):=by
 induction us generalizing ds as with
 |nil=>exact fun _ h=>(acR h).elim
 |cons _ _ i=>cases r with|cons r t=>
  simp only[adN,ab5]at c;intro u T6;rcases acn.mp T6 with rfl|T6
  ·rw[zV r c.1];exact SeqAt.eqAt_reads _ _ A s _ _ _ _ r rv c.1 cd (by have:=ahc (PyData.depth ‹PyData›) d.depth;omega)
  ·exact i t c.2 u T6
theorem xv{h:Heap}{d:PyData}{us:List Value}{ds:List PyData}{as:List Addr}(r:ReadsAll h us ds as)(c:ds.all PyData.canLay0=true):us.any (sy h d)=ds.any fun e=>PyData.eqv e d:=by
 induction us generalizing ds as with
 |nil=>cases r;rfl
 |cons _ _ i=>cases r with|cons r t=>simp only[adN,ab5]at c;rw[adM,adM,zV r c.1,i t c.2]
theorem ja:∀l:List PyData,PyData.canLayAll0 l=l.all PyData.canLay0
 |[]=>by simp[PyData.canLayAll0]
 |x::r=>by simp[PyData.canLayAll0,ja r]
theorem qP:∀l:List PV,jz l=l.map toD
 |[]=>by simp[jz]
 |x::r=>by simp[jz,qP r]
theorem zZ(p:PV):O8 [] p=toD p:=by
 unfold O8
 split
 ·simp[toD]
 ·rfl
section
variable{G:SC}{X:Cx}{w w1:Wo}{ρ:Ev}{h:List PO}{a b c:Expr}{fa fb fc:Ex}{pos:Pos}
theorem inB{p q:PV}{u v:Value}{k:Bool}{op:CmpOp}{neg:Bool}{Q:Value->Shared->Prop}{E:Value->Shared->Prop}(ho:op= .In/\neg=false\/op= .NotIn/\neg=true)(hu:X.A.units+64<cLine)(I:Wd X w h)(rp:bq X.toSC w.F w.m p u)(rq:bq X.toSC w.F w.m q v)(e:AM p q h=some k)(fin:∀t,Q (.bool (if neg then !k else k)) { w.s with toks:=t }):Wp X (compareOp op u v) Q E w.s:=by
 unfold AM at e
 split at e
 ·split at e<;>cases e
  obtain⟨_,rfl⟩:=rp.vs;obtain⟨_,rfl⟩:=rq.vs
  rw[<- NS]at fin;rcases ho with⟨rfl,rfl⟩|⟨rfl,rfl⟩
  ·exact in_str (fin w.s.toks)
  ·exact notIn_str (fin w.s.toks)
 ·split at e
  ·split at e<;>cases e
   rename_i kk ek;obtain⟨a,kvs,rfl,sm,d,rr⟩:=I.dc rq ‹_›
   have:(dI ‹_› kk).isSome=(valueAt kvs kk).isSome:=by
    rcases qn rr.2.1 rr.2.2 kk with⟨p1,v1,h1,h2,_⟩|⟨h1,h2⟩
    ·rw[h1,h2];rfl
    ·rw[h1,h2];rfl
   rw[this]at fin;rcases ho with⟨rfl,rfl⟩|⟨rfl,rfl⟩
   ·exact wpAny_in_of (mW rp ek) sm d.mapOf (fin _)
   ·exact wpAny_notIn_of (mW rp ek) sm d.mapOf (fin _)
  ·split at e
   ·split at e
    ·rename_i hc
     cases e
     rename_i xs es
     have h1:(toD p).canLay0=true/\(toD p).depth<=60:=by have:=hc.1;unfold O9 at this;simpa[zZ]using this
     have h2:PyData.canLayAll0 (jz xs)=true:=by rw[ja,qP,agf];rw[aco]at hc |-;intro z hz;have:=hc.2 z hz;unfold O9 at this;rw[zZ,ab5]at this;exact this.1
     have h3:(jz xs).all PyData.canLay0=true:=by rw[<- ja];exact h2
     obtain⟨t,e,ht⟩:=xJ es;obtain⟨a,h_,rfl,y,z,r⟩:=I.sq rq e;obtain⟨as,ra⟩:=bq.reads I.toHR rp h1.1;obtain⟨bs,rb⟩:=aB.reads I.toHR r h2
     have en:(xs.any fun y=>PyData.eqv (toD y) (toD p))=h_.any (sy w.s.heap (toD p)):=by rw[show h_.any (sy w.s.heap (toD p))=h_.toList.any (sy w.s.heap (toD p)) by simp,xv rb h3,qP,List.any_map];rfl
     rw[en]at fin;have me:=fun{B:Around}(hB:B.units+(toD p).depth<cLine)(x:Value)(hx:x∈h_)=>wM (A:=B) ra h1.1 hB rb h3 x (by simpa using hx);have hb:X.A.in1.units+(toD p).depth<cLine:=by show X.A.units+1+_<_;omega
     rcases ht with rfl|rfl<;>rcases ho with⟨rfl,rfl⟩|⟨rfl,rfl⟩
     ·exact SeqAt.in_tupleAt (sy w.s.heap (toD p)) y.tup (fun x hx=>me hb x hx) (fin _)
     ·exact SeqAt.notIn_tupleAt (sy w.s.heap (toD p)) y.tup (fun x hx=>me hb x hx) (fin _)
     ·exact SeqAt.in_listAt (sy w.s.heap (toD p)) y.pl.isList (fun x hx=>me hb x hx) (fin _)
     ·exact SeqAt.notIn_listAt (sy w.s.heap (toD p)) y.pl.isList (fun x hx=>me hb x hx) (fin _)
    ·cases e
   ·cases e
theorem CM(hu:X.A.units+64<cLine):Rm X (compareOp .In) R7:=fun{w h p q u v Q E} I rp rq k=>by
 unfold R7 at k
 split at k
 ·exact inB (.inl ⟨rfl,rfl⟩) hu I rp rq ‹_› fun t=>k.now I.toHR (.bl _)
 ·exact k.elim
theorem zm(hu:X.A.units+64<cLine):Rm X (compareOp .NotIn) jr:=fun{w h p q u v Q E} I rp rq k=>by
 unfold jr at k
 split at k
 ·exact inB (.inr ⟨rfl,rfl⟩) hu I rp rq ‹_› fun t=>k.now I.toHR (.bl _)
 ·exact k.elim
end
end Z
namespace Z
open PySem PySem.Spec PyProof.Rows L3 L2
end Z
namespace Z
open PySem PySem.Spec PyProof.Rows L3 L2
section
variable{G:SC}{X:Cx}{w w1:Wo}{ρ:Ev}{h:List PO}
theorem bM.Uq{Q:Value->Shared->Prop}{E:Value->Shared->Prop}{pv:PV}{t:String}{ps:List PV}{h_:Array Value}{n:Nat}{s':Shared}(p:bM X (RV X.toSC) w Q E (.ok pv h))(H:HR X.toSC w h){a:Addr}(na:w.s.heap.get? a=none)(kp:∀b o,w.s.heap.get? b=some o->s'.heap.get? b=some o)(e:s'.heap.get? a=some { cls:=.type t,data:=.seq h_ n })(k:Vj pv=some (t,ps))(r:aB X.toSC w.F w.m ps h_.toList)(z:h_.size<=sizeLine)(ho:s'.os=w.s.os:=by rfl)(hg:s'.gens=w.s.gens:=by rfl):Q (.ref a) s':=
 have y:=Nw.lay (X:=X) H na kp e ho hg
 p.2 _ _ y (.sq k bC z (y.1.reps r))
theorem eQ:Tj X (.type "tuple") df:=fun ok {w h p u Q E} I rs k=>by
 unfold df at k
 split at k
 ·obtain⟨u,rfl,r1⟩:=rs.one;show Wp X (call (.type "tuple") [u]) Q E w.s
  split at k
  ·rename_i e;have sl:=aed;unfold RX at e
   split at e
   ·cases e
    obtain⟨a,h_,rfl,y,z,r⟩:=I.sq r1 rfl;exact call_tuple_same y.tup (k.here I.toHR r1)
   ·obtain⟨a,h_,rfl,y,z,r⟩:=I.sq r1 (ke e);refine call_tuple_list y.pl.isList (fun h' kp=>?_) (by omega)
    have na:w.s.heap.get? h'.objs.size=none:=by
     cases q:w.s.heap.get? h'.objs.size with
     |none=>rfl
     |some o=>have:=kp _ _ q;rw[bj]at this;cases this
    exact k.Uq I.toHR na (fun b o e=>acf _ (kp b o e)) (acq _ rfl) rfl r z
  ·exact k.elim
 ·exact k.elim
end
end Z
namespace L3
open PySem L2
end L3
namespace L2
open PySem PySem.Spec PyProof.Rows
end L2
namespace Z
open PySem PySem.Spec PyProof.Rows L3 L2
end Z
namespace L2
open PySem PySem.Spec PyProof.Rows
section
variable{prog:Program}{w:World}{A:Around}{E:Value->Shared->Prop}{s:Shared}{it t:Addr}{i:Nat}{items:Array Value}
theorem wD{Q:Value->Shared->Prop}(hit:s.heap.IsTupleIter it t i)
  (go:wpAny (model prog w) A.in1 (Builtin.«tuple_iterator.__next__» ⟨[.ref it],[]⟩) (fun fin s'=>∃v,fin=.done (.ret v)/\Q v s') E s):wpAny (model prog w) A (Builtin.SmallTypes.nextOf (.ref it)) Q E s:=by
 have ty:=hit.typeIs;have c:=adb (E:=E) (name:="__next__") (Q:=fun r s'=>∃v,r=some v/\Q v s') ty F.slot_tuple_iterator_next (adX F.slot_tuple_iterator_next ty F.entry_tuple_iterator_next (ac5 go ((by rintro fin s' ⟨v,e,q⟩;exact ⟨v,e,v,rfl,q⟩)) fun _ _ z=>z) (F.args_tuple_iterator_next_1 _));unfold Builtin.SmallTypes.nextOf;exact ab6 (ac5 c ((by rintro r s' ⟨v,e,q⟩;subst e;exact ach q)) fun _ _ z=>z)
theorem AB{x:Value}{Q:Value->Shared->Prop}(hit:s.heap.IsTupleIter it t i)(ht:s.heap.IsTuple t items)(hx:items[i]? =some x)(hQ:∀h',h'.IsTupleIter it t (i+1)->Heap.SameBut it s.heap h'->Q x { s with heap:=h' }):
  wpAny (model prog w) A (Builtin.«tuple_iterator.__next__» ⟨[.ref it],[]⟩) (fun fin s'=>∃v,fin=.done (.ret v)/\Q v s') E s:=by
 obtain⟨o,ho,hc,hd⟩:=id hit;obtain⟨p,hp,_,n,X7⟩:=ht;have nn:¬ ((Value.ref t==Value.none)=true):=aei;refine(show wpAny (model prog w) A (field (.ref it) 0 >>= _) _ E s from ab6 (acV ho hd (x:=.ref t) rfl ?_));refine(show wpAny (model prog w) A (if(Value.ref t==Value.none)=true then _ else _) _ E s from ?_);rw[if_neg nn];refine(show wpAny (model prog w) A (field (.ref it) 1 >>= _) _ E s from ab6 (acV ho hd (x:=.int i 0) rfl ?_));refine(show wpAny (model prog w) A (seqItems? (.ref t) >>= _) _ E s from ab6 (adv hp X7 ?_));simp only[ada,hx];have st:∀f,(o.mapFields f).data=.fields (f #[.ref t,.int i 0]):=fun f=>afv hd f;refine ab6 (wpAny_setField ho hd (by simp) (ach ⟨x,rfl,hQ _ ⟨_,aeo _ ho (Obj.isFreed_of_fields (afv hd _)),?_,?_⟩ (agI ..)⟩))
 ·rw[Obj.cls_mapFields];exact hc
 ·rw[afv hd];simp[rawInt]
theorem Cf{Q:Fin->Shared->Prop}(hh:A.handled=none)(hit:s.heap.IsTupleIter it t i)(ht:s.heap.IsTuple t items)(hx:items[i]? =none)
  (hE:∀h' e,Heap.ExtBut it s.heap h'->(∃o,h'.get? e=some o/\o.cls=.type "StopIteration")->E (.ref e) { s with heap:=h' }):
  wpAny (model prog w) A (Builtin.«tuple_iterator.__next__» ⟨[.ref it],[]⟩) Q E s:=by
 obtain⟨o,ho,hc,hd⟩:=id hit;obtain⟨p,hp,_,n,X7⟩:=ht;have nn:¬ ((Value.ref t==Value.none)=true):=aei;refine(show wpAny (model prog w) A (field (.ref it) 0 >>= _) _ E s from ab6 (acV ho hd (x:=.ref t) rfl ?_));refine(show wpAny (model prog w) A (if(Value.ref t==Value.none)=true then _ else _) _ E s from ?_);rw[if_neg nn];refine(show wpAny (model prog w) A (field (.ref it) 1 >>= _) _ E s from ab6 (acV ho hd (x:=.int i 0) rfl ?_));refine(show wpAny (model prog w) A (seqItems? (.ref t) >>= _) _ E s from ab6 (adv hp X7 ?_));simp only[ada,hx];refine ab6 (agN (ab6 (wpAny_setField ho hd (by simp) (ab6 ?_))));simp only[newExc,newTuple];refine ab6 (adw (ab6 (m:=firstArgMember _ _) (wpAny_of_eq (a:=Value.none) (by first|rfl|(simp only[firstArgMember];rfl)) (adw ?_ (by size_fits)))) (by size_fits));simp only[raiseNew];refine ab6 (wpAny_handled ?_);rw[hh];exact ab6 (ach (wpAny_throw (hE _ _ (((agI ..).extBut.push _).push _) ⟨_,acq _ rfl,rfl⟩)))
theorem sA(hh:A.handled=none)(ne:t≠it):Draws prog w A.in1 it [it,t] items.size (fun j v=>items[j]? =some v) (fun j h=>h.IsTupleIter it t j/\h.IsTuple t items) where
 live:=fun j h st=>by obtain⟨o,ho,_⟩:=st.1;exact⟨o,ho⟩
 frame:=fun j h h' st k=>by obtain⟨⟨o,ho,r⟩,⟨p,hp,q⟩⟩:=st;exact⟨⟨o,k _ (by simp) o ho,r⟩,⟨p,k _ (by simp) p hp,q⟩⟩
 item:=fun j s Q E hj st hQ=>wD st.1 (AB st.1 st.2 (x:=items[j]) (by simp[hj]) fun h' Vi sb=>hQ _ h' s.toks (by simp[hj]) ⟨Vi,st.2.extBut sb.extBut ne⟩ sb)
 done:=fun s Q E st hE=>wD st.1 (Cf (A:=A.in1.in1) hh st.1 st.2 (by simp) hE)
noncomputable def zW(a:Addr):Obj:={ cls:=.type "enumerate",data:=.fields #[.none,.bool false,.ref a,rawInt 0,.none,.none] }
noncomputable def kK(a:Addr):Obj:={ cls:=.type "tuple_iterator",data:=.fields #[.ref a,.int 0 0] }
theorem AR(a:Addr)(xs:Array Value)(o:Obj)(hc:o.cls=.type "tuple")(n:Nat)(hd:o.data=.seq xs n):Meets (Builtin.«enumerate.__new__» ⟨[.type "enumerate",.ref a],[]⟩) (fun _ R s=>s.heap.get? a=some o/\
   R (.ok (.ret (.ref (s.heap.push (kK a)).objs.size))) { s with heap:=(s.heap.push (kK a)).push (zW s.heap.objs.size) }):=
 .of_wp fun P1 w1 A1 R s ⟨hl,h⟩=>by
  cases s with
  |mk hp gs dd tk os=>
  have sub:=sub_enumerate;have tt:Heap.IsTuple hp a xs:=⟨o,hl,hc,n,hd⟩
  wp_walk using ac0 hl
  refine wpAny_stack_any fun st=>ach ?_
  split
  ·rename_i c _ _ _ _ _
   by_cases e:(c==Value.type "enumerate")=true
   ·rw[e];wp_walk using ac0 hl,adI tt;exact⟨_,rfl,h⟩
   ·rw[ahf]at e;rw[e];wp_walk using ac0 hl,adI tt;exact⟨_,rfl,h⟩
  ·wp_walk using ac0 hl,adI tt;exact⟨_,rfl,h⟩
theorem yx{Q:Value->Shared->Prop}(ht:s.heap.IsTuple t items)(h:Q (.ref (s.heap.objs.size+1)) { s with heap:=(s.heap.push (kK t)).push (zW s.heap.objs.size) }):wpAny (model prog w) A (call (.type "enumerate") [.ref t]) Q E s:=by obtain⟨o,ho,hc,n,hd⟩:=ht;have z:(s.heap.push (kK t)).objs.size=s.heap.objs.size+1:=adB ..;have g:=acq (s.heap.push (kK t)) (o:=zW s.heap.objs.size) rfl;refine callType_new F.called_enumerate (by decide) (F.typeCall_enumerate_1 _) (F.newCall_enumerate_1 _) (fun obj=>F.args_object_init_2 obj _) F.entry_enumerate_new (AR t items o hc n hd) ⟨ho,?_⟩;exact⟨⟨_,g,rfl⟩,by rw[z];exact h⟩
end
structure SX(z ti to i1 i2:Addr)(f1 f2:List Addr):Prop where
 a1:ti≠z
 a2:to≠z
 a3:i1≠z
 a4:i2≠z
 a5:ti≠to
 a6:ti≠i1
 a7:ti≠i2
 a8:to≠i1
 a9:to≠i2
 z1:z∉f1
 z2:z∉f2
 t1:to∉f1
 t2:to∉f2
 o1:i2∉f1
 o2:i1∉f2
section
variable{prog:Program}{w:World}{A:Around}{E:Value->Shared->Prop}{s:Shared}{z ti to i1 i2:Addr}{f1 f2:List Addr}{n1 n2:Nat}{P1 P2:Nat->Value->Prop}{S1 S2:Nat->Heap->Prop}
theorem Draws.but{it c:Addr}{fp:List Addr}{n:Nat}{P:Nat->Value->Prop}{St:Nat->Heap->Prop}(D:Draws prog w A it fp n P St){j:Nat}{h h':Heap}(st:St j h)(e:Heap.ExtBut c h h')(nc:c∉fp):St j h':=
 D.frame j h h' st fun b hb o q=>e b o (fun y=>nc (y▸hb)) q
theorem Bv{j:Nat}{a b:Value}{Q:Value->Shared->Prop}(Z:SX z ti to i1 i2 f1 f2)(D1:Draws prog w A i1 f1 n1 P1 S1)(D2:Draws prog w A i2 f2 n2 P2 S2)
  (hz:IsZip s.heap z ti to .none) (Te:IsPair s.heap ti (.ref i1) (.ref i2)) (Tz:IsPair s.heap to a b) (s1:S1 j s.heap) (s2:S2 j s.heap) (l1:j<n1) (l2:j<n2)
  (hQ:∀x y h' tk,P1 j x->P2 j y->IsZip h' z ti to (rawInt s.heap.objs.size)->IsPair h' to x y->S1 (j+1) h'->S2 (j+1) h'->IsPair h' s.heap.objs.size x y->h'.objs.size=s.heap.objs.size+1->
   (∀c o,c≠z->c≠to->c≠i1->c≠i2->s.heap.get? c=some o->h'.get? c=some o)->Q (.ref s.heap.objs.size) { s with heap:=h',toks:=tk }):
  wpAny (model prog w) A (Builtin.«zip.__next__» ⟨[.ref z],[]⟩) (fun fin s'=>∃v,fin=.done (.ret v)/\Q v s') E s:=by
 refine(show wpAny (model prog w) A (field (.ref z) 2 >>= _) _ E s from ab6 (acV hz rfl (x:=.bool false) rfl ?_));refine(show wpAny (model prog w) A (field (.ref z) 3 >>= _) _ E s from ab6 (acV hz rfl (x:=.ref ti) rfl (ab6 (adv Te rfl ?_))));refine(show wpAny (model prog w) A ((field (.ref z) 0 >>= _) >>= _) _ E s from ab6 (ab6 (acV hz rfl (x:=.none) rfl (ach ?_))));rw[if_pos (by rfl)];refine ab6 (agN (ab6 (acV hz rfl (x:=.ref to) rfl (ab6 (adY hz (by simp) fun g1 zg b1=>?_)))));have zg:IsZip g1 z ti to .ellipsis:=zg;rw[show(#[Value.ref i1,.ref i2]:Array Value).toList.zipIdx= [(Value.ref i1,0),(.ref i2,1)]from rfl];refine ab6 ?_;rw[adE];refine ab6 (ab6 (afQ ?_));refine(show wpAny (model prog w) A (Builtin.SmallTypes.nextOf (.ref i1) >>= _) _ _ _ from ab6 (D1.item j _ _ _ l1 (Draws.but D1 s1 b1.extBut Z.z1) fun x g2 k2 px t1 b2=>ach ?_));have to2:IsPair g2 to a b:=b2.extBut _ _ Z.a8 (b1.extBut _ _ Z.a2 Tz);refine ab6 (adv to2 rfl (ab6 (afa to2 fun g3 to3 b3=>ab6 (ahg (ach ?_)))));have to3:IsPair g3 to x b:=to3;dsimp only;rw[adE];refine ab6 (ab6 (afQ ?_));refine(show wpAny (model prog w) A (Builtin.SmallTypes.nextOf (.ref i2) >>= _) _ _ _ from ab6 (D2.item j _ _ _ l2 (Draws.but D2 (Draws.but D2 (Draws.but D2 s2 b1.extBut Z.z2) b2.extBut Z.o2) b3.extBut Z.t2) fun y g4 k4 py t2 b4=>ach ?_))
 have Y5:IsPair g4 to x b:=b4.extBut _ _ Z.a9 to3;refine ab6 (adv Y5 rfl (ab6 (afa Y5 fun g5 Wx b5=>ab6 (ahg (ach ?_)))));have Wx:IsPair g5 to x y:=Wx;dsimp only;rw[ahu];refine ach (ab6 (adv Wx rfl (ab6 (wpAny_newTuple ?_))));have kz:∀c o,c≠to->c≠i1->c≠i2->g1.get? c=some o->g5.get? c=some o:=fun c o c1 c2 c3 q=>b5.extBut _ _ c1 (b4.extBut _ _ c3 (b3.extBut _ _ c1 (b2.extBut _ _ c2 q)));have z5:IsZip g5 z ti to .ellipsis:=kz _ _ (acW Z.a2) (acW Z.a3) (acW Z.a4) zg;have sz:g5.objs.size=s.heap.objs.size:=by rw[b5.1,b4.1,b3.1,b2.1,b1.1]
 have u1:S1 (j+1) g5:=Draws.but D1 (Draws.but D1 (Draws.but D1 t1 b3.extBut Z.t1) b4.extBut Z.o1) b5.extBut Z.t1;have u2:S2 (j+1) g5:=Draws.but D2 t2 b5.extBut Z.t2;have z6:IsZip (g5.push { cls:=.type "tuple",data:=.seq #[x,y] }) z ti to .ellipsis:=acf _ z5;refine(show wpAny (model prog w) A ((setField (.ref z) 0 _ >>= _) >>= _) _ E _ from ab6 (ab6 (adY z6 (by simp) fun g7 z7 b7=>?_)));refine(show wpAny (model prog w) A (setField (.ref z) 1 _) _ E _ from adY (show IsZip g7 z ti to (rawInt g5.objs.size)from z7) (by simp) fun g8 z8 b8=>?_);have z8:IsZip g8 z ti to (rawInt g5.objs.size):=z8;have lz:z<g5.objs.size:=acI z5;have p8:IsPair g8 g5.objs.size x y:=b8.extBut _ _ (aef lz) (b7.extBut _ _ (aef lz) (acq _ rfl));have k8:∀c o,c≠z->g5.get? c=some o->g8.get? c=some o:=fun c o c1 q=>b8.extBut _ _ c1 (b7.extBut _ _ c1 (acf _ q));have s8:g8.objs.size=g5.objs.size+1:=by rw[b8.1,b7.1,adB]
 have v1:S1 (j+1) g8:=D1.frame _ _ _ u1 fun c hc o q=>k8 c o (fun y=>Z.z1 (y▸hc)) q;have v2:S2 (j+1) g8:=D2.frame _ _ _ u2 fun c hc o q=>k8 c o (fun y=>Z.z2 (y▸hc)) q;rw[sz]at z8 p8 s8;refine ach ⟨_,rfl,?_⟩;have q:=hQ x y g8 k4 px py z8 (k8 _ _ Z.a2 Wx) v1 v2 p8 s8 fun c o c1 c2 c3 c4 q=>k8 c o c1 (kz c o c2 c3 c4 (b1.extBut _ _ c1 q));rw[<- sz]at q;exact q
theorem EI{j:Nat}{a b:Value}{R:Fin->Shared->Prop}(Z:SX z ti to i1 i2 f1 f2)(D1:Draws prog w A i1 f1 n1 P1 S1)(D2:Draws prog w A i2 f2 n2 P2 S2)
  (hz:IsZip s.heap z ti to .none) (Te:IsPair s.heap ti (.ref i1) (.ref i2)) (Tz:IsPair s.heap to a b) (s1:S1 j s.heap) (s2:S2 j s.heap) (l:j=n1\/(j<n1/\j=n2))
  (hE:∀h' e tk,(∀c o,c≠z->c≠to->c≠i1->c≠i2->s.heap.get? c=some o->h'.get? c=some o)->(∃o,h'.get? e=some o/\o.cls=.type "StopIteration")->E (.ref e) { s with heap:=h',toks:=tk }):
  wpAny (model prog w) A (Builtin.«zip.__next__» ⟨[.ref z],[]⟩) R E s:=by
 refine(show wpAny (model prog w) A (field (.ref z) 2 >>= _) _ E s from ab6 (acV hz rfl (x:=.bool false) rfl ?_));refine(show wpAny (model prog w) A (field (.ref z) 3 >>= _) _ E s from ab6 (acV hz rfl (x:=.ref ti) rfl (ab6 (adv Te rfl ?_))));refine(show wpAny (model prog w) A ((field (.ref z) 0 >>= _) >>= _) _ E s from ab6 (ab6 (acV hz rfl (x:=.none) rfl (ach ?_))));rw[if_pos (by rfl)];refine ab6 (agN (ab6 (acV hz rfl (x:=.ref to) rfl (ab6 (adY hz (by simp) fun g1 zg b1=>?_)))));have zg:IsZip g1 z ti to .ellipsis:=zg;rw[show(#[Value.ref i1,.ref i2]:Array Value).toList.zipIdx= [(Value.ref i1,0),(.ref i2,1)]from rfl];refine ab6 ?_;rw[adE];refine ab6 (ab6 (afQ ?_))
 have go:∀(g:Heap)(e:Addr)(k:Nat),IsZip g z ti to .ellipsis->(∀c o,c≠z->c≠to->c≠i1->c≠i2->s.heap.get? c=some o->g.get? c=some o)->(∃o,g.get? e=some o/\o.cls=.type "StopIteration")->
   wpAny (model prog w) A (setField (.ref z) 0 .none) (fun _ s'=>E (.ref e) s') E { s with heap:=g,toks:=k }:=fun g e k zz kk ⟨oe,q1,q2⟩=>by
  have ne:e≠z:=fun y=>by subst y;rw[zz]at q1;cases q1;simp at q2
  exact adY zz (by simp) fun g' _ bb=>hE g' e k (fun c o c1 c2 c3 c4 q=>bb.extBut _ _ c1 (kk c o c1 c2 c3 c4 q)) ⟨oe,bb.extBut _ _ ne q1,q2⟩
 rcases l with l|⟨l1,l⟩
 ·subst l;refine(show wpAny (model prog w) A (Builtin.SmallTypes.nextOf (.ref i1) >>= _) _ _ _ from ab6 (D1.done _ _ _ (Draws.but D1 s1 b1.extBut Z.z1) fun g2 e b2 q=>?_));exact go g2 e _ (b2 _ _ (acW Z.a3) zg) (fun c o c1 _ c3 _ q=>b2 _ _ c3 (b1.extBut _ _ c1 q)) q
 ·subst l;refine(show wpAny (model prog w) A (Builtin.SmallTypes.nextOf (.ref i1) >>= _) _ _ _ from ab6 (D1.item j _ _ _ l1 (Draws.but D1 s1 b1.extBut Z.z1) fun x g2 k2 px t1 b2=>ach ?_));have to2:IsPair g2 to a b:=b2.extBut _ _ Z.a8 (b1.extBut _ _ Z.a2 Tz);refine ab6 (adv to2 rfl (ab6 (afa to2 fun g3 to3 b3=>ab6 (ahg (ach ?_)))));dsimp only;rw[adE];refine ab6 (ab6 (afQ ?_));refine(show wpAny (model prog w) A (Builtin.SmallTypes.nextOf (.ref i2) >>= _) _ _ _ from ab6 (D2.done _ _ _ (Draws.but D2 (Draws.but D2 (Draws.but D2 s2 b1.extBut Z.z2) b2.extBut Z.o2) b3.extBut Z.t2) fun g4 e b4 q=>?_));exact go g4 e _ (b4 _ _ (acW Z.a4) (b3.extBut _ _ (acW Z.a2) (b2.extBut _ _ (acW Z.a3) zg))) (fun c o c1 c2 c3 c4 q=>b4 _ _ c4 (b3.extBut _ _ c2 (b2.extBut _ _ c3 (b1.extBut _ _ c1 q)))) q
theorem wK{j:Nat}{a b:Value}{Q:Option Value->Shared->Prop}(Z:SX z ti to i1 i2 f1 f2)(D1:Draws prog w A.in1 i1 f1 n1 P1 S1)(D2:Draws prog w A.in1 i2 f2 n2 P2 S2)
  (hz:IsZip s.heap z ti to .none) (Te:IsPair s.heap ti (.ref i1) (.ref i2)) (Tz:IsPair s.heap to a b) (s1:S1 j s.heap) (s2:S2 j s.heap) (l1:j<n1) (l2:j<n2)
  (hQ:∀x y h' tk,P1 j x->P2 j y->IsZip h' z ti to (rawInt s.heap.objs.size)->IsPair h' to x y->S1 (j+1) h'->S2 (j+1) h'->IsPair h' s.heap.objs.size x y->h'.objs.size=s.heap.objs.size+1->
   (∀c o,c≠z->c≠to->c≠i1->c≠i2->s.heap.get? c=some o->h'.get? c=some o)->Q (some (.ref s.heap.objs.size)) { s with heap:=h',toks:=tk }):wpAny (model prog w) A (pyNext (.ref z)) Q E s:=by
 have ty:s.TypeIs (.ref z) "zip":=⟨_,hz,rfl⟩
 unfold pyNext;exact ab6 (afR (adb (name:="__next__") ty F.slot_zip_next (adX F.slot_zip_next ty F.entry_zip_next (Bv Z D1 D2 hz Te Tz s1 s2 l1 l2 fun x y h' tk p1 p2 q1 q2 q3 q4 q5 q6 q7=>ach (hQ x y h' tk p1 p2 q1 q2 q3 q4 q5 q6 q7)) (F.args_zip_next_1 _))))
theorem wV{j:Nat}{a b:Value}{Q:Option Value->Shared->Prop}(Z:SX z ti to i1 i2 f1 f2)(D1:Draws prog w A.in1 i1 f1 n1 P1 S1)(D2:Draws prog w A.in1 i2 f2 n2 P2 S2)
  (hz:IsZip s.heap z ti to .none) (Te:IsPair s.heap ti (.ref i1) (.ref i2)) (Tz:IsPair s.heap to a b) (s1:S1 j s.heap) (s2:S2 j s.heap) (l:j=n1\/(j<n1/\j=n2))
  (hQ:∀h' tk,(∀c o,c≠z->c≠to->c≠i1->c≠i2->s.heap.get? c=some o->h'.get? c=some o)->Q none { s with heap:=h',toks:=tk }):wpAny (model prog w) A (pyNext (.ref z)) Q E s:=by
 have ty:s.TypeIs (.ref z) "zip":=⟨_,hz,rfl⟩
 unfold pyNext;refine ab6 (afR (adb (name:="__next__") ty F.slot_zip_next (adX F.slot_zip_next ty F.entry_zip_next (EI Z D1 D2 hz Te Tz s1 s2 l ?_) (F.args_zip_next_1 _))));rintro h' e tk kk ⟨o,q1,q2⟩;exact ab6 (wpAny_isInstance (T:="StopIteration") (b:=true) ⟨o,q1,q2⟩ isSubtype_stop (ach (hQ _ _ kk)))
noncomputable def za(a b:Value):Obj:={ cls:=.type "tuple",data:=.seq #[a,b] }
noncomputable def KV(a b:Addr):Obj:={ cls:=.type "zip",data:=.fields #[.none,.bool false,.bool false,.ref a,.ref b] }
abbrev VB(h:Heap)(a b:Addr):Heap:=(h.push (kK a)).push (kK b)
abbrev Vz(h:Heap)(a b:Addr):Heap:=(VB h a b).push (za (.ref h.objs.size) (.ref (h.push (kK a)).objs.size))
abbrev Ww(h:Heap)(a b:Addr):Heap:=(Vz h a b).push (za .none .none)
abbrev UJ(h:Heap)(a b:Addr):Heap:=(Ww h a b).push (KV (VB h a b).objs.size (Vz h a b).objs.size)
theorem CY(a b:Addr)(xs ys:Array Value):Meets (Builtin.«zip.__new__» ⟨[.type "zip",.ref a,.ref b],[]⟩) (fun _ R s=>s.heap.IsTuple a xs/\s.heap.IsTuple b ys/\R (.ok (.ret (.ref (Ww s.heap a b).objs.size))) { s with heap:=UJ s.heap a b }):=
 .of_wp fun P1 w1 A1 R s ⟨ta,tb,h⟩=>by
  cases s with
  |mk hp gs dd tk os=>
  have sub:=sub_zip;have t1:Heap.IsTuple hp a xs:=ta;have t2:Heap.IsTuple (hp.push (kK a)) b ys:=by obtain⟨o,q,r⟩:=tb;exact⟨o,acf _ q,r⟩
  wp_walk using adI t1,adI t2
  exact⟨_,rfl,h⟩
end
section
variable{prog:Program}{w:World}{A:Around}{E:Value->Shared->Prop}{s:Shared}
theorem ud{a b:Addr}{xs ys:Array Value}{Q:Value->Shared->Prop}(ta:s.heap.IsTuple a xs)(tb:s.heap.IsTuple b ys)
  (h:∀h',(∀c o,s.heap.get? c=some o->h'.get? c=some o)->h'.get? s.heap.objs.size=some (kK a)->h'.get? (s.heap.objs.size+1)=some (kK b)->IsPair h' (s.heap.objs.size+2) (.ref s.heap.objs.size) (.ref (s.heap.objs.size+1))->IsPair h' (s.heap.objs.size+3) .none .none->
   IsZip h' (s.heap.objs.size+4) (s.heap.objs.size+2) (s.heap.objs.size+3) .none->Q (.ref (s.heap.objs.size+4)) { s with heap:=h' }):wpAny (model prog w) A (call (.type "zip") [.ref a,.ref b]) Q E s:=by
 refine callType_new F.called_zip (by decide) (F.typeCall_zip_2 _ _) (F.newCall_zip_2 _ _) (fun obj=>F.args_object_init_3 obj _ _) F.entry_zip_new (CY a b xs ys) ⟨ta,tb,?_⟩;have z1:(s.heap.push (kK a)).objs.size=s.heap.objs.size+1:=adB ..;have z2:(VB s.heap a b).objs.size=s.heap.objs.size+2:=by rw[adB,z1]
 have z3:(Vz s.heap a b).objs.size=s.heap.objs.size+3:=by rw[adB,z2]
 have z4:(Ww s.heap a b).objs.size=s.heap.objs.size+4:=by rw[adB,z3]
 have up:∀{h:Heap}{o p:Obj}{c:Addr},h.get? c=some o->(h.push p).get? c=some o:=fun e=>acf _ e;have g0:(UJ s.heap a b).get? s.heap.objs.size=some (kK a):=up (up (up (up (acq _ rfl))));have g1:(UJ s.heap a b).get? (s.heap.push (kK a)).objs.size=some (kK b):=up (up (up (acq _ rfl)));have g2:(UJ s.heap a b).get? (VB s.heap a b).objs.size=some (za (.ref s.heap.objs.size) (.ref (s.heap.push (kK a)).objs.size)):=up (up (acq _ rfl));have g3:(UJ s.heap a b).get? (Vz s.heap a b).objs.size=some (za .none .none):=up (acq _ rfl);have g4:(UJ s.heap a b).get? (Ww s.heap a b).objs.size=some (KV (VB s.heap a b).objs.size (Vz s.heap a b).objs.size):=acq _ rfl;rw[z1]at g1;rw[z2,z1]at g2;rw[z3]at g3;rw[z4,z2,z3]at g4;have q:=h (UJ s.heap a b) (fun c o e=>up (up (up (up (up e))))) g0 g1 g2 g3 g4;refine⟨⟨_,by rw[z4];exact g4,rfl⟩,?_⟩;rw[z4];exact q
theorem yI(n a b:Nat)(la:a<n)(lb:b<n):SX (n+4) (n+2) (n+3) n (n+1) [n,a] [n+1,b]:=by
 have l:∀{i j:Nat},i<j->(n+i:Nat)≠n+j:=fun h=>ac2 (Nat.add_lt_add_left h n)
 have m:∀{x y z:Nat},x≠y->x≠z->x∉ [y,z]:=fun h1 h2 h=>by
  rcases acn.mp h with q|q
  ·exact h1 q
  ·exact h2 (acp.mp q)
 have g:∀{i c:Nat},c<n->(n+i:Nat)≠c:=fun h=>aef (adK h (acQ n _));have d:∀{i j:Nat},i>j->(n+i:Nat)≠n+j:=fun h=>acW (l h)
 exact⟨l (i:=2) (by decide),l (i:=3) (by decide),l (i:=0) (j:=4) (by decide),l (i:=1) (by decide),l (i:=2) (by decide),d (i:=2) (j:=0) (by decide),d (i:=2) (by decide),d (i:=3) (j:=0) (by decide),d (i:=3) (by decide),
  m (d (i:=4) (j:=0) (by decide)) (g la),m (d (i:=4) (by decide)) (g lb),m (d (i:=3) (j:=0) (by decide)) (g la),m (d (i:=3) (by decide)) (g lb),m (d (i:=1) (j:=0) (by decide)) (g la),m (l (i:=0) (by decide)) (g (i:=0) lb)⟩
end
end L2
namespace L3
open PySem L2
noncomputable def Rd:Nat->List PV->List PV
 |_,[]=>[]
 |n,x::r=>.tup [.int n,x]::Rd (n+1) r
def GO(ps:List PV)(h:List PO):Res (List PV):=match ps with
 |[.tup xs]=>.ok (Rd 0 xs) h
 |[.lst xs]=>.ok (Rd 0 xs) h
 |_=>.bad
def An(f:Ax):Ax:=fun ρ h=>(f ρ h).bind GO
noncomputable def Ss:List PV->List PV->List PV
 |x::r,y::t=>.tup [x,y]::Ss r t
 |_,_=> []
def Bo(ps:List PV)(h:List PO):Res (List PV):=match ps with
 |[.tup xs,.tup ys]=>.ok (Ss xs ys) h
 |_=>.bad
def KR(f:Ax):Ax:=fun ρ h=>(f ρ h).bind Bo
end L3
namespace Z
open PySem PySem.Spec PyProof.Rows L3 L2
section
variable{G:SC}{X:Cx}{w w0 w1:Wo}{ρ:Ev}{h:List PO}{s':Shared}{fp:List Addr}{a b e it:Addr}{o:Obj}{h_ U8:Array Value}{xs ys:List PV}{J:Nat->Heap->Prop}{elts:List Expr}{k:Nat}{pos p0 p1:Pos}
theorem zY:∀{xs:List PV}{n i:Nat}{p:PV},(Rd n xs)[i]? =some p->∃x,xs[i]? =some x/\p=.tup [.int ((n+i:Nat):Int),x]
 |[],_,_,_,e=>by simp[Rd]at e
 |x::r,n,0,p,e=>by cases e;exact⟨x,rfl,rfl⟩
 |x::r,n,i+1,p,e=>by obtain⟨y,e1,rfl⟩:=zY (xs:=r) (n:=n+1) (i:=i) e;exact⟨y,e1,by rw[show n+1+i=n+(i+1) by omega]⟩
theorem zX:∀(xs:List PV)(n:Nat),(Rd n xs).length=xs.length
 |[],_=>rfl
 |x::r,n=>by simp[Rd,zX r]
theorem yG:∀{xs ys:List PV}{i:Nat}{p:PV},(Ss xs ys)[i]? =some p->∃x y,xs[i]? =some x/\ys[i]? =some y/\p=.tup [x,y]
 |[],_,_,_,e=>by simp[Ss]at e
 |_::_,[],_,_,e=>by simp[Ss]at e
 |x::r,y::t,0,p,e=>by cases e;exact⟨x,y,rfl,rfl,rfl⟩
 |x::r,y::t,i+1,p,e=>yG (xs:=r) (ys:=t) (i:=i) e
theorem yF:∀(xs ys:List PV),(Ss xs ys).length=min xs.length ys.length
 |[],_=>by simp[Ss]
 |_::_,[]=>by simp[Ss]
 |x::r,y::t=>by simp[Ss,yF r t]
theorem uu(H:HR G w h)(f:∀b∈fp,∃o,Has w b o)(k:∀b o,b∉fp->w.s.heap.get? b=some o->s'.heap.get? b=some o)(ho:s'.os=w.s.os:=by rfl)(hg:s'.gens=w.s.gens:=by rfl):Pv fp w { w with s:=s' }/\HR G { w with s:=s' } h:=
 ⟨⟨ho,fun q=>hg▸q,fun _ _ e=>e,fun _ _ e=>e,⟨[],by simp⟩,fun b o n e=>⟨o,k b o n e⟩,fun b o n q=>⟨k b o n q.1,q.2⟩⟩,H.on fun b o e z=>k b o (fun q=>let⟨_,r⟩:=f b q;z r.2) e⟩
theorem yJ(H:HR G w h)(f:∀b∈fp,∃o,Has w b o)(n:w.s.heap.get? a=none)(k:∀b o,b∉fp->w.s.heap.get? b=some o->s'.heap.get? b=some o)(e:s'.heap.get? a=some o)(ho:s'.os=w.s.os:=by rfl)(hg:s'.gens=w.s.gens:=by rfl):Pv fp w ⟨iV w.F a o,w.O,w.m,s'⟩/\HR G ⟨iV w.F a o,w.O,w.m,s'⟩ h:=by
 obtain⟨x,y⟩:=uu H f k ho hg;have na:∀{b o},w.s.heap.get? b=some o->b≠a:=fun q z=>by rw[z,n]at q;cases q
 have hF:=(H.free n).2.1;exact⟨⟨ho,fun q=>hg▸q,dE hF,fun _ _ e=>e,⟨[],by simp⟩,x.dom,fun b o n q=>let⟨q1,q2⟩:=x.keep b o n q;⟨q1,q2.1,cQ (na q.1) q2.2.1,q2.2.2⟩⟩,y.freeze ⟨e,H.free n⟩⟩
structure Sq(G:SC)(w0:Wo)(a it:Addr)(h_:Array Value)(J:Nat->Heap->Prop):Prop where
 keep:∀j g g',J j g->(∀o,g.get? it=some o->g'.get? it=some o)->J j g'
 ob:∀j g,J j g->∃o,g.get? it=some o
 dr:∀{A:Around}{w:Wo}{h:List PO},A.handled=none->Rn w0 w->HR G w h->∃S,Draws G.prog G.w A.in1 it [it,a] h_.size (fun j v=>h_[j]? =some v) S/\(∀j,J j w.s.heap->S j w.s.heap)/\∀j g,S j g->J j g
theorem xI{n:Nat}(ne:a≠it)(e:w0.F a=some { cls:=.type "tuple",data:=.seq h_ n }):Sq G w0 a it h_ (fun j g=>g.IsTupleIter it a j) where
 keep:=(by rintro j g g' ⟨o,ho,r⟩ k;exact ⟨o,k o ho,r⟩)
 ob:=(by rintro j g ⟨o,ho,_⟩;exact ⟨o,ho⟩)
 dr hh l H:=⟨_,sA hh ne,fun j q=>⟨q,⟨_,H.at (l.1 _ _ e),rfl,_,rfl⟩⟩,fun j g q=>q.1⟩
theorem Io{n:Nat}(ne:a≠it)(e:w0.F a=some { cls:=.type "list",data:=.seq h_ n }):Sq G w0 a it h_ (fun j g=>g.IsListIter it a j) where
 keep:=(by rintro j g g' ⟨o,ho,r⟩ k;exact ⟨o,k o ho,r⟩)
 ob:=(by rintro j g ⟨o,ho,_⟩;exact ⟨o,ho⟩)
 dr {A w h} hh l H:=⟨_,Draws.list (A:=A.in1) hh it a ne h_,fun j q=>⟨q,⟨_,H.at (l.1 _ _ e),rfl,_,rfl⟩⟩,fun j g q=>q.1⟩
theorem Gf(S:Sq G w0 a it h_ J)(r:aB G w0.F w0.m xs h_.toList)(ne:e≠it)(n1:a≠e):Bk G w0 (.Tuple elts k pos) (Rd 0 xs) e [e,it] (fun i g=>(∃old,IsEnum g e it i old)/\J i g) where
 keep l1 H1 l2 H2 st q:=by obtain⟨⟨old,he⟩,hi⟩:=st;exact⟨⟨old,q e (by simp) _ he⟩,S.keep _ _ _ hi fun o ho=>q it (by simp) _ ho⟩
 item {A w h i p Q E} hh l H st hx f q:=by
  obtain⟨⟨old,he⟩,hi⟩:=st;obtain⟨x,ex,rfl⟩:=zY hx;obtain⟨u,hu,ru⟩:=r.get ex;obtain⟨St,D,t1,t2⟩:=S.dr hh l H;have XR:i<h_.size:=(acd.mp hu).1;refine wpAny_pyNext_enum_itemD D he (t1 _ hi) XR ne (by simp[ne,acW n1]) fun u' h' tk T6 ho V7 ht hsz hk=>⟨_,rfl,?_⟩
  have:u'=u:=by rw[adH]at hu;rw[hu]at T6;cases T6;rfl
  subst this;refine wpAny_letOwnedTupleGo_enum ho fun h2 ZM sb=>?_;have lt:e<w.s.heap.objs.size:=acI he
  have kk:∀b o,b∉ [e,it]->w.s.heap.get? b=some o->h2.get? b=some o:=fun b o nb q=>by simp only[acn,acR,or_false,not_or]at nb;exact(sb.2 b nb.1).trans (hk b o nb.1 nb.2 q)
  have ht2:h2.get? w.s.heap.objs.size=some { cls:=.type "tuple",data:=.seq #[.int i tk,u'] }:=(sb.2 _ (aef lt)).trans ht;obtain⟨a1,a2⟩:=yJ (s':={ w.s with heap:=h2,toks:=tk+1 }) H f (bj _) kk ht2;have ZG:J (i+1) h2:=S.keep _ _ _ (t2 _ _ V7) fun o q=>(sb.2 it (acW ne)).trans q
  have fr:∀b∈ [e,it],∃o,Has ⟨iV w.F w.s.heap.objs.size { cls:=.type "tuple",data:=.seq #[.int i tk,u'] },w.O,w.m,{ w.s with heap:=h2,toks:=tk+1 }⟩ b o:=fun b hb=>by
   obtain⟨o,q⟩:=f b hb;have nb:b≠w.s.heap.objs.size:=fun z=>by have q:=q.1;rw[z,bj]at q;cases q
   have:∃o,h2.get? b=some o:=by
    simp only[acn,acR,or_false]at hb;rcases hb with rfl|rfl
    ·exact⟨_,ZM⟩
    ·exact S.ob _ _ ZG
   obtain⟨o',q'⟩:=this;exact⟨o',q',q.2.1,cQ nb q.2.2.1,q.2.2.2⟩
  refine q _ _ a1 a2 ⟨⟨u',by simpa using ZM⟩,ZG⟩ fr ?_;exact .tup bC (by show 2<=sizeLine;decide) (.cons (by simpa using .int i tk) (.cons ((ru.mono l.1 (.inr l.2)).mono (dE (H.free (bj _)).2.1) (.inr fun _ _ e=>e)) .nil))
 done {A w h i Q E} hh l H st hx f q:=by
  obtain⟨⟨old,he⟩,hi⟩:=st;obtain⟨St,D,t1,t2⟩:=S.dr hh l H;rw[zX,r.len]at hx;subst hx;refine wpAny_pyNext_enum_endD D he (t1 _ hi) fun h' eb=>⟨rfl,?_⟩
  obtain⟨a1,a2⟩:=uu (fp:=[e,it]) (s':={ w.s with heap:=h' }) H f fun b o nb q=>eb b o (by simp only[acn,acR,or_false,not_or]at nb;exact nb.2) q;exact q _ a1 a2
 self hh st q:=by obtain⟨⟨old,he⟩,hi⟩:=st;exact afL he q
variable{Q:Value->Shared->Prop}{E:Value->Shared->Prop}{tg:Expr}{f:Ax}{ae be:Expr}
theorem R5.of{tn:Nat->Heap->Prop}{h':Heap}{tk:Nat}(I:Inv X w ρ h)(y:NZ X.fs Rg w0 w)(kp:∀b o,w.s.heap.get? b=some o->h'.get? b=some o)(T:Bk X.toSC w tg xs it fp tn)(t:tn 0 h')(fr:∀b∈fp,w.s.heap.objs.size<=b/\∃o,h'.get? b=some o)(p:bM X (R5 X tg w0) w Q E (.ok xs h)):Q (.ref it) { w.s with heap:=h',toks:=tk }:=by
 have n:=Nw.also (X:=X) (s':={ w.s with heap:=h',toks:=tk }) I.toHR kp;refine p.2 _ _ n ⟨_,fp,tn,rfl,⟨T.keep,T.item,T.done,T.self⟩,t,fun b hb=>?_⟩;obtain⟨l,o,q⟩:=fr b hb
 have nb:w.s.heap.get? b=none:=by
  cases q:w.s.heap.get? b with
  |none=>rfl
  |some o=>exact absurd (adK (acI q) l) (adW _)
 refine⟨⟨o,q,I.toHR.free nb⟩,I.out nb,?_⟩
 cases q:w0.s.heap.get? b with
 |none=>rfl
 |some o=>obtain⟨o',q'⟩:=y.dom _ _ q;rw[nb]at q';cases q'
theorem yT(hg:Gl X "enumerate")(hm:X.mg "enumerate"=none)(ha:RA X [ae] f)(hs:starEach [ae] X.env= [(false,eval ae X.env)]:=by rfl):RI X (.Tuple elts k pos) (.Call (.Name "enumerate" p0) [ae] [] p1) (An f):=⟨fun{w0 ρ h Q E} I p=>Call_ (I.blt hg hm (show bootBuiltins "enumerate"=some (.type "enumerate") by decide+kernel) (afr (ha.r p1 I (p.bind fun w1 h1 ps us y r p=>by
 have fin:∀{a:Addr}{h_:Array Value}{J:Nat->Heap->Prop}{xs:List PV}{h':Heap},Sq X.toSC w1 a w1.s.heap.objs.size h_ J->aB X.toSC w1.F w1.m xs h_.toList->a<w1.s.heap.objs.size->(∀b o,w1.s.heap.get? b=some o->h'.get? b=some o)->IsEnum h' (w1.s.heap.objs.size+1) w1.s.heap.objs.size 0 .none->J 0 h'->bM X (R5 X (.Tuple elts k pos) w0) w1 Q E (.ok (Rd 0 xs) h1)->Q (.ref (w1.s.heap.objs.size+1)) { w1.s with heap:=h',toks:=w1.s.toks }:=fun{a h_ J xs h'} S rr la kk hE hJ p=>R5.of (tk:=w1.s.toks) (I.on y) y.1 kk (Gf (elts:=elts) (k:=k) (pos:=pos) S rr (Nat.succ_ne_self _) (ac2 (adP la))) ⟨⟨_,hE⟩,hJ⟩ (fun b hb=>by
  simp only[acn,acR,or_false]at hb;rcases hb with rfl|rfl
  ·exact⟨acS _,_,hE⟩
  ·exact⟨ab8 _,S.ob _ _ hJ⟩) p
 unfold GO at p
 split at p
 ·obtain⟨u,rfl,r1⟩:=r.one
  cases r1 with
  |tup e z rr=>rename_i a h_ n;have t:=y.2.at e;have la:=acI t;refine yx (t:=a) (items:=h_) ⟨_,t,rfl,_,rfl⟩ ?_;have zz:(w1.s.heap.push (kK a)).objs.size=w1.s.heap.objs.size+1:=adB ..;have g:=acq (w1.s.heap.push (kK a)) (o:=zW w1.s.heap.objs.size) rfl;rw[zz]at g;exact afL (it:=w1.s.heap.objs.size) (i:=0) (old:=.none) g (fin (xI (ac2 la) e) rr la (fun b o e=>acf _ (acf _ e)) g ⟨_,acf _ (acq _ rfl),rfl,rfl⟩ p)
 ·obtain⟨u,rfl,r1⟩:=r.one
  cases r1 with
  |lst e z rr=>rename_i a h_ n;have t:=y.2.at e;have la:=acI t;exact call_enumerate_list (items:=h_) ⟨_,t,rfl,_,rfl⟩ fun h2 hE hI hsz kk=>afL hE (fin (Io (ac2 la) e) rr la kk hE hI p)
 ·exact p.elim)) hs rfl))⟩
end
end Z
namespace Z
open PySem PySem.Spec PyProof.Rows L3 L2
section
variable{G:SC}{X:Cx}{w w0 w1:Wo}{ρ:Ev}{h:List PO}{a b z ti to i1 i2:Addr}{h_ U8:Array Value}{xs ys:List PV}{J1 J2:Nat->Heap->Prop}{elts:List Expr}{k:Nat}{pos p0 p1:Pos}{f:Ax}{ae be:Expr}
theorem JH(S1:Sq G w0 a i1 h_ J1)(S2:Sq G w0 b i2 U8 J2)(r1:aB G w0.F w0.m xs h_.toList)(r2:aB G w0.F w0.m ys U8.toList)(Z:SX z ti to i1 i2 [i1,a] [i2,b]):Bk G w0 (.Tuple elts k pos) (Ss xs ys) z [z,ti,to,i1,i2] (fun i g=>IsZip g z ti to .none/\IsPair g ti (.ref i1) (.ref i2)/\(∃u v,IsPair g to u v)/\J1 i g/\J2 i g) where
 keep l1 H1 l2 H2 st q:=by obtain⟨hz,h1,⟨u,v,h2⟩,s1,s2⟩:=st;exact⟨q z (by simp) _ hz,q ti (by simp) _ h1,⟨u,v,q to (by simp) _ h2⟩,S1.keep _ _ _ s1 fun o ho=>q i1 (by simp) _ ho,S2.keep _ _ _ s2 fun o ho=>q i2 (by simp) _ ho⟩
 item {A w h i p Q E} hh l H st hx f q:=by
  obtain⟨hz,h1,⟨u0,v0,h2⟩,s1,s2⟩:=st;obtain⟨x,y,ex,ey,rfl⟩:=yG hx;obtain⟨u,hu,ru⟩:=r1.get ex;obtain⟨v,hv,rv⟩:=r2.get ey;obtain⟨T1,D1,t1,Y7⟩:=S1.dr hh l H;obtain⟨T2,D2,t2,Y6⟩:=S2.dr hh l H;refine wK Z D1 D2 hz h1 h2 (t1 _ s1) (t2 _ s2) (acd.mp hu).1 (acd.mp hv).1 fun u' v' h' tk pu pv z' p' q1 q2 pr sz kk=>⟨_,rfl,?_⟩
  rw[adH]at hu hv;rw[hu]at pu
  cases pu
  rw[hv]at pv
  cases pv
  refine wpAny_letOwnedTupleGo_zip z' fun T8 z2 sb=>?_;have lt:z<w.s.heap.objs.size:=acI hz
  have kk2:∀b o,b∉ [z,ti,to,i1,i2]->w.s.heap.get? b=some o->T8.get? b=some o:=fun b o nb q=>by simp only[acn,acR,or_false,not_or]at nb;exact(sb.2 b nb.1).trans (kk b o nb.1 nb.2.2.1 nb.2.2.2.1 nb.2.2.2.2 q)
  have pr2:IsPair T8 w.s.heap.objs.size u v:=(sb.2 _ (aef lt)).trans pr;have up:∀b o,b≠z->h'.get? b=some o->T8.get? b=some o:=fun b o nb q=>(sb.2 b nb).trans q;obtain⟨a1,a2⟩:=yJ (s':={ w.s with heap:=T8,toks:=tk }) H f (bj _) kk2 pr2;have Y8:IsZip T8 z ti to .none/\IsPair T8 ti (.ref i1) (.ref i2)/\(∃u v,IsPair T8 to u v)/\J1 (i+1) T8/\J2 (i+1) T8:=⟨z2,up _ _ Z.a1 (kk _ _ Z.a1 Z.a5 Z.a6 Z.a7 h1),⟨u,v,up _ _ Z.a2 p'⟩,S1.keep _ _ _ (Y7 _ _ q1) fun o q=>up _ _ Z.a3 q,S2.keep _ _ _ (Y6 _ _ q2) fun o q=>up _ _ Z.a4 q⟩
  refine q _ _ a1 a2 Y8 (fun b hb=>?_) ?_
  ·obtain⟨o,q⟩:=f b hb;have nb:b≠w.s.heap.objs.size:=fun z=>by have q:=q.1;rw[z,bj]at q;cases q
   have:∃o,T8.get? b=some o:=by
    obtain⟨g1,g2,⟨_,_,g3⟩,g4,g5⟩:=Y8;simp only[acn,acR,or_false]at hb;rcases hb with rfl|rfl|rfl|rfl|rfl
    ·exact⟨_,g1⟩
    ·exact⟨_,g2⟩
    ·exact⟨_,g3⟩
    ·exact S1.ob _ _ g4
    ·exact S2.ob _ _ g5
   obtain⟨o',q'⟩:=this;exact⟨o',q',q.2.1,cQ nb q.2.2.1,q.2.2.2⟩
  ·have up:=dE (o:={ cls:=.type "tuple",data:=.seq #[u,v] }) (H.free (bj w.s.heap)).2.1;exact .tup bC (by show 2<=sizeLine;decide) (.cons ((ru.mono l.1 (.inr l.2)).mono up (.inr fun _ _ e=>e)) (.cons ((rv.mono l.1 (.inr l.2)).mono up (.inr fun _ _ e=>e)) .nil))
 done {A w h i Q E} hh l H st hx f q:=by
  obtain⟨hz,h1,⟨u0,v0,h2⟩,s1,s2⟩:=st;obtain⟨T1,D1,t1,Y7⟩:=S1.dr hh l H;obtain⟨T2,D2,t2,Y6⟩:=S2.dr hh l H;rw[yF,r1.len,r2.len]at hx;refine wV Z D1 D2 hz h1 h2 (t1 _ s1) (t2 _ s2) (by omega) fun h' tk kk=>⟨rfl,?_⟩
  obtain⟨a1,a2⟩:=uu (fp:=[z,ti,to,i1,i2]) (s':={ w.s with heap:=h',toks:=tk }) H f fun b o nb q=>by simp only[acn,acR,or_false,not_or]at nb;exact kk b o nb.1 nb.2.2.1 nb.2.2.2.1 nb.2.2.2.2 q
  exact q _ a1 a2
 self hh st q:=afU st.1 q
theorem IC(hg:Gl X "zip")(hm:X.mg "zip"=none)(ha:RA X [ae,be] f)(hs:starEach [ae,be] X.env=(false,eval ae X.env)::starEach [be] X.env:=by rfl)(Ov:(backTo p1 (starEach [be] X.env)).any (·.1)=false:=by rfl):RI X (.Tuple elts k pos) (.Call (.Name "zip" p0) [ae,be] [] p1) (KR f):=⟨fun{w0 ρ h Q E} I p=>Call_ (I.blt hg hm (show bootBuiltins "zip"=some (.type "zip") by decide+kernel) (afr (ha.r p1 I (p.bind fun w1 h1 ps us y r p=>by
 unfold Bo at p
 split at p
 ·obtain⟨u,v,rfl,r1,r2⟩:=r.two
  cases r1 with
  |tup e1 z1 Xh=>
   cases r2 with
   |tup e2 z2 Xg=>
    rename_i a h_ n b U8 m;have t1:=y.2.at e1;have t2:=y.2.at e2;have la:=acI t1;have lb:=acI t2;refine ud (a:=a) (b:=b) (xs:=h_) (ys:=U8) ⟨_,t1,rfl,_,rfl⟩ ⟨_,t2,rfl,_,rfl⟩ fun h' kk g0 g1 g2 g3 g4=>afU g4 ?_
    exact R5.of (tk:=w1.s.toks) (I.on y) y.1 kk (JH (elts:=elts) (k:=k) (pos:=pos) (xI (ac2 la) e1) (xI (ac2 (adP lb)) e2) Xh Xg (yI w1.s.heap.objs.size a b la lb)) ⟨g4,g2,⟨_,_,g3⟩,⟨_,g0,rfl,rfl⟩,⟨_,g1,rfl,rfl⟩⟩ (fun c hc=>by
     simp only[acn,acR,or_false]at hc;rcases hc with rfl|rfl|rfl|rfl|rfl
     ·exact⟨acQ _ _,_,g4⟩
     ·exact⟨acQ _ _,_,g2⟩
     ·exact⟨acQ _ _,_,g3⟩
     ·exact⟨ab8 _,_,g0⟩
     ·exact⟨acS _,_,g1⟩) p
 ·exact p.elim)) hs Ov))⟩
end
end Z
namespace L3
open PySem L2
end L3
namespace Z
open PySem PySem.Spec PyProof.Rows L3 L2
end Z
namespace L3
open PySem L2
end L3
namespace Z
open PySem PySem.Spec PyProof.Rows L3 L2
section
variable{G:SC}{X:Cx}{w w0 w1:Wo}{ρ:Ev}{h:List PO}{o a b:Expr}{fo fa fb:Ex}{pos p0 apos Pj:Pos}
theorem Fe(ha:RE X a fa)(hb:RE X b fb):RE X (.BinOp a .Mult b pos) (c2 rG fa fb):=qX Hq ha hb
end
end Z
namespace Z
open PySem PySem.Spec PyProof.Rows L3 L2
section
variable{X:Cx}{w w1:Wo}{ρ:Ev}{h:List PO}
theorem vX{elt iter tg:Expr}{ifs:List Expr}{scope:Scope}{it:Ax}{tt:Tx}{te:Ex}{M vs:List Str}{g:Gx}{pos py QT:Pos}{y:Str}{iy:Nat}(m8:List Nat)(hc:X.calm=true)(S:cI X.N X.env.scope scope m8 vs M)(hi:RI X tg iter it)(hg:∀cl C,RG (cH X M scope cl C) tg g)(ht:∀cl C,Um (cH X M scope cl C) ifs tt)(he:∀cl C,RE (cH X M scope cl C) elt te)
  (gm:∀q cp ρ1,g q (List.replicate vs.length none++cp)=some ρ1->∃l,l.length=vs.length/\ρ1=l++cp) (hy:X.N[iy]? =some y) (Vd:X.env.scope.names.lookup y=some .local) (Ug:swapsWith (.ListComp elt [⟨tg,iter,ifs,0⟩] scope pos) (some (.Name y py)) QT.line X.env=pure true)
  (hs:∀y,foldedSetIterable iter X.env y=pure y:=by intro _;rfl):RS X (.Assign [.Name y py] (.ListComp elt [⟨tg,iter,ifs,0⟩] scope pos) QT) (aJ iy (cN wL (gT vs.length g m8 it tt te))):=⟨fun{w0 ρ h Q E} I p=>by
 rw[agq _ _ _ _ Ug];refine ab6<|ae7<|ab6 ?_
 show wpAny _ X.A (comprehension (.ListComp elt [⟨tg,iter,ifs,0⟩] scope pos) scope X.env _ (newList []) false (eval iter X.env) (some (assign (.Name y py) X.env)) >>= fun _=>pure ()) _ _ w0.s;refine ab6<|ac5 (aeD (use:=some (assign (.Name y py) X.env)) (Q:=fun _ s'=>Q .next s') rfl hs (jw fun n hn=>I.ok.has n (S.free _ hn rfl)) S.kind S.names ?_) (fun _ _ z=>ach (ach z)) fun _ _ z=>z
 have p:bx X w0 Q E (fW (it ρ h) fun xs h1=>fW (if xs.length<sizeLine then(eS g tt te (List.replicate vs.length none++dj m8 ρ) xs h1).calm else .bad) fun ps h2=>fW (wL ps h2) fun v h3=>.nx (ρ.set iy (some v)) h3):=by
  unfold aJ eH cN gT at p
  cases e:it ρ h with
  |ok xs h1=>
   rw[e]at p
   revert p
   show bx X w0 Q E (fW (((if xs.length<sizeLine then(eS g tt te (List.replicate vs.length none++dj m8 ρ) xs h1).calm else .bad):Res (List PV)).bind wL) _)->bx X w0 Q E (fW (if xs.length<sizeLine then(eS g tt te (List.replicate vs.length none++dj m8 ρ) xs h1).calm else .bad) _);generalize(if xs.length<sizeLine then(eS g tt te (List.replicate vs.length none++dj m8 ρ) xs h1).calm else .bad:Res (List PV))=rr
   cases rr<;>exact id
  |exc _ _=>rw[e]at p;exact p
  |bad=>rw[e]at p;exact p
 refine hi.r I (bx.e0 p I fun w h1 xs v y0 I1 rr p=>?_)
 split at p
 ·rename_i hz
  refine pJ (use:=some (assign (.Name y py) X.env)) (Q:=fun _ s=>Q .next s) (K:=fun ps h=>bx X w0 Q E (fW (wL ps h) fun v h3=>.nx (ρ.set iy (some v)) h3)) m8 hc S hg ht he gm I y0 rr hz (by
   revert p
   cases eS g tt te (List.replicate vs.length none++dj m8 ρ) xs h1<;>first|exact id|exact fun z=>bx.ep z |>.elim) fun{w2 h2 ps h_ D C oC m} y2 H2 nD nC DC hl n l f ra z k=>?_
  obtain⟨nn,e1⟩:=l;have sb:Sub w2.m (w2.m++ [D]):=fun i b e=>by rw[acA (acd.mp e).1];exact e
  have n3:=Nw.track (X:=X) (w:=w0) (w1:=w2) ⟨y2,H2⟩ nD ⟨e1,f⟩ (po:=.lst ps) ⟨f.2.1,h_,nn,e1,z,ra.mono (fun _ _ e=>e) (.inr sb)⟩;have I3:=I.on n3;have aC:=I.out nC;show wpAny _ X.A (assign (.Name y py) X.env (.ref D)) _ _ w2.s;refine afM (I3.store (w:=⟨w2.F,w2.O,w2.m++ [D],w2.s⟩) hy (.inl Vd) (p:=.ref h2.length) (.ref (by rw[H2.len];simp)) fun w4 y4 I4=>?_);obtain⟨sl,hC,zz⟩:=y4.keep C oC ⟨hl.1,fun z=>(acz.mp z).elim hl.2.1 fun z=>DC (by simp at z;exact z.symm),hl.2.2⟩ aC.w;refine⟨m,rK n fun o e=>by rw[hl.1]at e;cases e;exact⟨sl,hC.1⟩,fun h' VF=>?_⟩;obtain⟨a1,a2⟩:=oJ (s':={ w4.s with heap:=h' }) I4.toHR hC fun b o z e=>(VF.2 b z).trans e;exact k.2 _ ((n3.s.trans y4).priv a1 (by simp;exact nC)) (I4.priv a1 a2 (by simp;exact aC))
 ·exact p.elim⟩
end
end Z
namespace L2
open PySem PySem.Spec PyProof.Rows PySem.Builtin
abbrev uD(b:Bool):Obj:={ cls:=.type "set",dict:=none,data:=.set #[] 0 (.fresh 0 0 b) }
section
variable{κ:Type} [DecidableEq κ]
noncomputable def qj(σ:List κ)(k:κ):List κ:=if k∈σ then σ else σ++[k]
def ez(f:Nat->κ):Nat->List κ
 |0=> []
 |n+1=>qj (ez f n) (f n)
theorem wO{σ:List κ}{k x:κ}:x∈qj σ k↔x∈σ\/x=k:=by
 unfold qj
 split
 ·rename_i h;exact⟨.inl,fun z=>z.elim id fun e=>e▸h⟩
 ·rw[acz,acp]
theorem wT(σ:List κ)(k:κ):(qj σ k).length=if k∈σ then σ.length else σ.length+1:=by
 unfold qj
 split
 ·rfl
 ·rw[acs,acN]
theorem tH(f:Nat->κ)(n:Nat):(ez f n).length<=n:=by
 induction n with
 |zero=>exact ab4 _
 |succ n ih=>
  show(qj _ _).length<=_;rw[wT]
  split<;>omega
abbrev WX(σ:List κ)(k:κ):Bool:=decide (k∈σ)
end
section
variable{P:Program}{w:World}{A:Around}{R:Result->Shared->Prop}{it:Addr}{fp wr:List Addr}{G:Array GenState->Array GenState->Prop}{n:Nat}{Pn:Nat->Value->Prop}{St:Nat->Shared->Prop}
theorem vT{h h':Heap}{a:Addr}{f:Str->Bool}{c:Nat}(e:∀o,h.get? a=some o->h'.get? a=some o)(z:h.SetOf (strKind P w) a f c):h'.SetOf (strKind P w) a f c:=by obtain⟨o,es,ep,t,q,rest⟩:=z;exact⟨o,es,ep,t,e o q,rest⟩
theorem vU(W:WalksS P w A.in1 it fp wr G n Pn St)(a:Addr)(out:a∉fp)(f:Nat->Str)(txt:∀i v,Pn i v->∃t,v=.str (f i) t)(few:n+1<scanBound)(r:Nat):
  ∀(i:Nat)(s:Shared),i+r=n->St i s->s.heap.SetOf (strKind P w) a (WX (ez f i)) (ez f i).length->
   (∀s',Moved (a::wr) G s s'->s'.heap.SetOf (strKind P w) a (WX (ez f n)) (ez f n).length->R (.ok (.ret .none)) s')->
   codeAny (model P w) A (.builtin "set.update.loop" ⟨[.ref a,.ref it],[]⟩) R s:=by
 have aw:a∉wr:=fun z=>out (W.sub _ z);have tl:∀b∈wr,b∈a::wr:=fun _ z=>acg _ z
 induction r with
 |zero=>intro i s e st so k;obtain rfl:i=n:=e;apply aeF F.entry_set_update_loop;rw[aer F.plain_set_update_loop _];apply ab6 (m:=pyNext (.ref it));exact W.done s _ _ st fun s' mv=>ach (k s' (mv.mono tl) (vT (fun o q=>mv.heap a o aw q) so))
 |succ r ih=>
  intro i s e st so k;apply aeF F.entry_set_update_loop;rw[aer F.plain_set_update_loop _];apply ab6 (m:=pyNext (.ref it));refine W.item i s _ _ (by omega) st fun v s' hv Vi mv=>?_;obtain⟨t,rfl⟩:=txt i v hv;have so':=vT (h':=s'.heap) (fun o q=>mv.heap a o aw q) so;apply ab6 (m:=holding [Value.str (f i) t] (setAdd a (.str (f i) t)));apply adu;unfold setAdd;apply adu;apply ab6;apply (strKind P w).pyHash (strKind_is P w (f i) t);have room:=tH f i;refine wpAny_setAddHashed_of (knd:=strKind P w) (strKind_is _ _ _ _) rfl so' (by omega) fun h' sb so2=>ach ⟨agL F.plain_set_update_loop _,?_⟩;have other:∀b,b≠a->∀o,s'.heap.get? b=some o->h'.get? b=some o:=fun b ne o q=>(sb.2 b ne).trans q
  have next:h'.SetOf (strKind P w) a (WX (ez f (i+1))) (ez f (i+1)).length:=by
   refine SetOf_congr so2 (fun x=>?_) ?_
   ·rw[agp,ac4,decide_eq_true_eq,decide_eq_true_eq,decide_eq_true_eq];exact wO.symm
   ·show _=(qj _ _).length;rw[wT];simp only[decide_eq_true_eq]
  refine ih (i+1) _ (by omega) (W.frame _ s' _ _ Vi (acS _) fun b hb o q=>other b (fun z=>out (z▸hb)) o q) next fun s2 mv2 so3=>k s2 ?_ so3;exact Moved.trans W.gtrans ((mv.mono tl).then_heap (acS _) fun b o hb q=>other b (fun z=>hb (z▸acv)) o q) mv2
end
section
variable{P:Program}{w:World}{A:Around}{E:Value->Shared->Prop}{s:Shared}
theorem ux:∀{zs:List Str}{us:List Value},StrsAre us zs->∀(i:Nat)(v:Value),us[i]? =some v->∃t,v=.str (zs.getD i Str.empty) t
 |_,_,.nil,_,_,e=>by simp at e
 |_,_,.cons y tk r,0,v,e=>by cases e;exact⟨tk,rfl⟩
 |_,_,.cons y tk r,i+1,v,e=>by simpa using ux r i v (by simpa using e)
abbrev EF(P:Program)(w:World)(s:Shared)(a:Addr)(zs:List Str)(n:Nat)(h':Heap):Prop:=
 h'.SetOf (strKind P w) a (WX (ez (fun i=>zs.getD i Str.empty) n)) (ez (fun i=>zs.getD i Str.empty) n).length/\∀b o,b<a->s.heap.get? b=some o->h'.get? b=some o
theorem BV{b:Bool}{t:String}{l:Addr}{h_:Array Value}{zs:List Str}(hh:A.handled=none)(ht:t="list"\/t="tuple")(hl:∃n,s.heap.get? l=some { cls:=.type t,data:=.seq h_ n })(r:StrsAre h_.toList zs)(few:h_.size+1<scanBound):
  codeAny (model P w) A (.call (.builtin "set.__init__") ⟨[.ref s.heap.objs.size,.ref l],[]⟩)
   (wants (fun u s2=>u=.none/\∃h' tk,s2= { s with heap:=h',toks:=tk }/\EF P w s s.heap.objs.size zs h_.size h') E) { s with heap:=s.heap.push (uD b) }:=by
 have Qa:(s.heap.push (uD b)).get? s.heap.objs.size=some (uD b):=acq _ rfl;refine afb F.called_set.init.plain F.entry_set_init (check_set_init_1 ⟨_,Qa,rfl⟩ ?_);obtain⟨c,q⟩:=hl;have q':(s.heap.push (uD b)).get? l=some { cls:=.type t,data:=.seq h_ c }:=acf _ q;have ll:l<s.heap.objs.size:=acI q;have sz:(s.heap.push (uD b)).objs.size=s.heap.objs.size+1:=adB _ _
 have ne1:l≠(s.heap.push (uD b)).objs.size:=fun z=>by rw[sz]at z;exact adW _ (Nat.lt_trans (z▸ll) (adJ _))
 have out:s.heap.objs.size∉ [(s.heap.push (uD b)).objs.size,l]:=by
  intro z;rcases acn.mp z with z|z
  ·rw[sz]at z;exact ac2 (adJ _) z
  ·exact aef ll (acp.mp z)
 have n1:isSubtype (.type t) (.type "set")=pure false:=ht.elim (· ▸F.sub_list_set) (· ▸F.sub_tuple_set);have n2:isSubtype (.type t) (.type "frozenset")=pure false:=ht.elim (· ▸F.sub_list_frozenset) (· ▸F.sub_tuple_frozenset);have n3:(Value.type t==Value.type "dict")=false:=by rcases ht with rfl|rfl<;>decide
 have hA:A.in1.in1.handled=none:=by simp[hh]
 unfold Builtin.«set.__init__» noKeywords Builtin.Frozenset.updateFrom;generalize gi:pyIter=iter
 wp_walk
 subst gi;rcases ht with rfl|rfl
 all_goals first|apply agX ⟨_,q',rfl,c,rfl⟩|apply adI ⟨_,q',rfl,c,rfl⟩
 all_goals refine ab6<|wpAny_runValue ?_
 all_goals first
  |refine vU ((Walks.list (prog:=P) (w:=w) hA _ l ne1 h_).toS) s.heap.objs.size out (fun i=>zs.getD i Str.empty) (fun i v z=>ux r i v (by rw[adH];exact z)) few h_.size 0 _ (adU _) ⟨⟨_,acq _ rfl,rfl,rfl⟩,⟨_,acf _ q',rfl,c,rfl⟩⟩ ?_ ?_
  |refine vU ((ahB (prog:=P) (w:=w) hA _ l ne1 h_).toS) s.heap.objs.size out (fun i=>zs.getD i Str.empty) (fun i v z=>ux r i v (by rw[adH];exact z)) few h_.size 0 _ (adU _) ⟨⟨_,acq _ rfl,rfl,rfl⟩,⟨_,acf _ q',rfl,c,rfl⟩⟩ ?_ ?_
 all_goals first
 |exact SetOf_congr ((setObjOf_fresh (knd:=strKind P w) b).setOf (acf _ Qa) (by decide)) (fun _=>rfl) rfl
 |skip
 all_goals
  rintro⟨h',g',d',t',o'⟩ mv so
  obtain rfl:g'=s.gens:=mv.gens;obtain rfl:d'=s.drawn:=mv.drawn;obtain rfl:o'=s.os:=mv.os;apply ach;refine ach ⟨rfl,h',t',rfl,so,fun x o hx e=>mv.heap x o (fun z=>?_) (acf _ (acf _ e))⟩;rcases acn.mp z with z|z
  ·exact ac2 hx z
  ·have z:=acp.mp z;rw[sz]at z;exact ac2 (adP hx) z
theorem uC{t:String}{l:Addr}{h_:Array Value}{zs:List Str}{Q:Value->Shared->Prop}(hh:A.handled=none)(ht:t="list"\/t="tuple")(hl:∃n,s.heap.get? l=some { cls:=.type t,data:=.seq h_ n })(r:StrsAre h_.toList zs)(few:h_.size+1<scanBound)
  (k:∀(h':Heap)(tk:Nat),EF P w s s.heap.objs.size zs h_.size h'->Q (.ref s.heap.objs.size) { s with heap:=h',toks:=tk }):wpAny (model P w) A (call (.type "set") [.ref l]) Q E s:=by
 have C:=F.called_set;obtain⟨_,_,c1⟩:=C.mro;have c2:=C.made;have c3:=C.sub;have c4:=C.notType;have c5:=C.canCreate;have c6:=F.typeCall_set_1 (.ref l);have c7:=C.init.lookup;have c8:=C.init.bind (.ref s.heap.objs.size);apply ae5;apply codeAny_of_tree;show wpAny _ _ (callAny (.type "set") ⟨[.ref l],[]⟩) _ _ _;apply ach;refine And.intro (afE _ (by decide+kernel))<|aeF F.entry_type_call ?_
 rw[Around.under_plain (weight_type_call_type "set" [.ref l] []) rfl]
 repeat any_goals first|assumption|wp_step
 refine aeN (R:=wants (fun o s1=>∃b:Bool,o=.ref s.heap.objs.size/\s1= { s with heap:=s.heap.push (uD b) }) E) (code_set_new_1 _ fun b=>⟨b,rfl,rfl⟩) fun res s1 z=>?_;rcases res with e|(o|_|_|_)<;>first|exact z|exact z.elim|skip
 obtain⟨b,rfl,rfl⟩:=z;have isS:Shared.TypeIs { s with heap:=s.heap.push (uD b) } (.ref s.heap.objs.size) "set":=⟨_,acq _ rfl,rfl⟩
 repeat any_goals first|assumption|wp_step
 refine aeN (BV (E:=E) (by simp[hh]) ht hl r few) fun Xi s2 z2=>?_;rcases Xi with e|(o|_|_|_)<;>first|exact z2|exact z2.elim|skip
 obtain⟨rfl,h',tk,rfl,fin⟩:=z2
 repeat any_goals first|assumption|wp_step
 exact k h' tk fin
end
end L2
namespace L3
open PySem PySem.Spec PyProof.Rows L2
theorem BZ(f:Nat->List Nat):∀n,ez (fun i=>S (f i)) n=(ez f n).map S
 |0=>rfl
 |n+1=>by
  show qj (ez (fun i=>S (f i)) n) (S (f n))=(qj (ez f n) (f n)).map S;rw[BZ f n];unfold qj
  have:S (f n)∈(ez f n).map S↔f n∈ez f n:=by
   constructor
   ·intro h;obtain⟨x,hx,e⟩:=acK.mp h;rw[<- xx e];exact hx
   ·exact fun h=>acK.mpr ⟨_,h,rfl⟩
  by_cases q:f n∈ez f n
  ·rw[if_pos q,if_pos (this.mpr q)]
  ·rw[if_neg q,if_neg (fun z=>q (this.mp z)),aci];rfl
def oN(ls:List (List Nat)):Nat:=(ez (fun i=>ls.getD i []) ls.length).length
theorem Iv(ls:List (List Nat)):(ez (fun i=>(ls.map S).getD i Str.empty) (ls.map S).length).length=oN ls:=by
 have:(fun i=>(ls.map S).getD i Str.empty)=fun i=>S (ls.getD i []):=by
  funext i
  rw[acy,acy,acJ]
  cases ls[i]? <;>rfl
 rw[this,ab9,BZ,ab9];rfl
def Fp(p:PV)(h:List PO):Res PV:=match S_ h p with
 |some xs=>match fJ xs with
  |some ls=>if ls.length+1<scanBound then .ok (.int (oN ls:Nat)) h else .bad
  |none=>.bad
 |none=>.bad
end L3
namespace Z
open PySem PySem.Spec PyProof.Rows L3 L2
section
variable{X:Cx}{e:Expr}{f:Ex}{p1 p2 pos S7:Pos}
theorem StrsAre.len:∀{us:List Value}{ys:List Str},StrsAre us ys->us.length=ys.length
 |_,_,.nil=>rfl
 |_,_,.cons _ _ r=>by simp[StrsAre.len r]
end
end Z
namespace Att
open PySem PySem.W PySem.Calls PyProof.Rows
theorem qi{P:Params}{h:Heap}:∀(ns:List Int)(vs:List Value),WellAll P h vs (ns.map WData.int)->IntsAre vs ns:=by
 intro ns
 induction ns with
 |nil=>
  intro vs w;rw[acM]at w
  cases w
  exact .nil
 |cons n ns ih=>
  intro vs w;rw[ab7]at w
  cases w with
  |cons a b=>
   cases a
   exact .cons _ _ (ih _ b)
theorem Az{l:OpenLaw}{n:Nat}(hn:l.most=some n){P:Params}{h:Heap}{args:List WData}{UW:List Value}
  (Uh:l.row.toRowW.claim.pre args=true) (XC:WellAll P h UW args):
  ∃a vs ns,UW= [Value.ref a]/\args= [WData.list (ns.map WData.int)]/\h.get? a=some { cls:=.type "list",data:=.seq vs.toArray }/\IntsAre vs ns/\ns.length<=n:=by
 have hsh:WShape.hasAll [] args [.list .int]=true:=(pre_splitW Uh).1;have hc:l.pre.holds [] { args:=args }=true:=(pre_splitW Uh).2;obtain⟨d,r,rfl,h1,h2⟩:=hasAllW_cons hsh;obtain rfl:=hasAllW_nil h2;obtain⟨xs,rfl,h3⟩:=hasW_list h1;obtain⟨ns,rfl⟩:=items_int h3
 have Rj:ns.length<=n:=by
  unfold OpenLaw.pre at hc
  have h4:(WTm.not (.lt (.lit (.int (n:Int))) (.len (.arg 0)))).holds [] { args:=[.list (ns.map .int)] }=true:=by have h4:=(holds_andW hc).1;rw[hn]at h4;exact h4
  have h5:=condW_of h4 (w_not (w_lt w_lit (w_len_list (w_arg rfl))));rw[ab9]at h5;refine Nat.le_of_not_lt fun q=>?_;have q':(n:Int)<((ns.length:Nat):Int):=by omega
  first
   |(rw[decide_eq_true q']at h5;exact absurd h5 (by decide))
   |(simp at h5;omega)
 cases XC with
 |cons w1 w2=>
  cases w2
  cases w1 with
  |list ho TG=>exact⟨_,_,ns,rfl,rfl,ho,qi ns _ TG,Rj⟩
theorem AJ(l:OpenLaw)(args:List WData):l.row.toRowW.claim.post args (.bool true) args=true:=
 postW_of (r:=l.row.toRowW) (X:=(true==true))
  (show WShape.has [] (.bool true) .bool=true by first|rfl|decide|simp[WShape.has,WShape.arms,WShape.armsAll])
  (show(WTm.eq .res (.lit (.bool true))).value [] { args:=args,res:=some (.bool true),after:=args }=some (.bool (true==true))from w_eq_bool (w_res rfl) w_lit) rfl
theorem RL{l:OpenLaw}{n:Nat}{q:Program}{loose:List Str}{XP:(Str->Option Value)->Heap->Prop}{YP:World->Heap->Prop}{d:DefRec}
  (hn:l.most=some n) (X8:d.params.defaults= [])
  (call:∀(w:World)(s₀ s₁:Shared)(mg mb:Str->Option Value)(fa:Addr)(o:Obj)(pm cd doc:Value)(a:Addr)(vs:List Value)(ns:List Int),
   Ground q loose [] XP w s₀ mg mb s₁.heap->YP w s₁.heap->
   s₁.heap.get? fa=some o->o.data=.func (docDef d.name d.params d.body d.scope pm cd doc)->s₁.heap.CodeRec cd d.name->mg d.name=some (.ref fa)->
   s₁.heap.get? a=some { cls:=.type "list",data:=.seq vs.toArray }->IntsAre vs ns->ns.length<=n->s₁.gens= #[]->
   codeAny (model l.prog w) callerA (.call (.ref fa) ⟨[.ref a],[]⟩) (fun r s'=>r=.ok (.ret (.bool true))/\OldK s₁.heap s'.heap/\s'.os=s₁.os/\AllBare s'.gens) s₁):
  WalkO q loose XP YP l.row.toRowW d [] (fun f vs=>PySem.call f vs):=by
 intro w s₀ s₁ mg mb G Y fa o pm cd doc dV kV ho hd T7 hD V4 hg args UW as Uh abH hrd XC hlo;obtain rfl:dV=.none:=Dflts.none hD X8;obtain rfl:kV=.none:=Dflts.noKw hD;obtain⟨a,vs,ns,rfl,rfl,Va,hints,Rj⟩:=Az hn Uh XC;refine enter_call (aeN (call w s₀ s₁ mg mb fa o pm cd doc a vs ns G Y ho (fd_plain hd) T7 V4 Va hints Rj hg) fun r s' hq=>?_);obtain⟨rfl,h2,h3,h4⟩:=hq;exact⟨.inl ⟨.bool true,.bool true,[],rfl,fun _=>rfl,.bool true,AJ l _,fun _=>⟨List.Pairwise.nil,fun _ hm=>(nomatch hm)⟩⟩,h2,h3,h4⟩
end Att
namespace Z
open PySem PySem.Spec PyProof.Rows L3 L2
def Yn(G:SC):Cx:={ G with A:=callerA,N:=[],env:=envOfC "" { kind:=.function,names:=[],isGenerator:=false,isCoroutine:=false } 0 0 .none,stack:=[],fn:=fun _=>true,calm:=true,tr:=true,Ep:=fun _=>True }
theorem tA{G:SC}{F:Fz}{m:List Addr}{vs:List Value}{ns:List Int}(r:IntsAre vs ns):aB G F m (ns.map PV.int) vs:=by
 induction r with
 |nil=>exact .nil
 |cons i t _ k=>exact .cons (.int i t) k
theorem Dq{P:Program}{w:World}{K:PySem.W.Frag}{mg mb:Str->Option Value}{T:Nat->Option Addr}{k:Nat}{fa a:Addr}{fd:FuncData}{x:Str}{fn:List PV->L3.Out}{s₁:Shared}{vs:List Value}{ns:List Int}
  (KX:K.In s₁.heap) (Ui:s₁.heap.Ns mainGlobals mg) (hb:s₁.heap.Ns builtinsNs mb) (hbb:∀x:Str,x≠"__name__"->mb x=bootBuiltins x) (XS:s₁.heap.NoLimit) (hg:s₁.gens= #[])
  (ha:s₁.heap.get? a=some { cls:=.type "list",data:=.seq vs.toArray }) (hi:IntsAre vs ns) (hl:ns.length<=sizeLine) (hr:fm k callerA)
  (F:TQ ⟨P,w,K,mg,s₁.heap,T⟩ k fa fd [x] fn) (Wa:∀(s:Shared)(u:Value),BindsTo s fd ⟨[u],[]⟩ [(x,u)]) (hsp:fn [.QD (ns.map PV.int)]=.ok (.bl true)):
  codeAny (model P w) callerA (.call (.ref fa) ⟨[.ref a],[]⟩) (fun r s'=>r=.ok (.ret (.bool true))/\OldK s₁.heap s'.heap/\s'.os=s₁.os/\AllBare s'.gens) s₁:=by
 have ok:(Yn ⟨P,w,K,mg,s₁.heap,T⟩).Ok:=⟨KX,Ui,⟨mb,hb,hbb⟩,XS,rfl,rfl,rfl,fun x y c e=>(nomatch e),fun x e=>(by rcases e with e|e<;>cases e),fun _=>rfl,rfl,.nil,fun e he=>(nomatch he)⟩
 have W:Wd (Yn ⟨P,w,K,mg,s₁.heap,T⟩) ⟨fun b=>s₁.heap.get? b,fun _=>none,[],s₁⟩ []:=⟨⟨fun _ _ e=>e,fun _ _ e=>(nomatch e),rfl,.nil,fun _ _ _ e=>(nomatch e)⟩,.of_eq hg,fun _ _ e=>e,fun b hb=>(nomatch hb)⟩
 refine aeN (F.run (X:=Yn ⟨P,w,K,mg,s₁.heap,T⟩) (w:=⟨fun b=>s₁.heap.get? b,fun _=>none,[],s₁⟩) (h:=[]) (us:=[.ref a]) (Q:=fun v s'=>v=.bool true/\OldK s₁.heap s'.heap/\s'.os=s₁.os/\AllBare s'.gens) (E:=fun _ _=>False) rfl hr rfl rfl W ok (.cons (.QD ha (by simpa[hi.length]using hl) (by simpa using tA hi)) .nil) hsp (Wa s₁ (.ref a)) fun F' s' u n r=>?_) fun r s' h=>?_
 ·obtain rfl:=r.vb
  exact⟨rfl,OldK.of_keep fun b o e=>n.2.sub b o (n.1.fz b o e),n.1.os,n.1.ba (.of_eq hg)⟩
 ·cases r with
  |error e=>exact h.elim
  |ok fl=>
   cases fl with
   |ret u=>obtain⟨rfl,z⟩:=h;exact⟨rfl,z⟩
   |_=>exact False.elim h
theorem Do{l:W.OpenLaw}{k:Nat}{q:Program}{loose:List Str}{XP:(Str->Option Value)->Heap->Prop}{YP:World->Heap->Prop}{d:DefRec}{K:Params->W.Frag}{x:Str}{fn:List PV->L3.Out}(hn:l.most=some 63)(X8:d.params.defaults= [])(hr:fm k callerA)
  (hY:∀(w:World)(h:Heap),YP w h->(K w.params).In h) (law:∀ns:List Int,ns.length<=63->fn [.QD (ns.map PV.int)]=.ok (.bl true))
  (F:∀(w:World)(mg:Str->Option Value)(fa:Addr)(h:Heap),(K w.params).In h->h.Ns mainGlobals mg->mg d.name=some (.ref fa)->
   ∃(fd:FuncData)(T:Nat->Option Addr),(∀(s:Shared)(u:Value),BindsTo s fd ⟨[u],[]⟩ [(x,u)])/\TQ ⟨l.prog,w,K w.params,mg,h,T⟩ k fa fd [x] fn):
  W.WalkO q loose XP YP l.row.toRowW d [] (fun f vs=>PySem.call f vs):=by
 refine Att.RL hn X8 fun w s₀ s₁ mg mb fa o pm cd doc a vs ns G Y ho hd T7 V4 Va hints Rj hg=>?_;have KX:=hY w _ Y;obtain⟨fd,T,hb,hF⟩:=F w mg fa _ KX G.T.g V4;exact Dq KX G.T.g G.T.b G.T.builtins G.T.nolimit hg Va hints (ace Rj (by decide)) hr hF hb (law ns Rj)
end Z
namespace L3
open PySem L2
end L3
namespace Z
open PySem PySem.Spec PyProof.Rows L3 L2
end Z
namespace Z
open PySem PySem.Spec PyProof.Rows L3 L2
end Z
namespace L3
open PySem
def cY(tt:Tx)(te:Ex)(cp:Ev):List PV->List PO->Res (List PV)
 |[],h=>.ok [] h
 |p::r,h=>(tt (some p::cp) h).bind fun b h1=>if b=true then(te (some p::cp) h1).bind fun v h2=>(cY tt te cp r h2).bind fun vs h3=>.ok (v::vs) h3 else cY tt te cp r h1
def dH(m8:List Nat)(it:Ax)(tt:Tx)(te:Ex):Ax:=fun ρ h=>(it ρ h).bind fun xs h1=>if xs.length<sizeLine then(cY tt te (dj m8 ρ) xs h1).calm else .bad
theorem vv(tt:Tx)(te:Ex)(cp:Ev):∀xs h,eS (z_ 0) tt te (List.replicate 1 none++cp) xs h=cY tt te cp xs h
 |[],h=>rfl
 |p::r,h=>by simp only[cY,<- vv tt te cp r];rfl
abbrev g2:Gx:=Rc 2 (bw (z_ 0) (bw (z_ 1) fX))
end L3
namespace Z
open PySem PySem.Spec PyProof.Rows L3 L2
section
variable{X:Cx}{e a b elt iter tg:Expr}{es ifs:List Expr}{f fa fb te:Ex}{fs it:Ax}{tt:Tx}{pos p0 p1 tp:Pos}{x y:Str}{scope:Scope}{M:List Str}{m8:List Nat}{u:Value}
theorem gL(ha:RE X a fa)(hb:RE X b fb):RE X (.BinOp a .Mult b pos) (c2 lF fa fb):=qX (fun{w h p q u v Q E} I rp rq k=>Hq I rp rq (by
 unfold rG
 split
 ·exact k.elim
 ·exact k)) ha hb
theorem eE(S:cI X.N X.env.scope scope m8 [x] M)(hi:RI X (.Name x tp) iter it)(ht:∀cl C,Um (cH X M scope cl C) ifs tt)(he:∀cl C,RE (cH X M scope cl C) elt te)(hc:X.calm=true:=by rfl)(hg:∀cl C,RG (cH X M scope cl C) (.Name x tp) (z_ 0):=by exact fun _ _=>aY)
  (hs:∀y,foldedSetIterable iter X.env y=pure y:=by intro _;rfl):RE X (.ListComp elt [⟨.Name x tp,iter,ifs,0⟩] scope pos) (cN Qu (dH m8 it tt te)):=by
 have q:=NK (pos:=pos) m8 hc S hi hg ht he GU JP hs;have z:gT 1 (z_ 0) m8 it tt te=dH m8 it tt te:=by funext ρ h;simp only[gT,dH,vv]
 exact z▸q
theorem vY{iy:Nat}{py QT:Pos}(S:cI X.N X.env.scope scope m8 [x] M)(hi:RI X (.Name x tp) iter it)(ht:∀cl C,Um (cH X M scope cl C) ifs tt)(he:∀cl C,RE (cH X M scope cl C) elt te)(hy:X.N[iy]? =some y)(Vd:X.env.scope.names.lookup y=some .local)(Ug:swapsWith (.ListComp elt [⟨.Name x tp,iter,ifs,0⟩] scope pos) (some (.Name y py)) QT.line X.env=pure true)(hc:X.calm=true:=by rfl)(hg:∀cl C,RG (cH X M scope cl C) (.Name x tp) (z_ 0):=by exact fun _ _=>aY)
  (hs:∀y,foldedSetIterable iter X.env y=pure y:=by intro _;rfl):RS X (.Assign [.Name y py] (.ListComp elt [⟨.Name x tp,iter,ifs,0⟩] scope pos) QT) (aJ iy (cN wL (dH m8 it tt te))):=by
 have q:=vX (pos:=pos) (py:=py) m8 hc S hi hg ht he JP hy Vd Ug hs;have z:gT 1 (z_ 0) m8 it tt te=dH m8 it tt te:=by funext ρ h;simp only[gT,dH,vv]
 exact z▸q
theorem rst{l:List Nat}{j}(e:x=S l:=by kernel_rfl):RE X (.Constant (.str x) j pos) (cK (.str l)):=IE l e
theorem ra1(ha:RE X e f)(hs:starEach [e] X.env=(false,eval e X.env)::starEach [] X.env:=by rfl):RA X [e] (af f am):=ag ha bX hs
theorem req(hu:X.A.units+64<cLine)(ha:RE X a fa)(hb:RE X b fb):RE X (.Compare a [.Eq] [b] pos) (c2 J5 fa fb):=jZ (LA hu) (bf _) ha hb
theorem NT(hu:X.A.units+64<cLine)(ha:RE X a fa)(hb:RE X b fb):RT X (.Compare a [.Eq] [b] pos) (aE (c2 J5 fa fb)):=bn (LA hu) (bf _) ha hb
theorem zr(ha:RE X e f):S5 X [.Return (some e) pos] (br f):=au (IA ha)
theorem aS{i:Nat}{pos':Pos}(ha:RE X a fa)(hi:X.N[i]? =some x:=by rfl)(hx:X.env.kindOf x=some .local\/(X.env.kindOf x=some .cell/\X.fn x=true):=by first|exact .inl rfl|exact .inr ⟨rfl,rfl⟩)(hs:swapsWith a (some (.Name x pos')) pos.line X.env=pure false:=by rfl):RS X (.Assign [.Name x pos'] a pos) (aJ i fa):=Iz hi hx ha hs
theorem zf{g:Gx}{body:List Stmt}{fb:Sx}(hi:RI X tg iter it)(hg:RG X tg g)(hb:S5 X body fb)(hp:∀E,X.Ep E->PassesOwn X.M X.A X.env E:=by exact fun _ h=>h)(hc:X.calm=true:=by rfl)(hs:∀x,foldedSetIterable iter X.env x=pure x:=by intro _;rfl):RS X (.For tg iter body [] pos) (gf it g fb):=IB hp hc hi hg hb hs
theorem zb{id:String}{g:List PV->List PO->Res PV}(o:Tj X (.builtin id) g)(hm:X.mg x=none)(ha:RA X (e::es) fs)(hv:bootBuiltins x=some (.builtin id):=by decide+kernel)(hg:Gl X x:=by rfl)(hn:x≠"__name__":=by decide)(P0:nD0 x:=by decide)(he:sE0 X e es:=by rfl)(Ov:sP0 X es pos:=by rfl):RE X (.Call (.Name x p0) (e::es) [] pos) (cN g fs):=Cj o hg hm hv ha hn P0 he Ov
theorem zt{id:String}{g:List PV->List PO->Res PV}(o:Tj X (.type id) g)(hm:X.mg x=none)(ha:RA X (e::es) fs)(hv:bootBuiltins x=some (.type id):=by decide+kernel)(hg:Gl X x:=by rfl)(hn:x≠"__name__":=by decide)(P0:nD0 x:=by decide)(he:sE0 X e es:=by rfl)(Ov:sP0 X es pos:=by rfl):RE X (.Call (.Name x p0) (e::es) [] pos) (cN g fs):=AC o hg hm hv ha hn P0 he Ov
theorem zty{n:String}(hm:X.mg x=none)(hg:Gl X x:=by rfl)(hv:bootBuiltins x=some (.type n):=by decide+kernel)(hn:x≠"__name__":=by decide)(hd:nD0 x:=by decide):RE X (.Name x pos) (cK (.ty n)):=ID hg hm hv hn hd
theorem zis{n:String}(hi:X.mg "isinstance"=none)(hm:X.mg x=none)(ha:RE X e f)(hg:Gl X "isinstance":=by rfl)(h1:Gl X x:=by rfl)(hv:bootBuiltins x=some (.type n):=by decide+kernel)(hn:x≠"__name__":=by decide)(hd:nD0 x:=by decide)(he:starEach [e,.Name x p1] X.env=(false,eval e X.env)::starEach [.Name x p1] X.env:=by rfl)(h2:starEach [.Name x p1] X.env=(false,eval (.Name x p1) X.env)::starEach [] X.env:=by rfl)(Ov:(backTo pos (starEach [.Name x p1] X.env)).any (·.1)=false:=by rfl):RE X (.Call (.Name "isinstance" p0) [e,.Name x p1] [] pos) (cN mj (af f (af (cK (.ty n)) am))):=zb CL hi (ag ha (ag (zty hm h1 hv hn hd) bX h2) he) (by decide+kernel) hg (by decide) (by decide) he Ov
theorem zl(hm:X.mg "len"=none)(ha:RE X e f)(hg:Gl X "len":=by rfl)(he:starEach [e] X.env=(false,eval e X.env)::starEach [] X.env:=by rfl)(Ov:(backTo pos (starEach [] X.env)).any (·.1)=false:=by rfl):RE X (.Call (.Name "len" p0) [e] [] pos) (cN gh (af f am)):=zb Lz hm (ra1 ha he) (by decide+kernel) hg (by decide) (by decide) he Ov
theorem ZV{i:Int}(h:∃t,X.mg x=some (.int i t))(hg:Gl X x:=by rfl)(hd:nD0 x:=by decide):RE X (.Name x pos) (cK (.int i)):=let⟨_,h⟩:=h;yV hg h (fun _ _ _=>.int _ _) hd
def GV(S:SC)(x:Str)(ps:List PV):Prop:=∃a h_ n,S.mg x=some (.ref a)/\S.base.get? a=some { cls:=.type "tuple",data:=.seq h_ n }/\h_.size<=sizeLine/\∀F m,aB S F m ps h_.toList
theorem glV{ps:List PV}(h:GV X.toSC x ps)(hg:Gl X x:=by rfl)(hd:nD0 x:=by decide):RE X (.Name x pos) (cK (.tup ps)):=let⟨_,_,_,a,b,c,d⟩:=h;yV hg a (fun F m k=>.tup (k _ _ b) c (d F m)) hd
theorem TQ.bad{G:SC}{k:Nat}{f:Addr}{fd:FuncData}{ps:List Str}:TQ G k f fd ps fun _=>.bad:=⟨fun _ _ h=>(nomatch h),fun _ _ _ _ _ _ _ h=>(nomatch h)⟩
theorem Ru.bad{G:SC}{c:Bool}{k:Nat}{f:Addr}{fd:FuncData}{ps:List Str}:Ru G c k f fd ps fun _ _=>.bad:=⟨fun _ _ h=>absurd rfl h,fun _ _ _ _ _ _ _ _ h=>h.elim⟩
end
end Z
namespace L3
open PySem
def nN(ps:List PV)(h:List PO):Res PV:=match ps with
 |[p]=>match RX h p with
  |some xs=>.ok (.lst xs) h
  |none=>.bad
 |_=>.bad
end L3
namespace Z
open PySem PySem.Spec PyProof.Rows L3 L2
section
variable{G:SC}{X:Cx}{w w1:Wo}{ρ:Ev}{h:List PO}
theorem HR.RX{p:PV}{u:Value}{xs:List PV}(H:HR G w h)(r:bq G w.F w.m p u)(e:RX h p=some xs):∃t a h_,(t="list"\/t="tuple")/\u=.ref a/\Vw w.s.heap t a h_/\h_.size<=sizeLine/\aB G w.F w.m xs h_.toList:=by
 unfold L3.RX at e
 split at e
 ·cases e
  obtain⟨a,h_,e1,y,z,r⟩:=H.sq r rfl;exact⟨_,a,h_,.inr rfl,e1,y,z,r⟩
 ·obtain⟨a,h_,e1,y,z,r⟩:=H.sq r (ke e);exact⟨_,a,h_,.inl rfl,e1,y,z,r⟩
theorem yd:Tj X (.type "list") nN:=fun ok {w h p u Q E} I rs k=>by
 unfold nN at k
 split at k
 ·obtain⟨u,rfl,r1⟩:=rs.one;show Wp X (call (.type "list") [u]) Q E w.s
  split at k
  ·rename_i e;obtain⟨t,a,h_,ht,rfl,⟨n,y⟩,z,r⟩:=I.toHR.RX r1 e;exact call_list_seq a ht y rfl rfl (fun h' c' kp e=>k.Uq I.toHR (bj _) kp e rfl r z) z
  ·exact k.elim
 ·exact k.elim
end
end Z
namespace L3
open PySem
end L3
namespace Z
open PySem PySem.Spec PyProof.Rows L3 L2
end Z
namespace L2
open PySem PySem.Spec PyProof.Rows
section
variable{prog:Program}{w:World}{A:Around}{R:Result->Shared->Prop}{E:Value->Shared->Prop}
theorem xA:typeLookup (.type "zip") "keys"=pure none:=by rw[typeLookup_type,agr];kernel_rfl
theorem Bp:typeLookup (.type "zip") "__getattr__"=pure none:=by rw[typeLookup_type,agr];kernel_rfl
theorem HV:entryFor table "zip.__getattribute__"=some Builtin.«object.__getattribute__» :=entryFor_alias (id':="object.__getattribute__") (by kernel_rfl) (by decide+kernel) (by decide+kernel) (by kernel_rfl)
theorem Br(z:Addr)(vs:Array Value)(u:Tok):Meets (Builtin.«object.__getattribute__» ⟨[.ref z,.str "keys" u],[]⟩) (fun A R s=>s.heap.get? z=some { cls:=.type "zip",data:=.fields vs }/\raisesAttr (.ref z) "keys" A R s):=
 .of_wp fun P1 w1 A1 R s ⟨hx,hs⟩=>by
  cases s with
  |mk hp g d tk os=>
  have ty:(⟨hp,g,d,tk,os⟩:Shared).TypeIs (.ref z) "zip":=⟨_,hx,rfl⟩
  have m:=xA;unfold Builtin.«object.__getattribute__»
  wp_walk
  exact wpAny_raiseAttrError hs.1 hs.2 (attrMsg_fits (by decide+kernel) (by size_fits))
theorem Bw{s:Shared}{z:Addr}{vs:Array Value}{u:Tok}(hh:A.handled=none)(hl:s.heap.get? z=some { cls:=.type "zip",data:=.fields vs })(h:∀h' tk e,Heap.NewAttrErr s.heap h' e (.ref z) "keys"->R (.error (.ref e)) { s with heap:=h',toks:=tk }):codeAny (model prog w) A (.call (.builtin "zip.__getattribute__") ⟨[.ref z,.str "keys" u],[]⟩) R s:=
 afb adO.plain HV (adO.check _ _ _ _ _ _ _ _ ⟨_,hl,rfl⟩ (PySem.F.args_zip_getattribute_2 _ _) (Br z vs u prog w A R s ⟨hl,hh,h⟩))
theorem Bt{s:Shared}{z:Addr}{vs:Array Value}{Q:Option Value->Shared->Prop}(hh:A.handled=none)(hl:s.heap.get? z=some { cls:=.type "zip",data:=.fields vs })
  (hQ:∀h' tk,(∀b o,s.heap.get? b=some o->h'.get? b=some o)->Q none { s with heap:=h',toks:=tk }):wpAny (model prog w) A (getAttr? (.ref z) "keys") Q E s:=by
 obtain⟨hp,g,d,tk,os⟩:=s;have ty:∀tk',(⟨hp,g,d,tk',os⟩:Shared).TypeIs (.ref z) "zip":=fun _=>⟨_,hl,rfl⟩
 have t1:=ty (tk+1);have f1:=sub_AttributeError;have f3:=adO.lookup;have f4:=adO.bind (.ref z);have f5:=Bp;unfold getAttr? getAttrBy? getAttrBy getAttrByItsOwn
 wp_walk
 refine Bw hh hl fun h2 t2 e x=>?_;obtain⟨t3,u3,he⟩:=x.there;dsimp only;unfold getattributeRaised
 wp_walk
 exact hQ h2 t2 x.keeps
abbrev yD(h:Heap)(z ti to:Addr)(f0 f1:Value):Prop:=h.get? z=some { cls:=.type "zip",data:=.fields #[f0,f1,.bool false,.ref ti,.ref to] }
end
section
variable{prog:Program}{w:World}{A:Around}{E:Value->Shared->Prop}{s:Shared}{z ti to i1 i2:Addr}{f1 f2:List Addr}{n1 n2:Nat}{P1 P2:Nat->Value->Prop}{S1 S2:Nat->Heap->Prop}
theorem vI{a:Addr}{b:Bool}{oa:Obj}{Q:Bool->Shared->Prop}(hz:yD s.heap z ti to (rawInt a) (.bool b))(ha:s.heap.get? a=some oa)(hQ:∀h',yD h' z ti to (rawInt a) (.bool true)->Heap.SameBut z s.heap h'->Q false { s with heap:=h' }):
  wpAny (model prog w) A (Builtin.SmallTypes.ownedTupleIsFree (.ref z)) Q E s:=by
 refine(show wpAny (model prog w) A (field (.ref z) 0 >>= _) _ E s from ab6 (acV hz rfl (x:=rawInt a) rfl ?_));refine(show wpAny (model prog w) A (loadIfAlive ((a:Int).toNat) >>= _) _ E s from ab6 ?_)
 have al:∀{Q:Option Obj->Shared->Prop},Q (some oa) s->wpAny (model prog w) A (loadIfAlive ((a:Int).toNat)) Q E s:=fun{Q} h=>by
  have q:Q (s.heap.get? ((a:Int).toNat)) s:=by rw[ada,ha];exact h
  exact fun _ _ _=>q
 refine al (afi (by simp) (ab6 (acV hz rfl (x:=.bool b) rfl ?_)))
 cases b with
 |true=>exact afi (by decide) (ach (hQ _ hz (Heap.SameBut.refl _ _)))
 |false=>exact agu (by decide) (ab6 (adY hz (by simp) fun g zg b1=>ach (hQ g zg b1)))
theorem Bq{j:Nat}{a:Addr}{b:Bool}{oa:Obj}{Q:Value->Shared->Prop}(Z:SX z ti to i1 i2 f1 f2)(D1:Draws prog w A i1 f1 n1 P1 S1)(D2:Draws prog w A i2 f2 n2 P2 S2)
  (hz:yD s.heap z ti to (rawInt a) (.bool b)) (ha:s.heap.get? a=some oa) (Te:IsPair s.heap ti (.ref i1) (.ref i2)) (s1:S1 j s.heap) (s2:S2 j s.heap) (l1:j<n1) (l2:j<n2)
  (hQ:∀x y h' tk,P1 j x->P2 j y->yD h' z ti to (rawInt a) (.bool true)->S1 (j+1) h'->S2 (j+1) h'->IsPair h' s.heap.objs.size x y->h'.objs.size=s.heap.objs.size+1->
   (∀c o,c≠z->c≠i1->c≠i2->s.heap.get? c=some o->h'.get? c=some o)->Q (.ref s.heap.objs.size) { s with heap:=h',toks:=tk }):
  wpAny (model prog w) A (Builtin.«zip.__next__» ⟨[.ref z],[]⟩) (fun fin s'=>∃v,fin=.done (.ret v)/\Q v s') E s:=by
 refine(show wpAny (model prog w) A (field (.ref z) 2 >>= _) _ E s from ab6 (acV hz rfl (x:=.bool false) rfl ?_));refine(show wpAny (model prog w) A (field (.ref z) 3 >>= _) _ E s from ab6 (acV hz rfl (x:=.ref ti) rfl (ab6 (adv Te rfl ?_))));refine(show wpAny (model prog w) A (Builtin.SmallTypes.ownedTupleIsFree (.ref z) >>= _) _ E s from ab6 (vI hz ha fun g1 zg b1=>?_));refine afi (by decide) (ab6 ?_);rw[<- agV];show wpAny _ _ (forIn [Value.ref i1,.ref i2] _ _) _ _ _;rw[adE];refine ab6 (ab6 (adu ?_));refine(show wpAny (model prog w) A (Builtin.SmallTypes.nextOf (.ref i1) >>= _) _ _ _ from ab6 (D1.item j _ _ _ l1 (Draws.but D1 s1 b1.extBut Z.z1) fun x g2 k2 px t1 b2=>ach (ach ?_)));dsimp only;rw[adE];refine ab6 (ab6 (adu ?_));refine(show wpAny (model prog w) A (Builtin.SmallTypes.nextOf (.ref i2) >>= _) _ _ _ from ab6 (D2.item j _ _ _ l2 (Draws.but D2 (Draws.but D2 s2 b1.extBut Z.z2) b2.extBut Z.o2) fun y g3 k3 py t2 b3=>ach (ach ?_)));dsimp only;rw[ahu];refine ach (ab6 (wpAny_newTuple (hsz:=show 2<=sizeLine by decide) (ach ⟨_,rfl,?_⟩)));have kz:∀c o,c≠z->c≠i1->c≠i2->s.heap.get? c=some o->g3.get? c=some o:=fun c o c1 c2 c3 q=>b3.extBut _ _ c3 (b2.extBut _ _ c2 (b1.extBut _ _ c1 q));have z3:yD g3 z ti to (rawInt a) (.bool true):=b3.extBut _ _ (acW Z.a4) (b2.extBut _ _ (acW Z.a3) zg)
 have sz:g3.objs.size=s.heap.objs.size:=by rw[b3.1,b2.1,b1.1]
 have up:∀{o:Obj}{c:Addr}{ob:Obj},g3.get? c=some ob->(g3.push o).get? c=some ob:=fun e=>acf _ e;have q:=hQ x y (g3.push { cls:=.type "tuple",data:=.seq #[x,y] }) k3 px py (up z3) (D1.frame _ _ _ (Draws.but D1 t1 b3.extBut Z.o1) fun _ _ _ q=>up q) (D2.frame _ _ _ t2 fun _ _ _ q=>up q) (sz▸acq _ rfl) (by rw[adB,sz]) fun c o c1 c2 c3 q=>up (kz c o c1 c2 c3 q);rw[<- sz]at q;exact q
theorem EH{j:Nat}{a:Addr}{b:Bool}{oa:Obj}{R:Fin->Shared->Prop}(Z:SX z ti to i1 i2 f1 f2)(D1:Draws prog w A i1 f1 n1 P1 S1)(D2:Draws prog w A i2 f2 n2 P2 S2)
  (hz:yD s.heap z ti to (rawInt a) (.bool b)) (ha:s.heap.get? a=some oa) (Te:IsPair s.heap ti (.ref i1) (.ref i2)) (s1:S1 j s.heap) (s2:S2 j s.heap) (l:j=n1\/(j<n1/\j=n2))
  (hE:∀h' e tk,(∀c o,c≠z->c≠i1->c≠i2->s.heap.get? c=some o->h'.get? c=some o)->(∃o,h'.get? e=some o/\o.cls=.type "StopIteration")->E (.ref e) { s with heap:=h',toks:=tk }):
  wpAny (model prog w) A (Builtin.«zip.__next__» ⟨[.ref z],[]⟩) R E s:=by
 refine(show wpAny (model prog w) A (field (.ref z) 2 >>= _) _ E s from ab6 (acV hz rfl (x:=.bool false) rfl ?_));refine(show wpAny (model prog w) A (field (.ref z) 3 >>= _) _ E s from ab6 (acV hz rfl (x:=.ref ti) rfl (ab6 (adv Te rfl ?_))));refine(show wpAny (model prog w) A (Builtin.SmallTypes.ownedTupleIsFree (.ref z) >>= _) _ E s from ab6 (vI hz ha fun g1 zg b1=>?_));refine afi (by decide) (ab6 ?_);rw[<- agV];show wpAny _ _ (forIn [Value.ref i1,.ref i2] _ _) _ _ _;rw[adE];refine ab6 (ab6 (adu ?_));rcases l with l|⟨l1,l⟩
 ·subst l;exact(show wpAny (model prog w) A (Builtin.SmallTypes.nextOf (.ref i1) >>= _) _ _ _ from ab6 (D1.done _ _ _ (Draws.but D1 s1 b1.extBut Z.z1) fun g2 e b2 q=>hE g2 e _ (fun c o c1 c2 _ q=>b2 _ _ c2 (b1.extBut _ _ c1 q)) q))
 ·subst l;refine(show wpAny (model prog w) A (Builtin.SmallTypes.nextOf (.ref i1) >>= _) _ _ _ from ab6 (D1.item j _ _ _ l1 (Draws.but D1 s1 b1.extBut Z.z1) fun x g2 k2 px t1 b2=>ach (ach ?_)));dsimp only;rw[adE];refine ab6 (ab6 (adu ?_));exact(show wpAny (model prog w) A (Builtin.SmallTypes.nextOf (.ref i2) >>= _) _ _ _ from ab6 (D2.done _ _ _ (Draws.but D2 (Draws.but D2 s2 b1.extBut Z.z2) b2.extBut Z.o2) fun g3 e b3 q=>hE g3 e _ (fun c o c1 c2 c3 q=>b3 _ _ c3 (b2.extBut _ _ c2 (b1.extBut _ _ c1 q))) q))
end
section
variable{prog:Program}{w:World}{κ:Type} [DecidableEq κ] {knd:KeyKind prog w κ} {A:Around} {R:Result->Shared->Prop} {E:Value->Shared->Prop} {s:Shared} {D z ti to i1 i2 t1 t2:Addr} {xs ys:Array Value} {j:Nat}
structure T_(h:Heap)(D z ti to i1 i2 t1 t2:Addr)(xs ys:Array Value)(j:Nat):Prop where
 p:IsPair h ti (.ref i1) (.ref i2)
 l:h.IsTupleIter i1 t1 j/\h.IsTuple t1 xs
 r:h.IsTupleIter i2 t2 j/\h.IsTuple t2 ys
 o:(IsZip h z ti to .none/\∃u v,IsPair h to u v)\/∃a b oa,yD h z ti to (rawInt (a:Nat)) (.bool b)/\h.get? a=some oa/\a≠z/\a≠i1/\a≠i2/\a≠D
theorem T_.keep{h h':Heap}(st:T_ h D z ti to i1 i2 t1 t2 xs ys j)(n:D∉ [z,ti,to,i1,i2,t1,t2])(k:∀c o,c≠D->h.get? c=some o->h'.get? c=some o):T_ h' D z ti to i1 i2 t1 t2 xs ys j:=by
 simp only[acn,acR,or_false,not_or]at n;obtain⟨n1,n2,n3,n4,n5,n6,n7⟩:=n;refine⟨k _ _ (acW n2) st.p,⟨?_,?_⟩,⟨?_,?_⟩,?_⟩
 ·obtain⟨o,q,r⟩:=st.l.1;exact⟨o,k _ _ (acW n4) q,r⟩
 ·obtain⟨o,q,r⟩:=st.l.2;exact⟨o,k _ _ (acW n6) q,r⟩
 ·obtain⟨o,q,r⟩:=st.r.1;exact⟨o,k _ _ (acW n5) q,r⟩
 ·obtain⟨o,q,r⟩:=st.r.2;exact⟨o,k _ _ (acW n7) q,r⟩
 ·rcases st.o with⟨a,u,v,b⟩|⟨a,b,oa,q,qa,m⟩
  ·exact .inl ⟨k _ _ (acW n1) a,u,v,k _ _ (acW n3) b⟩
  ·exact .inr ⟨a,b,oa,k _ _ (acW n1) q,k _ _ m.2.2.2 qa,m⟩
theorem T_.zip{h:Heap}(st:T_ h D z ti to i1 i2 t1 t2 xs ys j):∃vs,h.get? z=some { cls:=.type "zip",data:=.fields vs }:=by
 rcases st.o with⟨a,_⟩|⟨a,b,oa,q,_⟩
 ·exact⟨_,a⟩
 ·exact⟨_,q⟩
theorem SX.n1(Z:SX z ti to i1 i2 [i1,t1] [i2,t2]):t1≠z/\t1≠to/\t1≠i2/\t2≠z/\t2≠to/\t2≠i1:=by have a:=Z.z1;have b:=Z.z2;have c:=Z.t1;have d:=Z.t2;have e:=Z.o1;have f:=Z.o2;simp only[acn,acR,or_false,not_or]at a b c d e f;exact⟨acW a.2,acW c.2,acW e.2,acW b.2,acW d.2,acW f.2⟩
theorem Bx{x y:Value}{oD:Obj}{Q:Option Value->Shared->Prop}(Z:SX z ti to i1 i2 [i1,t1] [i2,t2])(hh:A.handled=none)(m1:t1≠i1)(m2:t2≠i2)(hD:s.heap.get? D=some oD)(st:T_ s.heap D z ti to i1 i2 t1 t2 xs ys j)(hx:xs[j]? =some x)(hy:ys[j]? =some y)
  (hQ:∀h' tk,T_ h' D z ti to i1 i2 t1 t2 xs ys (j+1)->IsPair h' s.heap.objs.size x y->(∀c o,c≠z->c≠to->c≠i1->c≠i2->s.heap.get? c=some o->h'.get? c=some o)->Q (some (.ref s.heap.objs.size)) { s with heap:=h',toks:=tk }):
  wpAny (model prog w) A (pyNext (.ref z)) Q E s:=by
 obtain⟨y1,y2,y3,y4,y5,y6⟩:=Z.n1;have l1:=(ad1.mp hx).1;have l2:=(ad1.mp hy).1;have D1:Draws prog w A.in1 i1 [i1,t1] xs.size (fun j v=>xs[j]? =some v) _:=sA hh m1;have D2:Draws prog w A.in1 i2 [i2,t2] ys.size (fun j v=>ys[j]? =some v) _:=sA hh m2;have lt:∀{c o},s.heap.get? c=some o->s.heap.objs.size≠c:=fun q=>aef (acI q);obtain⟨vs,hz⟩:=st.zip;obtain⟨o1,q1,_⟩:=st.l.1;obtain⟨o2,q2,_⟩:=st.r.1;rcases st.o with⟨a,u,v,b⟩|⟨a,b,oa,q,qa,m⟩
 ·refine wK Z D1 D2 a st.p b st.l st.r l1 l2 fun x' y' h' tk p1 p2 z' _ u1 u2 pr sz kk=>?_;rw[hx]at p1;cases p1;rw[hy]at p2;cases p2;exact hQ h' tk ⟨kk _ _ Z.a1 Z.a5 Z.a6 Z.a7 st.p,u1,u2,.inr ⟨_,false,_,z',pr,lt hz,lt q1,lt q2,lt hD⟩⟩ pr kk
 ·have ty:s.TypeIs (.ref z) "zip":=⟨_,hz,rfl⟩
  unfold pyNext;refine ab6 (afR (adb (name:="__next__") ty aen (adX aen ty af9 (Bq Z D1 D2 q qa st.p st.l st.r l1 l2 fun x' y' h' tk p1 p2 z' u1 u2 pr sz kk=>ach ?_) (afZ _))));rw[hx]at p1;cases p1;rw[hy]at p2;cases p2;exact hQ h' tk ⟨kk _ _ Z.a1 Z.a6 Z.a7 st.p,u1,u2,.inr ⟨a,true,oa,z',kk _ _ m.1 m.2.1 m.2.2.1 qa,m⟩⟩ pr fun c o c1 _ c3 c4 q=>kk c o c1 c3 c4 q
theorem EJ{Q:Option Value->Shared->Prop}(Z:SX z ti to i1 i2 [i1,t1] [i2,t2])(hh:A.handled=none)(m1:t1≠i1)(m2:t2≠i2)(st:T_ s.heap D z ti to i1 i2 t1 t2 xs ys j)(l:j=xs.size\/(j<xs.size/\j=ys.size))
  (hQ:∀h' tk,(∀c o,c≠z->c≠to->c≠i1->c≠i2->s.heap.get? c=some o->h'.get? c=some o)->Q none { s with heap:=h',toks:=tk }):wpAny (model prog w) A (pyNext (.ref z)) Q E s:=by
 have D1:Draws prog w A.in1 i1 [i1,t1] xs.size (fun j v=>xs[j]? =some v) _:=sA hh m1;have D2:Draws prog w A.in1 i2 [i2,t2] ys.size (fun j v=>ys[j]? =some v) _:=sA hh m2;obtain⟨vs,hz⟩:=st.zip;rcases st.o with⟨a,u,v,b⟩|⟨a,b,oa,q,qa,m⟩
 ·exact wV Z D1 D2 a st.p b st.l st.r l hQ
 ·have ty:s.TypeIs (.ref z) "zip":=⟨_,hz,rfl⟩
  unfold pyNext;refine ab6 (afR (adb (name:="__next__") ty aen (adX aen ty af9 (EH Z D1 D2 q qa st.p st.l st.r l ?_) (afZ _))));rintro h' e tk kk ⟨o,q1,q2⟩;exact ab6 (wpAny_isInstance (T:="StopIteration") (b:=true) ⟨o,q1,q2⟩ isSubtype_stop (ach (hQ _ _ fun c o c1 _ c3 c4 q=>kk c o c1 c3 c4 q)))
inductive Vg(knd:KeyKind prog w κ):List Value->List Value->List (κ×Value)->Prop where
 |l {ys:List Value}:Vg knd [] ys []
 |r {x:Value} {xs:List Value}:Vg knd (x::xs) [] []
 |cons {x y:Value} {xs ys:List Value} {k:κ} {kvs:List (κ×Value)} (kk:knd.is k x=true) (r:Vg knd xs ys kvs):Vg knd (x::xs) (y::ys) ((k,y)::kvs)
theorem Bs{h0:Heap}(Z:SX z ti to i1 i2 [i1,t1] [i2,t2])(hh:A.handled=none)(m1:t1≠i1)(m2:t2≠i2)(n:D∉ [z,ti,to,i1,i2,t1,t2])(f:∀c∈ [D,z,to,i1,i2],h0.get? c=none):
  ∀{r1 r2:List Value}{kvs:List (κ×Value)},Vg knd r1 r2 kvs->∀(j:Nat)(s:Shared)(RJ:List (κ×Value)),xs.toList.drop j=r1->ys.toList.drop j=r2->(∀b o,h0.get? b=some o->s.heap.get? b=some o)->T_ s.heap D z ti to i1 i2 t1 t2 xs ys j->s.heap.DictOf knd D RJ->j<=xs.size->j<=ys.size->RJ.length+r1.length<=sizeLine->
   (∀h' tk,(∀b o,h0.get? b=some o->h'.get? b=some o)->h'.DictOf knd D (merged RJ kvs)->R (.ok (.ret .none)) { s with heap:=h',toks:=tk })->
   codeAny (model prog w) A (.builtin "dict.update.loop" ⟨[.ref D,.ref z,rawInt j,.none],[]⟩) R s:=by
 have nf:∀{b o},h0.get? b=some o->b≠D/\b≠z/\b≠to/\b≠i1/\b≠i2:=fun{b o} q=>by
  have g:∀c∈ [D,z,to,i1,i2],b≠c:=fun c hc e=>by rw[e,f c hc]at q;cases q
  exact⟨g _ (by simp),g _ (by simp),g _ (by simp),g _ (by simp),g _ (by simp)⟩
 have nd:D≠z/\D≠to/\D≠i1/\D≠i2:=by simp only[acn,acR,or_false,not_or]at n;exact⟨n.1,n.2.2.1,n.2.2.2.1,n.2.2.2.2.1⟩
 have stop:∀(j:Nat)(s:Shared)(RJ:List (κ×Value)),(j=xs.size\/(j<xs.size/\j=ys.size))->(∀b o,h0.get? b=some o->s.heap.get? b=some o)->T_ s.heap D z ti to i1 i2 t1 t2 xs ys j->s.heap.DictOf knd D RJ->
   (∀h' tk,(∀b o,h0.get? b=some o->h'.get? b=some o)->h'.DictOf knd D RJ->R (.ok (.ret .none)) { s with heap:=h',toks:=tk })->codeAny (model prog w) A (.builtin "dict.update.loop" ⟨[.ref D,.ref z,rawInt j,.none],[]⟩) R s:=fun j s RJ l kp st d hR=>by
  refine aeF vO ?_;rw[aer nB _];unfold Builtin.«dict.update.loop»;dsimp only;refine ab6 (EJ Z hh m1 m2 st l fun h' tk kk=>ab6 (ach (ach (hR h' tk (fun b o q=>let⟨_,b2,b3,b4,b5⟩:=nf q;kk b o b2 b3 b4 b5 (kp b o q)) ?_))));obtain⟨o,es,ep,q,r⟩:=d;exact⟨o,es,ep,kk _ _ nd.1 nd.2.1 nd.2.2.1 nd.2.2.2 q,r⟩
 intro r1 r2 kvs p
 induction p with
 |l=>intro j s RJ e1 e2 kp st d j1 j2 hz hR;have:=congrArg List.length e1;simp at this;exact stop j s RJ (.inl (by omega)) kp st d hR
 |r=>intro j s RJ e1 e2 kp st d j1 j2 hz hR;have a:=congrArg List.length e1;have b:=congrArg List.length e2;simp at a b;exact stop j s RJ (.inr ⟨by omega,by omega⟩) kp st d hR
 |@cons x y r1 r2 k kvs kk r ih=>
  intro j s RJ e1 e2 kp st d j1 j2 hz hR;have hx:xs[j]? =some x:=by rw[<- adH,<- afm,e1];rfl
  have hy:ys[j]? =some y:=by rw[<- adH,<- afm,e2];rfl
  have d0:=d;obtain⟨oD,es,ep,qD,rD⟩:=d0;refine aeF vO ?_;rw[aer nB _];unfold Builtin.«dict.update.loop»;dsimp only;refine ab6 (Bx Z hh m1 m2 qD st hx hy fun h' tk st1 pr ks=>?_);have k1:∀b o,h0.get? b=some o->h'.get? b=some o:=fun b o q=>let⟨_,b2,b3,b4,b5⟩:=nf q;ks b o b2 b3 b4 b5 (kp b o q);have d1:h'.DictOf knd D RJ:=⟨oD,es,ep,ks _ _ nd.1 nd.2.1 nd.2.2.1 nd.2.2.2 qD,rD⟩
  refine ab6 (adu (ab6 (wpAny_tryCatch (Ar ⟨_,pr,rfl,_,rfl⟩ ?_))));rw[acw]at hz;refine adu (wpAny_dictSet_pairs (hsz:=by omega) kk d1 fun h2 d2 s2=>?_);have k2:∀b o,h0.get? b=some o->h2.get? b=some o:=fun b o q=>(s2.2 b (nf q).1).trans (k1 b o q);refine ach ⟨agL nB _,?_⟩;have ln:(stored RJ k y).length<=RJ.length+1:=merged_length_le RJ [(k,y)];have c1:xs.toList.drop (j+1)=r1:=by rw[<- afC,e1];rfl
  have c2:ys.toList.drop (j+1)=r2:=by rw[<- afC,e2];rfl
  exact ih (j+1) _ (stored RJ k y) c1 c2 k2 (st1.keep n fun c o c1 q=>(s2.2 c c1).trans q) d2 (ad1.mp hx).1 (ad1.mp hy).1 (by omega) fun h3 tk k3 d3=>hR h3 tk k3 d3
theorem Bi{h0:Heap}{kvs:List (κ×Value)}{Q:Value->Shared->Prop}(Z:SX z ti to i1 i2 [i1,t1] [i2,t2])(hh:A.handled=none)(m1:t1≠i1)(m2:t2≠i2)(lt:∀c∈ [z,ti,to,i1,i2,t1,t2],c<s.heap.objs.size)(f:∀c∈ [z,to,i1,i2],h0.get? c=none)(hz:IsZip s.heap z ti to .none)(Tz:∃u v,IsPair s.heap to u v)(Te:IsPair s.heap ti (.ref i1) (.ref i2))(hl:s.heap.IsTupleIter i1 t1 0/\s.heap.IsTuple t1 xs)(hr:s.heap.IsTupleIter i2 t2 0/\s.heap.IsTuple t2 ys)
  (kp:∀b o,h0.get? b=some o->s.heap.get? b=some o) (p:Vg knd xs.toList ys.toList kvs) (hsz:xs.size<=sizeLine)
  (hQ:∀h' tk,(∀b o,h0.get? b=some o->h'.get? b=some o)->h'.DictOf knd s.heap.objs.size (merged [] kvs)->Q (.ref s.heap.objs.size) { s with heap:=h',toks:=tk }):
  wpAny (model prog w) A (call (.type "dict") [.ref z]) Q E s:=by
 refine callType_codes (Q₁:=fun v t=>v=.ref s.heap.objs.size/\t= { s with heap:=s.heap.push { cls:=.type "dict",data:=.dict #[] } }) PySem.F.kt_called_dict (PySem.F.kt_typeCall_dict_1 _) PySem.F.entry_dict_init (kt_code_dict_new _ ⟨rfl,rfl⟩) ?_
 rintro v t ⟨rfl,rfl⟩
 have new:(s.heap.push { cls:=.type "dict",data:=.dict #[] }).DictOf knd s.heap.objs.size []:=afp s.heap;refine⟨new.typeIs,PySem.F.args_dict_init_2 _ _,?_⟩;have k0:∀b q,s.heap.get? b=some q->(s.heap.push { cls:=.type "dict",data:=.dict #[] }).get? b=some q:=fun b q e=>acf _ e;have ty:({ s with heap:=s.heap.push { cls:=.type "dict",data:=.dict #[] } }:Shared).TypeIs (.ref z) "zip":=⟨_,k0 _ _ hz,rfl⟩
 unfold Builtin.«dict.__init__» Builtin.Dict.selfAndRest;refine ab6 (ab6 (wpAny_notOrdered_dict new.typeIs ?_));dsimp only;refine ab6 (ach (ach ?_));unfold Builtin.Dict.updateCommon Builtin.Dict.updateFrom;dsimp only;refine ab6 (afq ty ?_);refine agu (by decide) (ab6 (Bt (A:=A.in1.in1) hh (k0 _ _ hz) fun h1 tk1 k1=>?_));refine agu rfl (ab6 (agN ?_));have k2:∀b q,s.heap.get? b=some q->h1.get? b=some q:=fun b q e=>k1 b q (k0 b q e);have Xl:h1.DictOf knd s.heap.objs.size []:=by obtain⟨q,es,ep,hq,rest⟩:=new;exact⟨q,es,ep,k1 _ _ hq,rest⟩
 refine ab6 (afU (s:={ s with heap:=h1,toks:=tk1 }) (k2 _ _ hz) ?_);refine ach ⟨agL nB _,?_⟩;have nn:s.heap.objs.size∉ [z,ti,to,i1,i2,t1,t2]:=fun q=>adW _ (lt _ q)
 have fD:∀c∈ [s.heap.objs.size,z,to,i1,i2],h0.get? c=none:=fun c hc=>by
  rcases acn.mp hc with rfl|hc
  ·cases q:h0.get? s.heap.objs.size with
   |none=>rfl
   |some o=>exact absurd (acI (kp _ _ q)) (adW _)
  ·exact f c hc
 obtain⟨u,v,Tz⟩:=Tz;obtain⟨⟨oa,qa,ra⟩,⟨ob,qb,rb⟩⟩:=hl;obtain⟨⟨oc,qc,rc⟩,⟨od,qd,rd⟩⟩:=hr;refine Bs (A:=A.in1) (h0:=h0) Z hh m1 m2 nn fD p 0 _ [] rfl rfl (fun b q e=>k2 b q (kp b q e)) ⟨k2 _ _ Te,⟨⟨oa,k2 _ _ qa,ra⟩,⟨ob,k2 _ _ qb,rb⟩⟩,⟨⟨oc,k2 _ _ qc,rc⟩,⟨od,k2 _ _ qd,rd⟩⟩,.inl ⟨k2 _ _ hz,u,v,k2 _ _ Tz⟩⟩ Xl (acu _) (acu _) (by simpa using hsz) fun h3 t3 k3 d3=>?_;exact⟨rfl,hQ h3 t3 k3 d3⟩
end
end L2
namespace L3
open PySem
def Uc:List PV->List PV->Option (List (PK×PV))
 |x::r,y::t=>match pS x with
  |some k=>match Uc r t with
   |some l=>some ((k,y)::l)
   |none=>none
  |none=>none
 |_,_=>some []
def rH(ps:List PV)(h:List PO):Res PV:=match ps with
 |[.tup xs,.tup ys]=>match Uc xs ys with
  |some l=>.ok (.ref h.length) (h++ [.dct (Sy l)])
  |none=>.bad
 |_=>.bad
end L3
namespace Z
open PySem PySem.Spec PyProof.Rows L3 L2
section
variable{G:SC}{X:Cx}{w w1:Wo}{ρ:Ev}{h:List PO}{ae be:Expr}{f:Ax}{p0 p1 p2 pos:Pos}
theorem Bl{F:Fz}{m:List Addr}{xs ys:List PV}{us vs:List Value}{l:List (PK×PV)}(r1:aB G F m xs us)(r2:aB G F m ys vs)(e:Uc xs ys=some l):∃kvs,Vg (pk G.prog G.w) us vs kvs/\RK G F m l kvs/\kvs.length<=us.length:=by
 induction xs generalizing ys us vs l with
 |nil=>cases r1;cases ys<;>cases e<;>exact⟨[],.l,⟨rfl,.nil⟩,acu _⟩
 |cons x r i=>cases r1 with|cons r1 t1=>cases r2 with
  |nil=>cases e;exact⟨[],.r,⟨rfl,.nil⟩,acu _⟩
  |cons r2 t2=>
   unfold Uc at e
   split at e
   ·split at e
    ·cases e
     obtain⟨kvs,p,rk,le⟩:=i t1 t2 ‹_›;exact⟨_::kvs,.cons (mW r1 ‹_›) p,⟨by simp[rk.1],.cons r2 rk.2⟩,by simp;exact le⟩
    ·cases e
   ·cases e
theorem we(g1:Gl X "dict")(m1:X.mg "dict"=none)(g2:Gl X "zip")(m2:X.mg "zip"=none)(ha:RA X [ae,be] f)(hc:X.calm=true:=by rfl)(hs:starEach [ae,be] X.env=(false,eval ae X.env)::starEach [be] X.env:=by rfl)(Ov:(backTo p2 (starEach [be] X.env)).any (·.1)=false:=by rfl)
  (he:starEach [.Call (.Name "zip" p1) [ae,be] [] p2] X.env= [(false,eval (.Call (.Name "zip" p1) [ae,be] [] p2) X.env)]:=by rfl) (hp:(backTo pos (starEach [] X.env)).any (·.1)=false:=by rfl):
  RE X (.Call (.Name "dict" p0) [.Call (.Name "zip" p1) [ae,be] [] p2] [] pos) (cN rH f):=⟨fun{w ρ h Q E} I p=>by
 refine acY (I.blt g1 m1 (show bootBuiltins "dict"=some (.type "dict") by decide+kernel) (callWith_type1 ?_ he hp) (by decide) (by decide));rw[he];refine(show wpAny _ _ (spliced ((false,eval (.Call (.Name "zip" p1) [ae,be] [] p2) X.env)::[])) _ _ _ from aeJ ?_);refine acY (I.blt g2 m2 (show bootBuiltins "zip"=some (.type "zip") by decide+kernel) (callWith_type1 (ha.r p2 I (p.bind fun w1 h1 ps us y r k=>?_)) hs Ov) (by decide) (by decide));unfold rH at k
 split at k
 ·split at k
  ·rename_i l e;obtain⟨u,v,rfl,r1,r2⟩:=r.two
   cases r1 with
   |tup e1 z1 Xh=>
    cases r2 with
    |tup e2 z2 Xg=>
     rename_i a h_ n b U8 m;have t1:=y.2.at e1;have t2:=y.2.at e2;have la:=acI t1;have lb:=acI t2;refine ud (a:=a) (b:=b) (xs:=h_) (ys:=U8) ⟨_,t1,rfl,_,rfl⟩ ⟨_,t2,rfl,_,rfl⟩ fun h' kk q0 q1 q2 q3 q4=>aeU ?_;obtain⟨kvs,zp,rk,le⟩:=Bl Xh Xg e;have Z:=yI w1.s.heap.objs.size a b la lb;have sz:∀{c o},h'.get? c=some o->c<h'.objs.size:=fun q=>acI q;refine Bi (knd:=pk X.prog X.w) (h0:=w1.s.heap) (s:={ w1.s with heap:=h' }) Z (I.ok.hd hc) (ac2 la) (ac2 (adP lb)) (fun c hc=>?_) (fun c hc=>?_) q4 ⟨_,_,q3⟩ q2 ⟨⟨_,q0,rfl,rfl⟩,⟨_,kk _ _ t1,rfl,_,rfl⟩⟩ ⟨⟨_,q1,rfl,rfl⟩,⟨_,kk _ _ t2,rfl,_,rfl⟩⟩ kk zp z1 fun h3 t3 k3 d3=>?_
     ·simp only[acn,acR,or_false]at hc;rcases hc with rfl|rfl|rfl|rfl|rfl|rfl|rfl
      ·exact sz q4
      ·exact sz q2
      ·exact sz q3
      ·exact sz q0
      ·exact sz q1
      ·exact sz (kk _ _ t1)
      ·exact sz (kk _ _ t2)
     ·have ge:w1.s.heap.objs.size<=c:=by
       simp only[acn,acR,or_false]at hc;rcases hc with rfl|rfl|rfl|rfl
       ·exact acQ _ _
       ·exact acQ _ _
       ·exact ab8 _
       ·exact acS _
      cases q:w1.s.heap.get? c with
      |none=>rfl
      |some o=>exact absurd (acI q) (Nat.not_lt.mpr ge)
     ·have na:w1.s.heap.get? h'.objs.size=none:=by
       cases q:w1.s.heap.get? h'.objs.size with
       |none=>rfl
       |some o=>exact absurd (acI (kk _ _ q)) (adW _)
      have bg:(h'.objs.size==sysModules)=false:=by obtain⟨o,es,ep,e,_⟩:=I.ok.gl;have:=acI (kk _ _ ((I.on y).toWd.bk e));exact beq_eq_false_iff_ne.mpr fun z=>absurd (z▸this) (by decide)
      obtain⟨o,es,ep,e1,e2,e3⟩:=d3;have rm:=RK.merge rk (kps:=[]) (kvs:=[]) ⟨rfl,.nil⟩;have sb:Sub w1.m (w1.m++ [h'.objs.size]):=fun i b e=>by rw[acA (acd.mp e).1];exact e
      exact k.2 _ _ (Nw.mk (s':={ w1.s with heap:=h3,toks:=t3 }) y.2 na k3 ⟨(y.2.free na).2.1,o,_,e1,⟨e2,es,ep,e3⟩,bg,ace (mV _ _) (by simp at le |-;omega),rm.1,(rm.mono (fun _ _ e=>e) sb).2⟩ (fun _ _ e=>e) (fun _ _ e=>.inl e) rfl rfl) (.ref (by rw[y.2.len];simp))
  ·exact k.elim
 ·exact k.elim⟩
end
end Z
namespace L3
def vV(cat:Nat->Bool)(g:Sx)(gs:Sx):Sx:=fun ρ h=>match g ρ h with
 |.exc e h1=>match MW e with
  |some (C,p)=>if cat C=true then(match gs ρ h1 with
   |.rt v h2=>.rt v h2
   |_=>.bad)else .bad
  |none=>.bad
 |r=>r
end L3
namespace Z
open PySem PySem.Spec PyProof.Rows L3 L2
section
variable{X:Cx}{w w1 w3:Wo}{ρ:Ev}{h h1:List PO}{a:Addr}{o:Obj}
theorem Fc{cat:Nat->Bool}{e:Expr}{suite:List Stmt}{b0:Stmt}{fe:Ex}{gs:Sx}{t:Str}{Ta:Addr}{tp XJ pos Wg:Pos}{outer:List Env}(Ye:∀C Ca,cat C=true->X.T C=some Ca->W.exmOne X.K (.ref Ca) (.ref Ta)=some true)
  (hb:RE X.tried e fe) (hs:∀a,S5 (X.suite a) (b0::suite) gs) (hg:Gl X t) (hm:X.mg t=some (.ref Ta)) (Xd:X.stack=X.env::outer:=by rfl) (hf:X.env.frame=some X.env.locals:=by rfl) (P0:(t==("__debug__":Str))=false:=by decide) (Ug:swapsWith e none Wg.line X.env=pure false:=by rfl):
  RS X (.Try [.Expr e Wg] [.ExceptHandler (some (.Name t tp)) none (b0::suite) XJ] [] [] pos) (vV cat (dq fe) gs):=⟨fun{w ρ h Q E} I p=>by
 refine wpAny_Try_except (ae4 (wpAny_Expr_any (hb.r I.tried ?_) I.quiet Ug));unfold vV dq eH fW at p
 cases z:fe ρ h with
 |ok v h1=>rw[z]at p;exact⟨trivial,fun w' x y r=>aek (aek (p.2 w' y.s (I.on y)))⟩
 |bad=>rw[z]at p;exact p
 |exc e h1=>
  rw[z]at p;refine⟨trivial,fun w' u y r=>?_⟩;dsimp only at p
  split at p
  ·rename_i C pe ev
   split at p
   ·rename_i hC;have I1:=I.on (X:=X) y;obtain⟨a,cls,dx,rfl,⟨⟨a0,B,fl,c1,c2⟩,d⟩,m⟩:=r;rcases fl with fl|⟨z,_⟩
    case inr=>cases z
    obtain⟨Ca,t1,rfl⟩:∃Ca,X.T C=some Ca/\cls=.ref Ca:=by
     unfold MW at ev
     split at ev<;>cases ev
     ·obtain⟨Ca,h1,h2,_⟩:=m;exact⟨Ca,h1,h2⟩
     ·obtain⟨Ca,_,_,_,_,h1,h2,_⟩:=m;exact⟨Ca,h1,h2⟩
    have fa:Ro w' a:=Classical.byContradiction fun z=>by obtain⟨o',q⟩:=c2 a z;have:=fl.2.1;rw[q]at this;cases this
    have na:w.s.heap.get? a=none:=by
     cases z:w.s.heap.get? a with
     |none=>rfl
     |some o'=>
      by_cases hb:a∈X.fs
      ·obtain⟨o1,q,dd⟩:=I1.fr a hb;obtain⟨oe,vs,q1,_,q3,_⟩:=fl.first;have q:=q.1;rw[q1]at q;cases q;exact absurd q3 (dd vs)
      ·obtain⟨o2,q⟩:=c1 a o' z hb;have:=fl.2.1;rw[q]at this;cases this
    have lands:∀h5,Heap.FlyingW B X.stack a (.ref Ca) a0 h5->w'.s.heap.UpToSlots h5->(∃o,h5.get? a=some o/\o.dict=dx)->Nw X w { w' with s:={ w'.s with heap:=h5 } } h1/\∃o vs,h5.get? a=some o/\o.cls=.ref Ca/\o.data=.fields vs/\o.dict=dx:=fun h5 Vu up d5=>by refine⟨Hz (Y:=X) y.1 I1.toWd c1 c2 fl.1 Vu.1 up,?_⟩;obtain⟨oe,vs,q1,q2,q3,_⟩:=Vu.first;obtain⟨o',y1,y2⟩:=d5;rw[q1]at y1;cases y1;exact⟨oe,vs,q1,q2,q3,y2⟩
    have hfr:X.A.frames=some (X.env::outer):=Xd▸I.ok.frames;have Z1:=fl;rw[Xd]at Z1;refine wX (nX _ _) d (wpAny_looks_onW hfr hf Z1 fun h4 held Y4 d4=>wX (kf _ _) d4 (wpAny_landsW held fun h5 Vu Y0 d5=>?_));rw[<- Xd]at Vu;obtain⟨n5,o5,vs5,q1,q2,q3,q4⟩:=lands h5 Vu (Y4.trans Y0) d5;have I5:=I.on n5;refine wpAny_handleBy_cons (codeAny_handlers_test ((I5.suite (a:=a)).Uv hg hm ?_ P0)) (by intro z;cases z);have LT:W.Looks (model X.prog X.w) h5 (typeOf (.ref a)) (.ref Ca):=q2▸(W.Looks.ld q1).andThen .now;refine ahz (s:={ w'.s with heap:=h5 }) (W.exm_one (K:=X.K) I5.QK LT (Ye C Ca hC t1)) (codeAny_handlers_suite ?_);refine wX (kf _ _) d5 (lands_againW Vu fun h6 fl6 up6 d6=>?_);obtain⟨n6,_⟩:=lands h6 fl6 ((Y4.trans Y0).trans up6) d6;refine(hs a).r ((I.on n6).suite (a:=a)) ?_
    split at p
    ·rename_i e8;rw[e8];exact⟨trivial,fun w8 u8 ρ8 y8 I8 r8=>p.2 _ _ _ (n6.s.trans y8) (Inv.Ue I.ok I8) r8⟩
    ·exact p.elim
   ·exact p.elim
  ·exact p.elim⟩
end
end Z
namespace L3
open PySem PySem.Spec PyProof.Rows L2
def jF(p:PV)(h:List PO):Res PV:=match p with
 |.tup xs=>match fJ xs with
  |some ls=>if ls.length+1<scanBound then .ok (.int (oN ls:Nat)) h else .bad
  |none=>.bad
 |p=>Fp p h
theorem FP(p:PV)(h:List PO):jF p h=match RX h p with
 |some xs=>match fJ xs with
  |some ls=>if ls.length+1<scanBound then .ok (.int (oN ls:Nat)) h else .bad
  |none=>.bad
 |none=>.bad:=by cases p<;>rfl
end L3
namespace Z
open PySem PySem.Spec PyProof.Rows L3 L2
section
variable{X:Cx}{e:Expr}{f:Ex}{p1 p2 pos S7:Pos}
theorem qY(g1:Gl X "len")(m1:X.mg "len"=none)(g2:Gl X "set")(m2:X.mg "set"=none)(he:RE X e f)(hc:X.calm=true:=by rfl)
  (hs:starEach [e] X.env=(false,eval e X.env)::starEach [] X.env:=by rfl) (W3:starEach [.Call (.Name "set" p2) [e] [] S7] X.env=(false,eval (.Call (.Name "set" p2) [e] [] S7) X.env)::starEach [] X.env:=by rfl)
  (hp:(backTo pos (starEach [] X.env)).any (·.1)=false:=by rfl) (hp2:(backTo S7 (starEach [] X.env)).any (·.1)=false:=by rfl):
  RE X (.Call (.Name "len" p1) [.Call (.Name "set" p2) [e] [] S7] [] pos) (c1 jF f):=⟨fun{w0 ρ h0 Q E} I p=>by
 refine acY (I.blt g1 m1 PySem.boot_len ?_ (by decide) (by decide));refine PyProof.Rows.callWith_builtin1 ?_ W3 hp;rw[W3];show wpAny _ _ (spliced ((false,eval (.Call (.Name "set" p2) [e] [] S7) X.env)::backTo pos (starEach [] X.env))) _ _ w0.s;refine aeJ ?_;have hv:bootBuiltins "set"=some (.type "set"):=by decide+kernel
 refine acY (I.blt g2 m2 hv ?_ (by decide) (by decide));refine callWith_type1 ?_ hs hp2;rw[hs];refine(show wpAny _ _ (spliced ((false,eval e X.env)::[])) _ _ w0.s from aeJ (he.r I (p.bind fun w1 h1 q u y r k=>aeU ?_)));rw[FP]at k
 split at k
 ·split at k
  ·split at k
   ·rename_i ls el q;obtain⟨tt,a,h_,ht,rfl,y1,hz,rr⟩:=y.2.RX r ‹_›;have sa:=jT (G:=X.toSC) el rr;have ln:h_.size=ls.length:=by have:=StrsAre.len sa;simpa using this
    refine uC (I.ok.hd hc) ht y1 sa (by rw[ln];exact q) fun h' tk fin=>?_;obtain⟨so,kp⟩:=fin;have n:=Nw.also (X:=X) (s':={ w1.s with heap:=h',toks:=tk }) y.2 fun b o z=>kp b o (acI z) z;refine aeU ?_;obtain⟨o,go,oo⟩:=so.objOf;obtain⟨o1,es,ep,t,o2,_,_,o3,o4⟩:=oo;have lz:=tH (fun i=>(ls.map S).getD i Str.empty) h_.size;have sb:scanBound<2 ^ 63:=by decide
    refine call_len_set go o1 o2 o4 (by omega) ?_;rw[o3,ln];have e:=Iv ls;rw[ab9]at e;rw[e];exact(k.step n).now n.2 (.int _ _)
   ·exact k.elim
  ·exact k.elim
 ·exact k.elim⟩
end
end Z
namespace L3
open PySem
def pQ:Option PV->Option PV
 |some p=>if p.pure=true then some p else none
 |none=>none
def tQ(j:Nat)(t:Tx):Tx:=fun ρ h=>match ρ[j]? with
 |some (some p)=>match mJ h p with
  |some (_,xs)=>if ar xs=true then match t ((ρ.map pQ).set j (some (.lst xs))) []with
    |.ok b []=>.ok b h
    |_=>.bad
   else .bad
  |none=>.bad
 |_=>.bad
end L3
namespace Z
open PySem PySem.Spec PyProof.Rows L3 L2
section
variable{G:SC}{X:Cx}{w w2:Wo}{ρ:Ev}{h:List PO}{a:Addr}{o:Obj}
abbrev still(w:Wo)(a:Addr)(o:Obj):Wo:=⟨iV w.F a o,fun _=>none,[],w.s⟩
theorem Has.still{b:Addr}{ob:Obj}(q:Has w b ob)(n:b≠a):Has (still w a o) b ob:=⟨q.1,by simp,cQ n q.2.2.1,rfl⟩
theorem Inv.still{i j:Nat}{xs:List PV}{h_:Array Value}{n:Nat}(I:Inv X w ρ h)(em:w.m[i]? =some a)(hf:w.F a=none)(e:w.s.heap.get? a=some { cls:=.type "list",data:=.seq h_ n })(z:h_.size<=sizeLine)(r:aB X.toSC w.F w.m xs h_.toList)(pu:ar xs=true)(hj:ρ[j]? =some (some (.ref i))):Inv X (still w a { cls:=.type "list",data:=.seq h_ n }) ((ρ.map pQ).set j (some (.lst xs))) []:=by
 have na:∀{b ob},Has w b ob->b≠a:=fun q y=>q.2.1 (y▸acj em);have up:=dE (o:={ cls:=.type "list",data:=.seq h_ n }) hf;obtain⟨m,ol,nl,hl,l⟩:=I.loc;refine⟨⟨⟨fun b x q=>?_,fun _ _ q=>(nomatch q),rfl,.nil,fun _ _ _ q=>(nomatch q)⟩,I.ba,fun b x q=>up _ _ (I.bs b x q),fun b hb=>let⟨x,q,d⟩:=I.fr b hb;⟨x,q.still (na q),d⟩⟩,I.ok,⟨m,ol,nl,hl.still (na hl),fun k q e1=>?_⟩,fun x c e1=>let⟨v,x,q,hc⟩:=I.R3 x c e1;⟨v,x,q,hc.still (na hc)⟩,by simp;exact I.ln⟩
 ·by_cases y:b=a
  ·subst y;cases bC.symm.trans q;exact e
  ·exact I.sub b x ((kj y).symm.trans q)
 ·by_cases y:k=j
  ·subst y;have lt:k<ρ.length:=(acd.mp hj).1;rw[adl (by simpa using lt)]at e1
   cases e1
   obtain⟨x,u,e2,r2,l2⟩:=l k _ hj
   cases r2 with
   |ref e4=>rw[em]at e4;cases e4;exact⟨x,_,e2,.lst bC z (r.mono up (.inl pu)),l2⟩
  ·rw[acX (acW y),acJ]at e1;obtain⟨p',e2,e3⟩:=aee.mp e1;unfold pQ at e3
   split at e3
   ·split at e3<;>cases e3
    obtain⟨x,u,e4,r2,l2⟩:=l k _ e2;exact⟨x,u,e4,r2.mono up (.inl ‹_›),l2⟩
   ·cases e3
theorem Nw.wake{i:Nat}(I:Inv X w ρ h)(em:w.m[i]? =some a)(hf:w.F a=none)(e:w.s.heap.get? a=some o)(y:Nw X (still w a o) w2 []):Nw X w ⟨w.F,w.O,w.m,w2.s⟩ h:=by
 have na:∀{b ob},Has w b ob->b≠a:=fun q y=>q.2.1 (y▸acj em);have fz:∀b x,w.F b=some x->w2.s.heap.get? b=some x:=fun b x q=>y.2.sub b x (y.1.fz b x (dE hf b x q));refine⟨⟨y.1.os,y.1.ba,fun _ _ e=>e,fun _ _ e=>e,⟨[],by simp⟩,y.1.dom,fun b x q _=>?_⟩,fz,fun d b q=>let⟨⟨x,e⟩,z⟩:=I.own d b q;⟨y.1.dom _ _ e,z⟩,I.len,I.nd,fun k po b e1 e2=>(I.obj k po b e1 e2).on (fun _ _ e=>e) (fun _ e=>e) (fun _ _ e=>e) (fun c x q z=>?_) id⟩
 ·obtain⟨sl,q',z⟩:=y.1.keep b x (q.still (na q)) fun z=>z;exact⟨sl,⟨q'.1,q.2⟩,z⟩
 ·by_cases ca:c=a
  ·subst ca;rw[e]at q;cases q;exact y.2.sub _ _ (y.1.fz _ _ bC)
  ·cases hc:w.F c with
   |some x'=>rw[I.sub c x' hc]at q;cases q;exact fz c _ hc
   |none=>
    obtain⟨sl,q',z'⟩:=y.1.keep c x ⟨q,by simp,cQ ca hc,rfl⟩ fun z=>z;rcases z' with z'|rfl
    ·obtain⟨_,hq,_⟩:=I.fr c z';rcases z with rfl|z
     ·exact absurd (acj e2) hq.2.1
     ·rw[hq.2.2.2]at z;cases z
    ·exact q'.1
theorem Lq{e:Expr}{t:Tx}(j:Nat)(ht:RT X e t):RT X e (tQ j t):=⟨fun{w ρ h Q E} I p=>by
 unfold tQ at p
 split at p
 ·rename_i q hj
  split at p
  ·rename_i i xs el
   split at p
   ·rename_i pu;unfold mJ at el
    split at el
    ·rename_i n
     split at el
     ·rename_i e0
      cases el
      obtain⟨m,_,_,_,l⟩:=I.loc;obtain⟨x,u,_,r,_⟩:=l j _ hj
      cases r with
      |@ref _ a em=>
       obtain⟨hf,h_,n,e,z,rr⟩:=I.obj _ _ _ e0 em;refine ht.r (w:=still w a { cls:=.type "list",data:=.seq h_ n }) (I.still em hf e z rr pu hj) ?_
       split at p
       ·rename_i et;rw[et];exact⟨p.1,fun w2 x y r=>p.2 ⟨w.F,w.O,w.m,w2.s⟩ x (Nw.wake I em hf e y) r⟩
       ·exact p.elim
     ·cases el
    ·cases el
   ·exact p.elim
  ·exact p.elim
 ·exact p.elim⟩
end
end Z
namespace L3
open PySem
def nQ(p:PV)(ps:List PV)(h:List PO):Res PV:=match ps with
 |[.str z]=>match(S_ h p).bind fJ with
  |some ls=>if ls.length<=sizeLine/\ls.idxOf z<ls.length then .ok (.int (ls.idxOf z:Nat)) h else .bad
  |none=>.bad
 |_=>.bad
theorem Hx(z:List Nat):∀ls:List (List Nat),(ls.map S).idxOf (S z)=ls.idxOf z
 |[]=>rfl
 |l::r=>by
  rw[ab7,agl,agl,Hx z r]
  by_cases hl:l=z
  ·subst hl;simp
  ·have:S l≠S z:=fun q=>hl (xx q);rw[beq_eq_false_iff_ne.mpr hl,beq_eq_false_iff_ne.mpr this]
end L3
namespace Z
open PySem PySem.Spec PyProof.Rows L3 L2
noncomputable def Rr(z:Str):Value->Bool
 |.str y _=>y==z
 |_=>false
theorem uo{zs:List Str}{us:List Value}(r:StrsAre us zs):∀v∈us,∃y t,v=.str y t:=by
 induction r with
 |nil=>exact fun _ h=>(acR h).elim
 |cons y t _ i=>exact fun v h=>(acn.mp h).elim (fun e=>⟨y,t,e⟩) (i v)
theorem Al(z:Str):∀{zs:List Str}{us:List Value},StrsAre us zs->us.map (Rr z)=zs.map (· ==z)
 |_,_,.nil=>rfl
 |_,_,.cons y t r=>by show(y==z)::_=_;rw[Al z r];rfl
section
variable{X:Cx}
theorem tG:Wt X "list.index" nQ:=fun{w h p u ps us Q E} I rp rs k=>by
 unfold nQ at k
 split at k
 ·rename_i z;obtain⟨u1,rfl,r1⟩:=rs.one
  cases r1 with
  |str _ tz=>
   split at k
   ·rename_i ls e
    split at k
    ·rename_i hz;obtain⟨xs,e1,e2⟩:=Option.bind_eq_some_iff.mp e;obtain⟨a,h_,rfl,⟨n,ho⟩,_,rr⟩:=I.sq rp (ke e1);have sa:=jT (G:=X.toSC) e2 rr;have ln:h_.toList.length=(ls.map S).length:=StrsAre.len sa;have mp:=Al (S z) sa;have ix:=Hx z ls;have hi:(ls.map S).idxOf (S z)<(ls.map S).length:=by rw[ix,ab9];exact hz.2
     generalize ls.map S=zs at sa ln mp hi ix |-
     have at':∀m (h1:m<h_.toList.length) (h2:m<zs.length),Rr (S z) h_.toList[m]=(zs[m]==S z):=fun m h1 h2=>by have:=congrArg (·[m]?) mp;rw[acJ,acJ,acr h1,acr h2]at this;exact adD this
     have hj:zs.idxOf (S z)<h_.size:=by rw[<- agJ,ln];exact hi
     have hsm:((zs.idxOf (S z):Nat):Int)<2 ^ 63 - 1:=by have:=aed;have:=hz.1;have:=hz.2;rw[ix];omega
     have hit:Rr (S z) h_[zs.idxOf (S z)]=true:=by have:=at' _ (by rw[ln];exact hi) hi;rw[agB]at this;rw[this];simp
     have XQ:∀m (hm:m<h_.size),m<zs.idxOf (S z)->Rr (S z) h_[m]=false:=fun m hm XR=>by have:=at' m (by simpa using hm) (by omega);rw[agB]at this;rw[this];exact List.not_of_lt_findIdx (p:=(· ==S z)) (xs:=zs) (i:=m) XR
     refine afu aeK ⟨_,ho,rfl⟩ PySem.F.entry_list_index (PySem.F.args_list_index_2 _ _) (SeqAt.list_indexAt a _ n none #[] (.str (S z) tz) (Rr (S z)) (zs.idxOf (S z)) hj hsm hit XQ) ⟨ho,fun y hy=>?_,?_⟩
     ·obtain⟨w,t,rfl⟩:=uo sa y (by simpa using hy);exact SeqAt.EqAt.str_str w t (S z) tz
     ·rw[ix];exact k.now I.toHR (.int _ _)
    ·exact k.elim
   ·exact k.elim
 ·exact k.elim
end
end Z
namespace Z
open PySem PySem.Spec PyProof.Rows L3 L2
section
variable{X:Cx}{w w1:Wo}{ρ:Ev}{h:List PO}
theorem vW{elt iter tg:Expr}{ifs:List Expr}{scope:Scope}{it:Ax}{tt:Tx}{te:Ex}{M vs:List Str}{g:Gx}{pos py QT:Pos}{y:Str}{iy:Nat}(m8:List Nat)(hc:X.calm=true)(S:cI X.N X.env.scope scope m8 vs M)(hi:RI X tg iter it)(hg:∀cl C,RG (cH X M scope cl C) tg g)(ht:∀cl C,Um (cH X M scope cl C) ifs tt)(he:∀cl C,RE (cH X M scope cl C) elt te)
  (gm:∀q cp ρ1,g q (List.replicate vs.length none++cp)=some ρ1->∃l,l.length=vs.length/\ρ1=l++cp) (hy:X.N[iy]? =some y) (Vd:X.env.scope.names.lookup y=some .local) (Ug:swapsWith (.ListComp elt [⟨tg,iter,ifs,0⟩] scope pos) (some (.Name y py)) QT.line X.env=pure true)
  (hs:∀y,foldedSetIterable iter X.env y=pure y:=by intro _;rfl):RS X (.Assign [.Name y py] (.ListComp elt [⟨tg,iter,ifs,0⟩] scope pos) QT) (aJ iy (cN Qu (gT vs.length g m8 it tt te))):=⟨fun{w0 ρ h Q E} I p=>by
 rw[agq _ _ _ _ Ug];refine ab6<|ae7<|ab6 ?_
 show wpAny _ X.A (comprehension (.ListComp elt [⟨tg,iter,ifs,0⟩] scope pos) scope X.env _ (newList []) false (eval iter X.env) (some (assign (.Name y py) X.env)) >>= fun _=>pure ()) _ _ w0.s;refine ab6<|ac5 (aeD (use:=some (assign (.Name y py) X.env)) (Q:=fun _ s'=>Q .next s') rfl hs (jw fun n hn=>I.ok.has n (S.free _ hn rfl)) S.kind S.names ?_) (fun _ _ z=>ach (ach z)) fun _ _ z=>z
 have p:bx X w0 Q E (fW (it ρ h) fun xs h1=>fW (if xs.length<sizeLine then(eS g tt te (List.replicate vs.length none++dj m8 ρ) xs h1).calm else .bad) fun ps h2=>fW (Qu ps h2) fun v h3=>.nx (ρ.set iy (some v)) h3):=by
  unfold aJ eH cN gT at p
  cases e:it ρ h with
  |ok xs h1=>
   rw[e]at p
   revert p
   show bx X w0 Q E (fW (((if xs.length<sizeLine then(eS g tt te (List.replicate vs.length none++dj m8 ρ) xs h1).calm else .bad):Res (List PV)).bind Qu) _)->bx X w0 Q E (fW (if xs.length<sizeLine then(eS g tt te (List.replicate vs.length none++dj m8 ρ) xs h1).calm else .bad) _);generalize(if xs.length<sizeLine then(eS g tt te (List.replicate vs.length none++dj m8 ρ) xs h1).calm else .bad:Res (List PV))=rr
   cases rr<;>exact id
  |exc _ _=>rw[e]at p;exact p
  |bad=>rw[e]at p;exact p
 refine hi.r I (bx.e0 p I fun w h1 xs v y0 I1 rr p=>?_)
 split at p
 ·rename_i hz
  refine pJ (use:=some (assign (.Name y py) X.env)) (Q:=fun _ s=>Q .next s) (K:=fun ps h=>bx X w0 Q E (fW (Qu ps h) fun v h3=>.nx (ρ.set iy (some v)) h3)) m8 hc S hg ht he gm I y0 rr hz (by
   revert p
   cases eS g tt te (List.replicate vs.length none++dj m8 ρ) xs h1<;>first|exact id|exact fun z=>bx.ep z |>.elim) fun{w2 h2 ps h_ D C oC m} y2 H2 nD nC DC hl n l f ra z k=>?_
  obtain⟨nn,e1⟩:=l;have fz:=dE (o:={ cls:=.type "list",data:=.seq h_ nn }) f.2.1;have n3:=Nw.freeze (X:=X) (w:=w0) (w1:=w2) ⟨y2,H2⟩ nD ⟨e1,f⟩;have I3:=I.on n3;have aC:=I.out nC;show wpAny _ X.A (assign (.Name y py) X.env (.ref D)) _ _ w2.s;refine afM (I3.store (w:=⟨iV w2.F D { cls:=.type "list",data:=.seq h_ nn },w2.O,w2.m,w2.s⟩) hy (.inl Vd) (p:=.lst ps) (.lst bC z (ra.mono fz (.inr fun _ _ e=>e))) fun w4 y4 I4=>?_);obtain⟨sl,hC,zz⟩:=y4.keep C oC ⟨hl.1,hl.2.1,cQ (acW DC) hl.2.2.1,hl.2.2.2⟩ aC.w;refine⟨m,rK n fun o e=>by rw[hl.1]at e;cases e;exact⟨sl,hC.1⟩,fun h' VF=>?_⟩;obtain⟨a1,a2⟩:=oJ (s':={ w4.s with heap:=h' }) I4.toHR hC fun b o z e=>(VF.2 b z).trans e;exact k.2 _ ((n3.s.trans y4).priv a1 (by simp;exact nC)) (I4.priv a1 a2 (by simp;exact aC))
 ·exact p.elim⟩
end
end Z
namespace Z
open PySem PySem.Spec PyProof.Rows L3 L2
section
variable{X:Cx}{e a b elt iter tg:Expr}{es ifs:List Expr}{f fa fb te:Ex}{fs it:Ax}{tt:Tx}{pos p0 p1 tp:Pos}{x y:Str}{scope:Scope}{M:List Str}{m8:List Nat}{u:Value}
theorem vZ{iy:Nat}{py QT:Pos}(S:cI X.N X.env.scope scope m8 [x] M)(hi:RI X (.Name x tp) iter it)(ht:∀cl C,Um (cH X M scope cl C) ifs tt)(he:∀cl C,RE (cH X M scope cl C) elt te)(hy:X.N[iy]? =some y)(Vd:X.env.scope.names.lookup y=some .local)(Ug:swapsWith (.ListComp elt [⟨.Name x tp,iter,ifs,0⟩] scope pos) (some (.Name y py)) QT.line X.env=pure true)(hc:X.calm=true:=by rfl)(hg:∀cl C,RG (cH X M scope cl C) (.Name x tp) (z_ 0):=by exact fun _ _=>aY)
  (hs:∀y,foldedSetIterable iter X.env y=pure y:=by intro _;rfl):RS X (.Assign [.Name y py] (.ListComp elt [⟨.Name x tp,iter,ifs,0⟩] scope pos) QT) (aJ iy (cN Qu (dH m8 it tt te))):=by
 have q:=vW (pos:=pos) (py:=py) m8 hc S hi hg ht he JP hy Vd Ug hs;have z:gT 1 (z_ 0) m8 it tt te=dH m8 it tt te:=by funext ρ h;simp only[gT,dH,vv]
 exact z▸q
end
end Z
namespace L3
open PySem
def tN(h:List PO)(p:PV):Bool:=(T9 h p).isSome
def ya(p:PV)(ps:List PV)(h:List PO):Res PV:=match ps with
 |[q,z]=>match T9 h p,pS q with
  |some kvs,some k=>.ok (match dI kvs k with|some v=>aq h v|none=>z) h
  |_,_=>.bad
 |_=>.bad
def tE(p q:PV)(h:List PO):Res PV:=match Rp h p,Rp h q with
 |some a,some b=>if a.length+b.length<=sizeLine then .ok (.ref h.length) (h++ [.lst (a++b)])else .bad
 |_,_=>.bad
def CD(p q:PV)(h:List PO):Res PV:=if Zk h p q=true then .ok (.bl true) h else QC p q h
end L3
namespace Z
open PySem PySem.Spec PyProof.Rows L3 L2
section
variable{X:Cx}{a b:Expr}{fa fb:Ex}{pos:Pos}
theorem BJ:TyM X "dict" tN:=fun H r e=>by obtain⟨xs,ex⟩:=aeE.mp e;obtain⟨a,kvs,rfl,_,d,_⟩:=H.dc r ex;exact⟨d.typeIs,fun _ e=>by cases e;exact let⟨o,es,ep,e,x,_⟩:=d;⟨o,e,x.2.1⟩⟩
theorem Dd:Wt X "dict.get" ya:=fun{w h p u ps us Q E} I r rs k=>by
 unfold ya at k
 split at k
 ·obtain⟨v1,v2,rfl,r1,r2⟩:=rs.two
  split at k
  ·rename_i kk e1 e2;obtain⟨a,kvs,rfl,sm,d,rr⟩:=I.dc r e1;refine call_meetsIn ae0 d.typeIs PySem.F.entry_dict_get (PySem.F.args_dict_get_3 _ _ _) (meets_dict_get_default (pk X.prog X.w) a (mW r1 e2) sm v2) ⟨_,d.mapOf,?_⟩;rcases qn rr.2.1 rr.2.2 kk with⟨p3,v,z1,z2,z3⟩|⟨z1,z2⟩
   ·rw[z1]at k;show Q ((valueAt kvs kk).getD v2) _;rw[z2];exact k.now I.toHR (I.Rf z3)
   ·rw[z1]at k;show Q ((valueAt kvs kk).getD v2) _;rw[z2];exact k.now I.toHR r2
  ·exact k.elim
 ·exact k.elim
theorem yX(ha:RE X a fa)(hb:RE X b fb):RE X (.BinOp a .Add b pos) (c2 tE fa fb):=qX (fun{w h p q u v Q E} I rp rq k=>by
 unfold tE at k
 split at k
 ·rename_i xs ys e1 e2
  split at k
  ·obtain⟨a,h_,rfl,⟨_,x⟩,z,r⟩:=I.sq rp (lI e1);obtain⟨b,O4,rfl,⟨_,y⟩,_,r'⟩:=I.sq rq (lI e2);have l:=r.len;have l':=r'.len;exact ag8 x y (k.lm I.toHR (by simpa using r.app r') (by simp;omega)) (by omega)
  ·exact k.elim
 ·exact k.elim) ha hb
theorem Ly(hu:X.A.units+64<cLine):Rm X (compareOp .NotEq) CD:=fun{w h p q u v Q E} I rp rq k=>by
 unfold CD at k
 split at k
 ·rename_i e;unfold Zk at e
  split at e
  ·obtain⟨a,h_,rfl,⟨n,y⟩,z,r⟩:=I.sq rp (lI ‹_›);obtain⟨a2,Xz,rfl,⟨n2,y2⟩,z2,r2⟩:=I.sq rq (lI ‹_›);have l1:=r.len;have l2:=r2.len;exact SeqAt.RcNeAt.lists_lengths (items:=h_) (items2:=Xz) ⟨_,y,rfl,_,rfl⟩ ⟨_,y2,rfl,_,rfl⟩ (by rw[<- l1,<- l2];simpa using of_decide_eq_true e) (by omega) _ _ _ _ (k.here I.toHR (.bl _))
  ·cases e
 ·exact sX hu I rp rq k
end
end Z
noncomputable section
namespace Qt
open PySem PySem.Spec PyProof.Rows L2 L3 Z
noncomputable def top(i:Nat):Stmt:=PySem.Challenge.pw_formsmith_k19_joined_by_own_going.main.body.getD i (.Pass ⟨0,0,0,0⟩)
noncomputable def mL:List PV:=[.int 0,.int 0,.int 0,.int 0]
noncomputable def Cn:List Nat:=[116,104,101,32,98,111,111,107,32,105,115,32,116,111,111,32,108,97,114,103,101,32,119,105,116,104,32,97,108,108,32,112,117,116,32,105,110]
noncomputable def bT:List Nat:=[97,98,99,100,101,102,103,104,105,106,107,108,109,110,111,112,113,114,115,116,117,118,119,120,121,122]
set_option genSizeOf false in
inductive Fn where
 |law|K6|G_|I9|O7|D_|u6|I6|joined|m6|j6|G4|q_|Oz|K8|C_|b_|d9|K9|I7|n8|n_|H_|B_|G7|sized|g_|J0|w7|H9|t_|G9|k_|E_|j9|i_|q9|f9|o8|j_|K1|v7|v5|o7|m7|q8|K7|o9|m9|m_
abbrev CC:=Fn->List PV->L3.Out
abbrev DD:=Fn->List PV->List PO->Res PV
def sL:Fn->Stmt
 |.law=>top 55
 |.K6=>top 34
 |.G_=>top 54
 |.I9=>top 45
 |.O7=>top 53
 |.D_=>top 32
 |.u6=>top 44
 |.I6=>top 46
 |.joined=>top 28
 |.m6=>top 52
 |.j6=>top 51
 |.G4=>top 33
 |.q_=>top 41
 |.Oz=>top 43
 |.K8=>top 35
 |.C_=>top 8
 |.b_=>og (top 30) 1
 |.d9=>og (top 30) 0
 |.K9=>top 47
 |.I7=>top 48
 |.n8=>top 50
 |.n_=>top 49
 |.H_=>top 40
 |.B_=>top 42
 |.G7=>top 9
 |.sized=>top 16
 |.g_=>og (top 30) 2
 |.J0=>top 29
 |.w7=>top 36
 |.H9=>top 39
 |.t_=>top 37
 |.G9=>top 38
 |.k_=>top 10
 |.E_=>top 15
 |.j9=>og (top 3) 0
 |.i_=>top 17
 |.q9=>top 25
 |.f9=>og (top 30) 3
 |.o8=>top 24
 |.j_=>top 22
 |.K1=>top 12
 |.v7=>top 11
 |.v5=>top 18
 |.o7=>top 19
 |.m7=>top 26
 |.q8=>top 23
 |.K7=>top 13
 |.o9=>top 14
 |.m9=>top 20
 |.m_=>top 21
noncomputable def sZ:Fn->List Str
 |.law=> ["_law_script","_law_menu","_law_book","_law_many","_law_low","_law_due_here","_law_turn","_law_found"]
 |.K6=> ["_law_n","_law_some","_law_size","_law_at","_law_names_here","_law_k","_law_word","_law_told"]
 |.G_=> ["_law_book","_law_menu","_law_cell_here","_law_main","_law_one_here","_law_more"]
 |.I9=> ["_law_book","_law_number","_law_nodes","_law_body","_law_deep","_law_many","_law_low","_law_node","_law_some","_law_at","_law_one_here","_law_more","_law_lower"]
 |.O7=> ["_law_book","_law_known","_law_spot","_law_piece"]
 |.D_=> ["_law_script","_law_k"]
 |.u6=> ["_law_cells","_law_spot","_law_menu","_law_book","_law_pieces","_law_many","_law_k","_law_n","_law_names_here","_law_handed","_law_at","_law_nodes","_law_name"]
 |.I6=> ["_law_book"]
 |.joined=> ["book","main","paths","name"]
 |.m6=> ["_law_nodes","_law_swaps","_law_spot","_law_found","_law_node","_law_yes","_law_name","_law_inner"]
 |.j6=> ["_law_nodes","_law_known","_law_spot","_law_found","_law_node","_law_names_here","_law_own","_law_fresh_here"]
 |.G4=> ["_law_cells","_law_spot","_law_k","_law_base"]
 |.q_=> ["_law_cells","_law_spot","_law_at","_law_deep"]
 |.Oz=> ["_law_book","_law_piece","_law_left"]
 |.K8=> ["_law_nodes","_law_found","_law_node"]
 |.C_=> ["book","size"]
 |.b_=> ["self","nodes","scope","made","node","one"]
 |.d9=> ["self","book","piece"]
 |.K9=> ["_law_path","_law_swaps"]
 |.I7=> ["_law_nodes","_law_swaps","_law_spot","_law_found","_law_node","_law_name","_law_inner"]
 |.n8=> ["_law_nodes","_law_node","_law_some"]
 |.n_=> ["_law_nodes","_law_names_here","_law_body","_law_spot","_law_found","_law_node"]
 |.H_=> ["_law_cells","_law_spot","_law_at","_law_deep","_law_n","_law_kind","_law_more","_law_path","_law_name","_law_nodes","_law_yes"]
 |.B_=> ["_law_book","_law_nodes","_law_number","_law_body","_law_deep","_law_left","_law_node","_law_at","_law_handed"]
 |.G7=> ["book","elders","number","piece","is_main"]
 |.sized=> ["book","sizes","piece","main"]
 |.g_=> ["self","node","scope","kind","yes","no","piece","body"]
 |.J0=> ["nodes","node"]
 |.w7=> ["_law_n","_law_at","_law_fields"]
 |.H9=> ["_law_cells","_law_spot","_law_at","_law_deep","_law_n","_law_fits","_law_name","_law_many","_law_handed","_law_paths","_law_first","_law_names_here"]
 |.t_=> ["_law_cells","_law_spot","_law_at","_law_many"]
 |.G9=> ["_law_at","_law_names_here","_law_inner"]
 |.k_=> ["nodes","way","names","many","elders","place","node","at","part"]
 |.E_=> ["names"]
 |.j9=> ["self","at"]
 |.i_=> ["nodes","sizes","whole","node"]
 |.q9=> ["paths","scope","body","user"]
 |.f9=> ["self","node","scope","name","nodes"]
 |.o8=> ["use","piece","scope","body"]
 |.j_=> ["path","scope"]
 |.K1=> ["node","names","many","elders","path"]
 |.v7=> ["node"]
 |.v5=> ["one","other"]
 |.o7=> ["node","sizes"]
 |.m7=> ["meanings","names","paths","scope","name","path"]
 |.q8=> ["name","meaning","scope","meanings"]
 |.K7=> ["node"]
 |.o9=> ["node","piece"]
 |.m9=> ["inner","body_depth"]
 |.m_=> ["node","sizes","piece","many","body","body_depth"]
def qe:Fn->Str
 |.law=>"law"
 |.K6=>"_law_names"
 |.G_=>"_law_looped"
 |.I9=>"_law_count"
 |.O7=>"_law_due"
 |.D_=>"_law_cell_at"
 |.u6=>"_law_good_book"
 |.I6=>"_law_is_many"
 |.joined=>"joined"
 |.m6=>"_law_numbered"
 |.j6=>"_law_without_uses"
 |.G4=>"_law_cell"
 |.q_=>"_law_grown"
 |.Oz=>"_law_few"
 |.K8=>"_law_one"
 |.C_=>"need_book"
 |.b_=>"nodes_put_in"
 |.d9=>"__init__"
 |.K9=>"_law_led"
 |.I7=>"_law_fresh"
 |.n8=>"_law_has_body"
 |.n_=>"_law_filled_in"
 |.H_=>"_law_node_by"
 |.B_=>"_law_come"
 |.G7=>"need_names"
 |.sized=>"sized"
 |.g_=>"put_in"
 |.J0=>"add_node"
 |.w7=>"_law_path_by"
 |.H9=>"_law_used_by"
 |.t_=>"_law_paths_by"
 |.G9=>"_law_within"
 |.k_=>"need_nodes"
 |.E_=>"has_twice"
 |.j9=>"__init__"
 |.i_=>"size_of_nodes"
 |.q9=>"scope_in_body"
 |.f9=>"loop_put_in"
 |.o8=>"scope_in_use"
 |.j_=>"stood_for"
 |.K1=>"is_wrong"
 |.v7=>"parts_within"
 |.v5=>"side_by_side"
 |.o7=>"size_of_node"
 |.m7=>"with_handed_in"
 |.q8=>"scope_in_loop"
 |.K7=>"paths_in"
 |.o9=>"is_wrong_use"
 |.m9=>"size_within"
 |.m_=>"size_of_use"
def xV:Fn->Str
 |.b_=>"Joiner.nodes_put_in"
 |.d9=>"Joiner.__init__"
 |.g_=>"Joiner.put_in"
 |.j9=>"BadName.__init__"
 |.f9=>"Joiner.loop_put_in"
 |f=>qe f
def DF:Fn->Bool
 |.b_|.d9|.g_|.j9|.f9=>false
 |_=>true
set_option genSizeOf false in
inductive Nt where
 |dict|enumerate|int|isinstance|len|list|max|range|set|str|tuple|zip
def IR:Nt->Str
 |.dict=>"dict"
 |.enumerate=>"enumerate"
 |.int=>"int"
 |.isinstance=>"isinstance"
 |.len=>"len"
 |.list=>"list"
 |.max=>"max"
 |.range=>"range"
 |.set=>"set"
 |.str=>"str"
 |.tuple=>"tuple"
 |.zip=>"zip"
noncomputable def kZ:Fn->List Str
 |.law=> ["_law_script"]
 |.K6=> ["_law_n"]
 |.G_=> ["_law_book","_law_menu","_law_cell_here"]
 |.I9=> ["_law_book","_law_number","_law_nodes","_law_body","_law_deep"]
 |.O7=> ["_law_book"]
 |.D_=> ["_law_script","_law_k"]
 |.u6=> ["_law_cells","_law_spot","_law_menu"]
 |.I6=> ["_law_book"]
 |.joined=> ["book"]
 |.m6=> ["_law_nodes","_law_swaps","_law_spot"]
 |.j6=> ["_law_nodes","_law_known","_law_spot"]
 |.G4=> ["_law_cells","_law_spot"]
 |.q_=> ["_law_cells","_law_spot","_law_at","_law_deep"]
 |.Oz=> ["_law_book","_law_piece"]
 |.K8=> ["_law_nodes"]
 |.C_=> ["book"]
 |.b_=> ["self","nodes","scope"]
 |.d9=> ["self","book"]
 |.K9=> ["_law_path","_law_swaps"]
 |.I7=> ["_law_nodes","_law_swaps","_law_spot"]
 |.n8=> ["_law_nodes"]
 |.n_=> ["_law_nodes","_law_names_here","_law_body","_law_spot"]
 |.H_=> ["_law_cells","_law_spot","_law_at","_law_deep"]
 |.B_=> ["_law_book","_law_nodes","_law_number","_law_body","_law_deep","_law_left"]
 |.G7=> ["book"]
 |.sized=> ["book"]
 |.g_=> ["self","node","scope"]
 |.J0=> ["nodes","node"]
 |.w7=> ["_law_n","_law_at"]
 |.H9=> ["_law_cells","_law_spot","_law_at","_law_deep","_law_n"]
 |.t_=> ["_law_cells","_law_spot","_law_at","_law_many"]
 |.G9=> ["_law_at","_law_names_here"]
 |.k_=> ["nodes","way","names","many","elders"]
 |.E_=> ["names"]
 |.j9=> ["self","at"]
 |.i_=> ["nodes","sizes"]
 |.q9=> ["paths","scope"]
 |.f9=> ["self","node","scope"]
 |.o8=> ["use","piece","scope"]
 |.j_=> ["path","scope"]
 |.K1=> ["node","names","many","elders"]
 |.v7=> ["node"]
 |.v5=> ["one","other"]
 |.o7=> ["node","sizes"]
 |.m7=> ["meanings","names","paths","scope"]
 |.q8=> ["name","meaning","scope"]
 |.K7=> ["node"]
 |.o9=> ["node","piece"]
 |.m9=> ["inner"]
 |.m_=> ["node","sizes"]
def lV:Nat->Bool
 |1=>true
 |_=>false
def dl:Nat->Nat
 |0=>0
 |k+1=>dl k+2
abbrev aac:=cK (.int 1)
abbrev aad:=cK (.int 0)
abbrev aae:=cK (.int 3)
abbrev aaf:=cK (.int 2)
abbrev aag:=cK (.str [108,111,111,112])
abbrev aah:=cK (.str [99,104,111,105,99,101])
abbrev aai:=cK (.int 4)
abbrev aaj:=af (ai 2) am
abbrev aak:=af (ai 1) am
abbrev aal:=c2 d7 (ai 0) aad
abbrev aam:=cK (.str [98,111,100,121])
abbrev aan:=cK (.str [116,101,120,116])
abbrev aao:=cK (.str [112,108,97,99,101])
abbrev aap:=cK (.str [117,115,101])
abbrev aaq:=af (ai 0) am
abbrev aa5:=c2 d7 (ai 1) aai
abbrev aaz:=cK .non
abbrev aar:=af aa5 (af (cN aV (af (R4 (ai 2)) (af aaz am))) am)
abbrev aas:=af (ai 3) am
abbrev aat:=cK (.str [110,97,109,101,115])
abbrev aau:=c2 d7 (ai 1) aad
abbrev aav:=cK (.int 8)
abbrev aaw:=c2 d7 (ai 4) aad
abbrev aax:=c2 d7 (ai 0) aae
abbrev aay:=c2 d7 (ai 0) aac
abbrev aaA:=c2 d7 (ai 1) aac
abbrev aaB:=Rc 2 (bw (z_ 5) (bw (z_ 6) fX))
abbrev aaC:=ug [(aag,(iB (ai 1) (di aae) (di aai))),(aah,(iB (ai 1) (di aaf) (di aai)))]
abbrev aaD:=c2 d7 (ai 2) aad
abbrev aa6:=c1 lC aac
abbrev aaE:=c2 d7 (ai 0) aa6
abbrev aaF:=af (ai 5) am
abbrev aaG:=c2 d7 (ai 4) aac
abbrev aaH:=c2 d7 (ai 0) aaf
abbrev aaI:=Rc 2 (bw (z_ 2) (bw (z_ 3) fX))
abbrev aaJ:=c2 d7 (ai 4) aaf
abbrev aaK:=c2 d7 (ai 3) aaf
abbrev aaL:=c2 d7 (ai 1) aae
abbrev aaM:=eI (ai 0)
abbrev aaN:=cK (.int 12)
abbrev aaO:=af (ai 4) am
abbrev aaP:=af (ai 1) aaj
abbrev aaQ:=af (ai 0) aak
abbrev aaR:=cK (.str [104,97,110,100,101,100])
abbrev aaS:=cK (.int 5)
abbrev aaT:=cN aV am
abbrev aaU:=c2 d7 (ai 3) aac
abbrev aaV:=c2 d7 (ai 2) aac
abbrev aaW:=c2 d7 (ai 1) aaf
abbrev aaX:=cK (.str [109,101,110,117])
abbrev aaY:=c2 d7 (ai 4) aae
abbrev aaZ:=c2 d7 (ai 0) aai
abbrev aa0:=af (c2 aI (ai 4) aac) aaF
abbrev aa1:=br (cK (.bl true))
abbrev aa2:=af (c2 oT (ai 3) aac) am
abbrev aa3:=c2 d7 (ai 5) aad
abbrev aa4:=c2 d7 (ai 4) aai
abbrev aa7:=eI (cN aV (af aaf (af aae am)))
abbrev aa8:=cK (.str [])
abbrev aa9:=br (cK (.bl false))
abbrev aa_:=cN gh aaq
abbrev abb:=af aad am
abbrev abd:=aE (c2 J5 aal aap)
abbrev abe:=af (cN aV (af (ai 1) (af (c2 d7 (ai 7) aae) aas))) am
abbrev abf:=dq (cM dZ bD (ai 3) aaO)
abbrev abg:=c2 d7 (ai 7) aad
abbrev abh:=c2 d7 (ai 6) aad
abbrev abj:=c2 d7 (ai 3) aad
abbrev abk:=jA (aE (c2 Ti aau aaA)) (aE (c2 Tt (ai 3) aac))
abbrev abl:=af (ai 0) (af (ai 1) (af (ai 10) (af aai am)))
abbrev abm:=eI (ai 4)
abbrev abn:=cK (.int 9)
abbrev abo:=c2 d7 (ai 1) (c2 eF (c2 gI (ai 2) aav) aaN)
abbrev abp:=br (cN df aas)
abbrev abq:=cN im am
abbrev abr:=af (ai 2) aas
abbrev abt:=af (ai 0) (af (ai 1) (af (ai 2) aa2))
abbrev abu:=af aau (af aaT am)
abbrev abv:=af aac am
abbrev abw:=af (ai 7) am
abbrev abx:=af (ai 6) am
abbrev aby:=aE (c2 J5 aaw aah)
abbrev abz:=aE (c2 J5 aaw aag)
abbrev abA:=aE (c2 J5 aal aam)
abbrev abB:=aE (c2 J5 aal aag)
abbrev abC:=cK (.str [112,105,101,99,101,115])
abbrev abD:=c2 eF (ai 5) aav
abbrev abE:=c2 d7 (ai 6) aai
abbrev abF:=c2 d7 (ai 3) aai
abbrev abG:=c2 d7 (ai 2) aaR
abbrev abI:=c2 d7 (ai 1) aat
abbrev abJ:=Rc 2 (bw (z_ 4) (bw (z_ 5) fX))
abbrev abK:=cK (.str [112,108,97,105,110])
abbrev abL:=cK (.str [112,105,101,99,101])
abbrev abM:=af aaG aak
abbrev abN:=iO (ai 2) aad (c2 aI aaD aac)
abbrev abO:=c2 d7 (ai 1) (c2 d7 aaE aac)
abbrev abP:=af (c2 d7 (ai 3) (ai 0)) aaP
abbrev abQ:=af aax am
abbrev abR:=af (ai 3) aaO
abbrev abS:=af (ai 2) (af (ai 3) aa0)
abbrev abT:=cK (.int 24)
abbrev abU:=aJ 5 (c2 eF (ai 5) aae)
abbrev abV:=aJ 3 (c2 d7 (ai 2) aaf)
abbrev abW:=cK (.int 7)
abbrev abX:=iB (ai 0) (di aac) gJ
abbrev abZ:=aE (c2 J5 (ai 5) aav)
abbrev ab0:=c1 (uQ 602 1) (ai 0)
abbrev ab1:=c1 (uQ 602 0) (ai 0)
abbrev ab2:=af aaA aaj
def eU(C:CC)(Z:DD):Sx:=
 (aA (dq (aR (Z .G7) aaq))
  (aA (aJ 1 (bG (C .sized) aaq))
  (aA (K3 (jA (aE (c2 Ti aau (cK (.int 400)))) (aE (c2 Ti aaA abT))) (uG 1 (af (cK (.str Cn)) am)) cF)
  (br (c2 d7 aaE aaf)))))
def bY(C:CC)(D:DD):Sx:=(dq (aR (D .J0) (af (ai 3) aaF)))
def bK(C:CC)(D:DD)(Z:DD):Sx:=(gf (eI (gD 602 (Z .g_) (ai 0) (af (ai 4) aaj))) (z_ 5) (bY C D))
def dA(C:CC)(D:DD)(Z:DD):Sx:=
 (aA (aJ 3 (cN eP am))
  (aA (gf (eI (ai 1)) (z_ 4) (bK C D Z))
  abp))
def dD(C:CC):Sx:=(kF ab0 aaV (ai 2))
def cL(C:CC):Sx:=
 (aA (qW 602 0 (ai 0) aad)
  (aA (qW 602 1 (ai 0) lW)
  (gf (eI (ai 1)) (z_ 2) (dD C))))
def aM(C:CC)(Z:DD)(z:Bool):Sx:=(aA (aJ 4 (c2 J5 (ai 2) (c2 oT aa_ aac)))
  (aA (K3 (jA (aE (c2 R7 aaU (ai 1))) (jA (kD (bG (C .E_) (af aaK am))) (je (kD (ai 4)) (aE (c2 io (c2 d7 (ai 3) aae) aaz))))) (lZ z 2 (af (cN aV aaj) am)) cF)
  (aA (dq (aR (Z .k_) (af abF (af (cN aV aaj) (af aaK (af (c2 d7 (ai 3) aae) aak))))))
  (kF (ai 1) aaU (ai 3)))))
def fA(C:CC)(Z:DD)(z:Bool):Sx:=
 (aA (aJ 1 lW)
  (gf (An aaq) aaI (aM C Z z)))
def aQ(C:CC)(Z:DD):Sx:=
 (aA (aJ 3 aau)
  (aA (K3 (aE (c2 J5 (ai 3) aan)) (br (cN aV aak)) cF)
  (aA (K3 (aE (c2 J5 (ai 3) aao)) (br (cN aV (af (cN aV (af aao (af (bG (C .j_) ab2) (af aaW am)))) am))) cF)
  (aA (K3 (aE (c2 J5 (ai 3) aag)) (br (cN aV (af (gD 602 (Z .f9) (ai 0) aaP) am))) cF)
  (aA (K3 (aE (c2 J5 (ai 3) aah)) (aA (aJ 4 (gD 602 (Z .b_) (ai 0) (af aaW aaj)))
  (aA (aJ 5 (gD 602 (Z .b_) (ai 0) (af aaL aaj)))
  (br (cN aV (af (cN aV (af aah (af (bG (C .j_) ab2) (af (ai 4) aaF)))) am))))) cF)
  (aA (K3 (aE (c2 J5 (ai 3) aap)) (aA (aJ 6 (c2 d7 ab0 aaA))
  (br (gD 602 (Z .b_) (ai 0) (af abE (af (bG (C .o8) (af (ai 1) (af (ai 6) aaj))) am))))) cF)
  (aA (aJ 7 aaV)
  (br (gD 602 (Z .b_) (ai 0) (af (c2 d7 (ai 7) aac) (af (bG (C .q9) ab2) am)))))))))))
def cE(C:CC)(Z:DD):Sx:=(dq (aR (Z .k_) (af (c2 d7 (ai 8) aaf) (af (c2 aI (ai 7) (c2 d7 (ai 8) aad)) (af (c2 aI (ai 2) (c2 d7 (ai 8) aac)) abR)))))
def bH(C:CC)(D:DD)(Z:DD)(z:Bool):Sx:=(aA (aJ 7 (c2 aI (ai 1) (cN aV aaF)))
  (aA (K3 (kD (aR (D .K1) (af (ai 6) (af (ai 2) abR)))) (lZ z 2 abw) cF)
  (gf (eI (bG (C .v7) abx)) (z_ 8) (cE C Z))))
def fy(C:CC)(D:DD)(Z:DD)(z:Bool):Sx:=
 (gf (An aaq) aaB (bH C D Z z))
def dO(C:CC)(Z:DD):Sx:=
 (aA (aJ 3 (c2 aI (cK (.str [118])) (cN AL (af ab1 am))))
  (aA (qW 602 0 (ai 0) (c2 aI ab1 aac))
  (aA (aJ 4 (gD 602 (Z .b_) (ai 0) (af aaL (af (bG (C .q8) (af aaA (af (cN aV aas) aaj))) am))))
  (br (cN aV (af aag (af (ai 3) (af (bG (C .j_) (af aaW aaj)) (af (ai 4) (af aa5 am))))))))))
def eV(C:CC):Sx:=(kF (ai 0) (ai 4) (bG (C .j_) (af (ai 5) aas)))
def ft(C:CC):Sx:=
 (aA (gf (KR aaP) abJ (eV C))
  (br (ai 0)))
def qk(C:CC):Sx:=(aA (aJ 7 (bG (C .joined) aaj))
  (K3 (jA (BM (kD (cN mj (af (ai 7) (af (cK (.ty "tuple")) am))))) (aE (c2 QC (ai 7) (ai 5)))) aa9 cF))
def um(C:CC)(D:DD):Sx:=
 (aA (aJ 1 (bG (C .K6) (af (bG (C .D_) (af (ai 0) abb)) am)))
  (aA (aJ 2 (bG (C .G_) (af (aR (D .u6) (af (ai 0) (af (cN eP (af aad (af (cK (.int 30)) am))) aak))) (af (ai 1) (af (bG (C .D_) (af (ai 0) abv)) am)))))
  (aA (AA (Rc 2 (bw (z_ 3) (bw (z_ 4) fX))) (bG (C .I9) (af (ai 2) (af (c2 oT (cN gh aaj) aac) (af (c2 d7 (c2 d7 (ai 2) aa6) aai) (af aaz abv))))))
  (aA (K3 (jA (aE (c2 Ti (ai 3) (cK (.int 400)))) (aE (c2 Ti (ai 4) abT))) (br (bG (C .I6) aaj)) cF)
  (aA (aJ 5 (bG (C .O7) aaj))
  (aA (gf (hM (af aaf am)) (z_ 6) (qk C))
  aa1))))))
def lR(C:CC):Ex:=(c2 d7 (ai 1) (c2 eF (c2 aI (c2 aI (c2 gI (ai 2) (cK (.int 192))) (c2 lF aaS (ai 0))) (c2 lF (c2 lF aae (c2 gI (ai 3) aav)) (cN CG (af (c2 J5 (c2 eF (ai 2) aae) aad) am)))) (cK (.int 26))))
def eX(C:CC):Sx:=(aA (aJ 6 (cN wL (dH [1,0,5] (hM (af aav am)) cV (lR C))))
  (K3 (aE (c2 J5 (c2 eF (ai 0) aae) aad)) (dq (cM dZ bD (ai 4) (af (cM tK nO aa8 (af (iB (ai 6) gJ (di (c2 aI aac abD))) am)) am))) (K3 (aE (c2 J5 (c2 eF (ai 0) aae) aac)) (aA (iO (ai 6) (ai 3) (c2 d7 (ai 1) (c2 eF (c2 aI (c2 aI (c2 gI (ai 0) (cK (.int 192))) (c2 lF abW (ai 5))) aac) (cK (.int 26)))))
  (dq (cM dZ bD (ai 4) (af (cM tK nO aa8 (af (iB (ai 6) gJ (di (ai 2))) am)) am)))) (dq (cM dZ bD (ai 4) (af (iB (cM tK nO aa8 (af (c2 aI (iB (ai 6) (di abD) gJ) (iB (ai 6) gJ (di abD))) am)) gJ (di (c2 oT aav (c2 gI (ai 5) aav)))) am))))))
def kX(C:CC):Tx:=(aE (c2 R7 (ai 0) (ai 1)))
def lQ(C:CC):Ex:=(ai 0)
def iL(C:CC):Sx:=
 (aA (aJ 1 (cK (.str bT)))
  (aA (aJ 2 (c2 aI aac (c2 eF (c2 gI (ai 0) aae) aav)))
  (aA (aJ 3 (c2 eF (c2 gI (ai 0) abT) (ai 2)))
  (aA (aJ 4 (cN eP am))
  (aA (gf (hM (af aaN am)) (z_ 5) (eX C))
  (aA (aJ 7 (cN im (af (cK (.str [97,115])) (af (cK (.str [98,101,116,119,101,101,110])) (af aam (af (cK (.str [101,108,115,101])) (af (cK (.str [101,110,100])) (af (cK (.str [102,111,114])) (af (cK (.str [105,102])) (af (cK (.str [105,110])) (af abL (af aap (af (cK (.str [119,105,116,104])) am)))))))))))))
  (aA (K3 (jA (aE (c2 Tt (c1 jF (ai 4)) aaN)) (aE (c2 QC (cN Qu (dH [7] abm (kX C) (lQ C))) abq))) (br (cN im (af (cK (.str [97])) (af (cK (.str [98])) (af (cK (.str [97,98])) (af (cK (.str [98,97])) (af (cK (.str [105,116,101,109])) (af (cK (.str [105,116,101,109,115])) (af (cK (.str [99])) (af (cK (.str [120])) (af (cK (.str [120,121])) (af (cK (.str [121])) (af (cK (.str [114,111,119])) (af (cK (.str [114,111,119,115])) am)))))))))))))) cF)
  (br (ai 4)))))))))
def fT(C:CC):Sx:=
 (aA (aJ 3 aaE)
  (aA (K3 (jA (aE (c2 QC (c2 eF (ai 2) aav) aae)) (aE (c2 J5 aaK aaT))) (br (ai 0)) cF)
  (aA (aJ 4 (cN aV (af aag (af abo (af (iB aaK gJ (di aac)) (af (cN aV (af (cN aV (af aao (af (cN aV (af abo am)) (af abK am)))) am)) (af aa8 am)))))))
  (aA (aJ 5 (c2 rG (cN aV aaO) (c2 eF (c2 gI (ai 2) (cK (.int 96))) (cK (.int 130)))))
  (aA (K3 (aE (c2 J5 (c2 eF (c2 gI (ai 2) (cK (.int 16))) aaf) aac)) (aJ 5 (cN aV (af (cN aV (af aag (af aaL (af (iB aaK gJ (di aac)) (af (cN aV (af (cN aV (af aag (af aa5 (af (cN aV (af aaL am)) (af (ai 5) (af (cK (.str [44,32])) am)))))) am)) (af aa8 am)))))) am))) cF)
  (br (c2 aI (iB (ai 0) gJ (di aa6)) (cN aV (af (c2 aI (iB (ai 3) gJ (di aai)) (cN aV (af (c2 aI abF (ai 5)) am))) am)))))))))
def jh(C:CC):Ex:=aay
def hU(C:CC):Sx:=(aA (AA (Rc 2 (bw (z_ 11) (bw (z_ 12) fX))) (bG (C .I9) (af (ai 0) (af (c2 d7 (ai 10) aad) (af (c2 d7 (ai 10) aac) (af (c2 d7 (ai 10) aaf) (af (c2 aI (ai 4) aac) am)))))))
  (aA (aJ 5 (c2 aI (ai 5) (ai 11)))
  (aJ 6 (cN wA (af (ai 6) (af (ai 12) am))))))
def dh(C:CC):Sx:=(aA (aJ 8 abq)
  (aA (K3 (aE (c2 J5 abg aag)) (aJ 8 (cN im abe)) (K3 (aE (c2 J5 abg aah)) (aJ 8 (cN im (af (cN aV (af (ai 1) (af (c2 d7 (ai 7) aaf) aas))) abe))) (K3 (aE (c2 J5 abg aap)) (aA (aJ 9 (cM dZ nQ (cN Qu (dH [] aaM cV (jh C))) (af (c2 d7 (ai 7) aac) am)))
  (aJ 8 (cN im (af (cN aV (af (ai 9) (af (c2 d7 (c2 d7 (ai 0) (ai 9)) aai) (af (yy (aE (c2 Tv (c2 d7 (ai 7) aai) aaz)) aaz (cN aV (af (c2 d7 (ai 7) aai) (af (ai 1) aas)))) am)))) am)))) (K3 (aE (c2 J5 abg aam)) (aJ 8 (cN im (af (cN aV (af aaU (af abj (af aaK am)))) am))) cF))))
  (aA (aJ 5 (c2 aI (ai 5) aac))
  (aA (aJ 6 (cN wA (af (ai 6) aaO)))
  (gf (eI (ai 8)) (z_ 10) (hU C))))))
def mB(C:CC):Sx:=
 (aA (aJ 5 aad)
  (aA (aJ 6 aad)
  (aA (gf (eI (ai 2)) (z_ 7) (dh C))
  (br (cN aV (af (ai 5) abx))))))
def jy(C:CC)(D:DD):Sx:=(kF (ai 1) aaU (cN aV (af aaK (af (aR (D .j6) (af abF aaP)) am))))
def qH(C:CC)(D:DD):Sx:=
 (aA (aJ 1 lW)
  (aA (aJ 2 (cN eP abb))
  (aA (gf aaM (z_ 3) (jy C D))
  (br (aR (D .m6) (af (c2 d7 abO aac) (af (cK (.dct [])) (af (cN eP abb) am))))))))
def ii(C:CC):Sx:=
 (aA (K3 (aE (c2 Tt (ai 1) aa_)) (br (c2 d7 (ai 0) (ai 1))) cF)
  (br aad))
def iA(C:CC):Ex:=(c2 d7 (ai 1) (c2 eF (c2 aI (c2 gI (ai 2) aaS) (ai 0)) aaN))
def iw(C:CC):Ex:=aal
def ir(C:CC):Ex:=aal
def fM(C:CC)(D:DD):Sx:=(aA (aJ 7 (aR (D .G4) aaQ))
  (aA (aJ 8 (cN df (af (cN Qu (dH [2,7] (hM (af (c2 eF (ai 7) aaS) am)) cV (iA C))) am)))
  (aA (aJ 9 aaz)
  (aA (K3 (je (aE (c2 Ti (c2 eF (c2 gI (ai 7) (cK (.int 60))) aae) aad)) (aE (c2 Tt (ai 6) (c2 oT (ai 5) aac)))) (aJ 9 (c2 eF (c2 gI (ai 7) (cK (.int 180))) aai)) cF)
  (aA (aJ 10 (ug [(aat,(ai 8)),(abC,(cN nN aaO)),(aaR,(ai 9)),(aaX,(ai 2))]))
  (aA (iO (ai 1) aac (c2 oT (c2 aI aau (cK (.int 30))) (c2 lF aaN (cN CG (af (c2 Ti (ai 5) aaS) am)))))
  (aA (aJ 11 (aR (D .q_) abl))
  (aA (K3 (jA (aE (c2 J5 (ai 11) aaT)) (aE (c2 J5 (c2 eF (c2 gI (ai 7) (cK (.int 720))) aae) aac))) (aJ 11 (c2 aI (ai 11) (aR (D .q_) abl))) cF)
  (aA (aJ 12 (c2 d7 (ai 2) (c2 eF (c2 aI (c2 gI (ai 7) (cK (.int 2160))) (ai 6)) aaN)))
  (aA (K3 (tQ 4 (aE (c2 R7 (ai 12) (cN Qu (dH [] abm cV (iw C)))))) (aJ 12 (c2 d7 (cN im (af (cK (.str [102,105,114,115,116])) (af (cK (.str [115,101,99,111,110,100])) (af (cK (.str [116,104,105,114,100])) (af (cK (.str [102,111,117,114,116,104])) (af (cK (.str [102,105,102,116,104])) (af (cK (.str [115,105,120,116,104])) (af (cK (.str [115,101,118,101,110,116,104])) (af (cK (.str [101,105,103,104,116,104])) am))))))))) (ai 6))) cF)
  (aA (K3 (tQ 4 (aE (c2 R7 (ai 12) (cN Qu (dH [] abm cV (ir C)))))) (aJ 12 (c2 aI (ai 12) (cK (.str [113])))) cF)
  (aA (dq (cM dZ bD (ai 3) (af (aR (D .Oz) (af (ai 3) (af (cN aV (af abL (af (ai 12) (af (ai 8) (af (ai 9) (af (bG (C .K8) (af (ai 11) am)) am)))))) am))) am)))
  (dq (cM dZ bD (ai 4) (af (cN aV (af (ai 12) (af (cN gh (af (ai 8) am)) (af (ai 9) am)))) am)))))))))))))))
def gZ(C:CC)(D:DD):Sx:=
 (aA (aJ 3 (cN eP am))
  (aA (aJ 4 (cN eP am))
  (aA (aJ 5 (c2 d7 (cN im (af aac (af aaf (af aae (af aai (af aaS (af aae (af aai (af aav am))))))))) (c2 eF (c2 gI (aR (D .G4) aaQ) abW) aav)))
  (aA (gf (hM aaF) (z_ 6) (fM C D))
  abp))))
def jm(C:CC)(Z:DD):Sx:=
 (aA (vV lV (dq (lX (Z .C_) aaq)) aa1)
  aa9)
def jP(C:CC):Sx:=(kF (ai 2) (ai 3) (cN aV aas))
def oA(C:CC)(Z:DD):Sx:=
 (aA (aJ 1 aaE)
  (aA (aJ 2 lW)
  (aA (gf (eI aaW) (z_ 3) (jP C))
  (br (gD 602 (Z .b_) (Bj 602 (Z .d9) aaq) aar)))))
def dk(C:CC)(D:DD):Sx:=(aA (K3 (aE (c2 J5 aaw aao)) (aJ 4 (cN aV (af aao (af (bG (C .K9) abM) (af aaJ am))))) (K3 aby (aA (aJ 5 (aR (D .m6) (af aaJ aaP)))
  (aJ 4 (cN aV (af aah (af (bG (C .K9) abM) (af (ai 5) (af (aR (D .m6) (af aaY aaP)) am))))))) (K3 abz (aA (aJ 6 (c2 aI (cK (.str [118])) (cN AL (af aaD am))))
  (aA abN
  (aA (aJ 7 (cN iQ aak))
  (aA (kF (ai 7) aaG (cN aV abx))
  (aJ 4 (cN aV (af aag (af (ai 6) (af (bG (C .K9) (af aaJ aak)) (af (aR (D .m6) (af aaY (af (R4 (ai 7)) aaj))) (af aa4 am))))))))))) cF)))
  abf)
def iH(C:CC)(D:DD):Sx:=
 (aA (aJ 3 (cN eP am))
  (aA (gf aaM (z_ 4) (dk C D))
  (br (bG (C .K8) aas))))
def dv(C:CC)(D:DD):Ex:=(aR (D .j6) abP)
def aZ(C:CC)(D:DD):Sx:=(K3 (aE (c2 J5 aaw aap)) (aA (AA aaB (c2 d7 (ai 1) aaG))
  (aA (aJ 7 (aR (D .I7) (af (ai 6) (af (R4 (cN rH (af (ai 5) (af aaJ am)))) aaj))))
  (aA (K3 (je (aE (c2 io aa4 aaz)) (kD (bG (C .n8) abw))) (aJ 7 (aR (D .n_) (af (ai 7) (af aaY (af (aR (D .j6) (af aa4 aaP)) aaj))))) cF)
  (aJ 3 (c2 tE (ai 3) (cN nN abw)))))) (K3 abz (dq (cM dZ bD (ai 3) (af (c2 aI (iB (ai 4) gJ (di aae)) (cN aV (af (aR (D .j6) (af aaY aaP)) (af aa4 am)))) am))) (K3 aby (dq (cM dZ bD (ai 3) (af (c2 aI (iB (ai 4) gJ (di aaf)) (cN df (af (cN Qu (dH [1,2,4] aa7 cV (dv C D))) am))) am))) abf)))
def fG(C:CC)(D:DD):Sx:=
 (aA (aJ 3 (cN eP am))
  (aA (gf aaM (z_ 4) (aZ C D))
  abp))
def jL(C:CC):Sx:=
 (aA (iO (ai 1) aad (c2 aI aau aac))
  (aA (aJ 2 aau)
  (aA (aJ 3 (c2 aI (c2 lF (c2 lF (cK (.int 31)) (ai 2)) (ai 2)) (c2 lF (cK (.int 7919)) (ai 2))))
  (aA (K3 (aE (c2 Ti aa_ aad)) (aJ 3 (c2 aI (ai 3) (c2 lF (c2 d7 (ai 0) (c2 eF (ai 2) aa_)) (c2 aI aac (c2 gI (ai 2) aa_))))) cF)
  (br (c2 gI (c2 eF (c2 lF (ai 3) (cK (.int 48271))) (cK (.int 2147483647))) abW))))))
def lT(C:CC)(D:DD):Ex:=(aR (D .H_) (af (ai 1) (af (ai 2) abR)))
def my(C:CC)(D:DD):Sx:=
 (br (bG (C .K8) (af (cN Qu (dH [0,1,2,3] (hM (af (c2 eF (c2 gI (aR (D .G4) aaQ) aaS) aai) am)) cV (lT C D))) am)))
def oK(C:CC):Tx:=(aE (c2 R7 aal (cN aV (af aan (af aao (af aam am))))))
def pG(C:CC):Ex:=(ai 0)
def oz(C:CC)(D:DD):Sx:=
 (aA (aJ 2 (cN eP (af (cK (.int 500)) am)))
  (aA (dq (aR (D .B_) (af (c2 aI (ai 0) (cN im aak)) (af aa5 (af aa_ (af aaz (af aac aaj)))))))
  (aA (K3 (aE (c2 Ze aaD aad)) (br (ai 1)) cF)
  (br (c2 aI (iB (ai 1) gJ (di aai)) (cN aV (af (bG (C .K8) (af (cN Qu (dH [] (eI aa5) (oK C) (pG C))) am)) am)))))))
def eJ(C:CC):Sx:=(K3 (je (aE (c2 J5 aaD aan)) (je (aE (c2 QC (ai 1) abq)) (aE (c2 J5 (c2 d7 (c2 d7 (ai 1) aa6) aad) aan)))) (iO (ai 1) aa6 (cN aV (af aan (af (c2 aI (c2 d7 (c2 d7 (ai 1) aa6) aac) aaV) am)))) (dq (cM dZ bD (ai 1) aaj)))
def mx(C:CC):Sx:=
 (aA (aJ 1 (cN eP am))
  (aA (gf aaM (z_ 2) (eJ C))
  (br (cN df aak))))
def qG(C:CC):Sx:=
 (br (c2 aI (cM tN ya (ai 1) (af aal (af (cN aV (af aal am)) am))) abX))
def fY(C:CC)(D:DD):Ex:=(aR (D .I7) abP)
def jg(C:CC):Ex:=(bG (C .K9) aaQ)
def ew(C:CC)(D:DD):Sx:=(aA (K3 (aE (c2 J5 aaw aao)) (aJ 4 (cN aV (af aao (af (bG (C .K9) abM) (af aaJ am))))) (K3 aby (aJ 4 (c2 aI (cN aV (af aah (af (bG (C .K9) abM) am))) (cN df (af (cN Qu (dH [1,2,4] aa7 cV (fY C D))) am)))) (K3 abz (aA abN
  (aA (aJ 5 (c2 aI (cK (.str [35])) (cN AL (af aaD am))))
  (aA (aJ 6 (cN iQ aak))
  (aA (kF (ai 6) aaG (cN aV aaF))
  (aJ 4 (cN aV (af aag (af (ai 5) (af (bG (C .K9) (af aaJ aak)) (af (aR (D .I7) (af aaY (af (R4 (ai 6)) aaj))) (af aa4 am))))))))))) (K3 (aE (c2 J5 aaw aam)) (aJ 4 (cN aV (af aam (af (cN df (af (cN Qu (dH [1] (eI aaG) cV (jg C))) am)) am)))) cF))))
  abf)
def mA(C:CC)(D:DD):Sx:=
 (aA (aJ 3 (cN eP am))
  (aA (gf aaM (z_ 4) (ew C D))
  abp))
def iM(C:CC):Tx:=(kD (bG (C .n8) aaq))
def iY(C:CC):Ex:=(ai 0)
def bR(C:CC):Sx:=(aA (aJ 2 (cM tN ya aaC abu))
  (K3 (jA (aE (c2 J5 aau aam)) (aE (c2 CD (cN Qu (dH [] (eI (ai 2)) (iM C) (iY C))) abq))) aa1 cF))
def gG(C:CC):Sx:=
 (aA (gf aaM (z_ 1) (bR C))
  aa9)
def dK(C:CC)(D:DD):Ex:=(aR (D .n_) (af (c2 d7 (ai 4) (ai 0)) (af (ai 1) abr)))
def bW(C:CC)(D:DD):Sx:=(K3 (aE (c2 J5 aa3 aam)) (aJ 4 (c2 tE (ai 4) (cN nN (af (aR (D .I7) (af (ai 2) (af (R4 (cN rH (af (ai 1) (af (c2 d7 (ai 5) aac) am)))) aas))) am)))) (K3 (aE (c2 J5 aa3 aag)) (dq (cM dZ bD (ai 4) (af (c2 aI (iB (ai 5) gJ (di aae)) (cN aV (af (aR (D .n_) (af (c2 d7 (ai 5) aae) (af (ai 1) abr))) (af (c2 d7 (ai 5) aai) am)))) am))) (K3 (aE (c2 J5 aa3 aah)) (dq (cM dZ bD (ai 4) (af (c2 aI (iB (ai 5) gJ (di aaf)) (cN df (af (cN Qu (dH [1,2,3,5] aa7 cV (dK C D))) am))) am))) (dq (cM dZ bD (ai 4) aaF)))))
def hH(C:CC)(D:DD):Sx:=
 (aA (aJ 4 (cN eP am))
  (aA (gf aaM (z_ 5) (bW C D))
  (br (cN df aaO))))
def ig(C:CC)(D:DD):Sx:=
 (aA (aJ 4 (c2 gI (aR (D .G4) aaQ) aae))
  (aA (aJ 5 (c2 eF (ai 4) abn))
  (aA (aJ 6 (c2 gI (ai 4) abn))
  (aA (K3 abk abU cF)
  (aA (K3 (je (aE (c2 Ti (ai 5) aaS)) (aE (c2 Tt (ai 5) aav))) (br (aR (D .H9) (af (ai 0) (af (ai 1) (af (ai 2) (af (ai 3) abx)))))) cF)
  (aA (K3 (je abZ (je (aE (c2 io abG aaz)) (jA (aE (c2 J5 abG aad)) (aE (c2 QC (c2 d7 (ai 2) aat) aaT))))) (br (cN aV (af aam (af (aR (D .t_) (af (ai 0) (af (ai 1) (af (ai 2) (af abG am))))) am)))) cF)
  (aA (K3 (jA (aE (c2 J5 (ai 5) aad)) (jA abZ (aE (c2 J5 (c2 d7 (ai 2) aat) aaT)))) (br (cN aV (af aan (af (c2 d7 (cN im (af (cK (.str [97])) (af (cK (.str [123])) (af (cK (.str [10])) (af (cK (.str [60,98,62])) (af (cK (.str [125,125])) (af (cK (.str [32,126])) am))))))) (c2 eF (ai 6) (cK (.int 6)))) am)))) cF)
  (aA (aJ 7 (bG (C .w7) (af (aR (D .G4) aaQ) aaj)))
  (aA (K3 (aE (c2 Tt (ai 5) aae)) (br (cN aV (af aao (af (ai 7) (af (c2 d7 (cN im (af (cK (.str [119,111,114,100])) (af (cK (.str [110,117,109,98,101,114])) (af (cK (.str [113,117,111,116,101,100])) (af abK (af (cK (.str [108,105,110,101])) am)))))) (c2 eF (ai 6) aaS)) am))))) cF)
  (aA (K3 (aE (c2 Tt (ai 5) aaS)) (aA (aJ 8 (c2 d7 (c2 d7 (ai 2) aaX) (c2 eF (ai 6) aaN)))
  (aA (aJ 9 (aR (D .q_) (af (ai 0) (af (ai 1) (af (bG (C .G9) (af (ai 2) (af (cN aV (af (ai 8) am)) am))) aa2)))))
  (br (cN aV (af aag (af (ai 8) (af (ai 7) (af (ai 9) (af (c2 d7 (cN im (af aa8 (af (cK (.str [44,32])) (af (cK (.str [10])) am)))) (c2 eF (c2 gI (ai 6) aaN) aae)) am))))))))) cF)
  (aA (aJ 10 (aR (D .q_) abt))
  (br (cN aV (af aah (af (ai 7) (af (ai 10) (af (aR (D .q_) abt) am)))))))))))))))))
def kq(C:CC):Ex:=aay
def bt(C:CC)(D:DD):Sx:=(aA (iO (ai 5) aad (c2 oT aa3 aac))
  (aA (K3 (jA (aE (c2 Tt aa3 aad)) (aE (c2 Ti (ai 4) (cK (.int 40))))) (aA (iO (ai 5) aad aa6)
  Cc) cF)
  (K3 (aE (c2 J5 abh aag)) (dq (aR (D .B_) (af (ai 0) (af (c2 d7 (ai 6) aae) abS)))) (K3 (aE (c2 J5 abh aah)) (dq (aR (D .B_) (af (ai 0) (af (c2 aI (c2 d7 (ai 6) aaf) (c2 d7 (ai 6) aae)) abS)))) (K3 (aE (c2 J5 abh aap)) (aA (aJ 7 (cM dZ nQ (cN Qu (dH [] aaM cV (kq C))) (af (c2 d7 (ai 6) aac) am)))
  (aA (aJ 8 (yy (aE (c2 Tv abE aaz)) aaz (cN aV (af abE abr))))
  (dq (aR (D .B_) (af (ai 0) (af (c2 d7 (c2 d7 (ai 0) (ai 7)) aai) (af (ai 7) (af (ai 8) aa0)))))))) (K3 (je (aE (c2 J5 abh aam)) (aE (c2 io (ai 3) aaz))) (dq (aR (D .B_) (af (ai 0) (af abj (af aaU (af aaK aa0)))))) cF))))))
def xu(C:CC)(D:DD):Sx:=
 (gf (eI (ai 1)) (z_ 6) (bt C D))
def iJ(C:CC)(D:DD):Sx:=(kF (ai 1) aaV (aR (D .i_) (af (c2 d7 (ai 2) aai) aak)))
def qF(C:CC)(D:DD):Sx:=
 (aA (aJ 1 lW)
  (aA (gf aaM (z_ 2) (iJ C D))
  (aA (aJ 3 abO)
  (br (cN aV (af abj (af aaU am)))))))
def fj(C:CC):Sx:=
 (K3 (je (aE (c2 J5 aau aan)) (je (kD (ai 0)) (aE (c2 J5 (c2 d7 aaE aad) aan)))) (iO (ai 0) aa6 (cN aV (af aan (af (c2 aI (c2 d7 aaE aac) aaA) am)))) (dq (cM dZ bD (ai 0) aak)))
def jv(C:CC):Ex:=(c2 d7 (c2 d7 (ai 1) aaX) (c2 eF (c2 aI (c2 gI (ai 2) (cK (.int 97))) (c2 lF aaS (ai 0))) aaN))
def jk(C:CC):Sx:=
 (aA (aJ 2 (cN df (af (cN Qu (dH [1,0] (hM (af (c2 d7 (cN im (af aad (af aad (af aac (af aaf (af aae abv)))))) (c2 eF (c2 gI (ai 0) (cK (.int 13))) (cK (.int 6)))) am)) cV (jv C))) am)))
  (br (c2 aI (cN aV (af (c2 d7 abI (c2 eF (ai 0) (cN gh (af abI am)))) am)) (ai 2))))
def gV(C:CC):Tx:=(jA (aE (c2 J5 aay aad)) (aE (c2 QC abI aaT)))
def gY(C:CC):Ex:=(ai 0)
def fZ(C:CC)(D:DD):Sx:=
 (aA (aJ 5 (cN Qu (dH [2] (eI (c2 d7 (ai 2) abC)) (gV C) (gY C))))
  (aA (K3 (aE (c2 J5 (ai 5) abq)) (br (cN aV (af aan (af (cK (.str [110,111,110,101])) am)))) cF)
  (aA (AA (Rc 3 (bw (z_ 6) (bw (z_ 7) (bw (z_ 8) fX)))) (c2 d7 (ai 5) (c2 eF (ai 4) (cN gh aaF))))
  (aA (aJ 9 (aR (D .t_) (af (ai 0) (af (ai 1) (af (ai 2) abw)))))
  (aA (K3 (aE (c2 Tv (ai 8) aaz)) (br (cN aV (af aap (af (ai 6) (af (ai 9) (af aaz (af aaz am))))))) cF)
  (aA (aJ 10 (c2 eF (c2 gI (ai 4) aav) abn))
  (aA (aJ 11 (cN df (af (iB (c2 d7 (ai 2) aaX) (di (ai 10)) (di (c2 aI (ai 10) (ai 8)))) am)))
  (br (cN aV (af aap (af (ai 6) (af (ai 9) (af (ai 11) (af (aR (D .q_) (af (ai 0) (af (ai 1) (af (bG (C .G9) (af (ai 2) (af (ai 11) am))) aa2)))) am))))))))))))))
def iX(C:CC)(D:DD):Ex:=(bG (C .w7) (af (aR (D .G4) abr) aak))
def iG(C:CC)(D:DD):Sx:=
 (br (cN df (af (cN Qu (dH [2,0,1] (hM aas) cV (iX C D))) am)))
def kA(C:CC):Sx:=
 (aA (aJ 2 (cN iQ aaq))
  (aA (kF (ai 2) aat (c2 aI (c2 d7 (ai 0) aat) (ai 1)))
  (br (R4 (ai 2)))))
def jn(C:CC):Sx:=
 (br (c2 Tt (c1 jF (ai 0)) aa_))
def cO(C:CC)(D:DD):Sx:=(aJ 2 (bG (C .v5) (af (ai 2) (af (aR (D .o7) (af (ai 3) aak)) am))))
def fO(C:CC)(D:DD):Sx:=
 (aA (aJ 2 (cK (.tup mL)))
  (aA (gf aaM (z_ 3) (cO C D))
  (br (ai 2))))
def fQ(C:CC)(Z:DD):Sx:=
 (aA (aJ 2 aaA)
  (aA abV
  (br (cN aV (af (R4 (lX (Z .m7) (af (cN iQ (af abj am)) (af aaD aaQ)))) (af aaU am))))))
def eh(C:CC)(Z:DD):Sx:=
 (aA (aJ 3 (yy (aE (c2 Tv aaZ aaz)) aaz (cN aV (af aax (af aaZ aaj)))))
  (br (cN aV (af (R4 (lX (Z .m7) (af lW (af aaW (af aaH aaj))))) aas))))
def jj(C:CC):Sx:=
 (br (c2 aI (c2 d7 aau aal) abX))
def cZ(C:CC):Sx:=(K3 (aE (c2 jr aaw (ai 1))) aa1 cF)
def bU(C:CC):Sx:=
 (aA (gf (eI (bG (C .K7) aaq)) (z_ 4) (cZ C))
  (aA (K3 abd (br (Vv (c2 jr aay (ai 3)) (bG (C .o9) (af (ai 0) (af (c2 d7 (ai 3) aay) am))))) cF)
  (aA (K3 abA (br (Vv (c2 Tv (ai 2) aaz) (c2 QC (cN gh (af aay am)) (ai 2)))) cF)
  aa9)))
def bL(C:CC):Sx:=
 (aA (K3 abB (br (cN im (af (cN aV (af aaT (af (cN aV (af aay am)) abQ))) am))) cF)
  (aA (K3 (aE (c2 J5 aal aah)) (br (cN im (af (cN aV (af (cN aV abb) (af aaT (af aaH am)))) (af (cN aV (af (cN aV abv) (af aaT abQ))) am)))) cF)
  (aA (K3 (je abd (aE (c2 io aaZ aaz))) (br (cN im (af (cN aV (af aaT (af aax (af aaZ am)))) am))) cF)
  (br abq))))
def gF(C:CC):Sx:=
 (br (cN aV (af (c2 aI aal aau) (af (cN wA (af aay (af aaA am))) (af (c2 aI aaH aaW) (af (cN wA (af aax (af aaL am))) am))))))
def bh(C:CC)(D:DD):Sx:=
 (aA (K3 abB (br (bG (C .m9) (af (aR (D .i_) (af aax aak)) am))) cF)
  (aA (K3 (aE (c2 J5 aal aah)) (br (bG (C .m9) (af (aR (D .i_) (af (c2 aI aaH aax) aak)) am))) cF)
  (aA (K3 abd (br (bG (C .m9) (af (aR (D .m_) aaQ) am))) cF)
  (aA (K3 abA (br (cN aV (af aac (af aac (af aac abv))))) cF)
  (br (cN aV (af aac (af aac (af aad abb)))))))))
def fP(C:CC):Sx:=
 (aA (aJ 3 (cN iQ (af aaD am)))
  (aA (kF (ai 3) (ai 0) (ai 1))
  (br (cN aV (af (R4 (ai 3)) (af aaV am))))))
def dT(C:CC):Sx:=
 (aA (K3 (aE (c2 J5 aal aan)) (br aaT) cF)
  (aA (K3 abB (br (cN aV (af aaH am))) cF)
  (aA (K3 abd (br aaH) cF)
  (aA (K3 abA (br aay) cF)
  (br (cN aV (af aay am)))))))
def bE(C:CC):Sx:=
 (aA (K3 (aE (c2 QC (cN gh (af aaH am)) (cN gh (af aaW am)))) aa1 cF)
  (aA (K3 (jA (aE (c2 Tv aaL aaz)) (aE (c2 Tv aax aaz))) (br (Vv (c2 io aaL aaz) (c2 io aax aaz))) cF)
  (br (Vv (c2 QC (cN gh abQ) aaL) (bG (C .E_) abQ)))))
def eM(C:CC):Sx:=
 (aA (aJ 1 (yy (kD aaH) (c2 aI aax aac) aad))
  (br (cN aV (af (c2 aI aal aac) (af (c2 aI aay aac) (af aaH aak))))))
def bF(C:CC)(D:DD):Sx:=
 (aA (aJ 2 (c2 d7 (ai 1) aay))
  (aA abV
  (aA (K3 (jA (aE (c2 Tv aaZ aaz)) (aE (c2 J5 (ai 3) aad))) (br (cN aV (af aaD (af aaV (af aad abb))))) cF)
  (aA (aJ 4 (aR (D .i_) (af aaZ aak)))
  (aA (aJ 5 (yy (kD aaJ) (c2 aI (c2 d7 (ai 2) aae) aaY) aad))
  (br (cN aV (af (c2 aI aaD (c2 lF (ai 3) aaw)) (af (cN wA (af aaV (af (c2 aI (c2 d7 (ai 2) aae) aaG) am))) (af (c2 lF (ai 3) aaJ) aaF))))))))))
def FL:Nat->CC×DD×DD
 |0=>(fun _ _=>.bad,fun _ _ _=>.bad,fun _ _ _=>.bad)
 |k+1=>(fun f ps=>match f with
  |.law=>bz (um (FL k).1 (FL k).2.1) 1 8 ps
  |.K6=>bz (iL (FL k).1) 1 8 ps
  |.G_=>bz (fT (FL k).1) 3 6 ps
  |.I9=>bz (mB (FL k).1) 5 13 ps
  |.O7=>bz (qH (FL k).1 (FL k).2.1) 1 4 ps
  |.D_=>bz (ii (FL k).1) 2 2 ps
  |.I6=>bz (jm (FL k).1 (FL k).2.2) 1 1 ps
  |.joined=>bz (oA (FL k).1 (FL k).2.2) 1 4 ps
  |.K8=>bz (mx (FL k).1) 1 3 ps
  |.K9=>bz (qG (FL k).1) 2 2 ps
  |.n8=>bz (gG (FL k).1) 1 3 ps
  |.sized=>bz (qF (FL k).1 (FL k).2.1) 1 4 ps
  |.w7=>bz (jk (FL k).1) 2 3 ps
  |.G9=>bz (kA (FL k).1) 2 3 ps
  |.E_=>bz (jn (FL k).1) 1 1 ps
  |.q9=>bz (fQ (FL k).1 (FL k).2.2) 2 4 ps
  |.o8=>bz (eh (FL k).1 (FL k).2.2) 3 4 ps
  |.j_=>bz (jj (FL k).1) 2 2 ps
  |.v7=>bz (bL (FL k).1) 1 1 ps
  |.v5=>bz (gF (FL k).1) 2 2 ps
  |.q8=>bz (fP (FL k).1) 3 4 ps
  |.K7=>bz (dT (FL k).1) 1 1 ps
  |.o9=>bz (bE (FL k).1) 2 2 ps
  |.m9=>bz (eM (FL k).1) 1 2 ps
  |_=>.bad,fun f ps h=>match f with
  |.u6=>dY (gZ (FL k).1 (FL k).2.1) 3 13 ps h
  |.m6=>dY (iH (FL k).1 (FL k).2.1) 3 8 ps h
  |.j6=>dY (fG (FL k).1 (FL k).2.1) 3 8 ps h
  |.G4=>dY (jL (FL k).1) 2 4 ps h
  |.q_=>dY (my (FL k).1 (FL k).2.1) 4 4 ps h
  |.Oz=>dY (oz (FL k).1 (FL k).2.1) 2 3 ps h
  |.I7=>dY (mA (FL k).1 (FL k).2.1) 3 7 ps h
  |.n_=>dY (hH (FL k).1 (FL k).2.1) 4 6 ps h
  |.H_=>dY (ig (FL k).1 (FL k).2.1) 4 11 ps h
  |.B_=>dY (xu (FL k).1 (FL k).2.1) 6 9 ps h
  |.J0=>dY (fj (FL k).1) 2 2 ps h
  |.H9=>dY (fZ (FL k).1 (FL k).2.1) 5 12 ps h
  |.t_=>dY (iG (FL k).1 (FL k).2.1) 4 4 ps h
  |.i_=>dY (fO (FL k).1 (FL k).2.1) 2 4 ps h
  |.K1=>dY (bU (FL k).1) 4 5 ps h
  |.o7=>dY (bh (FL k).1 (FL k).2.1) 2 2 ps h
  |.m_=>dY (bF (FL k).1 (FL k).2.1) 2 6 ps h
  |_=>.bad,fun f ps h=>match f with
  |.C_=>oP (eU (FL k).1 (FL k).2.2) 1 2 ps h
  |.b_=>gH (dA (FL k).1 (FL k).2.1 (FL k).2.2) 3 6 ps h
  |.d9=>xM (cL (FL k).1) 2 3 ps h
  |.G7=>oP (fA (FL k).1 (FL k).2.2 (Nat.ble 2 (dl k))) 1 5 ps h
  |.g_=>gH (aQ (FL k).1 (FL k).2.2) 3 8 ps h
  |.k_=>oP (fy (FL k).1 (FL k).2.1 (FL k).2.2 (Nat.ble 2 (dl k))) 5 9 ps h
  |.f9=>gH (dO (FL k).1 (FL k).2.2) 3 5 ps h
  |.m7=>gH (ft (FL k).1) 4 6 ps h
  |_=>.bad)
abbrev X_(k:Nat):DD:=(FL k).2.2
abbrev F(k:Nat):CC:=(FL k).1
abbrev L(k:Nat):DD:=(FL k).2.1
set_option genInjectivity false in
set_option genSizeOf false in
structure Sys(G:SC) where
 adr:Fn->Addr
 fd:Fn->FuncData
 Rq:Nat->Addr
 ok:∀f,Vh G.K (qe f) (xV f) (sL f) (adr f) (fd f)
 bi:∀f,jM G.K (fd f) (kZ f) []
 m:∀f,DF f=true->G.mg (qe f)=some (.ref (adr f))
 n:∀i,G.mg (IR i)=none
 K4:∃t,G.mg "MOST_PUT_IN"=some (.int 400 t)
 v9:∃t,G.mg "MOST_PUT_IN_DEPTH"=some (.int 24 t)
 Oo:GV G "NOTHING" mL
 PN:G.T 1=some (Rq 1)
 PX:G.mg "TooMany"=some (.ref (Rq 1))
 QS:G.T 2=some (Rq 2)
 QW:G.mg "BadName"=some (.ref (Rq 2))
 Ol:G.T 602=some (Rq 602)
 Rb:G.mg "Joiner"=some (.ref (Rq 602))
 L_:Cls G.K (Rq 602)
 Q_:∀f∈Sg 602,vG G.K (Rq 602) f
 Ra:Mk G.K (Rq 602) (adr .d9)
 M9:sK G.K (Rq 602) "nodes_put_in" (adr .b_)
 Ow:sK G.K (Rq 602) "put_in" (adr .g_)
 N6:sK G.K (Rq 602) "loop_put_in" (adr .f9)
 N_:W.excIn G.K (Rq 1) [.type "ValueError",.type "Exception",.type "BaseException",.type "object"] "ValueError.__new__"=true
 A_:W.exmOne G.K (.ref (Rq 1)) (.ref (Rq 1))=some true
 QM:Xa G.K (Rq 2) (adr .j9) "at"
section
variable{S:SC}{k:Nat}{X:Cx}
theorem tj(Y:Sys S):∀C Ca,lV C=true->S.T C=some Ca->W.exmOne S.K (.ref Ca) (.ref (Y.Rq 1))=some true:=by
 intro C Ca h ha;unfold lV at h;split at h
 ·cases Y.PN.symm.trans ha;exact Y.A_
 ·cases h
theorem gN(Y:Sys S)(h1:X.toSC=S:=by rfl):OC X 602:=by subst h1;exact⟨_,Y.Ol,Y.L_,Y.Q_⟩
theorem xz(Y:Sys S)(h1:X.toSC=S:=by rfl):ZX X 1 "TooMany":=by subst h1;exact⟨_,_,_,_,_,_,_,_,_,adZ,by decide+kernel,adZ,Y.N_,Y.PN,Y.PX⟩
theorem sc:∀f,mD (sZ f) (kZ f) (aX (sL f)):=fun f=>by cases f<;>exact⟨rfl,rfl,rfl,by decide+kernel,rfl,by decide+kernel,by decide+kernel⟩
theorem qL(Y:Sys S)(h1:X.toSC=S:=by rfl):ZI X 2 "BadName":=by subst h1;exact⟨_,_,_,_,Y.QS,Y.QW,DU (Y.ok .j9) (sc .j9) rfl rfl rfl rfl,Y.QM,Y.bi .j9⟩
def Wi:Fn->Nat
 |.b_=>602
 |.g_=>602
 |.f9=>602
 |.d9=>602
 |_=>0
def ME:Fn->Bool
 |.b_=>true
 |.g_=>true
 |.f9=>true
 |_=>false
def MF:Fn->Bool
 |.d9=>true
 |_=>false
def ND:Fn->Bool
 |_=>false
def Z8:Fn->Str
 |.d9=>"Joiner"
 |_=>""
structure Tb(Y:Sys S)(k:Nat):Prop where
 p:∀f,TQ S (dl k) (Y.adr f) (Y.fd f) (kZ f) (F k f)
 l:∀f,Ru S true (dl k) (Y.adr f) (Y.fd f) (kZ f) (L k f)
 x:∀f,Ru S true (dl k) (Y.adr f) (Y.fd f) (kZ f) (X_ k f)
 h:∀f,ND f=true->Ru S false (dl k) (Y.adr f) (Y.fd f) (kZ f) (X_ k f)
structure Bu(Y:Sys S)(k:Nat)(A:Around):Prop extends Tb Y k where
 hr:fm (dl k+1) A
variable{Y:Sys S}{A:Around}{e o:Expr}{es:List Expr}{fo:Ex}{fs:Ax}{pos p0 apos:Pos}{x m:Str}{pl:Sem Bool}
theorem Bu.r(B:Bu Y k A):fm (dl k) A:=B.hr.mono (acS _)
theorem om(Y:Sys S)(f:Fn)(h:ME f=true):∃Ca,S.T (Wi f)=some Ca/\Cls S.K Ca/\sK S.K Ca (qe f) (Y.adr f)/\qe f∉Sg (Wi f):=by
 cases f with
 |b_=>exact⟨_,Y.Ol,Y.L_,Y.M9,by decide⟩
 |g_=>exact⟨_,Y.Ol,Y.L_,Y.Ow,by decide⟩
 |f9=>exact⟨_,Y.Ol,Y.L_,Y.N6,by decide⟩
 |_=>cases h
theorem oi(Y:Sys S)(f:Fn)(h:MF f=true):∃Ca,S.T (Wi f)=some Ca/\Mk S.K Ca (Y.adr f)/\S.mg (Z8 f)=some (.ref Ca):=by
 cases f with
 |d9=>exact⟨_,Y.Ol,Y.Ra,Y.Rb⟩
 |_=>cases h
theorem zc(B:Bu Y k A)(f:Fn)(ha:RA X (e::es) fs)(h1:X.toSC=S:=by rfl)(h2:X.A=A:=by rfl)(hx:qe f=x:=by rfl)(hp:DF f=true:=by rfl)(hg:Gl X x:=by rfl)(hc:X.calm=true:=by rfl)(P0:nD0 x:=by decide)(he:sE0 X e es:=by rfl)(Ov:sP0 X es pos:=by rfl):RE X (.Call (.Name x p0) (e::es) [] pos) (bG (F k f) fs):=by subst h1 h2 hx;exact Ff ⟨_,_,_,_,B.p f,B.r,Y.m f hp,(Y.ok f).kp,Y.bi f⟩ hg ha hc P0 he Ov
theorem zd(B:Bu Y k A)(f:Fn)(ha:RA X (e::es) fs)(h1:X.toSC=S:=by rfl)(h2:X.A=A:=by rfl)(hx:qe f=x:=by rfl)(hp:DF f=true:=by rfl)(hg:Gl X x:=by rfl)(hc:X.calm=true:=by rfl)(P0:nD0 x:=by decide)(he:sE0 X e es:=by rfl)(Ov:sP0 X es pos:=by rfl):RE X (.Call (.Name x p0) (e::es) [] pos) (aR (L k f) fs):=by subst h1 h2 hx;exact wf ⟨_,_,_,_,_,B.l f,B.r,fun _=>hc,Y.m f hp,(Y.ok f).kp,Y.bi f⟩ hg ha P0 he Ov
theorem zx(B:Bu Y k A)(f:Fn)(ha:RA X (e::es) fs)(h1:X.toSC=S:=by rfl)(h2:X.A=A:=by rfl)(hx:qe f=x:=by rfl)(hp:DF f=true:=by rfl)(hg:Gl X x:=by rfl)(hc:X.calm=true:=by rfl)(P0:nD0 x:=by decide)(he:sE0 X e es:=by rfl)(Ov:sP0 X es pos:=by rfl):RE X (.Call (.Name x p0) (e::es) [] pos) (aR (X_ k f) fs):=by subst h1 h2 hx;exact wf ⟨_,_,_,_,_,B.x f,B.r,fun _=>hc,Y.m f hp,(Y.ok f).kp,Y.bi f⟩ hg ha P0 he Ov
theorem zh(B:Bu Y k A)(f:Fn)(ha:RA X (e::es) fs)(h1:X.toSC=S:=by rfl)(h2:X.A=A:=by rfl)(hx:qe f=x:=by rfl)(hp:DF f=true:=by rfl)(hg:Gl X x:=by rfl)(hc:X.calm=true:=by rfl)(P0:nD0 x:=by decide)(he:sE0 X e es:=by rfl)(Ov:sP0 X es pos:=by rfl):RE X (.Call (.Name x p0) (e::es) [] pos) (lX (X_ k f) fs):=by subst h1 h2 hx;exact Ci ⟨_,_,_,_,_,B.x f,B.r,fun _=>hc,Y.m f hp,(Y.ok f).kp,Y.bi f⟩ hg ha P0 he Ov
theorem zo(B:Bu Y k A)(f:Fn)(ho:RE X o fo)(ha:RA X (e::es) fs)(h1:X.toSC=S:=by rfl)(h2:X.A=A:=by rfl)(hx:qe f=m:=by rfl)(hp:ME f=true:=by rfl)(hc:X.calm=true:=by rfl)(he:sE0 X e es:=by rfl)(Ov:sP0 X es pos:=by rfl)(ht:eval (.Call (.Attribute o m apos) (e::es) [] pos) X.env=(do
   let ov <- eval o X.env
   standAt apos.atName
   let(f,first) <- holding [ov] (getMethod ov m pl)
   callWith pos f first (backTo pos (starEach (e::es) X.env)) (backToKw pos (keywordEach [] X.env))):=by rfl):RE X (.Call (.Attribute o m apos) (e::es) [] pos) (gD (Wi f) (X_ k f) fo fs):=by
 subst h1 h2 hx;obtain⟨_,a,b,c,d⟩:=om Y f hp;exact Cg (pl:=pl) ⟨_,_,_,_,_,_,a,b,c,d,B.x f,B.r,fun _=>hc,Y.bi f⟩ ho ha he Ov ht
theorem zk(B:Bu Y k A)(f:Fn)(ha:RA X (e::es) fs)(h1:X.toSC=S:=by rfl)(h2:X.A=A:=by rfl)(hx:Z8 f=x:=by rfl)(hp:MF f=true:=by rfl)(hg:Gl X x:=by rfl)(hc:X.calm=true:=by rfl)(P0:nD0 x:=by decide)(he:sE0 X e es:=by rfl)(Ov:sP0 X es pos:=by rfl):RE X (.Call (.Name x p0) (e::es) [] pos) (Bj (Wi f) (X_ k f) fs):=by subst h1 h2 hx;obtain⟨_,a,b,c⟩:=oi Y f hp;exact IF ⟨_,_,_,_,_,_,a,b,B.x f,B.hr,fun _=>hc,c,Y.bi f⟩ hg ha P0 he Ov
end
def RR{S:SC}(Y:Sys S)(c:Bool)(k:Nat)(f:Fn)(b:Sx):Prop:=∀(X:Cx)(cd:Value)(A:Around)(s:Shared),X.toSC=S->fm (dl k+1) (A.deeper (envOfC (xV f) (aX (sL f)) s.heap.objs.size (Y.adr f) cd))->S5 (kt c X (sZ f) (xV f) (aX (sL f)) (Y.adr f) cd A s) (iF (sL f)) b
section
variable{S:SC}{Y:Sys S}{c:Bool}{k:Nat}{f:Fn}{b:Sx}
theorem rz(T:Tb Y k)(h:∀(X:Cx)(Y:Sys X.toSC)(cd:Value)(A:Around)(s:Shared),Bu Y k (kt c X (sZ f) (xV f) (aX (sL f)) (Y.adr f) cd A s).A->(kt c X (sZ f) (xV f) (aX (sL f)) (Y.adr f) cd A s).A.units+64<cLine->(∀i,X.mg (IR i)=none)->S5 (kt c X (sZ f) (xV f) (aX (sL f)) (Y.adr f) cd A s) (iF (sL f)) b):RR Y c k f b:=fun X cd A s e hr=>by subst e;exact h X Y cd A s ⟨T,hr⟩ (hr.mono (acS _)).units Y.n
theorem fp(h:RR Y true k f b):TQ S (dl (k+1)) (Y.adr f) (Y.fd f) (kZ f) (bz b (kZ f).length (sZ f).length):=GF (Y.ok f) (sc f) h
theorem fl(h:RR Y c k f b):Ru S c (dl (k+1)) (Y.adr f) (Y.fd f) (kZ f) (dY b (kZ f).length (sZ f).length):=qz (Y.ok f) (sc f) h MS
theorem fg(h:RR Y c k f b):Ru S c (dl (k+1)) (Y.adr f) (Y.fd f) (kZ f) (oP b (kZ f).length (sZ f).length):=qz (Y.ok f) (sc f) h HA
theorem fh(h:RR Y c k f b):Ru S c (dl (k+1)) (Y.adr f) (Y.fd f) (kZ f) (gH b (kZ f).length (sZ f).length):=qz (Y.ok f) (sc f) h MU
theorem fi(h:RR Y c k f b):Ru S c (dl (k+1)) (Y.adr f) (Y.fd f) (kZ f) (xM b (kZ f).length (sZ f).length):=qz (Y.ok f) (sc f) h MT
end
section
variable{S:SC}{Y:Sys S}{k:Nat}(T:Tb Y k)
include T
theorem uH:RR Y true k .C_ (eU (F k) (X_ k)):=rz T fun X Y _ _ _ B hu n=>(aj (bP (zx B .G7 (ra1 (rv 0))))
  (aj (aS (zc B .sized (ra1 (rv 0))))
  (aj (aP (RW.rt (hZ (bn sY (bf _) (ak (rv 1) ah) (ZV Y.K4)) (fR (bn sY (bf _) (ak (rv 1) ah) (ZV Y.v9))))) (au (Cd (xz Y) rfl (ra1 rst))) aK)
  (zr (ak (ak (rv 0) (gv ah)) ah)))))
theorem jU:RR Y true k .b_ (dA (F k) (L k) (X_ k)):=rz T fun X Y _ _ _ B hu n=>(aj (aS (fB bX))
  (aj (zf (bQ (rv 1)) aY (au (zf (bQ (zo B .g_ (rv 0) (ag (rv 4) (ra1 (rv 2))))) aY (au (bP (zd B .J0 (ag (rv 3) (ra1 (rv 5)))))))))
  (zr (zt eQ (n .tuple) (ra1 (rv 3))))))
theorem mO:RR Y true k .d9 (cL (F k)):=rz T fun X Y _ _ _ B hu n=>(aj (xN (gN Y) rfl (rv 0) ah)
  (aj (xN (gN Y) rfl (rv 0) mc)
  (au (zf (bQ (rv 1)) aY (au (gX (uM (gN Y) rfl (rv 0)) (ak (rv 2) ah) (rv 2)))))))
theorem sO:RR Y true k .G7 (fA (F k) (X_ k) (Nat.ble 2 (dl k))):=rz T fun X Y _ _ _ B hu n=>(aj (aS mc)
  (au (zf (yT rfl (n .enumerate) (ra1 (rv 0))) (mP rfl (du aY (du aY jX))) (aj (aS (req hu (rv 2) (jp (zl (n .len) (rv 0)) ah)))
  (aj (aP (RW.rt (hZ (bn (CM hu) (by with_unfolding_all rfl) (ak (rv 3) ah) (rv 1)) (hZ (jV (zc B .E_ (ra1 (ak (rv 3) ah)))) (fR (RW.rt (ik (jV (rv 4)) (iC (bn mT (bf _) (ak (rv 3) ah) de)))))))) (au (tx (qL Y) B.r rfl (ra1 (ay (ra1 (rv 2)))))) aK)
  (aj (bP (zx B .k_ (ag (ak (rv 3) ah) (ag (ay (ra1 (rv 2))) (ag (ak (rv 3) ah) (ag (ak (rv 3) ah) (ra1 (rv 1))))))))
  (au (gX (rv 1) (ak (rv 3) ah) (rv 3)))))))))
theorem oO:RR Y true k .g_ (aQ (F k) (X_ k)):=rz T fun X Y _ _ _ B hu n=>(aj (aS (ak (rv 1) ah))
  (aj (aP (NT hu (rv 3) rst) (zr (ay (ra1 (rv 1)))) aK)
  (aj (aP (NT hu (rv 3) rst) (zr (ay (ra1 (ay (ag rst (ag (zc B .j_ (ag (ak (rv 1) ah) (ra1 (rv 2)))) (ra1 (ak (rv 1) ah)))))))) aK)
  (aj (aP (NT hu (rv 3) rst) (zr (ay (ra1 (zo B .f9 (rv 0) (ag (rv 1) (ra1 (rv 2))))))) aK)
  (aj (aP (NT hu (rv 3) rst) (aj (aS (zo B .b_ (rv 0) (ag (ak (rv 1) ah) (ra1 (rv 2)))))
  (aj (aS (zo B .b_ (rv 0) (ag (ak (rv 1) ah) (ra1 (rv 2)))))
  (zr (ay (ra1 (ay (ag rst (ag (zc B .j_ (ag (ak (rv 1) ah) (ra1 (rv 2)))) (ag (rv 4) (ra1 (rv 5))))))))))) aK)
  (aj (aP (NT hu (rv 3) rst) (aj (aS (ak (uM (gN Y) rfl (rv 0)) (ak (rv 1) ah)))
  (zr (zo B .b_ (rv 0) (ag (ak (rv 6) ah) (ra1 (zc B .o8 (ag (rv 1) (ag (rv 6) (ra1 (rv 2)))))))))) aK)
  (aj (aS (ak (rv 2) ah))
  (zr (zo B .b_ (rv 0) (ag (ak (rv 7) ah) (ra1 (zc B .q9 (ag (ak (rv 1) ah) (ra1 (rv 2)))))))))))))))
theorem sN:RR Y true k .k_ (fy (F k) (L k) (X_ k) (Nat.ble 2 (dl k))):=rz T fun X Y _ _ _ B hu n=>(au (zf (yT rfl (n .enumerate) (ra1 (rv 0))) (mP rfl (du aY (du aY jX))) (aj (aS (aH (rv 1) (ay (ra1 (rv 5)))))
  (aj (aP (jV (zd B .K1 (ag (rv 6) (ag (rv 2) (ag (rv 3) (ra1 (rv 4))))))) (au (tx (qL Y) B.r rfl (ra1 (rv 7)))) aK)
  (au (zf (bQ (zc B .v7 (ra1 (rv 6)))) aY (au (bP (zx B .k_ (ag (ak (rv 8) ah) (ag (aH (rv 7) (ak (rv 8) ah)) (ag (aH (rv 2) (ak (rv 8) ah)) (ag (rv 3) (ra1 (rv 4)))))))))))))))
theorem kL:RR Y true k .f9 (dO (F k) (X_ k)):=rz T fun X Y _ _ _ B hu n=>(aj (aS (aH rst (zt CK (n .str) (ra1 (uM (gN Y) rfl (rv 0))))))
  (aj (xN (gN Y) rfl (rv 0) (aH (uM (gN Y) rfl (rv 0)) ah))
  (aj (aS (zo B .b_ (rv 0) (ag (ak (rv 1) ah) (ra1 (zc B .q8 (ag (ak (rv 1) ah) (ag (ay (ra1 (rv 3))) (ra1 (rv 2)))))))))
  (zr (ay (ag rst (ag (rv 3) (ag (zc B .j_ (ag (ak (rv 1) ah) (ra1 (rv 2)))) (ag (rv 4) (ra1 (ak (rv 1) ah)))))))))))
theorem nI:RR Y true k .m7 (ft (F k)):=rz T fun X Y _ _ _ B hu n=>(aj (zf (IC rfl (n .zip) (ag (rv 1) (ra1 (rv 2)))) (mP rfl (du aY (du aY jX))) (au (gX (rv 0) (rv 4) (zc B .j_ (ag (rv 5) (ra1 (rv 3)))))))
  (zr (rv 0)))
theorem Lu:RR Y true k .law (um (F k) (L k)):=rz T fun X Y _ _ _ B hu n=>(aj (aS (zc B .K6 (ra1 (zc B .D_ (ag (rv 0) (ra1 ah))))))
  (aj (aS (zc B .G_ (ag (zd B .u6 (ag (rv 0) (ag (fB (ag ah (ra1 ah))) (ra1 (rv 1))))) (ag (rv 1) (ra1 (zc B .D_ (ag (rv 0) (ra1 ah))))))))
  (aj (uI (mP rfl (du aY (du aY jX))) (zc B .I9 (ag (rv 2) (ag (jp (zl (n .len) (rv 2)) ah) (ag (ak (ak (rv 2) (gv ah)) ah) (ag de (ra1 ah)))))))
  (aj (aP (RW.rt (hZ (bn sY (bf _) (rv 3) ah) (fR (bn sY (bf _) (rv 4) ah)))) (zr (zc B .I6 (ra1 (rv 2)))) aK)
  (aj (aS (zc B .O7 (ra1 (rv 2))))
  (aj (zf (fV rfl (n .range) (ra1 ah)) aY (aj (aS (zc B .joined (ra1 (rv 2))))
  (au (aP (RW.rt (hZ (Iy (jV (zis (n .isinstance) (n .tuple) (rv 7)))) (fR (bn (sX hu) (bf _) (rv 7) (rv 5))))) (zr nL) aK))))
  (zr nL)))))))
theorem AE:RR Y true k .K6 (iL (F k)):=rz T fun X Y _ _ _ B hu n=>(aj (aS rst)
  (aj (aS (aH ah (bA (bN (rv 0) ah) ah)))
  (aj (aS (bA (bN (rv 0) ah) (rv 2)))
  (aj (aS (fB bX))
  (aj (zf (fV rfl (n .range) (ra1 ah)) aY (aj (vY (M:=["_law_j","_law_some","_law_n","_law_k"]) (cI.of (by kernel_rfl)) (fV rfl (n .range) (ra1 ah)) (fun _ _=>gK) (fun _ _=>(ak (rv 1) (bA (aH (aH (bN (rv 2) ah) (gL ah (rv 0))) (gL (gL ah (bN (rv 3) ah)) (zt Hr (n .int) (ra1 (req hu (bA (rv 2) ah) ah))))) ah))) rfl rfl (by with_unfolding_all rfl))
  (au (aP (NT hu (bA (rv 0) ah) ah) (au (bP (fH eY acD acF acE cG (rv 4) (ra1 (fH xG aeP aeZ aeY uW rst (ra1 (bI (rv 6) dU (bZ (aH ah (bA (rv 5) ah)))))))))) (au (aP (NT hu (bA (rv 0) ah) ah) (aj (gu (rv 6) (rv 3) (ak (rv 1) (bA (aH (aH (bN (rv 0) ah) (gL ah (rv 5))) ah) ah)))
  (au (bP (fH eY acD acF acE cG (rv 4) (ra1 (fH xG aeP aeZ aeY uW rst (ra1 (bI (rv 6) dU (bZ (rv 2)))))))))) (au (bP (fH eY acD acF acE cG (rv 4) (ra1 (bI (fH xG aeP aeZ aeY uW rst (ra1 (aH (bI (rv 6) (bZ (bA (rv 5) ah)) dU) (bI (rv 6) dU (bZ (bA (rv 5) ah)))))) dU (bZ (jp ah (bN (rv 5) ah))))))))))))))
  (aj (aS (dJ (ag rst (ag rst (ag rst (ag rst (ag rst (ag rst (ag rst (ag rst (ag rst (ag rst (ra1 rst)))))))))))))
  (aj (aP (RW.rt (hZ (bn uS (bf _) (qY rfl (n .len) rfl (n .set) (rv 4)) ah) (fR (bn (sX hu) (bf _) (eE (M:=["_law_name","_law_told"]) (cI.of (by kernel_rfl)) (bQ (rv 4)) (fun _ _=>(uK (bn (CM (by exact hu)) (by with_unfolding_all rfl) (rv 0) (rv 1)))) (fun _ _=>(rv 0))) (dJ bX))))) (zr (dJ (ag rst (ag rst (ag rst (ag rst (ag rst (ag rst (ag rst (ag rst (ag rst (ag rst (ag rst (ra1 rst)))))))))))))) aK)
  (zr (rv 4)))))))))
theorem xS:RR Y true k .G_ (fT (F k)):=rz T fun X Y _ _ _ B hu n=>(aj (aS (ak (rv 0) (gv ah)))
  (aj (aP (RW.rt (hZ (bn (sX hu) (bf _) (bA (rv 2) ah) ah) (fR (NT hu (ak (rv 3) ah) (ay bX))))) (zr (rv 0)) aK)
  (aj (aS (ay (ag rst (ag (ak (rv 1) (bA (bN (rv 2) ah) ah)) (ag (bI (ak (rv 3) ah) dU (bZ ah)) (ag (ay (ra1 (ay (ag rst (ag (ay (ra1 (ak (rv 1) (bA (bN (rv 2) ah) ah)))) (ra1 rst)))))) (ra1 rst)))))))
  (aj (aS (Fe (ay (ra1 (rv 4))) (bA (bN (rv 2) ah) ah)))
  (aj (aP (NT hu (bA (bN (rv 2) ah) ah) ah) (au (aS (ay (ra1 (ay (ag rst (ag (ak (rv 1) ah) (ag (bI (ak (rv 3) ah) dU (bZ ah)) (ag (ay (ra1 (ay (ag rst (ag (ak (rv 1) ah) (ag (ay (ra1 (ak (rv 1) ah))) (ag (rv 5) (ra1 rst)))))))) (ra1 rst)))))))))) aK)
  (zr (aH (bI (rv 0) dU (bZ (gv ah))) (ay (ra1 (aH (bI (rv 3) dU (bZ ah)) (ay (ra1 (aH (ak (rv 3) ah) (rv 5))))))))))))))
theorem AH:RR Y true k .I9 (mB (F k)):=rz T fun X Y _ _ _ B hu n=>(aj (aS ah)
  (aj (aS ah)
  (aj (zf (bQ (rv 2)) aY (aj (aS (dJ bX))
  (aj (aP (NT hu (ak (rv 7) ah) rst) (au (aS (dJ (ra1 (ay (ag (rv 1) (ag (ak (rv 7) ah) (ra1 (rv 3))))))))) (au (aP (NT hu (ak (rv 7) ah) rst) (au (aS (dJ (ag (ay (ag (rv 1) (ag (ak (rv 7) ah) (ra1 (rv 3))))) (ra1 (ay (ag (rv 1) (ag (ak (rv 7) ah) (ra1 (rv 3)))))))))) (au (aP (NT hu (ak (rv 7) ah) rst) (aj (aS (fH eY acD aeK afW tG (eE (M:=["_law_one_here"]) (cI.of (by kernel_rfl)) (bQ (rv 0)) (fun _ _=>gK) (fun _ _=>(ak (rv 0) ah))) (ra1 (ak (rv 7) ah))))
  (au (aS (dJ (ra1 (ay (ag (rv 9) (ag (ak (ak (rv 0) (rv 9)) ah) (ra1 (kY (bn pR (bf _) (ak (rv 7) ah) de) de (ay (ag (ak (rv 7) ah) (ag (rv 1) (ra1 (rv 3))))))))))))))) (au (aP (NT hu (ak (rv 7) ah) rst) (au (aS (dJ (ra1 (ay (ag (ak (rv 3) ah) (ag (ak (rv 3) ah) (ra1 (ak (rv 3) ah))))))))) aK)))))))
  (aj (aS (aH (rv 5) ah))
  (aj (aS (zb (wI rfl) (n .max) (ag (rv 6) (ra1 (rv 4)))))
  (au (zf (bQ (rv 8)) aY (aj (uI (mP rfl (du aY (du aY jX))) (zc B .I9 (ag (rv 0) (ag (ak (rv 10) ah) (ag (ak (rv 10) ah) (ag (ak (rv 10) ah) (ra1 (aH (rv 4) ah))))))))
  (aj (aS (aH (rv 5) (rv 11)))
  (au (aS (zb (wI rfl) (n .max) (ag (rv 6) (ra1 (rv 12)))))))))))))))
  (zr (ay (ag (rv 5) (ra1 (rv 6))))))))
theorem Fk:RR Y true k .O7 (qH (F k) (L k)):=rz T fun X Y _ _ _ B hu n=>(aj (aS mc)
  (aj (aS (fB (ra1 ah)))
  (aj (zf (bQ (rv 0)) aY (au (gX (rv 1) (ak (rv 3) ah) (ay (ag (ak (rv 3) ah) (ra1 (zd B .j6 (ag (ak (rv 3) ah) (ag (rv 1) (ra1 (rv 2)))))))))))
  (zr (zd B .m6 (ag (ak (ak (rv 1) (ak (ak (rv 0) (gv ah)) ah)) ah) (ag Ch (ra1 (fB (ra1 ah))))))))))
theorem wo:RR Y true k .D_ (ii (F k)):=rz T fun X Y _ _ _ B hu n=>(aj (aP (bn uS (bf _) (rv 1) (zl (n .len) (rv 0))) (zr (ak (rv 0) (rv 1))) aK)
  (zr ah))
theorem sT:RR Y true k .u6 (gZ (F k) (L k)):=rz T fun X Y _ _ _ B hu n=>(aj (aS (fB bX))
  (aj (aS (fB bX))
  (aj (aS (ak (dJ (ag ah (ag ah (ag ah (ag ah (ag ah (ag ah (ag ah (ra1 ah))))))))) (bA (bN (zd B .G4 (ag (rv 0) (ra1 (rv 1)))) ah) ah)))
  (aj (zf (fV rfl (n .range) (ra1 (rv 5))) aY (aj (aS (zd B .G4 (ag (rv 0) (ra1 (rv 1)))))
  (aj (aS (zt eQ (n .tuple) (ra1 (eE (M:=["_law_j","_law_menu","_law_n"]) (cI.of (by kernel_rfl)) (fV rfl (n .range) (ra1 (bA (rv 7) ah))) (fun _ _=>gK) (fun _ _=>(ak (rv 1) (bA (aH (bN (rv 2) ah) (rv 0)) ah)))))))
  (aj (aS de)
  (aj (aP (RW.rt (ik (bn sY (bf _) (bA (bN (rv 7) ah) ah) ah) (iC (bn uS (bf _) (rv 6) (jp (rv 5) ah))))) (au (aS (bA (bN (rv 7) ah) ah))) aK)
  (aj (aS (yW (jC rst (rv 8) (jC rst (zt yd (n .list) (ra1 (rv 4))) (jC rst (rv 9) (jC rst (rv 2) yS))))))
  (aj (gu (rv 1) ah (jp (aH (ak (rv 1) ah) ah) (gL ah (zt Hr (n .int) (ra1 (jZ sY (bf _) (rv 5) ah))))))
  (aj (aS (zd B .q_ (ag (rv 0) (ag (rv 1) (ag (rv 10) (ra1 ah))))))
  (aj (aP (RW.rt (hZ (NT hu (rv 11) (ay bX)) (fR (NT hu (bA (bN (rv 7) ah) ah) ah)))) (au (aS (aH (rv 11) (zd B .q_ (ag (rv 0) (ag (rv 1) (ag (rv 10) (ra1 ah)))))))) aK)
  (aj (aS (ak (rv 2) (bA (aH (bN (rv 7) ah) (rv 6)) ah)))
  (aj (aP (Lq 4 (bn (CM hu) (by with_unfolding_all rfl) (rv 12) (eE (M:=["_law_piece"]) (cI.of (by kernel_rfl)) (bQ (rv 4)) (fun _ _=>gK) (fun _ _=>(ak (rv 0) ah))))) (au (aS (ak (dJ (ag rst (ag rst (ag rst (ag rst (ag rst (ag rst (ag rst (ra1 rst))))))))) (rv 6)))) aK)
  (aj (aP (Lq 4 (bn (CM hu) (by with_unfolding_all rfl) (rv 12) (eE (M:=["_law_piece"]) (cI.of (by kernel_rfl)) (bQ (rv 4)) (fun _ _=>gK) (fun _ _=>(ak (rv 0) ah))))) (au (aS (aH (rv 12) rst))) aK)
  (aj (bP (fH eY acD acF acE cG (rv 3) (ra1 (zd B .Oz (ag (rv 3) (ra1 (ay (ag rst (ag (rv 12) (ag (rv 8) (ag (rv 9) (ra1 (zc B .K8 (ra1 (rv 11)))))))))))))))
  (au (bP (fH eY acD acF acE cG (rv 4) (ra1 (ay (ag (rv 12) (ag (zl (n .len) (rv 8)) (ra1 (rv 9))))))))))))))))))))))
  (zr (zt eQ (n .tuple) (ra1 (rv 3))))))))
theorem wl:RR Y true k .I6 (jm (F k) (X_ k)):=rz T fun X Y _ _ _ B hu n=>(aj (Fc (tj Y) (zh B .C_ (ra1 (rv 0))) (fun _=>(zr nL)) rfl Y.PX)
  (zr nL))
theorem Cm:RR Y true k .joined (oA (F k) (X_ k)):=rz T fun X Y _ _ _ B hu n=>(aj (aS (ak (rv 0) (gv ah)))
  (aj (aS mc)
  (aj (zf (bQ (ak (rv 1) ah)) aY (au (gX (rv 2) (rv 3) (ay (ra1 (rv 3))))))
  (zr (zo B .b_ (zk B .d9 (ra1 (rv 0))) (ag (ak (rv 1) ah) (ra1 (ay (ag (nK (rv 2)) (ra1 de))))))))))
theorem uO:RR Y true k .m6 (iH (F k) (L k)):=rz T fun X Y _ _ _ B hu n=>(aj (aS (fB bX))
  (aj (zf (bQ (rv 0)) aY (aj (aP (NT hu (ak (rv 4) ah) rst) (au (aS (ay (ag rst (ag (zc B .K9 (ag (ak (rv 4) ah) (ra1 (rv 1)))) (ra1 (ak (rv 4) ah))))))) (au (aP (NT hu (ak (rv 4) ah) rst) (aj (aS (zd B .m6 (ag (ak (rv 4) ah) (ag (rv 1) (ra1 (rv 2))))))
  (au (aS (ay (ag rst (ag (zc B .K9 (ag (ak (rv 4) ah) (ra1 (rv 1)))) (ag (rv 5) (ra1 (zd B .m6 (ag (ak (rv 4) ah) (ag (rv 1) (ra1 (rv 2))))))))))))) (au (aP (NT hu (ak (rv 4) ah) rst) (aj (aS (aH rst (zt CK (n .str) (ra1 (ak (rv 2) ah)))))
  (aj (gu (rv 2) ah (aH (ak (rv 2) ah) ah))
  (aj (aS (zt nR (n .dict) (ra1 (rv 1))))
  (aj (gX (rv 7) (ak (rv 4) ah) (ay (ra1 (rv 6))))
  (au (aS (ay (ag rst (ag (rv 6) (ag (zc B .K9 (ag (ak (rv 4) ah) (ra1 (rv 1)))) (ag (zd B .m6 (ag (ak (rv 4) ah) (ag (nK (rv 7)) (ra1 (rv 2))))) (ra1 (ak (rv 4) ah))))))))))))) aK)))))
  (au (bP (fH eY acD acF acE cG (rv 3) (ra1 (rv 4)))))))
  (zr (zc B .K8 (ra1 (rv 3))))))
theorem oR:RR Y true k .j6 (fG (F k) (L k)):=rz T fun X Y _ _ _ B hu n=>(aj (aS (fB bX))
  (aj (zf (bQ (rv 0)) aY (au (aP (NT hu (ak (rv 4) ah) rst) (aj (uI (mP rfl (du aY (du aY jX))) (ak (rv 1) (ak (rv 4) ah)))
  (aj (aS (zd B .I7 (ag (rv 6) (ag (nK (we rfl (n .dict) rfl (n .zip) (ag (rv 5) (ra1 (ak (rv 4) ah))))) (ra1 (rv 2))))))
  (aj (aP (RW.rt (ik (bn mT (bf _) (ak (rv 4) ah) de) (iC (jV (zc B .n8 (ra1 (rv 7))))))) (au (aS (zd B .n_ (ag (rv 7) (ag (ak (rv 4) ah) (ag (zd B .j6 (ag (ak (rv 4) ah) (ag (rv 1) (ra1 (rv 2))))) (ra1 (rv 2)))))))) aK)
  (au (aS (yX (rv 3) (zt yd (n .list) (ra1 (rv 7))))))))) (au (aP (NT hu (ak (rv 4) ah) rst) (au (bP (fH eY acD acF acE cG (rv 3) (ra1 (aH (bI (rv 4) dU (bZ ah)) (ay (ag (zd B .j6 (ag (ak (rv 4) ah) (ag (rv 1) (ra1 (rv 2))))) (ra1 (ak (rv 4) ah))))))))) (au (aP (NT hu (ak (rv 4) ah) rst) (au (bP (fH eY acD acF acE cG (rv 3) (ra1 (aH (bI (rv 4) dU (bZ ah)) (zt eQ (n .tuple) (ra1 (eE (M:=["_law_k","_law_known","_law_spot","_law_node"]) (cI.of (by kernel_rfl)) (bQ (ay (ag ah (ra1 ah)))) (fun _ _=>gK) (fun _ _=>(zd B .j6 (ag (ak (rv 3) (rv 0)) (ag (rv 1) (ra1 (rv 2)))))))))))))) (au (bP (fH eY acD acF acE cG (rv 3) (ra1 (rv 4))))))))))))
  (zr (zt eQ (n .tuple) (ra1 (rv 3))))))
theorem Cl:RR Y true k .G4 (jL (F k)):=rz T fun X Y _ _ _ B hu n=>(aj (gu (rv 1) ah (aH (ak (rv 1) ah) ah))
  (aj (aS (ak (rv 1) ah))
  (aj (aS (aH (gL (gL ah (rv 2)) (rv 2)) (gL ah (rv 2))))
  (aj (aP (bn sY (bf _) (zl (n .len) (rv 0)) ah) (au (aS (aH (rv 3) (gL (ak (rv 0) (bA (rv 2) (zl (n .len) (rv 0)))) (aH ah (bN (rv 2) (zl (n .len) (rv 0)))))))) aK)
  (zr (bN (bA (gL (rv 3) ah) ah) ah))))))
theorem AF:RR Y true k .q_ (my (F k) (L k)):=rz T fun X Y _ _ _ B hu n=>(zr (zc B .K8 (ra1 (eE (M:=["_law_k","_law_cells","_law_spot","_law_at","_law_deep"]) (cI.of (by kernel_rfl)) (fV rfl (n .range) (ra1 (bA (bN (zd B .G4 (ag (rv 0) (ra1 (rv 1)))) ah) ah))) (fun _ _=>gK) (fun _ _=>(zd B .H_ (ag (rv 1) (ag (rv 2) (ag (rv 3) (ra1 (rv 4)))))))))))
theorem Fj:RR Y true k .Oz (oz (F k) (L k)):=rz T fun X Y _ _ _ B hu n=>(aj (aS (fB (ra1 ah)))
  (aj (bP (zd B .B_ (ag (aH (rv 0) (dJ (ra1 (rv 1)))) (ag (ak (rv 1) ah) (ag (zl (n .len) (rv 0)) (ag de (ag ah (ra1 (rv 2)))))))))
  (aj (aP (bn Nk (bf _) (ak (rv 2) ah) ah) (zr (rv 1)) aK)
  (zr (aH (bI (rv 1) dU (bZ ah)) (ay (ra1 (zc B .K8 (ra1 (eE (M:=["_law_node"]) (cI.of (by kernel_rfl)) (bQ (ak (rv 1) ah)) (fun _ _=>(uK (bn (CM (by exact hu)) (by with_unfolding_all rfl) (ak (rv 0) ah) (ay (ag rst (ag rst (ra1 rst))))))) (fun _ _=>(rv 0))))))))))))
theorem Fh:RR Y true k .K8 (mx (F k)):=rz T fun X Y _ _ _ B hu n=>(aj (aS (fB bX))
  (aj (zf (bQ (rv 0)) aY (au (aP (RW.rt (ik (NT hu (ak (rv 2) ah) rst) (ik (bn (sX hu) (bf _) (rv 1) (dJ bX)) (iC (NT hu (ak (ak (rv 1) (gv ah)) ah) rst))))) (au (gu (rv 1) (gv ah) (ay (ag rst (ra1 (aH (ak (ak (rv 1) (gv ah)) ah) (ak (rv 2) ah))))))) (au (bP (fH eY acD acF acE cG (rv 1) (ra1 (rv 2))))))))
  (zr (zt eQ (n .tuple) (ra1 (rv 1))))))
theorem Fi:RR Y true k .K9 (qG (F k)):=rz T fun X Y _ _ _ B hu n=>(zr (aH (fH BJ afX ae0 ags Dd (rv 1) (ag (ak (rv 0) ah) (ra1 (ay (ra1 (ak (rv 0) ah)))))) (bI (rv 0) (bZ ah) dU)))
theorem AG:RR Y true k .I7 (mA (F k) (L k)):=rz T fun X Y _ _ _ B hu n=>(aj (aS (fB bX))
  (aj (zf (bQ (rv 0)) aY (aj (aP (NT hu (ak (rv 4) ah) rst) (au (aS (ay (ag rst (ag (zc B .K9 (ag (ak (rv 4) ah) (ra1 (rv 1)))) (ra1 (ak (rv 4) ah))))))) (au (aP (NT hu (ak (rv 4) ah) rst) (au (aS (aH (ay (ag rst (ra1 (zc B .K9 (ag (ak (rv 4) ah) (ra1 (rv 1))))))) (zt eQ (n .tuple) (ra1 (eE (M:=["_law_k","_law_swaps","_law_spot","_law_node"]) (cI.of (by kernel_rfl)) (bQ (ay (ag ah (ra1 ah)))) (fun _ _=>gK) (fun _ _=>(zd B .I7 (ag (ak (rv 3) (rv 0)) (ag (rv 1) (ra1 (rv 2)))))))))))) (au (aP (NT hu (ak (rv 4) ah) rst) (aj (gu (rv 2) ah (aH (ak (rv 2) ah) ah))
  (aj (aS (aH rst (zt CK (n .str) (ra1 (ak (rv 2) ah)))))
  (aj (aS (zt nR (n .dict) (ra1 (rv 1))))
  (aj (gX (rv 6) (ak (rv 4) ah) (ay (ra1 (rv 5))))
  (au (aS (ay (ag rst (ag (rv 5) (ag (zc B .K9 (ag (ak (rv 4) ah) (ra1 (rv 1)))) (ag (zd B .I7 (ag (ak (rv 4) ah) (ag (nK (rv 6)) (ra1 (rv 2))))) (ra1 (ak (rv 4) ah))))))))))))) (au (aP (NT hu (ak (rv 4) ah) rst) (au (aS (ay (ag rst (ra1 (zt eQ (n .tuple) (ra1 (eE (M:=["_law_path","_law_swaps"]) (cI.of (by kernel_rfl)) (bQ (ak (rv 4) ah)) (fun _ _=>gK) (fun _ _=>(zc B .K9 (ag (rv 0) (ra1 (rv 1))))))))))))) aK)))))))
  (au (bP (fH eY acD acF acE cG (rv 3) (ra1 (rv 4)))))))
  (zr (zt eQ (n .tuple) (ra1 (rv 3))))))
theorem uP:RR Y true k .n8 (gG (F k)):=rz T fun X Y _ _ _ B hu n=>(aj (zf (bQ (rv 0)) aY (aj (aS (fH BJ afX ae0 ags Dd (yW (jC rst (bI (rv 1) (bZ ah) (bZ ah)) (jC rst (bI (rv 1) (bZ ah) (bZ ah)) yS))) (ag (ak (rv 1) ah) (ra1 (ay bX)))))
  (au (aP (RW.rt (hZ (NT hu (ak (rv 1) ah) rst) (fR (bn (Ly hu) (bf _) (eE (M:=["_law_part"]) (cI.of (by kernel_rfl)) (bQ (rv 2)) (fun _ _=>(uK (jV (zc B .n8 (ra1 (rv 0)))))) (fun _ _=>(rv 0))) (dJ bX))))) (zr nL) aK))))
  (zr nL))
theorem sU:RR Y true k .n_ (hH (F k) (L k)):=rz T fun X Y _ _ _ B hu n=>(aj (aS (fB bX))
  (aj (zf (bQ (rv 0)) aY (au (aP (NT hu (ak (rv 5) ah) rst) (au (aS (yX (rv 4) (zt yd (n .list) (ra1 (zd B .I7 (ag (rv 2) (ag (nK (we rfl (n .dict) rfl (n .zip) (ag (rv 1) (ra1 (ak (rv 5) ah))))) (ra1 (rv 3)))))))))) (au (aP (NT hu (ak (rv 5) ah) rst) (au (bP (fH eY acD acF acE cG (rv 4) (ra1 (aH (bI (rv 5) dU (bZ ah)) (ay (ag (zd B .n_ (ag (ak (rv 5) ah) (ag (rv 1) (ag (rv 2) (ra1 (rv 3)))))) (ra1 (ak (rv 5) ah))))))))) (au (aP (NT hu (ak (rv 5) ah) rst) (au (bP (fH eY acD acF acE cG (rv 4) (ra1 (aH (bI (rv 5) dU (bZ ah)) (zt eQ (n .tuple) (ra1 (eE (M:=["_law_k","_law_names_here","_law_body","_law_spot","_law_node"]) (cI.of (by kernel_rfl)) (bQ (ay (ag ah (ra1 ah)))) (fun _ _=>gK) (fun _ _=>(zd B .n_ (ag (ak (rv 4) (rv 0)) (ag (rv 1) (ag (rv 2) (ra1 (rv 3))))))))))))))) (au (bP (fH eY acD acF acE cG (rv 4) (ra1 (rv 5))))))))))))
  (zr (zt eQ (n .tuple) (ra1 (rv 4))))))
theorem wk:RR Y true k .H_ (ig (F k) (L k)):=rz T fun X Y _ _ _ B hu n=>(aj (aS (bN (zd B .G4 (ag (rv 0) (ra1 (rv 1)))) ah))
  (aj (aS (bA (rv 4) ah))
  (aj (aS (bN (rv 4) ah))
  (aj (aP (RW.rt (hZ (bn sY (bf _) (ak (rv 1) ah) (ak (rv 1) ah)) (fR (bn uS (bf _) (rv 3) ah)))) (au (aS (bA (rv 5) ah))) aK)
  (aj (aP (RW.rt (ik (bn sY (bf _) (rv 5) ah) (iC (bn uS (bf _) (rv 5) ah)))) (zr (zd B .H9 (ag (rv 0) (ag (rv 1) (ag (rv 2) (ag (rv 3) (ra1 (rv 6)))))))) aK)
  (aj (aP (RW.rt (ik (NT hu (rv 5) ah) (ik (bn mT (bf _) (ak (rv 2) rst) de) (iC (RW.rt (hZ (NT hu (ak (rv 2) rst) ah) (fR (bn (sX hu) (bf _) (ak (rv 2) rst) (ay bX))))))))) (zr (ay (ag rst (ra1 (zd B .t_ (ag (rv 0) (ag (rv 1) (ag (rv 2) (ra1 (ak (rv 2) rst)))))))))) aK)
  (aj (aP (RW.rt (hZ (NT hu (rv 5) ah) (hZ (NT hu (rv 5) ah) (fR (NT hu (ak (rv 2) rst) (ay bX)))))) (zr (ay (ag rst (ra1 (ak (dJ (ag rst (ag rst (ag rst (ag rst (ag rst (ra1 rst))))))) (bA (rv 6) ah)))))) aK)
  (aj (aS (zc B .w7 (ag (zd B .G4 (ag (rv 0) (ra1 (rv 1)))) (ra1 (rv 2)))))
  (aj (aP (bn uS (bf _) (rv 5) ah) (zr (ay (ag rst (ag (rv 7) (ra1 (ak (dJ (ag rst (ag rst (ag rst (ag rst (ra1 rst)))))) (bA (rv 6) ah))))))) aK)
  (aj (aP (bn uS (bf _) (rv 5) ah) (aj (aS (ak (ak (rv 2) rst) (bA (rv 6) ah)))
  (aj (aS (zd B .q_ (ag (rv 0) (ag (rv 1) (ag (zc B .G9 (ag (rv 2) (ra1 (ay (ra1 (rv 8)))))) (ra1 (jp (rv 3) ah)))))))
  (zr (ay (ag rst (ag (rv 8) (ag (rv 7) (ag (rv 9) (ra1 (ak (dJ (ag rst (ag rst (ra1 rst)))) (bA (bN (rv 6) ah) ah))))))))))) aK)
  (aj (aS (zd B .q_ (ag (rv 0) (ag (rv 1) (ag (rv 2) (ra1 (jp (rv 3) ah)))))))
  (zr (ay (ag rst (ag (rv 7) (ag (rv 10) (ra1 (zd B .q_ (ag (rv 0) (ag (rv 1) (ag (rv 2) (ra1 (jp (rv 3) ah)))))))))))))))))))))))
theorem Ck:RR Y true k .B_ (xu (F k) (L k)):=rz T fun X Y _ _ _ B hu n=>(au (zf (bQ (rv 1)) aY (aj (gu (rv 5) ah (jp (ak (rv 5) ah) ah))
  (aj (aP (RW.rt (hZ (bn uS (bf _) (ak (rv 5) ah) ah) (fR (bn sY (bf _) (rv 4) ah)))) (aj (gu (rv 5) ah (gv ah))
  (au Fd)) aK)
  (au (aP (NT hu (ak (rv 6) ah) rst) (au (bP (zd B .B_ (ag (rv 0) (ag (ak (rv 6) ah) (ag (rv 2) (ag (rv 3) (ag (aH (rv 4) ah) (ra1 (rv 5)))))))))) (au (aP (NT hu (ak (rv 6) ah) rst) (au (bP (zd B .B_ (ag (rv 0) (ag (aH (ak (rv 6) ah) (ak (rv 6) ah)) (ag (rv 2) (ag (rv 3) (ag (aH (rv 4) ah) (ra1 (rv 5)))))))))) (au (aP (NT hu (ak (rv 6) ah) rst) (aj (aS (fH eY acD aeK afW tG (eE (M:=["_law_one_here"]) (cI.of (by kernel_rfl)) (bQ (rv 0)) (fun _ _=>gK) (fun _ _=>(ak (rv 0) ah))) (ra1 (ak (rv 6) ah))))
  (aj (aS (kY (bn pR (bf _) (ak (rv 6) ah) de) de (ay (ag (ak (rv 6) ah) (ag (rv 2) (ra1 (rv 3)))))))
  (au (bP (zd B .B_ (ag (rv 0) (ag (ak (ak (rv 0) (rv 7)) ah) (ag (rv 7) (ag (rv 8) (ag (aH (rv 4) ah) (ra1 (rv 5)))))))))))) (au (aP (RW.rt (ik (NT hu (ak (rv 6) ah) rst) (iC (bn mT (bf _) (rv 3) de)))) (au (bP (zd B .B_ (ag (rv 0) (ag (ak (rv 3) ah) (ag (ak (rv 3) ah) (ag (ak (rv 3) ah) (ag (aH (rv 4) ah) (ra1 (rv 5)))))))))) aK))))))))))))
theorem Fg:RR Y true k .sized (qF (F k) (L k)):=rz T fun X Y _ _ _ B hu n=>(aj (aS mc)
  (aj (zf (bQ (rv 0)) aY (au (gX (rv 1) (ak (rv 2) ah) (zd B .i_ (ag (ak (rv 2) ah) (ra1 (rv 1)))))))
  (aj (aS (ak (rv 1) (ak (ak (rv 0) (gv ah)) ah)))
  (zr (ay (ag (ak (rv 3) ah) (ra1 (ak (rv 3) ah))))))))
theorem xU:RR Y true k .J0 (fj (F k)):=rz T fun X Y _ _ _ B hu n=>(au (aP (RW.rt (ik (NT hu (ak (rv 1) ah) rst) (ik (jV (rv 0)) (iC (NT hu (ak (ak (rv 0) (gv ah)) ah) rst))))) (au (gu (rv 0) (gv ah) (ay (ag rst (ra1 (aH (ak (ak (rv 0) (gv ah)) ah) (ak (rv 1) ah))))))) (au (bP (fH eY acD acF acE cG (rv 0) (ra1 (rv 1)))))))
theorem wj:RR Y true k .w7 (jk (F k)):=rz T fun X Y _ _ _ B hu n=>(aj (aS (zt eQ (n .tuple) (ra1 (eE (M:=["_law_k","_law_at","_law_n"]) (cI.of (by kernel_rfl)) (fV rfl (n .range) (ra1 (ak (dJ (ag ah (ag ah (ag ah (ag ah (ag ah (ra1 ah))))))) (bA (bN (rv 0) ah) ah)))) (fun _ _=>gK) (fun _ _=>(ak (ak (rv 1) rst) (bA (aH (bN (rv 2) ah) (gL ah (rv 0))) ah)))))))
  (zr (aH (ay (ra1 (ak (ak (rv 1) rst) (bA (rv 0) (zl (n .len) (ak (rv 1) rst)))))) (rv 2))))
theorem wh:RR Y true k .H9 (fZ (F k) (L k)):=rz T fun X Y _ _ _ B hu n=>(aj (vZ (M:=["_law_piece","_law_at"]) (cI.of (by kernel_rfl)) (bQ (ak (rv 2) rst)) (fun _ _=>(uK (RW.rt (hZ (NT hu (ak (rv 0) ah) ah) (fR (bn (sX (by exact hu)) (bf _) (ak (rv 1) rst) (ay bX))))))) (fun _ _=>(rv 0)) rfl rfl (by with_unfolding_all rfl))
  (aj (aP (NT hu (rv 5) (dJ bX)) (zr (ay (ag rst (ra1 rst)))) aK)
  (aj (uI (mP rfl (du aY (du aY (du aY jX)))) (ak (rv 5) (bA (rv 4) (zl (n .len) (rv 5)))))
  (aj (aS (zd B .t_ (ag (rv 0) (ag (rv 1) (ag (rv 2) (ra1 (rv 7)))))))
  (aj (aP (bn pR (bf _) (rv 8) de) (zr (ay (ag rst (ag (rv 6) (ag (rv 9) (ag de (ra1 de))))))) aK)
  (aj (aS (bA (bN (rv 4) ah) ah))
  (aj (aS (zt eQ (n .tuple) (ra1 (bI (ak (rv 2) rst) (bZ (rv 10)) (bZ (aH (rv 10) (rv 8)))))))
  (zr (ay (ag rst (ag (rv 6) (ag (rv 9) (ag (rv 11) (ra1 (zd B .q_ (ag (rv 0) (ag (rv 1) (ag (zc B .G9 (ag (rv 2) (ra1 (rv 11)))) (ra1 (jp (rv 3) ah))))))))))))))))))))
theorem uN:RR Y true k .t_ (iG (F k) (L k)):=rz T fun X Y _ _ _ B hu n=>(zr (zt eQ (n .tuple) (ra1 (eE (M:=["_law_k","_law_at","_law_cells","_law_spot"]) (cI.of (by kernel_rfl)) (fV rfl (n .range) (ra1 (rv 3))) (fun _ _=>gK) (fun _ _=>(zc B .w7 (ag (zd B .G4 (ag (rv 2) (ra1 (rv 3)))) (ra1 (rv 1)))))))))
theorem xR:RR Y true k .G9 (kA (F k)):=rz T fun X Y _ _ _ B hu n=>(aj (aS (zt nR (n .dict) (ra1 (rv 0))))
  (aj (gX (rv 2) rst (aH (ak (rv 0) rst) (rv 1)))
  (zr (nK (rv 2)))))
theorem wv:RR Y true k .E_ (jn (F k)):=rz T fun X Y _ _ _ B hu n=>(zr (jZ uS (bf _) (qY rfl (n .len) rfl (n .set) (rv 0)) (zl (n .len) (rv 0))))
theorem pW:RR Y true k .i_ (fO (F k) (L k)):=rz T fun X Y _ _ _ B hu n=>(aj (aS (glV Y.Oo))
  (aj (zf (bQ (rv 0)) aY (au (aS (zc B .v5 (ag (rv 2) (ra1 (zd B .o7 (ag (rv 3) (ra1 (rv 1))))))))))
  (zr (rv 2))))
theorem pY:RR Y true k .q9 (fQ (F k) (X_ k)):=rz T fun X Y _ _ _ B hu n=>(aj (aS (ak (rv 1) ah))
  (aj (aS (ak (rv 2) ah))
  (zr (ay (ag (nK (zh B .m7 (ag (zt nR (n .dict) (ra1 (ak (rv 3) ah))) (ag (ak (rv 2) ah) (ag (rv 0) (ra1 (rv 1))))))) (ra1 (ak (rv 3) ah)))))))
theorem rh:RR Y true k .o8 (eh (F k) (X_ k)):=rz T fun X Y _ _ _ B hu n=>(aj (aS (kY (bn pR (bf _) (ak (rv 0) ah) de) de (ay (ag (ak (rv 0) ah) (ag (ak (rv 0) ah) (ra1 (rv 2)))))))
  (zr (ay (ag (nK (zh B .m7 (ag mc (ag (ak (rv 1) ah) (ag (ak (rv 0) ah) (ra1 (rv 2))))))) (ra1 (rv 3))))))
theorem wg:RR Y true k .j_ (jj (F k)):=rz T fun X Y _ _ _ B hu n=>(zr (aH (ak (ak (rv 1) ah) (ak (rv 0) ah)) (bI (rv 0) (bZ ah) dU)))
theorem xT:RR Y true k .K1 (bU (F k)):=rz T fun X Y _ _ _ B hu n=>(aj (zf (bQ (zc B .K7 (ra1 (rv 0)))) aY (au (aP (bn (zm hu) (by with_unfolding_all rfl) (ak (rv 4) ah) (rv 1)) (zr nL) aK)))
  (aj (aP (NT hu (ak (rv 0) ah) rst) (zr (yU (jZ (zm hu) (by with_unfolding_all rfl) (ak (rv 0) ah) (rv 3)) (uL (zc B .o9 (ag (rv 0) (ra1 (ak (rv 3) (ak (rv 0) ah)))))))) aK)
  (aj (aP (NT hu (ak (rv 0) ah) rst) (zr (yU (jZ pR (bf _) (rv 2) de) (uL (jZ (sX hu) (bf _) (zl (n .len) (ak (rv 0) ah)) (rv 2))))) aK)
  (zr nL))))
theorem rj:RR Y true k .v7 (bL (F k)):=rz T fun X Y _ _ _ B hu n=>(aj (aP (NT hu (ak (rv 0) ah) rst) (zr (dJ (ra1 (ay (ag (ay bX) (ag (ay (ra1 (ak (rv 0) ah))) (ra1 (ak (rv 0) ah)))))))) aK)
  (aj (aP (NT hu (ak (rv 0) ah) rst) (zr (dJ (ag (ay (ag (ay (ra1 ah)) (ag (ay bX) (ra1 (ak (rv 0) ah))))) (ra1 (ay (ag (ay (ra1 ah)) (ag (ay bX) (ra1 (ak (rv 0) ah))))))))) aK)
  (aj (aP (RW.rt (ik (NT hu (ak (rv 0) ah) rst) (iC (bn mT (bf _) (ak (rv 0) ah) de)))) (zr (dJ (ra1 (ay (ag (ay bX) (ag (ak (rv 0) ah) (ra1 (ak (rv 0) ah)))))))) aK)
  (zr (dJ bX)))))
theorem re:RR Y true k .v5 (gF (F k)):=rz T fun X Y _ _ _ B hu n=>(zr (ay (ag (aH (ak (rv 0) ah) (ak (rv 1) ah)) (ag (zb (wI rfl) (n .max) (ag (ak (rv 0) ah) (ra1 (ak (rv 1) ah)))) (ag (aH (ak (rv 0) ah) (ak (rv 1) ah)) (ra1 (zb (wI rfl) (n .max) (ag (ak (rv 0) ah) (ra1 (ak (rv 1) ah))))))))))
theorem qZ:RR Y true k .o7 (bh (F k) (L k)):=rz T fun X Y _ _ _ B hu n=>(aj (aP (NT hu (ak (rv 0) ah) rst) (zr (zc B .m9 (ra1 (zd B .i_ (ag (ak (rv 0) ah) (ra1 (rv 1))))))) aK)
  (aj (aP (NT hu (ak (rv 0) ah) rst) (zr (zc B .m9 (ra1 (zd B .i_ (ag (aH (ak (rv 0) ah) (ak (rv 0) ah)) (ra1 (rv 1))))))) aK)
  (aj (aP (NT hu (ak (rv 0) ah) rst) (zr (zc B .m9 (ra1 (zd B .m_ (ag (rv 0) (ra1 (rv 1))))))) aK)
  (aj (aP (NT hu (ak (rv 0) ah) rst) (zr (ay (ag ah (ag ah (ag ah (ra1 ah)))))) aK)
  (zr (ay (ag ah (ag ah (ag ah (ra1 ah))))))))))
theorem pX:RR Y true k .q8 (fP (F k)):=rz T fun X Y _ _ _ B hu n=>(aj (aS (zt nR (n .dict) (ra1 (ak (rv 2) ah))))
  (aj (gX (rv 3) (rv 0) (rv 1))
  (zr (ay (ag (nK (rv 3)) (ra1 (ak (rv 2) ah)))))))
theorem xQ:RR Y true k .K7 (dT (F k)):=rz T fun X Y _ _ _ B hu n=>(aj (aP (NT hu (ak (rv 0) ah) rst) (zr (ay bX)) aK)
  (aj (aP (NT hu (ak (rv 0) ah) rst) (zr (ay (ra1 (ak (rv 0) ah)))) aK)
  (aj (aP (NT hu (ak (rv 0) ah) rst) (zr (ak (rv 0) ah)) aK)
  (aj (aP (NT hu (ak (rv 0) ah) rst) (zr (ak (rv 0) ah)) aK)
  (zr (ay (ra1 (ak (rv 0) ah))))))))
theorem rl:RR Y true k .o9 (bE (F k)):=rz T fun X Y _ _ _ B hu n=>(aj (aP (bn (sX hu) (bf _) (zl (n .len) (ak (rv 0) ah)) (zl (n .len) (ak (rv 1) ah))) (zr nL) aK)
  (aj (aP (RW.rt (hZ (bn pR (bf _) (ak (rv 1) ah) de) (fR (bn pR (bf _) (ak (rv 0) ah) de)))) (zr (yU (jZ mT (bf _) (ak (rv 1) ah) de) (uL (jZ mT (bf _) (ak (rv 0) ah) de)))) aK)
  (zr (yU (jZ (sX hu) (bf _) (zl (n .len) (ak (rv 0) ah)) (ak (rv 1) ah)) (uL (zc B .E_ (ra1 (ak (rv 0) ah))))))))
theorem sR:RR Y true k .m9 (eM (F k)):=rz T fun X Y _ _ _ B hu n=>(aj (aS (kY (jV (ak (rv 0) ah)) (aH (ak (rv 0) ah) ah) ah))
  (zr (ay (ag (aH (ak (rv 0) ah) ah) (ag (aH (ak (rv 0) ah) ah) (ag (ak (rv 0) ah) (ra1 (rv 1))))))))
theorem sS:RR Y true k .m_ (bF (F k) (L k)):=rz T fun X Y _ _ _ B hu n=>(aj (aS (ak (rv 1) (ak (rv 0) ah)))
  (aj (aS (ak (rv 2) ah))
  (aj (aP (RW.rt (hZ (bn pR (bf _) (ak (rv 0) ah) de) (fR (NT hu (rv 3) ah)))) (zr (ay (ag (ak (rv 2) ah) (ag (ak (rv 2) ah) (ag ah (ra1 ah)))))) aK)
  (aj (aS (zd B .i_ (ag (ak (rv 0) ah) (ra1 (rv 1)))))
  (aj (aS (kY (jV (ak (rv 4) ah)) (aH (ak (rv 2) ah) (ak (rv 4) ah)) ah))
  (zr (ay (ag (aH (ak (rv 2) ah) (gL (rv 3) (ak (rv 4) ah))) (ag (zb (wI rfl) (n .max) (ag (ak (rv 2) ah) (ra1 (aH (ak (rv 2) ah) (ak (rv 4) ah))))) (ag (gL (rv 3) (ak (rv 4) ah)) (ra1 (rv 5))))))))))))
theorem EB:Tb Y (k+1):=by
 refine⟨fun f=>?_,fun f=>?_,fun f=>?_,fun f h=>?_⟩
 ·cases f with
  |law=>exact fp (Lu T)
  |K6=>exact fp (AE T)
  |G_=>exact fp (xS T)
  |I9=>exact fp (AH T)
  |O7=>exact fp (Fk T)
  |D_=>exact fp (wo T)
  |I6=>exact fp (wl T)
  |joined=>exact fp (Cm T)
  |K8=>exact fp (Fh T)
  |K9=>exact fp (Fi T)
  |n8=>exact fp (uP T)
  |sized=>exact fp (Fg T)
  |w7=>exact fp (wj T)
  |G9=>exact fp (xR T)
  |E_=>exact fp (wv T)
  |q9=>exact fp (pY T)
  |o8=>exact fp (rh T)
  |j_=>exact fp (wg T)
  |v7=>exact fp (rj T)
  |v5=>exact fp (re T)
  |q8=>exact fp (pX T)
  |K7=>exact fp (xQ T)
  |o9=>exact fp (rl T)
  |m9=>exact fp (sR T)
  |_=>exact .bad
 ·cases f with
  |u6=>exact fl (sT T)
  |m6=>exact fl (uO T)
  |j6=>exact fl (oR T)
  |G4=>exact fl (Cl T)
  |q_=>exact fl (AF T)
  |Oz=>exact fl (Fj T)
  |I7=>exact fl (AG T)
  |n_=>exact fl (sU T)
  |H_=>exact fl (wk T)
  |B_=>exact fl (Ck T)
  |J0=>exact fl (xU T)
  |H9=>exact fl (wh T)
  |t_=>exact fl (uN T)
  |i_=>exact fl (pW T)
  |K1=>exact fl (xT T)
  |o7=>exact fl (qZ T)
  |m_=>exact fl (sS T)
  |_=>exact .bad
 ·cases f with
  |C_=>exact fg (uH T)
  |b_=>exact fh (jU T)
  |d9=>exact fi (mO T)
  |G7=>exact fg (sO T)
  |g_=>exact fh (oO T)
  |k_=>exact fg (sN T)
  |f9=>exact fh (kL T)
  |m7=>exact fh (nI T)
  |_=>exact .bad
 ·cases f with
  |_=>cases h
end
theorem pM{S:SC}(Y:Sys S):∀k,Tb Y k
 |0=>⟨fun _=>.bad,fun _=>.bad,fun _=>.bad,fun _ _=>.bad⟩
 |k+1=>EB (pM Y k)
def Yx(K:W.Frag)(C:Nat->Addr):Fn->Addr->Prop
 |.b_,a=>sK K (C 602) "nodes_put_in" a
 |.d9,a=>sK K (C 602) "__init__" a
 |.g_,a=>sK K (C 602) "put_in" a
 |.j9,a=>sK K (C 2) "__init__" a
 |.f9,a=>sK K (C 602) "loop_put_in" a
 |f,a=>W.nsIn K mainGlobals (qe f)=some (some (.ref a))
theorem YZ{us:List Value}(h:us.length=0):us= []:=List.eq_nil_of_length_eq_zero h
theorem U0{n:Nat}{us:List Value}(h:us.length=n+1):∃a r,us=a::r/\r.length=n:=by
 cases us with
 |nil=>cases h
 |cons a r=>exact⟨a,r,rfl,by simpa using h⟩
theorem YX{us:List Value}(h:us.length=1):∃a,us= [a]:=by obtain⟨a,r,rfl,z⟩:=U0 h;obtain rfl:=YZ z;exact⟨a,rfl⟩
theorem YW{us:List Value}(h:us.length=2):∃a b,us= [a,b]:=by obtain⟨a,r,rfl,z⟩:=U0 h;obtain⟨b,rfl⟩:=YX z;exact⟨a,b,rfl⟩
theorem YT{us:List Value}(h:us.length=3):∃a b c,us= [a,b,c]:=by obtain⟨a,r,rfl,z⟩:=U0 h;obtain⟨b,c,rfl⟩:=YW z;exact⟨a,b,c,rfl⟩
theorem YS{us:List Value}(h:us.length=4):∃a b c d,us= [a,b,c,d]:=by obtain⟨a,r,rfl,z⟩:=U0 h;obtain⟨b,c,d,rfl⟩:=YT z;exact⟨a,b,c,d,rfl⟩
theorem YQ{us:List Value}(h:us.length=5):∃a b c d e,us= [a,b,c,d,e]:=by obtain⟨a,r,rfl,z⟩:=U0 h;obtain⟨b,c,d,e,rfl⟩:=YS z;exact⟨a,b,c,d,e,rfl⟩
theorem YM{us:List Value}(h:us.length=6):∃a b c d e f,us= [a,b,c,d,e,f]:=by obtain⟨a,r,rfl,z⟩:=U0 h;obtain⟨b,c,d,e,f,rfl⟩:=YQ z;exact⟨a,b,c,d,e,f,rfl⟩
theorem us7{us:List Value}(h:us.length=7):∃a b c d e f g,us= [a,b,c,d,e,f,g]:=by obtain⟨a,r,rfl,z⟩:=U0 h;obtain⟨b,c,d,e,f,g,rfl⟩:=YM z;exact⟨a,b,c,d,e,f,g,rfl⟩
theorem fq{K:W.Frag}{Ad:Addr->Prop}{nm ql:Str}{st:Stmt}{ps:List Str}{f:Addr}{od an:Option Addr}{sl:Array (Option Value)}{oc kV dc pm cd ct:Value}(a:Ad f)(l:K.lookup f=some ⟨oc,od,.func (W.fnOf nm ql (vq st) (iF st) (aX st) .none kV dc pm an cd ct),sl⟩)(c:W.codeIn K cd ql=true)(k:W.keepIn K (.ref f)=true)(b:∀(kV doc pm:Value)(an:Option Addr)(Ve ct:Value)(us:List Value),us.length=ps.length->bindArgs (W.fnOf nm ql (vq st) (iF st) (aX st) .none kV doc pm an Ve ct) ⟨us,[]⟩=pure (ps.zip us)):∃a fd,Ad a/\Vh K nm ql st a fd/\jM K fd ps []:=⟨f,_,a,⟨⟨_,_,_,_,_,_,_,_,_,rfl,l,c⟩,k⟩,fun s us _ h=>by rw[acH]at h |-;exact .of_eq (b _ _ _ _ _ _ us h)⟩
theorem KK{l:W.OpenLaw}{w:World}{K:W.Frag}{h:Heap}{mg:Str->Option Value}{fa:Addr}(X:K.In h)(G:h.Ns mainGlobals mg)(hfa:mg "law"=some (.ref fa))
  {M_:Addr}
  {Oq:Addr}
  {J3:Addr}
  {Pr:Tok}
  {Oh:Tok}
  {Rh:Addr} {S9:Nat} {Rz:Tok} {Ry:Tok} {Rx:Tok} {Rv:Tok}
  (Qy:W.nsIn K mainGlobals "Joiner"=some (some (.ref M_)))
  (L_:Cls K M_)
  (Qv:W.makesIn K M_=true)
  (Qw:W.keepIn K (.ref M_)=true)
  (Og:W.findIn K (.ref M_) "loops"=some none)
  (Oa:W.findIn K (.ref M_) "pieces"=some none)
  (Qc:W.nsIn K mainGlobals "TooMany"=some (some (.ref Oq)))
  (Qd:W.nsIn K mainGlobals "BadName"=some (some (.ref J3)))
  (Pu:Nh K J3)
  (N_:W.excIn K Oq [.type "ValueError",.type "Exception",.type "BaseException",.type "object"] "ValueError.__new__"=true)
  (A_:W.exmOne K (.ref Oq) (.ref Oq)=some true)
  (PL:qM K J3 [.type "ValueError",.type "Exception",.type "BaseException",.type "object"] "ValueError.__new__"=true)
  (PJ:W.keepIn K (.ref J3)=true)
  (PB:Ig K J3=true)
  (Pz:W.findIn K (.ref J3) "__setattr__"=some (some (.builtin "object.__setattr__")))
  (Py:W.findIn K (.ref J3) "at"=some none)
  (Px:W.hasDictIn K J3=true)
  (hf:∀f:Fn,∃a fd,Yx K (fun i=>match i with|602=>M_|2=>J3|_=>0) f a/\Vh K (qe f) (xV f) (sL f) a fd/\jM K fd (kZ f) [])
  (K4:W.nsIn K mainGlobals "MOST_PUT_IN"=some (some (.int 400 Pr)))
  (v9:W.nsIn K mainGlobals "MOST_PUT_IN_DEPTH"=some (some (.int 24 Oh)))
  (Oo:W.nsIn K mainGlobals "NOTHING"=some (some (.ref Rh)))
  (Qx:K.lookup Rh=some { cls:=.type "tuple",data:=.seq #[.int 0 Rz,.int 0 Ry,.int 0 Rx,.int 0 Rv] S9 })
  (hn:∀i:Nt,W.nsIn K mainGlobals (IR i)=some none):
  ∃(fd:FuncData)(T:Nat->Option Addr),(∀(s:Shared)(u:Value),BindsTo s fd ⟨[u],[]⟩ [("_law_script",u)])/\TQ ⟨l.prog,w,K,mg,h,T⟩ (dl 100) fa fd ["_law_script"] (F 100 .law):=by
 let Y:Sys ⟨l.prog,w,K,mg,h,fun i=>match i with|1=>some Oq|2=>some J3|602=>some M_|_=>none⟩:={
  adr:=fun f=>(hf f).choose
  fd:=fun f=>(hf f).choose_spec.choose
  ok:=fun f=>(hf f).choose_spec.choose_spec.2.1
  bi:=fun f=>(hf f).choose_spec.choose_spec.2.2
  m:=fun f hp=>agD X G (by have q:=(hf f).choose_spec.choose_spec.1;cases f<;>first|exact q|cases hp)
  n:=fun i=>W.mg_none_of X G (hn i)
  Rq:=fun i=>match i with|1=>Oq|2=>J3|602=>M_|_=>0
  PN:=rfl
  PX:=agD X G Qc
  QS:=rfl
  QW:=agD X G Qd
  Ol:=rfl
  Rb:=agD X G Qy
  N_:=N_
  A_:=A_
  QM:=⟨.inl PL,(hf .j9).choose_spec.choose_spec.1.1,(hf .j9).choose_spec.choose_spec.1.2,PJ,PB,Pz,Py,Px,Pu⟩
  K4:=⟨Pr,(agD X G K4).trans (rfl)⟩
  v9:=⟨Oh,(agD X G v9).trans (rfl)⟩
  Oo:=⟨_,_,_,agD X G Oo,X _ _ Qx,by show 4<=sizeLine;decide,fun _ _=>(.cons (.int _ _) (.cons (.int _ _) (.cons (.int _ _) (.cons (.int _ _) .nil))))⟩
  L_:=L_
  Q_:=fun f hf=>by
   simp only[Sg,acn,acR,or_false]at hf;rcases hf with rfl|rfl
   ·exact Og
   ·exact Oa
  Ra:=⟨Qv,(hf .d9).choose_spec.choose_spec.1.1,(hf .d9).choose_spec.choose_spec.1.2,Qw⟩
  M9:=(hf .b_).choose_spec.choose_spec.1
  Ow:=(hf .g_).choose_spec.choose_spec.1
  N6:=(hf .f9).choose_spec.choose_spec.1 }
 have e:=(Y.m .law rfl).symm.trans hfa;obtain rfl:Y.adr .law=fa:=by injection e with e1;injection e1
 exact⟨Y.fd .law,_,fun s v=>by obtain⟨_,_,_,_,_,_,_,_,_,e,_⟩:=(Y.ok .law).ex;rw[e];exact .of_eq rfl,(pM Y 100).p .law⟩
end Qt
namespace L3
open PySem L2
theorem Res.Qn{α β:Type}(a:α)(h:List PO)(k:α->List PO->Res β):(Res.ok a h).bind k=k a h:=rfl
@[simp] theorem Res.Qo{α β:Type}(a:PV)(h:List PO)(k:α->List PO->Res β):(Res.exc a h).bind k=.exc a h:=rfl
theorem GY{α:Type}(a:α)(h:List PO):(Res.ok a h).calm=.ok a h:=rfl
theorem wP{n:Nat}{p:PV}(h:p.pure=true):R_ n p=true:=by cases p<;>first|exact h|(simp[PV.pure]at h)
theorem Aw(ls:List (List Nat)):fJ (ls.map PV.str)=some ls:=by
 induction ls with
 |nil=>rfl
 |cons l r ih=>simp[fJ,ih]
theorem fU{α:Type}{xs:List α}{j:Int}{v:α}(h0:0<=j)(h:xs[j.toNat]? =some v):O_ xs j=some v:=by have:=(acd.mp h).1;simp only[O_,Sd,if_pos h0,if_pos (show j<xs.length by omega)];exact h
theorem vC{α:Type}(xs:List α)(v:α):O_ (xs++ [v]) (-1)=some v:=by
 have e:(-1+((xs.length+1:Nat):Int)).toNat=xs.length:=by omega
 unfold O_ Sd;rw[if_neg (by decide),if_pos (by simp only[acs,acN];omega),acs,acN,e];simp
section
variable(ρ:Ev)(h:List PO)
@[simp] theorem Kc(i:Nat):ai i ρ h=match ρ[i]? with|some (some p)=>.ok (aq h p) h|_=>.bad:=rfl
theorem NI(v:PV):cK v ρ h=.ok v h:=rfl
theorem Ke:am ρ h=.ok [] h:=rfl
theorem Ec:gJ ρ h=.ok none h:=rfl
theorem Ka:cV ρ h=.ok true h:=rfl
theorem GK:cF ρ h=.nx ρ h:=rfl
@[simp] theorem dQ(f g:Sx):aA f g ρ h=match f ρ h with|.nx ρ1 h1=>g ρ1 h1|.rt v h1=>.rt v h1|.bk ρ1 h1=>.bk ρ1 h1|.ct ρ1 h1=>.ct ρ1 h1|.exc v h1=>.exc v h1|.bad=>.bad:=rfl
theorem Eb:Cc ρ h=.rt .non h:=rfl
theorem Bf:Ix ρ h=.bad:=rfl
theorem Ed(g:Gx)(body:Sx):aN g body [] ρ h=.nx ρ h:=rfl
theorem Kg(i:Nat)(p:PV):z_ i p ρ=some (ρ.set i (some p)):=rfl
end
section
variable(h:List PO)
theorem Ks(i:Int):aq h (.int i)=.int i:=rfl
theorem MZ(i:Bool):aq h (.bl i)=.bl i:=rfl
theorem Ko(i:List Nat):aq h (.str i)=.str i:=rfl
theorem Kp:aq h .non=.non:=rfl
theorem Km(i:List PV):aq h (.tup i)=.tup i:=rfl
theorem Kq(i:List PV):aq h (.lst i)=.lst i:=rfl
theorem Ku(i:List PV):aq h (.QD i)= .QD i:=rfl
theorem Kw(i:List (PK×PV)):aq h (.dct i)=.dct i:=rfl
theorem Kt(c:Nat)(i:List (Str×PV)):aq h (.ins c i)=.ins c i:=rfl
theorem GP(xs:List PV)(r:List PO):aq (.lst xs::r) (.ref 0)=.ref 0:=rfl
@[simp] theorem KM(a b:List PV):AO (.lst a) (.lst b) h=if a.length+b.length<=sizeLine then .ok (.lst (a++b)) h else .bad:=rfl
theorem Il(i j:Int):oT (.int i) (.int j) h=.ok (.int (i - j)) h:=rfl
theorem IZ(i j:Int):lF (.int i) (.int j) h=if jJ i j=true then .ok (.int (i * j)) h else .bad:=rfl
theorem Lw(C:Int->Int->Bool)(g:Int->Int->Int)(i j:Int):pI C g (.int i) (.int j) h=if C i j=true then .ok (.int (g i j)) h else .bad:=rfl
theorem LI(i:Int):lC (.int i) h=.ok (.int (-i)) h:=rfl
theorem KF(g:Int->Int->Bool)(i j:Int):AN g (.int i) (.int j) h=.ok (.bl (g i j)) h:=rfl
theorem NC(p:PV):Tv p .non h=.ok (.bl (kJ p)) h:=rfl
theorem Gg(p:PV):io p .non h=.ok (.bl (!kJ p)) h:=rfl
theorem Mv(l:List Nat)(i:Int):d7 (.str l) (.int i) h=match O_ l i with|some c=>if l.length<=sizeLine then .ok (.str [c]) h else .bad|none=>.bad:=rfl
@[simp] theorem Mu(l:List PV)(i:Int):d7 (.tup l) (.int i) h=match O_ l i with|some v=>.ok (aq h v) h|none=>.bad:=rfl
@[simp] theorem zG(l:List PV)(i:Int):d7 (.lst l) (.int i) h=match O_ l i with|some v=>.ok (aq h v) h|none=>.bad:=rfl
theorem LP(l:List Nat):gh [.str l] h=match(if l.length<=sizeLine then some l.length else none)with|some n=>.ok (.int n) h|none=>.bad:=rfl
theorem Dl(l:List PV):gh [.tup l] h=.ok (.int l.length) h:=rfl
theorem Ht(l:List PV):gh [.lst l] h=.ok (.int l.length) h:=rfl
@[simp] theorem Hu(l:List PV):gh [.QD l] h=.ok (.int l.length) h:=rfl
theorem Ji(ps:List PV):im ps h=if ps.length<=sizeLine then .ok (.lst ps) h else .bad:=rfl
theorem FK(ps:List PV):eP ps h=if ps.length<=sizeLine then .ok (.ref h.length) (h++ [.lst ps])else .bad:=rfl
theorem Ij(ps:List PV):aV ps h=if ps.length<=sizeLine then .ok (.tup ps) h else .bad:=rfl
theorem IM(ps:List PV):Qu ps h=.ok (.lst ps) h:=rfl
theorem Fy(ps:List PV):wL ps h=.ok (.ref h.length) (h++ [.lst ps]):=rfl
theorem MG(b:Bool):CG [.bl b] h=.ok (.int (if b then 1 else 0)) h:=rfl
theorem Lh(i:Int):AL [.int i] h=if i.natAbs.log2<1920 then .ok (.str (jb i)) h else .bad:=rfl
theorem Fb(l:List Nat):kE (.str l) h=.ok (l.map fun c=>PV.str [c]) h:=rfl
theorem Fa(l:List PV):kE (.tup l) h=.ok l h:=rfl
theorem yP(l:List PV):kE (.lst l) h=.ok l h:=rfl
theorem Gh(x:List Nat):tK h (.str x)=true:=rfl
@[simp] theorem Gw(i:Int):gQ h (.int i)=some (.int i,h):=by simp[gQ,PV.pure]
theorem JS(i:Bool):gQ h (.bl i)=some (.bl i,h):=by simp[gQ,PV.pure]
@[simp] theorem Gv:gQ h .non=some (.non,h):=by simp[gQ,PV.pure]
@[simp] theorem Gu(i:List Nat):gQ h (.str i)=some (.str i,h):=by simp[gQ,PV.pure]
@[simp] theorem Gy(c:Nat):gQ h (.ins c [])=some (.ins c [],h):=by simp[gQ,PV.pure,xX]
theorem DM:Qk [] h=some ([],h):=rfl
theorem Bb(p:PV)(r:List PV):Qk (p::r) h=match gQ h p with|some (q,h1)=>(match Qk r h1 with|some (qs,h2)=>some (q::qs,h2)|none=>none)|none=>none:=rfl
theorem CR(a b:List Nat):jr (.str a) (.str b) h=.ok (.bl (!zL a b)) h:=rfl
theorem Lg(b:Bool):uv h (.bl b)=some b:=rfl
theorem Lf(b:Int):uv h (.int b)=some (b !=0):=rfl
theorem vf(l:List PV):mj [.tup l,.ty "tuple"] h=.ok (.bl true) h:=rfl
end
theorem szl:(sizeLine:Nat)=16777216:=by decide
theorem ue(fn:List PV->Out)(ps:List PV)(h:List PO):bO fn ps h=match Qk ps h with|some (qs,h2)=>(match fn qs with|.ok v=>.ok v h2|.bad=>.bad)|none=>.bad:=rfl
theorem uV{i j:Int}(h:Q8 18446744073709551616 j=true):jJ i j=true:=by unfold jJ;rw[h,agh,aeV]
theorem Jc{i j:Int}(h:LM i j=true):jJ i j=true:=by unfold jJ;rw[h,aeV,aeV]
theorem Jb{i j:Int}(h:Q8 18446744073709551616 i=true):jJ i j=true:=by unfold jJ;rw[h,agh]
theorem CH(a b:List Nat)(h:List PO)(ha:∀c∈a,c<1114112)(hb:∀c∈b,c<1114112):J5 (.str a) (.str b) h=.ok (.bl (decide (a=b))) h:=by
 have ok:∀l:List Nat,(∀c∈l,c<1114112)->O9 h (.str l)=true:=by intro l hl;unfold O9 O8;simp only[toD,PyData.canLay0,PyData.depth];simp[PyData.strOk,S];exact hl
 unfold J5;rw[if_pos ⟨ok a ha,ok b hb⟩]
 have e:PyData.eqv (O8 h (.str a)) (O8 h (.str b))=decide (a=b):=by
  show PyData.eqv (toD (.str a)) (toD (.str b))=_;simp only[toD,PyData.eqv]
  by_cases q:a=b
  ·subst q;simp
  ·have:¬ S a=S b:=fun z=>q (xx z);simp[q,this]
 rw[e]
theorem Ey{α:Type}{xs:List α}{i:Int}(d:α)(h0:0<=i)(h1:i<(xs.length:Int)):O_ xs i=some (xs.getD i.toNat d):=by refine fU h0 ?_;rw[acy,acr (by omega)];rfl
theorem iU{α:Type}{xs:List α}{n:Nat}{d:α}(h:n<xs.length):xs.getD n d∈xs:=by rw[acy,acr h];exact ae6 h
theorem tJ:∀ls:List (List Nat),mK [] ls=ls.flatten
 |[]=>rfl
 |[x]=>by simp[mK]
 |x::y::r=>by show x++ []++mK [] (y::r)=_;rw[tJ (y::r),acH];rfl
theorem CE{sep:List Nat}{q:PV}{ls:List (List Nat)}{h:List L3.PO}(e:S_ h q=some (ls.map PV.str))(hz:(ls.map (fun l=>l.length)).sum+ls.length * sep.length<=16777216):nO (.str sep) [q] h=.ok (.str (mK sep ls)) h:=by unfold nO;simp only[e,Aw,hz,if_true]
theorem Fq{ls:List (List Nat)}{h:List L3.PO}(hz:(ls.map (fun l=>l.length)).sum<=16777216):nO (.str []) [.lst (ls.map PV.str)] h=.ok (.str ls.flatten) h:=by rw[CE (ls:=ls) rfl (by simpa using hz),tJ]
theorem KJ(xs:List PV)(r:List L3.PO)(p:PV):bD (.ref 0) [p] (.lst xs::r)=if xs.length<sizeLine then .ok .non (.lst (xs++ [p])::r)else .bad:=rfl
theorem JI(xs:List PV)(r:List L3.PO):dZ (.lst xs::r) (.ref 0)=true:=rfl
theorem IK(a b:Int)(h:List L3.PO):J5 (.int a) (.int b) h=.ok (.bl (decide (a=b))) h:=by
 have ok:∀l:Int,O9 h (.int l)=true:=fun l=>by unfold O9 O8;simp[toD,PyData.canLay0,PyData.depth]
 unfold J5;rw[if_pos ⟨ok a,ok b⟩]
 have e:PyData.eqv (O8 h (.int a)) (O8 h (.int b))=decide (a=b):=by
  show PyData.eqv (toD (.int a)) (toD (.int b))=_;simp only[toD,PyData.eqv]
  by_cases q:a=b<;>simp[q]
 rw[e]
theorem jt(a b:Int)(h:List L3.PO):QC (.int a) (.int b) h=.ok (.bl (!decide (a=b))) h:=by
 have ok:∀l:Int,O9 h (.int l)=true:=fun l=>by unfold O9 O8;simp[toD,PyData.canLay0,PyData.depth]
 unfold QC;rw[if_pos ⟨ok a,ok b⟩]
 have e:PyData.eqv (O8 h (.int a)) (O8 h (.int b))=decide (a=b):=by
  show PyData.eqv (toD (.int a)) (toD (.int b))=_;simp only[toD,PyData.eqv]
  by_cases q:a=b<;>simp[q]
 rw[e]
variable{m:Nat}{raw WQ:List Nat}
open PySem.NumText (digitsVal AllDigits)
section
variable(h:List L3.PO)(ρ:Ev)
theorem EQ(xs:List PV):df [.lst xs] h=.ok (.tup xs) h:=rfl
end
theorem rI{l:List Nat}(h:List L3.PO)(hl:∀c∈l,c<1114112):O9 h (.str l)=true:=by unfold O9 O8;simp only[toD,PyData.canLay0,PyData.depth];simp[PyData.strOk,S];exact hl
theorem Kj(a b:List Nat)(ha:∀c∈a,c<1114112)(hb:∀c∈b,c<1114112):PyData.eqv (toD (.str a)) (toD (.str b))=decide (a=b):=by
 have:=CH a b [] ha hb;unfold J5 at this;rw[if_pos ⟨rI [] ha,rI [] hb⟩]at this;injection this with this
 injection this
theorem vE{x:List Nat}(hx:∀c∈x,c<1114112):∀{ls:List (List Nat)},(∀l∈ls,∀c∈l,c<1114112)->((ls.map PV.str).any fun y=>PyData.eqv (toD y) (toD (.str x)))=decide (x∈ls)
 |[],_=>rfl
 |l::r,h=>by rw[ab7,adM,Kj l x (h l (by simp)) hx,vE hx fun z hz=>h z (acg _ hz),agp,ac4,decide_eq_true_eq,decide_eq_true_eq,decide_eq_true_eq,acn];exact or_congr eq_comm Iff.rfl
theorem pM:∀{ls:List (List Nat)},(∀l∈ls,∀c∈l,c<1114112)->(ls.map PV.str).all (O9 [])=true
 |[],_=>rfl
 |l::r,h=>by rw[ab7,adN,rI [] (h l (by simp)),pM fun z hz=>h z (acg _ hz)];rfl
theorem Hw{x:List Nat}{ls:List (List Nat)}(hx:∀c∈x,c<1114112)(hl:∀l∈ls,∀c∈l,c<1114112)(h:List L3.PO):AM (.str x) (.tup (ls.map PV.str)) h=some (decide (x∈ls)):=by show(if O9 [] (.str x)=true/\(ls.map PV.str).all (O9 [])=true then some ((ls.map PV.str).any fun y=>PyData.eqv (toD y) (toD (.str x)))else none)=_;rw[if_pos ⟨rI [] hx,pM hl⟩,vE hx hl]
theorem MJ{x:List Nat}{ls:List (List Nat)}(hx:∀c∈x,c<1114112)(hl:∀l∈ls,∀c∈l,c<1114112)(h:List L3.PO):AM (.str x) (.lst (ls.map PV.str)) h=some (decide (x∈ls)):=by show(if O9 [] (.str x)=true/\(ls.map PV.str).all (O9 [])=true then some ((ls.map PV.str).any fun y=>PyData.eqv (toD y) (toD (.str x)))else none)=_;rw[if_pos ⟨rI [] hx,pM hl⟩,vE hx hl]
theorem NE{x:List Nat}{ls:List (List Nat)}(hx:∀c∈x,c<1114112)(hl:∀l∈ls,∀c∈l,c<1114112)(h:List L3.PO):R7 (.str x) (.tup (ls.map PV.str)) h=.ok (.bl (decide (x∈ls))) h:=by unfold R7;rw[Hw hx hl]
theorem LH{x:List Nat}{ls:List (List Nat)}(hx:∀c∈x,c<1114112)(hl:∀l∈ls,∀c∈l,c<1114112)(h:List L3.PO):jr (.str x) (.tup (ls.map PV.str)) h=.ok (.bl (!decide (x∈ls))) h:=by unfold jr;rw[Hw hx hl]
theorem MH{x:List Nat}{ls:List (List Nat)}(hx:∀c∈x,c<1114112)(hl:∀l∈ls,∀c∈l,c<1114112)(h:List L3.PO):R7 (.str x) (.lst (ls.map PV.str)) h=.ok (.bl (decide (x∈ls))) h:=by unfold R7;rw[MJ hx hl]
section
variable(ρ:Ev)(h:List PO)
theorem km(z:Bool)(C:Nat)(as:Ax)(hz:z=true):lZ z C as ρ h=oQ C (as ρ h):=by unfold lZ;rw[if_pos hz]
theorem AD(C:Nat)(v:PV):oQ C (.ok [v] h)=.exc (.Ql C v) h:=rfl
theorem Kv(C:Nat)(v:PV):aq h (.Ql C v)= .Ql C v:=rfl
theorem Be(C:Nat)(as:Ax):uG C as ρ h=match as ρ h with
 |.ok qs h1=>if qs.length<=sizeLine then .exc (.cls C) h1 else .bad
 |.exc e h1=>.exc e h1
 |.bad=>.bad:=rfl
end
section
variable(ρ:Ev)(h:List PO)
theorem GL:lW ρ h=.ok (.ref h.length) (h++ [.dct []]):=rfl
theorem LR(l:List (PK×PV)):gh [.dct l] h=.ok (.int l.length) h:=rfl
theorem GR(l:List (PK×PV)):iQ [.dct l] h=.ok (.ref h.length) (h++ [.dct l]):=rfl
theorem My(l:List (PK×PV))(x:List Nat):d7 (.dct l) (.str x) h=match dI l (.inr x)with|some v=>.ok (aq h v) h|none=>.bad:=rfl
theorem MI(l:List (PK×PV))(x:List Nat):jr (.str x) (.dct l) h=.ok (.bl (!(dI l (.inr x)).isSome)) h:=rfl
theorem He(i j:Int):aI (.int i) (.int j) h=.ok (.int (i+j)) h:=rfl
theorem Am(a b:List Nat):aI (.str a) (.str b) h=if a.length+b.length<=sizeLine then .ok (.str (a++b)) h else .bad:=rfl
theorem MY(l:List (PK×PV))(r:List PO):aq (.dct l::r) (.ref 0)=.ref 0:=rfl
theorem MX(a:PO)(l:List (PK×PV))(r:List PO):aq (a::.dct l::r) (.ref 1)=.ref 1:=rfl
theorem zO{l:List (PK×PV)}(r:List PO)(hp:aW l=true):TJ (.ref 0) (.dct l::r)=.ok (.dct l) (.J8 (.dct l)::r):=by simp[TJ,W6,nV,hp]
theorem gy{p:PV}(hp:p.pure=true):gQ h p=some (p,h):=by cases p<;>first|(simp[PV.pure]at hp;done)|simp[gQ,hp]
theorem aL{p:PV}(hp:p.pure=true):aq h p=p:=by cases p<;>first|(simp[PV.pure]at hp;done)|rfl
theorem Iu(v:PV)(l:List (PK×PV))(r:List PO)(x:List Nat):mG v (.ref 0) (.str x) ρ (.dct l::r)=if l.length<sizeLine then .nx ρ (.dct (dP l (.inr x) v)::r)else .bad:=rfl
theorem Mz(l:List (PK×PV))(r:List PO)(x:List Nat):d7 (.ref 0) (.str x) (.dct l::r)=match dI l (.inr x)with|some v=>.ok (aq (.dct l::r) v) (.dct l::r)|none=>.bad:=rfl
theorem LO(a:PO)(l:List (PK×PV))(r:List PO):(nV (a::.dct l::r) (.ref 1)).isSome=true:=rfl
end
section
variable{ρ:Ev}{h:List L3.PO}
theorem MQ(n:Nat)(gs:Ub)(ps:List PV):Rc n gs (.tup ps) ρ=if ps.length=n then gs ps ρ else none:=rfl
theorem NH:fX [] ρ=some ρ:=rfl
theorem Kk(xs:List PV):GO [.lst xs] h=.ok (Rd 0 xs) h:=rfl
theorem Lm(l:List Nat)(lo hi:Option Int):jq (.str l) lo hi h=if l.length<=sizeLine then .ok (.str (cut l lo hi)) h else .bad:=rfl
theorem Hn(l:List PV)(lo hi:Option Int):jq (.lst l) lo hi h=.ok (.lst (cut l lo hi)) h:=rfl
theorem Jh(i j:Int):wA [.int i,.int j] h=.ok (.int (if j>i then j else i)) h:=rfl
end
section
variable(ρ:Ev)(h:List PO)
theorem LN(xs:List PV):jF (.tup xs) h=match fJ xs with|some ls=>if ls.length+1<scanBound then .ok (.int (oN ls:Nat)) h else .bad|none=>.bad:=rfl
theorem Ja(xs:List PV)(k:Int):rG (.tup xs) (.int k) h=if Q8 9223372036854775808 k=true/\xs.length * k.toNat<=sizeLine then .ok (.tup (sQ xs k)) h else .bad:=rfl
end
section
variable(ρ:Ev)(h:List PO)(a K xa:PV)(b:Ev)(c d e f g i j k l m n o p q r s t u v y:Option PV)(w:Nat)(x I O:Ex)(z A:Sx)(B:PV->List PO->Res PV)(C:List PV->List PO->Res PV)(D:Ax)(E:List PV->Out)(G:List PV->Res PV)(H N:PV->PV->List PO->Res PV)(J:List PV)(L:Bool)(M W:Tx)(P Q:Ox)(R:PV->Option Int->Option Int->List PO->Res PV)(S:Option Int)(T:Int)(U:List PO->PV->Bool)(V:PV->List PV->List PO->Res PV)(X:List Nat)(Y:Gx)(Z:PV->PV->PV->Ev->List PO->SR)(xb:Ub)
theorem kv0:ai 0 (some a::b) h=.ok (aq h a) h:=rfl
theorem kv1:ai 1 (c::some a::b) h=.ok (aq h a) h:=rfl
theorem kv2:ai 2 (c::d::some a::b) h=.ok (aq h a) h:=rfl
theorem kv3:ai 3 (c::d::e::some a::b) h=.ok (aq h a) h:=rfl
theorem kv4:ai 4 (c::d::e::f::some a::b) h=.ok (aq h a) h:=rfl
theorem kv5:ai 5 (c::d::e::f::g::some a::b) h=.ok (aq h a) h:=rfl
theorem kv6:ai 6 (c::d::e::f::g::i::some a::b) h=.ok (aq h a) h:=rfl
theorem kv7:ai 7 (c::d::e::f::g::i::j::some a::b) h=.ok (aq h a) h:=rfl
theorem kv8:ai 8 (c::d::e::f::g::i::j::k::some a::b) h=.ok (aq h a) h:=rfl
theorem kv9:ai 9 (c::d::e::f::g::i::j::k::l::some a::b) h=.ok (aq h a) h:=rfl
theorem Nq:ai 10 (c::d::e::f::g::i::j::k::l::m::some a::b) h=.ok (aq h a) h:=rfl
theorem Np:ai 11 (c::d::e::f::g::i::j::k::l::m::n::some a::b) h=.ok (aq h a) h:=rfl
theorem No:ai 12 (c::d::e::f::g::i::j::k::l::m::n::o::some a::b) h=.ok (aq h a) h:=rfl
theorem Nn:ai 13 (c::d::e::f::g::i::j::k::l::m::n::o::p::some a::b) h=.ok (aq h a) h:=rfl
def R0(i:Nat)(ρ:Ev)(r:Res PV):SR:=eH r fun v h1=>.nx (ρ.set i (some v)) h1
theorem FW:aJ w x ρ h=R0 w ρ (x ρ h):=rfl
theorem ks0:R0 0 (c::b) (.ok a h)=.nx (some a::b) h:=rfl
theorem ks1:R0 1 (c::d::b) (.ok a h)=.nx (c::some a::b) h:=rfl
theorem ks2:R0 2 (c::d::e::b) (.ok a h)=.nx (c::d::some a::b) h:=rfl
theorem ks3:R0 3 (c::d::e::f::b) (.ok a h)=.nx (c::d::e::some a::b) h:=rfl
theorem ks4:R0 4 (c::d::e::f::g::b) (.ok a h)=.nx (c::d::e::f::some a::b) h:=rfl
theorem ks5:R0 5 (c::d::e::f::g::i::b) (.ok a h)=.nx (c::d::e::f::g::some a::b) h:=rfl
theorem ks6:R0 6 (c::d::e::f::g::i::j::b) (.ok a h)=.nx (c::d::e::f::g::i::some a::b) h:=rfl
theorem ks7:R0 7 (c::d::e::f::g::i::j::k::b) (.ok a h)=.nx (c::d::e::f::g::i::j::some a::b) h:=rfl
theorem ks8:R0 8 (c::d::e::f::g::i::j::k::l::b) (.ok a h)=.nx (c::d::e::f::g::i::j::k::some a::b) h:=rfl
theorem ks9:R0 9 (c::d::e::f::g::i::j::k::l::m::b) (.ok a h)=.nx (c::d::e::f::g::i::j::k::l::some a::b) h:=rfl
theorem Nx:R0 10 (c::d::e::f::g::i::j::k::l::m::n::b) (.ok a h)=.nx (c::d::e::f::g::i::j::k::l::m::some a::b) h:=rfl
theorem Nv:R0 11 (c::d::e::f::g::i::j::k::l::m::n::o::b) (.ok a h)=.nx (c::d::e::f::g::i::j::k::l::m::n::some a::b) h:=rfl
theorem Nu:R0 12 (c::d::e::f::g::i::j::k::l::m::n::o::p::b) (.ok a h)=.nx (c::d::e::f::g::i::j::k::l::m::n::o::some a::b) h:=rfl
theorem Nr:R0 13 (c::d::e::f::g::i::j::k::l::m::n::o::p::q::b) (.ok a h)=.nx (c::d::e::f::g::i::j::k::l::m::n::o::p::some a::b) h:=rfl
theorem Jp:R0 w ρ (.exc a h)=.exc a h:=rfl
def yR(g:Sx)(r:SR):SR:=match r with
 |.nx ρ1 h1=>g ρ1 h1
 |.rt v h1=>.rt v h1
 |.bk ρ1 h1=>.bk ρ1 h1
 |.ct ρ1 h1=>.ct ρ1 h1
 |.exc v h1=>.exc v h1
 |.bad=>.bad
theorem zF:aA z A ρ h=yR A (z ρ h):=rfl
theorem Hm:yR z (.nx ρ h)=z ρ h:=rfl
theorem Lk:yR z (.rt a h)=.rt a h:=rfl
theorem Im:yR z (.exc a h)=.exc a h:=rfl
def kg{α β:Type}(f:α->List PO->Res β)(r:Res α):Res β:=r.bind f
theorem Mg{α β:Type}(f:α->List PO->Res β)(a:α):kg f (.ok a h)=f a h:=rfl
theorem Me:c1 B x ρ h=kg B (x ρ h):=rfl
theorem Mb:cN C D ρ h=kg C (D ρ h):=rfl
theorem Ga:bG E D ρ h=kg (bO E) (D ρ h):=rfl
theorem Dw:aR C D ρ h=kg (w6 C) (D ρ h):=rfl
theorem Gb:eI x ρ h=kg kE (x ρ h):=rfl
theorem Dx:An D ρ h=kg GO (D ρ h):=rfl
theorem Ma:R4 x ρ h=kg TJ (x ρ h):=rfl
def k2(g:PV->PV->List PO->Res PV)(b:Ex)(ρ:Ev)(r:Res PV):Res PV:=r.bind fun x h1=>kg (g x) (b ρ h1)
theorem Md:c2 H x I ρ h=k2 H I ρ (x ρ h):=rfl
theorem Mr:k2 H x ρ (.ok a h)=kg (H a) (x ρ h):=rfl
def Xx(x:PV)(r:Res (List PV)):Res (List PV):=r.bind fun xs h2=>.ok (x::xs) h2
def kC(r:Ax)(ρ:Ev)(x:Res PV):Res (List PV):=x.bind fun x h1=>Xx x (r ρ h1)
theorem FZ:af x D ρ h=kC D ρ (x ρ h):=rfl
theorem Mp:kC D ρ (.ok a h)=Xx a (D ρ h):=rfl
theorem JF:Xx a (.ok J h)=.ok (a::J) h:=rfl
def kOr(g:Ex)(ρ:Ev)(r:Res PV):Res PV:=r.bind fun p h1=>match p with|.bl b=>if b=true then .ok (.bl true) h1 else g ρ h1|_=>.bad
theorem LZ:Vv x I ρ h=kOr I ρ (x ρ h):=rfl
theorem Ml:kOr x ρ (.ok (.bl L) h)=if L=true then .ok (.bl true) h else x ρ h:=rfl
def Zu(f g:Ex)(ρ:Ev)(r:Res Bool):Res PV:=r.bind fun b h1=>if b=true then f ρ h1 else g ρ h1
theorem Jn:yy M x I ρ h=Zu x I ρ (M ρ h):=rfl
theorem JB:Zu x I ρ (.ok L h)=if L=true then x ρ h else I ρ h:=rfl
def Xu(f:PV->Option Int->Option Int->List PO->Res PV)(hi:Ox)(ρ:Ev)(p:PV)(r:Res (Option Int)):Res PV:=r.bind fun l h2=>kg (f p l) (hi ρ h2)
def Zr(f:PV->Option Int->Option Int->List PO->Res PV)(lo hi:Ox)(ρ:Ev)(r:Res PV):Res PV:=r.bind fun p h1=>Xu f hi ρ p (lo ρ h1)
theorem Jl:iB x P Q ρ h=Zr jq P Q ρ (x ρ h):=rfl
theorem Jz:Zr R P Q ρ (.ok a h)=Xu R Q ρ a (P ρ h):=rfl
theorem Jy:Xu R P ρ a (.ok S h)=kg (R a S) (P ρ h):=rfl
def kO(r:Res PV):Res (Option Int):=r.bind fun p h1=>match p with|.int i=>.ok (some i) h1|_=>.bad
theorem Dv:di x ρ h=kO (x ρ h):=rfl
theorem Nz:kO (.ok (.int T) h)=.ok (some T) h:=rfl
def kM(recv:List PO->PV->Bool)(g:PV->List PV->List PO->Res PV)(as:Ax)(ρ:Ev)(r:Res PV):Res PV:=r.bind fun p h1=>if recv h1 p=true then kg (g p) (as ρ h1)else .bad
theorem Mc:cM U V x D ρ h=kM U V D ρ (x ρ h):=rfl
theorem Mm:kM U V D ρ (.ok a h)=if U h a=true then kg (V a) (D ρ h)else .bad:=rfl
def Xq(h:List PO)(o:Option Bool):Res Bool:=match o with|some b=>.ok b h|none=>.bad
def Zn(r:Res PV):Res Bool:=r.bind fun p h1=>Xq h1 (uv h1 p)
theorem FS:kD x ρ h=Zn (x ρ h):=rfl
theorem Jv:Zn (.ok a h)=Xq h (uv h a):=rfl
theorem Mh:Xq h (some L)=.ok L h:=rfl
def Zx(r:Res PV):Res Bool:=r.bind fun p h1=>match p with|.bl b=>.ok b h1|_=>.bad
theorem FT:aE x ρ h=Zx (x ρ h):=rfl
theorem Mo:Zx (.ok (.bl L) h)=.ok L h:=rfl
def Zo(g:Tx)(ρ:Ev)(r:Res Bool):Res Bool:=r.bind fun b h1=>if b=true then g ρ h1 else .ok false h1
theorem FU:je M W ρ h=Zo W ρ (M ρ h):=rfl
theorem Jw:Zo M ρ (.ok L h)=if L=true then M ρ h else .ok false h:=rfl
def Zm(g:Tx)(ρ:Ev)(r:Res Bool):Res Bool:=r.bind fun b h1=>if b=true then .ok true h1 else g ρ h1
theorem Jk:jA M W ρ h=Zm W ρ (M ρ h):=rfl
theorem Ju:Zm M ρ (.ok L h)=if L=true then .ok true h else M ρ h:=rfl
def Zq(ps:List PV)(h1:List PO):Res (List PV):=match ps with|[.int j]=>if Q8 4611686018427387904 j=true then .ok ((List.range j.toNat).map fun i=>PV.int (0+(i:Nat))) h1 else .bad|_=>.bad
theorem AW:hM D ρ h=kg Zq (D ρ h):=rfl
theorem Mj(j:Int):Zq [.int j] h=if Q8 4611686018427387904 j=true then .ok ((List.range j.toNat).map fun i=>PV.int (0+(i:Nat))) h else .bad:=rfl
def Zw(m8:List Nat)(tt:Tx)(te:Ex)(ρ:Ev)(r:Res (List PV)):Res (List PV):=r.bind fun xs h1=>if xs.length<sizeLine then(cY tt te (dj m8 ρ) xs h1).calm else .bad
theorem Dy:dH X D M x ρ h=Zw X M x ρ (D ρ h):=rfl
theorem JE:Zw X M x ρ (.ok J h)=if J.length<sizeLine then(cY M x (dj X ρ) J h).calm else .bad:=rfl
def Xr(r:Res PV):SR:=eH r fun v h1=>.rt v h1
theorem FX:br x ρ h=Xr (x ρ h):=rfl
theorem Jx(v:PV):Xr (.ok v h)=.rt v h:=rfl
theorem Gd(v:PV):Xr (.exc v h)=.exc v h:=rfl
def Xw(ρ:Ev)(r:Res PV):SR:=eH r fun _ h1=>.nx ρ h1
theorem Du:dq x ρ h=Xw ρ (x ρ h):=rfl
theorem JD:Xw ρ (.ok a h)=.nx ρ h:=rfl
theorem Ge:Xw ρ (.exc a h)=.exc a h:=rfl
def Zt(f g:Sx)(ρ:Ev)(r:Res Bool):SR:=HM r fun b h1=>if b=true then f ρ h1 else g ρ h1
theorem Jm:K3 M z A ρ h=Zt z A ρ (M ρ h):=rfl
theorem JA:Zt z A ρ (.ok L h)=if L=true then z ρ h else A ρ h:=rfl
def Zv(g:Gx)(body:Sx)(ρ:Ev)(r:Res (List PV)):SR:=Ds r fun xs h1=>aN g body xs ρ h1
theorem FY:gf D Y z ρ h=Zv Y z ρ (D ρ h):=rfl
theorem JC:Zv Y z ρ (.ok J h)=aN Y z J ρ h:=rfl
def Xn(s:PV->PV->PV->Ev->List PO->SR)(ρ:Ev)(v o:PV)(r:Res PV):SR:=eH r fun i h3=>s v o i ρ h3
def Xo(s:PV->PV->PV->Ev->List PO->SR)(fi:Ex)(ρ:Ev)(v:PV)(r:Res PV):SR:=eH r fun o h2=>Xn s ρ v o (fi ρ h2)
def Xp(s:PV->PV->PV->Ev->List PO->SR)(fo fi:Ex)(ρ:Ev)(r:Res PV):SR:=eH r fun v h1=>Xo s fi ρ v (fo ρ h1)
theorem Dt:iO x I O ρ h=Xp iN x I ρ (O ρ h):=rfl
theorem FV:kF x I O ρ h=Xp mG x I ρ (O ρ h):=rfl
theorem Jt:Xp Z x I ρ (.ok a h)=Xo Z I ρ a (x ρ h):=rfl
theorem Js:Xo Z x ρ a (.ok K h)=Xn Z ρ a K (x ρ h):=rfl
theorem Jr:Xn Z ρ a K (.ok xa h)=Z a K xa ρ h:=rfl
def Xy(h:List PO)(o:Option Ev):SR:=match o with|some ρ1=>.nx ρ1 h|none=>.bad
def Zy(g:Gx)(ρ:Ev)(r:Res PV):SR:=eH r fun v h1=>Xy h1 (g v ρ)
theorem Jo:AA Y x ρ h=Zy Y ρ (x ρ h):=rfl
theorem JG:Zy Y ρ (.ok a h)=Xy h (Y a ρ):=rfl
theorem Mq:Xy h (some ρ)=.nx ρ h:=rfl
def kG(gs:Ub)(r:List PV)(o:Option Ev):Option Ev:=match o with|some ρ1=>gs r ρ1|none=>none
theorem Ny:bw Y xb (a::J) ρ=kG xb J (Y a ρ):=rfl
theorem NA:kG xb J (some ρ)=xb J ρ:=rfl
def WW(h:List PO)(o:Option PV):Res PV:=match o with|some v=>.ok (aq h v) h|none=>.bad
theorem Mn:WW h (some a)=.ok (aq h a) h:=rfl
theorem LW:d7 (.tup J) (.int T) h=WW h (O_ J T):=rfl
theorem LX:d7 (.lst J) (.int T) h=WW h (O_ J T):=rfl
theorem LY:d7 (.QD J) (.int T) h=WW h (O_ J T):=rfl
end
section
variable(ρ:Ev)(h:List PO)(a b:PV)(w j:Nat)(x y:Ex)(z g:Sx)(C:List PV->List PO->Res PV)(D:Ax)(J:List PV)(o:Option (Nat×List PV))(f:Nat->Bool)(i:Nat)
theorem CP:lX C D ρ h=kg C (D ρ h):=rfl
def WK(C:List PV->List PO->Res PV)(p:PV)(r:Res (List PV)):Res PV:=r.bind fun ps h2=>C (p::ps) h2
def WD(w:Nat)(C:List PV->List PO->Res PV)(D:Ax)(ρ:Ev)(r:Res PV):Res PV:=r.bind fun p h1=>if(sV w h1 p).isSome=true then WK C p (D ρ h1)else .bad
theorem zn:gD w C x D ρ h=WD w C D ρ (x ρ h):=by
 unfold gD WD
 cases x ρ h with
 |ok p h1=>
  show(match sV w h1 p with|some _=>_|none=>_)=_
  cases q:sV w h1 p with
  |none=>simp[Res.bind,q]
  |some _=>simp[Res.bind,q,WK]
 |exc _ _=>rfl
 |bad=>rfl
theorem IX:WD w C D ρ (.ok a h)=if(sV w h a).isSome=true then WK C a (D ρ h)else .bad:=rfl
theorem IY:WK C a (.ok J h)=C (a::J) h:=rfl
theorem IQ:Bj w C D ρ h=kg (Vq w C) (D ρ h):=rfl
def IW(w j:Nat)(ρ:Ev)(v:PV)(r:Res PV):SR:=eH r fun o h2=>BW w j v o ρ h2
def LL(w j:Nat)(fo:Ex)(ρ:Ev)(r:Res PV):SR:=eH r fun v h1=>IW w j ρ v (fo ρ h1)
theorem Fs:qW w j x y ρ h=LL w j x ρ (y ρ h):=rfl
theorem FG:LL w j x ρ (.ok a h)=IW w j ρ a (x ρ h):=rfl
theorem FF:IW w j ρ a (.ok b h)=BW w j a b ρ h:=rfl
theorem IP:KR D ρ h=kg Bo (D ρ h):=rfl
theorem HU(J K:List PV):Bo [.tup J,.tup K] h=.ok (Ss J K) h:=rfl
end
end L3
namespace Qt
open PySem L2 L3
local macro_rules | `(tactic| simp $c:optConfig only [EV,$xs,*])=>do let a<-(("Eg Res.Qn GY NI Ke Ec Ka GK Eb Bf Ed Kg Ks MZ Ko Kp Km Kq Ku Kw Kt GP Il IZ Lw LI KF NC Gg Mv LP Dl Ht Ji FK Ij IM Fy MG Lh Fb Fa yP Gh JS DM Bb CR Lg Lf vf szl EQ AD Kv Be GL LR GR My MI He Am MY MX Iu Mz LO MQ NH Kk Lm Hn Jh LN kv0 kv1 kv2 kv3 kv4 kv5 kv6 kv7 kv8 kv9 Nq Np No Nn FW ks0 ks1 ks2 ks3 ks4 ks5 ks6 ks7 ks8 ks9 Nx Nv Nu Nr Jp zF Hm Lk Im Mg Me Mb Ga Dw Gb Dx Ma Md Mr FZ Mp JF LZ Ml Jn JB Jl Jz Jy Dv Nz Mc Mm FS Jv Mh FT Mo FU Jw Jk Ju AW Mj Dy JE FX Jx Gd Du JD Ge Jm JA FY JC Dt FV Jt Js Jr Jo JG Mq Ny NA Mn LW LX LY CP zn IX IY IQ Fs FG FF IP HU".splitOn.map fun n=>`L3++n.toName)++("List.getElem?_cons_zero List.getElem?_cons_succ List.set_cons_zero List.set_cons_succ List.map_cons List.map_nil List.append_nil List.nil_append List.cons_append if_true if_false reduceIte Bool.not_true Bool.not_false Bool.true_and Bool.false_and Bool.and_true Bool.and_false Bool.true_or Bool.false_or Bool.or_true Bool.or_false Bool.not_not eq_self_iff_true true_and and_true Bool.false_eq_true reduceCtorEq List.length_cons List.length_nil List.replicate Nat.sub_self Nat.zero_add Option.isSome_some Option.isSome_none Nat.reduceAdd Nat.reduceLeDiff Int.reduceLT Int.reduceLE decide_true decide_false Int.reduceNeg Int.reducePow Nat.reducePow Int.reduceAdd Int.reduceMul Int.reduceSub Nat.reduceSub and_self Nat.reduceMul Nat.reduceEqDiff".splitOn.map fun n=>n.toName)).toArray.mapM fun n=>`(Lean.Parser.Tactic.simpLemma| $(Lean.mkIdent n):term);`(tactic| simp $c:optConfig only [$a,*,$xs,*])
structure u9 where
 a:List Nat
 f:List (List Nat)
noncomputable def G3(p:u9):PV:=.tup (.str p.a::p.f.map PV.str)
def dG(l:List u9):List PV:=l.map G3
noncomputable def nms(l:List (List Nat)):PV:=.tup (l.map PV.str)
mutual
inductive Nd where
 |text (s:List Nat)
 |place (p:u9) (w:List Nat)
 |loop (n:List Nat) (p:u9) (ns:j7) (b:List Nat)
 |choice (p:u9) (y n:j7)
 |use (n:List Nat) (ps:List u9)
 |j8 (n:List Nat) (ps:List u9) (h:List (List Nat)) (b:j7)
 |body (ps:List u9)
inductive j7 where
 |nil
 |cons (n:Nd) (r:j7)
end
abbrev tT:List Nat:=[116,101,120,116]
abbrev tP:List Nat:=[112,108,97,99,101]
abbrev tL:List Nat:=[108,111,111,112]
abbrev tC:List Nat:=[99,104,111,105,99,101]
abbrev tU:List Nat:=[117,115,101]
abbrev tB:List Nat:=[98,111,100,121]
abbrev tI:List Nat:=[112,105,101,99,101]
mutual
def nd:Nd->PV
 |.text s=>.tup [.str tT,.str s]
 |.place p w=>.tup [.str tP,G3 p,.str w]
 |.loop n p ns b=>.tup [.str tL,.str n,G3 p,.tup (d8 ns),.str b]
 |.choice p y n=>.tup [.str tC,G3 p,.tup (d8 y),.tup (d8 n)]
 |.use n ps=>.tup [.str tU,.str n,.tup (dG ps),.non,.non]
 |.j8 n ps h b=>.tup [.str tU,.str n,.tup (dG ps),nms h,.tup (d8 b)]
 |.body ps=>.tup [.str tB,.tup (dG ps)]
def d8:j7->List PV
 |.nil=> []
 |.cons n r=>nd n::d8 r
end
structure Pc where
 n:List Nat
 ns:List (List Nat)
 m:Option Int
 b:j7
noncomputable def H7:Option Int->PV
 |none=>.non
 |some i=>.int i
def pc(q:Pc):PV:=.tup [.str tI,.str q.n,nms q.ns,H7 q.m,.tup (d8 q.b)]
def bk(l:List Pc):PV:=.tup (l.map pc)
noncomputable def out(ns:List (List Nat))(p:u9):Bool:=!ns.contains p.a
noncomputable def look(E:List Pc)(n:List Nat):Option Pc:=E.find? fun q=>q.n==n
def dup(l:List (List Nat)):Bool:=decide (oN l<l.length)
def Ri(ps:List u9)(q:Pc):Option (List (List Nat))->Bool
 |none=>ps.length !=q.ns.length||q.m.isSome
 |some l=>ps.length !=q.ns.length||match q.m with
  |none=>true
  |some m=>(l.length:Int) !=m||dup l
def Pk(E:List Pc)(m:Option Int)(ns:List (List Nat)):Nd->Bool
 |.text _=>false
 |.place p _=>out ns p
 |.loop _ p _ _=>out ns p
 |.choice p _ _=>out ns p
 |.use n ps=>ps.any (out ns)||match look E n with
  |none=>true
  |some q=>Ri ps q none
 |.j8 n ps h _=>ps.any (out ns)||match look E n with
  |none=>true
  |some q=>Ri ps q (some h)
 |.body ps=>ps.any (out ns)||match m with
  |none=>true
  |some i=>(ps.length:Int) !=i
mutual
def QX(E:List Pc)(m:Option Int)(w:List Int)(ns:List (List Nat)):Nd->Option (List Int)
 |.loop n _ b _=>P_ E m w 0 (ns++ [n]) b
 |.choice _ y n=>(P_ E m (w++ [0]) 0 ns y).or (P_ E m (w++ [1]) 0 ns n)
 |.j8 _ _ h b=>P_ E m w 0 (ns++h) b
 |_=>none
def P_(E:List Pc)(m:Option Int)(w:List Int)(k:Nat)(ns:List (List Nat)):j7->Option (List Int)
 |.nil=>none
 |.cons n r=>if Pk E m ns n=true then some (w++ [(k:Int)])else(QX E m (w++ [(k:Int)]) ns n).or (P_ E m w (k+1) ns r)
end
def Rk(len:Nat):List Pc->List Pc->Option (List Int)
 |_,[]=>none
 |E,q::r=>if((E.map (·.n)).contains q.n||dup q.ns||(decide (E.length+1=len)&&q.m.isSome))=true then some [(E.length:Int)]else(P_ E q.m [(E.length:Int)] 0 q.ns q.b).or (Rk len (E++ [q]) r)
theorem cP{g:Gx}{b:Sx}{p:PV}{r:List PV}{ρ ρ1 ρ2:Ev}{h h2:List PO}(hg:g p ρ=some ρ1)(hb:b ρ1 h=.nx ρ2 h2):aN g b (p::r) ρ h=aN g b r ρ2 h2:=by simp only[aN,hg,hb]
theorem Qa{α:Type}(a:α)(l:List α):O_ (a::l) 0=some a:=fU (by decide) rfl
theorem at1{α:Type}(a b:α)(l:List α):O_ (a::b::l) 1=some b:=fU (by decide) rfl
theorem at2{α:Type}(a b c:α)(l:List α):O_ (a::b::c::l) 2=some c:=fU (by decide) rfl
theorem SQ{α:Type}(a b c d:α)(l:List α):O_ (a::b::c::d::l) 3=some d:=fU (by decide) rfl
theorem Wq{α:Type}(a b c d e:α)(l:List α):O_ (a::b::c::d::e::l) 4=some e:=fU (by decide) rfl
theorem N8{a b:List Nat}(c:Bool)(e:(match J5 (.str a) (.str b) []with|.ok (.bl d) _=>d==c|_=>false)=true:=by kernel_rfl)(h:List PO):J5 (.str a) (.str b) h=.ok (.bl c) h:=by
 unfold J5 at e |-
 split at e
 ·rename_i d h' z
  split at z
  ·rename_i ok
   cases z
   have:O9 h (.str a)=true/\O9 h (.str b)=true:=ok;rw[if_pos this];have q:=aec e;rw[show O8 h (.str a)=O8 [] (.str a)from rfl,show O8 h (.str b)=O8 [] (.str b)from rfl,q]
  ·cases z
 ·cases e
theorem eK:∀l:List (List Nat),ar (l.map PV.str)=true
 |[]=>rfl
 |a::r=>by rw[ab7,ar,eK r];rfl
theorem eG(p:u9):(G3 p).pure=true:=by unfold G3;rw[PV.pure,ar,eK];rfl
theorem aT:∀l:List u9,ar (dG l)=true
 |[]=>rfl
 |a::r=>by show ar (G3 a::dG r)=true;rw[ar,eG,aT r];rfl
theorem cC(l:List (List Nat)):(nms l).pure=true:=by unfold nms;rw[PV.pure];exact eK l
mutual
theorem ch:∀n:Nd,(nd n).pure=true
 |.text s=>by simp[nd,PV.pure,ar]
 |.place p w=>by simp[nd,PV.pure,ar,eG]
 |.loop n p ns b=>by simp[nd,PV.pure,ar,eG,aU ns]
 |.choice p y n=>by simp[nd,PV.pure,ar,eG,aU y,aU n]
 |.use n ps=>by simp[nd,PV.pure,ar,aT]
 |.j8 n ps h b=>by simp[nd,PV.pure,ar,aT,cC,aU b]
 |.body ps=>by simp[nd,PV.pure,ar,aT]
theorem aU:∀n:j7,ar (d8 n)=true
 |.nil=>by simp[d8,ar]
 |.cons n r=>by simp[d8,ar,ch n,aU r]
end
theorem cD{p:PV}{h:List L3.PO}(hp:p.pure=true):gA p h=.ok p:=by unfold gA;rw[gy h hp]
theorem kr(h:List PO)(p:u9):aq h (G3 p)=G3 p:=rfl
theorem sB(h:List PO)(p:List (List Nat)):aq h (nms p)=nms p:=rfl
noncomputable def pa:Nd->List u9
 |.text _=> []
 |.place p _=> [p]
 |.loop _ p _ _=> [p]
 |.choice p _ _=> [p]
 |.use _ ps=>ps
 |.j8 _ ps _ _=>ps
 |.body ps=>ps
theorem Cy(k:Nat)(n:Nd):F (k+1) .K7 [nd n]=.ok (.tup (dG (pa n))):=by
 show bz (dT (F k)) 1 1 [nd n]=_
 cases n with
 |text s=>simp only[EV,nd,bz,dT,kr,Qa,at1,at2,N8 (a:=tT) (b:=tT) true,pa];exact cD (by rw[PV.pure];first|exact aT _|exact aT []|exact aT [_])
 |place p w=>simp only[EV,nd,bz,dT,kr,Qa,at1,at2,N8 (a:=tP) (b:=tT) false,N8 (a:=tP) (b:=tL) false,N8 (a:=tP) (b:=tU) false,N8 (a:=tP) (b:=tB) false,pa];exact cD (by rw[PV.pure];first|exact aT _|exact aT []|exact aT [_])
 |loop n p ns b=>simp only[EV,nd,bz,dT,kr,Qa,at1,at2,N8 (a:=tL) (b:=tT) false,N8 (a:=tL) (b:=tL) true,pa];exact cD (by rw[PV.pure];first|exact aT _|exact aT []|exact aT [_])
 |choice p y n=>simp only[EV,nd,bz,dT,kr,Qa,at1,at2,N8 (a:=tC) (b:=tT) false,N8 (a:=tC) (b:=tL) false,N8 (a:=tC) (b:=tU) false,N8 (a:=tC) (b:=tB) false,pa];exact cD (by rw[PV.pure];first|exact aT _|exact aT []|exact aT [_])
 |use n ps=>simp only[EV,nd,bz,dT,kr,Qa,at1,at2,N8 (a:=tU) (b:=tT) false,N8 (a:=tU) (b:=tL) false,N8 (a:=tU) (b:=tU) true,pa];exact cD (by rw[PV.pure];first|exact aT _|exact aT []|exact aT [_])
 |j8 n ps h b=>simp only[EV,nd,bz,dT,kr,Qa,at1,at2,N8 (a:=tU) (b:=tT) false,N8 (a:=tU) (b:=tL) false,N8 (a:=tU) (b:=tU) true,pa];exact cD (by rw[PV.pure];first|exact aT _|exact aT []|exact aT [_])
 |body ps=>simp only[EV,nd,bz,dT,kr,Qa,at1,at2,N8 (a:=tB) (b:=tT) false,N8 (a:=tB) (b:=tL) false,N8 (a:=tB) (b:=tU) false,N8 (a:=tB) (b:=tB) true,pa];exact cD (by rw[PV.pure];first|exact aT _|exact aT []|exact aT [_])
def RD(w:List Int)(ns:List (List Nat))(b:j7):PV:=.tup [.tup (w.map PV.int),nms ns,.tup (d8 b)]
noncomputable def prs:Nd->List (List Int×List (List Nat)×j7)
 |.loop n _ b _=> [([],[n],b)]
 |.choice _ y n=> [([0],[],y),([1],[],n)]
 |.j8 _ _ h b=> [([],h,b)]
 |_=> []
theorem Cu(w:List Int)(ns:List (List Nat))(b:j7):(RD w ns b).pure=true:=by
 have:∀w:List Int,ar (w.map PV.int)=true:=fun w=>by induction w with
  |nil=>rfl
  |cons a r ih=>rw[ab7,ar,ih];rfl
 unfold RD;simp[PV.pure,ar,this,cC,aU]
theorem Cz(k:Nat)(n:Nd):F (k+1) .v7 [nd n]=.ok (.lst ((prs n).map fun x=>RD x.1 x.2.1 x.2.2)):=by
 show bz (bL (F k)) 1 1 [nd n]=_
 have fin:∀(l:List (List Int×List (List Nat)×j7)),gA (.lst (l.map fun x=>RD x.1 x.2.1 x.2.2)) []=.ok (.lst (l.map fun x=>RD x.1 x.2.1 x.2.2)):=fun l=>cD (by
  rw[PV.pure]
  induction l with
  |nil=>rfl
  |cons a r ih=>rw[ab7,ar,Cu,ih];rfl)
 have nn:∀(x:List PV) h,io (.tup x) .non h=.ok (.bl true) h:=fun _ _=>rfl;have n0:∀h,io .non .non h=.ok (.bl false) h:=fun _=>rfl
 cases n with
 |text s=>simp only[EV,nd,bz,bL,Qa,N8 (a:=tT) (b:=tL) false,N8 (a:=tT) (b:=tC) false,N8 (a:=tT) (b:=tU) false];exact fin []
 |place p w=>simp only[EV,nd,bz,bL,Qa,N8 (a:=tP) (b:=tL) false,N8 (a:=tP) (b:=tC) false,N8 (a:=tP) (b:=tU) false];exact fin []
 |body ps=>simp only[EV,nd,bz,bL,Qa,N8 (a:=tB) (b:=tL) false,N8 (a:=tB) (b:=tC) false,N8 (a:=tB) (b:=tU) false];exact fin []
 |use m ps=>simp only[EV,nd,bz,bL,Qa,Wq,n0,N8 (a:=tU) (b:=tL) false,N8 (a:=tU) (b:=tC) false,N8 (a:=tU) (b:=tU) true];exact fin []
 |loop m p ns b=>simp only[EV,nd,bz,bL,Qa,at1,SQ,N8 (a:=tL) (b:=tL) true];exact fin [([],[m],ns)]
 |choice p y m=>simp only[EV,nd,bz,bL,Qa,at2,SQ,N8 (a:=tC) (b:=tL) false,N8 (a:=tC) (b:=tC) true];exact fin [([0],[],y),([1],[],m)]
 |j8 m ps hh b=>simp only[EV,nd,bz,bL,Qa,SQ,Wq,nn,sB,N8 (a:=tU) (b:=tL) false,N8 (a:=tU) (b:=tC) false,N8 (a:=tU) (b:=tU) true];exact fin [([],hh,b)]
noncomputable def sg(l:List Nat):Bool:=l.all fun c=>decide (c<1114112/\c≠35)
theorem nH{l:List Nat}(h:sg l=true):∀c∈l,c<1114112:=fun c hc=>(of_decide_eq_true (aco.mp h c hc)).1
def N5(l:List (List Nat)):Bool:=l.all sg
theorem Ir{l:List (List Nat)}(h:N5 l=true):∀x∈l,∀c∈x,c<1114112:=fun x hx=>nH (aco.mp h x hx)
theorem jf:∀l:List (List Nat),fJ (l.map PV.str)=some l
 |[]=>rfl
 |a::r=>by rw[ab7,fJ,jf r];rfl
theorem vP(k:Nat)(l:List (List Nat))(hl:l.length<60):F (k+1) .E_ [nms l]=.ok (.bl (dup l)):=by
 show bz (jn (F k)) 1 1 [nms l]=_;have q:l.length+1<scanBound:=adK (Nat.succ_lt_succ hl) (by decide);have e:decide (((oN l:Nat):Int)<((l.length:Nat):Int))=dup l:=by unfold dup;simp
 simp only[EV,nms,bz,jn,jf,q,ab9,e,gA]
theorem tf:kJ .non=true:=rfl
theorem vd(i:Int):kJ (.int i)=false:=rfl
theorem wZ(l:List PV):kJ (.tup l)=false:=rfl
theorem zQ:∀{l:List PV}(h:List PO),ar l=true->Qk l h=some (l,h)
 |[],_,_=>rfl
 |p::r,h,e=>by rw[ar,ab5]at e;rw[Qk,gy h e.1];dsimp only;rw[zQ h e.2]
theorem bp{fn:List PV->Out}{ps:List PV}{v:PV}(h:List PO)(hp:ar ps=true)(e:fn ps=.ok v):bO fn ps h=.ok v h:=by rw[ue,zQ h hp];dsimp only;rw[e]
theorem EP(k:Nat)(n:List Nat)(ps:List u9)(q:Pc):F (k+1) .o9 [nd (.use n ps),pc q]=.ok (.bl (Ri ps q none)):=by
 show bz (bE (F k)) 2 2 [nd (.use n ps),pc q]=_
 by_cases e:ps.length=q.ns.length
 ·have e1:decide (((ps.length:Nat):Int)=((q.ns.length:Nat):Int))=true:=decide_eq_true (by omega);have e2:(ps.length !=q.ns.length)=false:=by simp[e]
  cases hm:q.m with
  |none=>simp only[EV,nd,pc,dG,nms,H7,hm,bz,bE,at2,SQ,jt,tf,vd,wZ,ab9,e1,e2,Ri,agT,gA]
  |some i=>simp only[EV,nd,pc,dG,nms,H7,hm,bz,bE,at2,SQ,jt,tf,vd,wZ,ab9,e1,e2,Ri,agS,gA]
 ·have e1:decide (((ps.length:Nat):Int)=((q.ns.length:Nat):Int))=false:=decide_eq_false (by omega);have e2:(ps.length !=q.ns.length)=true:=by simp[e]
  simp only[EV,nd,pc,dG,nms,bz,bE,at2,jt,tf,vd,wZ,ab9,e1,e2,Ri,gA]
theorem BF(k:Nat)(n:List Nat)(ps:List u9)(hs:List (List Nat))(b:j7)(q:Pc)(hl:hs.length<60):F (k+2) .o9 [nd (.j8 n ps hs b),pc q]=.ok (.bl (Ri ps q (some hs))):=by
 show bz (bE (F (k+1))) 2 2 [nd (.j8 n ps hs b),pc q]=_
 by_cases e:ps.length=q.ns.length
 ·have e1:decide (((ps.length:Nat):Int)=((q.ns.length:Nat):Int))=true:=decide_eq_true (by omega);have e2:(ps.length !=q.ns.length)=false:=by simp[e]
  cases hm:q.m with
  |none=>simp only[EV,nd,pc,dG,nms,H7,hm,bz,bE,at2,SQ,jt,tf,vd,wZ,ab9,e1,e2,Ri,gA]
  |some i=>
   have tw:=vP k hs hl
   by_cases e3:(hs.length:Int)=i
   ·have d3:decide (((hs.length:Nat):Int)=i)=true:=decide_eq_true e3;have b3:(((hs.length:Nat):Int) !=i)=false:=by simp[e3]
    have cw:∀h,bO (F (k+1) .E_) [.tup (hs.map PV.str)] h=.ok (.bl (dup hs)) h:=fun h=>bp h (by rw[ar,PV.pure,eK];rfl) tw;simp only[EV,nd,pc,dG,nms,H7,hm,bz,bE,at2,SQ,jt,tf,vd,wZ,ab9,e1,e2,d3,b3,cw,Ri,gA]
   ·have d3:decide (((hs.length:Nat):Int)=i)=false:=decide_eq_false e3;have b3:(((hs.length:Nat):Int) !=i)=true:=by simp[e3]
    simp only[EV,nd,pc,dG,nms,H7,hm,bz,bE,at2,SQ,jt,tf,vd,wZ,ab9,e1,e2,d3,b3,Ri,gA]
 ·have e1:decide (((ps.length:Nat):Int)=((q.ns.length:Nat):Int))=false:=decide_eq_false (by omega);have e2:(ps.length !=q.ns.length)=true:=by simp[e]
  simp only[EV,nd,pc,dG,nms,bz,bE,at2,jt,tf,vd,wZ,ab9,e1,e2,Ri,gA]
def H8(E:List Pc):List (PK×PV):=E.map fun q=>(.inr q.n,pc q)
theorem nA(n:List Nat):∀E:List Pc,dI (H8 E) (.inr n)=(look E n).map pc
 |[]=>rfl
 |q::r=>by
  have e:H8 (q::r)=(.inr q.n,pc q)::H8 r:=rfl;rw[e]
  by_cases h:q.n=n
  ·subst h;simp[dI,look]
  ·have i:=nA n r;unfold look at i |-;rw[acT (by simpa using h),<- i];simp[dI,h]
theorem vh(n:List Nat)(E:List Pc)(r:List PO):jr (.str n) (.ref 0) (.dct (H8 E)::r)=.ok (.bl (!(look E n).isSome)) (.dct (H8 E)::r):=by show(match some (dI (H8 E) (.inr n)).isSome with|some b=>Res.ok (PV.bl (!b)) (.dct (H8 E)::r)|none=>Res.bad)=_;rw[nA,ag3]
theorem fN(q:Pc):(pc q).pure=true:=by
 unfold pc
 cases h:q.m<;>simp[PV.pure,ar,cC,aU,H7]
theorem DE(n:List Nat)(E:List Pc)(r:List PO){q:Pc}(e:look E n=some q):d7 (.ref 0) (.str n) (.dct (H8 E)::r)=.ok (pc q) (.dct (H8 E)::r):=by show(match dI (H8 E) (.inr n)with|some v=>Res.ok (aq (.dct (H8 E)::r) v) (.dct (H8 E)::r)|none=>Res.bad)=_;rw[nA,e];rfl
theorem lH(h:List PO)(m:Option Int):aq h (H7 m)=H7 m:=by cases m<;>rfl
theorem jI(h:List PO)(n:Nd):aq h (nd n)=nd n:=aL (h:=h) (ch n)
theorem IG(p:u9)(h:List PO):d7 (G3 p) (.int 0) h=.ok (.str p.a) h:=by show(match O_ (PV.str p.a::p.f.map PV.str) 0 with|some v=>Res.ok (aq h v) h|none=>Res.bad)=_;rw[Qa];rfl
def U4(l:List u9):Bool:=l.all fun p=>sg p.a
theorem tD(C:CC)(ns:List (List Nat))(hn:N5 ns=true)(a m:PV)(h:List PO):∀(ps:List u9),U4 ps=true->∀x4,(ps.any (out ns)=true/\aN (z_ 4) (cZ C) (dG ps) [some a,some (nms ns),some m,some (.ref 0),x4] h=.rt (.bl true) h)\/
  (ps.any (out ns)=false/\∃y4,aN (z_ 4) (cZ C) (dG ps) [some a,some (nms ns),some m,some (.ref 0),x4] h=.nx [some a,some (nms ns),some m,some (.ref 0),y4] h)
 |[],_,x4=>.inr ⟨rfl,x4,rfl⟩
 |p::r,hp,x4=>by
  simp only[U4,adN,ab5]at hp
  have ni:jr (.str p.a) (nms ns) h=.ok (.bl (out ns p)) h:=by unfold nms;rw[LH (nH hp.1) (Ir hn)];unfold out;simp
  have e:dG (p::r)=G3 p::dG r:=rfl
  have b:cZ C [some a,some (nms ns),some m,some (.ref 0),some (G3 p)] h=if out ns p=true then .rt (.bl true) h else .nx [some a,some (nms ns),some m,some (.ref 0),some (G3 p)] h:=by simp only[EV,cZ,kr,sB,IG,ni]
  rw[e]
  cases o:out ns p with
  |true=>
   left
   refine⟨by simp[o],?_⟩;rw[o,if_pos rfl]at b;rw[aN];show(match cZ C [some a,some (nms ns),some m,some (.ref 0),some (G3 p)] h with|.nx ρ2 h2=>_|.ct ρ2 h2=>_|.bk ρ2 h2=>_|.rt v h2=>_|.exc v h2=>_|.bad=>_)=_;rw[b]
  |false=>
   rw[o,if_neg (by decide)]at b
   have st:aN (z_ 4) (cZ C) (G3 p::dG r) [some a,some (nms ns),some m,some (.ref 0),x4] h=aN (z_ 4) (cZ C) (dG r) [some a,some (nms ns),some m,some (.ref 0),some (G3 p)] h:=by rw[aN];show(match cZ C [some a,some (nms ns),some m,some (.ref 0),some (G3 p)] h with|.nx ρ2 h2=>_|.ct ρ2 h2=>_|.bk ρ2 h2=>_|.rt v h2=>_|.exc v h2=>_|.bad=>_)=_;rw[b]
   rw[st,adM,o,aea];exact tD C ns hn a m h r hp.2 _
def wp(p:u9):Bool:=sg p.a&&(N5 p.f&&decide (p.f.length<=10))
def wps(l:List u9):Bool:=l.all wp&&decide (l.length<60)
mutual
def wN:Nd->Bool
 |.text s=>sg s&&decide (s.length<=1000)
 |.place p w=>wp p&&sg w
 |.loop n p b t=>sg n&&(wp p&&(wS b&&sg t))
 |.choice p y n=>wp p&&(wS y&&wS n)
 |.use n ps=>sg n&&wps ps
 |.j8 n ps h b=>sg n&&(wps ps&&(N5 h&&(decide (h.length<60)&&wS b)))
 |.body ps=>wps ps
def wS:j7->Bool
 |.nil=>true
 |.cons n r=>wN n&&wS r
end
theorem xB{l:List u9}(h:wps l=true):U4 l=true:=by
 unfold wps at h;rw[ab5]at h
 exact aco.mpr fun p hp=>by have:=aco.mp h.1 p hp;unfold wp at this;rw[ab5]at this;exact this.1
theorem Lv{n:Nd}(h:wN n=true):U4 (pa n)=true:=by
 cases n with
 |text s=>rfl
 |place p w=>rw[wN,wp,ab5,ab5]at h;simp[pa,U4,h.1.1]
 |loop n p b t=>rw[wN,wp,ab5,ab5,ab5]at h;simp[pa,U4,h.2.1.1]
 |choice p y n=>rw[wN,wp,ab5,ab5]at h;simp[pa,U4,h.1.1]
 |use n ps=>rw[wN,ab5]at h;exact xB h.2
 |j8 n ps hh b=>rw[wN,ab5,ab5]at h;exact xB h.2.1
 |body ps=>rw[wN]at h;exact xB h
theorem BA(k:Nat)(E:List Pc)(m:Option Int)(ns:List (List Nat))(hn:N5 ns=true)(n:Nd)(hw:wN n=true):L (k+3) .K1 [nd n,nms ns,H7 m,.ref 0] [.dct (H8 E)]=.ok (.bl (Pk E m ns n)) [.dct (H8 E)]:=by
 show dY (bU (F (k+2))) 4 5 [nd n,nms ns,H7 m,.ref 0] [.dct (H8 E)]=_;have cp:∀h,bO (F (k+2) .K7) [nd n] h=.ok (.tup (dG (pa n))) h:=fun h=>bp h (by rw[ar,ch];rfl) (Cy (k+1) n)
 have fin:∀b:Bool,eO 1 (.bl b) [.dct (H8 E)]=.ok (.bl b) [.dct (H8 E)]:=fun b=>by
  have ep:aW (H8 E)=true:=by
   rw[fS];unfold H8;rw[ady]
   induction E with
   |nil=>rfl
   |cons q r ih=>rw[ab7,ar,ih];simp[fN]
  unfold eO gB;simp[gQ,PV.pure,aO,PO.pure,ep]
 have run:bU (F (k+2)) [some (nd n),some (nms ns),some (H7 m),some (.ref 0),none] [.dct (H8 E)]=.rt (.bl (Pk E m ns n)) [.dct (H8 E)]:=by
  rcases tD (F (k+2)) ns hn (nd n) (H7 m) [.dct (H8 E)] (pa n) (Lv hw) none with⟨a1,a2⟩|⟨a1,y4,a2⟩
  ·have:Pk E m ns n=true:=by cases n<;>simp only[pa,adM,agd,ae9]at a1<;>simp[Pk,a1]
   rw[this];simp only[EV,bU,jI,cp,a2]
  ·cases n with
   |text s=>simp only[EV,bU,jI,cp,a2,Pk];simp only[EV,nd,Qa,N8 (a:=tT) (b:=tU) false,N8 (a:=tT) (b:=tB) false]
   |place p w=>simp only[pa,adM,agd,ae9]at a1;simp only[EV,bU,jI,cp,a2,Pk,a1];simp only[EV,nd,Qa,N8 (a:=tP) (b:=tU) false,N8 (a:=tP) (b:=tB) false]
   |loop x p b t=>simp only[pa,adM,agd,ae9]at a1;simp only[EV,bU,jI,cp,a2,Pk,a1];simp only[EV,nd,Qa,N8 (a:=tL) (b:=tU) false,N8 (a:=tL) (b:=tB) false]
   |choice p y z=>simp only[pa,adM,agd,ae9]at a1;simp only[EV,bU,jI,cp,a2,Pk,a1];simp only[EV,nd,Qa,N8 (a:=tC) (b:=tU) false,N8 (a:=tC) (b:=tB) false]
   |body ps=>
    simp only[pa]at a1;simp only[EV,bU,jI,cp,a2,Pk,a1]
    cases m with
    |none=>simp only[EV,nd,H7,Qa,tf,N8 (a:=tB) (b:=tU) false,N8 (a:=tB) (b:=tB) true]
    |some i=>
     simp only[EV,nd,H7,Qa,at1,vd,jt,dG,ab9,N8 (a:=tB) (b:=tU) false,N8 (a:=tB) (b:=tB) true]
     by_cases e:(ps.length:Int)=i<;>simp[e]
   |use x ps=>
    simp only[pa]at a1;simp only[EV,bU,jI,cp,a2,Pk,a1]
    cases l:look E x with
    |none=>simp only[EV,nd,Qa,at1,vh,l,N8 (a:=tU) (b:=tU) true]
    |some q=>
     have cw:∀h,bO (F (k+2) .o9) [nd (.use x ps),pc q] h=.ok (.bl (Ri ps q none)) h:=fun h=>bp h (by rw[ar,ar,ch,fN];rfl) (EP (k+1) x ps q);have i1:d7 (nd (.use x ps)) (.int 1) [.dct (H8 E)]=.ok (.str x) [.dct (H8 E)]:=by rw[nd];rfl
     have i0:d7 (nd (.use x ps)) (.int 0) [.dct (H8 E)]=.ok (.str tU) [.dct (H8 E)]:=by rw[nd];rfl
     simp only[EV,i0,i1,jI,vh,DE x E [] l,l,cw,N8 (a:=tU) (b:=tU) true]
   |j8 x ps hh b=>
    simp only[pa]at a1;rw[wN,ab5,ab5,ab5,ab5]at hw;simp only[EV,bU,jI,cp,a2,Pk,a1]
    cases l:look E x with
    |none=>simp only[EV,nd,Qa,at1,vh,l,N8 (a:=tU) (b:=tU) true]
    |some q=>
     have cw:∀h,bO (F (k+2) .o9) [nd (.j8 x ps hh b),pc q] h=.ok (.bl (Ri ps q (some hh))) h:=fun h=>bp h (by rw[ar,ar,ch,fN];rfl) (BF k x ps hh b q (of_decide_eq_true hw.2.2.2.1));have i1:d7 (nd (.j8 x ps hh b)) (.int 1) [.dct (H8 E)]=.ok (.str x) [.dct (H8 E)]:=by rw[nd];rfl
     have i0:d7 (nd (.j8 x ps hh b)) (.int 0) [.dct (H8 E)]=.ok (.str tU) [.dct (H8 E)]:=by rw[nd];rfl
     simp only[EV,i0,i1,jI,vh,DE x E [] l,l,cw,N8 (a:=tU) (b:=tU) true]
 have r2:∀p1 p2 p3 p4:PV,dY (bU (F (k+2))) 4 5 [p1,p2,p3,p4] [.dct (H8 E)]=match bU (F (k+2)) [some p1,some p2,some p3,some p4,none] [.dct (H8 E)]with|.nx _ h1=>gB 1 .non h1|.rt v h1=>eO 1 v h1|_=>.bad:=fun _ _ _ _=>rfl
 rw[r2,run];exact fin _
mutual
def dN:Nd->Nat
 |.loop _ _ b _=>dS b+1
 |.choice _ y n=>max (dS y) (dS n)+1
 |.j8 _ _ _ b=>dS b+1
 |_=>0
def dS:j7->Nat
 |.nil=>0
 |.cons n r=>max (dN n) (dS r)
end
theorem zA:∀(l:List PV),ar l=true->Q7 (l++ [.ref 0])=[0]/\S6 0 (l++ [.ref 0])=l++ [.ref 0]/\ju (l++ [.ref 0])=true
 |[],_=>⟨rfl,rfl,rfl⟩
 |p::r,h=>by
  rw[ar,ab5]at h;obtain⟨i1,i2,i3⟩:=zA r h.2;have np:∀i,p≠.ref i:=fun i e=>by have:=h.1;subst e;simp[PV.pure]at this
  have q3:ju (p::(r++ [.ref 0]))=(p.pure&&ju (r++ [.ref 0])):=by cases p<;>first|rfl|exact(np _ rfl).elim
  refine⟨?_,?_,?_⟩
  ·rw[acB];cases p<;>first|exact i1|exact(np _ rfl).elim
  ·rw[acB];cases p<;>first|exact congrArg _ i2|exact(np _ rfl).elim
  ·rw[acB,q3,h.1,i3];rfl
theorem dR{fn:List PV->List PO->Res PV}(l:List PV){o:PO}(hl:ar l=true)(ho:o.pure=true):
  (∀v,v.pure=true->fn (l++ [.ref 0]) [o]=.ok v [o]->w6 fn (l++ [.ref 0]) [o]=.ok v [o])/\(∀v,v.pure=true->fn (l++ [.ref 0]) [o]=.exc v [o]->w6 fn (l++ [.ref 0]) [o]=.exc v [o]):=by
 obtain⟨q1,q2,q3⟩:=zA l hl;have q4:ki [o] [0]=some [o]:=rfl;have q5:(ju (l++ [.ref 0])&&aO [o]&&iR [0])=true:=by rw[q3];simp[aO,ho,iR]
 refine⟨fun v hv e=>?_,fun v hv e=>?_⟩<;>
 ·unfold w6;rw[q1,q4];dsimp only;rw[if_pos q5,q2,e];dsimp only;rw[if_pos ⟨hv,by simp[aO,ho],rfl⟩];rfl
noncomputable def wy(w:List Int):PV:=.tup (w.map PV.int)
theorem jO(w:List Int):(wy w).pure=true:=by
 unfold wy;rw[PV.pure]
 induction w with
 |nil=>rfl
 |cons a r ih=>rw[ab7,ar,ih];rfl
theorem ot(E:List Pc):(PO.dct (H8 E)).pure=true:=by
 show aW (H8 E)=true;rw[fS];unfold H8;rw[ady]
 induction E with
 |nil=>rfl
 |cons q r ih=>rw[ab7,ar,ih];simp[fN]
def Av(E:List Pc):Option (List Int)->Res PV
 |none=>.ok .non [.dct (H8 E)]
 |some w=>.exc (.Ql 2 (wy w)) [.dct (H8 E)]
theorem fK(a b:List PV)(h:List PO)(q:a.length+b.length<=sizeLine):aI (.tup a) (.tup b) h=.ok (.tup (a++b)) h:=by
 cases a with
 |nil=>rfl
 |cons x r=>show(if(x::r).isEmpty=false/\(x::r).length+b.length<=sizeLine then Res.ok (PV.tup (x::r++b)) h else .bad)=_;rw[if_pos ⟨rfl,q⟩]
theorem KP(w:List Int)(x:List Int)(h:List PO)(hl:w.length+x.length<=10000):aI (wy w) (wy x) h=.ok (wy (w++x)) h:=by unfold wy;rw[aci];exact fK _ _ h (by rw[ab9,ab9];exact ace hl (by decide))
theorem ED(w:List (List Nat))(x:List (List Nat))(h:List PO)(hl:w.length+x.length<=100000):aI (nms w) (nms x) h=.ok (nms (w++x)) h:=by unfold nms;rw[aci];exact fK _ _ h (by rw[ab9,ab9];exact ace hl (by decide))
theorem uB{a b:List (List Nat)}(ha:N5 a=true)(hb:N5 b=true):N5 (a++b)=true:=by unfold N5 at*;rw[afo,ha,hb];rfl
def th(E:List Pc)(ρ:Ev):Option (List Int)->SR
 |none=>.nx ρ [.dct (H8 E)]
 |some w=>.exc (.Ql 2 (wy w)) [.dct (H8 E)]
theorem CA(k:Nat)(E:List Pc)(m:Option Int)(a c:PV)(i:PV)(w x:List Int)(ns ys:List (List Nat))(b:j7)(n:Nd)(r:Option (List Int))(hw:w.length+x.length<=10000)(hn:ns.length+ys.length<=100000)
  (e:X_ k .k_ [.tup (d8 b),wy (w++x),nms (ns++ys),H7 m,.ref 0] [.dct (H8 E)]=Av E r):
  cE (F k) (X_ k) [some a,some c,some (nms ns),some (H7 m),some (.ref 0),some i,some (nd n),some (wy w),some (RD x ys b)] [.dct (H8 E)]=th E [some a,some c,some (nms ns),some (H7 m),some (.ref 0),some i,some (nd n),some (wy w),some (RD x ys b)] r:=by
 have p0:∀h,d7 (RD x ys b) (.int 0) h=.ok (wy x) h:=fun h=>rfl;have p1:∀h,d7 (RD x ys b) (.int 1) h=.ok (nms ys) h:=fun h=>rfl;have p2:∀h,d7 (RD x ys b) (.int 2) h=.ok (.tup (d8 b)) h:=fun h=>rfl;have dp:∀h,aq h (RD x ys b)=RD x ys b:=fun h=>rfl;have dw:∀h,aq h (wy w)=wy w:=fun h=>rfl;have mp:(H7 m).pure=true:=by cases m<;>rfl
 obtain⟨c1,c2⟩:=dR (fn:=X_ k .k_) [.tup (d8 b),wy (w++x),nms (ns++ys),H7 m] (o:=.dct (H8 E)) (by simp[ar,PV.pure,aU b,jO,cC,mp]) (ot E)
 cases r with
 |none=>have cc:=c1 .non rfl e;simp only[acB,acC]at cc;simp only[EV,cE,p0,p1,p2,dp,dw,sB,lH,KP w x _ hw,ED ns ys _ hn,cc,th]
 |some v=>have cc:=c2 (.Ql 2 (wy v)) (by rw[PV.pure];exact jO v) e;simp only[acB,acC]at cc;simp only[EV,cE,p0,p1,p2,dp,dw,sB,lH,KP w x _ hw,ED ns ys _ hn,cc,th,Res.Qo]
noncomputable def kT:Nd->List Nat
 |.text _=>tT
 |.place _ _=>tP
 |.loop _ _ _ _=>tL
 |.choice _ _ _=>tC
 |.use _ _=>tU
 |.j8 _ _ _ _=>tU
 |.body _=>tB
theorem kt1(s:List Nat):kT (.text s)=tT:=rfl
theorem kt2(p:u9)(s:List Nat):kT (.place p s)=tP:=rfl
theorem kt3(x:List Nat)(p:u9)(b:j7)(t:List Nat):kT (.loop x p b t)=tL:=rfl
theorem kt4(p:u9)(y z:j7):kT (.choice p y z)=tC:=rfl
theorem kt5(x:List Nat)(ps:List u9):kT (.use x ps)=tU:=rfl
theorem kt6(x:List Nat)(ps:List u9)(h:List (List Nat))(b:j7):kT (.j8 x ps h b)=tU:=rfl
theorem kt7(ps:List u9):kT (.body ps)=tB:=rfl
abbrev qE(a b:List Nat)(c:Bool)(h:List PO):Prop:=J5 (.str a) (.str b) h=.ok (.bl c) h
section
variable(h:List PO)
theorem tgs:qE tT tT true h/\qE tT tP false h/\qE tT tL false h/\qE tT tC false h/\qE tT tU false h/\qE tT tB false h/\qE tP tT false h/\qE tP tP true h/\qE tP tL false h/\qE tP tC false h/\qE tP tU false h/\qE tP tB false h/\qE tL tT false h/\qE tL tP false h/\qE tL tL true h/\qE tL tC false h/\qE tL tU false h/\qE tL tB false h/\qE tC tT false h/\qE tC tP false h/\qE tC tL false h/\qE tC tC true h/\qE tC tU false h/\qE tC tB false h/\qE tU tT false h/\qE tU tP false h/\qE tU tL false h/\qE tU tC false h/\qE tU tU true h/\qE tU tB false h/\qE tB tT false h/\qE tB tP false h/\qE tB tL false h/\qE tB tC false h/\qE tB tU false h/\qE tB tB true h:=by
 repeat' apply And.intro
 all_goals exact N8 _ (h:=h)
theorem Nm(n:Nd):d7 (nd n) (.int 0) h=.ok (.str (kT n)) h:=by cases n<;>(rw[nd];rfl)
theorem Mw(p:u9)(w:List Nat):d7 (nd (.place p w)) (.int 1) h=.ok (G3 p) h/\d7 (nd (.place p w)) (.int 2) h=.ok (.str w) h:=by rw[nd];exact⟨rfl,rfl⟩
theorem Mx(x:List Nat)(p:u9)(b:j7)(t:List Nat):d7 (nd (.loop x p b t)) (.int 1) h=.ok (.str x) h/\d7 (nd (.loop x p b t)) (.int 2) h=.ok (G3 p) h/\d7 (nd (.loop x p b t)) (.int 3) h=.ok (.tup (d8 b)) h/\d7 (nd (.loop x p b t)) (.int 4) h=.ok (.str t) h:=by rw[nd];exact⟨rfl,rfl,rfl,rfl⟩
theorem MA(p:u9)(y z:j7):d7 (nd (.choice p y z)) (.int 1) h=.ok (G3 p) h/\d7 (nd (.choice p y z)) (.int 2) h=.ok (.tup (d8 y)) h/\d7 (nd (.choice p y z)) (.int 3) h=.ok (.tup (d8 z)) h:=by rw[nd];exact⟨rfl,rfl,rfl⟩
theorem Mt(x:List Nat)(ps:List u9):d7 (nd (.use x ps)) (.int 1) h=.ok (.str x) h/\d7 (nd (.use x ps)) (.int 2) h=.ok (.tup (dG ps)) h/\d7 (nd (.use x ps)) (.int 3) h=.ok .non h/\d7 (nd (.use x ps)) (.int 4) h=.ok .non h:=by rw[nd];exact⟨rfl,rfl,rfl,rfl⟩
theorem Ms(x:List Nat)(ps:List u9)(hs:List (List Nat))(b:j7):d7 (nd (.j8 x ps hs b)) (.int 1) h=.ok (.str x) h/\d7 (nd (.j8 x ps hs b)) (.int 2) h=.ok (.tup (dG ps)) h/\d7 (nd (.j8 x ps hs b)) (.int 3) h=.ok (nms hs) h/\d7 (nd (.j8 x ps hs b)) (.int 4) h=.ok (.tup (d8 b)) h:=by rw[nd];exact⟨rfl,rfl,rfl,rfl⟩
theorem MB(ps:List u9):d7 (nd (.body ps)) (.int 1) h=.ok (.tup (dG ps)) h:=by rw[nd];rfl
variable(q:Pc)
theorem pZ:d7 (pc q) (.int 1) h=.ok (.str q.n) h/\d7 (pc q) (.int 2) h=.ok (nms q.ns) h/\d7 (pc q) (.int 3) h=.ok (H7 q.m) h/\d7 (pc q) (.int 4) h=.ok (.tup (d8 q.b)) h:=by refine⟨rfl,rfl,?_,rfl⟩;show Res.ok (aq h (H7 q.m)) h=_;rw[lH]
theorem lA:aq h (pc q)=pc q:=rfl
theorem uh(B:List Pc):aq h (bk B)=bk B:=rfl
theorem KZ(w:List Int):aq h (wy w)=wy w:=rfl
theorem vA(B:List Pc):gh [bk B] h=.ok (.int B.length) h:=by unfold bk;rw[Dl,ab9]
theorem Fx(l:List (List Nat)):gh [nms l] h=.ok (.int l.length) h:=by unfold nms;rw[Dl,ab9]
end
theorem Je(m:Option Int):kJ (H7 m)=!m.isSome:=by cases m<;>rfl
abbrev qD(n:Int):Prop:=decide (0<n/\n<1073741824)=true
theorem mls(x:Int):jJ 3 x=true/\jJ 5 x=true/\jJ 7 x=true/\jJ 12 x=true/\jJ 31 x=true/\jJ 7919 x=true/\jJ x 48271=true:=by refine⟨?_,?_,?_,?_,?_,?_,uV (by decide)⟩<;>exact Jb (by decide)
local macro_rules | `(tactic| simp $c:optConfig only [EX,$xs,*])=>do let a<-(("jI sB uh lA KZ kr lH pZ Qa at1 at2 SQ Wq tf vd wZ IK jt Nm kt1 kt2 kt3 kt4 kt5 kt6 kt7 tgs Mw Mx MA Mt Ms vA Fx Je mls".splitOn.map fun n=>n.toName)).toArray.mapM fun n=>`(Lean.Parser.Tactic.simpLemma| $(Lean.mkIdent n):term);`(tactic| simp $c:optConfig only [EV,$a,*,$xs,*])
theorem rF(k:Nat)(E:List Pc)(m:Option Int)(a c i:PV)(w:List Int)(ns:List (List Nat))(n:Nd)(f:List Int×List (List Nat)×j7->Option (List Int)):
  ∀(l:List (List Int×List (List Nat)×j7))(x8:Option PV),(∀x∈l,w.length+x.1.length<=10000/\ns.length+x.2.1.length<=100000/\X_ k .k_ [.tup (d8 x.2.2),wy (w++x.1),nms (ns++x.2.1),H7 m,.ref 0] [.dct (H8 E)]=Av E (f x))->
  ∃y8,aN (z_ 8) (cE (F k) (X_ k)) (l.map fun x=>RD x.1 x.2.1 x.2.2) [some a,some c,some (nms ns),some (H7 m),some (.ref 0),some i,some (nd n),some (wy w),x8] [.dct (H8 E)]=
   th E [some a,some c,some (nms ns),some (H7 m),some (.ref 0),some i,some (nd n),some (wy w),y8] (l.findSome? f)
 |[],x8,_=>⟨x8,rfl⟩
 |x::r,x8,hx=>by
  obtain⟨h1,h2,h3⟩:=hx x acv;have one:=CA k E m a c i w x.1 ns x.2.1 x.2.2 n (f x) h1 h2 h3;obtain⟨y8,ih⟩:=rF k E m a c i w ns n f r (some (RD x.1 x.2.1 x.2.2)) fun z hz=>hx z (acg _ hz);rw[ab7,aN]
  cases e:f x with
  |none=>rw[e]at one;refine⟨y8,?_⟩;rw[List.findSome?_cons_of_isNone (by rw[e];rfl)];show(match cE (F k) (X_ k) [some a,some c,some (nms ns),some (H7 m),some (.ref 0),some i,some (nd n),some (wy w),some (RD x.1 x.2.1 x.2.2)] [.dct (H8 E)]with|.nx ρ2 h2=>_|.ct ρ2 h2=>_|.bk ρ2 h2=>_|.rt v h2=>_|.exc v h2=>_|.bad=>_)=_;rw[one];exact ih
  |some v=>rw[e]at one;refine⟨x8,?_⟩;rw[List.findSome?_cons_of_isSome (by rw[e];rfl),e];show(match cE (F k) (X_ k) [some a,some c,some (nms ns),some (H7 m),some (.ref 0),some i,some (nd n),some (wy w),some (RD x.1 x.2.1 x.2.2)] [.dct (H8 E)]with|.nx ρ2 h2=>_|.ct ρ2 h2=>_|.bk ρ2 h2=>_|.rt v h2=>_|.exc v h2=>_|.bad=>_)=_;rw[one];rfl
theorem Gs(E:List Pc)(m:Option Int)(w:List Int)(ns:List (List Nat))(n:Nd):QX E m w ns n=(prs n).findSome? fun x=>P_ E m (w++x.1) 0 (ns++x.2.1) x.2.2:=by
 cases n with
 |choice p y z=>
  rw[QX,prs,aeB,aeB,afB];dsimp only;rw[acH]
  cases P_ E m (w++ [0]) 0 ns y with
  |some v=>rfl
  |none=>cases P_ E m (w++ [1]) 0 ns z<;>rfl
 |loop x p b t=>rw[QX,prs,aeB,afB];dsimp only;rw[acH];cases P_ E m w 0 (ns++ [x]) b<;>rfl
 |j8 x p h b=>rw[QX,prs,aeB,afB];dsimp only;rw[acH];cases P_ E m w 0 (ns++h) b<;>rfl
 |text s=>rfl
 |place p s=>rfl
 |use x p=>rfl
 |body p=>rfl
theorem CV(k:Nat)(E:List Pc)(m:Option Int)(a:PV)(w:List Int)(ns:List (List Nat))(i:Nat)(n:Nd)(x7 x8:Option PV)(hn:N5 ns=true)(hw:wN n=true)(lw:w.length+10<=10000)
  (hx:∀x∈prs n,(w++ [(i:Int)]).length+x.1.length<=10000/\ns.length+x.2.1.length<=100000/\X_ (k+3) .k_ [.tup (d8 x.2.2),wy (w++ [(i:Int)]++x.1),nms (ns++x.2.1),H7 m,.ref 0] [.dct (H8 E)]=Av E (P_ E m (w++ [(i:Int)]++x.1) 0 (ns++x.2.1) x.2.2)):
  ∃y7 y8,bH (F (k+3)) (L (k+3)) (X_ (k+3)) (Nat.ble 2 (k+3)) [some a,some (wy w),some (nms ns),some (H7 m),some (.ref 0),some (.int i),some (nd n),x7,x8] [.dct (H8 E)]=
   th E [some a,some (wy w),some (nms ns),some (H7 m),some (.ref 0),some (.int i),some (nd n),y7,y8] (if Pk E m ns n=true then some (w++ [(i:Int)])else QX E m (w++ [(i:Int)]) ns n):=by
 have ad:aI (wy w) (.tup [.int i]) [.dct (H8 E)]=.ok (wy (w++ [(i:Int)])) [.dct (H8 E)]:=KP w [(i:Int)] _ (by simp;omega);have mp:(H7 m).pure=true:=by cases m<;>rfl
 have cw:w6 (L (k+3) .K1) [nd n,nms ns,H7 m,.ref 0] [.dct (H8 E)]=.ok (.bl (Pk E m ns n)) [.dct (H8 E)]:=
  (dR (fn:=L (k+3) .K1) [nd n,nms ns,H7 m] (o:=.dct (H8 E)) (by simp[ar,ch,cC,mp]) (ot E)).1 _ rfl (BA k E m ns hn n hw)
 have cp:∀h,bO (F (k+3) .v7) [nd n] h=.ok (.lst ((prs n).map fun x=>RD x.1 x.2.1 x.2.2)) h:=fun h=>bp h (by rw[ar,ch];rfl) (Cz (k+2) n);have hz:Nat.ble 2 (k+3)=true:=by simp[Nat.ble]
 cases e:Pk E m ns n with
 |true=>rw[e]at cw;refine⟨some (wy (w++ [(i:Int)])),x8,?_⟩;simp only[EX,bH,ad,cw,km _ _ _ _ _ hz,th]
 |false=>rw[e]at cw;obtain⟨y8,lp⟩:=rF (k+3) E m a (wy w) (.int i) (w++ [(i:Int)]) ns n (fun x=>P_ E m (w++ [(i:Int)]++x.1) 0 (ns++x.2.1) x.2.2) (prs n) x8 hx;rw[<- Gs]at lp;refine⟨some (wy (w++ [(i:Int)])),y8,?_⟩;simp only[EX,bH,ad,cw,cp,lp]
theorem Ic{n:Nd}(hw:wN n=true):∀x∈prs n,wS x.2.2=true/\N5 x.2.1=true/\dS x.2.2<dN n/\x.1.length<=1/\x.2.1.length<=60:=by
 intro x hx
 cases n with
 |loop y p b t=>
  rw[wN,ab5,ab5,ab5]at hw
  cases acp.mp hx
  exact⟨hw.2.2.1,by simp[N5,hw.1],by rw[dN];exact adJ _,acu _,by simp⟩
 |choice p y z=>
  rw[wN,ab5,ab5]at hw;rcases acn.mp hx with e|e
  ·subst e;exact⟨hw.2.1,rfl,by rw[dN];exact ag5 (ado _ _),ab8 _,acu _⟩
  ·cases acp.mp e
   exact⟨hw.2.2,rfl,by rw[dN];exact ag5 (adi _ _),ab8 _,acu _⟩
 |j8 y p h b=>
  rw[wN,ab5,ab5,ab5,ab5]at hw
  cases acp.mp hx
  exact⟨hw.2.2.2.2,hw.2.2.1,by rw[dN];exact adJ _,acu _,agb (of_decide_eq_true hw.2.2.2.1)⟩
 |text s=>cases hx
 |place p s=>cases hx
 |use y p=>cases hx
 |body p=>cases hx
def Ao(d:Nat):Prop:=∀(b:j7)(E:List Pc)(m:Option Int)(w:List Int)(ns:List (List Nat))(k:Nat),dS b<=d->wS b=true->N5 ns=true->dS b+4<=k->w.length+2 * dS b+10<=10000->ns.length+60 * dS b+60<=100000->
 X_ k .k_ [.tup (d8 b),wy w,nms ns,H7 m,.ref 0] [.dct (H8 E)]=Av E (P_ E m w 0 ns b)
theorem rM(d k:Nat)(ok:∀d',d'<d->Ao d')(E:List Pc)(m:Option Int)(a:PV)(w:List Int)(ns:List (List Nat))(hn:N5 ns=true)(hk:d+4<=k+4)(lw:w.length+2 * d+10<=10000)(ln:ns.length+60 * d+60<=100000):
  ∀(b:j7)(j:Nat)(x5 x6 x7 x8:Option PV),dS b<=d->wS b=true->∃y5 y6 y7 y8,
   aN aaB (bH (F (k+3)) (L (k+3)) (X_ (k+3)) (Nat.ble 2 (k+3))) (Rd j (d8 b)) [some a,some (wy w),some (nms ns),some (H7 m),some (.ref 0),x5,x6,x7,x8] [.dct (H8 E)]=
    th E [some a,some (wy w),some (nms ns),some (H7 m),some (.ref 0),y5,y6,y7,y8] (P_ E m w j ns b)
 |.nil,j,x5,x6,x7,x8,_,_=>⟨x5,x6,x7,x8,by rw[d8,Rd,aN,P_];rfl⟩
 |.cons n r,j,x5,x6,x7,x8,hd,hw=>by
  rw[dS]at hd;rw[wS,ab5]at hw;have dn:dN n<=d:=ace (ado _ _) hd;have dr:dS r<=d:=ace (adi _ _) hd
  obtain⟨y7,y8,one⟩:=CV k E m a w ns j n x7 x8 hn hw.1 (by omega) fun x hx=>by
   obtain⟨h1,h2,h3,h4,h5⟩:=Ic hw.1 x hx;have l1:(w++ [(j:Int)]).length=w.length+1:=by simp
   refine⟨by omega,by omega,ok (dS x.2.2) (by omega) x.2.2 E m _ _ (k+3) (ab8 _) h1 (uB hn h2) (by omega) ?_ ?_⟩
   ·rw[acs,l1];omega
   ·rw[acs];omega
  have st:∀(R:SR),bH (F (k+3)) (L (k+3)) (X_ (k+3)) (Nat.ble 2 (k+3)) [some a,some (wy w),some (nms ns),some (H7 m),some (.ref 0),some (.int j),some (nd n),x7,x8] [.dct (H8 E)]=R->
    aN aaB (bH (F (k+3)) (L (k+3)) (X_ (k+3)) (Nat.ble 2 (k+3))) (Rd j (nd n::d8 r)) [some a,some (wy w),some (nms ns),some (H7 m),some (.ref 0),x5,x6,x7,x8] [.dct (H8 E)]=
    match R with
    |.nx ρ2 h2=>aN aaB (bH (F (k+3)) (L (k+3)) (X_ (k+3)) (Nat.ble 2 (k+3))) (Rd (j+1) (d8 r)) ρ2 h2
    |.ct ρ2 h2=>aN aaB (bH (F (k+3)) (L (k+3)) (X_ (k+3)) (Nat.ble 2 (k+3))) (Rd (j+1) (d8 r)) ρ2 h2
    |.bk ρ2 h2=>.nx ρ2 h2
    |.rt v h2=>.rt v h2
    |.exc v h2=>.exc v h2
    |.bad=>.bad:=fun R e=>by subst e;rfl
  rw[d8,st _ one,P_]
  cases e:Pk E m ns n with
  |true=>exact⟨x5,x6,x7,x8,rfl⟩
  |false=>
   rw[if_neg (by decide),if_neg (by decide)]
   cases e2:QX E m (w++ [(j:Int)]) ns n with
   |some v=>exact⟨x5,x6,x7,x8,rfl⟩
   |none=>exact rM d k ok E m a w ns hn hk lw ln r (j+1) (some (.int j)) (some (nd n)) y7 y8 dr hw.2
theorem CT:∀d,Ao d:=by
 intro d
 induction d using Nat.strongRecOn with
 |ind d ih=>
  intro b E m w ns k hd hw hn hk lw ln;obtain⟨k',rfl⟩:∃k',k=k'+4:=⟨k - 4,by omega⟩
  have lp:=rM (dS b) k' (fun d' h=>ih d' (by omega)) E m (.tup (d8 b)) w ns hn hk lw ln b 0 none none none none (ab8 _) hw;obtain⟨y5,y6,y7,y8,lp⟩:=lp;show oP (fy (F (k'+3)) (L (k'+3)) (X_ (k'+3)) (Nat.ble 2 (k'+3))) 5 9 [.tup (d8 b),wy w,nms ns,H7 m,.ref 0] [.dct (H8 E)]=_;have ru:fy (F (k'+3)) (L (k'+3)) (X_ (k'+3)) (Nat.ble 2 (k'+3)) [some (.tup (d8 b)),some (wy w),some (nms ns),some (H7 m),some (.ref 0),none,none,none,none] [.dct (H8 E)]=th E [some (.tup (d8 b)),some (wy w),some (nms ns),some (H7 m),some (.ref 0),y5,y6,y7,y8] (P_ E m w 0 ns b):=lp
  have r2:oP (fy (F (k'+3)) (L (k'+3)) (X_ (k'+3)) (Nat.ble 2 (k'+3))) 5 9 [.tup (d8 b),wy w,nms ns,H7 m,.ref 0] [.dct (H8 E)]=match fy (F (k'+3)) (L (k'+3)) (X_ (k'+3)) (Nat.ble 2 (k'+3)) [some (.tup (d8 b)),some (wy w),some (nms ns),some (H7 m),some (.ref 0),none,none,none,none] [.dct (H8 E)]with
   |.nx _ h1=>gB 1 .non h1
   |.rt v h1=>eO 1 v h1
   |.exc e h1=>xj 1 e h1
   |_=>.bad:=rfl
  have ep:=ot E;rw[r2,ru]
  cases P_ E m w 0 ns b with
  |none=>simp[th,Av,gB,aO,ep]
  |some v=>
   have:(PV.Ql 2 (wy v)).pure=true:=by rw[PV.pure];exact jO v
   simp[th,Av,xj,aO,ep,this]
theorem ww(q:Pc)(E:List Pc)(h:(E.map (·.n)).contains q.n=false):dP (H8 E) (.inr q.n) (pc q)=H8 (E++ [q]):=by
 have a:((H8 E).any fun kv=>decide (kv.1=.inr q.n))=false:=by
  rw[aeT];intro kv hk;obtain⟨p,hp,rfl⟩:=acK.mp hk;intro z;have e:p.n=q.n:=ahC (of_decide_eq_true z);have:(E.map (·.n)).contains q.n=true:=by rw[acL,<- e];exact acK.mpr ⟨p,hp,rfl⟩
  rw[h]at this;cases this
 unfold dP;rw[a,if_neg (by decide)];unfold H8;rw[aci];rfl
theorem lJ(E:List Pc)(n:List Nat):(look E n).isSome=(E.map (·.n)).contains n:=by
 unfold look
 induction E with
 |nil=>rfl
 |cons q r ih=>
  rw[ab7,ad0,adh]
  cases e:q.n==n with
  |true=>have:q.n=n:=aec e;subst this;simp
  |false=>
   have:(n==q.n)=false:=by rw[beq_eq_false_iff_ne];intro z;subst z;simp at e
   rw[this,aea];exact ih
theorem kh(n:List Nat)(E:List Pc)(r:List PO):R7 (.str n) (.ref 0) (.dct (H8 E)::r)=.ok (.bl ((E.map (·.n)).contains n)) (.dct (H8 E)::r):=by show(match some (dI (H8 E) (.inr n)).isSome with|some b=>Res.ok (PV.bl b) (.dct (H8 E)::r)|none=>Res.bad)=_;rw[nA,ag3,lJ]
def wC(q:Pc):Bool:=sg q.n&&(N5 q.ns&&(decide (q.ns.length<60)&&(wS q.b&&decide (dS q.b<=20))))
def GN(ρ:Ev)(E:List Pc):Option (List Int)->SR
 |none=>.nx ρ [.dct (H8 E)]
 |some w=>.exc (.Ql 2 (wy w)) [.dct (H8 E)]
theorem AK(k:Nat)(B:List Pc)(E:List Pc)(q:Pc)(hw:wC q=true)(hk:44<=k)(lE:E.length<=1000)(x4:Option PV):
  ∃y4,(if((E.map (·.n)).contains q.n||dup q.ns||(decide (E.length+1=B.length)&&q.m.isSome))=true then
   aM (F k) (X_ k) (Nat.ble 2 (dl k)) [some (bk B),some (.ref 0),some (.int E.length),some (pc q),x4] [.dct (H8 E)]=.exc (.Ql 2 (wy [(E.length:Int)])) [.dct (H8 E)]
  else match P_ E q.m [(E.length:Int)] 0 q.ns q.b with
   |some w=>aM (F k) (X_ k) (Nat.ble 2 (dl k)) [some (bk B),some (.ref 0),some (.int E.length),some (pc q),x4] [.dct (H8 E)]=.exc (.Ql 2 (wy w)) [.dct (H8 E)]
   |none=>aM (F k) (X_ k) (Nat.ble 2 (dl k)) [some (bk B),some (.ref 0),some (.int E.length),some (pc q),x4] [.dct (H8 E)]=.nx [some (bk B),some (.ref 0),some (.int E.length),some (pc q),y4] [.dct (H8 (E++ [q]))]):=by
 simp only[wC,ab5,decide_eq_true_eq]at hw;obtain⟨w1,w2,w3,w4,w5⟩:=hw
 have p3:∀h,d7 (pc q) (.int 3) h=.ok (H7 q.m) h:=fun h=>by show Res.ok (aq h (H7 q.m)) h=_;rw[lH]
 have el:decide ((E.length:Int)=(B.length:Int) - 1)=decide (E.length+1=B.length):=by
  by_cases e:E.length+1=B.length
  ·rw[decide_eq_true e];exact decide_eq_true (by omega)
  ·rw[decide_eq_false e];exact decide_eq_false (by omega)
 obtain⟨k',rfl⟩:∃k',k=k'+1:=⟨k - 1,by omega⟩
 have tw:∀h,bO (F (k'+1) .E_) [nms q.ns] h=.ok (.bl (dup q.ns)) h:=fun h=>bp h (by rw[ar,cC];rfl) (vP k' q.ns w3);have hz:Nat.ble 2 (dl (k'+1))=true:=rfl;have mp:(H7 q.m).pure=true:=by cases q.m<;>rfl
 have nk:=CT (dS q.b) q.b E q.m [(E.length:Int)] q.ns (k'+1) (ab8 _) w4 w2 (by omega) (by simp;omega) (by omega);obtain⟨c1,c2⟩:=dR (fn:=X_ (k'+1) .k_) [.tup (d8 q.b),wy [(E.length:Int)],nms q.ns,H7 q.m] (o:=.dct (H8 E)) (by simp[ar,PV.pure,aU q.b,jO,cC,mp]) (ot E);have sz:(H8 E).length<16777216:=by unfold H8;rw[ab9];omega
 cases h1:(E.map (·.n)).contains q.n with
 |true=>refine⟨x4,?_⟩;rw[if_pos (by simp)];simp only[EX,aM,el,kh,h1,km _ _ _ _ _ hz];rfl
 |false=>
  cases h2:dup q.ns with
  |true=>refine⟨x4,?_⟩;rw[if_pos (by simp)];simp only[EX,aM,el,kh,h1,tw,h2,km _ _ _ _ _ hz];rfl
  |false=>
   have go:aM (F (k'+1)) (X_ (k'+1)) (Nat.ble 2 (dl (k'+1))) [some (bk B),some (.ref 0),some (.int E.length),some (pc q),x4] [.dct (H8 E)]=
     if(decide (E.length+1=B.length)&&q.m.isSome)=true then .exc (.Ql 2 (wy [(E.length:Int)])) [.dct (H8 E)]else
     match P_ E q.m [(E.length:Int)] 0 q.ns q.b with
     |some w=>.exc (.Ql 2 (wy w)) [.dct (H8 E)]
     |none=>.nx [some (bk B),some (.ref 0),some (.int E.length),some (pc q),some (.bl (decide (E.length+1=B.length)))] [.dct (H8 (E++ [q]))]:=by
    cases h3:decide (E.length+1=B.length)&&q.m.isSome with
    |true=>rw[ab5]at h3;rw[if_pos rfl];simp only[EX,aM,p3,el,kh,h1,tw,h2,h3.1,h3.2,km _ _ _ _ _ hz];rfl
    |false=>
     rw[if_neg (by decide)]
     cases e:P_ E q.m [(E.length:Int)] 0 q.ns q.b with
     |some w=>
      rw[e]at nk;have cc:=c2 (.Ql 2 (wy w)) (by rw[PV.pure];exact jO w) nk;simp only[acB,acC]at cc;have Wl:w6 (X_ (k'+1) .k_) [.tup (d8 q.b),.tup [.int E.length],nms q.ns,H7 q.m,.ref 0] [.dct (H8 E)]=.exc (.Ql 2 (wy w)) [.dct (H8 E)]:=cc
      cases d:decide (E.length+1=B.length)with
      |false=>simp only[EX,aM,p3,el,kh,h1,tw,h2,d,Wl,Res.Qo]
      |true=>rw[d,ac6]at h3;simp only[EX,aM,p3,el,kh,h1,tw,h2,d,h3,Wl,Res.Qo]
     |none=>
      rw[e]at nk;have cc:=c1 .non rfl nk;simp only[acB,acC]at cc;have Wl:w6 (X_ (k'+1) .k_) [.tup (d8 q.b),.tup [.int E.length],nms q.ns,H7 q.m,.ref 0] [.dct (H8 E)]=.ok .non [.dct (H8 E)]:=cc
      cases d:decide (E.length+1=B.length)with
      |false=>simp only[EX,aM,p3,el,kh,h1,tw,h2,d,Wl,sz,ww q E h1]
      |true=>rw[d,ac6]at h3;simp only[EX,aM,p3,el,kh,h1,tw,h2,d,h3,Wl,sz,ww q E h1]
   refine⟨some (.bl (decide (E.length+1=B.length))),?_⟩;rw[aea,aea,go]
   split
   ·rfl
   ·cases P_ E q.m [(E.length:Int)] 0 q.ns q.b<;>rfl
theorem rP(k:Nat)(B:List Pc)(hk:44<=k)(lB:B.length<=1000):∀(r E:List Pc)(x2 x3 x4:Option PV),E.length+r.length=B.length->(∀q∈r,wC q=true)->∃y2 y3 y4 E',
  aN aaI (aM (F k) (X_ k) (Nat.ble 2 (dl k))) (Rd E.length (r.map pc)) [some (bk B),some (.ref 0),x2,x3,x4] [.dct (H8 E)]=GN [some (bk B),some (.ref 0),y2,y3,y4] E' (Rk B.length E r)
 |[],E,x2,x3,x4,_,_=>⟨x2,x3,x4,E,by rw[acM,Rd,aN,Rk];rfl⟩
 |q::r,E,x2,x3,x4,hl,hw=>by
  rw[acw]at hl;obtain⟨y4,one⟩:=AK k B E q (hw q acv) hk (by omega) x4
  have st:∀(R:SR),aM (F k) (X_ k) (Nat.ble 2 (dl k)) [some (bk B),some (.ref 0),some (.int E.length),some (pc q),x4] [.dct (H8 E)]=R->
    aN aaI (aM (F k) (X_ k) (Nat.ble 2 (dl k))) (Rd E.length (pc q::r.map pc)) [some (bk B),some (.ref 0),x2,x3,x4] [.dct (H8 E)]=
    match R with
    |.nx ρ2 h2=>aN aaI (aM (F k) (X_ k) (Nat.ble 2 (dl k))) (Rd (E.length+1) (r.map pc)) ρ2 h2
    |.ct ρ2 h2=>aN aaI (aM (F k) (X_ k) (Nat.ble 2 (dl k))) (Rd (E.length+1) (r.map pc)) ρ2 h2
    |.bk ρ2 h2=>.nx ρ2 h2
    |.rt v h2=>.rt v h2
    |.exc v h2=>.exc v h2
    |.bad=>.bad:=fun R e=>by subst e;rfl
  rw[ab7,Rk]
  split at one
  ·rename_i c;rw[st _ one,if_pos c];exact⟨x2,x3,x4,E,rfl⟩
  ·rename_i c;rw[if_neg c]
   split at one
   ·rename_i w e;rw[st _ one,e];exact⟨x2,x3,x4,E,rfl⟩
   ·rename_i e;rw[st _ one,e];have l1:(E++ [q]).length=E.length+1:=by simp
    have ih:=rP k B hk lB r (E++ [q]) (some (.int E.length)) (some (pc q)) y4 (by rw[l1];omega) fun z hz=>hw z (acg _ hz);rw[l1]at ih;exact ih
theorem Db(k:Nat)(B:List Pc)(hk:44<=k)(lB:B.length<=1000)(hw:∀q∈B,wC q=true):X_ (k+1) .G7 [bk B] []=match Rk B.length [] B with|none=>.ok .non []|some w=>.exc (.Ql 2 (wy w)) []:=by
 obtain⟨y2,y3,y4,E',lp⟩:=rP k B hk lB B [] none none none (by simp) hw;show oP (fA (F k) (X_ k) (Nat.ble 2 (dl k))) 1 5 [bk B] []=_;have ru:fA (F k) (X_ k) (Nat.ble 2 (dl k)) [some (bk B),none,none,none,none] []=GN [some (bk B),some (.ref 0),y2,y3,y4] E' (Rk B.length [] B):=lp
 have r2:oP (fA (F k) (X_ k) (Nat.ble 2 (dl k))) 1 5 [bk B] []=match fA (F k) (X_ k) (Nat.ble 2 (dl k)) [some (bk B),none,none,none,none] []with
   |.nx _ h1=>gB 0 .non h1
   |.rt v h1=>eO 0 v h1
   |.exc e h1=>xj 0 e h1
   |_=>.bad:=rfl
 rw[r2,ru]
 cases Rk B.length [] B with
 |none=>simp[GN,gB,aO]
 |some v=>
  have:(PV.Ql 2 (wy v)).pure=true:=by rw[PV.pure];exact jO v
  simp[GN,xj,aO,this]
mutual
def K_:Nd->Nat
 |.loop _ _ b _=>p7 b
 |.choice _ y n=>p7 y+p7 n
 |.j8 _ _ _ b=>p7 b
 |_=>0
def p7:j7->Nat
 |.nil=>0
 |.cons n r=>K_ n+1+p7 r
end
section
variable{h:List PO}{i:Nat}{acc:List PV}
theorem Kr(e:h[i]? =some (.lst acc)):aq h (.ref i)=.ref i:=by show(match h[i]? with|some (.J8 q)=>q|_=>PV.ref i)=_;rw[e]
theorem Ez(e:h[i]? =some (.lst acc))(x:PV)(hl:acc.length<16000000):bD (.ref i) [x] h=.ok .non (h.set i (.lst (acc++ [x]))):=by
 have e2:mJ h (.ref i)=some (i,acc):=by unfold mJ;simp only[e]
 unfold bD;rw[e2];dsimp only;rw[if_pos (Nat.lt_trans hl (by decide))]
theorem KQ(e:h[i]? =some (.lst acc))(ys:List PV)(hl:acc.length+ys.length<=16000000):aI (.ref i) (.lst ys) h=.ok (.lst (acc++ys)) h:=by show AO (.ref i) (.lst ys) h=_;unfold AO;simp only[Rp,e];rw[if_pos (ace hl (by decide))]
end
def fd(d:Nat)(p:PV):Prop:=(toD p).canLay0=true/\(toD p).depth<=d/\p.pure=true
def fds(d:Nat)(l:List PV):Prop:=PyData.canLayAll0 (jz l)=true/\PyData.depthAll (jz l)<=d/\ar l=true
theorem dg(d:Nat):fds d []:=⟨by simp[jz,PyData.canLayAll0],by simp[jz,PyData.depthAll],by simp[ar]⟩
theorem aG{d:Nat}{p:PV}{l:List PV}(h:fd d p)(t:fds d l):fds d (p::l):=by
 refine⟨?_,?_,?_⟩
 ·simp only[jz,PyData.canLayAll0,h.1,t.1,ahy]
 ·simp only[jz,PyData.depthAll];exact afw.mpr ⟨h.2.1,t.2.1⟩
 ·simp only[ar,h.2.2,t.2.2,ahy]
theorem cJ{d:Nat}{l:List PV}(h:fds d l):fd (d+1) (.tup l):=by
 refine⟨?_,?_,?_⟩
 ·simp only[toD,PyData.canLay0,h.1]
 ·simp only[toD,PyData.depth];have:=h.2.1;omega
 ·simpa[PV.pure]using h.2.2
theorem bJ{d e:Nat}{p:PV}(h:fd d p)(le:d<=e):fd e p:=⟨h.1,ace h.2.1 le,h.2.2⟩
theorem sk{d e:Nat}{l:List PV}(h:fds d l)(le:d<=e):fds e l:=⟨h.1,ace h.2.1 le,h.2.2⟩
theorem GM{l:List PV}(hl:fds 59 l)(h:List L3.PO):J5 (.lst l) (.lst []) h=.ok (.bl l.isEmpty) h:=by
 have ok:O9 h (.lst l)=true:=by unfold O9 O8;have:=hl.2.1;simp only[toD,PyData.canLay0,PyData.depth,hl.1,ac6,decide_eq_true_eq];omega
 unfold J5;rw[if_pos ⟨ok,rfl⟩]
 cases l<;>rfl
theorem FD{l:List PV}(hl:fds 59 l)(h:List L3.PO):QC (.lst l) (.lst []) h=.ok (.bl (!l.isEmpty)) h:=by
 have ok:O9 h (.lst l)=true:=by unfold O9 O8;have:=hl.2.1;simp only[toD,PyData.canLay0,PyData.depth,hl.1,ac6,decide_eq_true_eq];omega
 unfold QC;rw[if_pos ⟨ok,rfl⟩]
 cases l<;>rfl
theorem Ky{α:Type}(l:List α)(b:Nat):cut l none (some (b:Int))=l.take b:=by
 unfold cut;rw[HT.QL,HT.RB,agy,Nat.sub_zero];rcases Nat.le_total b l.length with q|q
 ·rw[afk q]
 ·rw[Nat.min_eq_right q,agc (ab8 _),agc q]
theorem yO(xs:List PV)(lo hi:Option Int)(h:List PO):jq (.tup xs) lo hi h=.ok (.tup (cut xs lo hi)) h:=by
 unfold jq;dsimp only
 split
 ·rename_i hz;unfold cut;rw[hz.1,hz.2];simp
 ·rfl
theorem mM(xs:List PV)(j:Nat)(h:List PO):jq (.tup xs) none (some (j:Int)) h=.ok (.tup (xs.take j)) h:=by rw[yO,Ky]
theorem cU{d:Nat}{l:List Nat}(h:sg l=true):fd d (.str l):=⟨by simp only[toD,PyData.canLay0];simp[PyData.strOk,S];exact fun c hc=>nH h c hc,by simp[toD,PyData.depth],by simp[PV.pure]⟩
theorem DZ(d:Nat)(i:Int):fd d (.int i):=⟨by simp[toD,PyData.canLay0],by simp[toD,PyData.depth],by simp[PV.pure]⟩
theorem yr(d:Nat):fd d .non:=⟨by simp[toD,PyData.canLay0],by simp[toD,PyData.depth],by simp[PV.pure]⟩
theorem iW{d:Nat}:∀{l:List (List Nat)},N5 l=true->fds d (l.map PV.str)
 |[],_=>dg d
 |a::r,h=>by rw[N5,adN,ab5]at h;exact aG (cU h.1) (iW h.2)
theorem JZ{d:Nat}{l:List (List Nat)}(h:N5 l=true):fd (d+1) (nms l):=cJ (iW h)
theorem vo{d:Nat}{p:u9}(h:wp p=true):fd (d+1) (G3 p):=by rw[wp,ab5,ab5]at h;exact cJ (aG (cU h.1) (iW h.2.1))
theorem oq{d:Nat}:∀{l:List u9},l.all wp=true->fds (d+1) (dG l)
 |[],_=>dg _
 |a::r,h=>by rw[adN,ab5]at h;exact aG (vo h.1) (oq h.2)
theorem uq{l:List u9}(h:wps l=true):l.all wp=true:=by rw[wps,ab5]at h;exact h.1
theorem kI:sg tT=true/\sg tP=true/\sg tL=true/\sg tC=true/\sg tU=true/\sg tB=true/\sg tI=true:=by decide
mutual
theorem HC:∀{n:Nd},wN n=true->fd (2 * dN n+4) (nd n)
 |.text s,h=>by rw[wN]at h;rw[nd];exact bJ (cJ (aG (cU kI.1) (aG (cU ((ab5 _ _).mp h).1) (dg 0)))) (by omega)
 |.place p w,h=>by rw[wN,ab5]at h;rw[nd];exact bJ (cJ (d:=1) (aG (cU kI.2.1) (aG (vo h.1) (aG (cU h.2) (dg 1))))) (by omega)
 |.loop x p b t,h=>by rw[wN,ab5,ab5,ab5]at h;rw[nd,dN];have q:=cJ (sj h.2.2.1);exact bJ (cJ (aG (cU kI.2.2.1) (aG (cU h.1) (aG (bJ (vo (d:=0) h.2.1) (by omega)) (aG q (aG (cU h.2.2.2) (dg _))))))) (by omega)
 |.choice p y z,h=>by rw[wN,ab5,ab5]at h;rw[nd,dN];have m1:=ado (dS y) (dS z);have m2:=adi (dS y) (dS z);have q1:=bJ (e:=2 * max (dS y) (dS z)+5) (cJ (sj h.2.1)) (by omega);have q2:=bJ (e:=2 * max (dS y) (dS z)+5) (cJ (sj h.2.2)) (by omega);exact bJ (cJ (aG (cU kI.2.2.2.1) (aG (bJ (vo (d:=0) h.1) (by omega)) (aG q1 (aG q2 (dg _)))))) (by omega)
 |.use x ps,h=>by rw[wN,ab5]at h;rw[nd];exact bJ (cJ (d:=2) (aG (cU kI.2.2.2.2.1) (aG (cU h.1) (aG (cJ (oq (uq h.2))) (aG (yr _) (aG (yr _) (dg 2))))))) (by omega)
 |.j8 x ps hs b,h=>by rw[wN,ab5,ab5,ab5,ab5]at h;rw[nd,dN];have q:=cJ (sj h.2.2.2.2);exact bJ (cJ (aG (cU kI.2.2.2.2.1) (aG (cU h.1) (aG (bJ (cJ (oq (d:=0) (uq h.2.1))) (by omega)) (aG (bJ (JZ (d:=0) h.2.2.1) (by omega)) (aG q (dg _))))))) (by omega)
 |.body ps,h=>by rw[wN]at h;rw[nd];exact bJ (cJ (d:=2) (aG (cU kI.2.2.2.2.2.1) (aG (cJ (oq (uq h))) (dg 2)))) (by omega)
theorem sj:∀{b:j7},wS b=true->fds (2 * dS b+4) (d8 b)
 |.nil,_=>by rw[d8];exact dg _
 |.cons n r,h=>by rw[wS,ab5]at h;rw[d8,dS];have m1:=ado (dN n) (dS r);have m2:=adi (dN n) (dS r);exact aG (bJ (HC h.1) (by omega)) (sk (sj h.2) (by omega))
end
theorem pE{α:Type}{tt:Tx}{te:Ex}{cp:Ev}{h:List PO}(f:α->PV)(T:α->Bool)(g:α->PV):∀l:List α,(∀x∈l,tt (some (f x)::cp) h=.ok (T x) h)->(∀x∈l,te (some (f x)::cp) h=.ok (g x) h)->cY tt te cp (l.map f) h=.ok ((l.filter T).map g) h
 |[],_,_=>rfl
 |x::r,h1,h2=>by
  have ih:=pE f T g r (fun z hz=>h1 z (acg _ hz)) fun z hz=>h2 z (acg _ hz);rw[ab7,cY,h1 x acv];simp only[Res.Qn]
  cases e:T x with
  |true=>rw[if_pos rfl,h2 x acv,List.filter_cons_of_pos e];simp only[Res.Qn,ih,ab7]
  |false=>rw[if_neg (by decide),ih,List.filter_cons_of_neg (by rw[e];decide)]
theorem MC{B:List Pc}{i:Nat}{q:Pc}(e:B[i]? =some q)(h:List PO):d7 (bk B) (.int i) h=.ok (pc q) h:=by show(match O_ (B.map pc) (i:Int)with|some v=>Res.ok (aq h v) h|none=>Res.bad)=_;rw[fU (v:=pc q) (by omega) (by rw[ada,acJ,e];rfl)];rfl
theorem HE{a b:List Nat}(ha:sg a=true)(hb:sg b=true)(h:List PO):J5 (.str a) (.str b) h=.ok (.bl (decide (a=b))) h:=CH a b h (nH ha) (nH hb)
theorem rR{α:Type}{te:Ex}{cp:Ev}{h:List PO}(f g:α->PV)(l:List α)(h2:∀x∈l,te (some (f x)::cp) h=.ok (g x) h):cY cV te cp (l.map f) h=.ok (l.map g) h:=by rw[pE f (fun _=>true) g l (fun _ _=>rfl) h2,List.filter_eq_self.mpr fun _ _=>rfl]
theorem jE:∀B:List Pc,ar (B.map pc)=true
 |[]=>rfl
 |q::r=>by rw[ab7,ar,fN,jE r];rfl
theorem fF(B:List Pc):(bk B).pure=true:=by unfold bk;rw[PV.pure];exact jE B
abbrev Sz:=Int×Int×Int×Int
noncomputable def Oe(s:Sz):PV:=.tup [.int s.1,.int s.2.1,.int s.2.2.1,.int s.2.2.2]
def bd(X:Nat)(s:Sz):Prop:=(0<=s.1/\s.1<=X)/\(0<=s.2.1/\s.2.1<=X)/\(0<=s.2.2.1/\s.2.2.1<=X)/\(0<=s.2.2.2/\s.2.2.2<=X)
theorem mr{X Y:Nat}{s:Sz}(h:bd X s)(le:X<=Y):bd Y s:=have z:(X:Int)<=Y:=Int.ofNat_le.mpr le;⟨⟨h.1.1,Int.le_trans h.1.2 z⟩,⟨h.2.1.1,Int.le_trans h.2.1.2 z⟩,⟨h.2.2.1.1,Int.le_trans h.2.2.1.2 z⟩,h.2.2.2.1,Int.le_trans h.2.2.2.2 z⟩
section
variable(s:Sz)(h:List PO)
theorem vS:d7 (Oe s) (.int 0) h=.ok (.int s.1) h:=rfl
theorem vR:d7 (Oe s) (.int 1) h=.ok (.int s.2.1) h:=rfl
theorem xH:d7 (Oe s) (.int 2) h=.ok (.int s.2.2.1) h:=rfl
theorem BN:d7 (Oe s) (.int 3) h=.ok (.int s.2.2.2) h:=rfl
theorem mF:aq h (Oe s)=Oe s:=rfl
theorem gW:(Oe s).pure=true:=rfl
end
noncomputable def Tg(a b:Sz):Sz:=(a.1+b.1,(if b.2.1>a.2.1 then b.2.1 else a.2.1),a.2.2.1+b.2.2.1,(if b.2.2.2>a.2.2.2 then b.2.2.2 else a.2.2.2))
noncomputable def Q5(a:Sz):Sz:=(a.1+1,a.2.1+1,a.2.2.1,if(a.2.2.1 !=0)=true then a.2.2.2+1 else 0)
noncomputable def Ud(p b:Sz):Sz:=if p.2.2.1=0 then(p.1,p.2.1,0,0)else(p.1+p.2.2.1 * b.1,(if p.2.2.2+b.2.1>p.2.1 then p.2.2.2+b.2.1 else p.2.1),p.2.2.1 * b.2.2.1,if(b.2.2.1 !=0)=true then p.2.2.2+b.2.2.2 else 0)
theorem EW(k X Y:Nat)(a b:Sz)(ha:bd X a)(hb:bd Y b):bd (X+Y) (Tg a b)/\F (k+1) .v5 [Oe a,Oe b]=.ok (Oe (Tg a b)):=by
 refine⟨?_,?_⟩
 ·unfold bd Tg at*;dsimp only;refine⟨by omega,by split<;>omega,by omega,by split<;>omega⟩
 ·show bz (gF (F k)) 2 2 [Oe a,Oe b]=_;simp only[EX,bz,gF,mF,vS,vR,xH,BN];rfl
theorem Aq(k X:Nat)(a:Sz)(ha:bd X a):bd (X+1) (Q5 a)/\F (k+1) .m9 [Oe a]=.ok (Oe (Q5 a)):=by
 unfold bd at ha
 cases e:a.2.2.1 !=0 with
 |true=>refine⟨by unfold bd Q5;rw[e];dsimp only;simp only[if_true];omega,?_⟩;unfold Q5;rw[e];show bz (eM (F k)) 1 2 [Oe a]=_;simp only[EX,bz,eM,mF,vS,vR,xH,BN,e];rfl
 |false=>refine⟨by unfold bd Q5;rw[e];dsimp only;simp only[aej,if_false];omega,?_⟩;unfold Q5;rw[e];show bz (eM (F k)) 1 2 [Oe a]=_;simp only[EX,bz,eM,mF,vS,vR,xH,BN,e];rfl
mutual
def Pq(kn:List (List Nat)):Nd->Bool
 |.loop _ _ b _=>Ph kn b
 |.choice _ y n=>Ph kn y&&Ph kn n
 |.use x _=>kn.contains x
 |.j8 x _ _ b=>kn.contains x&&Ph kn b
 |_=>true
def Ph(kn:List (List Nat)):j7->Bool
 |.nil=>true
 |.cons n r=>Pq kn n&&Ph kn r
end
noncomputable def J6:j7->j7->j7
 |.nil,z=>z
 |.cons n r,z=>.cons n (J6 r z)
theorem mU:∀(y z:j7),d8 (J6 y z)=d8 y++d8 z
 |.nil,z=>by rw[J6,d8];rfl
 |.cons n r,z=>by rw[J6,d8,d8,mU r z];rfl
theorem sE:∀(y z:j7),dS (J6 y z)=max (dS y) (dS z)
 |.nil,z=>by rw[J6,dS,aga]
 |.cons n r,z=>by rw[J6,dS,dS,sE r z,ae8]
theorem iZ:∀(y z:j7),p7 (J6 y z)=p7 y+p7 z
 |.nil,z=>by rw[J6,p7];omega
 |.cons n r,z=>by rw[J6,p7,p7,iZ r z];omega
theorem xF(kn:List (List Nat)):∀(y z:j7),Ph kn (J6 y z)=(Ph kn y&&Ph kn z)
 |.nil,z=>by rw[J6,Ph];simp
 |.cons n r,z=>by rw[J6,Ph,Ph,xF kn r z,afG]
theorem Hl:∀(y z:j7),wS (J6 y z)=(wS y&&wS z)
 |.nil,z=>by rw[J6,wS];simp
 |.cons n r,z=>by rw[J6,wS,wS,Hl r z,afG]
theorem fC:∀b:j7,(d8 b).length<=p7 b
 |.nil=>by rw[d8,p7];simp
 |.cons n r=>by rw[d8,p7,acw];have:=fC r;omega
def M5(S:List (List Nat×Sz)):PO:=.dct (S.map fun x=>(.inr x.1,Oe x.2))
theorem gp(S:List (List Nat×Sz)):(M5 S).pure=true:=by
 show aW _=true;rw[fS,ady]
 induction S with
 |nil=>rfl
 |cons q r ih=>rw[ab7,ar,ih];rfl
theorem vK(n:List Nat):∀S:List (List Nat×Sz),(S.map (·.1)).contains n=true->∃x∈S,S.find? (fun x=>x.1==n)=some x/\dI (S.map fun x=>(Sum.inr x.1,Oe x.2)) (.inr n)=some (Oe x.2)
 |[],h=>by cases h
 |x::r,h=>by
  by_cases e:x.1=n
  ·subst e;exact⟨x,acv,by simp,by simp[dI]⟩
  ·rw[ab7,ad0,ac4]at h;rcases h with h|h
   ·exact(e (aec h).symm).elim
   ·obtain⟨y,hy,zf,z⟩:=vK n r h;refine⟨y,acg _ hy,?_,?_⟩
    ·rw[acT (by simpa using e)];exact zf
    ·rw[<- z];simp[dI,e]
mutual
def O3(S:List Nat->Sz):Nd->Sz
 |.loop _ _ b _=>Q5 (Ou S (0,0,0,0) b)
 |.choice _ y n=>Q5 (Ou S (Ou S (0,0,0,0) y) n)
 |.use x _=>Q5 ((S x).1,(S x).2.1,0,0)
 |.j8 x _ _ b=>Q5 (Ud (S x) (Ou S (0,0,0,0) b))
 |.body _=>(1,1,1,1)
 |_=>(1,1,0,0)
def Ou(S:List Nat->Sz)(a:Sz):j7->Sz
 |.nil=>a
 |.cons n r=>Ou S (Tg a (O3 S n)) r
end
theorem xK(S:List Nat->Sz):∀(y:j7)(a:Sz)(z:j7),Ou S a (J6 y z)=Ou S (Ou S a y) z
 |.nil,a,z=>by rw[J6,Ou]
 |.cons n r,a,z=>by rw[J6,Ou,Ou];exact xK S r _ z
def Om(S:List (List Nat×Sz))(n:List Nat):Sz:=((S.find? fun x=>x.1==n).map (·.2)).getD (0,0,0,0)
theorem yk(n:List Nat)(S:List (List Nat×Sz))(e:(S.map (·.1)).contains n=true):∃x∈S,Om S n=x.2/\∀r,d7 (.ref 0) (.str n) (M5 S::r)=.ok (Oe x.2) (M5 S::r):=by obtain⟨x,hx,zf,z⟩:=vK n S e;refine⟨x,hx,by unfold Om;rw[zf];rfl,fun r=>?_⟩;show(match dI (S.map fun x=>(Sum.inr x.1,Oe x.2)) (.inr n)with|some v=>Res.ok (aq (M5 S::r) v) (M5 S::r)|none=>Res.bad)=_;rw[z];rfl
def EE(S:List (List Nat×Sz))(c d:Nat):Prop:=∀(b:j7)(k:Nat),dS b<=d->Ph (S.map (·.1)) b=true->p7 b<=1000000->3 * dS b+4<=k->
 bd (p7 b * (2 ^ c) ^ (dS b+1)) (Ou (Om S) (0,0,0,0) b)/\L k .i_ [.tup (d8 b),.ref 0] [M5 S]=.ok (Oe (Ou (Om S) (0,0,0,0) b)) [M5 S]
theorem xg{v:PV}{o:PO}(hv:v.pure=true)(ho:o.pure=true):eO 1 v [o]=.ok v [o]:=by unfold eO;rw[gy _ hv];dsimp only;unfold gB;simp[aO,ho]
theorem Ak{x:Int}{n:Nat}(h0:0<=x)(h:x<2 ^ n):Builtin.Int.intBits x<=n:=intBits_le_iff.mpr (by
 have:((x.natAbs:Nat):Int)<((2 ^ n:Nat):Int):=by rw[ago];show _<(2:Int) ^ n;omega
 omega)
theorem FE{a b c d q:Nat}(h:a<=b)(hq:1<=q)(hc:c<=d):a * q ^ c<=b * q ^ d:=Nat.mul_le_mul h (afd hq hc)
theorem Ay(S:List (List Nat×Sz))(c d:Nat)(hS:∀x∈S,bd (2 ^ c - 1) x.2)(hc:8 * c+30<=134217728)(hd:d<=6)(ok:∀d',d'<d->EE S c d')(n:Nd)(k:Nat)(dn:dN n<=d)(us:Pq (S.map (·.1)) n=true)(ct:K_ n<=1000000)(hk:3 * dN n+3<=k):
  bd ((K_ n+1) * (2 ^ c) ^ (dN n+1)) (O3 (Om S) n)/\L k .o7 [nd n,.ref 0] [M5 S]=.ok (Oe (O3 (Om S) n)) [M5 S]:=by
 obtain⟨k',rfl⟩:∃k',k=k'+3:=⟨k - 3,by omega⟩
 have q1:1<=2 ^ c:=aeI;have fin:∀s:Sz,eO 1 (Oe s) [M5 S]=.ok (Oe s) [M5 S]:=fun s=>xg (gW s) (gp S);have d0:aq [M5 S] (.ref 0)=.ref 0:=rfl;have r2:∀p1 p2:PV,dY (bh (F (k'+2)) (L (k'+2))) 2 2 [p1,p2] [M5 S]=match bh (F (k'+2)) (L (k'+2)) [some p1,some p2] [M5 S]with|.nx _ h1=>gB 1 .non h1|.rt v h1=>eO 1 v h1|_=>.bad:=fun _ _=>rfl
 have leaf:∀s:Sz,O3 (Om S) n=s->bd 1 s->bh (F (k'+2)) (L (k'+2)) [some (nd n),some (.ref 0)] [M5 S]=.rt (Oe s) [M5 S]->bd ((K_ n+1) * (2 ^ c) ^ (dN n+1)) (O3 (Om S) n)/\L (k'+3) .o7 [nd n,.ref 0] [M5 S]=.ok (Oe (O3 (Om S) n)) [M5 S]:=fun s es hs e=>by
  rw[es]
  exact⟨mr hs (ahk (by omega) (agw q1)),by show dY (bh (F (k'+2)) (L (k'+2))) 2 2 [nd n,.ref 0] [M5 S]=_;rw[r2,e];exact fin s⟩
 have wi:∀(X:Nat)(s:Sz),O3 (Om S) n=Q5 s->bd X s->X+1<=(K_ n+1) * (2 ^ c) ^ (dN n+1)->(∀s',(∀h,bO (F (k'+2) .m9) [Oe s] h=.ok (Oe s') h)->bh (F (k'+2)) (L (k'+2)) [some (nd n),some (.ref 0)] [M5 S]=.rt (Oe s') [M5 S])->
   bd ((K_ n+1) * (2 ^ c) ^ (dN n+1)) (O3 (Om S) n)/\L (k'+3) .o7 [nd n,.ref 0] [M5 S]=.ok (Oe (O3 (Om S) n)) [M5 S]:=fun X s es hs hX e=>by
  obtain⟨b',e'⟩:=Aq (k'+1) X s hs;rw[es];refine⟨mr b' hX,?_⟩;show dY (bh (F (k'+2)) (L (k'+2))) 2 2 [nd n,.ref 0] [M5 S]=_;rw[r2,e (Q5 s) fun h=>bp h (by rw[ar,gW];rfl) e'];exact fin _
 cases n with
 |text s=>exact leaf (1,1,0,0) rfl (by unfold bd;dsimp only;omega) (by simp only[EX,nd,bh];rfl)
 |place p s=>exact leaf (1,1,0,0) rfl (by unfold bd;dsimp only;omega) (by simp only[EX,nd,bh];rfl)
 |body p=>exact leaf (1,1,1,1) rfl (by unfold bd;dsimp only;omega) (by simp only[EX,nd,bh];rfl)
 |loop x p b t=>
  rw[dN]at dn hk;rw[Pq]at us;rw[K_]at ct;obtain⟨bs,e⟩:=ok (dS b) (by omega) b (k'+2) (ab8 _) us ct (by omega);obtain⟨s,es⟩:∃s,Ou (Om S) (0,0,0,0) b=s:=⟨_,rfl⟩
  rw[es]at bs e;have cc:=(dR (fn:=L (k'+2) .i_) [.tup (d8 b)] (o:=M5 S) (by simp[ar,PV.pure,aU b]) (gp S)).1 _ (gW s) e;simp only[acB,acC]at cc;refine wi _ s (by rw[O3,es]) bs ?_ fun s' cw=>?_
  ·rw[dN,K_,afN];exact afx (FE (ab8 _) q1 (by omega)) (ahk (by omega) (agw q1))
  ·have i0:∀h,d7 (nd (.loop x p b t)) (.int 0) h=.ok (.str tL) h:=fun h=>by rw[nd];rfl
   simp only[EX,bh,i0,d0,cc,cw]
 |choice p y z=>
  rw[dN]at dn hk;rw[Pq,ab5]at us;rw[K_]at ct;have da:=sE y z;obtain⟨bs,e⟩:=ok (dS (J6 y z)) (by omega) (J6 y z) (k'+2) (ab8 _) (by rw[xF,us.1,us.2];rfl) (by rw[iZ];exact ct) (by omega);obtain⟨s,es⟩:∃s,Ou (Om S) (0,0,0,0) (J6 y z)=s:=⟨_,rfl⟩
  rw[es]at bs e;rw[xK]at es;rw[mU]at e;have cc:=(dR (fn:=L (k'+2) .i_) [.tup (d8 y++d8 z)] (o:=M5 S) (by rw[<- mU];simp[ar,PV.pure,aU]) (gp S)).1 _ (gW s) e;simp only[acB,acC]at cc;have ly:∀b:j7,(d8 b).length<=p7 b:=fun b=>fC b;refine wi _ s (by rw[O3,es]) bs ?_ fun s' cw=>?_
  ·rw[dN,K_,afN,iZ,da];exact afx (FE (ab8 _) q1 (by omega)) (ahk (by omega) (agw q1))
  ·have i0:∀h,d7 (nd (.choice p y z)) (.int 0) h=.ok (.str tC) h:=fun h=>by rw[nd];rfl
   have aa:∀h,aI (.tup (d8 y)) (.tup (d8 z)) h=.ok (.tup (d8 y++d8 z)) h:=fun h=>fK _ _ h (by have:=ly y;have:=ly z;exact ace (by omega:_<=1000000) (by decide));simp only[EX,bh,i0,d0,aa,cc,cw]
 |use x ps=>
  rw[Pq]at us;obtain⟨y,hy,yl,ix⟩:=yk x S us;have W_:=hS y hy
  have e:L (k'+2) .m_ [nd (.use x ps),.ref 0] [M5 S]=.ok (Oe (y.2.1,y.2.2.1,0,0)) [M5 S]:=by
   show dY (bF (F (k'+1)) (L (k'+1))) 2 6 [nd (.use x ps),.ref 0] [M5 S]=_
   have ru:bF (F (k'+1)) (L (k'+1)) [some (nd (.use x ps)),some (.ref 0),none,none,none,none] [M5 S]=.rt (Oe (y.2.1,y.2.2.1,0,0)) [M5 S]:=by simp only[EX,bF,d0,ix,mF,vS,vR,xH];rfl
   have r3:dY (bF (F (k'+1)) (L (k'+1))) 2 6 [nd (.use x ps),.ref 0] [M5 S]=match bF (F (k'+1)) (L (k'+1)) [some (nd (.use x ps)),some (.ref 0),none,none,none,none] [M5 S]with|.nx _ h1=>gB 1 .non h1|.rt v h1=>eO 1 v h1|_=>.bad:=rfl
   rw[r3,ru];exact fin _
  have cc:=(dR (fn:=L (k'+2) .m_) [nd (.use x ps)] (o:=M5 S) (by simp[ar,ch]) (gp S)).1 _ (gW _) e;simp only[acB,acC]at cc;refine wi (2 ^ c - 1) (y.2.1,y.2.2.1,0,0) (by rw[O3,yl]) (by unfold bd at*;dsimp only;omega) ?_ fun s' cw=>?_
  ·have z1:dN (.use x ps)=0:=rfl;have z2:K_ (.use x ps)=0:=rfl;rw[z1,z2,adU,ahj,Nat.pow_one];omega
  ·have i0:∀h,d7 (nd (.use x ps)) (.int 0) h=.ok (.str tU) h:=fun h=>by rw[nd];rfl
   simp only[EX,bh,i0,d0,cc,cw]
 |j8 x ps hs b=>
  rw[dN]at dn hk;rw[Pq,ab5]at us;rw[K_]at ct;obtain⟨y,hy,yl,ix⟩:=yk x S us.1;have W_:=hS y hy;obtain⟨bs,e⟩:=ok (dS b) (by omega) b (k'+1) (ab8 _) us.2 ct (by omega);obtain⟨s,es⟩:∃s,Ou (Om S) (0,0,0,0) b=s:=⟨_,rfl⟩
  rw[es]at bs e;have cn:=(dR (fn:=L (k'+1) .i_) [.tup (d8 b)] (o:=M5 S) (by simp[ar,PV.pure,aU b]) (gp S)).1 _ (gW s) e;simp only[acB,acC]at cn
  have key:∃s2,s2=Ud y.2 s/\bd ((2 ^ c - 1) * (p7 b * (2 ^ c) ^ (dS b+1))+(p7 b * (2 ^ c) ^ (dS b+1))+(2 ^ c - 1)) s2/\L (k'+2) .m_ [nd (.j8 x ps hs b),.ref 0] [M5 S]=.ok (Oe s2) [M5 S]:=by
   have r3:∀s2,bF (F (k'+1)) (L (k'+1)) [some (nd (.j8 x ps hs b)),some (.ref 0),none,none,none,none] [M5 S]=.rt (Oe s2) [M5 S]->L (k'+2) .m_ [nd (.j8 x ps hs b),.ref 0] [M5 S]=.ok (Oe s2) [M5 S]:=fun s2 ru=>by
    have r4:L (k'+2) .m_ [nd (.j8 x ps hs b),.ref 0] [M5 S]=match bF (F (k'+1)) (L (k'+1)) [some (nd (.j8 x ps hs b)),some (.ref 0),none,none,none,none] [M5 S]with|.nx _ h1=>gB 1 .non h1|.rt v h1=>eO 1 v h1|_=>.bad:=rfl
    rw[r4,ru];exact fin _
   by_cases m0:y.2.2.2.1=0
   ·refine⟨(y.2.1,y.2.2.1,0,0),by unfold Ud;rw[if_pos m0],by unfold bd at*;dsimp only;omega,r3 _ ?_⟩;have z0:decide (y.2.2.2.1=0)=true:=decide_eq_true m0;simp only[EX,bF,d0,ix,mF,vS,vR,xH,z0];rfl
   ·have z0:decide (y.2.2.2.1=0)=false:=decide_eq_false m0;have hq:(2 ^ c) ^ (dS b+1)=2 ^ (c * (dS b+1)):=by rw[Nat.pow_mul]
    have lb:p7 b * (2 ^ c) ^ (dS b+1)<2 ^ (20+c * (dS b+1)):=by rw[hq,Nat.pow_add];exact Nat.mul_lt_mul_of_pos_right (acU ct (by decide)) (Nat.two_pow_pos _)
    have cl:c * (dS b+1)<=c * 6:=aez _ (by omega)
    have bm:∀v:Int,0<=v->v<=((p7 b * (2 ^ c) ^ (dS b+1):Nat):Int)->jJ y.2.2.2.1 v=true:=fun v v0 v1=>Jc (decide_eq_true (by
     have b1:Builtin.Int.intBits y.2.2.2.1<=c:=Ak (by unfold bd at W_;omega) (by
      have:((2 ^ c:Nat):Int)=(2:Int) ^ c:=by rw[ago];rfl
      unfold bd at W_;omega)
     have b2:Builtin.Int.intBits v<=20+c * (dS b+1):=Ak v0 (by
      have:((2 ^ (20+c * (dS b+1)):Nat):Int)=(2:Int) ^ (20+c * (dS b+1)):=by rw[ago];rfl
      rw[<- this];omega)
     omega))
    have Zj:∀v:Int,0<=v->v<=((p7 b * (2 ^ c) ^ (dS b+1):Nat):Int)->0<=y.2.2.2.1 * v/\y.2.2.2.1 * v<=(((2 ^ c - 1) * (p7 b * (2 ^ c) ^ (dS b+1)):Nat):Int):=fun v v0 v1=>by have h3:=W_.2.2.1;refine⟨afD h3.1 v0,?_⟩;rw[Int.natCast_mul];exact Int.mul_le_mul h3.2 v1 v0 (by omega)
    have s0:=bs.1;have s2:=bs.2.2.1;have m1:=bm s.1 s0.1 s0.2;have m2:=bm s.2.2.1 s2.1 s2.2;have n1:=Zj s.1 s0.1 s0.2;have n2:=Zj s.2.2.1 s2.1 s2.2
    cases t:s.2.2.1 !=0 with
    |true=>
     refine⟨(y.2.1+y.2.2.2.1 * s.1,(if y.2.2.2.2+s.2.1>y.2.2.1 then y.2.2.2.2+s.2.1 else y.2.2.1),y.2.2.2.1 * s.2.2.1,y.2.2.2.2+s.2.2.2),by unfold Ud;rw[if_neg m0,t];rfl,?_,r3 _ ?_⟩
     ·unfold bd at*;dsimp only;refine⟨by omega,by split<;>omega,by omega,by omega⟩
     ·simp only[EX,bF,d0,ix,mF,vS,vR,xH,BN,z0,cn,t,m1,m2];rfl
    |false=>
     refine⟨(y.2.1+y.2.2.2.1 * s.1,(if y.2.2.2.2+s.2.1>y.2.2.1 then y.2.2.2.2+s.2.1 else y.2.2.1),y.2.2.2.1 * s.2.2.1,0),by unfold Ud;rw[if_neg m0,t];rfl,?_,r3 _ ?_⟩
     ·unfold bd at*;dsimp only;refine⟨by omega,by split<;>omega,by omega,by omega⟩
     ·simp only[EX,bF,d0,ix,mF,vS,vR,xH,BN,z0,cn,t,m1,m2];rfl
  obtain⟨s2,u2,b2,e2⟩:=key;have cc:=(dR (fn:=L (k'+2) .m_) [nd (.j8 x ps hs b)] (o:=M5 S) (by simp[ar,ch]) (gp S)).1 _ (gW s2) e2;simp only[acB,acC]at cc;refine wi _ s2 (by rw[O3,es,yl,u2]) b2 ?_ fun s' cw=>?_
  ·rw[dN,K_,afN,ahj]
   have a1:(2 ^ c - 1) * (p7 b * (2 ^ c) ^ (dS b+1))+(p7 b * (2 ^ c) ^ (dS b+1))=p7 b * (2 ^ c) ^ (dS b+1+1):=by
    have sc:(2 ^ c - 1).succ=2 ^ c:=by omega
    rw[<- ag4,sc,Nat.pow_succ (2 ^ c) (dS b+1),afs,Nat.mul_assoc]
   have a2:2 ^ c<=(2 ^ c) ^ (dS b+1+1):=by have:=afd q1 (show 1<=dS b+1+1 by omega);rw[Nat.pow_one]at this;exact this
   rw[a1];omega
  ·have i0:∀h,d7 (nd (.j8 x ps hs b)) (.int 0) h=.ok (.str tU) h:=fun h=>by rw[nd];rfl
   simp only[EX,bh,i0,d0,cc,cw]
theorem qT(S:List (List Nat×Sz))(c d k:Nat)(hS:∀x∈S,bd (2 ^ c - 1) x.2)(hc:8 * c+30<=134217728)(hd:d<=6)(ok:∀d',d'<d->EE S c d')(hk:3 * d+3<=k)(a:PV):
  ∀(b:j7)(X:Nat)(s:Sz)(x3:Option PV),dS b<=d->Ph (S.map (·.1)) b=true->p7 b<=1000000->bd X s->∃y3,bd (X+p7 b * (2 ^ c) ^ (d+1)) (Ou (Om S) s b)/\
   aN (z_ 3) (cO (F k) (L k)) (d8 b) [some a,some (.ref 0),some (Oe s),x3] [M5 S]=.nx [some a,some (.ref 0),some (Oe (Ou (Om S) s b)),y3] [M5 S]
 |.nil,X,s,x3,_,_,_,hs=>⟨x3,by rw[Ou];exact mr hs (acQ _ _),by rw[d8,aN,Ou]⟩
 |.cons n r,X,s,x3,dn,us,ct,hs=>by
  rw[dS]at dn;rw[Ph,ab5]at us;rw[p7]at ct;have m1:=ado (dN n) (dS r);have m2:=adi (dN n) (dS r);have q1:1<=2 ^ c:=aeI;obtain⟨b1,e1⟩:=Ay S c d hS hc hd ok n k (by omega) us.1 (by omega) (by omega);have cc:=(dR (fn:=L k .o7) [nd n] (o:=M5 S) (by simp[ar,ch]) (gp S)).1 _ (gW _) e1;simp only[acB,acC]at cc;obtain⟨k',rfl⟩:∃k',k=k'+1:=⟨k - 1,by omega⟩
  obtain⟨b2,e2⟩:=EW k' X _ s (O3 (Om S) n) hs b1;have cw:∀h,bO (F (k'+1) .v5) [Oe s,Oe (O3 (Om S) n)] h=.ok (Oe (Tg s (O3 (Om S) n))) h:=fun h=>bp h rfl e2;have d0:aq [M5 S] (.ref 0)=.ref 0:=rfl;obtain⟨y3,b3,e3⟩:=qT S c d (k'+1) hS hc hd ok hk a r _ (Tg s (O3 (Om S) n)) (some (nd n)) (by omega) us.2 (by omega) b2;rw[Ou];refine⟨y3,mr b3 ?_,?_⟩
  ·have h9:(K_ n+1) * (2 ^ c) ^ (dN n+1)<=(K_ n+1) * (2 ^ c) ^ (d+1):=FE (ab8 _) q1 (by omega);rw[p7,afN (K_ n+1) (p7 r),<- afT];exact Nat.add_le_add_right (Nat.add_le_add_left h9 _) _
  ·have one:cO (F (k'+1)) (L (k'+1)) [some a,some (.ref 0),some (Oe s),some (nd n)] [M5 S]=.nx [some a,some (.ref 0),some (Oe (Tg s (O3 (Om S) n))),some (nd n)] [M5 S]:=by simp only[EX,cO,mF,d0,cc,cw]
   rw[d8];exact adT (cP rfl one) e3
theorem Iq(S:List (List Nat×Sz))(c:Nat)(hS:∀x∈S,bd (2 ^ c - 1) x.2)(hc:8 * c+30<=134217728):∀d,d<=6->EE S c d:=by
 intro d
 induction d using Nat.strongRecOn with
 |ind d ih=>
  intro hd b k db us ct hk;obtain⟨k',rfl⟩:∃k',k=k'+1:=⟨k - 1,by omega⟩
  obtain⟨y3,bs,e⟩:=qT S c (dS b) k' hS hc (by omega) (fun d' h=>ih d' (by omega) (by omega)) (by omega) (.tup (d8 b)) b 0 (0,0,0,0) none (ab8 _) us ct (by unfold bd;dsimp only;omega);refine⟨by rw[adU]at bs;exact bs,?_⟩;have r2:L (k'+1) .i_ [.tup (d8 b),.ref 0] [M5 S]=match fO (F k') (L k') [some (.tup (d8 b)),some (.ref 0),none,none] [M5 S]with|.nx _ h1=>gB 1 .non h1|.rt v h1=>eO 1 v h1|_=>.bad:=rfl
  have fo:gf aaM (z_ 3) (cO (F k') (L k')) [some (.tup (d8 b)),some (.ref 0),some (Oe (0,0,0,0)),none] [M5 S]=aN (z_ 3) (cO (F k') (L k')) (d8 b) [some (.tup (d8 b)),some (.ref 0),some (Oe (0,0,0,0)),none] [M5 S]:=rfl;have s0:aJ 2 (cK (.tup mL)) [some (.tup (d8 b)),some (.ref 0),none,none] [M5 S]=.nx [some (.tup (d8 b)),some (.ref 0),some (Oe (0,0,0,0)),none] [M5 S]:=rfl;rw[r2];unfold fO;rw[dQ,s0];dsimp only;rw[dQ,fo,e];simp only[EX,mF];exact xg (gW _) (gp S)
mutual
theorem JQ(E:List Pc)(m:Option Int)(w:List Int)(ns:List (List Nat)):∀n:Nd,Pk E m ns n=false->QX E m w ns n=none->Pq (E.map (·.n)) n=true
 |.loop n _ b _,_,h=>by rw[QX]at h;rw[Pq];exact mY E m _ _ _ b h
 |.choice _ y n,_,h=>by rw[QX,ac1]at h;rw[Pq,mY E m _ _ _ y h.1,mY E m _ _ _ n h.2];rfl
 |.j8 x ps hh b,e,h=>by
  rw[QX]at h;rw[Pq,mY E m _ _ _ b h,<- lJ];rw[Pk,adt]at e
  cases l:look E x with
  |none=>rw[l]at e;exact absurd e.2 (by simp)
  |some q=>rfl
 |.use x ps,e,_=>by
  rw[Pq,<- lJ];rw[Pk,adt]at e
  cases l:look E x with
  |none=>rw[l]at e;exact absurd e.2 (by simp)
  |some q=>rfl
 |.text _,_,_=>rfl
 |.place _ _,_,_=>rfl
 |.body _,_,_=>rfl
theorem mY(E:List Pc)(m:Option Int)(w:List Int)(k:Nat)(ns:List (List Nat)):∀b:j7,P_ E m w k ns b=none->Ph (E.map (·.n)) b=true
 |.nil,_=>rfl
 |.cons n r,h=>by
  rw[P_]at h
  cases e:Pk E m ns n with
  |true=>rw[e,if_pos rfl]at h;cases h
  |false=>rw[e,if_neg (by decide),ac1]at h;rw[Ph,JQ E m _ _ n e h.1,mY E m _ _ _ r h.2];rfl
end
noncomputable def cB:Nat->Nat
 |0=>0
 |j+1=>7 * cB j+21
theorem HK{i j:Nat}(h:i<=j):cB i<=cB j:=by
 induction h with
 |refl=>exact ab8 _
 |step _ ih=>rw[cB];omega
theorem gx{B:List Pc}{q:Pc}(h:List PO):d7 (bk (B++ [q])) (.int (-1)) h=.ok (pc q) h:=by
 show(match O_ ((B++ [q]).map pc) (-1)with|some v=>Res.ok (aq h v) h|none=>Res.bad)=_;have:O_ ((B++ [q]).map pc) (-1)=some (pc q):=by rw[aci];exact vC _ _
 rw[this];rfl
def bS(S:List (List Nat×Sz)):List Pc->List (List Nat×Sz)
 |[]=>S
 |q::r=>bS (S++ [(q.n,Ou (Om S) (0,0,0,0) q.b)]) r
theorem qU(k:Nat)(hk:22<=k)(a:PV)(len:Nat):∀(r E:List Pc)(S:List (List Nat×Sz))(x2 x3:Option PV),E.length+r.length<=8->S.map (·.1)=E.map (·.n)->(∀x∈S,bd (2 ^ cB E.length - 1) x.2)->(∀q∈r,dS q.b<=6/\p7 q.b<=1000000)->Rk len E r=none->
  ∃y2,(bS S r).map (·.1)=(E++r).map (·.n)/\aN (z_ 2) (iJ (F k) (L k)) (r.map pc) [some a,some (.ref 0),x2,x3] [M5 S]=.nx [some a,some (.ref 0),y2,x3] [M5 (bS S r)]
 |[],E,S,x2,x3,_,hn,_,_,_=>⟨x2,by rw[acH,bS];exact hn,by rw[acM,aN,bS]⟩
 |q::r,E,S,x2,x3,hl,hn,hS,hr,hf=>by
  rw[acw]at hl;have c7:cB E.length<=cB 7:=HK (by omega);have c8:cB 7=2882397:=by decide
  rw[Rk]at hf
  split at hf
  ·cases hf
  ·rename_i nc;rw[ac1]at hf;have us:=mY E q.m _ _ _ q.b hf.1;rw[<- hn]at us;obtain⟨hd,V_⟩:=hr q acv;obtain⟨bs,e⟩:=Iq S (cB E.length) hS (by omega) (dS q.b) hd q.b k (ab8 _) us V_ (by omega);rw[bS];generalize Ou (Om S) (0,0,0,0) q.b=s at bs e |-;have cc:=(dR (fn:=L k .i_) [.tup (d8 q.b)] (o:=M5 S) (by simp[ar,PV.pure,aU]) (gp S)).1 _ (gW s) e;simp only[acB,acC]at cc;have d0:aq [M5 S] (.ref 0)=.ref 0:=rfl
   have nin:(S.map (·.1)).contains q.n=false:=by
    rw[hn]
    cases z:(E.map (·.n)).contains q.n with
    |false=>rfl
    |true=>rw[z]at nc;exact absurd rfl nc
   have pu:dP (S.map fun x=>(Sum.inr x.1,Oe x.2)) (.inr q.n) (Oe s)=(S++ [(q.n,s)]).map fun x=>(Sum.inr x.1,Oe x.2):=by
    have an:((S.map fun x=>((Sum.inr x.1:Int ⊕ List Nat),Oe x.2)).any fun kv=>decide (kv.1=.inr q.n))=false:=by
     rw[aeT];intro kv hkv;obtain⟨p,hp,rfl⟩:=acK.mp hkv;intro z;have ee:p.1=q.n:=ahC (of_decide_eq_true z);have:(S.map (·.1)).contains q.n=true:=by rw[acL,<- ee];exact acK.mpr ⟨p,hp,rfl⟩
     rw[nin]at this;cases this
    unfold dP;rw[an,if_neg (by decide),aci];rfl
   have lS:S.length<=8:=by have:=congrArg List.length hn;rw[ab9,ab9]at this;omega
   have one:iJ (F k) (L k) [some a,some (.ref 0),some (pc q),x3] [M5 S]=.nx [some a,some (.ref 0),some (pc q),x3] [M5 (S++ [(q.n,s)])]:=by
    have sz:(S.map fun x=>((Sum.inr x.1:Int ⊕ List Nat),Oe x.2)).length<16777216:=by rw[ab9];omega
    simp only[EX,iJ,d0,cc];simp only[EX,M5,sz,pu]
   have bs':bd (2 ^ cB (E.length+1) - 1) s:=mr bs (by
    have h1:p7 q.b * (2 ^ cB E.length) ^ (dS q.b+1)<=1000000 * (2 ^ cB E.length) ^ 7:=FE V_ aeI (by omega)
    have h2:2 ^ cB (E.length+1)=(2 ^ cB E.length) ^ 7 * 2097152:=by show 2 ^ (7 * cB E.length+21)=_;rw[Nat.pow_add,afs 7,Nat.pow_mul]
    have h3:1<=(2 ^ cB E.length) ^ 7:=agw aeI;omega)
   have l1:(E++ [q]).length=E.length+1:=by simp
   obtain⟨y2,g1,g2⟩:=qU k hk a len r (E++ [q]) (S++ [(q.n,s)]) (some (pc q)) x3 (by rw[l1];omega) (by rw[aci,aci,hn];rfl) (fun x hx=>by
    rw[l1];rcases acz.mp hx with h|h
    ·exact mr (hS x h) (Nat.sub_le_sub_right (afd (by decide) (HK (acS _))) _)
    ·cases acp.mp h;exact bs') (fun z hz=>hr z (acg _ hz)) hf.2
   refine⟨y2,by rw[g1];simp,?_⟩;rw[ab7];exact adT (cP rfl one) g2
theorem BR(k:Nat)(hk:22<=k)(B:List Pc)(q:Pc)(hl:B.length+1<=8)(hr:∀p∈B++ [q],dS p.b<=6/\p7 p.b<=1000000)(hf:Rk (B.length+1) [] (B++ [q])=none):F (k+1) .sized [bk (B++ [q])]=.ok (.tup [.int (Om (bS [] (B++ [q])) q.n).1,.int (Om (bS [] (B++ [q])) q.n).2.1]):=by
 obtain⟨y2,g1,g2⟩:=qU k hk (bk (B++ [q])) (B.length+1) (B++ [q]) [] [] none none (by simp;omega) rfl (fun x hx=>by cases hx) hr hf;generalize bS [] (B++ [q])=S at g1 g2 |-;obtain⟨z,hz,zl,iz⟩:=yk q.n S (by rw[g1];simp);rw[zl]
 have r2:F (k+1) .sized [bk (B++ [q])]=match qF (F k) (L k) [some (bk (B++ [q])),none,none,none] []with
  |.nx _ _=>.ok .non
  |.rt v h=>gA v h
  |_=>.bad:=rfl
 have fo:gf aaM (z_ 2) (iJ (F k) (L k)) [some (bk (B++ [q])),some (.ref 0),none,none] [M5 []]=aN (z_ 2) (iJ (F k) (L k)) ((B++ [q]).map pc) [some (bk (B++ [q])),some (.ref 0),none,none] [M5 []]:=rfl;have s0:aJ 1 lW [some (bk (B++ [q])),none,none,none] []=.nx [some (bk (B++ [q])),some (.ref 0),none,none] [M5 []]:=rfl;have d0:aq [M5 S] (.ref 0)=.ref 0:=rfl;rw[r2];unfold qF;rw[dQ,s0];dsimp only;rw[dQ,fo,g2];simp only[EX,gx,d0,iz,mF,vS,vR];rfl
theorem Dg(i n:Nat)(l2:List PV)(h2:ar l2=true):∀(l1:List PV),ar l1=true->Q7 (l1++.ref i::l2)=[i]/\S6 n (l1++.ref i::l2)=l1++.ref n::l2/\ju (l1++.ref i::l2)=true
 |[],_=>by
  have e:∀(l:List PV),ar l=true->Q7 l= []/\(∀n,S6 n l=l)/\ju l=true:=fun l hl=>by
   induction l with
   |nil=>exact⟨rfl,fun _=>rfl,rfl⟩
   |cons p r ih=>
    rw[ar,ab5]at hl;obtain⟨a,b,c⟩:=ih hl.2;have np:∀i,p≠.ref i:=fun i e=>by have:=hl.1;subst e;simp[PV.pure]at this
    have e:ju (p::r)=(p.pure&&ju r):=by cases p<;>first|rfl|exact(np _ rfl).elim
    refine⟨?_,fun n=>?_,by rw[e,hl.1,c];rfl⟩
    ·cases p<;>first|exact a|exact(np _ rfl).elim
    ·cases p<;>first|exact congrArg _ (b n)|exact(np _ rfl).elim
  obtain⟨a,b,c⟩:=e l2 h2;refine⟨?_,?_,c⟩
  ·show i::Q7 l2=_;rw[a]
  ·show PV.ref n::S6 (n+1) l2=_;rw[b];rfl
 |p::r,h=>by
  rw[ar,ab5]at h;obtain⟨a,b,c⟩:=Dg i n l2 h2 r h.2;have np:∀i,p≠.ref i:=fun i e=>by have:=h.1;subst e;simp[PV.pure]at this
  have e:ju (p::(r++.ref i::l2))=(p.pure&&ju (r++.ref i::l2)):=by cases p<;>first|rfl|exact(np _ rfl).elim
  rw[acB];refine⟨?_,?_,by rw[e,h.1,c];rfl⟩
  ·cases p<;>first|exact a|exact(np _ rfl).elim
  ·cases p<;>first|exact congrArg _ b|exact(np _ rfl).elim
theorem cS{fn:List PV->List PO->Res PV}(l1 l2:List PV){h:List PO}{i:Nat}{o o':PO}{v:PV}(h1:ar l1=true)(h2:ar l2=true)(ho:h[i]? =some o)(oo:o.pure=true)(e:fn (l1++.ref 0::l2) [o]=.ok v [o'])(hv:v.pure=true)(XM:o'.pure=true):
  w6 fn (l1++.ref i::l2) h=.ok v (h.set i o'):=by
 obtain⟨q1,q2,q3⟩:=Dg i 0 l2 h2 l1 h1;have e4:ki h [i]=some [o]:=by simp[ki,ho]
 unfold w6;rw[q1,e4];dsimp only;rw[q3,q2,e];have e5:(true&&aO [o]&&iR [i])=true:=by simp[aO,oo,iR]
 rw[if_pos e5];dsimp only;rw[if_pos ⟨hv,by simp[aO,XM],rfl⟩];rfl
inductive Hd where
 |nil
 |cons (b:j7) (i:Int) (h:Hd)
def hv:Hd->PV
 |.nil=>.non
 |.cons b i h=>.tup [.tup (d8 b),.int i,hv h]
noncomputable def Vc(kn:List (List Nat)):Hd->Bool
 |.nil=>true
 |.cons b _ h=>Ph kn b&&(decide (p7 b<=1000000)&&Vc kn h)
theorem qy:∀h:Hd,(hv h).pure=true
 |.nil=>rfl
 |.cons b i h=>by simp[hv,PV.pure,ar,aU,qy h]
theorem iT(h:List PO)(x:Hd):aq h (hv x)=hv x:=aL (h:=h) (qy x)
abbrev OJ(i:Int):PO:=.lst [.int i]
theorem nW(i:Int):(OJ i).pure=true:=rfl
def QZ(t:Bool)(B:List Pc):PV:=if t then .tup (B.map pc)else .lst (B.map pc)
theorem sI(t:Bool)(B:List Pc):(QZ t B).pure=true:=by cases t<;>(unfold QZ;simp only[if_true,aej,if_false];rw[PV.pure];exact jE B)
theorem gS(t:Bool)(B:List Pc)(h:List PO):aq h (QZ t B)=QZ t B:=by cases t<;>rfl
theorem vz(t:Bool)(B:List Pc)(h:List PO):kE (QZ t B) h=.ok (B.map pc) h:=by cases t<;>rfl
theorem vy(t:Bool){B:List Pc}{i:Nat}{q:Pc}(e:B[i]? =some q)(h:List PO):d7 (QZ t B) (.int i) h=.ok (pc q) h:=by
 cases t with
 |true=>exact MC e h
 |false=>show d7 (.lst (B.map pc)) _ h=_;rw[zG,fU (v:=pc q) (by omega) (by rw[ada,acJ,e];rfl)];rfl
noncomputable def zH:Hd->Hd
 |.nil=>.nil
 |.cons b _ h=>.cons b 0 (zH h)
theorem FM(B:List Pc)(x:List Nat)(us:(B.map (·.n)).contains x=true):∃(i:Nat)(q:Pc),(B.map (·.n)).idxOf x=i/\i<(B.map (·.n)).length/\B[i]? =some q/\look B x=some q:=by
 induction B with
 |nil=>cases us
 |cons p r ih=>
  by_cases e:p.n=x
  ·subst e;exact⟨0,p,by simp,by simp,rfl,by simp[look]⟩
  ·rw[ab7,ad0,ac4]at us;rcases us with z|z
   ·exact(e (aec z).symm).elim
   ·obtain⟨i,q,a,b,c,d⟩:=ih z;refine⟨i+1,q,?_,by rw[ab7,acw];omega,by rw[ade];exact c,?_⟩
    ·rw[ab7,agl];rw[show(p.n==x)=false from(by simpa using e),<- a];rfl
    ·unfold look at d |-;rw[acT (by simpa using e)];exact d
noncomputable def RM:Option (Nat×Nat)->Option (Nat×Nat)
 |none=>none
 |some a=>some (a.1+1,a.2+1)
noncomputable def cR(g:Nd->Option (Nat×Nat)):j7->Option (Nat×Nat)
 |.nil=>some (0,0)
 |.cons n r=>match g n,cR g r with
  |some a,some b=>some (a.1+b.1,max a.2 b.2)
  |_,_=>none
def K5(B:List Pc)(rec:j7->Hd->Option (Nat×Nat))(hd:Hd):Nd->Option (Nat×Nat)
 |.loop _ _ b _=>RM (rec b hd)
 |.choice _ y z=>RM (rec (J6 y z) hd)
 |.use x _=>match look B x with
  |none=>none
  |some q=>RM (rec q.b .nil)
 |.j8 x _ _ b=>match look B x with
  |none=>none
  |some q=>RM (rec q.b (.cons b 0 hd))
 |.body _=>match hd with
  |.nil=>some (1,1)
  |.cons b _ h=>RM (rec b h)
 |_=>some (1,1)
def cX(B:List Pc):Nat->j7->Hd->Option (Nat×Nat)
 |0=>fun _ _=>none
 |f+1=>fun b hd=>cR (K5 B (cX B f) hd) b
theorem Ah{g h:Nd->Option (Nat×Nat)}(e:∀n r,g n=some r->h n=some r):∀(b:j7)(r:Nat×Nat),cR g b=some r->cR h b=some r
 |.nil,r,z=>z
 |.cons n t,r,z=>by
  rw[cR]at z |-
  cases e1:g n with
  |none=>rw[e1]at z;cases z
  |some a=>
   cases e2:cR g t with
   |none=>rw[e1,e2]at z;cases z
   |some b=>rw[e1,e2]at z;rw[e n a e1,Ah e t b e2];exact z
theorem fL{a b:Option (Nat×Nat)}(e:∀r,a=some r->b=some r):∀r,RM a=some r->RM b=some r:=fun r h=>by
 cases a with
 |none=>cases h
 |some x=>rw[e x rfl];exact h
theorem ji(B:List Pc):∀(f:Nat)(b:j7)(hd:Hd)(r:Nat×Nat),cX B f b hd=some r->cX B (f+1) b hd=some r
 |0,_,_,_,h=>by cases h
 |f+1,b,hd,r,h=>by
  rw[cX]at h |-;refine Ah (fun n r hn=>?_) b r h
  cases n with
  |loop x p c t=>exact fL (ji B f c hd) r hn
  |choice p y z=>exact fL (ji B f (J6 y z) hd) r hn
  |use x ps=>
   rw[K5]at hn |-
   cases e:look B x with
   |none=>rw[e]at hn;cases hn
   |some q=>rw[e]at hn;exact fL (ji B f q.b .nil) r hn
  |j8 x ps hs c=>
   rw[K5]at hn |-
   cases e:look B x with
   |none=>rw[e]at hn;cases hn
   |some q=>rw[e]at hn;exact fL (ji B f q.b (.cons c 0 hd)) r hn
  |body ps=>
   cases hd with
   |nil=>exact hn
   |cons c i h2=>exact fL (ji B f c h2) r hn
  |text s=>exact hn
  |place p s=>exact hn
def yE(t:Bool)(B:List Pc)(j:Nat):Prop:=∀(b:j7)(hd:Hd)(i left:Int)(k:Nat),Ph (B.map (·.n)) b=true->p7 b<=1000000->Vc (B.map (·.n)) hd=true-> -1<=left->j+1<=k->
 ∃left',(-1<=left'/\left'<=left/\(0<=left'->∃r,cX B (j+1) b (zH hd)=some r/\(r.1:Int)+left'<=left))/\L k .B_ [QZ t B,.tup (d8 b),.int i,hv hd,.int (41 - (j:Int)),.ref 0] [OJ left]=.ok .non [OJ left']
theorem zJ(h:List PO)(xs:List PV):dZ h (.lst xs)=true:=rfl
theorem qC(t:Bool)(B:List Pc)(lB:B.length<=1000)(x:List Nat)(us:(B.map (·.n)).contains x=true):∃(q:Pc)(i':Nat),B[i']? =some q/\look B x=some q/\(∀h,nQ (.lst ((B.map (·.n)).map PV.str)) [.str x] h=.ok (.int i') h)/\(B.map pc).length<16777216:=by obtain⟨i,q,a,b,c,d⟩:=FM B x us;refine⟨q,i,c,d,fun h=>?_,by rw[ab9];omega⟩;show(match(some ((B.map (·.n)).map PV.str)).bind fJ with|some ls=>if ls.length<=sizeLine/\ls.idxOf x<ls.length then Res.ok (PV.int (ls.idxOf x:Nat)) h else .bad|none=>.bad)=_;rw[aha,jf];dsimp only;rw[a,if_pos ⟨by rw[ab9];exact ace lB (by decide),b⟩]
theorem Ae(B:List Pc)(k:Nat)(ρ:Ev)(h:List PO):cY cV (kq (F k)) (dj [] ρ) (B.map pc) h=.ok ((B.map (·.n)).map PV.str) h:=by
 rw[ady]
 exact rR pc _ B fun p hp=>by show kq (F k) [some (pc p)] h=_;simp only[EX,kq];rfl
abbrev mE(t:Bool)(B:List Pc)(a:PV)(i:Int)(hd:Hd)(j:Nat)(x6 x7 x8:Option PV):Ev:=[some (QZ t B),some a,some (.int i),some (hv hd),some (.int (41 - (j:Int))),some (.ref 0),x6,x7,x8]
inductive En0(t:Bool)(B:List Pc)(j k:Nat)(a:PV)(hd:Hd)(i left:Int)(n:Nd)(x7 x8:Option PV):Prop where
 |mk (left':Int)(y7 y8:Option PV)(_:(-1<=left'/\left'<=left/\(0<=left'->∃r,K5 B (cX B j) (zH hd) n=some r/\(r.1:Int)+left'<=left)))(_:(left'= -1/\bt (F k) (L k) (mE t B a i hd j (some (nd n)) x7 x8) [OJ left]=.rt .non [OJ left']\/
     bt (F k) (L k) (mE t B a i hd j (some (nd n)) x7 x8) [OJ left]=.nx (mE t B a i hd j (some (nd n)) y7 y8) [OJ left']))
theorem En(t:Bool)(B:List Pc)(lB:B.length<=1000)(hB:∀q∈B,Ph (B.map (·.n)) q.b=true/\p7 q.b<=1000000)(j k:Nat)(hj:j<=40)(ok:∀j',j'<j->yE t B j')(hk:j<=k)(a:PV)(hd:Hd)(i left:Int)(n:Nd)(x7 x8:Option PV)
    (us:Pq (B.map (·.n)) n=true) (ct:K_ n<=1000000) (ho:Vc (B.map (·.n)) hd=true) (hl: -1<=left):En0 t B j k a hd i left n x7 x8:=by
  have Td:∀m:Int,d7 (.ref 0) (.int 0) [OJ m]=.ok (.int m) [OJ m]:=fun m=>rfl;have d0:∀m:Int,aq [OJ m] (.ref 0)=.ref 0:=fun m=>rfl;have st:∀(v m:Int) ρ,iN (.int v) (.ref 0) (.int 0) ρ [OJ m]=.nx ρ [OJ v]:=fun v m ρ=>rfl
  by_cases c1:left - 1<0
  · have z1:decide (left - 1<0)=true:=decide_eq_true c1
    exact⟨-1,x7,x8,⟨by omega,by omega,fun z=>by omega⟩,.inl ⟨rfl,by simp only[EX,bt,d0,Td,st,z1]⟩⟩
  have z1:decide (left - 1<0)=false:=decide_eq_false c1
  cases j with
  |zero=>exact⟨-1,x7,x8,⟨by omega,by omega,fun z=>by omega⟩,.inl ⟨rfl,by simp only[EX,bt,d0,Td,st,z1];rfl⟩⟩
  |succ j=>
    have z2:decide (41 - ((j+1:Nat):Int)>40)=false:=decide_eq_false (by omega);have ad:41 - ((j+1:Nat):Int)+1=41 - (j:Int):=by omega
    have pu:∀(b:j7)(i':Int)(h':Hd),ar [QZ t B,.tup (d8 b),.int i',hv h',.int (41 - (j:Int))]=true:=fun b i' h'=>by simp[ar,sI,PV.pure,aU,qy]
    have go:∀(b:j7)(i':Int)(h':Hd),Ph (B.map (·.n)) b=true->p7 b<=1000000->Vc (B.map (·.n)) h'=true->∃left',(-1<=left'/\left'<=left - 1/\(0<=left'->∃r,cX B (j+1) b (zH h')=some r/\(r.1:Int)+left'<=left - 1))/\w6 (L k .B_) [QZ t B,.tup (d8 b),.int i',hv h',.int (41 - (j:Int)),.ref 0] [OJ (left - 1)]=.ok .non [OJ left']:=fun b i' h' u c o=>by obtain⟨l',g1,g2⟩:=ok j (adJ _) b h' i' (left - 1) k u c o (by omega) (by omega);exact⟨l',g1,cS (fn:=L k .B_) [QZ t B,.tup (d8 b),.int i',hv h',.int (41 - (j:Int))] [] (pu b i' h') rfl rfl (nW _) g2 rfl (nW _)⟩
    have up:∀{b:j7}{h':Hd}{l':Int}{n:Nd},(-1<=l'/\l'<=left - 1/\(0<=l'->∃r,cX B (j+1) b (zH h')=some r/\(r.1:Int)+l'<=left - 1))->K5 B (cX B (j+1)) (zH hd) n=RM (cX B (j+1) b (zH h'))-> -1<=l'/\l'<=left/\(0<=l'->∃r,K5 B (cX B (j+1)) (zH hd) n=some r/\(r.1:Int)+l'<=left):=fun g e=>⟨g.1,by have:=g.2.1;omega,fun z=>by obtain⟨r,hr,hs⟩:=g.2.2 z;rw[e,hr];exact⟨_,rfl,by show((r.1+1:Nat):Int)+_<=_;omega⟩⟩
    cases n with
    |text s=>exact⟨left - 1,x7,x8,⟨by omega,by omega,fun _=>⟨_,rfl,by show(1:Int)+_<=_;omega⟩⟩,.inr (by simp only[EX,bt,d0,Td,st,z1,z2])⟩
    |place p s=>exact⟨left - 1,x7,x8,⟨by omega,by omega,fun _=>⟨_,rfl,by show(1:Int)+_<=_;omega⟩⟩,.inr (by simp only[EX,bt,d0,Td,st,z1,z2])⟩
    |loop x p b s=>rw[Pq]at us;rw[K_]at ct;obtain⟨l',g1,g2⟩:=go b i hd us ct ho;exact⟨l',x7,x8,up g1 rfl,.inr (by simp only[EX,bt,d0,Td,st,z1,z2,gS,iT,ad,g2])⟩
    |choice p y z=>rw[Pq,ab5]at us;rw[K_]at ct;obtain⟨l',g1,g2⟩:=go (J6 y z) i hd (by rw[xF,us.1,us.2];rfl) (by rw[iZ];exact ct) ho;rw[mU]at g2;have aa:∀h,aI (.tup (d8 y)) (.tup (d8 z)) h=.ok (.tup (d8 y++d8 z)) h:=fun h=>fK _ _ h (by have:=fC y;have:=fC z;exact ace (by omega:_<=1000000) (by decide));exact⟨l',x7,x8,up g1 rfl,.inr (by simp only[EX,bt,d0,Td,st,z1,z2,gS,iT,aa,ad,g2])⟩
    |body ps=>
      cases hd with
      |nil=>exact⟨left - 1,x7,x8,⟨by omega,by omega,fun _=>⟨_,rfl,by show(1:Int)+_<=_;omega⟩⟩,.inr (by simp only[EX,bt,d0,Td,st,z1,z2,hv])⟩
      |cons b i' h'=>
        rw[Vc,ab5,ab5]at ho;obtain⟨l',g1,g2⟩:=go b i' h' ho.1 (of_decide_eq_true ho.2.1) ho.2.2;have e0:∀h,d7 (hv (.cons b i' h')) (.int 0) h=.ok (.tup (d8 b)) h:=fun h=>by rw[hv];rfl
        have e1:∀h,d7 (hv (.cons b i' h')) (.int 1) h=.ok (.int i') h:=fun h=>by rw[hv];rfl
        have e2:∀h,d7 (hv (.cons b i' h')) (.int 2) h=.ok (hv h') h:=fun h=>by rw[hv];show Res.ok (aq h (hv h')) h=_;rw[iT]
        have en:kJ (hv (.cons b i' h'))=false:=by rw[hv];rfl
        exact⟨l',x7,x8,up g1 rfl,.inr (by simp only[EX,bt,d0,Td,st,z1,z2,gS,iT,e0,e1,e2,en,ad,g2])⟩
    |use x ps=>rw[Pq]at us;obtain⟨q,ax,hq,lk,ia,ll⟩:=qC t B lB x us;have cm:=Ae B k;obtain⟨l',g1,g2⟩:=go q.b ax .nil (hB q (acj hq)).1 (hB q (acj hq)).2 rfl;have g3:w6 (L k .B_) [QZ t B,.tup (d8 q.b),.int ax,.non,.int (41 - (j:Int)),.ref 0] [OJ (left - 1)]=.ok .non [OJ l']:=g2;exact⟨l',some (.int ax),some .non,up g1 (by rw[K5,lk];rfl),.inr (by simp only[EX,bt,d0,Td,st,z1,z2,gS,vz,iT,cm,ll,ia,vy t hq,ad,zJ,g3])⟩
    |j8 x ps hs b=>rw[Pq,ab5]at us;rw[K_]at ct;obtain⟨q,ax,hq,lk,ia,ll⟩:=qC t B lB x us.1;have cm:=Ae B k;obtain⟨l',g1,g2⟩:=go q.b ax (.cons b i hd) (hB q (acj hq)).1 (hB q (acj hq)).2 (by rw[Vc,us.2,ho,decide_eq_true ct];rfl);have g3:w6 (L k .B_) [QZ t B,.tup (d8 q.b),.int ax,.tup [.tup (d8 b),.int i,hv hd],.int (41 - (j:Int)),.ref 0] [OJ (left - 1)]=.ok .non [OJ l']:=g2;have dt:∀h,aq h (.tup [.tup (d8 b),.int i,hv hd])=.tup [.tup (d8 b),.int i,hv hd]:=fun h=>rfl;exact⟨l',some (.int ax),some (.tup [.tup (d8 b),.int i,hv hd]),up g1 (by rw[K5,lk];rfl),.inr (by simp only[EX,bt,d0,Td,st,z1,z2,gS,vz,iT,cm,ll,ia,vy t hq,ad,zJ,dt,g3])⟩
theorem tY(t:Bool)(B:List Pc)(lB:B.length<=1000)(hB:∀q∈B,Ph (B.map (·.n)) q.b=true/\p7 q.b<=1000000)(j k:Nat)(hj:j<=40)(ok:∀j',j'<j->yE t B j')(hk:j<=k)(a:PV)(hd:Hd)(i:Int)(ho:Vc (B.map (·.n)) hd=true):
    ∀(b:j7)(left:Int)(x6 x7 x8:Option PV),Ph (B.map (·.n)) b=true->p7 b<=1000000-> -1<=left->∃left' ρ',(-1<=left'/\left'<=left/\(0<=left'->∃r,cX B (j+1) b (zH hd)=some r/\(r.1:Int)+left'<=left))/\
      (aN (z_ 6) (bt (F k) (L k)) (d8 b) (mE t B a i hd j x6 x7 x8) [OJ left]=.rt .non [OJ left']\/
       aN (z_ 6) (bt (F k) (L k)) (d8 b) (mE t B a i hd j x6 x7 x8) [OJ left]=.nx ρ' [OJ left'])
  |.nil,left,x6,x7,x8,_,_,hl=>⟨left,_,⟨hl,acO _,fun _=>⟨_,rfl,by show(0:Int)+_<=_;omega⟩⟩,.inr (by rw[d8,aN])⟩
  |.cons n r,left,x6,x7,x8,us,ct,hl=>by
    rw[Ph,ab5]at us;rw[p7]at ct;obtain⟨l1,y7,y8,g1,g2⟩:=En t B lB hB j k hj ok hk a hd i left n x7 x8 us.1 (by omega) ho hl;obtain⟨l2,ρ2,g3,g4⟩:=tY t B lB hB j k hj ok hk a hd i ho r l1 (some (nd n)) y7 y8 us.2 (by omega) g1.1
    have one:0<=l2->∃r',cX B (j+1) (.cons n r) (zH hd)=some r'/\(r'.1:Int)+l2<=left:=by intro z;obtain⟨r2,h2,h3⟩:=g3.2.2 z;obtain⟨r1,h1,h4⟩:=g1.2.2 (by have:=g3.2.1;omega);have e2:cR (K5 B (cX B j) (zH hd)) r=some r2:=h2;show∃r',cR (K5 B (cX B j) (zH hd)) (.cons n r)=some r'/\_;rw[cR,h1,e2];exact⟨_,rfl,by show((r1.1+r2.1:Nat):Int)+_<=_;omega⟩
    have step:aN (z_ 6) (bt (F k) (L k)) (d8 (.cons n r)) (mE t B a i hd j x6 x7 x8) [OJ left]=
        match bt (F k) (L k) (mE t B a i hd j (some (nd n)) x7 x8) [OJ left]with
        |.nx ρ2 h2=>aN (z_ 6) (bt (F k) (L k)) (d8 r) ρ2 h2
        |.ct ρ2 h2=>aN (z_ 6) (bt (F k) (L k)) (d8 r) ρ2 h2
        |.bk ρ2 h2=>.nx ρ2 h2
        |.rt v h2=>.rt v h2
        |.exc v h2=>.exc v h2
        |.bad=>.bad:=by rw[d8];rfl
    rw[step];rcases g2 with⟨e,g2⟩|g2
    · rw[g2];exact⟨l1,[],⟨g1.1,g1.2.1,fun z=>by omega⟩,.inl rfl⟩
    · rw[g2];exact⟨l2,ρ2,⟨g3.1,by have:=g3.2.1;have:=g1.2.1;omega,one⟩,g4⟩
theorem GW(t:Bool)(B:List Pc)(lB:B.length<=1000)(hB:∀q∈B,Ph (B.map (·.n)) q.b=true/\p7 q.b<=1000000):∀j,j<=40->yE t B j:=by
 intro j
 induction j using Nat.strongRecOn with
 |ind j ih=>
  intro hj b hd i left k us ct ho hl hk;obtain⟨k',rfl⟩:∃k',k=k'+1:=⟨k - 1,by omega⟩
  obtain⟨l',ρ',g1,g2⟩:=tY t B lB hB j k' hj (fun j' h=>ih j' h (by omega)) (by omega) (.tup (d8 b)) hd i ho b left none none none us ct hl;refine⟨l',g1,?_⟩;have r2:L (k'+1) .B_ [QZ t B,.tup (d8 b),.int i,hv hd,.int (41 - (j:Int)),.ref 0] [OJ left]=match aN (z_ 6) (bt (F k') (L k')) (d8 b) (mE t B (.tup (d8 b)) i hd j none none none) [OJ left]with|.nx _ h1=>gB 1 .non h1|.rt v h1=>eO 1 v h1|_=>.bad:=rfl
  rw[r2];rcases g2 with g2|g2<;>rw[g2]<;>rfl
theorem zy:∀(l:List PV),ar l=true->Q7 l= []/\(∀n,S6 n l=l)/\ju l=true
 |[],_=>⟨rfl,fun _=>rfl,rfl⟩
 |p::r,hl=>by
  rw[ar,ab5]at hl;obtain⟨a,b,c⟩:=zy r hl.2;have np:∀i,p≠.ref i:=fun i e=>by have:=hl.1;subst e;simp[PV.pure]at this
  have e:ju (p::r)=(p.pure&&ju r):=by cases p<;>first|rfl|exact(np _ rfl).elim
  refine⟨?_,fun n=>?_,by rw[e,hl.1,c];rfl⟩
  ·cases p<;>first|exact a|exact(np _ rfl).elim
  ·cases p<;>first|exact congrArg _ (b n)|exact(np _ rfl).elim
theorem GZ{fn:List PV->List PO->Res PV}(l:List PV)(hl:ar l=true):
  (∀v,v.pure=true->fn l []=.ok v []->w6 fn l []=.ok v [])/\(∀v,v.pure=true->fn l []=.exc v []->w6 fn l []=.exc v []):=by
 obtain⟨q1,q2,q3⟩:=zy l hl;refine⟨fun v hv e=>?_,fun v hv e=>?_⟩<;>
 ·unfold w6;rw[q1];show(if(ju l&&aO []&&iR [])=true then _ else _)=_;rw[q3,if_pos (by simp[aO,iR]),q2,e];dsimp only;rw[if_pos ⟨hv,rfl,rfl⟩];rfl
theorem Ha(k:Nat)(B:List Pc)(q:Pc)(hk:45<=k)(lB:B.length+1<=8)(hw:∀p∈B++ [q],wC p=true)(hr:∀p∈B++ [q],dS p.b<=6/\p7 p.b<=1000000):
  (∀w,Rk (B.length+1) [] (B++ [q])=some w->X_ (k+1) .C_ [bk (B++ [q])] []=.exc (.Ql 2 (wy w)) [])/\
  (Rk (B.length+1) [] (B++ [q])=none->X_ (k+1) .C_ [bk (B++ [q])] []=if(decide ((Om (bS [] (B++ [q])) q.n).1>400)||decide ((Om (bS [] (B++ [q])) q.n).2.1>24))=true then .exc (.cls 1) []else .ok (nms q.ns) []):=by
 obtain⟨k',rfl⟩:∃k',k=k'+1:=⟨k - 1,by omega⟩
 have l1:(B++ [q]).length=B.length+1:=by simp
 have nm:=Db k' (B++ [q]) (by omega) (by omega) hw;rw[l1]at nm;obtain⟨c1,c2⟩:=GZ (fn:=X_ (k'+1) .G7) [bk (B++ [q])] (by rw[ar,fF];rfl)
 have r2:X_ (k'+1+1) .C_ [bk (B++ [q])] []=match eU (F (k'+1)) (X_ (k'+1)) [some (bk (B++ [q])),none] []with
   |.nx _ h1=>gB 0 .non h1
   |.rt v h1=>eO 0 v h1
   |.exc e h1=>xj 0 e h1
   |_=>.bad:=rfl
 refine⟨fun w hf=>?_,fun hf=>?_⟩
 ·rw[hf]at nm;have wp:(PV.Ql 2 (wy w)).pure=true:=by rw[PV.pure];exact jO w
  have cc:=c2 _ wp nm;rw[r2];simp only[EX,eU,cc,Res.Qo];simp[xj,aO,wp]
 ·rw[hf]at nm;have cc:=c1 .non rfl nm;have sz:=BR k' (by omega) B q lB hr hf;generalize(Om (bS [] (B++ [q])) q.n).1=x at sz |-;generalize(Om (bS [] (B++ [q])) q.n).2.1=y at sz |-;have cs:∀h,bO (F (k'+1) .sized) [bk (B++ [q])] h=.ok (.tup [.int x,.int y]) h:=fun h=>bp h (by rw[ar,fF];rfl) sz;rw[r2]
  cases e:decide (x>400)||decide (y>24)with
  |true=>
   rw[if_pos rfl]
   cases e1:decide (x>400)with
   |true=>simp only[EX,eU,cc,cs,e1];rfl
   |false=>rw[e1,aea]at e;simp only[EX,eU,cc,cs,e1,e];rfl
  |false=>
   rw[if_neg (by decide)];rw[adt]at e
   have fi:eO 0 (nms q.ns) []=.ok (nms q.ns) []:=by unfold eO;rw[gy _ (cC _)];rfl
   simp only[EX,eU,cc,cs,e.1,e.2,gx,fi]
theorem qV(f:Nat->List Nat):∀(n:Nat)(x:List Nat),x∈ez f n↔∃i,i<n/\f i=x
 |0,x=>by simp[ez]
 |n+1,x=>by
  rw[ez,wO,qV f n x];constructor
  ·rintro(⟨i,h,e⟩|e)
   ·exact⟨i,by omega,e⟩
   ·exact⟨n,by omega,e.symm⟩
  ·rintro⟨i,h,e⟩
   rcases ad6 i n with q|q
   ·exact .inl ⟨i,q,e⟩
   ·have:i=n:=by omega
    subst this;exact .inr e.symm
theorem uF(f:Nat->List Nat):∀n,(ez f n).length<=n
 |0=>ab8 _
 |n+1=>by
  have:=uF f n;rw[ez,qj]
  split
  ·omega
  ·rw[acs,acN];omega
theorem yQ(f:Nat->List Nat):∀n,(ez f n).length=n↔∀i j,i<j->j<n->f i≠f j
 |0=>⟨fun _ i j _ h=>(by omega),fun _=>rfl⟩
 |n+1=>by
  have le:=uF f n;have ih:=yQ f n;rw[ez,qj]
  split
  ·rename_i hm;obtain⟨i,hi,e⟩:=(qV f n _).mp hm;exact⟨fun z=>by omega,fun z=>(z i n hi (by omega) e).elim⟩
  ·rename_i hm;rw[acs,acN];constructor
   ·intro z i j Vb hj e;rcases ad6 j n with q|q
    ·exact ih.mp (by omega) i j Vb q e
    ·have:j=n:=by omega
     subst this;exact hm ((qV f j _).mpr ⟨i,Vb,e⟩)
   ·intro z;have:=ih.mpr fun i j h g=>z i j h (by omega);omega
theorem yu(l:List (List Nat)):dup l=false↔l.Nodup:=by
 have h:=yQ (fun i=>l.getD i []) l.length;have le:=uF (fun i=>l.getD i []) l.length;unfold dup oN;rw[decide_eq_false_iff_not];constructor
 ·intro z;have:=h.mp (by omega);rw[List.Nodup,aey];intro i j hi hj Vb;have:=this i j Vb hj;simpa[acy,hi,hj]using this
 ·intro z
  have:∀i j,i<j->j<l.length->l.getD i []≠l.getD j []:=fun i j Vb hj=>by
   rw[List.Nodup,aey]at z;have hi:i<l.length:=by omega
   have:=z i j hi hj Vb;simpa[acy,hi,hj]using this
  have:=h.mpr this;omega
structure Pe where
 n:List Nat
 m:Nat
 h:Option Int
noncomputable def O5(q:Pc):Pe:=⟨q.n,q.ns.length,q.m⟩
noncomputable def Tc(P:List Pe)(x:List Nat):Option Pe:=P.find? fun p=>p.n==x
def QH(P:List Pe)(x:List Nat)(l:Nat)(h:Option Int):Bool:=match Tc P x with
 |none=>false
 |some p=>decide (p.m=l)&&decide (p.h=h)
abbrev Cx:=List Pe×Option Int×List (List Nat)
noncomputable def Qq(X:Cx)(ps:List u9):Bool:=ps.all fun p=>X.2.2.contains p.a
abbrev WM(X:Cx)(h:List (List Nat)):Cx:=(X.1,X.2.1,X.2.2++h)
mutual
def okN(X:Cx):Nd->Bool
 |.text _=>true
 |.place p _=>Qq X [p]
 |.loop x p b _=>Qq X [p]&&u_ (WM X [x]) b
 |.choice p y z=>Qq X [p]&&(u_ X y&&u_ X z)
 |.use x ps=>Qq X ps&&QH X.1 x ps.length none
 |.j8 x ps h b=>Qq X ps&&(QH X.1 x ps.length (some (h.length:Int))&&(!dup h&&u_ (WM X h) b))
 |.body ps=>Qq X ps&&decide (X.2.1=some (ps.length:Int))
def u_(X:Cx):j7->Bool
 |.nil=>true
 |.cons n r=>okN X n&&u_ X r
end
theorem zE(x:List Nat):∀E:List Pc,Tc (E.map O5) x=(look E x).map O5
 |[]=>rfl
 |q::r=>by
  have ih:=zE x r;unfold Tc look at*;rw[ab7,adh,adh,ih];show(match q.n==x with|true=>_|false=>_)=_
  cases q.n==x<;>rfl
theorem qr{X:Cx}{ps:List u9}(h:Qq X ps=true):ps.any (out X.2.2)=false:=by rw[aeT];intro p hp;have:=aco.mp h p hp;unfold out;rw[this];decide
theorem uR{X:Cx}{p:u9}(h:Qq X [p]=true):out X.2.2 p=false:=by have:=qr h;simpa using this
theorem lG{E:List Pc}{x:List Nat}{l:Nat}{h:Option Int}(e:QH (E.map O5) x l h=true):∃q,look E x=some q/\q.ns.length=l/\q.m=h:=by
 unfold QH at e;rw[zE]at e
 cases z:look E x with
 |none=>rw[z]at e;cases e
 |some q=>rw[z]at e;simp only[agj,ab5,decide_eq_true_eq]at e;exact⟨q,rfl,e.1,e.2⟩
mutual
theorem JR(E:List Pc)(m:Option Int)(w:List Int)(ns:List (List Nat)):∀n:Nd,okN (E.map O5,m,ns) n=true->Pk E m ns n=false/\QX E m w ns n=none
 |.loop x p b t,h=>by rw[okN,ab5]at h;exact⟨by rw[Pk];exact uR h.1,by rw[QX];exact pq E m w 0 _ b h.2⟩
 |.choice p y z,h=>by rw[okN,ab5,ab5]at h;exact⟨by rw[Pk];exact uR h.1,by rw[QX,pq E m _ 0 _ y h.2.1,pq E m _ 0 _ z h.2.2];rfl⟩
 |.use x ps,h=>by rw[okN,ab5]at h;obtain⟨q,q1,q2,q3⟩:=lG h.2;refine⟨?_,rfl⟩;rw[Pk,qr h.1,q1];show Ri ps q none=false;simp[Ri,q2,q3]
 |.j8 x ps hs b,h=>by
  rw[okN,ab5,ab5,ab5]at h;obtain⟨q,q1,q2,q3⟩:=lG h.2.1;refine⟨?_,by rw[QX];exact pq E m w 0 _ b h.2.2.2⟩;have dd:dup hs=false:=by have:=h.2.2.1;simpa using this
  rw[Pk,qr h.1,q1];show Ri ps q (some hs)=false;simp[Ri,q2,q3,dd]
 |.body ps,h=>by rw[okN,ab5,decide_eq_true_eq]at h;refine⟨?_,rfl⟩;have hm:m=some (ps.length:Int):=h.2;have ha:ps.any (out ns)=false:=qr h.1;subst hm;show(ps.any (out ns)||(ps.length:Int) !=(ps.length:Int))=false;rw[ha];simp
 |.text _,_=>⟨rfl,rfl⟩
 |.place p s,h=>by rw[okN]at h;exact⟨by rw[Pk];exact uR h,rfl⟩
theorem pq(E:List Pc)(m:Option Int)(w:List Int)(k:Nat)(ns:List (List Nat)):∀b:j7,u_ (E.map O5,m,ns) b=true->P_ E m w k ns b=none
 |.nil,_=>rfl
 |.cons n r,h=>by rw[u_,ab5]at h;obtain⟨a,c⟩:=JR E m (w++ [(k:Int)]) ns n h.1;rw[P_,a,if_neg (by decide),c,pq E m w (k+1) ns r h.2];rfl
end
theorem zj{P:List Pe}{x:List Nat}{l:Nat}{h:Option Int}(e:QH P x l h=true):(P.map (·.n)).contains x=true:=by
 unfold QH at e
 cases z:Tc P x with
 |none=>rw[z]at e;cases e
 |some p=>rw[acL];have:=agm z;rw[<- aec this];exact acK.mpr ⟨p,adG z,rfl⟩
mutual
theorem IL(X:Cx):∀n:Nd,okN X n=true->Pq (X.1.map (·.n)) n=true
 |.loop x p b t,h=>by rw[okN,ab5]at h;rw[Pq];exact mS (WM X [x]) b h.2
 |.choice p y z,h=>by rw[okN,ab5,ab5]at h;rw[Pq,mS X y h.2.1,mS X z h.2.2];rfl
 |.use x ps,h=>by rw[okN,ab5]at h;rw[Pq];exact zj h.2
 |.j8 x ps hs b,h=>by rw[okN,ab5,ab5,ab5]at h;rw[Pq,zj h.2.1];exact mS (WM X hs) b h.2.2.2
 |.body _,_=>rfl
 |.text _,_=>rfl
 |.place _ _,_=>rfl
theorem mS(X:Cx):∀b:j7,u_ X b=true->Ph (X.1.map (·.n)) b=true
 |.nil,_=>rfl
 |.cons n r,h=>by rw[u_,ab5]at h;rw[Ph,IL X n h.1,mS X r h.2];rfl
end
def QJ:List Pc->List Pc->Bool
 |_,[]=>true
 |E,q::r=>!(E.map (·.n)).contains q.n&&(!dup q.ns&&(u_ (E.map O5,q.m,q.ns) q.b&&QJ (E++ [q]) r))
theorem rJ(q:Pc):∀(r E:List Pc),QJ E r=true->q.n∉(E++r).map (·.n)->dup q.ns=false->u_ ((E++r).map O5,q.m,q.ns) q.b=true->QJ E (r++ [q])=true
 |[],E,_,h1,h2,h3=>by
  rw[acH]at h1 h3
  have e:(E.map (·.n)).contains q.n=false:=by
   cases z:(E.map (·.n)).contains q.n with
   |false=>rfl
   |true=>exact(h1 (acL.mp z)).elim
  rw[acC,QJ,e,h2,h3,QJ];rfl
 |p::r,E,h,h1,h2,h3=>by rw[QJ,ab5,ab5,ab5]at h;rw[acB,QJ,h.1,h.2.1,h.2.2.1];rw[show E++p::r=E++ [p]++r by simp]at h1 h3;exact rJ q r (E++ [p]) h.2.2.2 h1 h2 h3
theorem DL(len:Nat):∀(r E:List Pc),QJ E r=true->E.length+r.length=len->(∀C q,r=C++ [q]->q.m=none)->Rk len E r=none
 |[],_,_,_,_=>rfl
 |q::r,E,h,hl,hm=>by
  rw[QJ,ab5,ab5,ab5]at h;rw[acw]at hl;have e1:(E.map (·.n)).contains q.n=false:=by simpa using h.1
  have e2:dup q.ns=false:=by simpa using h.2.1
  have e3:(decide (E.length+1=len)&&q.m.isSome)=false:=by
   cases r with
   |nil=>rw[hm [] q rfl];simp
   |cons a t=>rw[decide_eq_false (by rw[acw]at hl;omega)];rfl
  rw[Rk,e1,e2,e3,if_neg (by decide),pq E q.m _ 0 q.ns q.b h.2.2.1,DL len r (E++ [q]) h.2.2.2 (by rw[acs,acN];omega) fun C p e=>hm (q::C) p (by rw[e];rfl)];rfl
theorem xL{l m:List Nat}(h:sg l=true)(hm:∀c∈m,c∈l):sg m=true:=aco.mpr fun c hc=>aco.mp h c (hm c hc)
theorem ou{α:Type}{l:List α}{a b:Option Int}{x:α}(h:x∈cut l a b):x∈l:=by unfold cut at h;exact List.mem_of_mem_drop (ad7 h)
theorem It{l:List Nat}(h:sg l=true)(a b:Option Int):sg (cut l a b)=true:=xL h fun _ hc=>ou hc
theorem BU{a b:List Nat}(ha:sg a=true)(hb:sg b=true):sg (a++b)=true:=by unfold sg at*;rw[afo,ha,hb];rfl
theorem kx{α:Type}(l:List α)(a b:Option Int):(cut l a b).length<=l.length:=Z.kx l a b
theorem vt{α β:Type}(f:α->β)(l:List α)(a b:Option Int):cut (l.map f) a b=(cut l a b).map f:=by unfold cut;rw[ab9,List.map_take,List.map_drop]
theorem BS{l:List (List Nat)}(h:N5 l=true):sg l.flatten=true:=aco.mpr fun c hc=>by obtain⟨x,hx,hc⟩:=List.mem_flatten.mp hc;exact aco.mp (aco.mp h x hx) c hc
theorem uA{l m:List (List Nat)}(h:N5 l=true)(hm:∀c∈m,c∈l):N5 m=true:=aco.mpr fun c hc=>aco.mp h c (hm c hc)
theorem Ik{l:List (List Nat)}(h:∀x∈l,x.length<=1):(l.map (fun l=>l.length)).sum<=l.length:=by
 induction l with
 |nil=>exact ab8 _
 |cons a r ih=>have:=ih fun x hx=>h x (acg _ hx);have:=h a acv;simp only[ab7,acZ,acw];omega
def Wn(i:Int):Nat:=bT.getD (i % 26).toNat 0
theorem yz:bT.length=26:=by decide
theorem Ew(i:Int):O_ bT (i % 26)=some (Wn i):=Ey 0 (adS _ (by decide)) (by rw[yz];exact adq _ (by decide))
theorem KH(i:Int):sg [Wn i]=true:=by have h0:=adS i (by decide:(26:Int)≠0);have h1:=adq i (by decide:(0:Int)<26);exact xL (l:=bT) (by decide) fun c hc=>by rw[acp.mp hc];exact iU (by rw[yz];omega)
def w8(W:List (List Nat)):Prop:=W.length=8/\N5 W=true/\∀x∈W,x.length<=1
theorem ur{W V:List (List Nat)}(h:w8 W)(hm:∀x∈V,x∈W)(hl:V.length<=100)(hp:List PO):sg V.flatten=true/\V.flatten.length<=100/\nO (.str []) [.lst (V.map PV.str)] hp=.ok (.str V.flatten) hp:=by have s:=Ik fun x hx=>h.2.2 x (hm x hx);exact⟨BS (uA h.2.1 hm),by rw[List.length_flatten];exact ace s hl,Fq (by omega)⟩
theorem Hc(a b:List PV)(h:List PO)(q:a.length+b.length<=16777216):aI (.lst a) (.lst b) h=.ok (.lst (a++b)) h:=by show AO (.lst a) (.lst b) h=_;rw[KM,if_pos (ace q (by decide))]
noncomputable def Q9:List (List Nat):=[[102,105,114,115,116],[115,101,99,111,110,100],[116,104,105,114,100],[102,111,117,114,116,104],[102,105,102,116,104],[115,105,120,116,104],[115,101,118,101,110,116,104],[101,105,103,104,116,104]]
def wB(b:Nat):List Nat:=(List.range 8).map fun i=>bT.getD ((b+5 * i) % 26) 0
noncomputable def Tp(l:List Nat):List (List Nat):=l.map fun c=> [c]
theorem nG(l:List Nat):(Tp l).flatten=l:=by
 induction l with
 |nil=>rfl
 |cons a r ih=>unfold Tp at*;rw[ab7,adR,ih];rfl
theorem qA(l:List Nat)(a b:Option Int):cut (Tp l) a b=Tp (cut l a b):=vt _ l a b
theorem nw0:((List.range 26).all fun b=>(List.range 8).all fun e=>!Q9.contains (cut (wB b) none (some (1+(e:Int)))))=true:=by kernel_rfl
theorem nw1:((List.range 26).all fun b=>(List.range 8).all fun a=>(List.range 9).all fun z=>Q9.all fun w=>!decide ((cut (wB b) none (some (z:Int))).set a 0=w.set a 0))=true:=by kernel_rfl
theorem nw2:((List.range 26).all fun b=>(List.range 12).all fun j=>!Q9.contains (cut (cut (wB b) (some ((j:Int) % 8)) none++cut (wB b) none (some ((j:Int) % 8))) none (some (8 - (j:Int) / 8))))=true:=by kernel_rfl
def Tw(l:List Nat):Prop:=l∉Q9
theorem CN{l:List Nat}(h:(!Q9.contains l)=true):Tw l:=fun z=>by rw[<- acL]at z;rw[z]at h;cases h
theorem GS(l:List Nat)(a:Nat)(s:Nat)(z:Option Int):(cut (l.set a s) none z).set a 0=(cut l none z).set a 0:=by unfold cut;rw[aho,HT.RB,agy,agy,List.take_set,List.set_set]
theorem jW{n:Nat}{f:Nat->Bool}(h:(List.range n).all f=true){i:Nat}(hi:i<n):f i=true:=aco.mp h i (aeR.mpr hi)
noncomputable def bB(n j:Int):Nat:=((n / 192+3 * (j / 8) * (if decide (n % 3=0)=true then 1 else 0)) % 26).toNat
theorem Nf(n j:Int):bB n j<26:=by unfold bB;omega
theorem Lc(b:Nat):w8 (Tp (wB b)):=by
 refine⟨by simp[Tp,wB],aco.mpr fun x hx=>?_,fun x hx=>?_⟩
 ·obtain⟨c,hc,rfl⟩:=acK.mp hx;obtain⟨i,_,rfl⟩:=acK.mp hc;exact xL (l:=bT) (by decide) fun c hc=>by rw[acp.mp hc];exact iU (by rw[yz];omega)
 ·obtain⟨c,hc,rfl⟩:=acK.mp hx;exact ab8 _
theorem aMq(a:Int)(i:Nat):((a+5 * i) % 26).toNat=((a % 26).toNat+5 * i) % 26:=by obtain⟨m,h⟩:=af4 (adS a (by decide:(26:Int)≠0));rw[<- Int.emod_add_emod,h];show(((m+5 * i:Nat):Int) % ((26:Nat):Int)).toNat=_;rw[<- Int.natCast_emod,ada,ada]
theorem AS(k:Nat)(n:Int)(ρ:Ev)(j:Int)(hc:dj [1,0,5] ρ=[some (.str bT),some (.int n),some (.int j)])(h:List PO):cY cV (lR (F k)) (dj [1,0,5] ρ) ((List.range (Int.toNat 8)).map fun i=>PV.int (0+(i:Nat))) h=.ok ((Tp (wB (bB n j))).map PV.str) h:=by
 unfold Tp wB;rw[hc,ady,ady];refine rR (fun i=>PV.int (0+(i:Nat))) _ (List.range 8) fun i _=>?_;have mi:∀x:Int,jJ x (if decide (n % 3=0)=true then 1 else 0)=true:=fun x=>uV (by split<;>decide);have az:=Ew (n / 192+5 * (0+(i:Int))+3 * (j / 8) * (if decide (n % 3=0)=true then 1 else 0))
 have ee:Wn (n / 192+5 * (0+(i:Int))+3 * (j / 8) * (if decide (n % 3=0)=true then 1 else 0))=bT.getD ((bB n j+5 * i) % 26) 0:=by
  unfold Wn bB;generalize 3 * (j / 8) * (if decide (n % 3=0)=true then 1 else 0)=z
  congr 1;rw[agg,Int.add_right_comm,aMq]
 rw[ee]at az;have zl:bT.length<=16777216:=by decide
 simp only[EX,lR,mi,az,zl];rfl
theorem AT(k:Nat)(n sz ax:Int)(hs:0<=sz/\sz<=8)(ha:0<=ax/\ax<8)(j:Nat)(hj:j<12)(x6 x7:Option PV)(acc:List (List Nat))(la:acc.length<16777216)(rest:List PO):∃l Tq y6,(sg l=true/\Tw l)/\
  eX (F k) [some (.int n),some (.str bT),some (.int sz),some (.int ax),some (.ref 0),some (.int (0+(j:Nat))),x6,x7] (.lst (acc.map PV.str)::rest)=.nx [some (.int n),some (.str bT),some (.int sz),some (.int ax),some (.ref 0),some (.int (0+(j:Nat))),y6,x7] (.lst ((acc++ [l]).map PV.str)::Tq):=by
 have cm:=AS k n [some (.int n),some (.str bT),some (.int sz),some (.int ax),some (.ref 0),some (.int (0+(j:Nat))),x6,x7] (0+(j:Nat)) rfl;have hb:=Nf n (0+(j:Nat));generalize bB n (0+(j:Nat))=b at cm hb;have hW:=Lc b;obtain⟨W,eW⟩:∃W,Tp (wB b)=W:=⟨_,rfl⟩
 rw[eW]at cm hW;have b8:Q8 4611686018427387904 8=true:=rfl;have ln:((List.range (Int.toNat 8)).map fun i=>PV.int (0+(i:Nat))).length<16777216:=by decide
 have nl:∀(xs:List PV)(o:PO),wL xs (o::rest)=.ok (.ref (rest.length+1)) (o::(rest++ [.lst xs])):=fun _ _=>rfl;have d0:∀(xs:List PV) r,aq (.lst xs::r) (.ref 0)=.ref 0:=fun xs r=>rfl;have dW:∀(xs ys:List PV),aq (.lst xs::(rest++ [.lst ys])) (.ref (rest.length+1))=.ref (rest.length+1):=fun xs ys=>Kr (acc:=ys) (by simp)
 have sW:∀(xs:List PV)(V:List (List Nat)) lo hi,jq (.ref (rest.length+1)) lo hi (.lst xs::(rest++ [.lst (V.map PV.str)]))=.ok (.lst ((cut V lo hi).map PV.str)) (.lst xs::(rest++ [.lst (V.map PV.str)])):=fun xs V lo hi=>by
  show(match Rp (.lst xs::(rest++ [.lst (V.map PV.str)])) (.ref (rest.length+1))with|some ys=>Res.ok (PV.lst (cut ys lo hi)) _|none=>.bad)=_;have:Rp (.lst xs::(rest++ [.lst (V.map PV.str)])) (.ref (rest.length+1))=some (V.map PV.str):=by simp[Rp]
  rw[this,<- vt]
 have ap:∀(l:List Nat) r,bD (.ref 0) [.str l] (.lst (acc.map PV.str)::r)=.ok .non (.lst (acc.map PV.str++ [.str l])::r):=fun l r=>by rw[KJ,if_pos (by rw[ab9];exact adK la (by decide))]
 have cl:∀(V:List (List Nat)) lo hi,V.length=8->(cut V lo hi).length<=100:=fun V lo hi h=>by have:=kx V lo hi;omega
 have ic:=JI
 by_cases q0:n % 3=0
 ·have e0:decide (n % 3=0)=true:=decide_eq_true q0;obtain⟨j1,_,j3⟩:=ur (V:=cut W none (some (1+(0+(j:Nat)) % 8))) hW (fun x hx=>ou hx) (cl _ _ _ hW.1) (.lst (acc.map PV.str)::(rest++ [.lst (W.map PV.str)]))
  have nw:Tw (cut W none (some (1+(0+(j:Nat)) % 8))).flatten:=by rw[<- eW,qA,nG];have:=CN (jW (jW nw0 hb) (show j % 8<8 by omega));rw[show(1+(0+((j:Nat):Int)) % 8)=1+((j % 8:Nat):Int) by omega];exact this
  refine⟨_,rest++ [.lst (W.map PV.str)],some (.ref (rest.length+1)),⟨j1,nw⟩,?_⟩;simp only[EX,eX,b8,ln,cm,nl,e0,d0,dW,sW,ic,j3,ap,aci]
 ·have e0:decide (n % 3=0)=false:=decide_eq_false q0
  by_cases q1:n % 3=1
  ·have e1:decide (n % 3=1)=true:=decide_eq_true q1;have az:=Ew (n / 192+7 * (0+(j:Nat))+1);have ao:=KH (n / 192+7 * (0+(j:Nat))+1);have zl:bT.length<=16777216:=by decide
   generalize Wn (n / 192+7 * (0+(j:Nat))+1)=s at az ao
   have hV:w8 (W.set ax.toNat [s]):=by
    refine⟨by rw[aho];exact hW.1,aco.mpr fun x hx=>?_,fun x hx=>?_⟩
    ·rcases afJ hx with h|h
     ·exact aco.mp hW.2.1 x h
     ·subst h;exact ao
    ·rcases afJ hx with h|h
     ·exact hW.2.2 x h
     ·subst h;exact ab8 _
   have si:∀ ρ,iN (.str [s]) (.ref (rest.length+1)) (.int ax) ρ (.lst (acc.map PV.str)::(rest++ [.lst (W.map PV.str)]))=.nx ρ (.lst (acc.map PV.str)::(rest++ [.lst ((W.set ax.toNat [s]).map PV.str)])):=fun ρ=>by
    unfold iN;have e2:mJ (.lst (acc.map PV.str)::(rest++ [.lst (W.map PV.str)])) (.ref (rest.length+1))=some (rest.length+1,W.map PV.str):=by unfold mJ;simp
    have e3:Sd (W.map PV.str).length ax=some ax.toNat:=by unfold Sd;rw[ab9,hW.1,if_pos ha.1,if_pos (by omega)]
    rw[e2];dsimp only;rw[e3];dsimp only;rw[aeg,ad3 _ _ (ab8 _),Nat.sub_self,adL,ahA]
   obtain⟨j1,_,j3⟩:=ur (V:=cut (W.set ax.toNat [s]) none (some sz)) hV (fun x hx=>ou hx) (cl _ _ _ hV.1) (.lst (acc.map PV.str)::(rest++ [.lst ((W.set ax.toNat [s]).map PV.str)]))
   have nw:Tw (cut (W.set ax.toNat [s]) none (some sz)).flatten:=by
    have es:W.set ax.toNat [s]=Tp ((wB b).set ax.toNat s):=by rw[<- eW];unfold Tp;rw[ahA]
    rw[es,qA,nG];intro z;have h1:=jW (jW (jW nw1 hb) (show ax.toNat<8 by omega)) (show sz.toNat<9 by omega);have h2:=aco.mp h1 _ z;rw[GS,show((sz.toNat:Nat):Int)=sz by omega]at h2;simp at h2
   refine⟨_,rest++ [.lst ((W.set ax.toNat [s]).map PV.str)],some (.ref (rest.length+1)),⟨j1,nw⟩,?_⟩;simp only[EX,eX,b8,ln,cm,nl,e0,e1,d0,dW,sW,ic,az,zl,si,j3,ap,aci]
  ·have e1:decide (n % 3=1)=false:=decide_eq_false q1;have l1:=cl W (some ((0+(j:Nat)) % 8)) none hW.1;have l2:=cl W none (some ((0+(j:Nat)) % 8)) hW.1;have l1':=kx W (some ((0+(j:Nat)) % 8)) none;have l2':=kx W none (some ((0+(j:Nat)) % 8));have w8l:=hW.1;have aa:=Hc ((cut W (some ((0+(j:Nat)) % 8)) none).map PV.str) ((cut W none (some ((0+(j:Nat)) % 8))).map PV.str) (.lst (acc.map PV.str)::(rest++ [.lst (W.map PV.str)])) (by rw[ab9,ab9];omega);rw[<- aci]at aa
   obtain⟨j1,j2,j3⟩:=ur (V:=cut W (some ((0+(j:Nat)) % 8)) none++cut W none (some ((0+(j:Nat)) % 8))) hW (fun x hx=>by rcases acz.mp hx with h|h<;>exact ou h) (by rw[acs];omega) (.lst (acc.map PV.str)::(rest++ [.lst (W.map PV.str)]))
   have jl:(cut W (some ((0+(j:Nat)) % 8)) none++cut W none (some ((0+(j:Nat)) % 8))).flatten.length<=16777216:=by omega
   have nw:Tw (cut (cut W (some ((0+(j:Nat)) % 8)) none++cut W none (some ((0+(j:Nat)) % 8))).flatten none (some (8 - (0+(j:Nat)) / 8))):=by rw[<- eW,qA,qA,List.flatten_append,nG,nG];have:=CN (jW (jW nw2 hb) hj);rw[agg];exact this
   refine⟨_,rest++ [.lst (W.map PV.str)],some (.ref (rest.length+1)),⟨It j1 none (some (8 - (0+(j:Nat)) / 8)),nw⟩,?_⟩;have ma:∀l,(acc++ [l]).map PV.str=acc.map PV.str++ [.str l]:=fun l=>by rw[aci];rfl
   simp only[EX,eX,b8,ln,cm,nl,e0,e1,d0,dW,sW,ic,aa,j3,jl,ap,ma]
theorem tF(k:Nat)(n sz ax:Int)(hs:0<=sz/\sz<=8)(ha:0<=ax/\ax<8)(x7:Option PV):∀(js:List Nat)(x5 x6:Option PV)(acc:List (List Nat))(rest:List PO),(∀j∈js,j<12)->acc.length+js.length<16777216->N5 acc=true->(∀x∈acc,Tw x)->∃(ls:List (List Nat))(y5 y6:Option PV)(Tq:List PO),ls.length=acc.length+js.length/\(N5 ls=true/\∀x∈ls,Tw x)/\
  aN (z_ 5) (eX (F k)) (js.map fun j=>PV.int (0+(j:Nat))) [some (.int n),some (.str bT),some (.int sz),some (.int ax),some (.ref 0),x5,x6,x7] (.lst (acc.map PV.str)::rest)=.nx [some (.int n),some (.str bT),some (.int sz),some (.int ax),some (.ref 0),y5,y6,x7] (.lst (ls.map PV.str)::Tq)
 |[],x5,x6,acc,rest,_,_,ho,hn=>⟨acc,x5,x6,rest,rfl,⟨ho,hn⟩,by rw[acM,aN]⟩
 |j::r,x5,x6,acc,rest,hj,hl,ho,hn=>by
  rw[acw]at hl;obtain⟨l,VH,x6',⟨ol,nl⟩,e⟩:=AT k n sz ax hs ha j (hj j acv) x6 x7 acc (by omega) rest
  obtain⟨ls,y5,y6,VG,e1,e2,e3⟩:=tF k n sz ax hs ha x7 r (some (.int (0+(j:Nat)))) x6' (acc++ [l]) VH (fun z hz=>hj z (acg _ hz)) (by rw[acs,acN];omega) (uB ho (by simp[N5,ol])) (fun z hz=>by
   rcases acz.mp hz with q|q
   ·exact hn z q
   ·cases acp.mp q;exact nl)
  refine⟨ls,y5,y6,VG,by rw[e1,acs];simp only[acw,adg];omega,e2,?_⟩;rw[ab7];exact adT (cP rfl e) e3
noncomputable def Ob(ms:List (List Nat)):PV:=.lst (ms.map PV.str)
theorem Jf(h:List PO)(ms:List (List Nat)):aq h (Ob ms)=Ob ms:=rfl
noncomputable def Kx:List (List Nat):=[[97],[98],[97,98],[98,97],[105,116,101,109],[105,116,101,109,115],[99],[120],[120,121],[121],[114,111,119],[114,111,119,115]]
noncomputable def jS:List (List Nat):=[[97,115],[98,101,116,119,101,101,110],[98,111,100,121],[101,108,115,101],[101,110,100],[102,111,114],[105,102],[105,110],[112,105,101,99,101],[117,115,101],[119,105,116,104]]
theorem AV(k:Nat)(n:Int):∃ls:List (List Nat),ls.length=12/\N5 ls=true/\(ls.Nodup/\∀x∈ls,Tw x)/\F (k+1) .K6 [.int n]=.ok (Ob ls):=by
 have s0:=adS (n / 3) (by decide:(8:Int)≠0);have s1:=adq (n / 3) (by decide:(0:Int)<8);have t0:=adS (n / 24) (by omega:1+n / 3 % 8≠0);have t1:=adq (n / 24) (by omega:0<1+n / 3 % 8);obtain⟨ls,y5,y6,rest,e1,⟨e2,nwl⟩,e3⟩:=tF k n (1+n / 3 % 8) (n / 24 % (1+n / 3 % 8)) (by omega) (by omega) none (List.range 12) none none [] [] (fun j hj=>aeR.mp hj) (by simp) rfl (fun x hx=>by cases hx);have WT:ls.length=12:=by rw[e1];simp
 have p4:decide (0<1+n / 3 % 8)=true:=decide_eq_true (by omega);have Yv:Q8 4611686018427387904 12=true:=rfl;have r12:(List.range (Int.toNat 12))=List.range 12:=rfl;have Yj:aN (z_ 5) (eX (F k)) ((List.range 12).map fun j=>PV.int (0+(j:Nat))) [some (.int n),some (.str bT),some (.int (1+n / 3 % 8)),some (.int (n / 24 % (1+n / 3 % 8))),some (.ref 0),none,none,none] [.lst []]=.nx [some (.int n),some (.str bT),some (.int (1+n / 3 % 8)),some (.int (n / 24 % (1+n / 3 % 8))),some (.ref 0),y5,y6,none] (.lst (ls.map PV.str)::rest):=e3;have d0:∀(xs:List PV) r,aq (.lst xs::r) (.ref 0)=.ref 0:=fun xs r=>rfl;have dz:∀(q:PV) r,aq (.J8 q::r) (.ref 0)=q:=fun xs r=>rfl;have sc:ls.length+1<scanBound:=by rw[WT];decide
 have lz:jF (.ref 0) (.lst (ls.map PV.str)::rest)=.ok (.int (oN ls:Nat)) (.lst (ls.map PV.str)::rest):=by show(match fJ (ls.map PV.str)with|some ls=>if ls.length+1<scanBound then Res.ok (PV.int (oN ls:Nat)) _ else .bad|none=>.bad)=_;rw[jf];dsimp only;rw[if_pos sc]
 have fd:∃b:Bool,(b=true->F (k+1) .K6 [.int n]=.ok (Ob Kx))/\(b=false->dup ls=false/\F (k+1) .K6 [.int n]=.ok (Ob ls)):=by
  have r2:F (k+1) .K6 [.int n]=match iL (F k) [some (.int n),none,none,none,none,none,none,none] []with
   |.nx _ _=>.ok .non
   |.rt v h=>gA v h
   |_=>.bad:=rfl
  by_cases c1:((oN ls:Nat):Int)<12
  ·have z1:decide (((oN ls:Nat):Int)<12)=true:=decide_eq_true c1;refine⟨true,fun _=>?_,fun h=>by cases h⟩;rw[r2];simp only[EX,iL,p4,Yv,r12,Yj,d0,lz,z1];rfl
  ·have z1:decide (((oN ls:Nat):Int)<12)=false:=decide_eq_false c1
   have sq:kE (.ref 0) (.lst (ls.map PV.str)::rest)=.ok (ls.map PV.str) (.J8 (.lst (ls.map PV.str))::rest):=by
    show(match gQ (.lst (ls.map PV.str)::rest) (.ref 0)with|some (.lst xs,h2)=>Res.ok xs h2|_=>.bad)=_
    have:gQ (.lst (ls.map PV.str)::rest) (.ref 0)=some (.lst (ls.map PV.str),.J8 (.lst (ls.map PV.str))::rest):=by unfold gQ;simp only[aeM,eK,if_true,adL]
    rw[this]
   have ln:(ls.map PV.str).length<16777216:=by rw[ab9,WT];decide
   have cm:∀ ρ h,dj [7] ρ=[some (.lst (jS.map PV.str))]->cY (kX (F k)) (lQ (F k)) (dj [7] ρ) (ls.map PV.str) h=.ok ((ls.filter fun x=>decide (x∈jS)).map PV.str) h:=fun ρ h hc=>by
    rw[hc];refine pE PV.str (fun x=>decide (x∈jS)) PV.str ls (fun x hx=>?_) fun x hx=>?_
    ·have i1:=MH (x:=x) (ls:=jS) (nH (aco.mp e2 x hx)) (by decide) h;simp only[EX,kX,i1]
    ·simp only[EX,lQ]
   have nn:∀h,QC (.lst ((ls.filter fun x=>decide (x∈jS)).map PV.str)) (.lst []) h=.ok (.bl (!((ls.filter fun x=>decide (x∈jS)).map PV.str).isEmpty)) h:=fun h=>FD (iW (uA e2 fun x hx=>(afl.mp hx).1)) h;generalize(ls.filter fun x=>decide (x∈jS)).map PV.str=fl at cm nn;have Uk:=cm [some (.int n),some (.str bT),some (.int (1+n / 3 % 8)),some (.int (n / 24 % (1+n / 3 % 8))),some (.ref 0),y5,y6,some (.lst (jS.map PV.str))] (.J8 (.lst (ls.map PV.str))::rest) rfl;simp only[jS,ab7,acM]at Uk;refine⟨!fl.isEmpty,fun h=>?_,fun h=>?_⟩
   ·rw[r2];simp only[EX,iL,p4,Yv,r12,Yj,d0,lz,z1,sq,ln,Uk,nn,h];rfl
   ·refine⟨by unfold dup;rw[WT];exact decide_eq_false (by omega),?_⟩;rw[r2];have fi:gA (.lst (ls.map PV.str)) (.J8 (.lst (ls.map PV.str))::rest)=.ok (Ob ls):=cD (by rw[PV.pure];exact eK ls);simp only[EX,iL,p4,Yv,r12,Yj,d0,lz,z1,sq,ln,Uk,nn,h,dz,fi]
 obtain⟨b,h1,h2⟩:=fd
 cases b with
 |true=>exact⟨Kx,rfl,by decide,⟨by decide,fun x hx=>CN (aco.mp (by decide:(Kx.all fun x=>!Q9.contains x)=true) x hx)⟩,h1 rfl⟩
 |false=>exact⟨ls,WT,e2,⟨(yu ls).mp (h2 rfl).1,nwl⟩,(h2 rfl).2⟩
theorem DB(n:Nd):sg (kT n)=true:=by cases n<;>rfl
noncomputable def Rr:Nd->Bool
 |.text _=>true
 |_=>false
theorem wY(n:Nd)(h:List PO):J5 (.str (kT n)) (.str tT) h=.ok (.bl (Rr n)) h:=by
 rw[HE (DB n) kI.1]
 cases n<;>rfl
noncomputable def Q6:Nd->Nat
 |.text s=>s.length
 |_=>0
def Od(l:List Nd):Nat:=(l.map Q6).sum
noncomputable def Rt(l:List Nd):Nat:=(l.map fun n=>K_ n+1).sum
structure Rw(kn:Cx)(d c t:Nat)(l:List Nd):Prop where
 w:∀n∈l,wN n=true/\okN kn n=true/\dN n<=d
 c:Rt l<=c
 t:Od l<=t
theorem qB(l:List Nd):l.length<=Rt l:=by
 induction l with
 |nil=>exact ab8 _
 |cons a r ih=>unfold Rt at*;rw[ab7,acZ,acw];omega
theorem Ab(a b:List Nd):Rt (a++b)=Rt a+Rt b:=by unfold Rt;rw[aci,ahn]
theorem gU(a b:List Nd):Od (a++b)=Od a+Od b:=by unfold Od;rw[aci,ahn]
theorem Rw.mono{kn:Cx}{d c t d' c' t':Nat}{l:List Nd}(h:Rw kn d c t l)(hd:d<=d')(hc:c<=c')(ht:t<=t'):Rw kn d' c' t' l:=
 ⟨fun n hn=>⟨(h.w n hn).1,(h.w n hn).2.1,ace (h.w n hn).2.2 hd⟩,ace h.c hc,ace h.t ht⟩
theorem Rw.app{kn:Cx}{d c t c' t':Nat}{l m:List Nd}(h:Rw kn d c t l)(g:Rw kn d c' t' m):Rw kn d (c+c') (t+t') (l++m):=
 ⟨fun n hn=>by rcases acz.mp hn with z|z<;>first|exact h.w n z|exact g.w n z,by rw[Ab];exact afx h.c g.c,by rw[gU];exact afx h.t g.t⟩
theorem zR{l:List Nd}(h:∀n∈l,wN n=true/\dN n<=20):fds 59 (l.map nd):=by
 induction l with
 |nil=>exact dg _
 |cons a r ih=>have:=h a acv;exact aG (bJ (HC this.1) (by omega)) (ih fun n hn=>h n (acg _ hn))
theorem IT{l:List PV}(hl:fds 59 l):QC (.ref 0) (.lst []) [.lst l]=.ok (.bl (!l.isEmpty)) [.lst l]:=by
 have ok:O9 [.lst l] (.ref 0)=true:=by unfold O9 O8;have:=hl.2.1;simp only[aeM,PyData.canLay0,PyData.depth,hl.1,ac6,decide_eq_true_eq];omega
 unfold QC;rw[if_pos ⟨ok,rfl⟩]
 cases l<;>rfl
theorem bu:∀l:List Nd,ar (l.map nd)=true
 |[]=>rfl
 |a::r=>by rw[ab7,ar,ch,bu r];rfl
noncomputable def bV(l:List Nd):Nd->List Nd
 |.text s=>match l.getLast? with
  |some (.text t)=>l.dropLast++ [.text (t++s)]
  |_=>l++ [.text s]
 |n=>l++ [n]
theorem qI{l:List Nd}{n:Nd}(h:Rr n=false):bV l n=l++ [n]:=by cases n<;>first|rfl|cases h
theorem pP(n:Nd):bV [] n= [n]:=by cases n<;>rfl
theorem pO{l:List Nd}{m n:Nd}(h:Rr m=false):bV (l++ [m]) n=l++ [m]++[n]:=by
 cases n with
 |text s=>rw[bV,agx];cases m<;>first|rfl|cases h
 |_=>rfl
theorem kB(l:List Nd)(u s:List Nat):bV (l++ [.text u]) (.text s)=l++ [.text (u++s)]:=by rw[bV,agx,List.dropLast_concat]
theorem vF(acc:List Nd)(n:Nd):bV acc n=acc++ [n]\/∃B u s,acc=B++ [.text u]/\n=.text s/\bV acc n=B++ [.text (u++s)]:=by
 cases t:Rr n with
 |false=>exact .inl (qI t)
 |true=>
  obtain⟨s,rfl⟩:∃s,n=.text s:=by cases n<;>first|exact⟨_,rfl⟩|cases t
  rcases ac7 acc with rfl|⟨B,m,rfl⟩
  ·exact .inl (pP _)
  ·rw[ac8]
   cases tm:Rr m with
   |false=>exact .inl (pO tm)
   |true=>
    obtain⟨u,rfl⟩:∃u,m=.text u:=by cases m<;>first|exact⟨_,rfl⟩|cases tm
    exact .inr ⟨B,u,s,rfl,rfl,kB ..⟩
theorem wG(k:Nat)(v:PV)(acc:List Nd)(n:Nd)(hf:fds 59 (acc.map nd))(hl:acc.length<16777216)(ht:Od acc+Q6 n<=1000000):eJ (F k) [some v,some (.ref 0),some (nd n)] [.lst (acc.map nd)]=.nx [some v,some (.ref 0),some (nd n)] [.lst ((bV acc n).map nd)]:=by
 have d0:∀xs:List PV,aq [.lst xs] (.ref 0)=.ref 0:=fun xs=>rfl;have li:∀xs,dZ [.lst xs] (.ref 0)=true:=fun _=>rfl;have ne:=IT hf
 have ap:bD (.ref 0) [nd n] [.lst (acc.map nd)]=.ok .non [.lst ((acc++ [n]).map nd)]:=by rw[KJ,if_pos (by rw[ab9];exact adK hl (by decide)),aci];rfl
 cases t:Rr n with
 |false=>rw[qI t];simp only[EX,eJ,wY,t,d0,li,ap]
 |true=>
  obtain⟨s,rfl⟩:∃s,n=.text s:=by cases n<;>first|exact⟨_,rfl⟩|cases t
  rcases ac7 acc with rfl|⟨B,m,rfl⟩
  ·rw[pP];have e0:(!(([]:List Nd).map nd).isEmpty)=false:=rfl;rw[e0]at ne;simp only[acM]at ne ap |-;simp only[EX,eJ,wY,t,d0,li,ne,ap]
  ·rw[ac8]at ne ap hl ht |-;have e0:(!((B++ [m]).map nd).isEmpty)=true:=by simp
   rw[e0]at ne
   have V1:d7 (.ref 0) (.int (-1)) [.lst ((B++ [m]).map nd)]=.ok (nd m) [.lst ((B++ [m]).map nd)]:=by
    show(match O_ ((B++ [m]).map nd) (-1)with|some v=>Res.ok (aq [.lst ((B++ [m]).map nd)] v) [.lst ((B++ [m]).map nd)]|none=>.bad)=_;have q:O_ ((B++ [m]).map nd) (-1)=some (nd m):=by rw[aci];exact vC _ _
    rw[q];show Res.ok (aq _ (nd m)) _=_;rw[jI]
   cases tm:Rr m with
   |false=>rw[pO tm];simp only[EX,eJ,wY,t,tm,d0,li,ne,V1,ap]
   |true=>
    obtain⟨u,rfl⟩:∃u,m=.text u:=by cases m<;>first|exact⟨_,rfl⟩|cases tm
    rw[kB];have al:u.length+s.length<=16777216:=by rw[gU]at ht;simp only[Od,ab7,acM,acZ,aeQ,Q6]at ht;omega
    have st:∀ ρ v,iN v (.ref 0) (.int (-1)) ρ [.lst ((B++ [Nd.text u]).map nd)]=.nx ρ [.lst (B.map nd++ [v])]:=fun ρ v=>by
     show(match Sd ((B++ [Nd.text u]).map nd).length (-1)with|some j=>SR.nx ρ [.lst (((B++ [Nd.text u]).map nd).set j v)]|none=>.bad)=_;have:Sd ((B++ [Nd.text u]).map nd).length (-1)=some B.length:=by unfold Sd;simp;omega
     rw[this];dsimp only;rw[aci]
     congr 3
     rw[ad3 _ _ (by simp)];simp
    have i1:∀z h,d7 (nd (.text z)) (.int 1) h=.ok (.str z) h:=fun z h=>by rw[nd];rfl
    have ma:(B++ [Nd.text (u++s)]).map nd=B.map nd++ [.tup [.str tT,.str (u++s)]]:=by simp[nd]
    simp only[EX,eJ,wY,t,tm,d0,li,ne,V1,st,i1,al,ma]
theorem wH(kn:Cx)(d c t k:Nat)(hd:d<=20)(hc:c<=1000000)(ht:t<=1000)(v:PV):∀(r acc:List Nd)(x2:Option PV),Rw kn d c t (acc++r)->∃Sh y2,Rw kn d c t Sh/\
  aN (z_ 2) (eJ (F k)) (r.map nd) [some v,some (.ref 0),x2] [.lst (acc.map nd)]=.nx [some v,some (.ref 0),y2] [.lst (Sh.map nd)]
 |[],acc,x2,h=>⟨acc,x2,by rw[acH]at h;exact h,by rw[acM,aN]⟩
 |n::r,acc,x2,h=>by
  have hl:=qB (acc++n::r);have ZQ:=h.c;have htt:=h.t;rw[acs,acw]at hl;have e1:Od (acc++n::r)=Od acc+(Q6 n+Od r):=by rw[gU];rfl
  have s1:=wG k v acc n (zR fun z hz=>⟨(h.w z (adf _ hz)).1,ace (h.w z (adf _ hz)).2.2 hd⟩) (by omega) (by omega)
  have h1:Rw kn d c t (bV acc n++r):=by
   rcases vF acc n with e|⟨B,u,s,rfl,rfl,e⟩<;>rw[e]
   ·rw[acG];exact h
   ·have wu:=h.w (.text u) (by simp);have ws:=h.w (.text s) (by simp);refine⟨fun z hz=>?_,?_,?_⟩
    ·rw[acG]at hz;rcases acz.mp hz with z1|z1
     ·exact h.w z (by simp[z1])
     ·rcases acn.mp z1 with z2|z2
      ·subst z2;refine⟨?_,rfl,acu _⟩;have a1:=wu.1;have a2:=ws.1;rw[wN,ab5]at a1 a2 |-;have:=h.t;simp only[gU]at this;simp only[Od,ab7,acM,acZ,aeQ,Q6]at this;exact⟨BU a1.1 a2.1,decide_eq_true (by rw[acs];omega)⟩
      ·exact h.w z (by simp[show z∈r from z2])
    ·have:=h.c;simp only[Ab]at this |-;simp only[Rt,ab7,acM,acZ,aeQ,K_]at this |-;omega
    ·have:=h.t;simp only[gU]at this |-;simp only[Od,ab7,acM,acZ,aeQ,Q6,acs]at this |-;omega
  obtain⟨Yy,y2,r1,r2⟩:=wH kn d c t k hd hc ht v r _ (some (nd n)) h1;refine⟨Yy,y2,r1,?_⟩;rw[ab7];exact adT (cP rfl s1) r2
noncomputable def tv(b:Bool)(xs:List PV):PV:=if b then .tup xs else .lst xs
theorem Le(b:Bool)(xs:List PV)(h:List PO):aq h (tv b xs)=tv b xs:=by cases b<;>rfl
theorem Ld(b:Bool)(xs:List PV)(h:List PO):kE (tv b xs) h=.ok xs h:=by cases b<;>rfl
theorem yb(kn:Cx)(d c t k:Nat)(hd:d<=20)(hc:c<=1000000)(ht:t<=1000)(b:Bool)(l:List Nd)(h:Rw kn d c t l):∃l',Rw kn d c t l'/\F (k+1) .K8 [tv b (l.map nd)]=.ok (.tup (l'.map nd)):=by
 obtain⟨l',y2,r1,r2⟩:=wH kn d c t k hd hc ht (tv b (l.map nd)) l [] none h;refine⟨l',r1,?_⟩
 have e2:F (k+1) .K8 [tv b (l.map nd)]=match mx (F k) [some (tv b (l.map nd)),none,none] []with
   |.nx _ _=>.ok .non
   |.rt v h=>gA v h
   |_=>.bad:=rfl
 have Xj:aN (z_ 2) (eJ (F k)) (l.map nd) [some (tv b (l.map nd)),some (.ref 0),none] [.lst []]=.nx [some (tv b (l.map nd)),some (.ref 0),y2] [.lst (l'.map nd)]:=r2;have d0:∀xs:List PV,aq [.lst xs] (.ref 0)=.ref 0:=fun xs=>rfl;have tp:df [.ref 0] [.lst (l'.map nd)]=.ok (.tup (l'.map nd)) [.lst (l'.map nd)]:=rfl;rw[e2];simp only[EX,mx,Le,Ld,Xj,d0,tp];exact cD (by rw[PV.pure];exact bu l')
noncomputable def cv(cs:List Int):PV:=.QD (cs.map PV.int)
theorem ku(cs:List Int):(cv cs).pure=true:=by
 unfold cv;rw[PV.pure]
 induction cs with
 |nil=>rfl
 |cons a r ih=>rw[ab7,ar,ih];rfl
theorem Ei(cs:List Int)(h:List PO):aq h (cv cs)=cv cs:=rfl
abbrev J9(n m:Int):PO:=.lst [.int n,.int m]
theorem cA(n m:Int):(J9 n m).pure=true:=rfl
theorem GX(k:Nat)(cs:List Int)(hc:cs.length<=63)(n m:Int)(h0:0<=n)(h1:n<=2000000):∃v,0<=v/\v<400000000/\L (k+1) .G4 [cv cs,.ref 0] [J9 n m]=.ok (.int v) [J9 (n+1) m]:=by
 have Td:∀i:Int,d7 (.ref 0) (.int 0) [J9 i m]=.ok (.int i) [J9 i m]:=fun m=>rfl;have d0:∀i:Int,aq [J9 i m] (.ref 0)=.ref 0:=fun m=>rfl;have st:∀ ρ,iN (.int (n+1)) (.ref 0) (.int 0) ρ [J9 n m]=.nx ρ [J9 (n+1) m]:=fun ρ=>rfl;have ln:∀h,gh [.QD (cs.map PV.int)] h=.ok (.int cs.length) h:=fun h=>by rw[Hu,ab9]
 have m3:∀x:Int,jJ x (n+1)=true:=fun x=>uV (eT.mpr ⟨by omega,by omega⟩);have fin:∀b:Int,0<=b * 48271 % 2147483647 / 7/\b * 48271 % 2147483647 / 7<400000000:=fun b=>by omega
 have ct:∀v:Int,eO 1 (.int v) [J9 (n+1) m]=.ok (.int v) [J9 (n+1) m]:=fun v=>rfl
 cases cs with
 |nil=>
  refine⟨_,(fin (31 * (n+1) * (n+1)+7919 * (n+1))).1,(fin _).2,?_⟩;show dY (jL (F k)) 2 4 [.QD [],.ref 0] [J9 n m]=_;have ln0:∀h,gh [.QD []] h=.ok (.int 0) h:=fun h=>rfl;have g0:decide ((0:Int)<0)=false:=by decide
  simp -implicitDefEqProofs only [EX,Ei,dY,jL,Td,d0,st,ln0,m3,ct,Int.reduceLT]
 |cons a r=>
  have Uj:(0:Int)<(((a::r).length:Nat):Int):=by rw[acw];omega
  have hl1:(((a::r).length:Nat):Int)<1073741824:=by omega
  have q0:0<=(n+1) % (((a::r).length:Nat):Int):=adS _ (by omega);have q1:(n+1) % (((a::r).length:Nat):Int)<(((a::r).length:Nat):Int):=adq _ Uj
  have ax:O_ ((a::r).map PV.int) ((n+1) % (((a::r).length:Nat):Int))=some (.int ((a::r).getD ((n+1) % (((a::r).length:Nat):Int)).toNat 0)):=by refine fU q0 ?_;rw[acJ,acy,acr (by omega)];rfl
  have dv0:0<=(n+1) / (((a::r).length:Nat):Int):=Int.ediv_nonneg (by omega) (by omega);have dv1:(n+1) / (((a::r).length:Nat):Int)<=n+1:=Int.ediv_le_self _ (by omega);have m5:∀x:Int,jJ x (1+(n+1) / (((a::r).length:Nat):Int))=true:=fun x=>uV (eT.mpr ⟨by omega,by omega⟩);have p3:decide ((0:Int)<(((a::r).length:Nat):Int))=true:=decide_eq_true Uj;have p4:decide ((0:Int)<(((a::r).length:Nat):Int)/\(((a::r).length:Nat):Int)<1073741824)=true:=decide_eq_true ⟨Uj,hl1⟩;unfold cv;generalize hL:(((a::r).length:Nat):Int)=Ln at*;generalize hC:(a::r).map PV.int=cl at*;refine⟨_,(fin (31 * (n+1) * (n+1)+7919 * (n+1)+(a::r).getD ((n+1) % Ln).toNat 0 * (1+(n+1) / Ln))).1,(fin _).2,?_⟩;show dY (jL (F k)) 2 4 [.QD cl,.ref 0] [J9 n m]=_;simp -implicitDefEqProofs only [EX,Ei,dY,jL,Td,d0,st,ln,p3,ax,m3,m5,p4,ct]
def M8(p:Pe):PV:=.tup [.str p.n,.int p.m,H7 p.h]
structure At where
 ns:List (List Nat)
 ps:List Pe
 h:Option Int
 ms:List (List Nat)
abbrev kN:List Nat:=[110,97,109,101,115]
abbrev kP:List Nat:=[112,105,101,99,101,115]
abbrev kH:List Nat:=[104,97,110,100,101,100]
abbrev kM:List Nat:=[109,101,110,117]
def av(A:At):PV:=.dct [(.inr kN,nms A.ns),(.inr kP,.lst (A.ps.map M8)),(.inr kH,H7 A.h),(.inr kM,Ob A.ms)]
def hO:Option Int->Prop
 |none=>True
 |some i=>0<=i/\i<=3
abbrev Tf(A:At):Cx:=(A.ps,A.h,A.ns)
structure TP(j:Nat)(A:At):Prop where
 n:N5 A.ns=true
 l:A.ns.length<=j
 pl:A.ps.length<=1000
 p:∀p∈A.ps,sg p.n=true/\p.m<=4/\hO p.h
 h:hO A.h
 ml:A.ms.length=12
 m:N5 A.ms=true
 mn:A.ms.Nodup
 pn:(A.ps.map (·.n)).Nodup
theorem nT(m:Option Int):(H7 m).pure=true:=by cases m<;>rfl
theorem nU(m:List (List Nat)):(Ob m).pure=true:=by unfold Ob;rw[PV.pure];exact eK m
theorem mh:∀l:List Pe,ar (l.map M8)=true
 |[]=>rfl
 |a::r=>by rw[ab7,ar,mh r];simp[M8,PV.pure,ar,nT]
theorem iI(A:At):(av A).pure=true:=by simp[av,PV.pure,aW,cC,mh,nT,nU]
section
variable(A:At)(h:List PO)
theorem Ng:aq h (av A)=av A:=rfl
theorem NM:d7 (av A) (.str kN) h=.ok (nms A.ns) h:=rfl
theorem NL:d7 (av A) (.str kP) h=.ok (.lst (A.ps.map M8)) h:=rfl
theorem NP:d7 (av A) (.str kH) h=.ok (H7 A.h) h:=by show Res.ok (aq h (H7 A.h)) h=_;rw[lH]
theorem NN:d7 (av A) (.str kM) h=.ok (Ob A.ms) h:=rfl
end
theorem oX{ms:List (List Nat)}(hl:ms.length=12)(hs:N5 ms=true)(i:Int)(h0:0<=i)(h1:i<12):∃l,sg l=true/\(∀h,d7 (Ob ms) (.int i) h=.ok (.str l) h)/\l∈ms:=by
 have hi:i.toNat<ms.length:=by omega
 refine⟨ms.getD i.toNat [],aco.mp hs _ (iU hi),fun h=>?_,iU hi⟩;unfold Ob;rw[zG,fU (v:=PV.str (ms.getD i.toNat [])) h0 (by rw[acJ,acy,acr hi];rfl)];rfl
theorem dX(x:Int){m:Int}(h:0<m):0<=x % m/\x % m<m:=⟨adS _ (by omega),adq _ h⟩
theorem Df{α:Type}{te:Ex}{cp:Ev}{h:List PO}(f:α->PV)(R:List Nat->Prop):∀l:List α,(∀x∈l,∃s,R s/\te (some (f x)::cp) h=.ok (.str s) h)->∃ss:List (List Nat),ss.length=l.length/\(∀s∈ss,R s)/\cY cV te cp (l.map f) h=.ok (ss.map PV.str) h
 |[],_=>⟨[],rfl,by simp,rfl⟩
 |x::r,hx=>by
  obtain⟨s,h1,h2⟩:=hx x acv;obtain⟨ss,g0,g1,g2⟩:=Df f R r fun z hz=>hx z (acg _ hz);refine⟨s::ss,by simp[g0],fun z hz=>?_,?_⟩
  ·rcases acn.mp hz with q|q
   ·subst q;exact h1
   ·exact g1 z q
  ·rw[ab7,cY];simp only[cV,Res.Qn,if_true,h2,g2,ab7]
local macro_rules | `(tactic| simp $c:optConfig only [EY,$xs,*])=>do let a<-(("Jf Ei Ng NM NL NP NN".splitOn.map fun n=>n.toName)).toArray.mapM fun n=>`(Lean.Parser.Tactic.simpLemma| $(Lean.mkIdent n):term);`(tactic| simp $c:optConfig only [EX,$a,*,$xs,*])
theorem i6{x:Int}(a:0<=x)(b:x<6):∃c:Int,0<=c/\c<=3/\O_ [PV.int 0,.int 0,.int 1,.int 2,.int 3,.int 1] x=some (.int c):=by
 obtain⟨n,rfl⟩:=af4 a
 have h:n<6:=Int.ofNat_lt.mp b
 match n,h with
 |0,_|1,_|2,_|3,_|4,_|5,_=>exact⟨_,by decide,by decide,rfl⟩
theorem rE(k:Nat){j:Nat}(A:At)(hA:TP j A)(hn:A.ns≠ [])(lj:j<=1000)(n:Int):∃p,(wp p=true/\Qq (Tf A) [p]=true)/\F (k+1) .w7 [.int n,av A]=.ok (G3 p):=by
 obtain⟨m0,m1⟩:=dX (n / 13) (by decide:(0:Int)<6)
 obtain⟨c,hc0,hc3,ec⟩:∃c:Int,0<=c/\c<=3/\O_ [PV.int 0,.int 0,.int 1,.int 2,.int 3,.int 1] (n / 13 % 6)=some (.int c):=i6 m0 m1
 have bc:Q8 4611686018427387904 c=true:=eT.mpr ⟨by omega,by omega⟩
 obtain⟨ss,g0,g1,g2⟩:=Df (te:=jv (F k)) (cp:=[some (av A),some (.int n)]) (h:=[]) (fun i:Nat=>PV.int (0+(i:Nat))) (fun s=>sg s=true) (List.range c.toNat) fun i _=>by obtain⟨q0,q1⟩:=dX (n / 97+5 * (0+(i:Nat))) (by decide:(0:Int)<12);obtain⟨l,l1,l2,_⟩:=oX hA.ml hA.m _ q0 q1;exact⟨l,l1,by simp only[EY,jv,l2]⟩
 have l3:((List.range c.toNat).map fun i=>PV.int (0+(i:Nat))).length<16777216:=by rw[ab9,ac9];omega
 have Uj:(0:Int)<(A.ns.length:Nat):=by have:=List.length_pos_iff.mpr hn;omega
 obtain⟨q0,q1⟩:=dX n Uj;have p5:decide ((0:Int)<(A.ns.length:Nat))=true:=decide_eq_true Uj;have hi:(n % (A.ns.length:Nat)).toNat<A.ns.length:=by omega
 have ix:∀h,d7 (nms A.ns) (.int (n % (A.ns.length:Nat))) h=.ok (.str (A.ns.getD (n % (A.ns.length:Nat)).toNat [])) h:=fun h=>by unfold nms;rw[Mu,fU (v:=PV.str (A.ns.getD (n % (A.ns.length:Nat)).toNat [])) q0 (by rw[acJ,acy,acr hi];rfl)];rfl
 refine⟨⟨A.ns.getD (n % (A.ns.length:Nat)).toNat [],ss⟩,⟨?_,?_⟩,?_⟩
 ·rw[wp,ab5];exact⟨aco.mp hA.n _ (iU hi),by rw[ab5];exact⟨aco.mpr g1,decide_eq_true (by show ss.length<=10;rw[g0,ac9];omega)⟩⟩
 ·have:A.ns.contains (A.ns.getD (n % (A.ns.length:Nat)).toNat [])=true:=acL.mpr (iU hi);simp only[Qq,adN,List.all_nil,aem];exact this
 ·have r2:F (k+1) .w7 [.int n,av A]=match jk (F k) [some (.int n),some (av A),none] []with
   |.nx _ _=>.ok .non
   |.rt v h=>gA v h
   |_=>.bad:=rfl
  have cp:∀x,dj [1,0] [some (.int n),some (av A),x]=[some (av A),some (.int n)]:=fun _=>rfl;have aa:∀h,aI (.tup [.str (A.ns.getD (n % (A.ns.length:Nat)).toNat [])]) (.tup (ss.map PV.str)) h=.ok (G3 ⟨A.ns.getD (n % (A.ns.length:Nat)).toNat [],ss⟩) h:=fun h=>fK _ _ h (by rw[ab9,g0,ac9];exact ace (by simp;omega:_<=10) (by decide));have dp:∀h,aq h (PV.tup (ss.map PV.str))=.tup (ss.map PV.str):=fun _=>rfl;rw[r2];simp only[EY,jk,ec,bc,l3,cp,g2,p5,ix,aa,dp];exact cD (eG _)
theorem vp{α β:Type}{te:Ex}{cp:Ev}{m:Int}(f:α->PV)(g:β->PV)(R:β->Prop)(c:Int)(hc:0<=c)(hi:Int):∀(l:List α)(n:Int),0<=n->n+c * l.length<=hi->(∀x∈l,∀n,0<=n->n+c<=hi->∃y n',R y/\n<=n'/\n'<=n+c/\te (some (f x)::cp) [J9 n m]=.ok (g y) [J9 n' m])->
  ∃(ys:List β)(n':Int),ys.length=l.length/\(∀y∈ys,R y)/\n<=n'/\n'<=n+c * l.length/\cY cV te cp (l.map f) [J9 n m]=.ok (ys.map g) [J9 n' m]
 |[],n,_,_,_=>⟨[],n,rfl,by simp,acO _,by simp,rfl⟩
 |x::r,n,h0,hn,hx=>by
  have e:c * ((x::r).length:Int)=c * (r.length:Int)+c:=by rw[acw,aeG,Int.mul_add];simp
  have hr:0<=c * (r.length:Int):=afD hc (by omega);rw[e]at hn;obtain⟨y,n1,y1,y2,y3,y4⟩:=hx x acv n h0 (by omega);obtain⟨ys,n2,z0,z1,z2,z3,z4⟩:=vp f g R c hc hi r n1 (by omega) (by omega) fun z hz=>hx z (acg _ hz);refine⟨y::ys,n2,by simp[z0],fun z hz=>?_,by omega,by rw[e];omega,?_⟩
  ·rcases acn.mp hz with q|q
   ·subst q;exact y1
   ·exact z1 z q
  ·rw[ab7,cY];simp only[cV,Res.Qn,if_true,y4,z4,ab7]
theorem iK(k:Nat)(cs:List Int)(hc:cs.length<=63)(n m:Int)(h0:0<=n)(h1:n<=2000000)(r:List PO):∃v,0<=v/\v<400000000/\w6 (L (k+1) .G4) [cv cs,.ref 0] (J9 n m::r)=.ok (.int v) (J9 (n+1) m::r):=by obtain⟨v,v0,v1,e⟩:=GX k cs hc n m h0 h1;exact⟨v,v0,v1,cS (fn:=L (k+1) .G4) [cv cs] [] (by rw[ar,ku];rfl) rfl rfl (cA _ _) e rfl (cA _ _)⟩
theorem Ct(l:List u9):l.map G3=dG l:=rfl
theorem wz(k:Nat){j:Nat}(cs:List Int)(hc:cs.length<=63)(A:At)(hA:TP j A)(lj:j<=1000)(c:Int)(c0:0<=c)(c4:c<=4)(hn:c=0\/A.ns≠ [])(n m:Int)(h0:0<=n)(h1:n<=1900000):
  ∃ps n',(wps ps=true/\Qq (Tf A) ps=true/\(ps.length:Int)=c)/\n<=n'/\n'<=n+4/\L (k+2) .t_ [cv cs,.ref 0,av A,.int c] [J9 n m]=.ok (.tup (dG ps)) [J9 n' m]:=by
 have bc:Q8 4611686018427387904 c=true:=eT.mpr ⟨by omega,by omega⟩;have l3:((List.range c.toNat).map fun i=>PV.int (0+(i:Nat))).length<16777216:=by rw[ab9,ac9];omega
 obtain⟨ps,n',g0,g1,g2,g3,g4⟩:=vp (te:=iX (F (k+1)) (L (k+1))) (cp:=[some (av A),some (cv cs),some (.ref 0)]) (m:=m) (fun i:Nat=>PV.int (0+(i:Nat))) G3 (fun p=>wp p=true/\Qq (Tf A) [p]=true) 1 (by decide) 2000000 (List.range c.toNat) n h0 (by rw[ac9];omega) fun i hi n h0 h1=>by
  obtain⟨v,_,_,e⟩:=iK k cs hc n m h0 (by omega) []
  have cn:A.ns≠ []:=by
   rcases hn with q|q
   ·subst q;simp at hi
   ·exact q
  obtain⟨p,p1,p2⟩:=rE k A hA cn lj v;have cp:∀h,bO (F (k+1) .w7) [.int v,av A] h=.ok (G3 p) h:=fun h=>bp h (by simp[ar,PV.pure,iI]) p2;have d0:aq [J9 n m] (.ref 0)=.ref 0:=rfl;exact⟨p,n+1,p1,by omega,by omega,by simp only[EY,iX,d0,e,cp]⟩
 rw[ac9]at g0 g3;refine⟨ps,n',⟨?_,aco.mpr fun p hp=>by have:=(g1 p hp).2;simpa[Qq]using this,by omega⟩,g2,by omega,?_⟩
 ·rw[wps,ab5];exact⟨aco.mpr fun p hp=>(g1 p hp).1,decide_eq_true (by omega)⟩
 ·have r2:L (k+2) .t_ [cv cs,.ref 0,av A,.int c] [J9 n m]=match iG (F (k+1)) (L (k+1)) [some (cv cs),some (.ref 0),some (av A),some (.int c)] [J9 n m]with|.nx _ h1=>gB 1 .non h1|.rt v h1=>eO 1 v h1|_=>.bad:=rfl
  have cp:dj [2,0,1] [some (cv cs),some (.ref 0),some (av A),some (.int c)]=[some (av A),some (cv cs),some (.ref 0)]:=rfl;rw[r2];simp only[EY,iG,bc,l3,cp,g4,Ct];exact xg (by rw[PV.pure];exact aT ps) (cA _ _)
theorem tq(k:Nat)(A:At)(xs:List (List Nat))(hl:A.ns.length+xs.length<=100000):F (k+1) .G9 [av A,nms xs]=.ok (av { A with ns:=A.ns++xs }):=by
 have r2:F (k+1) .G9 [av A,nms xs]=match kA (F k) [some (av A),some (nms xs),none] []with
   |.nx _ _=>.ok .non
   |.rt v h=>gA v h
   |_=>.bad:=rfl
 have an:=ED A.ns xs [PO.dct [(.inr kN,nms A.ns),(.inr kP,.lst (A.ps.map M8)),(.inr kH,H7 A.h),(.inr kM,Ob A.ms)]] hl;have dm:iQ [av A] []=.ok (.ref 0) [.dct [(.inr kN,nms A.ns),(.inr kP,.lst (A.ps.map M8)),(.inr kH,H7 A.h),(.inr kM,Ob A.ms)]]:=rfl;rw[r2];have z4:(4<16777216)=True:=by decide
 have fz:TJ (.ref 0) [.dct (dP [(.inr kN,nms A.ns),(.inr kP,.lst (A.ps.map M8)),(.inr kH,H7 A.h),(.inr kM,Ob A.ms)] (.inr kN) (nms (A.ns++xs)))]=.ok (av { A with ns:=A.ns++xs }) [.J8 (av { A with ns:=A.ns++xs })]:=by
  have e:dP [(.inr kN,nms A.ns),(.inr kP,.lst (A.ps.map M8)),(.inr kH,H7 A.h),(.inr kM,Ob A.ms)] (.inr kN) (nms (A.ns++xs))=[(.inr kN,nms (A.ns++xs)),(.inr kP,.lst (A.ps.map M8)),(.inr kH,H7 A.h),(.inr kM,Ob A.ms)]:=rfl;rw[e];have pp:aW [((Sum.inr kN:Int ⊕ List Nat),nms (A.ns++xs)),(.inr kP,.lst (A.ps.map M8)),(.inr kH,H7 A.h),(.inr kM,Ob A.ms)]=true:=by simp[aW,PV.pure,cC,mh,nT,nU]
  show(match(if aW _=true then some (PV.dct _,[PO.J8 (PV.dct _)])else none)with|some (q,h2)=>Res.ok q h2|none=>.bad)=_;rw[if_pos pp];rfl
 simp only[EY,kA,dm,an,z4,fz];exact cD (iI _)
theorem FN{P:List Pe}{p:Pe}(h:(P.map (·.n)).Nodup)(hp:p∈P):Tc P p.n=some p:=by
 unfold Tc
 induction P with
 |nil=>cases hp
 |cons q r ih=>
  rw[ab7,adp]at h;rcases acn.mp hp with z|z
  ·subst z;rw[adz (by simp)]
  ·rw[acT,ih h.2 z];intro e;rw[aec e]at h;exact h.1 (acK.mpr ⟨p,z,rfl⟩)
theorem Kz{l:List (List Nat)}(h:l.Nodup){a b:Option Int}:(cut l a b).Nodup:=by unfold cut;exact List.Sublist.nodup ((afO _ _).trans (List.drop_sublist _ _)) h
theorem KA{l:List (List Nat)}(hl:l.length=12){a b:Int}(a0:0<=a)(a1:a<9)(b0:0<=b)(b1:b<=3):(cut l (some a) (some (a+b))).length=b.toNat:=by obtain⟨a,rfl⟩:=af4 a0;obtain⟨b,rfl⟩:=af4 b0;unfold cut;rw[show((a:Int)+(b:Int))=((a+b:Nat):Int) by omega,HT.QL,HT.QL,aeu,aev,hl,afk (by clear hl;omega),afk (by clear hl;omega),afk (by clear hl;omega),Nat.add_sub_cancel_left];rfl
noncomputable def G8:List Nd->j7
 |[]=>.nil
 |n::r=>.cons n (G8 r)
theorem eR:∀l:List Nd,d8 (G8 l)=l.map nd
 |[]=>by rw[G8,d8];rfl
 |n::r=>by rw[G8,d8,eR r];rfl
theorem ky:∀l:List Nd,p7 (G8 l)=Rt l
 |[]=>by rw[G8,p7];rfl
 |n::r=>by rw[G8,p7,ky r];unfold Rt;rw[ab7,acZ]
theorem Rw.d8{kn:Cx}{d c t:Nat}:∀{l:List Nd},Rw kn d c t l->wS (G8 l)=true/\u_ kn (G8 l)=true/\dS (G8 l)<=d
 |[],_=>⟨rfl,rfl,acu _⟩
 |n::r,h=>by
  have e1:Rt (n::r)=K_ n+1+Rt r:=by unfold Rt;rw[ab7,acZ]
  have e2:Od (n::r)=Q6 n+Od r:=by unfold Od;rw[ab7,acZ]
  have hc:=h.c;have ht:=h.t;obtain⟨a,b,e⟩:=Rw.d8 (kn:=kn) (d:=d) (c:=c) (t:=t) (l:=r) ⟨fun z hz=>h.w z (acg _ hz),by omega,by omega⟩;obtain⟨w1,w2,w3⟩:=h.w n acv;rw[G8,wS,u_,dS,w1,w2,a,b];exact⟨rfl,rfl,afw.mpr ⟨w3,e⟩⟩
noncomputable def gg:Nat->Nat
 |0=>3
 |d+1=>3 * (1+2 * gg d)
def gn:Nat->Nat
 |0=>1
 |d+1=>1+2 * gg d
noncomputable def cg:Nat->Nat
 |0=>19
 |d+1=>1+3 * (6+2 * cg d)
def cn:Nat->Nat
 |0=>6
 |d+1=>6+2 * cg d
theorem MP(d:Nat):gg d=3 * gn d:=by cases d<;>rfl
theorem HG(d:Nat):cg d=1+3 * cn d:=by cases d<;>rfl
structure NR(kn:Cx)(D:Nat)(x:Nd):Prop where
 w:wN x=true
 u:okN kn x=true
 d:dN x<=D
 c:K_ x+1<=gn D
 t:Q6 x<=4
theorem rX:∀d:Nat,1<=gn d
 |0=>ab8 _
 |d+1=>acQ _ _
def mC(d:Nat):Prop:=∀(K:Nat)(cs:List Int)(A:At)(j:Nat)(n m:Int),3 * d+6<=K->cs.length<=63->TP j A->j+12 * d<=100->0<=n->n+cg d<=1900000->
 ∃l n',Rw (Tf A) d (gg d) 12 l/\n<=n'/\n'<=n+cg d/\L K .q_ [cv cs,.ref 0,av A,.int d] [J9 n m]=.ok (.tup (l.map nd)) [J9 n' m]
theorem gP{d:Nat}(ok:mC d)(K:Nat)(cs:List Int)(A:At)(j:Nat)(n m:Int)(hK:3 * d+6<=K)(hc:cs.length<=63)(hA:TP j A)(hj:j+12 * d<=100)(h0:0<=n)(h1:n+cg d<=1900000)(r:List PO):
  ∃l n',Rw (Tf A) d (gg d) 12 l/\n<=n'/\n'<=n+cg d/\w6 (L K .q_) [cv cs,.ref 0,av A,.int d] (J9 n m::r)=.ok (.tup (l.map nd)) (J9 n' m::r):=by
 obtain⟨l,n',a,b,c,e⟩:=ok K cs A j n m hK hc hA hj h0 h1;exact⟨l,n',a,b,c,cS (fn:=L K .q_) [cv cs] [av A,.int d] (by rw[ar,ku];rfl) (by simp[ar,iI,PV.pure]) rfl (cA _ _) e (by rw[PV.pure];exact bu l) (cA _ _)⟩
theorem FC{l:List PV}(hl:fds 59 l)(h:List PO):QC (.tup l) (.tup []) h=.ok (.bl (!l.isEmpty)) h:=by
 have ok:O9 h (.tup l)=true:=by unfold O9 O8;have:=hl.2.1;simp only[toD,PyData.canLay0,PyData.depth,hl.1,ac6,decide_eq_true_eq];omega
 unfold QC;rw[if_pos ⟨ok,rfl⟩]
 cases l<;>rfl
theorem zU{l:List PV}(hl:fds 59 l)(h:List PO):J5 (.tup l) (.tup []) h=.ok (.bl l.isEmpty) h:=by
 have ok:O9 h (.tup l)=true:=by unfold O9 O8;have:=hl.2.1;simp only[toD,PyData.canLay0,PyData.depth,hl.1,ac6,decide_eq_true_eq];omega
 unfold J5;rw[if_pos ⟨ok,rfl⟩]
 cases l<;>rfl
theorem CX{l:List (List Nat)}(hs:N5 l=true)(h:List PO):QC (nms l) (.tup []) h=.ok (.bl (!l.isEmpty)) h:=by unfold nms;rw[FC (iW hs),ahd]
theorem zv{l:List (List Nat)}(hs:N5 l=true)(h:List PO):J5 (nms l) (.tup []) h=.ok (.bl l.isEmpty) h:=by unfold nms;rw[zU (iW hs),ahd]
theorem TP.more{j:Nat}{A:At}(h:TP j A)(xs:List (List Nat))(hs:N5 xs=true)(hl:xs.length<=12):TP (j+12) { A with ns:=A.ns++xs }:=
 ⟨uB h.n hs,by show(A.ns++xs).length<=_;rw[acs];have:=h.l;omega,h.pl,h.p,h.h,h.ml,h.m,h.mn,h.pn⟩
theorem rC(K:Nat){j:Nat}(cs:List Int)(hc:cs.length<=63)(A:At)(hA:TP j A)(lj:j<=1000)(c:Int)(c0:0<=c)(c4:c<=4)(hn:c=0\/A.ns≠ [])(n m:Int)(h0:0<=n)(h1:n<=1900000):
  ∃ps n',(wps ps=true/\Qq (Tf A) ps=true/\(ps.length:Int)=c)/\n<=n'/\n'<=n+4/\w6 (L (K+2) .t_) [cv cs,.ref 0,av A,.int c] [J9 n m]=.ok (.tup (dG ps)) [J9 n' m]:=by
 obtain⟨ps,n',a,b,c',e⟩:=wz K cs hc A hA lj c c0 c4 hn n m h0 h1;exact⟨ps,n',a,b,c',cS (fn:=L (K+2) .t_) [cv cs] [av A,.int c] (by rw[ar,ku];rfl) (by simp[ar,iI,PV.pure]) rfl (cA _ _) e (by rw[PV.pure];exact aT ps) (cA _ _)⟩
theorem DY{l:List Pe}(h:∀p∈l,sg p.n=true):fds 59 (l.map M8):=by
 induction l with
 |nil=>exact dg _
 |cons a r ih=>
  refine aG (bJ (cJ (d:=1) (aG (cU (h a acv)) (aG (DZ _ _) (aG ?_ (dg _))))) (by decide)) (ih fun p hp=>h p (acg _ hp))
  cases a.h with
  |none=>exact yr _
  |some i=>exact DZ _ i
theorem xD(d:Nat)(ok:mC d)(K:Nat)(cs:List Int)(A:At)(j:Nat)(n m more:Int)(hK:3 * d+6<=K)(hc:cs.length<=63)(hA:TP j A)(hj:j+12 * (d+1)<=100)(h0:0<=n)(h1:n+4+cg d<=1900000)(lp:A.ps.length<=1000):
  ∃x n',NR (Tf A) (d+1) x/\n<=n'/\n'<=n+4+cg d/\L (K+1) .H9 [cv cs,.ref 0,av A,.int ((d+1:Nat):Int),.int more] [J9 n m]=.ok (nd x) [J9 n' m]:=by
 have r2:∀x,fZ (F K) (L K) [some (cv cs),some (.ref 0),some (av A),some (.int ((d+1:Nat):Int)),some (.int more),none,none,none,none,none,none,none] [J9 n m]=x->L (K+1) .H9 [cv cs,.ref 0,av A,.int ((d+1:Nat):Int),.int more] [J9 n m]=match x with|.nx _ h1=>gB 1 .non h1|.rt v h1=>eO 1 v h1|_=>.bad:=fun x e=>by subst e;rfl
 have lq:(A.ps.map M8).length<16777216:=by rw[ab9];omega
 have cm:∀ ρ h,dj [2] ρ=[some (av A)]->cY (gV (F K)) (gY (F K)) (dj [2] ρ) (A.ps.map M8) h=.ok ((A.ps.filter fun p=>decide ((p.m:Int)=0)||!A.ns.isEmpty).map M8) h:=fun ρ h hc=>by
  rw[hc];refine pE M8 (fun p=>decide ((p.m:Int)=0)||!A.ns.isEmpty) M8 A.ps (fun p hp=>?_) fun p hp=>?_
  ·have i1:d7 (M8 p) (.int 1) h=.ok (.int p.m) h:=rfl;have dp:aq h (M8 p)=M8 p:=rfl;have nn:=CX hA.n h
   cases e:decide ((p.m:Int)=0)<;>simp only[EY,gV,dp,i1,e,nn]
  ·have dp:aq h (M8 p)=M8 p:=rfl;simp only[EY,gY,dp]
 have hf:∀p∈A.ps.filter (fun p=>decide ((p.m:Int)=0)||!A.ns.isEmpty),p∈A.ps/\((p.m:Int)=0\/A.ns≠ []):=fun p hp=>by
  obtain⟨a,b⟩:=afl.mp hp;refine⟨a,?_⟩;rw[ac4,decide_eq_true_eq]at b;rcases b with b|b
  ·exact .inl b
  ·exact .inr (by intro z;rw[z]at b;cases b)
 have en:∀h,J5 (.lst ((A.ps.filter fun p=>decide ((p.m:Int)=0)||!A.ns.isEmpty).map M8)) (.lst []) h=.ok (.bl ((A.ps.filter fun p=>decide ((p.m:Int)=0)||!A.ns.isEmpty).map M8).isEmpty) h:=fun h=>GM (DY fun p hp=>(hA.p p (hf p hp).1).1) h;generalize A.ps.filter (fun p=>decide ((p.m:Int)=0)||!A.ns.isEmpty)=fl at cm hf en;have Uk:∀(x:Option PV) h,cY (gV (F K)) (gY (F K)) (dj [2] [some (cv cs),some (.ref 0),some (av A),some (.int ((d+1:Nat):Int)),some (.int more),none,none,none,none,none,none,none]) (A.ps.map M8) h=.ok (fl.map M8) h:=fun _ h=>cm _ h rfl;have d0:∀(n:Int),aq [J9 n m] (.ref 0)=.ref 0:=fun n=>rfl;have cg1:=HG d
 cases fl with
 |nil=>simp only[acM,List.isEmpty_nil]at Uk en;refine⟨.text [110,111,110,101],n,⟨by rw[wN];rfl,rfl,acu _,rX _,by show 4<=4;omega⟩,by omega,by omega,?_⟩;rw[r2 _ rfl];simp only[EY,fZ,lq,Uk none,en];rw[nd];exact xg rfl (cA _ _)
 |cons p0 r0=>
  have Uj:(0:Int)<((p0::r0).length:Nat):=by rw[acw];omega
  obtain⟨q0,q1⟩:=dX more Uj;have hi:(more % ((p0::r0).length:Nat)).toNat<(p0::r0).length:=by omega
  obtain⟨p,hp,ip⟩:∃p∈p0::r0,∀h,d7 (.lst ((p0::r0).map M8)) (.int (more % ((p0::r0).length:Nat))) h=.ok (M8 p) h:=by refine⟨(p0::r0)[(more % ((p0::r0).length:Nat)).toNat],ae6 hi,fun h=>?_⟩;rw[zG,fU (v:=M8 ((p0::r0)[(more % ((p0::r0).length:Nat)).toNat])) q0 (by rw[acJ,acr hi];rfl)];rfl
  obtain⟨hm,hz⟩:=hf p hp;obtain⟨p1,p2,p3⟩:=hA.p p hm;have hl:∀h,gh [.lst ((p0::r0).map M8)] h=.ok (.int ((p0::r0).length:Nat)) h:=fun h=>by rw[Ht,ab9]
  have pz:decide ((0:Int)<((p0::r0).length:Nat))=true:=decide_eq_true Uj;have e0:((p0::r0).map M8).isEmpty=false:=rfl;rw[e0]at en;generalize(p0::r0).map M8=fv at Uk en ip hl;generalize(((p0::r0).length:Nat):Int)=fn at ip hl pz;obtain⟨K',rfl⟩:∃K',K=K'+2:=⟨K - 2,by omega⟩
  obtain⟨ps,n1,⟨w1,YL,w1l⟩,w2,w3,w4⟩:=rC K' cs hc A hA (by omega) p.m (by omega) (by omega) hz n m h0 (by omega);have kn:Tc A.ps p.n=some p:=FN hA.pn hm;have kl:p.m=ps.length:=by omega
  have dp:∀h,aq h (PV.tup (dG ps))=.tup (dG ps):=fun _=>rfl
  cases hh:p.h with
  |none=>refine⟨.use p.n ps,n1,⟨by rw[wN,p1,w1];rfl,by rw[okN,YL,QH];show(true&&match Tc A.ps p.n with|none=>false|some p=>decide (p.m=ps.length)&&decide (p.h=none))=true;rw[kn];simp[kl,hh],acu _,rX _,acu _⟩,w2,by omega,?_⟩;rw[r2 _ rfl];simp only[EY,fZ,lq,Uk none,en,hl,pz,ip];simp only[EY,M8,hh,H7,d0,w4,dp];rw[nd];exact xg (by simp[PV.pure,ar,aT]) (cA _ _)
  |some i=>
   let xs:=cut A.ms (some (more / 8 % 9)) (some (more / 8 % 9+i));have sx:N5 xs=true:=uA hA.m fun x hx=>ou hx;have lx:xs.length<=12:=by have:=kx A.ms (some (more / 8 % 9)) (some (more / 8 % 9+i));rw[hA.ml]at this;exact this
   obtain⟨l,n2,g1,g2,g3,g4⟩:=gP ok (K'+2) cs { A with ns:=A.ns++xs } (j+12) n1 m hK hc (hA.more xs sx lx) (by omega) (by omega) (by omega) [];obtain⟨e1,e2,e3⟩:=g1.d8
   have xl:xs.length=i.toNat:=by have f0:=dX (more / 8) (by decide:(0:Int)<9);have hi:=p3;rw[hh]at hi;have:=hi.1;have:=hi.2;exact KA hA.ml (by omega) (by omega) (by omega) (by omega)
   have xd:dup xs=false:=(yu xs).mpr (Kz hA.mn);have i0:(xs.length:Int)=i:=by have hi:=p3;rw[hh]at hi;have:=hi.1;omega
   have sl:∀h,jq (Ob A.ms) (some (more / 8 % 9)) (some (more / 8 % 9+i)) h=.ok (Ob xs) h:=fun h=>by unfold Ob;rw[Hn,vt]
   have tp:∀h,df [Ob xs] h=.ok (nms xs) h:=fun h=>rfl;have wi:∀h,bO (F (K'+2) .G9) [av A,nms xs] h=.ok (av { A with ns:=A.ns++xs }) h:=fun h=>bp h (by simp[ar,iI,cC]) (tq (K'+1) A xs (by have:=hA.l;omega));have dd:((d+1:Nat):Int) - 1=(d:Int):=by omega
   refine⟨.j8 p.n ps xs (G8 l),n2,⟨by rw[wN,p1,w1,sx,decide_eq_true (show xs.length<60 by omega),e1];rfl,by rw[okN,YL,QH];show(true&&((match Tc A.ps p.n with|none=>false|some p=>decide (p.m=ps.length)&&decide (p.h=some (xs.length:Int)))&&_))=true;rw[kn,xd];simp[kl,hh,i0];exact e2,by rw[dN];omega,?_,acu _⟩,by omega,by omega,?_⟩
   ·rw[K_,ky];have:=g1.c;show Rt l+1<=1+2 * gg d;omega
   ·rw[r2 _ rfl];simp only[EY,fZ,lq,Uk none,en,hl,pz,ip];simp only[EY,M8,hh,H7,d0,w4,dp,sl,tp,wi,dd,g4];rw[nd,eR];exact xg (by simp[PV.pure,ar,aT,cC,bu]) (cA _ _)
theorem ye(d:Nat)(ok:∀e,e+1=d->mC e)(K:Nat)(cs:List Int)(A:At)(j:Nat)(n m:Int)(hK:3 * d+4<=K)(hc:cs.length<=63)(hA:TP j A)(hj:j+12 * d<=100)(h0:0<=n)(h1:n+cn d<=1900000):
  ∃x n',NR (Tf A) d x/\n<=n'/\n'<=n+cn d/\L (K+1) .H_ [cv cs,.ref 0,av A,.int d] [J9 n m]=.ok (nd x) [J9 n' m]:=by
 obtain⟨K',rfl⟩:∃K',K=K'+2:=⟨K - 2,by omega⟩
 have cn6:6<=cn d:=by cases d with
  |zero=>exact ab8 _
  |succ d=>exact acQ _ _
 obtain⟨v,v0,v1,ce⟩:=iK (K'+1) cs hc n m h0 (by omega) [];have d0:∀(n:Int),aq [J9 n m] (.ref 0)=.ref 0:=fun n=>rfl;have i0:∀(n:Int),d7 (.ref 0) (.int 0) [J9 n m]=.ok (.int n) [J9 n m]:=fun n=>rfl;have i1:∀(n:Int),d7 (.ref 0) (.int 1) [J9 n m]=.ok (.int m) [J9 n m]:=fun n=>rfl
 have s4:aJ 4 (c2 gI (aR ((L (K'+2)) .G4) aaQ) aae) [some (cv cs),some (.ref 0),some (av A),some (.int d),none,none,none,none,none,none,none] [J9 n m]=.nx [some (cv cs),some (.ref 0),some (av A),some (.int d),some (.int (v / 3)),none,none,none,none,none,none] [J9 (n+1) m]:=by simp only[EY,d0,ce]
 have s5:aJ 5 (c2 eF (ai 4) abn) [some (cv cs),some (.ref 0),some (av A),some (.int d),some (.int (v / 3)),none,none,none,none,none,none] [J9 (n+1) m]=.nx [some (cv cs),some (.ref 0),some (av A),some (.int d),some (.int (v / 3)),some (.int (v / 3 % 9)),none,none,none,none,none] [J9 (n+1) m]:=by simp only[EY,if_true]
 have s6:aJ 6 (c2 gI (ai 4) abn) [some (cv cs),some (.ref 0),some (av A),some (.int d),some (.int (v / 3)),some (.int (v / 3 % 9)),none,none,none,none,none] [J9 (n+1) m]=.nx [some (cv cs),some (.ref 0),some (av A),some (.int d),some (.int (v / 3)),some (.int (v / 3 % 9)),some (.int (v / 3 / 9)),none,none,none,none] [J9 (n+1) m]:=by simp only[EY,if_true]
 obtain⟨κ,k0,k1,k2,s7⟩:∃ κ:Int,0<=κ/\κ<=8/\(d=0->κ<3)/\K3 abk abU cF [some (cv cs),some (.ref 0),some (av A),some (.int d),some (.int (v / 3)),some (.int (v / 3 % 9)),some (.int (v / 3 / 9)),none,none,none,none] [J9 (n+1) m]=.nx [some (cv cs),some (.ref 0),some (av A),some (.int d),some (.int (v / 3)),some (.int κ),some (.int (v / 3 / 9)),none,none,none,none] [J9 (n+1) m]:=by
  have a1:=dX (v / 3) (by decide:(0:Int)<9);have a2:=dX (v / 3 % 9) (by decide:(0:Int)<3)
  cases c1:decide (n+1>m)with
  |true=>exact⟨v / 3 % 9 % 3,by omega,by omega,fun _=>by omega,by simp only[EY,d0,i0,i1,c1]⟩
  |false=>
   cases c2:decide ((d:Int)<1)with
   |true=>exact⟨v / 3 % 9 % 3,by omega,by omega,fun _=>by omega,by simp only[EY,d0,i0,i1,c1,c2]⟩
   |false=>have:=of_decide_eq_false c2;exact⟨v / 3 % 9,by omega,by omega,fun z=>by omega,by simp only[EY,d0,i0,i1,c1,c2]⟩
 have fin:∀(x:Nd)(n':Int),eO 1 (nd x) [J9 n' m]=.ok (nd x) [J9 n' m]:=fun x n'=>xg (ch x) (cA _ _);have r2:∀T,ig (F (K'+2)) (L (K'+2)) [some (cv cs),some (.ref 0),some (av A),some (.int d),none,none,none,none,none,none,none] [J9 n m]=T->L (K'+2+1) .H_ [cv cs,.ref 0,av A,.int d] [J9 n m]=match T with|.nx _ h1=>gB 1 .non h1|.rt v h1=>eO 1 v h1|_=>.bad:=fun T e=>by subst e;rfl
 suffices S:∃x n',NR (Tf A) d x/\n<=n'/\n'<=n+cn d/\ig (F (K'+2)) (L (K'+2)) [some (cv cs),some (.ref 0),some (av A),some (.int d),none,none,none,none,none,none,none] [J9 n m]=.rt (nd x) [J9 n' m] by obtain⟨x,n',a,b,c,e⟩:=S;exact⟨x,n',a,b,c,by rw[r2 _ e];exact fin x n'⟩
 unfold ig;rw[dQ,s4];dsimp only;rw[dQ,s5];dsimp only;rw[dQ,s6];dsimp only;rw[dQ,s7];dsimp only;have nn:=CX hA.n;have ne:=zv hA.n
 have Xf:∀(l:List (List Nat))(i:Int),N5 l=true->0<=i->i<l.length->∃s∈l,sg s=true/\O_ (l.map PV.str) i=some (.str s):=fun l i hs h0 h1=>by
  have hi:i.toNat<l.length:=by omega
  exact⟨l[i.toNat],ae6 hi,aco.mp hs _ (ae6 hi),fU h0 (by rw[acJ,acr hi];rfl)⟩
 have t6:=dX (v / 3 / 9) (by decide:(0:Int)<6);obtain⟨s,sm,_,st⟩:=Xf [[97],[123],[10],[60,98,62],[125,125],[32,126]] (v / 3 / 9 % 6) (by decide) t6.1 t6.2;simp only[ab7,acM]at st
 have sl:sg s=true/\s.length<=4:=by
  have:∀x∈([[97],[123],[10],[60,98,62],[125,125],[32,126]]:List (List Nat)),sg x=true/\x.length<=4:=by decide
  exact this s sm
 have txt:NR (Tf A) d (.text s):=⟨by rw[wN,ab5];exact⟨sl.1,decide_eq_true (by omega)⟩,rfl,acu _,rX _,sl.2⟩
 have Wy:nd (.text s)=.tup [.str tT,.str s]:=by rw[nd]
 by_cases c1:κ>5/\κ<8
 ·have b1:decide (κ>5)=true:=decide_eq_true c1.1;have b2:decide (κ<8)=true:=decide_eq_true c1.2;obtain⟨e,rfl⟩:∃e,d=e+1:=⟨d - 1,by have:=k2;omega⟩
  have ec:cn (e+1)=6+2 * cg e:=rfl;obtain⟨x,n',a,b,c,u⟩:=xD e (ok e rfl) (K'+1) cs A j (n+1) m (v / 3 / 9) (by omega) hc hA (by omega) (by omega) (by omega) hA.pl;have cu:=cS (fn:=L (K'+1+1) .H9) [cv cs] [av A,.int ((e+1:Nat):Int),.int (v / 3 / 9)] (h:=[J9 (n+1) m]) (i:=0) (by rw[ar,ku];rfl) (by simp[ar,iI,PV.pure]) rfl (cA _ _) u (ch x) (cA _ _);simp only[acB,acC,adL]at cu;exact⟨x,n',a,by omega,by omega,by simp only[EY,b1,b2,d0,cu]⟩
 by_cases c8:κ=8
 ·have b1:decide (κ>5)=true:=decide_eq_true (by omega);have b2:decide (κ<8)=false:=decide_eq_false (by omega);have b8:decide (κ=8)=true:=decide_eq_true c8;have b0:decide (κ=0)=false:=decide_eq_false (by omega)
  cases hh:A.h with
  |none=>refine⟨.text s,n+1,txt,by omega,by omega,?_⟩;simp only[EY,b1,b2,b8,b0,hh,H7,st,Wy]
  |some i=>
   have ho:=hA.h;rw[hh]at ho
   by_cases ci:i=0\/A.ns≠ []
   ·obtain⟨ps,n',⟨a,ao,al⟩,b,c,e⟩:=rC K' cs hc A hA (by omega) i ho.1 (by have:=ho.2;omega) ci (n+1) m (by omega) (by omega);refine⟨.body ps,n',⟨by rw[wN];exact a,by rw[okN,ao];show(true&&decide (A.h=some (ps.length:Int)))=true;rw[hh,al];simp,acu _,rX _,acu _⟩,by omega,by omega,?_⟩;have nb:nd (.body ps)=.tup [.str tB,.tup (dG ps)]:=by rw[nd]
    have hs:(decide (i=0)||!A.ns.isEmpty)=true:=by
     rcases ci with z|z
     ·simp[z]
     ·rw[show A.ns.isEmpty=false by cases h:A.ns<;>simp_all];simp
    cases z0:decide (i=0)with
    |true=>simp only[EY,b1,b2,b8,hh,H7,z0,d0,e,nb]
    |false=>rw[z0,aea]at hs;simp only[EY,b1,b2,b8,hh,H7,z0,nn,hs,d0,e,nb]
   ·have hz0:decide (i=0)=false:=decide_eq_false fun z=>ci (.inl z)
    have hs:(!A.ns.isEmpty)=false:=by
     cases h:A.ns with
     |nil=>rfl
     |cons a r=>exact(ci (.inr (by rw[h];simp))).elim
    refine⟨.text s,n+1,txt,by omega,by omega,?_⟩;simp only[EY,b1,b2,b8,b0,hh,H7,hz0,nn,hs,st,Wy]
 have b8:decide (κ=8)=false:=decide_eq_false c8;have b5:decide (κ>5)=false:=decide_eq_false fun z=>c1 ⟨z,by omega⟩
 by_cases c0:κ=0
 ·have b0:decide (κ=0)=true:=decide_eq_true c0;refine⟨.text s,n+1,txt,by omega,by omega,?_⟩;simp only[EY,b5,b8,b0,st,Wy]
 have b0:decide (κ=0)=false:=decide_eq_false c0
 by_cases Z6:A.ns= []
 ·have hs:A.ns.isEmpty=true:=by rw[Z6];rfl
  refine⟨.text s,n+1,txt,by omega,by omega,?_⟩;simp only[EY,b5,b8,b0,ne,hs,st,Wy]
 have hs:A.ns.isEmpty=false:=by cases h:A.ns<;>simp_all
 obtain⟨v',_,_,Wk⟩:=iK (K'+1) cs hc (n+1) m (by omega) (by omega) [];obtain⟨p,⟨Xb,Xc⟩,pe⟩:=rE (K'+1) A hA Z6 (by omega) v';have cp:∀h,bO (F (K'+2) .w7) [.int v',av A] h=.ok (G3 p) h:=fun h=>bp h (by simp[ar,PV.pure,iI]) pe
 by_cases c3:κ<3
 ·have b3:decide (κ<3)=true:=decide_eq_true c3;have t5:=dX (v / 3 / 9) (by decide:(0:Int)<5);obtain⟨w,_,wm,wt⟩:=Xf [[119,111,114,100],[110,117,109,98,101,114],[113,117,111,116,101,100],[112,108,97,105,110],[108,105,110,101]] (v / 3 / 9 % 5) (by decide) t5.1 t5.2;simp only[ab7,acM]at wt;refine⟨.place p w,n+1+1,⟨by rw[wN,Xb,wm];rfl,by rw[okN];exact Xc,acu _,rX _,acu _⟩,by omega,by omega,?_⟩;have np:nd (.place p w)=.tup [.str tP,G3 p,.str w]:=by rw[nd]
  simp only[EY,b5,b8,b0,ne,hs,d0,Wk,cp,b3,wt,np]
 have b3:decide (κ<3)=false:=decide_eq_false c3;obtain⟨e,rfl⟩:∃e,d=e+1:=⟨d - 1,by have:=k2;omega⟩
 have ec:cn (e+1)=6+2 * cg e:=rfl;have gc:gn (e+1)=1+2 * gg e:=rfl;have dd:((e+1:Nat):Int) - 1=(e:Int):=by omega
 by_cases c5:κ<5
 ·have Yu:decide (κ<5)=true:=decide_eq_true c5;have VD:=dX (v / 3 / 9) (by decide:(0:Int)<12);obtain⟨x,xs,xi,_⟩:=oX hA.ml hA.m _ VD.1 VD.2;have t3:=dX (v / 3 / 9 / 12) (by decide:(0:Int)<3);obtain⟨w,_,wm,wt⟩:=Xf [[],[44,32],[10]] (v / 3 / 9 / 12 % 3) (by decide) t3.1 t3.2;simp only[ab7,acM]at wt;obtain⟨l,n',g1,g2,g3,g4⟩:=gP (ok e rfl) (K'+2) cs { A with ns:=A.ns++ [x] } (j+12) (n+1+1) m (by omega) hc (hA.more [x] (by simp[N5,xs]) (by simp)) (by omega) (by omega) (by omega) [];obtain⟨e1,e2,e3⟩:=g1.d8;have wi:∀h,bO (F (K'+2) .G9) [av A,.tup [.str x]] h=.ok (av { A with ns:=A.ns++ [x] }) h:=fun h=>bp h (by simp[ar,iI,PV.pure]) (tq (K'+1) A [x] (by have:=hA.l;simp;omega));refine⟨.loop x p (G8 l) w,n',⟨by rw[wN,xs,Xb,e1,wm];rfl,by rw[okN,Xc];exact e2,by rw[dN];omega,by rw[K_,ky,gc];have:=g1.c;omega,acu _⟩,by omega,by omega,?_⟩;have np:nd (.loop x p (G8 l) w)=.tup [.str tL,.str x,G3 p,.tup (l.map nd),.str w]:=by rw[nd,eR]
  simp only[EY,b5,b8,b0,ne,hs,d0,Wk,cp,b3,Yu,xi,wi,dd,g4,wt,np]
 have Yu:decide (κ<5)=false:=decide_eq_false c5;obtain⟨y,n2,g1,g2,g3,g4⟩:=gP (ok e rfl) (K'+2) cs A j (n+1+1) m (by omega) hc hA (by omega) (by omega) (by omega) [];obtain⟨z,n3,f1,f2,f3,f4⟩:=gP (ok e rfl) (K'+2) cs A j n2 m (by omega) hc hA (by omega) (by omega) (by omega) [];obtain⟨e1,e2,e3⟩:=g1.d8;obtain⟨u1,u2,u3⟩:=f1.d8;refine⟨.choice p (G8 y) (G8 z),n3,⟨by rw[wN,Xb,e1,u1];rfl,by rw[okN,Xc,e2,u2];rfl,by rw[dN];omega,by rw[K_,ky,ky,gc];have:=g1.c;have:=f1.c;omega,acu _⟩,by omega,by omega,?_⟩;have np:nd (.choice p (G8 y) (G8 z))=.tup [.str tC,G3 p,.tup (y.map nd),.tup (z.map nd)]:=by rw[nd,eR,eR]
 simp only[EY,b5,b8,b0,ne,hs,d0,Wk,cp,b3,Yu,dd,g4,f4,np]
theorem Rw.of{kn:Cx}{d:Nat}:∀{l:List Nd},(∀x∈l,NR kn d x)->Rw kn d (gn d * l.length) (4 * l.length) l
 |[],_=>⟨fun x hx=>(by cases hx),by simp[Rt],by simp[Od]⟩
 |n::r,h=>by
  have ih:=Rw.of fun x hx=>h x (acg _ hx);have hn:=h n acv;have e1:Rt (n::r)=K_ n+1+Rt r:=by unfold Rt;rw[ab7,acZ]
  have e2:Od (n::r)=Q6 n+Od r:=by unfold Od;rw[ab7,acZ]
  refine⟨fun x hx=>?_,?_,?_⟩
  ·rcases acn.mp hx with q|q
   ·subst q;exact⟨hn.w,hn.u,hn.d⟩
   ·exact ih.w x q
  ·rw[e1,acw,Nat.mul_add];have:=ih.c;have:=hn.c;omega
  ·rw[e2,acw];have:=ih.t;have:=hn.t;omega
theorem rW(d:Nat)(hd:d<=4)(ok:∀e,e+1=d->mC e):mC d:=fun K cs A j n m hK hc hA hj h0 h1=>by
 obtain⟨K',rfl⟩:∃K',K=K'+2:=⟨K - 2,by omega⟩
 have c1:=HG d;have g1:=MP d;obtain⟨v,v0,v1,ce⟩:=iK K' cs hc n m h0 (by omega) [];have t4:=dX (v / 5) (by decide:(0:Int)<4);generalize hr:v / 5 % 4=r at t4;have bc:Q8 4611686018427387904 r=true:=eT.mpr ⟨by omega,by omega⟩;have l3:((List.range r.toNat).map fun i=>PV.int (0+(i:Nat))).length<16777216:=by rw[ab9,ac9];omega
 have lr:(List.range r.toNat).length<=3:=by rw[ac9];omega
 have d0:∀(n:Int),aq [J9 n m] (.ref 0)=.ref 0:=fun n=>rfl;have Z7:(0:Int)<=cn d:=by omega
 have cl:(cn d:Int) * ((List.range r.toNat).length:Nat)<=cn d * 3:=afh (by omega) Z7
 obtain⟨ys,n',y0,y1,y2,y3,y4⟩:=vp (te:=lT (F (K'+1)) (L (K'+1))) (cp:=[some (cv cs),some (.ref 0),some (av A),some (.int d)]) (m:=m) (fun i:Nat=>PV.int (0+(i:Nat))) nd (NR (Tf A) d) (cn d) Z7 1900000 (List.range r.toNat) (n+1) (by omega) (by omega) fun i _ n h0 h1=>by obtain⟨x,n',a,b,c,e⟩:=ye d ok K' cs A j n m (by omega) hc hA hj h0 h1;have cu:=cS (fn:=L (K'+1) .H_) [cv cs] [av A,.int d] (h:=[J9 n m]) (i:=0) (by rw[ar,ku];rfl) (by simp[ar,iI,PV.pure]) rfl (cA _ _) e (ch x) (cA _ _);simp only[acB,acC,adL]at cu;exact⟨x,n',a,b,c,by simp only[EY,lT,d0,cu]⟩
 have R:=Rw.of y1;have hy:ys.length<=3:=by omega
 have hg:gn d * ys.length<=gn d * 3:=aez _ hy;have R':Rw (Tf A) d (gg d) 12 ys:=R.mono (ab8 _) (by omega) (by omega);obtain⟨l,o1,o2⟩:=yb (Tf A) d (gg d) 12 K' (by omega) ((by decide:∀d≤4,gg d<=1000000) d hd) (by decide) false ys R';refine⟨l,n',o1,by omega,by omega,?_⟩;have co:∀h,bO (F (K'+1) .K8) [.lst (ys.map nd)] h=.ok (.tup (l.map nd)) h:=fun h=>bp h (by simp[ar,PV.pure,bu]) o2;have r2:L (K'+2) .q_ [cv cs,.ref 0,av A,.int d] [J9 n m]=match my (F (K'+1)) (L (K'+1)) [some (cv cs),some (.ref 0),some (av A),some (.int d)] [J9 n m]with|.nx _ h1=>gB 1 .non h1|.rt v h1=>eO 1 v h1|_=>.bad:=rfl
 have cp:dj [0,1,2,3] [some (cv cs),some (.ref 0),some (av A),some (.int d)]=[some (cv cs),some (.ref 0),some (av A),some (.int d)]:=rfl;rw[r2];simp only[EY,my,d0,ce,hr,bc,l3,cp,y4,co];exact xg (by rw[PV.pure];exact bu l) (cA _ _)
theorem xc:∀d,d<=4->mC d:=by
 intro d
 induction d with
 |zero=>exact fun h=>rW 0 h fun e h=>by omega
 |succ d ih=>exact fun h=>rW (d+1) h fun e q=>by cases q;exact ih (by omega)
mutual
theorem BH{a b:List (List Nat)}(h:∀x∈a,x∈b):∀n:Nd,Pq a n=true->Pq b n=true
 |.loop _ _ c _,e=>by rw[Pq]at e |-;exact gj h c e
 |.choice _ y z,e=>by rw[Pq,ab5]at e |-;exact⟨gj h y e.1,gj h z e.2⟩
 |.use x _,e=>by rw[Pq,acL]at e |-;exact h x e
 |.j8 x _ _ c,e=>by rw[Pq,ab5,acL]at e |-;exact⟨h x e.1,gj h c e.2⟩
 |.text _,_=>rfl
 |.place _ _,_=>rfl
 |.body _,_=>rfl
theorem gj{a b:List (List Nat)}(h:∀x∈a,x∈b):∀c:j7,Ph a c=true->Ph b c=true
 |.nil,_=>rfl
 |.cons n r,e=>by rw[Ph,ab5]at e |-;exact⟨BH h n e.1,gj h r e.2⟩
end
theorem uy(g:Nd->Nat)(f:Nd->Bool):∀l:List Nd,((l.filter f).map g).sum<=(l.map g).sum
 |[]=>ab8 _
 |a::r=>by
  have:=uy g f r;rw[List.filter_cons,ab7,acZ]
  split
  ·rw[ab7,acZ];omega
  ·omega
theorem Rw.filter{kn:Cx}{d c t:Nat}{l:List Nd}(h:Rw kn d c t l)(f:Nd->Bool):Rw kn d c t (l.filter f):=
 ⟨fun n hn=>h.w n (afl.mp hn).1,ace (uy _ f l) h.c,ace (uy _ f l) h.t⟩
theorem CB(B:List Pc):(B.map O5).map (·.n)=B.map (·.n):=by rw[ady];rfl
theorem wU{m:Option Int}{ns:List (List Nat)}(P:List Pe)(B:List Pc)(f:Nat):∀{l:List Nd},(∀n∈l,okN ([],m,ns) n=true/\dN n<=0)->(∀n∈l,okN (P,m,ns) n=true)/\∃r,cX B (f+1) (G8 l) .nil=some r/\r.1=l.length
 |[],_=>⟨fun n hn=>(by cases hn),_,rfl,rfl⟩
 |n::r,h=>by
  obtain⟨a,r',b,b2⟩:=wU P B f fun z hz=>h z (acg _ hz)
  have one:okN (P,m,ns) n=true/\K5 B (cX B f) .nil n=some (1,1):=by
   obtain⟨o,d⟩:=h n acv
   cases n with
   |text s=>exact⟨rfl,rfl⟩
   |place p s=>exact⟨o,rfl⟩
   |body ps=>exact⟨o,rfl⟩
   |loop x p b t=>rw[dN]at d;omega
   |choice p y z=>rw[dN]at d;omega
   |j8 x ps hs b=>rw[dN]at d;omega
   |use x ps=>rw[okN,ab5]at o;exact absurd o.2 (by simp[QH,Tc])
  refine⟨fun z hz=>?_,?_⟩
  ·rcases acn.mp hz with q|q
   ·subst q;exact one.1
   ·exact a z q
  ·have e2:cR (K5 B (cX B f) .nil) (G8 r)=some r':=b;show∃r',cR (K5 B (cX B f) .nil) (G8 (n::r))=some r'/\_;rw[G8,cR,one.2,e2];exact⟨_,rfl,by show 1+r'.1=_;rw[b2,acw,aes]⟩
theorem Dn{P:List Pe}{m:Option Int}{ns:List (List Nat)}{n:Nd}(h:okN (P,m,ns) n=true)(k:decide (kT n∈ [tT,tP,tB])=true):okN ([],m,ns) n=true/\dN n<=0:=by
 cases n with
 |text s=>exact⟨rfl,ab8 _⟩
 |place p s=>exact⟨h,ab8 _⟩
 |body ps=>exact⟨h,ab8 _⟩
 |loop x p b t=>exact absurd k (by rw[kT];decide)
 |choice p y z=>exact absurd k (by rw[kT];decide)
 |j8 x ps hs b=>exact absurd k (by rw[kT];decide)
 |use x ps=>exact absurd k (by rw[kT];decide)
theorem JY(K:Nat)(hK:42<=K)(B:List Pc)(nm:List Nat)(ns:List (List Nat))(mm:Option Int)(l:List Nd)(lB:B.length<=100)(hB:∀q∈B,Ph (B.map (·.n)) q.b=true/\p7 q.b<=1000000){d c t:Nat}(hl:Rw (B.map O5,mm,ns) d c t l)(hd:d<=20)(hc:c<=1000000)(ht:t<=1000):
  ∃l',Rw (B.map O5,mm,ns) d c t l'/\(∃r,cX (B++ [⟨nm,ns,mm,G8 l'⟩]) 41 (G8 l') .nil=some r/\r.1<=c+500)/\L (K+1) .Oz [.ref 0,pc ⟨nm,ns,mm,G8 l⟩] [.lst (B.map pc)]=.ok (pc ⟨nm,ns,mm,G8 l'⟩) [.lst (B.map pc)]:=by
 have mo:∀x∈B.map (·.n),x∈(B++ [(⟨nm,ns,mm,G8 l⟩:Pc)]).map (·.n):=fun x hx=>by rw[aci];exact adf _ hx
 obtain⟨e1,e2',e3⟩:=hl.d8;have e2:Ph (B.map (·.n)) (G8 l)=true:=by have:=mS _ _ e2';rw[CB]at this;exact this
 have ct:=ky l;have Vs:=hl.c
 obtain⟨left,g1,g2⟩:=GW false (B++ [⟨nm,ns,mm,G8 l⟩]) (by simp;omega) (fun q hq=>by
  rcases acz.mp hq with h|h
  ·exact⟨gj mo _ (hB q h).1,(hB q h).2⟩
  ·cases acp.mp h;exact⟨gj mo _ e2,by show p7 (G8 l)<=_;omega⟩) 40 (by decide) (G8 l) .nil B.length 500 K (gj mo _ e2) (by omega) rfl (by decide) (by omega)
 have g3:L K .B_ ([QZ false (B++ [(⟨nm,ns,mm,G8 l⟩:Pc)]),.tup (d8 (G8 l)),.int B.length,.non,.int 1]++.ref 0:: []) [OJ 500]=.ok .non [OJ left]:=g2;have cl:=cS (fn:=L K .B_) [QZ false (B++ [(⟨nm,ns,mm,G8 l⟩:Pc)]),.tup (d8 (G8 l)),.int B.length,.non,.int 1] [] (h:=[.lst (B.map pc),OJ 500]) (i:=1) (by simp[ar,sI,PV.pure,aU]) rfl rfl (nW _) g3 rfl (nW _);simp only[acB,acC]at cl;have W9:w6 (L K .B_) [.lst ((B++ [(⟨nm,ns,mm,G8 l⟩:Pc)]).map pc),.tup (d8 (G8 l)),.int B.length,.non,.int 1,.ref 1] [.lst (B.map pc),OJ 500]=.ok .non [.lst (B.map pc),OJ left]:=cl;have d0:∀(a:List PV) r,aq (.lst a::r) (.ref 0)=.ref 0:=fun _ _=>rfl;have d1:∀(a:PO)(i:Int),aq [a,OJ i] (.ref 1)=.ref 1:=fun _ _=>rfl;have i1:∀(a:PO)(i:Int),d7 (.ref 1) (.int 0) [a,OJ i]=.ok (.int i) [a,OJ i]:=fun _ _=>rfl;have ad:=KQ (h:=[.lst (B.map pc),OJ 500]) (i:=0) rfl [pc ⟨nm,ns,mm,G8 l⟩] (by rw[ab9];simp;omega);have ad':aI (.ref 0) (.lst [pc ⟨nm,ns,mm,G8 l⟩]) [.lst (B.map pc),OJ 500]=.ok (.lst ((B++ [(⟨nm,ns,mm,G8 l⟩:Pc)]).map pc)) [.lst (B.map pc),OJ 500]:=by rw[ad,aci];rfl
 have ln:gh [.ref 0] [.lst (B.map pc),OJ 500]=.ok (.int B.length) [.lst (B.map pc),OJ 500]:=by show Res.ok (PV.int (B.map pc).length) _=_;rw[ab9]
 have mk:eP [.int 500] [.lst (B.map pc)]=.ok (.ref 1) [.lst (B.map pc),OJ 500]:=rfl;have r2:∀T,oz (F K) (L K) [some (.ref 0),some (pc ⟨nm,ns,mm,G8 l⟩),none] [.lst (B.map pc)]=T->L (K+1) .Oz [.ref 0,pc ⟨nm,ns,mm,G8 l⟩] [.lst (B.map pc)]=match T with|.nx _ h1=>gB 1 .non h1|.rt v h1=>eO 1 v h1|_=>.bad:=fun T e=>by subst e;rfl
 have fin:∀(q:Pc)(a:PO),eO 1 (pc q) [.lst (B.map pc),a]=.ok (pc q) [.lst (B.map pc)]:=fun q a=>by unfold eO;rw[gy _ (fN q)];dsimp only;unfold gB;simp[aO,PO.pure,jE]
 cases c0:decide (left>=0)with
 |true=>refine⟨l,hl,by obtain⟨r,h1,h2⟩:=g1.2.2 (of_decide_eq_true c0);exact⟨r,h1,by have:=of_decide_eq_true c0;omega⟩,?_⟩;rw[r2 _ rfl];simp only[EY,oz,mk,d0,d1,ad',ln,W9,i1,c0];exact fin _ _
 |false=>
  have fw:∀(ρ:Ev) h,cY (oK (F K)) (pG (F K)) (dj [] ρ) (d8 (G8 l)) h=.ok ((l.filter fun n=>decide (kT n∈ [tT,tP,tB])).map nd) h:=fun ρ h=>by
   rw[eR];refine pE nd _ nd l (fun n hn=>?_) fun n hn=>?_
   ·have it:=NE (x:=kT n) (ls:=[tT,tP,tB]) (nH (DB n)) (by decide) h;simp only[ab7,acM]at it;simp only[EY,oK,it]
   ·simp only[EY,pG]
  have ll:(d8 (G8 l)).length<16777216:=by have:=fC (G8 l);omega
  have hf:=hl.filter fun n=>decide (kT n∈ [tT,tP,tB])
  have hf':Rw ([],mm,ns) 0 c t (l.filter fun n=>decide (kT n∈ [tT,tP,tB])):=⟨fun n hn=>by have:=Dn (hf.w n hn).2.1 (afl.mp hn).2;exact⟨(hf.w n hn).1,this⟩,hf.c,hf.t⟩
  obtain⟨l',o1,o2⟩:=yb ([],mm,ns) 0 c t (K - 1) (by decide) hc ht false _ hf';obtain⟨p1,p2,p3,p4⟩:=wU (B.map O5) (B++ [⟨nm,ns,mm,G8 l'⟩]) 40 fun n hn=>(o1.w n hn).2;have o3:Rw (B.map O5,mm,ns) d c t l':=⟨fun n hn=>⟨(o1.w n hn).1,p1 n hn,ace (o1.w n hn).2.2 (acu _)⟩,o1.c,o1.t⟩
  have co:∀h,bO (F K .K8) [.lst ((l.filter fun n=>decide (kT n∈ [tT,tP,tB])).map nd)] h=.ok (.tup (l'.map nd)) h:=fun h=>bp h (by simp[ar,PV.pure,bu]) (by rw[show K=K - 1+1 by omega];exact o2)
  have sl:∀h,jq (pc ⟨nm,ns,mm,G8 l⟩) none (some 4) h=.ok (.tup [.str tI,.str nm,nms ns,H7 mm]) h:=fun h=>by unfold pc;exact mM _ 4 h
  have aa:∀h,aI (.tup [.str tI,.str nm,nms ns,H7 mm]) (.tup [.tup (l'.map nd)]) h=.ok (pc ⟨nm,ns,mm,G8 l'⟩) h:=fun h=>by rw[fK _ _ h (by simp;exact ace (by decide:5<=10) (by decide))];unfold pc;rw[eR];rfl
  refine⟨l',o3,⟨p2,p3,by have:=qB l';have:=o1.c;omega⟩,?_⟩;rw[r2 _ rfl];simp only[EY,oz,mk,d0,d1,ad',ln,W9,i1,c0,ll,fw,co,sl,aa];exact fin _ _
theorem mH{a b:Sx}{ρ:Ev}{h:List PO}{Q:SR->Prop}(ρ1:Ev)(h1:List PO)(e:a ρ h=.nx ρ1 h1)(k:Q (b ρ1 h1)):Q (aA a b ρ h):=by rw[dQ,e];exact k
theorem BX{α:Type}{a b:Sx}{ρ:Ev}{h:List PO}{Q:SR->Prop}(f:α->Ev)(g:α->List PO)(R:α->Prop)(e:∃x,R x/\a ρ h=.nx (f x) (g x))(k:∀x,R x->Q (b (f x) (g x))):Q (aA a b ρ h):=by obtain⟨x,hx,e⟩:=e;exact mH _ _ e (k x hx)
theorem LJ{l:List (List Nat)}(h:l.Nodup){i j:Nat}(hi:i<l.length)(hj:j<l.length)(e:i≠j):l.getD i []≠l.getD j []:=by
 rw[List.Nodup,aey]at h;rw[acy,acy,acr hi,acr hj];rcases ad6 i j with q|q
 ·exact h i j hi hj q
 ·exact fun z=>h j i hj hi (by omega) z.symm
theorem Jg{ms:List (List Nat)}(hl:ms.length=12)(i:Int)(h:List PO):d7 (Ob ms) (.int (i % 12)) h=.ok (.str (ms.getD (i % 12).toNat [])) h:=by
 have hi:(i % 12).toNat<ms.length:=by omega
 unfold Ob;rw[zG,fU (v:=PV.str (ms.getD (i % 12).toNat [])) (by omega) (by rw[acJ,acy,acr hi];rfl)];rfl
theorem La(k:Nat)(hk:k<8):sg (Q9.getD k [])=true/\Q9.getD k []∈Q9.take (k+1)/\Q9.getD k []∉Q9.take k:=(by decide:∀k<8,sg (Q9.getD k [])=true/\Q9.getD k []∈Q9.take (k+1)/\Q9.getD k []∉Q9.take k) k hk
theorem DJ:∀(E r:List Pc),QJ E r=true->∀q∈r,Ph ((E++r).map (·.n)) q.b=true
 |_,[],_,q,hq=>by cases hq
 |E,p::r,h,q,hq=>by
  rw[QJ,ab5,ab5,ab5]at h;rcases acn.mp hq with z|z
  ·subst z;have:=mS _ _ h.2.2.1;rw[CB]at this;exact gj (fun x hx=>by rw[aci];exact adf _ hx) _ this
  ·have:=DJ (E++ [p]) r h.2.2.2 q z;rw[acG]at this;exact this
noncomputable def Us(ms:List (List Nat))(v:Int):List (List Nat):=(List.range (v % 5).toNat).map fun(i:Nat)=>ms.getD ((v / 5+(i:Int)) % 12).toNat []
theorem IS{ms:List (List Nat)}(hl:ms.length=12)(h:ms.Nodup)(v:Int):dup (Us ms v)=false:=by rw[yu];unfold Us List.Nodup;rw[List.pairwise_map];refine List.Pairwise.imp_of_mem (R:=fun a b=>a<b) ?_ List.pairwise_lt_range;intro i j hi hj Vb;have:=aeR.mp hi;have:=aeR.mp hj;exact LJ h (by omega) (by omega) (by omega)
structure BI(ms:List (List Nat))(many:Int)(k:Nat)(n:Int)(B:List Pc)(P:List Pe):Prop where
 lB:B.length=k
 nm:P=B.map O5
 pe:∀p∈P,sg p.n=true/\p.m<=4/\hO p.h
 gb:∀q∈B,wC q=true/\dS q.b<=4/\p7 q.b<=10000
 ok:QJ [] B=true
 nd:(B.map (·.n)).Nodup
 wn:∀q∈B,q.n∈ms\/q.n∈Q9.take k
 cx:∀E q R,B=E++q::R->∃r,cX (E++ [q]) 41 q.b .nil=some r/\r.1<=10000
 lm:∀E q,B=E++ [q]->many<=k->q.m=none
 n0:0<=n
 n1:n<=1+60000 * k
abbrev hB(n m:Int)(B:List Pc)(P:List Pe):List PO:=[J9 n m,.lst (B.map pc),.lst (P.map M8)]
abbrev gE(cs:List Int)(ms:List (List Nat))(many:Int)(x6 x7 x8 x9 Qz Qp Qf:Option PV):Ev:=[some (cv cs),some (.ref 0),some (Ob ms),some (.ref 1),some (.ref 2),some (.int many),x6,x7,x8,x9,Qz,Qp,Qf]
inductive GQ(cs:List Int)(ms:List (List Nat))(many:Int)(k:Nat)(R:SR):Prop where
 |mk (n m:Int)(B:List Pc)(P:List Pe)(y7 y8 y9 T3 TY TX:Option PV)(_:BI ms many (k+1) n B P)(_:R=.nx (gE cs ms many (some (.int (0+(k:Nat)))) y7 y8 y9 T3 TY TX) (hB n m B P))
theorem Ba(K:Nat)(hK:43<=K)(cs:List Int)(hc:cs.length<=63)(ms:List (List Nat))(ml:ms.length=12)(hm:N5 ms=true)(md:ms.Nodup)(mw:∀x∈ms,Tw x)(many:Int)(k:Nat)(hk:k<8)(n m:Int)(B:List Pc)(P:List Pe)(I:BI ms many k n B P)(x7 x8 x9 Qz Qp Qf:Option PV):
  GQ cs ms many k (fM (F K) (L K) (gE cs ms many (some (.int (0+(k:Nat)))) x7 x8 x9 Qz Qp Qf) (hB n m B P)):=by
 have lB:=I.lB;have lP:P.length=k:=by rw[I.nm,ab9];exact lB
 have nP:P.map (·.n)=B.map (·.n):=by rw[I.nm,CB]
 have n0:=I.n0;have n1:=I.n1;have d0:∀n m B P,aq (hB n m B P) (.ref 0)=.ref 0:=fun _ _ _ _=>rfl;have d1:∀n m B P,aq (hB n m B P) (.ref 1)=.ref 1:=fun _ _ _ _=>rfl;have d2:∀n m B P,aq (hB n m B P) (.ref 2)=.ref 2:=fun _ _ _ _=>rfl;obtain⟨K',rfl⟩:∃K',K=K'+1:=⟨K - 1,by omega⟩
 obtain⟨v,v0,v1,ce⟩:=iK K' cs hc n m n0 (by omega) [.lst (B.map pc),.lst (P.map M8)];unfold fM;refine mH _ _ (by simp only[EY,d0,ce];rfl) ?_;have t5:=dX v (by decide:(0:Int)<5);have bc:Q8 4611686018427387904 (v % 5)=true:=eT.mpr ⟨by omega,by omega⟩;have l3:((List.range (v % 5).toNat).map fun i=>PV.int (0+(i:Nat))).length<16777216:=by rw[ab9,ac9];omega
 have g2:cY cV (iA (F (K'+1))) [some (Ob ms),some (.int v)] ((List.range (v % 5).toNat).map fun i=>PV.int (0+(i:Nat))) (hB (n+1) m B P)=.ok ((Us ms v).map PV.str) (hB (n+1) m B P):=by unfold Us;rw[ady];refine rR (fun i=>PV.int (0+(i:Nat))) _ (List.range (v % 5).toNat) fun i _=>?_;have e0:(0:Int)+(i:Nat)=(i:Nat):=agg _;have l2:=Jg ml (v / 5+(i:Nat));simp only[EY,iA,e0,l2];rfl
 have g0:(Us ms v).length=(v % 5).toNat:=by unfold Us;rw[ab9,ac9]
 have Ui:N5 (Us ms v)=true:=aco.mpr fun x hx=>by obtain⟨i,_,rfl⟩:=acK.mp hx;exact aco.mp hm _ (iU (by omega))
 have Qh:=IS ml md v;generalize Us ms v=ns at g2 g0 Ui Qh;have cp:∀a b c d e f g h i j k,dj [2,7] [a,b,some (Ob ms),c,d,e,f,some (.int v),g,h,i,j,k]=[some (Ob ms),some (.int v)]:=fun _ _ _ _ _ _ _ _ _ _ _=>rfl;refine mH (gE cs ms many (some (.int (0+(k:Nat)))) (some (.int v)) (some (nms ns)) x9 Qz Qp Qf) (hB (n+1) m B P) (by simp only[EY,bc,l3,cp,g2];rfl) ?_;refine mH _ _ (by simp only[EY,if_true];rfl) ?_;refine BX (fun hd=>(gE cs ms many (some (.int (0+(k:Nat)))) (some (.int v)) (some (nms ns)) (some (H7 hd)) Qz Qp Qf)) (fun _=>hB (n+1) m B P) (fun hd=>hO hd/\(many<=k+1->hd=none)) ?_ fun hd hh'=>?_
 ·have t4:=dX (v / 180) (by decide:(0:Int)<4)
  cases c1:decide (v / 60 % 3>0)with
  |false=>exact⟨none,⟨trivial,fun _=>rfl⟩,by simp only[EY,c1,H7]⟩
  |true=>
   cases c2:decide (0+((k:Nat):Int)<many - 1)with
   |false=>exact⟨none,⟨trivial,fun _=>rfl⟩,by simp only[EY,c1,c2,H7]⟩
   |true=>exact⟨some (v / 180 % 4),⟨⟨t4.1,by omega⟩,fun z=>by have:=of_decide_eq_true c2;omega⟩,by simp only[EY,c1,c2,H7]⟩
 obtain⟨hh,V5⟩:=hh';have pl:nN [.ref 2] (hB (n+1) m B P)=.ok (.lst (P.map M8)) (hB (n+1) m B P):=rfl;have dm:∀h,aq h (H7 hd)=H7 hd:=fun h=>lH h hd
 refine mH (gE cs ms many (some (.int (0+(k:Nat)))) (some (.int v)) (some (nms ns)) (some (H7 hd)) (some (av ⟨ns,P,hd,ms⟩)) Qp Qf) (hB (n+1) m B P) (by simp only[EY,ug,pL,pS,d2,pl,dm];rfl) ?_
 obtain⟨m2,hm2⟩:∃m2:Int,∀ ρ,iN (.int m2) (.ref 0) (.int 1) ρ (hB (n+1) m B P)=.nx ρ (hB (n+1) m2 B P)/\m2=n+1+30 - 12 * (if decide (many>5)=true then 1 else 0):=⟨_,fun ρ=>⟨rfl,rfl⟩⟩
 have i0:∀n m B P,d7 (.ref 0) (.int 0) (hB n m B P)=.ok (.int n) (hB n m B P):=fun _ _ _ _=>rfl
 refine mH (gE cs ms many (some (.int (0+(k:Nat)))) (some (.int v)) (some (nms ns)) (some (H7 hd)) (some (av ⟨ns,P,hd,ms⟩)) Qp Qf) (hB (n+1) m2 B P) (by have:=(hm2 []).2;simp only[EY,d0,i0,<- this,fun ρ=>(hm2 ρ).1]) ?_
 have hA:TP 4 ⟨ns,P,hd,ms⟩:=⟨Ui,by show ns.length<=4;omega,by show P.length<=1000;omega,I.pe,hh,ml,hm,md,by show(P.map (·.n)).Nodup;rw[nP];exact I.nd⟩
 have c4:cg 4=29545:=rfl;have g4:gg 4=4665:=rfl;obtain⟨l1,n2,a1,a2,a3,a4⟩:=gP (xc 4 (ab8 _)) (K'+1) cs ⟨ns,P,hd,ms⟩ 4 (n+1) m2 (by omega) hc hA (by decide) (by omega) (by omega) [.lst (B.map pc),.lst (P.map M8)];have a4':w6 (L (K'+1) .q_) [cv cs,.ref 0,av ⟨ns,P,hd,ms⟩,.int 4] (hB (n+1) m2 B P)=.ok (.tup (l1.map nd)) (hB n2 m2 B P):=a4;refine mH _ _ (by simp only[EY,d0,a4'];rfl) ?_;have a1':Rw (P,hd,ns) 4 9330 24 l1:=a1.mono (ab8 _) (by omega) (by omega);refine BX (fun(x:List Nd×Int)=>(gE cs ms many (some (.int (0+(k:Nat)))) (some (.int v)) (some (nms ns)) (some (H7 hd)) (some (av ⟨ns,P,hd,ms⟩)) (some (.tup (x.1.map nd))) Qf)) (fun x=>hB x.2 m2 B P) (fun x=>Rw (P,hd,ns) 4 9330 24 x.1/\n<=x.2/\x.2<=n+59999) ?_ fun x hx=>?_
 ·obtain⟨l2,n3,b1,b2,b3,b4⟩:=gP (xc 4 (ab8 _)) (K'+1) cs ⟨ns,P,hd,ms⟩ 4 n2 m2 (by omega) hc hA (by decide) (by omega) (by omega) [.lst (B.map pc),.lst (P.map M8)];have Z9:w6 (L (K'+1) .q_) [cv cs,.ref 0,av ⟨ns,P,hd,ms⟩,.int 4] (hB n2 m2 B P)=.ok (.tup (l2.map nd)) (hB n3 m2 B P):=b4;have en:=zU (zR fun z hz=>⟨(a1.w z hz).1,ace (a1.w z hz).2.2 (by decide)⟩) (hB n2 m2 B P);have la:=qB l1;have lb:=qB l2;have ac:=a1.c;have bc:=b1.c
  have ad:∀h,aI (.tup (l1.map nd)) (.tup (l2.map nd)) h=.ok (.tup ((l1++l2).map nd)) h:=fun h=>by rw[fK _ _ h (by rw[ab9,ab9];exact ace (by omega:_<=10000) (by decide)),aci]
  have Z_:Rw (P,hd,ns) 4 9330 24 (l1++l2):=(a1.app b1).mono (ab8 _) (by omega) (by omega)
  cases c1:(l1.map nd).isEmpty with
  |true=>exact⟨(l1++l2,n3),⟨Z_,by dsimp only;omega,by dsimp only;omega⟩,by simp only[EY,en,c1,d0,Z9,ad]⟩
  |false=>
   cases c2:decide (v / 720 % 3=1)with
   |true=>exact⟨(l1++l2,n3),⟨Z_,by dsimp only;omega,by dsimp only;omega⟩,by simp only[EY,en,c1,c2,d0,Z9,ad]⟩
   |false=>exact⟨(l1,n2),⟨a1',by dsimp only;omega,by dsimp only;omega⟩,by simp only[EY,en,c1,c2]⟩
 obtain⟨l,n3⟩:=x;obtain⟨hl,hn3,hn4⟩:=hx;dsimp only at hl hn3 hn4 |-;have VD:=dX (v / 2160+(0+((k:Nat):Int))) (by decide:(0:Int)<12);obtain⟨nm,Zg,nm2,nm3⟩:=oX ml hm _ VD.1 VD.2;refine mH _ _ (by simp only[EY,nm2];rfl) ?_
 have sP:∀x∈P.map (·.n),∀c∈x,c<1114112:=fun x hx=>by obtain⟨p,hp,rfl⟩:=acK.mp hx;exact nH (I.pe p hp).1
 have lq:(P.map M8).length<16777216:=by rw[ab9];exact acU (by omega:_<=10) (by decide)
 have cq:∀(te:Ex)(ρ:Ev)(x:List Nat),(∀p∈P,te [some (M8 p)] []=.ok (.str p.n) [])->ρ[4]? =some (some (.ref 2))->ρ[12]? =some (some (.str x))->sg x=true->tQ 4 (aE (c2 R7 (ai 12) (cN Qu (dH [] abm cV te)))) ρ (hB n3 m2 B P)=.ok (decide (x∈P.map (·.n))) (hB n3 m2 B P):=fun te ρ x ht hr hx sx=>by
  have l4:4<ρ.length:=(acd.mp hr).1
  have v4:ai 4 ((ρ.map pQ).set 4 (some (.lst (P.map M8)))) []=.ok (.lst (P.map M8)) []:=by unfold ai;rw[adl (by simpa using l4)];rfl
  have v12:ai 12 ((ρ.map pQ).set 4 (some (.lst (P.map M8)))) []=.ok (.str x) []:=by unfold ai;rw[acX (by decide),acJ,hx];rfl
  have cm:cY cV te (dj [] ((ρ.map pQ).set 4 (some (.lst (P.map M8))))) (P.map M8) []=.ok ((P.map (·.n)).map PV.str) []:=by rw[ady];exact rR M8 _ P ht
  have q:aE (c2 R7 (ai 12) (cN Qu (dH [] abm cV te))) ((ρ.map pQ).set 4 (some (.lst (P.map M8)))) []=.ok (decide (x∈P.map (·.n))) []:=by simp only[EY,v12,v4,yP,lq,cm,MH (nH sx) sP []]
  unfold tQ;rw[hr];show(if ar (P.map M8)=true then(match aE (c2 R7 (ai 12) (cN Qu (dH [] abm cV te))) ((ρ.map pQ).set 4 (some (.lst (P.map M8)))) []with|.ok b []=>Res.ok b (hB n3 m2 B P)|_=>Res.bad)else Res.bad)=_;rw[if_pos (mh P),q]
 have e2:∀p:Pe,iw (F (K'+1)) [some (M8 p)] []=.ok (.str p.n) []:=fun p=>rfl;have e3:∀p:Pe,ir (F (K'+1)) [some (M8 p)] []=.ok (.str p.n) []:=fun p=>rfl;refine BX (fun x=>(gE cs ms many (some (.int (0+(k:Nat)))) (some (.int v)) (some (nms ns)) (some (H7 hd)) (some (av ⟨ns,P,hd,ms⟩)) (some (.tup (l.map nd))) (some (.str x)))) (fun _=>hB n3 m2 B P) (fun x=>sg x=true/\x∉P.map (·.n)/\(x∈ms\/x∈Q9.take (k+1))) ?_ fun y hx=>?_
 ·have c2:=cq (iw (F (K'+1))) (gE cs ms many (some (.int (0+(k:Nat)))) (some (.int v)) (some (nms ns)) (some (H7 hd)) (some (av ⟨ns,P,hd,ms⟩)) (some (.tup (l.map nd))) (some (.str nm))) nm (fun p _=>e2 p) rfl rfl Zg
  by_cases z:nm∈P.map (·.n)
  ·rw[decide_eq_true z]at c2
   have w3:O_ [PV.str [102,105,114,115,116],.str [115,101,99,111,110,100],.str [116,104,105,114,100],.str [102,111,117,114,116,104],.str [102,105,102,116,104],.str [115,105,120,116,104],.str [115,101,118,101,110,116,104],.str [101,105,103,104,116,104]] (0+((k:Nat):Int))=some (.str (Q9.getD k [])):=by rcases(show ∀k<8,k=0\/k=1\/k=2\/k=3\/k=4\/k=5\/k=6\/k=7 by decide) k hk with q|q|q|q|q|q|q|q<;>rw[q]<;>rfl
   obtain⟨w1,w2,w4⟩:=La k hk;refine⟨Q9.getD k [],⟨w1,fun y=>?_,.inr w2⟩,by simp only[EY,c2,w3]⟩;rw[nP]at y;obtain⟨q,hq,e⟩:=acK.mp y;rcases I.wn q hq with h|h
   ·rw[e]at h;exact mw _ h (ad7 w2)
   ·rw[e]at h;exact w4 h
  ·rw[decide_eq_false z]at c2;exact⟨nm,⟨Zg,z,.inl nm3⟩,by simp only[EY,c2]⟩
 obtain⟨hy,ZD,hyw⟩:=hx
 refine mH (gE cs ms many (some (.int (0+(k:Nat)))) (some (.int v)) (some (nms ns)) (some (H7 hd)) (some (av ⟨ns,P,hd,ms⟩)) (some (.tup (l.map nd))) (some (.str y))) (hB n3 m2 B P) (by have c2:=cq (ir (F (K'+1))) (gE cs ms many (some (.int (0+(k:Nat)))) (some (.int v)) (some (nms ns)) (some (H7 hd)) (some (av ⟨ns,P,hd,ms⟩)) (some (.tup (l.map nd))) (some (.str y))) y (fun p _=>e3 p) rfl rfl hy;rw[decide_eq_false ZD]at c2;simp only[EY,c2]) ?_
 rw[I.nm]at hl;obtain⟨lo,o1,o2⟩:=yb (B.map O5,hd,ns) 4 9330 24 K' (by decide) (by decide) (by decide) true l hl;have co:∀h,bO (F (K'+1) .K8) [.tup (l.map nd)] h=.ok (.tup (lo.map nd)) h:=fun h=>bp h (by simp[ar,PV.pure,bu]) o2;obtain⟨lf,f1,fx,f2⟩:=JY K' (by omega) B y ns hd lo (by omega) (fun q hq=>⟨DJ [] B I.ok q hq,by have:=(I.gb q hq).2.2;omega⟩) o1 (by decide) (by decide) (by decide);have cf:=cS (fn:=L (K'+1) .Oz) [] [pc ⟨y,ns,hd,G8 lo⟩] (h:=hB n3 m2 B P) (i:=1) rfl (by rw[ar,fN];rfl) rfl (by simp[PO.pure,jE]) f2 (fN _) (by simp[PO.pure,jE])
 have cf':w6 (L (K'+1) .Oz) [.ref 1,.tup [.str tI,.str y,nms ns,H7 hd,.tup (lo.map nd)]] (hB n3 m2 B P)=.ok (pc ⟨y,ns,hd,G8 lf⟩) (hB n3 m2 B P):=by rw[<- eR lo];exact cf
 have i1:dZ (hB n3 m2 B P) (.ref 1)=true:=rfl
 have ap:bD (.ref 1) [pc ⟨y,ns,hd,G8 lf⟩] (hB n3 m2 B P)=.ok .non (hB n3 m2 (B++ [⟨y,ns,hd,G8 lf⟩]) P):=by rw[Ez (h:=hB n3 m2 B P) (i:=1) (acc:=B.map pc) rfl _ (by rw[ab9];omega)];show Res.ok PV.non [J9 n3 m2,.lst (B.map pc++ [pc ⟨y,ns,hd,G8 lf⟩]),.lst (P.map M8)]=_;rw[show B.map pc++ [pc ⟨y,ns,hd,G8 lf⟩]=(B++ [(⟨y,ns,hd,G8 lf⟩:Pc)]).map pc by rw[aci];rfl]
 refine mH (gE cs ms many (some (.int (0+(k:Nat)))) (some (.int v)) (some (nms ns)) (some (H7 hd)) (some (av ⟨ns,P,hd,ms⟩)) (some (.tup (l.map nd))) (some (.str y))) (hB n3 m2 (B++ [⟨y,ns,hd,G8 lf⟩]) P) (by simp only[EY,d1,i1,dm,co,cf',ap]) ?_
 have i2:dZ (hB n3 m2 (B++ [⟨y,ns,hd,G8 lf⟩]) P) (.ref 2)=true:=rfl
 have ap2:bD (.ref 2) [M8 ⟨y,ns.length,hd⟩] (hB n3 m2 (B++ [⟨y,ns,hd,G8 lf⟩]) P)=.ok .non (hB n3 m2 (B++ [⟨y,ns,hd,G8 lf⟩]) (P++ [⟨y,ns.length,hd⟩])):=by rw[Ez (h:=hB n3 m2 (B++ [(⟨y,ns,hd,G8 lf⟩:Pc)]) P) (i:=2) (acc:=P.map M8) rfl _ (by rw[ab9];omega)];show Res.ok PV.non [J9 n3 m2,_,.lst (P.map M8++ [M8 ⟨y,ns.length,hd⟩])]=_;rw[show P.map M8++ [M8 ⟨y,ns.length,hd⟩]=(P++ [(⟨y,ns.length,hd⟩:Pe)]).map M8 by rw[aci];rfl]
 have Yw:bD (.ref 2) [.tup [.str y,.int ns.length,H7 hd]] (hB n3 m2 (B++ [⟨y,ns,hd,G8 lf⟩]) P)=.ok .non (hB n3 m2 (B++ [⟨y,ns,hd,G8 lf⟩]) (P++ [⟨y,ns.length,hd⟩])):=ap2;obtain⟨f5,f6,f7⟩:=f1.d8;have fc:=f1.c;have fs:=ky lf;have yB:y∉B.map (·.n):=fun z=>ZD (by rw[nP];exact z);have sn:∀{E:List Pc}{q:Pc},B++ [(⟨y,ns,hd,G8 lf⟩:Pc)]=E++ [q]->q=⟨y,ns,hd,G8 lf⟩:=fun e=>(afz.mp (aeS e rfl)).symm
 refine⟨n3,m2,B++ [⟨y,ns,hd,G8 lf⟩],P++ [⟨y,ns.length,hd⟩],_,_,_,_,_,_,⟨by rw[acs,lB];rfl,by rw[I.nm,aci];rfl,fun p hp=>?_,fun q hq=>?_,rJ ⟨y,ns,hd,G8 lf⟩ B [] I.ok yB Qh f6,?_,fun q hq=>?_,fun E q R e=>?_,fun E q e h=>?_,by omega,by omega⟩,by simp only[EY,d2,i2,dm,Yw];rfl⟩
 ·rcases acz.mp hp with z|z
  ·exact I.pe p z
  ·cases acp.mp z;exact⟨hy,by show ns.length<=4;omega,hh⟩
 ·rcases acz.mp hq with z|z
  ·exact I.gb q z
  ·cases acp.mp z
   refine⟨?_,f7,by show p7 (G8 lf)<=_;omega⟩;simp only[wC,hy,Ui,f5,ac6,ab5,decide_eq_true_eq];omega
 ·rw[aci];exact adQ.mpr ⟨I.nd,by simp,fun a ha b hb e=>by subst e;rw[ab7,acM,acp]at hb;subst hb;exact yB ha⟩
 ·rcases acz.mp hq with z|z
  ·exact(I.wn q z).imp id fun h=>by rw[List.take_succ];exact adf _ h
  ·cases acp.mp z;exact hyw
 ·rcases ac7 R with rfl|⟨R',z,rfl⟩
  ·have e2:=sn e;rw[e2]at e |-;rw[<- e];obtain⟨r,h1,h2⟩:=fx;exact⟨r,h1,by omega⟩
  ·rw[ac8,<- acB,<- acG]at e;exact I.cx E q R' (ae2 e rfl)
 ·rw[sn e];exact V5 (by omega)
theorem tS(K:Nat)(hK:43<=K)(cs:List Int)(hc:cs.length<=63)(ms:List (List Nat))(ml:ms.length=12)(hm:N5 ms=true)(md:ms.Nodup)(mw:∀x∈ms,Tw x)(many:Int):∀(r s:Nat),s+r<=8->∀(n m:Int)(B:List Pc)(P:List Pe)(x6 x7 x8 x9 Qz Qp Qf:Option PV),BI ms many s n B P->
  ∃n' m' B' P' ρ',BI ms many (s+r) n' B' P'/\aN (z_ 6) (fM (F K) (L K)) ((List.range' s r).map fun i=>PV.int (0+(i:Nat))) (gE cs ms many x6 x7 x8 x9 Qz Qp Qf) (hB n m B P)=.nx ρ' (hB n' m' B' P')/\ρ'[3]? =some (some (.ref 1))
 |0,s,_,n,m,B,P,x6,x7,x8,x9,Qz,Qp,Qf,I=>⟨n,m,B,P,_,I,by rw[List.range',acM,aN],rfl⟩
 |r+1,s,hs,n,m,B,P,x6,x7,x8,x9,Qz,Qp,Qf,I=>by obtain⟨n1,m1,B1,P1,y7,y8,y9,T3,TY,TX,I1,e⟩:=Ba K hK cs hc ms ml hm md mw many s (by omega) n m B P I x7 x8 x9 Qz Qp Qf;obtain⟨n2,m2,B2,P2,ρ2,I2,e2,e3⟩:=tS K hK cs hc ms ml hm md mw many r (s+1) (by omega) n1 m1 B1 P1 (some (.int (0+(s:Nat)))) y7 y8 y9 T3 TY TX I1;refine⟨n2,m2,B2,P2,ρ2,by rw[show s+(r+1)=s+1+r by omega];exact I2,?_,e3⟩;rw[List.range'_succ,ab7];exact adT (cP rfl e) e2
theorem i8{x:Int}(a:0<=x)(b:x<8):x=0\/x=1\/x=2\/x=3\/x=4\/x=5\/x=6\/x=7:=by
 obtain⟨n,rfl⟩:=af4 a;exact(show ∀n<8,((n:Nat):Int)=0\/(n:Int)=1\/(n:Int)=2\/(n:Int)=3\/(n:Int)=4\/(n:Int)=5\/(n:Int)=6\/(n:Int)=7 by decide) n (by omega)
theorem Gq(K:Nat)(hK:43<=K)(cs:List Int)(hc:cs.length<=63)(ms:List (List Nat))(ml:ms.length=12)(hm:N5 ms=true)(md:ms.Nodup)(mw:∀x∈ms,Tw x):
  ∃B n m,1<=B.length/\B.length<=8/\(∀q∈B,wC q=true/\dS q.b<=4/\p7 q.b<=10000)/\QJ [] B=true/\((B.map (·.n)).Nodup/\∀q∈B,q.ns.length<=4/\hO q.m)/\(∀E q,B=E++ [q]->q.m=none)/\(∀E q R,B=E++q::R->∃r,cX (E++ [q]) 41 q.b .nil=some r/\r.1<=10000)/\L (K+1) .u6 [cv cs,.ref 0,Ob ms] [J9 0 30]=.ok (bk B) [J9 n m]:=by
 obtain⟨K',rfl⟩:∃K',K=K'+1:=⟨K - 1,by omega⟩
 obtain⟨v,v0,v1,ce⟩:=iK K' cs hc 0 30 (by decide) (by decide) [.lst [],.lst []];have t8:=dX (v / 7) (by decide:(0:Int)<8)
 obtain⟨c,c1,c8,ec⟩:∃c:Nat,1<=c/\c<=8/\O_ [PV.int 1,.int 2,.int 3,.int 4,.int 5,.int 3,.int 4,.int 8] (v / 7 % 8)=some (.int (c:Nat)):=by
  rcases i8 t8.1 t8.2 with q|q|q|q|q|q|q|q<;>rw[q]
  ·exact⟨1,by decide,by decide,rfl⟩
  ·exact⟨2,by decide,by decide,rfl⟩
  ·exact⟨3,by decide,by decide,rfl⟩
  ·exact⟨4,by decide,by decide,rfl⟩
  ·exact⟨5,by decide,by decide,rfl⟩
  ·exact⟨3,by decide,by decide,rfl⟩
  ·exact⟨4,by decide,by decide,rfl⟩
  ·exact⟨8,by decide,by decide,rfl⟩
 obtain⟨n',m',B,P,ρ',I,e,e3⟩:=tS (K'+1) hK cs hc ms ml hm md mw c c 0 (by omega) 1 30 [] [] none none none none none none none ⟨rfl,rfl,fun p hp=>(by cases hp),fun q hq=>(by cases hq),rfl,aht,fun q hq=>(by cases hq),fun E q R e=>(by simp at e),fun E q e=>(by simp at e),by decide,by decide⟩;rw[adU]at I;refine⟨B,n',m',by rw[I.lB];exact c1,by rw[I.lB];exact c8,I.gb,I.ok,⟨I.nd,fun q hq=>by have:=I.pe (O5 q) (by rw[I.nm];exact acK.mpr ⟨q,hq,rfl⟩);exact this.2⟩,fun E q e=>I.lm E q e (acO _),I.cx,?_⟩;have r2:L (K'+1+1) .u6 [cv cs,.ref 0,Ob ms] [J9 0 30]=match gZ (F (K'+1)) (L (K'+1)) [some (cv cs),some (.ref 0),some (Ob ms),none,none,none,none,none,none,none,none,none,none] [J9 0 30]with|.nx _ h1=>gB 1 .non h1|.rt v h1=>eO 1 v h1|_=>.bad:=rfl
 have d0:∀n m B P,aq (hB n m B P) (.ref 0)=.ref 0:=fun _ _ _ _=>rfl;have s3:aJ 3 (cN eP am) [some (cv cs),some (.ref 0),some (Ob ms),none,none,none,none,none,none,none,none,none,none] [J9 0 30]=.nx [some (cv cs),some (.ref 0),some (Ob ms),some (.ref 1),none,none,none,none,none,none,none,none,none] [J9 0 30,.lst []]:=rfl;have s4:aJ 4 (cN eP am) [some (cv cs),some (.ref 0),some (Ob ms),some (.ref 1),none,none,none,none,none,none,none,none,none] [J9 0 30,.lst []]=.nx [some (cv cs),some (.ref 0),some (Ob ms),some (.ref 1),some (.ref 2),none,none,none,none,none,none,none,none] (hB 0 30 [] []):=rfl;have bc:Q8 4611686018427387904 ((c:Nat):Int)=true:=eT.mpr ⟨by omega,by omega⟩;have rg:(List.range ((c:Nat):Int).toNat)=List.range' 0 c:=by rw[ada,List.range_eq_range']
 have Wk:w6 (L (K'+1) .G4) [cv cs,.ref 0] (hB 0 30 [] [])=.ok (.int v) (hB 1 30 [] []):=ce;rw[r2];unfold gZ;rw[dQ,s3];dsimp only;rw[dQ,s4];dsimp only;simp only[EY,Kc,d0,Wk,ec,bc,rg,e,e3];show eO 1 (bk B) (hB n' m' B P)=_;unfold eO;rw[gy _ (fF B)];rfl
structure VR(B:List Pc)(f:Nat)(hd:Hd)(s:Sz)(c d:Nat):Prop where
 n0:0<=s.2.2.1
 n1:0<=s.2.2.2
 a:s.2.2.1=0\/hd=.nil->(c:Int)=s.1/\(d:Int)=s.2.1
 b:s.2.2.1≠0->∀b' i h',hd=.cons b' i h'->∃m e:Nat,cX B f b' h'=some (m,e)/\(c:Int)=s.1+s.2.2.1 * m/\(d:Int)=max s.2.1 (s.2.2.2+e)
 z:s.2.2.1=0->s.2.2.2=0
theorem VR.mono{B:List Pc}{f:Nat}{hd:Hd}{s:Sz}{c d:Nat}(h:VR B f hd s c d):VR B (f+1) hd s c d:=
 ⟨h.n0,h.n1,h.a,fun n b' i h' e=>by obtain⟨m,e,g,r⟩:=h.b n b' i h' e;exact⟨m,e,ji B f b' h' _ g,r⟩,h.z⟩
theorem WY(a b:Int):(if b>a then b else a)=max a b:=by
 rw[Int.max_def]
 split
 ·rename_i z;rw[if_pos (aex z)]
 ·rename_i z
  split
  ·exact Int.le_antisymm ‹_› (Int.not_lt.mp z)
  ·rfl
theorem Vp(a b:Nat):((max a b:Nat):Int)=max (a:Int) b:=by omega
theorem Zi(a b c:Int):max (max a b) c=max (max a c) b:=by rw[ael,Int.max_comm b c,ael]
theorem WL(b d e:Int):max b d+e=max (b+e) (d+e):=by
 rcases Int.le_total b d with h|h
 ·rw[af3 h,af3 (agz h e)]
 ·rw[aeH h,aeH (agz h e)]
theorem mx4(a b c d e:Int):max (max a (b+e)) (max c (d+e))=max (max a c) (max b d+e):=by rw[WL,<- ael,Zi a,ael (max a c)]
theorem mx5(a b c x:Int):max a (b+max c x)=max (max a (b+c)) (b+x):=by rw[ad9 b (max c x),WL,ael,ad9 c,ad9 x]
theorem VR.side{B:List Pc}{f:Nat}{hd:Hd}{s t:Sz}{c d c' d':Nat}(h:VR B f hd s c d)(g:VR B f hd t c' d'):VR B f hd (Tg s t) (c+c') (max d d'):=by
 obtain⟨s1,s2,s3,s4⟩:=s;obtain⟨t1,t2,t3,t4⟩:=t;obtain⟨h0,h1,ha,hb,hz⟩:=h;obtain⟨g0,g1,ga,gb,gz⟩:=g;dsimp only at h0 h1 ha hb hz g0 g1 ga gb gz;have zz:s3+t3=0->s3=0/\t3=0:=fun e=>by clear ha hb hz ga gb gz;omega
 unfold Tg;simp only[WY];refine⟨Int.add_nonneg h0 g0,Int.le_trans h1 (Int.le_max_left ..),fun q=>?_,fun q b' i h' e=>?_,fun q=>?_⟩
 ·have a1:=ha (q.imp (fun z=>(zz z).1) id);have a2:=ga (q.imp (fun z=>(zz z).2) id);exact⟨by rw[aeG,a1.1,a2.1],by rw[Vp,a1.2,a2.2]⟩
 ·dsimp only at q |-
  by_cases hs:s3=0
  ·obtain⟨a1,a2⟩:=ha (.inl hs);have h4:=hz hs;subst hs h4;obtain⟨m,e2,r1,r2,r3⟩:=gb (fun z=>q (by rw[z];rfl)) b' i h' e;refine⟨m,e2,r1,?_,?_⟩
   ·rw[aeG,a1,r2,agg,ahx]
   ·rw[Vp,a2,r3,af3 g1,ael]
  ·obtain⟨m,e2,r1,r2,r3⟩:=hb hs b' i h' e
   by_cases ht:t3=0
   ·obtain⟨a1,a2⟩:=ga (.inl ht);have h4:=gz ht;subst ht h4;refine⟨m,e2,r1,?_,?_⟩
    ·rw[aeG,a1,r2,ag6,Int.add_right_comm]
    ·rw[Vp,a2,r3,aeH h1,Zi]
   ·obtain⟨m',e3,q1,q2,q3⟩:=gb ht b' i h' e;rw[r1]at q1
    cases q1
    refine⟨m,e2,r1,?_,?_⟩
    ·rw[aeG,r2,q2,Int.add_mul];omega
    ·rw[Vp,r3,q3,mx4]
 ·obtain⟨a,b⟩:=zz q;rw[hz a,gz b];rfl
theorem VR.wi{B:List Pc}{f:Nat}{hd:Hd}{s:Sz}{c d:Nat}(h:VR B f hd s c d):VR B f hd (Q5 s) (c+1) (d+1):=by
 have h0:=h.n0;have h1:=h.n1;refine⟨h0,by simp only[Q5];split<;>omega,fun q=>?_,fun q b' i h' e=>?_,fun q=>?_⟩
 ·have a1:=h.a q;simp only[Q5];omega
 ·obtain⟨m,e2,r1,r2,r3⟩:=h.b q b' i h' e;have:(s.2.2.1 !=0)=true:=by simpa[Q5]using q
  refine⟨m,e2,r1,?_,?_⟩
  ·simp only[Q5];omega
  ·simp only[Q5,this,if_true];omega
 ·have q':s.2.2.1=0:=q;simp[Q5,q']
theorem VR.zero(B:List Pc)(f:Nat)(hd:Hd):VR B f hd (0,0,0,0) 0 0:=⟨by decide,by decide,fun _=>⟨rfl,rfl⟩,fun q=>absurd rfl q,fun _=>rfl⟩
theorem VR.leaf(B:List Pc)(f:Nat)(hd:Hd):VR B f hd (1,1,0,0) 1 1:=⟨by decide,by decide,fun _=>⟨rfl,rfl⟩,fun q=>absurd rfl q,fun _=>rfl⟩
theorem VR.use{B:List Pc}{f:Nat}{hd:Hd}{p s:Sz}{b:j7}{c d:Nat}(h:VR B f (.cons b 0 hd) p c d)(g:∀m e,cX B f b hd=some (m,e)->VR B f hd s m e)(s0:0<=s.2.2.1/\0<=s.2.2.2):VR B f hd (Ud p s) c d:=by
 have h0:=h.n0;have h1:=h.n1;unfold Ud
 by_cases p0:p.2.2.1=0
 ·rw[if_pos p0];have a1:=h.a (.inl p0);exact⟨acO _,acO _,fun _=>a1,fun q=>absurd rfl q,fun _=>rfl⟩
 ·rw[if_neg p0];obtain⟨m,e,r1,r2,r3⟩:=h.b p0 b 0 hd rfl;have G:=g m e r1;have pp:0<p.2.2.1:=by omega
  have mz:p.2.2.1 * s.2.2.1=0↔s.2.2.1=0:=by
   constructor
   ·intro z;rcases Int.mul_eq_zero.mp z with y|y
    ·exact(p0 y).elim
    ·exact y
   ·intro z;rw[z,Int.mul_zero]
  refine⟨afD h0 s0.1,by dsimp only;split<;>omega,fun q=>?_,fun q b' i h' e'=>?_,fun q=>?_⟩
  ·have a2:=G.a (q.imp mz.mp id);refine⟨?_,?_⟩
   ·rw[r2,a2.1]
   ·dsimp only;rw[r3,WY,a2.2]
  ·have sn:s.2.2.1≠0:=fun z=>q (mz.mpr z);obtain⟨m',e2,q1,q2,q3⟩:=G.b sn b' i h' e';have t:(s.2.2.1 !=0)=true:=by simpa using sn
   refine⟨m',e2,q1,?_,?_⟩
   ·dsimp only;rw[r2,q2,Int.mul_add,Int.mul_assoc];omega
   ·dsimp only;rw[r3,q3,t,WY,if_pos rfl,mx5,ahx]
  ·have:s.2.2.1=0:=mz.mp q;simp[this]
def nn(s:Sz):Prop:=0<=s.2.2.1/\0<=s.2.2.2
theorem LF{s t:Sz}(h:nn s)(g:nn t):nn (Tg s t):=by unfold nn Tg at*;dsimp only;refine⟨by omega,?_⟩;split<;>omega
theorem zu{s:Sz}(h:nn s):nn (Q5 s):=by unfold nn Q5 at*;dsimp only;refine⟨h.1,?_⟩;split<;>omega
theorem LD{p s:Sz}(h:nn p)(g:nn s):nn (Ud p s):=by
 unfold Ud
 split
 ·exact⟨acO _,acO _⟩
 ·refine⟨afD h.1 g.1,?_⟩;unfold nn at h g;dsimp only;split<;>omega
mutual
theorem Nl{S:List Nat->Sz}(hS:∀x,nn (S x)):∀n:Nd,nn (O3 S n)
 |.loop _ _ b _=>by rw[O3];exact zu (yf hS b ⟨acO _,acO _⟩)
 |.choice _ y z=>by rw[O3];exact zu (yf hS z (yf hS y ⟨acO _,acO _⟩))
 |.use x _=>by rw[O3];exact zu ⟨acO _,acO _⟩
 |.j8 x _ _ b=>by rw[O3];exact zu (LD (hS x) (yf hS b ⟨acO _,acO _⟩))
 |.body _=>⟨aex afg,aex afg⟩
 |.text _=>⟨acO _,acO _⟩
 |.place _ _=>⟨acO _,acO _⟩
theorem yf{S:List Nat->Sz}(hS:∀x,nn (S x)):∀(b:j7){a:Sz},nn a->nn (Ou S a b)
 |.nil,a,h=>by rw[Ou];exact h
 |.cons n r,a,h=>by rw[Ou];exact yf hS r (LF h (Nl hS n))
end
theorem HH(B:List Pc)(S:List Nat->Sz)(hN:∀x,nn (S x))(hS:∀x q,look B x=some q->S x=Ou S (0,0,0,0) q.b):∀(f:Nat)(b:j7)(hd:Hd)(c d:Nat),cX B f b hd=some (c,d)->VR B f hd (Ou S (0,0,0,0) b) c d
 |0,_,_,_,_,h=>by cases h
 |f+1,b,hd,c,d,h=>by
  have ih:=HH B S hN hS f
  have node:∀(n:Nd)(c d:Nat),K5 B (cX B f) hd n=some (c,d)->VR B f hd (O3 S n) c d:=fun n c d hn=>by
   have up:∀{o:Option (Nat×Nat)},RM o=some (c,d)->∃c' d',o=some (c',d')/\c=c'+1/\d=d'+1:=fun{o} z=>by
    cases o with
    |none=>cases z
    |some a=>cases z;exact⟨_,_,rfl,rfl,rfl⟩
   cases n with
   |loop x p b t=>obtain⟨c',d',e,rfl,rfl⟩:=up hn;rw[O3];exact(ih b hd c' d' e).wi
   |choice p y z=>obtain⟨c',d',e,rfl,rfl⟩:=up hn;rw[O3,<- xK];exact(ih (J6 y z) hd c' d' e).wi
   |use x ps=>
    rw[K5]at hn
    cases l:look B x with
    |none=>rw[l]at hn;cases hn
    |some q=>rw[l]at hn;obtain⟨c',d',e,rfl,rfl⟩:=up hn;have:=(ih q.b .nil c' d' e).a (.inr rfl);rw[O3];refine VR.wi ⟨acO _,acO _,fun _=>?_,fun q=>absurd rfl q,fun _=>rfl⟩;rw[hS x q l];exact this
   |j8 x ps hs b=>
    rw[K5]at hn
    cases l:look B x with
    |none=>rw[l]at hn;cases hn
    |some q=>rw[l]at hn;obtain⟨c',d',e,rfl,rfl⟩:=up hn;rw[O3];refine VR.wi (VR.use (b:=b) (by rw[hS x q l];exact ih q.b (.cons b 0 hd) c' d' e) (fun m e he=>ih b hd m e he) (yf hN b ⟨acO _,acO _⟩))
   |body ps=>
    cases hd with
    |nil=>
     cases hn
     exact⟨aex afg,aex afg,fun _=>⟨rfl,rfl⟩,fun _ b' i h' z=>(by cases z),fun z=>(agn z).elim⟩
    |cons b' i h'=>
     obtain⟨c',d',e,rfl,rfl⟩:=up hn;refine⟨aex afg,aex afg,fun z=>?_,fun _ b2 i2 h2 z=>?_,fun z=>(agn z).elim⟩
     ·rcases z with z|z
      ·exact(agn z).elim
      ·cases z
     ·cases z
      refine⟨c',d',e,?_,?_⟩
      ·show((c'+1:Nat):Int)=1+1 * (c':Int);omega
      ·show((d'+1:Nat):Int)=max 1 (1+(d':Int));omega
   |text s=>cases hn;exact VR.leaf B f hd
   |place p s=>cases hn;exact VR.leaf B f hd
  have row:∀(b:j7)(a:Sz)(c0 d0 c d:Nat),VR B f hd a c0 d0->cR (K5 B (cX B f) hd) b=some (c,d)->VR B f hd (Ou S a b) (c0+c) (max d0 d):=fun b=>by
   induction b using j7.rec (motive_1:=fun _=>True)with
   |nil=>intro a c0 d0 c d h z;cases z;rw[Ou];simpa using h
   |cons n r _ ihr=>
    intro a c0 d0 c d h z;rw[cR]at z
    cases e1:K5 B (cX B f) hd n with
    |none=>rw[e1]at z;cases z
    |some x=>
     cases e2:cR (K5 B (cX B f) hd) r with
     |none=>rw[e1,e2]at z;cases z
     |some y=>
      rw[e1,e2]at z
      cases z
      have:=ihr (Tg a (O3 S n)) (c0+x.1) (max d0 x.2) y.1 y.2 (h.side (node n x.1 x.2 e1)) e2;rw[Ou,<- afT,<- ae8];exact this
   |_=>trivial
  have:=row b (0,0,0,0) 0 0 c d (VR.zero B f hd) h;rw[adU,Nat.max_eq_right (acu _)]at this;exact this.mono
mutual
theorem Ip{S T:List Nat->Sz}{kn:List (List Nat)}(h:∀x∈kn,S x=T x):∀n:Nd,Pq kn n=true->O3 S n=O3 T n
 |.loop _ _ b _,u=>by rw[Pq]at u;rw[O3,O3,oM h b u]
 |.choice _ y z,u=>by rw[Pq,ab5]at u;rw[O3,O3,oM h y u.1,oM h z u.2]
 |.use x _,u=>by rw[Pq,acL]at u;rw[O3,O3,h x u]
 |.j8 x _ _ b,u=>by rw[Pq,ab5,acL]at u;rw[O3,O3,oM h b u.2,h x u.1]
 |.body _,_=>rfl
 |.text _,_=>rfl
 |.place _ _,_=>rfl
theorem oM{S T:List Nat->Sz}{kn:List (List Nat)}(h:∀x∈kn,S x=T x):∀(b:j7){a:Sz},Ph kn b=true->Ou S a b=Ou T a b
 |.nil,a,_=>by rw[Ou,Ou]
 |.cons n r,a,u=>by rw[Ph,ab5]at u;rw[Ou,Ou,Ip h n u.1];exact oM h r u.2
end
theorem zD{S T:List (List Nat×Sz)}{x:List Nat}(h:x∈S.map (·.1)):Om (S++T) x=Om S x:=by
 unfold Om;rw[adA]
 cases e:S.find? fun y=>y.1==x with
 |some y=>rfl
 |none=>obtain⟨y,hy,rfl⟩:=acK.mp h;exact absurd (aeh.mp e y hy) (by simp)
theorem Eu:∀(r:List Pc)(S:List (List Nat×Sz)),∃T,bS S r=S++T
 |[],S=>⟨[],by rw[bS,acH]⟩
 |q::r,S=>by obtain⟨T,e⟩:=Eu r (S++ [(q.n,Ou (Om S) (0,0,0,0) q.b)]);exact⟨_,by rw[bS,e,acG]⟩
theorem HO(len:Nat):∀(r E:List Pc)(S:List (List Nat×Sz)),S.map (·.1)=E.map (·.n)->Rk len E r=none->∀q∈r,Om (bS S r) q.n=Ou (Om (bS S r)) (0,0,0,0) q.b
 |[],_,_,_,_,q,hq=>by cases hq
 |p::r,E,S,hn,hf,q,hq=>by
  rw[Rk]at hf
  split at hf
  ·cases hf
  ·rename_i nc;rw[ac1]at hf;have us:=mY E p.m _ _ _ p.b hf.1;rw[bS];rcases acn.mp hq with z|z
   ·subst z;obtain⟨T,e⟩:=Eu r (S++ [(q.n,Ou (Om S) (0,0,0,0) q.b)])
    have nin:q.n∉S.map (·.1):=fun hm=>by rw[hn,<- acL]at hm;rw[hm]at nc;exact absurd rfl nc
    have k:∀x∈E.map (·.n),Om S x=Om (S++ [(q.n,Ou (Om S) (0,0,0,0) q.b)]++T) x:=fun x hx=>by rw[<- hn]at hx;rw[acG,zD hx]
    rw[e,<- oM k q.b us,zD (by simp)];unfold Om
    rw[adA,aeh.mpr fun y hy=>by intro w;exact nin (acK.mpr ⟨y,hy,aec w⟩)]
    simp
   ·exact HO len r (E++ [p]) _ (by rw[aci,aci,hn];rfl) hf.2 q z
mutual
def O6:Nd->Bool
 |.loop _ _ b _=>M6 b
 |.choice _ y z=>M6 y&&M6 z
 |.j8 _ _ _ b=>M6 b
 |.body _=>false
 |_=>true
def M6:j7->Bool
 |.nil=>true
 |.cons n r=>O6 n&&M6 r
end
theorem Da:∀(y z:j7),M6 (J6 y z)=(M6 y&&M6 z)
 |.nil,z=>by rw[J6,M6];simp
 |.cons n r,z=>by rw[J6,M6,M6,Da r z,afG]
noncomputable def hb(b:j7):Hd->Bool
 |.nil=>M6 b
 |.cons c _ h=>hb c h
mutual
theorem LK(E:List Pc)(w:List Int)(ns:List (List Nat)):∀n:Nd,Pk E none ns n=false->QX E none w ns n=none->O6 n=true
 |.loop x _ b _,_,h=>by rw[QX]at h;rw[O6];exact oV E _ _ _ b h
 |.choice _ y z,_,h=>by rw[QX,ac1]at h;rw[O6,oV E _ _ _ y h.1,oV E _ _ _ z h.2];rfl
 |.j8 _ _ _ b,_,h=>by rw[QX]at h;rw[O6];exact oV E _ _ _ b h
 |.body ps,e,_=>by rw[Pk,adt]at e;exact absurd e.2 (by simp)
 |.use _ _,_,_=>rfl
 |.text _,_,_=>rfl
 |.place _ _,_,_=>rfl
theorem oV(E:List Pc)(w:List Int)(k:Nat)(ns:List (List Nat)):∀b:j7,P_ E none w k ns b=none->M6 b=true
 |.nil,_=>rfl
 |.cons n r,h=>by
  rw[P_]at h
  cases e:Pk E none ns n with
  |true=>rw[e,if_pos rfl]at h;cases h
  |false=>rw[e,if_neg (by decide),ac1]at h;rw[M6,LK E _ _ n e h.1,oV E _ _ _ r h.2];rfl
end
abbrev Mf:=List Nat->Option u9
inductive Hj where
 |nil
 |cons (h:List (List Nat)) (b:j7) (M:Mf) (r:Hj)
noncomputable def er:Hj->Hd
 |.nil=>.nil
 |.cons _ b _ r=>.cons b 0 (er r)
noncomputable def st(M:Mf)(p:u9):Option u9:=match M p.a with
 |some m=>some ⟨m.a,m.f++p.f⟩
 |none=>none
def sts(M:Mf):List u9->Option (List u9)
 |[]=>some []
 |p::r=>match st M p,sts M r with
  |some q,some l=>some (q::l)
  |_,_=>none
noncomputable def up1(M:Mf)(x:List Nat)(v:u9):Mf:=fun y=>if y=x then some v else M y
def J4(M:Mf):List (List Nat)->List u9->Mf
 |x::r,v::t=>J4 (up1 M x v) r t
 |_,_=>M
noncomputable def no:Mf:=fun _=>none
def QB(n:Nat):List Nat:=118::jb n
def jR(g:Nat->Nd->Option (List Nd×Nat)):Nat->List Nd->j7->Option (List Nd×Nat)
 |lp,acc,.nil=>some (acc,lp)
 |lp,acc,.cons n r=>match g lp n with
  |some m=>jR g m.2 (m.1.foldl bV acc) r
  |none=>none
def jN(B:List Pc)(rec:Nat->j7->Mf->Hj->Option (List Nd×Nat))(M:Mf)(hd:Hj)(lp:Nat):Nd->Option (List Nd×Nat)
 |.text s=>some ([.text s],lp)
 |.place p w=>match st M p with
  |some q=>some ([.place q w],lp)
  |none=>none
 |.loop x p b t=>match st M p,rec (lp+1) b (up1 M x ⟨QB lp,[]⟩) hd with
  |some q,some l=>some ([.loop (QB lp) q (G8 l.1) t],l.2)
  |_,_=>none
 |.choice p y z=>match st M p,rec lp y M hd with
  |some q,some l=>match rec l.2 z M hd with
   |some k=>some ([.choice q (G8 l.1) (G8 k.1)],k.2)
   |none=>none
  |_,_=>none
 |.use x ps=>match look B x,sts M ps with
  |some q,some vs=>rec lp q.b (J4 no q.ns vs) .nil
  |_,_=>none
 |.j8 x ps h b=>match look B x,sts M ps with
  |some q,some vs=>rec lp q.b (J4 no q.ns vs) (.cons h b M hd)
  |_,_=>none
 |.body ps=>match hd with
  |.nil=>none
  |.cons h b M0 r=>match sts M ps with
   |some vs=>rec lp b (J4 M0 h vs) r
   |none=>none
def J(B:List Pc):Nat->Nat->j7->Mf->Hj->Option (List Nd×Nat)
 |0=>fun _ _ _ _=>none
 |f+1=>fun lp b M hd=>jR (jN B (J B f) M hd) lp [] b
theorem gq{M:Mf}:∀{ps vs:List u9},sts M ps=some vs->vs.length=ps.length
 |[],_,e=>by cases e;rfl
 |p::r,vs,e=>by
  rw[sts]at e
  split at e
  ·cases e;simp[gq ‹_›]
  ·cases e
theorem eN{X:Cx}{ps:List u9}(h:Qq X ps=true):∀p∈ps,p.a∈X.2.2:=fun p hp=>by unfold Qq at h;exact acL.mp (aco.mp h p hp)
theorem Hp{B:List Pc}{x:List Nat}{q:Pc}{l:Nat}{h:Option Int}(e:look B x=some q)(ok:QH (B.map O5) x l h=true):q.ns.length=l/\q.m=h:=by obtain⟨q',e',a,b⟩:=lG ok;rw[e]at e';cases e';exact⟨a,b⟩
theorem yN(x:PV)(r:List PV)(h:List PO):jq (.tup (x::r)) (some 1) none h=.ok (.tup r) h:=by
 have e1:HT.M4 (x::r).length 0 (some 1)=1:=by have:=HT.QL (x::r).length 0 1;rw[show((1:Nat):Int)=1 from rfl]at this;rw[this,acw];omega
 have e2:HT.M4 (x::r).length (x::r).length none=(x::r).length:=rfl;unfold jq;dsimp only;rw[if_neg (by rw[e1];intro z;cases z.1)];unfold cut;rw[e1,e2];simp
theorem mZ{v:PV}(h:List PO)(p:v.pure=true):gA v h=.ok v:=by unfold gA;rw[gy h p]
noncomputable def J7(d:List (PK×PV))(b:PV):PV:=.tup [.dct d,b]
theorem vL(d:List (PK×PV))(k k':PK)(v:PV):dI (dP d k v) k'=if k'=k then some v else dI d k':=by
 have hit:∀l:List (PK×PV),(l.any fun kv=>decide (kv.1=k))=true->dI (l.map fun kv=>if kv.1=k then(kv.1,v)else kv) k'=if k'=k then some v else dI l k':=by
  intro l
  induction l with
  |nil=>intro h;cases h
  |cons a r ih=>
   intro h
   by_cases e:a.1=k
   ·by_cases e2:k'=k
    ·rw[if_pos e2];unfold dI;rw[ab7,if_pos e,adz (by simp[e,e2])];rfl
    ·rw[if_neg e2]
     have miss:∀t:List (PK×PV),dI (t.map fun kv=>if kv.1=k then(kv.1,v)else kv) k'=dI t k':=by
      intro t
      induction t with
      |nil=>rfl
      |cons b t it=>
       unfold dI at it |-;rw[ab7]
       by_cases f:b.1=k
       ·rw[if_pos f,acT (by simp[f];exact fun z=>e2 z.symm),acT (by simp[f];exact fun z=>e2 z.symm)];exact it
       ·rw[if_neg f]
        by_cases g:b.1=k'
        ·rw[adz (by simp[g]),adz (by simp[g])]
        ·rw[acT (by simp[g]),acT (by simp[g])];exact it
     exact miss (a::r)
   ·have h':(r.any fun kv=>decide (kv.1=k))=true:=by simpa[adM,e]using h
    have i2:=ih h';unfold dI at i2 |-;rw[ab7,if_neg e]
    by_cases g:a.1=k'
    ·have:k'≠k:=fun z=>e (g.trans z);rw[if_neg this,adz (by simp[g]),adz (by simp[g])]
    ·rw[acT (by simp[g]),acT (by simp[g])];exact i2
 unfold dP
 split
 ·rename_i h;exact hit d h
 ·rename_i h;unfold dI;rw[adA];have VN:∀x∈d,x.1≠k:=fun x hx z=>h (af2.mpr ⟨x,hx,by simp[z]⟩)
  by_cases e:k'=k
  ·rw[if_pos e];have:d.find? (fun kv=>decide (kv.1=k'))=none:=aeh.mpr fun x hx=>by simp[e];exact VN x hx
   rw[this,e];simp
  ·rw[if_neg e];have: [(k,v)].find? (fun kv=>decide (kv.1=k'))=none:=by simp;exact fun z=>e z.symm
   rw[this,Option.or_none]
theorem Lj(k:Nat)(x:List Nat)(r:List PV)(a:PV)(ref:List PV)(d:List (PK×PV))(b:PV)(e:dI d (.inr x)=some (.tup (a::ref)))(hd:(PV.dct d).pure=true)(hr:ar r=true)(hf:ar (a::ref)=true)(hl:ref.length+r.length<=1000):F (k+1) .j_ [.tup (.str x::r),J7 d b]=.ok (.tup (a::ref++r)):=by
 show bz (jj (F k)) 2 2 [.tup (.str x::r),.tup [.dct d,b]]=_;have q:(PV.tup (a::ref)).pure=true:=by simpa[PV.pure]using hf
 have ad:aI (.tup (a::ref)) (.tup r) []=.ok (.tup (a::ref++r)) []:=by show(if(a::ref).isEmpty=false/\(a::ref).length+r.length<=sizeLine then Res.ok (PV.tup (a::ref++r)) []else .bad)=_;rw[if_pos ⟨rfl,ace (by rw[acw];omega:(a::ref).length+r.length<=1001) (by decide)⟩]
 simp only[EV,bz,jj,Qa,yN,aL _ hd,e,aL _ q,ad];refine mZ _ ?_;rw[PV.pure]
 have pa:∀(l m:List PV),ar l=true->ar m=true->ar (l++m)=true:=fun l m hl hm=>by
  induction l with
  |nil=>exact hm
  |cons x t ih=>rw[ar,ab5]at hl;rw[acB,ar,hl.1,ih hl.2];rfl
 exact pa _ _ hf hr
theorem iP:∀(d:List (PK×PV))(k:PK)(v:PV),aW d=true->v.pure=true->aW (dP d k v)=true:=by
 intro d k v hd hv
 have mp:∀l:List (PK×PV),aW l=true->aW (l.map fun kv=>if kv.1=k then(kv.1,v)else kv)=true:=by
  intro l
  induction l with
  |nil=>intro _;rfl
  |cons a r ih=>
   intro h;obtain⟨a1,a2⟩:=a;rw[aW,ab5]at h;rw[ab7]
   by_cases e:a1=k
   ·rw[if_pos e,aW,hv,ih h.2];rfl
   ·rw[if_neg e,aW,h.1,ih h.2];rfl
 have ap:∀l:List (PK×PV),aW l=true->aW (l++ [(k,v)])=true:=by
  intro l
  induction l with
  |nil=>intro _;show aW [(k,v)]=true;rw[aW,hv];rfl
  |cons a r ih=>intro h;obtain⟨a1,a2⟩:=a;rw[aW,ab5]at h;rw[acB,aW,h.1,ih h.2];rfl
 unfold dP
 split
 ·exact mp d hd
 ·exact ap d hd
theorem Cq{d:List (PK×PV)}(hd:(PV.dct d).pure=true)(k:PK){v:PV}(hv:v.pure=true):(PV.dct (dP d k v)).pure=true:=by rw[PV.pure]at hd |-;exact iP d k v hd hv
theorem Gk(k:Nat)(x:List Nat)(m:List PV)(d:List (PK×PV))(b:PV)(hd:(PV.dct d).pure=true)(hb:b.pure=true)(hm:ar m=true)(hl:d.length<=1000):F (k+1) .q8 [.str x,.tup m,J7 d b]=.ok (J7 (dP d (.inr x) (.tup m)) b):=by
 have q:(PV.tup m).pure=true:=by simpa[PV.pure]using hm
 have l2:d.length<16777216:=acU hl (by decide);show bz (fP (F k)) 3 4 [.str x,.tup m,.tup [.dct d,b]]=_;simp only[Res.Qn,Eg,aeM,ade,adL,aeg,ab7,acM,acH,acC,acB,if_true,if_false,reduceIte,Bool.not_true,ahv,ac6,ahw,aem,Bool.and_false,agh,aea,aeV,ae9,Bool.not_not,eq_self_iff_true,true_and,and_true,aej,reduceCtorEq,acw,adg,List.replicate,Nat.sub_self,adU,agS,agT,Nat.reduceAdd,Nat.reduceLeDiff,Int.reduceLT,Int.reduceLE,decide_true,decide_false,szl,Int.reduceNeg,Int.reducePow,Nat.reducePow,Int.reduceAdd,Int.reduceMul,Int.reduceSub,Nat.reduceSub,and_self,Nat.reduceMul,Nat.reduceEqDiff,kv0,kv1,kv2,kv3,kv4,kv5,kv6,kv7,kv8,kv9,Nq,Np,No,NI,Me,Mg,Md,Mr,Mb,Ke,FZ,Mp,JF,LZ,Ml,Jn,JB,Jz,Jy,Ec,Dv,Nz,Mc,Mm,Ga,FS,Jv,Mh,FT,Mo,FU,Jw,Jk,Ju,AW,Mj,Gb,Dy,JE,GK,zF,Hm,Lk,Im,FX,Jx,Gd,Eb,Du,JD,Ge,Jm,JA,FW,ks0,ks1,ks2,ks3,ks4,ks5,ks6,ks7,ks8,ks9,Nx,Nv,Nu,FY,JC,Kg,Ks,MZ,Ko,Kp,Km,Kq,Ku,GP,Il,IZ,Lw,LI,KF,NC,Gg,Mv,LW,Mn,LX,LY,Dl,Ht,Ji,FK,Ij,IM,Fy,MG,Fa,yP,Gh,JS,Lg,Lf,vf,EQ,Dt,Jt,Js,Jr,Ma,FV,He,Am,MY,Iu,Mz,Jo,JG,Mq,MQ,Ny,NA,NH,Jl,Lm,Hn,Jh,Dw,LN,Be,AD,GY,Nn,Ka,Nr,Jp,Bf,Ed,Kw,Kt,LP,Lh,Fb,Gw,Gv,Gu,Gy,DM,Bb,CR,GL,LR,GR,My,MI,MX,LO,Dx,Kk,Kv,CP,zn,IX,IY,IQ,Fs,FG,FF,IP,HU,bz,fP,Qa,at1,aL _ hd,aL _ q,aL _ hb,l2,zO _ (show aW (dP d (.inr x) (.tup m))=true from iP d _ _ (by rw[PV.pure]at hd;exact hd) q)]
 refine mZ _ ?_;rw[PV.pure,ar,ar,hb,Cq hd _ q];rfl
abbrev Tr:=List Nat×List PV×List PV
def Qh(acc:List (PK×PV)):List Tr->List (PK×PV)
 |[]=>acc
 |t::r=>Qh (dP acc (.inr t.1) (.tup t.2.2)) r
theorem tR(k:Nat)(a b c:Option PV)(S:PV)(hS:S.pure=true):∀(ts:List Tr)(acc:List (PK×PV))(x y:Option PV),(∀t∈ts,F k .j_ [.tup t.2.1,S]=.ok (.tup t.2.2)/\ar t.2.1=true/\ar t.2.2=true)->acc.length+ts.length<=1000->
  ∃x' y',aN abJ (eV (F k)) (Ss (ts.map fun t=>PV.str t.1) (ts.map fun t=>PV.tup t.2.1)) [some (.ref 0),b,c,some S,x,y] [.dct acc]=.nx [some (.ref 0),b,c,some S,x',y'] [.dct (Qh acc ts)]
 |[],acc,x,y,_,_=>⟨x,y,rfl⟩
 |t::r,acc,x,y,h,hl=>by
  obtain⟨e,p1,p2⟩:=h t acv;have l2:acc.length<16777216:=acU (by rw[acw]at hl;omega:acc.length<=1000) (by decide)
  have pl:(dP acc (.inr t.1) (.tup t.2.2)).length<=acc.length+1:=by
   unfold dP
   split
   ·rw[ab9];omega
   ·rw[acs];exact ab8 _
  obtain⟨x',y',lp⟩:=tR k a b c S hS r (dP acc (.inr t.1) (.tup t.2.2)) (some (.str t.1)) (some (.tup t.2.1)) (fun u hu=>h u (acg _ hu)) (by rw[acw]at hl;omega);refine⟨x',y',?_⟩;rw[ab7,ab7,Ss];have q:(PV.tup t.2.1).pure=true:=by simpa[PV.pure]using p1
  have q2:(PV.tup t.2.2).pure=true:=by simpa[PV.pure]using p2
  have z:∀hh,bO (F k .j_) [.tup t.2.1,S] hh=.ok (.tup t.2.2) hh:=fun hh=>bp hh (by simp[ar,q,hS]) e;refine(cP rfl ?_).trans lp;simp only[EV,eV,aL _ q,aL _ hS,z,l2]
theorem Dz(n:Nat):∀d:List (PK×PV),aW d=true->(d.all fun x=>R_ n x.2)=true
 |[],_=>rfl
 |(a,b)::r,h=>by rw[aW,ab5]at h;rw[adN,Dz n r h.2,aem];exact wP h.1
theorem lN:∀(ts:List Tr)(acc:List (PK×PV)),aW acc=true->(∀t∈ts,ar t.2.2=true)->aW (Qh acc ts)=true
 |[],_,h,_=>h
 |t::r,acc,h,g=>lN r _ (iP acc _ _ h (by have:=g t acv;simpa[PV.pure]using this)) fun u hu=>g u (acg _ hu)
def Vn(k:Nat)(S:PV)(ts:List Tr):Prop:=∀t∈ts,F k .j_ [.tup t.2.1,S]=.ok (.tup t.2.2)/\ar t.2.1=true/\ar t.2.2=true
noncomputable def RQ(ts:List Tr):PV:=.tup (ts.map fun t=>PV.str t.1)
noncomputable def Sw(ts:List Tr):PV:=.tup (ts.map fun t=>PV.tup t.2.1)
theorem kW:∀ts:List Tr,(RQ ts).pure=true
 |[]=>rfl
 |_::r=>by have:=kW r;unfold RQ at this |-;rw[PV.pure]at this |-;rw[ab7,ar,this];rfl
theorem kU{k:Nat}{S:PV}:∀{ts:List Tr},Vn k S ts->(Sw ts).pure=true
 |[],_=>rfl
 |t::r,h=>by
  have:=kU (ts:=r) fun u hu=>h u (acg _ hu);have q:(PV.tup t.2.1).pure=true:=by have:=(h t acv).2.1;simpa[PV.pure]using this
  unfold Sw at this |-;rw[PV.pure]at this |-;rw[ab7,ar,this,q];rfl
theorem hand(k:Nat)(S:PV)(hS:S.pure=true)(ts:List Tr)(acc:List (PK×PV))(h:Vn k S ts)(ha:aW acc=true)(hl:acc.length+ts.length<=1000):X_ (k+1) .m7 [.ref 0,RQ ts,Sw ts,S] [.dct acc]=.ok (.ref 0) [.dct (Qh acc ts)]:=by
 obtain⟨x',y',lp⟩:=tR k none (some (RQ ts)) (some (Sw ts)) S hS ts acc none none h hl;show gH (ft (F k)) 4 6 [.ref 0,RQ ts,Sw ts,S] [.dct acc]=_;have z:∀hh,Bo [RQ ts,Sw ts] hh=.ok (Ss (ts.map fun t=>PV.str t.1) (ts.map fun t=>PV.tup t.2.1)) hh:=fun hh=>rfl;simp only[EV,gH,ft,aL _ (kW ts),aL _ (kU h),z,lp]
 have e:([PO.dct (Qh acc ts)].take 1).all (SJ 1)=true:=by show((Qh acc ts).all (fun x=>R_ 1 x.2)&&true)=true;rw[Dz 1 _ (lN ts acc ha fun t ht=>(h t ht).2.2)];rfl
 show xf 1 (.ref 0) [.dct (Qh acc ts)]=_;unfold xf;rw[if_pos (show R_ 1 (PV.ref 0)=true from rfl)];unfold xk;rw[e];rfl
theorem JJ(k:Nat)(S hs bd a b c e m nn:PV)(hS:S.pure=true)(ts:List Tr)(h:Vn k S ts)(hl:ts.length<=1000)(p1:hs.pure=true)(p2:bd.pure=true)(nb:kJ bd=false)(fz:a.pure=true/\b.pure=true/\c.pure=true/\e.pure=true/\m.pure=true/\nn.pure=true):
  F (k+2) .o8 [.tup [a,b,Sw ts,hs,bd],.tup [c,e,RQ ts,m,nn],S]=.ok (J7 (Qh [] ts) (.tup [hs,bd,S])):=by
 have w:=hand k S hS ts [] h rfl (by rw[adg];omega);show bz (eh (F (k+1)) (X_ (k+1))) 3 4 [.tup [a,b,Sw ts,hs,bd],.tup [c,e,RQ ts,m,nn],S]=_;have pk:=lN ts [] rfl fun t ht=>(h t ht).2.2;simp only[EV,bz,eh,at2,SQ,Wq,aL _ hS,aL _ p1,aL _ p2,aL _ (kW ts),aL _ (kU h),nb,w,zO _ pk];refine mZ _ ?_;simp only[PV.pure,ar,pk,p1,p2,hS];rfl
theorem Gj(k:Nat)(S hs a b c e m nn:PV)(hS:S.pure=true)(ts:List Tr)(h:Vn k S ts)(hl:ts.length<=1000):
  F (k+2) .o8 [.tup [a,b,Sw ts,hs,.non],.tup [c,e,RQ ts,m,nn],S]=.ok (J7 (Qh [] ts) .non):=by
 have w:=hand k S hS ts [] h rfl (by rw[adg];omega);show bz (eh (F (k+1)) (X_ (k+1))) 3 4 [.tup [a,b,Sw ts,hs,.non],.tup [c,e,RQ ts,m,nn],S]=_;have pk:=lN ts [] rfl fun t ht=>(h t ht).2.2;simp only[EV,bz,eh,at2,SQ,Wq,aL _ hS,aL _ (kW ts),aL _ (kU h),tf,w,zO _ pk];refine mZ _ ?_;simp only[PV.pure,ar,pk];rfl
theorem Gm(k:Nat)(d0:List (PK×PV))(b0 hs bd:PV)(D:List (PK×PV))(p0:aW d0=true)(pb:b0.pure=true)(ps:hs.pure=true)(pd:bd.pure=true)(pD:aW D=true)(ts:List Tr)(hh:hs=RQ ts)(h:Vn k (J7 D (.tup [hs,bd,J7 d0 b0])) ts)(hl:d0.length+ts.length<=1000):
  F (k+2) .q9 [Sw ts,J7 D (.tup [hs,bd,J7 d0 b0])]=.ok (J7 (Qh d0 ts) b0):=by
 have hS:(J7 D (.tup [hs,bd,J7 d0 b0])).pure=true:=by simp only[J7,PV.pure,ar,pD,ps,pd,p0,pb];rfl
 have q1:(PV.tup [hs,bd,J7 d0 b0]).pure=true:=by simp only[J7,PV.pure,ar,ps,pd,p0,pb];rfl
 have q2:(J7 d0 b0).pure=true:=by simp only[J7,PV.pure,ar,p0,pb];rfl
 have q3:(PV.dct d0).pure=true:=by rw[PV.pure];exact p0
 have w:=hand k _ hS ts d0 h p0 hl;have pk:=lN ts d0 p0 fun t ht=>(h t ht).2.2;subst hh;have i1:∀g,d7 (J7 D (.tup [RQ ts,bd,J7 d0 b0])) (.int 1) g=.ok (.tup [RQ ts,bd,J7 d0 b0]) g:=fun g=>by show Res.ok (aq g _) g=_;rw[aL g q1]
 have i2:∀g,d7 (J7 d0 b0) (.int 0) g=.ok (.dct d0) g:=fun g=>rfl;have i3:∀g,d7 (J7 d0 b0) (.int 1) g=.ok b0 g:=fun g=>by show Res.ok (aq g b0) g=_;rw[aL g pb]
 show bz (fQ (F (k+1)) (X_ (k+1))) 2 4 [Sw ts,J7 D (.tup [RQ ts,bd,J7 d0 b0])]=_;simp only[EV,bz,fQ,Qa,at1,at2,i1,i2,i3,aL _ hS,aL _ q1,aL _ q2,aL _ (kW ts),aL _ (kU h),w,zO _ pk];refine mZ _ ?_;simp only[PV.pure,ar,pk,pb];rfl
theorem EC(k:Nat)(acc:List Nd)(n:Nd)(hl:acc.length<1000000)(ht:Od acc+Q6 n<=1000000):fj (F k) [some (.ref 0),some (nd n)] [.lst (acc.map nd)]=.nx [some (.ref 0),some (nd n)] [.lst ((bV acc n).map nd)]:=by
 have d0:∀xs:List PV,aq [.lst xs] (.ref 0)=.ref 0:=fun xs=>rfl;have li:∀xs,dZ [.lst xs] (.ref 0)=true:=fun _=>rfl;have tr:∀xs:List PV,uv [.lst xs] (.ref 0)=some (!xs.isEmpty):=fun _=>rfl
 have ap:bD (.ref 0) [nd n] [.lst (acc.map nd)]=.ok .non [.lst ((acc++ [n]).map nd)]:=by rw[KJ,if_pos (by rw[ab9];exact adK hl (by decide)),aci];rfl
 cases t:Rr n with
 |false=>rw[qI t];simp only[EX,fj,wY,t,d0,li,ap]
 |true=>
  obtain⟨s,rfl⟩:∃s,n=.text s:=by cases n<;>first|exact⟨_,rfl⟩|cases t
  rcases ac7 acc with rfl|⟨B,m,rfl⟩
  ·rw[pP];have e0:(!(([]:List Nd).map nd).isEmpty)=false:=rfl;simp only[acM]at ap e0 |-;simp only[EX,fj,wY,t,d0,li,tr,e0,ap]
  ·rw[ac8]at ap hl ht |-;have e0:(!((B++ [m]).map nd).isEmpty)=true:=by simp
   have V1:d7 (.ref 0) (.int (-1)) [.lst ((B++ [m]).map nd)]=.ok (nd m) [.lst ((B++ [m]).map nd)]:=by
    show(match O_ ((B++ [m]).map nd) (-1)with|some v=>Res.ok (aq [.lst ((B++ [m]).map nd)] v) [.lst ((B++ [m]).map nd)]|none=>.bad)=_;have q:O_ ((B++ [m]).map nd) (-1)=some (nd m):=by rw[aci];exact vC _ _
    rw[q];show Res.ok (aq _ (nd m)) _=_;rw[jI]
   cases tm:Rr m with
   |false=>rw[pO tm];simp only[EX,fj,wY,t,tm,d0,li,tr,e0,V1,ap]
   |true=>
    obtain⟨u,rfl⟩:∃u,m=.text u:=by cases m<;>first|exact⟨_,rfl⟩|cases tm
    rw[kB];have al:u.length+s.length<=16777216:=by rw[gU]at ht;simp only[Od,ab7,acM,acZ,aeQ,Q6]at ht;omega
    have st:∀ ρ v,iN v (.ref 0) (.int (-1)) ρ [.lst ((B++ [Nd.text u]).map nd)]=.nx ρ [.lst (B.map nd++ [v])]:=fun ρ v=>by
     show(match Sd ((B++ [Nd.text u]).map nd).length (-1)with|some j=>SR.nx ρ [.lst (((B++ [Nd.text u]).map nd).set j v)]|none=>.bad)=_;have:Sd ((B++ [Nd.text u]).map nd).length (-1)=some B.length:=by unfold Sd;simp;omega
     rw[this];dsimp only;rw[aci]
     congr 3
     rw[ad3 _ _ (by simp)];simp
    have i1:∀z h,d7 (nd (.text z)) (.int 1) h=.ok (.str z) h:=fun z h=>by rw[nd];rfl
    have ma:(B++ [Nd.text (u++s)]).map nd=B.map nd++ [.tup [.str tT,.str (u++s)]]:=by simp[nd]
    simp only[EX,fj,wY,t,tm,d0,li,tr,e0,V1,st,i1,al,ma]
theorem KN(k:Nat)(acc:List Nd)(n:Nd)(hl:acc.length<1000000)(ht:Od acc+Q6 n<=1000000):L (k+1) .J0 [.ref 0,nd n] [.lst (acc.map nd)]=.ok .non [.lst ((bV acc n).map nd)]:=by
 have r2:L (k+1) .J0 [.ref 0,nd n] [.lst (acc.map nd)]=match fj (F k) [some (.ref 0),some (nd n)] [.lst (acc.map nd)]with|.nx _ h1=>gB 1 .non h1|.rt v h1=>eO 1 v h1|_=>.bad:=rfl
 rw[r2,EC k acc n hl ht];show(if(aO [PO.lst ((bV acc n).map nd)]&&true)=true then _ else _)=_;have:aO [PO.lst ((bV acc n).map nd)]=true:=by simp[aO,PO.pure,bu]
 rw[this];rfl
def pD(B:List Pc):List (PK×PV):=B.map fun q=>(Sum.inr q.n,pc q)
def hJ(D0:PV)(lp:Nat)(B:List Pc)(t:List PO):List PO:=.J8 D0::.obj 602 [.int (lp:Nat),.ref 2]::.dct (pD B)::t
theorem ze:∀B:List Pc,aW (pD B)=true
 |[]=>rfl
 |q::r=>by show((pc q).pure&&aW (pD r))=true;rw[fN,ze r];rfl
theorem Ho(x:List Nat):∀B:List Pc,dI (pD B) (.inr x)=(look B x).map pc
 |[]=>rfl
 |q::r=>by
  have ih:=Ho x r;unfold dI look pD at*;rw[ab7,adh,adh]
  by_cases e:q.n=x
  ·subst e;simp
  ·have e1:decide ((Sum.inr q.n:PK)=.inr x)=false:=decide_eq_false fun z=>e (by injection z);have e2:(q.n==x)=false:=beq_eq_false_iff_ne.mpr e;rw[e1,e2];exact ih
section
variable{D0:PV}{lp:Nat}{B:List Pc}{t:List PO}
theorem yn:sV 602 (hJ D0 lp B t) (.ref 1)=some (1,[.int (lp:Nat),.ref 2]):=rfl
theorem yp:aq (hJ D0 lp B t) (.ref 1)=.ref 1:=rfl
theorem MM:uQ 602 1 (.ref 1) (hJ D0 lp B t)=.ok (.ref 2) (hJ D0 lp B t):=rfl
theorem NG:uQ 602 0 (.ref 1) (hJ D0 lp B t)=.ok (.int (lp:Nat)) (hJ D0 lp B t):=rfl
theorem ML{x:List Nat}{q:Pc}(e:look B x=some q):d7 (.ref 2) (.str x) (hJ D0 lp B t)=.ok (pc q) (hJ D0 lp B t):=by show(match dI (pD B) (.inr x)with|some v=>Res.ok (aq (hJ D0 lp B t) v) (hJ D0 lp B t)|none=>.bad)=_;rw[Ho,e];show Res.ok (aq (hJ D0 lp B t) (pc q)) _=_;rw[aL _ (fN q)]
theorem NF(n:Nat)(ρ:Ev):BW 602 0 (.int (n:Nat)) (.ref 1) ρ (hJ D0 lp B t)=.nx ρ (hJ D0 n B t):=rfl
theorem MV{v:PV}(t2:List PO)(hv:v.pure=true)(ht:aO t=true):xf (3+t.length) v (hJ D0 lp B (t++t2))=.ok v (hJ D0 lp B t):=by
 have tk:(hJ D0 lp B (t++t2)).take (3+t.length)=hJ D0 lp B t:=by unfold hJ;rw[aes,aeA,aeA,aeA,ahs]
 have al:(hJ D0 lp B t).all (SJ (3+t.length))=true:=by
  show(true&&(SJ (3+t.length) (.obj 602 [.int (lp:Nat),.ref 2])&&(SJ (3+t.length) (.dct (pD B))&&t.all (SJ (3+t.length)))))=true;rw[Z.mf ht];have a:SJ (3+t.length) (.obj 602 [.int (lp:Nat),.ref 2])=true:=by simp[SJ,R_,PV.pure];omega
  have b:SJ (3+t.length) (.dct (pD B))=true:=Dz _ _ (ze B);rw[a,b];rfl
 unfold xf;rw[if_pos (wP hv)];unfold xk;rw[tk,al,if_pos (by rw[ac6];exact Nat.ble_eq_true_of_le (by simp only[hJ,acw,acs];omega))]
theorem pT{v:PV}(hv:v.pure=true)(ht:aO t=true):xf (3+t.length) v (hJ D0 lp B t)=.ok v (hJ D0 lp B t):=by
 have:=MV (D0:=D0) (lp:=lp) (B:=B) [] hv ht
 rwa [acH]at this
end
section
variable{D0:PV}
structure MO(f:Nat)(d:List (PK×PV))(M:Mf):Prop where
 r:∀x,dI d (.inr x)=(M x).map G3
 p:aW d=true
 l:d.length+10 * f<=500
 w:∀x q,M x=some q->sg q.a=true/\N5 q.f=true/\q.f.length+10 * f<=500
theorem yM{f k:Nat}{d:List (PK×PV)}{M:Mf}{p q:u9}{v:PV}(h:MO f d M)(hp:wp p=true)(e:st M p=some q):F (k+1) .j_ [G3 p,J7 d v]=.ok (G3 q):=by
 unfold st at e
 split at e
 ·rename_i m em
  cases e
  have w:=(h.w _ _ em).2.2;unfold wp at hp;simp only[ab5,decide_eq_true_eq]at hp;have:=Lj k p.a (p.f.map PV.str) (.str m.a) (m.f.map PV.str) d v (by rw[h.r,em];rfl) (by rw[PV.pure];exact h.p) (eK _) (by rw[ar,eK];rfl) (by simp;omega);unfold G3;rw[this,aci];rfl
 ·cases e
theorem EU{f:Nat}{d:List (PK×PV)}{M:Mf}{p q:u9}(h:MO (f+1) d M)(hp:wp p=true)(e:st M p=some q):sg q.a=true/\N5 q.f=true/\q.f.length+10 * f<=500:=by
 unfold st at e
 split at e
 ·rename_i m em
  cases e
  obtain⟨a,b,c⟩:=h.w _ _ em;unfold wp at hp;simp only[ab5,decide_eq_true_eq]at hp;refine⟨a,?_,by simp;omega⟩;unfold N5 at*;rw[afo,b,hp.2.1];rfl
 ·cases e
theorem eA{d:List (PK×PV)}{v:PV}(h:aW d=true)(hv:v.pure=true):(J7 d v).pure=true:=by simp only[J7,PV.pure,ar,h,hv];rfl
theorem Cp(k lp:Nat)(B:List Pc)(t:List PO)(ht:aO t=true)(s:List Nat)(S:PV)(hS:S.pure=true):X_ (k+1) .g_ [.ref 1,nd (.text s),S] (hJ D0 lp B t)=.ok (.tup [nd (.text s)]) (hJ D0 lp B t):=by
 show gH (aQ (F k) (X_ k)) 3 8 [.ref 1,nd (.text s),S] (hJ D0 lp B t)=_;simp only[EX,gH,aQ];have e:(hJ D0 lp B t).length=3+t.length:=by simp[hJ];omega
 rw[e];exact pT (by simp[PV.pure,ar,ch]) ht
theorem AI(k f lp:Nat)(B:List Pc)(t:List PO)(ht:aO t=true)(p q:u9)(w:List Nat){d:List (PK×PV)}{M:Mf}{v:PV}(h:MO f d M)(hv:v.pure=true)(hp:wp p=true)(e:st M p=some q):X_ (k+2) .g_ [.ref 1,nd (.place p w),J7 d v] (hJ D0 lp B t)=.ok (.tup [nd (.place q w)]) (hJ D0 lp B t):=by
 have z:∀h,bO (F (k+1) .j_) [G3 p,J7 d v] h=.ok (G3 q) h:=fun g=>bp g (by rw[ar,eG,ar,eA h.p hv];rfl) (yM h hp e);show gH (aQ (F (k+1)) (X_ (k+1))) 3 8 [.ref 1,nd (.place p w),J7 d v] (hJ D0 lp B t)=_;simp only[EX,gH,aQ,aL _ (eA h.p hv),z];have e:(hJ D0 lp B t).length=3+t.length:=by simp[hJ];omega
 rw[e];show xf _ (.tup [nd (.place q w)]) _=_;exact pT (by simp[PV.pure,ar,ch]) ht
theorem ER(n:Nat)(h:n<=1000):(jb (n:Int)).length<=1000:=by
 have:∀n:Nat,n<=1000->((jb (n:Int)).length<=1000):=by decide+kernel
 exact this n h
theorem xW(k f lp l1 l2:Nat)(B:List Pc)(t:List PO)(ht:aO t=true)(p q:u9)(y z:j7)(ly lz:List Nd){d:List (PK×PV)}{M:Mf}{v:PV}(h:MO f d M)(hv:v.pure=true)(hp:wp p=true)(e:st M p=some q)
  (e1:X_ (k+1) .b_ [.ref 1,.tup (d8 y),J7 d v] (hJ D0 lp B t)=.ok (.tup (ly.map nd)) (hJ D0 l1 B t)) (e2:X_ (k+1) .b_ [.ref 1,.tup (d8 z),J7 d v] (hJ D0 l1 B t)=.ok (.tup (lz.map nd)) (hJ D0 l2 B t)):
  X_ (k+2) .g_ [.ref 1,nd (.choice p y z),J7 d v] (hJ D0 lp B t)=.ok (.tup [nd (.choice q (G8 ly) (G8 lz))]) (hJ D0 l2 B t):=by
 have w:∀h,bO (F (k+1) .j_) [G3 p,J7 d v] h=.ok (G3 q) h:=fun g=>bp g (by rw[ar,eG,ar,eA h.p hv];rfl) (yM h hp e);have p1:(PV.tup (ly.map nd)).pure=true:=by rw[PV.pure];exact bu _
 have p2:(PV.tup (lz.map nd)).pure=true:=by rw[PV.pure];exact bu _
 show gH (aQ (F (k+1)) (X_ (k+1))) 3 8 [.ref 1,nd (.choice p y z),J7 d v] (hJ D0 lp B t)=_;simp only[EX,gH,aQ,aL _ (eA h.p hv),w,yn,yp,e1,e2,aL _ p1,aL _ p2];have e:(hJ D0 lp B t).length=3+t.length:=by simp[hJ];omega
 rw[e];have np:nd (.choice q (G8 ly) (G8 lz))=.tup [.str tC,G3 q,.tup (ly.map nd),.tup (lz.map nd)]:=by rw[nd,eR,eR]
 rw[<- np];exact pT (by simp[PV.pure,ar,ch]) ht
theorem Cr(k f lp l1:Nat)(B:List Pc)(t:List PO)(ht:aO t=true)(x:List Nat)(p q:u9)(b:j7)(s:List Nat)(l:List Nd){d:List (PK×PV)}{M:Mf}{v:PV}(h:MO f d M)(hv:v.pure=true)(hp:wp p=true)(hl:lp<=1000)(e:st M p=some q)
  (e1:X_ (k+1) .b_ [.ref 1,.tup (d8 b),J7 (dP d (.inr x) (.tup [.str (QB lp)])) v] (hJ D0 (lp+1) B t)=.ok (.tup (l.map nd)) (hJ D0 l1 B t)):
  X_ (k+3) .g_ [.ref 1,nd (.loop x p b s),J7 d v] (hJ D0 lp B t)=.ok (.tup [nd (.loop (QB lp) q (G8 l) s)]) (hJ D0 l1 B t):=by
 have hd:(PV.dct d).pure=true:=by rw[PV.pure];exact h.p
 have dl:=h.l;have w:∀h,bO (F (k+1) .j_) [G3 p,J7 d v] h=.ok (G3 q) h:=fun g=>bp g (by rw[ar,eG,ar,eA h.p hv];rfl) (yM h hp e);have sl:∀h,bO (F (k+1) .q8) [.str x,.tup [.str (QB lp)],J7 d v] h=.ok (J7 (dP d (.inr x) (.tup [.str (QB lp)])) v) h:=fun g=>bp g (by rw[ar,ar,ar,eA h.p hv];rfl) (Gk k x [.str (QB lp)] d v hd hv rfl (by omega));have p1:(PV.tup (l.map nd)).pure=true:=by rw[PV.pure];exact bu _
 have lg:((lp:Nat):Int).natAbs.log2<1920:=by
  have:(lp:Int).natAbs=lp:=by omega
  rw[this];exact acU (Nat.log2_le_self lp) (by omega)
 have vn:∀g,aI (.str [118]) (.str (jb (lp:Int))) g=.ok (.str (QB lp)) g:=fun g=>by have:(jb (lp:Int)).length<=1000:=ER lp hl;show(if 1+(jb (lp:Int)).length<=sizeLine then Res.ok (PV.str (QB lp)) g else .bad)=_;rw[if_pos (ace (by omega:_<=1001) (by decide))]
 have ad:∀g,aI (.int (lp:Nat)) (.int 1) g=.ok (.int ((lp+1:Nat):Nat)) g:=fun g=>rfl
 have lp2:X_ (k+2) .f9 [.ref 1,nd (.loop x p b s),J7 d v] (hJ D0 lp B t)=.ok (nd (.loop (QB lp) q (G8 l) s)) (hJ D0 l1 B t):=by
  show gH (dO (F (k+1)) (X_ (k+1))) 3 5 [.ref 1,nd (.loop x p b s),J7 d v] (hJ D0 lp B t)=_;simp only[EX,gH,dO,aL _ (eA h.p hv),w,sl,yn,yp,NG,NF,lg,vn,ad,e1,aL _ p1];have e:(hJ D0 lp B t).length=3+t.length:=by simp[hJ];omega
  rw[e];have np:nd (.loop (QB lp) q (G8 l) s)=.tup [.str tL,.str (QB lp),G3 q,.tup (l.map nd),.str s]:=by rw[nd,eR]
  rw[<- np];exact pT (ch _) ht
 show gH (aQ (F (k+2)) (X_ (k+2))) 3 8 [.ref 1,nd (.loop x p b s),J7 d v] (hJ D0 lp B t)=_;simp only[EX,gH,aQ,aL _ (eA h.p hv),yn,yp,lp2];have e:(hJ D0 lp B t).length=3+t.length:=by simp[hJ];omega
 rw[e];exact pT (by simp[PV.pure,ar,ch]) ht
end
section
variable{D0:PV}
abbrev Vm(p:u9):List PV:=.str p.a::p.f.map PV.str
theorem wx(p:u9):ar (Vm p)=true:=by rw[ar,eK];rfl
noncomputable def QG:List (List Nat)->List u9->List u9->List Tr
 |x::r,p::a,v::b=>(x,Vm p,Vm v)::QG r a b
 |_,_,_=> []
theorem yK:∀(ns:List (List Nat))(ps vs:List u9),ns.length=ps.length->vs.length=ps.length->RQ (QG ns ps vs)=nms ns/\Sw (QG ns ps vs)=.tup (dG ps)/\(QG ns ps vs).length=ns.length
 |[],[],[],_,_=>⟨rfl,rfl,rfl⟩
 |x::r,p::a,v::b,h,g=>by
  obtain⟨e1,e2,e3⟩:=yK r a b (by simpa using h) (by simpa using g);unfold RQ Sw nms dG at*;simp only[QG,ab7,acw,e3];injection e1 with e1
  injection e2 with e2
  rw[e1,e2];exact⟨rfl,rfl,trivial⟩
theorem uw{f k:Nat}{d:List (PK×PV)}{M:Mf}{v:PV}(h:MO f d M):∀(ns:List (List Nat))(ps vs:List u9),(∀p∈ps,wp p=true)->sts M ps=some vs->Vn (k+1) (J7 d v) (QG ns ps vs)
 |[],_,_,_,_=>fun t ht=>(nomatch ht)
 |x::r,[],_,_,e=>fun t ht=>by cases e;cases ht
 |x::r,p::a,vs,hp,e=>by
  rw[sts]at e
  split at e
  ·rename_i q l e1 e2
   cases e
   intro t ht;rcases acn.mp ht with z|z
   ·subst z;exact⟨yM h (hp p (by simp)) e1,wx _,wx _⟩
   ·exact uw h r a l (fun q hq=>hp q (by simp[hq])) e2 t z
  ·cases e
theorem yL{f:Nat}{d:List (PK×PV)}{M:Mf}(h:MO (f+1) d M):∀(ps vs:List u9),(∀p∈ps,wp p=true)->sts M ps=some vs->∀q∈vs,sg q.a=true/\N5 q.f=true/\q.f.length+10 * f<=500
 |[],_,_,e=>by cases e;intro q hq;cases hq
 |p::a,vs,hp,e=>by
  rw[sts]at e
  split at e
  ·rename_i q l e1 e2
   cases e
   intro x hx;rcases acn.mp hx with z|z
   ·subst z;exact EU h (hp p (by simp)) e1
   ·exact yL h a l (fun q hq=>hp q (by simp[hq])) e2 x z
  ·cases e
theorem jD(d:List (PK×PV))(k:PK)(v:PV):(dP d k v).length<=d.length+1:=by unfold dP;split<;>simp
theorem MO.mono{f:Nat}{d:List (PK×PV)}{M:Mf}(h:MO (f+1) d M):MO f d M:=⟨h.r,h.p,by have:=h.l;omega,fun x q e=>by obtain⟨a,b,c⟩:=h.w x q e;exact⟨a,b,by omega⟩⟩
theorem MO.put{f:Nat}{d:List (PK×PV)}{M:Mf}(x:List Nat){v:u9}(r:∀x,dI d (.inr x)=(M x).map G3)(p:aW d=true)(l:d.length+1+10 * f<=500)(w:∀x q,M x=some q->sg q.a=true/\N5 q.f=true/\q.f.length+10 * f<=500)(hv:sg v.a=true/\N5 v.f=true/\v.f.length+10 * f<=500):MO f (dP d (.inr x) (G3 v)) (up1 M x v):=by
 refine⟨fun y=>?_,iP _ _ _ p (eG v),by have:=jD d (.inr x) (G3 v);omega,fun y q e=>?_⟩
 ·rw[vL];unfold up1
  by_cases e:y=x
  ·subst e;simp
  ·rw[if_neg (fun z=>e (by injection z)),if_neg e];exact r y
 ·unfold up1 at e
  split at e
  ·cases e;exact hv
  ·exact w y q e
theorem MO.hand{f:Nat}:∀(ns:List (List Nat))(ps vs:List u9)(d:List (PK×PV))(M:Mf),ns.length=ps.length->vs.length=ps.length->(∀x,dI d (.inr x)=(M x).map G3)->aW d=true->d.length+ns.length+10 * f<=500->(∀x q,M x=some q->sg q.a=true/\N5 q.f=true/\q.f.length+10 * f<=500)->(∀q∈vs,sg q.a=true/\N5 q.f=true/\q.f.length+10 * f<=500)->MO f (Qh d (QG ns ps vs)) (J4 M ns vs)
 |[],[],[],d,M,_,_,r,p,l,w,_=>⟨r,p,by have:d.length+0+10 * f<=500:=l;exact this,w⟩
 |x::rr,q::a,v::b,d,M,h,g,r,p,l,w,z=>by have m:=MO.put (f:=f) x r p (by simp at l;omega) w (z v (by simp));rw[QG,Qh,J4];refine MO.hand rr a b _ _ (by simpa using h) (by simpa using g) m.r m.p ?_ m.w fun y hy=>z y (by simp[hy]);have:=jD d (.inr x) (G3 v);simp at l;show(dP d (.inr x) (G3 v)).length+rr.length+10 * f<=500;omega
theorem jH(b:j7):(PV.tup (d8 b)).pure=true:=by rw[PV.pure];exact aU b
theorem Fl(k f lp l1:Nat)(B:List Pc)(t:List PO)(ht:aO t=true)(x:List Nat)(ps vs:List u9)(q:Pc)(l:List Nd){d:List (PK×PV)}{M:Mf}{v:PV}(h:MO f d M)(hv:v.pure=true)(hp:∀p∈ps,wp p=true)(hq:look B x=some q)(hn:q.ns.length=ps.length)(hl:ps.length<=100)(e:sts M ps=some vs)
  (e1:X_ (k+3) .b_ [.ref 1,.tup (d8 q.b),J7 (Qh [] (QG q.ns ps vs)) .non] (hJ D0 lp B t)=.ok (.tup (l.map nd)) (hJ D0 l1 B t)):
  X_ (k+4) .g_ [.ref 1,nd (.use x ps),J7 d v] (hJ D0 lp B t)=.ok (.tup (l.map nd)) (hJ D0 l1 B t):=by
 have hS:=eA h.p hv;obtain⟨t1,t2,t3⟩:=yK q.ns ps vs hn (gq e);have iu:=Gj (k+1) (J7 d v) .non (.str tU) (.str x) (.str tI) (.str q.n) (H7 q.m) (.tup (d8 q.b)) hS (QG q.ns ps vs) (uw h q.ns ps vs hp e) (by omega);rw[t1,t2]at iu;have sc:∀g,bO (F (k+3) .o8) [nd (.use x ps),pc q,J7 d v] g=.ok (J7 (Qh [] (QG q.ns ps vs)) .non) g:=fun g=>bp g (by rw[ar,ch,ar,fN,ar,hS];rfl) (by rw[nd];exact iu);show gH (aQ (F (k+3)) (X_ (k+3))) 3 8 [.ref 1,nd (.use x ps),J7 d v] (hJ D0 lp B t)=_;simp only[EX,gH,aQ,aL _ hS,yn,yp,MM,ML hq,sc,e1];have e:(hJ D0 lp B t).length=3+t.length:=by simp[hJ];omega
 rw[e];exact pT (by rw[PV.pure];exact bu l) ht
theorem Co(k f lp l1:Nat)(B:List Pc)(t:List PO)(ht:aO t=true)(x:List Nat)(ps vs:List u9)(hs:List (List Nat))(b:j7)(q:Pc)(l:List Nd){d:List (PK×PV)}{M:Mf}{v:PV}(h:MO f d M)(hv:v.pure=true)(hp:∀p∈ps,wp p=true)(hq:look B x=some q)(hn:q.ns.length=ps.length)(hl:ps.length<=100)(e:sts M ps=some vs)
  (e1:X_ (k+3) .b_ [.ref 1,.tup (d8 q.b),J7 (Qh [] (QG q.ns ps vs)) (.tup [nms hs,.tup (d8 b),J7 d v])] (hJ D0 lp B t)=.ok (.tup (l.map nd)) (hJ D0 l1 B t)):
  X_ (k+4) .g_ [.ref 1,nd (.j8 x ps hs b),J7 d v] (hJ D0 lp B t)=.ok (.tup (l.map nd)) (hJ D0 l1 B t):=by
 have hS:=eA h.p hv;obtain⟨t1,t2,t3⟩:=yK q.ns ps vs hn (gq e);have iu:=JJ (k+1) (J7 d v) (nms hs) (.tup (d8 b)) (.str tU) (.str x) (.str tI) (.str q.n) (H7 q.m) (.tup (d8 q.b)) hS (QG q.ns ps vs) (uw h q.ns ps vs hp e) (by omega) (cC _) (jH b) rfl ⟨rfl,rfl,rfl,rfl,nT q.m,jH q.b⟩;rw[t1,t2]at iu;have sc:∀g,bO (F (k+3) .o8) [nd (.j8 x ps hs b),pc q,J7 d v] g=.ok (J7 (Qh [] (QG q.ns ps vs)) (.tup [nms hs,.tup (d8 b),J7 d v])) g:=fun g=>bp g (by rw[ar,ch,ar,fN,ar,hS];rfl) (by rw[nd];exact iu);show gH (aQ (F (k+3)) (X_ (k+3))) 3 8 [.ref 1,nd (.j8 x ps hs b),J7 d v] (hJ D0 lp B t)=_;simp only[EX,gH,aQ,aL _ hS,yn,yp,MM,ML hq,sc,e1];have e:(hJ D0 lp B t).length=3+t.length:=by simp[hJ];omega
 rw[e];exact pT (by rw[PV.pure];exact bu l) ht
theorem Cs(k f lp l1:Nat)(B:List Pc)(t:List PO)(ht:aO t=true)(ps vs:List u9)(hs:List (List Nat))(b:j7)(l:List Nd){d d0:List (PK×PV)}{M:Mf}{v:PV}(h:MO f d M)(p0:aW d0=true)(hv:v.pure=true)(hp:∀p∈ps,wp p=true)(hn:hs.length=ps.length)(hl:d0.length+ps.length<=1000)(e:sts M ps=some vs)
  (e1:X_ (k+3) .b_ [.ref 1,.tup (d8 b),J7 (Qh d0 (QG hs ps vs)) v] (hJ D0 lp B t)=.ok (.tup (l.map nd)) (hJ D0 l1 B t)):
  X_ (k+4) .g_ [.ref 1,nd (.body ps),J7 d (.tup [nms hs,.tup (d8 b),J7 d0 v])] (hJ D0 lp B t)=.ok (.tup (l.map nd)) (hJ D0 l1 B t):=by
 obtain⟨t1,t2,t3⟩:=yK hs ps vs hn (gq e);have q1:(PV.tup [nms hs,.tup (d8 b),J7 d0 v]).pure=true:=by rw[PV.pure,ar,ar,ar,cC,jH,eA p0 hv];rfl
 have hS:=eA h.p q1;have ib:=Gm (k+1) d0 v (nms hs) (.tup (d8 b)) d p0 hv (cC _) (jH b) h.p (QG hs ps vs) t1.symm (uw h hs ps vs hp e) (by omega);rw[t2]at ib;have i1:∀g,d7 (J7 d (.tup [nms hs,.tup (d8 b),J7 d0 v])) (.int 1) g=.ok (.tup [nms hs,.tup (d8 b),J7 d0 v]) g:=fun g=>by show Res.ok (aq g _) g=_;rw[aL g q1]
 have i2:∀g,d7 (.tup [nms hs,.tup (d8 b),J7 d0 v]) (.int 1) g=.ok (.tup (d8 b)) g:=fun g=>by show Res.ok (aq g _) g=_;rw[aL g (jH b)]
 have pp:(PV.tup (dG ps)).pure=true:=by rw[PV.pure];exact aT ps
 have sc:∀g,bO (F (k+3) .q9) [.tup (dG ps),J7 d (.tup [nms hs,.tup (d8 b),J7 d0 v])] g=.ok (J7 (Qh d0 (QG hs ps vs)) v) g:=fun g=>bp g (by rw[ar,pp,ar,hS];rfl) ib;show gH (aQ (F (k+3)) (X_ (k+3))) 3 8 [.ref 1,nd (.body ps),J7 d (.tup [nms hs,.tup (d8 b),J7 d0 v])] (hJ D0 lp B t)=_;simp only[EX,gH,aQ,MB,aL _ hS,aL _ q1,yn,yp,i1,i2,sc,e1];have e:(hJ D0 lp B t).length=3+t.length:=by simp[hJ];omega
 rw[e];exact pT (by rw[PV.pure];exact bu l) ht
end
mutual
def wF:Nd->Bool
 |.text s=>sg s
 |.place p w=>sg p.a&&(N5 p.f&&sg w)
 |.loop n p b t=>sg n&&(sg p.a&&(N5 p.f&&(T4 b&&sg t)))
 |.choice p y z=>sg p.a&&(N5 p.f&&(T4 y&&T4 z))
 |_=>false
def T4:j7->Bool
 |.nil=>true
 |.cons n r=>wF n&&T4 r
end
structure FO(x:List Nd)(c d:Nat):Prop where
 l:x.length<=c
 t:Od x<=1000 * c
 w:∀n∈x,wF n=true/\dN n<=d
theorem FO.le{l:List Nd}{c d c' d':Nat}(h:FO l c d)(hc:c<=c')(hd:d<=d'):FO l c' d':=⟨ace h.l hc,ace h.t (aez _ hc),fun n hn=>⟨(h.w n hn).1,ace (h.w n hn).2 hd⟩⟩
theorem FO.nil:FO [] 0 0:=⟨ab8 _,ab8 _,fun _ h=>(nomatch h)⟩
theorem pN(l:List Nd)(n:Nd):(bV l n).length<=l.length+1/\Od (bV l n)=Od l+Q6 n/\∀d,(∀x∈l,wF x=true/\dN x<=d)->wF n=true/\dN n<=d->∀x∈bV l n,wF x=true/\dN x<=d:=by
 have ap:(l++ [n]).length<=l.length+1/\Od (l++ [n])=Od l+Q6 n/\∀d,(∀x∈l,wF x=true/\dN x<=d)->wF n=true/\dN n<=d->∀x∈l++ [n],wF x=true/\dN x<=d:=
  ⟨by simp,by rw[gU];rfl,fun d h g x hx=>(acz.mp hx).elim (h x) fun z=>by rw[acp.mp z];exact g⟩
 cases t:Rr n with
 |false=>rw[qI t];exact ap
 |true=>
  obtain⟨s,rfl⟩:∃s,n=.text s:=by cases n<;>first|exact⟨_,rfl⟩|cases t
  rcases ac7 l with rfl|⟨B,m,rfl⟩
  ·rw[pP];exact ap
  ·rw[ac8]at ap |-
   cases tm:Rr m with
   |false=>rw[pO tm];exact ap
   |true=>
    obtain⟨u,rfl⟩:∃u,m=.text u:=by cases m<;>first|exact⟨_,rfl⟩|cases tm
    rw[kB];refine⟨by simp,?_,fun d h g x hx=>?_⟩
    ·rw[gU,gU];simp only[Od,ab7,acM,acZ,aeQ,Q6,acs];omega
    ·rcases acz.mp hx with z|z
     ·exact h x (adf _ z)
     ·rw[acp.mp z];have a:=(h (.text u) (by simp)).1;have b:=g.1;rw[wF]at a b |-;exact⟨BU a b,acu _⟩
theorem rY:∀(m acc:List Nd),(m.foldl bV acc).length<=acc.length+m.length/\Od (m.foldl bV acc)=Od acc+Od m/\∀d,(∀x∈acc,wF x=true/\dN x<=d)->(∀x∈m,wF x=true/\dN x<=d)->∀x∈m.foldl bV acc,wF x=true/\dN x<=d
 |[],acc=>⟨ab8 _,by simp[Od],fun d h _=>h⟩
 |n::r,acc=>by obtain⟨a1,a2,a3⟩:=pN acc n;obtain⟨b1,b2,b3⟩:=rY r (bV acc n);rw[ad4];refine⟨by simp;omega,?_,fun d h g=>b3 d (a3 d h (g n (by simp))) fun x hx=>g x (by simp[hx])⟩;rw[b2,a2];simp only[Od,ab7,acZ];omega
theorem FO.add{m acc:List Nd}{c d c0 d0:Nat}(h:FO acc c0 d0)(g:FO m c d):FO (m.foldl bV acc) (c0+c) (max d0 d):=by obtain⟨a,b,e⟩:=rY m acc;have:=h.l;have:=g.l;have:=h.t;have:=g.t;exact⟨by omega,by rw[b];omega,e _ (fun x hx=>⟨(h.w x hx).1,ace (h.w x hx).2 (ado _ _)⟩) fun x hx=>⟨(g.w x hx).1,ace (g.w x hx).2 (adi _ _)⟩⟩
theorem zN(D0:PV)(lp:Nat)(B:List Pc)(t:List PO)(o:PO):(hJ D0 lp B (t++ [o]))[3+t.length]? =some o:=by unfold hJ;rw[aes,ade,ade,ade,acP (ab8 _)];simp
theorem JO(D0:PV)(lp:Nat)(B:List Pc)(t:List PO)(o o':PO):(hJ D0 lp B (t++ [o])).set (3+t.length) o'=hJ D0 lp B (t++ [o']):=by unfold hJ;rw[aes,aeg,aeg,aeg,ad3 _ _ (ab8 _)];simp
theorem xw(D0:PV)(K lp:Nat)(B:List Pc)(t:List PO)(C:CC)(a b:Option PV)(S x4:Option PV):∀(m acc:List Nd)(x5:Option PV),acc.length+m.length<1000000->Od acc+Od m<=1000000->∃y5,aN (z_ 5) (bY C (L (K+1))) (m.map nd) [a,b,S,some (.ref (3+t.length)),x4,x5] (hJ D0 lp B (t++ [.lst (acc.map nd)]))=.nx [a,b,S,some (.ref (3+t.length)),x4,y5] (hJ D0 lp B (t++ [.lst ((m.foldl bV acc).map nd)]))
 |[],acc,x5,_,_=>⟨x5,rfl⟩
 |n::r,acc,x5,hl,ht=>by
  have tl:Od (n::r)=Q6 n+Od r:=by simp[Od]
  rw[tl]at ht;obtain⟨a1,a2,_⟩:=pN acc n;rw[acw]at hl;obtain⟨y5,e⟩:=xw D0 K lp B t C a b S x4 r (bV acc n) (some (nd n)) (by omega) (by omega);refine⟨y5,?_⟩;have cl:=cS (fn:=L (K+1) .J0) [] [nd n] (h:=hJ D0 lp B (t++ [.lst (acc.map nd)])) (i:=3+t.length) (o:=.lst (acc.map nd)) (o':=.lst ((bV acc n).map nd)) (v:=.non) rfl (by rw[ar,ch];rfl) (zN D0 lp B t _) (by simp[PO.pure,bu]) (KN K acc n (by omega) (by omega)) rfl (by simp[PO.pure,bu]);rw[JO]at cl;have dr:aq (hJ D0 lp B (t++ [.lst (acc.map nd)])) (.ref (3+t.length))=.ref (3+t.length):=Kr (zN D0 lp B t _)
  have st:bY C (L (K+1)) [a,b,S,some (.ref (3+t.length)),x4,some (nd n)] (hJ D0 lp B (t++ [.lst (acc.map nd)]))=.nx [a,b,S,some (.ref (3+t.length)),x4,some (nd n)] (hJ D0 lp B (t++ [.lst ((bV acc n).map nd)])):=by have W9:w6 (L (K+1) .J0) [.ref (3+t.length),nd n] (hJ D0 lp B (t++ [.lst (acc.map nd)]))=.ok .non (hJ D0 lp B (t++ [.lst ((bV acc n).map nd)])):=cl;simp only[EX,bY,dr,W9]
  rw[ab7,ad4];exact adT (cP rfl st) e
theorem yZ{o:PO}:∀{t:List PO},aO t=true->o.pure=true->aO (t++ [o])=true
 |[],_,h=>by show(o.pure&&true)=true;rw[h];rfl
 |a::r,h,g=>by rw[aO,ab5]at h;show(a.pure&&aO (r++ [o]))=true;rw[h.1,yZ h.2 g];rfl
inductive No0(B:List Pc)(f:Nat)(M:Mf)(hd:Hj)(S:PV)(K:Nat)(n:Nd)(lp c d:Nat):Prop where
 |mk (l:List Nd)(Qg:Nat)(_:jN B (J B f) M hd lp n=some (l,Qg))(_:Qg<=lp+c)(_:FO l c d)(_:∀(D0:PV) t,aO t=true->X_ K .g_ [.ref 1,nd n,S] (hJ D0 lp B t)=.ok (.tup (l.map nd)) (hJ D0 Qg B t))
def NO(B:List Pc)(f:Nat)(M:Mf)(hd:Hj)(S:PV)(K:Nat)(X:Cx):Prop:=∀(n:Nd)(lp c d:Nat),K5 B (cX B f) (er hd) n=some (c,d)->okN X n=true->wN n=true->lp+c<=900->No0 B f M hd S K n lp c d
inductive Ce0(B:List Pc)(f K:Nat)(M:Mf)(hd:Hj)(S:PV)(bv:Option PV)(b:j7)(lp:Nat)(acc:List Nd)(c d c0 d0:Nat):Prop where
 |mk (l:List Nd)(Qg:Nat)(_:jR (jN B (J B f) M hd) lp acc b=some (l,Qg))(_:Qg<=lp+c)(_:FO l (c0+c) (max d0 d))(_:∀(D0:PV) t,aO t=true->∀x4 x5,∃y4 y5,aN (z_ 4) (bK (F (K+1)) (L (K+1)) (X_ (K+1))) (d8 b) [some (.ref 1),bv,some S,some (.ref (3+t.length)),x4,x5] (hJ D0 lp B (t++ [.lst (acc.map nd)]))=.nx [some (.ref 1),bv,some S,some (.ref (3+t.length)),y4,y5] (hJ D0 Qg B (t++ [.lst (l.map nd)])))
theorem Ce{B:List Pc}{f K:Nat}{M:Mf}{hd:Hj}{S:PV}{X:Cx}(no:NO B f M hd S (K+1) X)(hS:S.pure=true)(bv:Option PV):∀(b:j7)(lp:Nat)(acc:List Nd)(c d c0 d0:Nat),cR (K5 B (cX B f) (er hd)) b=some (c,d)->u_ X b=true->wS b=true->lp+c<=900->c0+c<=900->FO acc c0 d0->
  Ce0 B f K M hd S bv b lp acc c d c0 d0
 |.nil,lp,acc,c,d,c0,d0,h,_,_,_,_,fo=>by
  cases h
  exact⟨acc,lp,rfl,ab8 _,fo.le (ab8 _) (ado _ _),fun D0 t ht x4 x5=>⟨x4,x5,rfl⟩⟩
 |.cons n r,lp,acc,c,d,c0,d0,h,ok,w,hl,h0,fo=>by
  rw[cR]at h;rw[u_,ab5]at ok;rw[wS,ab5]at w
  split at h
  ·rename_i a b e1 e2
   cases h
   obtain⟨m,l1,j1,j2,j3,j4⟩:=no n lp a.1 a.2 e1 ok.1 w.1 (by omega);obtain⟨l,l2,k1,k2,k3,k4⟩:=Ce no hS bv r l1 (m.foldl bV acc) b.1 b.2 (c0+a.1) (max d0 a.2) e2 ok.2 w.2 (by omega) (by omega) (fo.add j3);refine⟨l,l2,by rw[jR,j1];exact k1,by omega,k3.le (by omega) (by rw[ae8];exact ab8 _),fun D0 t ht x4 x5=>?_⟩;have pt:aO (t++ [.lst (acc.map nd)])=true:=yZ ht (by simp[PO.pure,bu]);obtain⟨y5,al⟩:=xw D0 K l1 B t (F (K+1)) (some (.ref 1)) bv (some S) (some (nd n)) m acc x5 (by have:=fo.l;have:=j3.l;omega) (by have:=fo.t;have:=j3.t;omega);obtain⟨z4,z5,e⟩:=k4 D0 t ht (some (nd n)) y5;refine⟨z4,z5,?_⟩;have pm:(PV.tup (m.map nd)).pure=true:=by rw[PV.pure];exact bu m
   have st:bK (F (K+1)) (L (K+1)) (X_ (K+1)) [some (.ref 1),bv,some S,some (.ref (3+t.length)),some (nd n),x5] (hJ D0 lp B (t++ [.lst (acc.map nd)]))=.nx [some (.ref 1),bv,some S,some (.ref (3+t.length)),some (nd n),y5] (hJ D0 l1 B (t++ [.lst ((m.foldl bV acc).map nd)])):=by simp only[EX,bK,aL _ hS,yp,yn,j4 D0 _ pt,al]
   rw[d8];exact adT (cP rfl st) e
  ·cases h
inductive Ua(P:List Pe)(f:Nat):Option Int->Hj->PV->Prop where
 |nil:Ua P f none .nil .non
 |cons {h ns:List (List Nat)} {b:j7} {M:Mf} {r:Hj} {d:List (PK×PV)} {v:PV} {m:Option Int} (mo:MO f d M) (cov:∀x∈ns,(M x).isSome=true) (ok:u_ (P,m,ns++h) b=true) (wb:wS b=true) (hl:h.length<=10) (t:Ua P f m r v):Ua P f (some (h.length:Int)) (.cons h b M r) (.tup [nms h,.tup (d8 b),J7 d v])
theorem Ua.mono{P:List Pe}{f:Nat}{m:Option Int}{hd:Hj}{v:PV}(h:Ua P (f+1) m hd v):Ua P f m hd v:=by
 induction h with
 |nil=>exact .nil
 |cons mo cov ok wb hl _ ih=>exact .cons mo.mono cov ok wb hl ih
theorem Ua.pure{P:List Pe}{f:Nat}{m:Option Int}{hd:Hj}{v:PV}(h:Ua P f m hd v):v.pure=true:=by
 induction h with
 |nil=>rfl
 |cons mo _ _ _ _ _ ih=>rw[PV.pure,ar,ar,ar,cC,jH,eA mo.p ih];rfl
structure BO(B:List Pc):Prop where
 r:∀x q,look B x=some q->u_ (B.map O5,q.m,q.ns) q.b=true/\wS q.b=true/\q.ns.length<=10/\∀i,q.m=some i->i<=10
theorem qo{M:Mf}{p:u9}(h:(M p.a).isSome=true):∃q,st M p=some q:=by
 unfold st
 cases e:M p.a with
 |none=>rw[e]at h;cases h
 |some m=>exact⟨_,rfl⟩
theorem nF{M:Mf}:∀{ps:List u9},(∀p∈ps,(M p.a).isSome=true)->∃vs,sts M ps=some vs
 |[],_=>⟨[],rfl⟩
 |p::r,h=>by obtain⟨q,e⟩:=qo (h p (by simp));obtain⟨l,e2⟩:=nF (ps:=r) fun x hx=>h x (by simp[hx]);exact⟨q::l,by rw[sts,e,e2]⟩
theorem kS{a:Option (Nat×Nat)}{c d:Nat}(h:RM a=some (c,d)):∃c' d',a=some (c',d')/\c=c'+1/\d=d'+1:=by
 cases a with
 |none=>cases h
 |some x=>cases h;exact⟨_,_,rfl,rfl,rfl⟩
theorem Et{g:Nd->Option (Nat×Nat)}(z:j7):∀(y:j7)(c d:Nat),cR g (J6 y z)=some (c,d)->∃c1 d1 c2 d2,cR g y=some (c1,d1)/\cR g z=some (c2,d2)/\c=c1+c2/\d1<=d/\d2<=d
 |.nil,c,d,h=>⟨0,0,c,d,rfl,h,by omega,acu _,ab8 _⟩
 |.cons n r,c,d,h=>by
  rw[J6,cR]at h
  split at h
  ·rename_i a b e1 e2;obtain⟨c1,d1,c2,d2,x1,x2,x3,x4,x5⟩:=Et z r b.1 b.2 e2
   cases h
   refine⟨a.1+c1,max a.2 d1,c2,d2,by rw[cR,e1,x1],x2,by omega,?_,?_⟩
   ·exact afw.mpr ⟨ado _ _,ace x4 (adi _ _)⟩
   ·exact ace x5 (adi _ _)
  ·cases h
theorem Ie(n:Nat)(h:n<=1000):sg (QB n)=true:=by
 have:∀n:Nat,n<=1000->sg (QB n)=true:=by decide+kernel
 exact this n h
theorem FO.dS{l:List Nd}{c d:Nat}(h:FO l c d):dS (G8 l)<=d/\T4 (G8 l)=true:=by
 have:=h.w;clear h
 induction l with
 |nil=>exact⟨acu _,rfl⟩
 |cons n r ih=>obtain⟨a,b⟩:=ih fun x hx=>this x (by simp[hx]);obtain⟨a1,b1⟩:=this n (by simp);rw[G8,Qt.dS,T4,a1,b];exact⟨afw.mpr ⟨b1,a⟩,rfl⟩
theorem FO.one{n:Nd}{c d:Nat}(h:wF n=true)(hd:dN n<=d)(hc:1<=c)(ht:Q6 n<=1000 * c):FO [n] c d:=⟨hc,by simpa[Od]using ht,fun x hx=>by rw[acp.mp hx];exact⟨h,hd⟩⟩
theorem qN{ps:List u9}(h:wps ps=true):(∀p∈ps,wp p=true)/\ps.length<60:=by unfold wps at h;rw[ab5,decide_eq_true_eq]at h;exact⟨aco.mp h.1,h.2⟩
theorem xE:∀(h:List (List Nat))(vs:List u9)(M:Mf)(y:List Nat),y∉h->J4 M h vs y=M y
 |[],_,_,_,_=>by unfold J4;rfl
 |x::r,[],_,_,_=>rfl
 |x::r,v::u,M,y,h=>by rw[J4,xE r u _ y fun z=>h (acg _ z),up1,if_neg fun z=>h (by rw[z];exact acv)]
theorem sF:∀(h:List (List Nat))(vs:List u9)(M:Mf),vs.length=h.length->∀y∈h,(J4 M h vs y).isSome=true
 |x::r,v::u,M,l,y,hy=>by
  rw[J4]
  by_cases z:y∈r
  ·exact sF r u _ (by simpa using l) y z
  ·rw[xE r u _ y z];rcases acn.mp hy with e|e
   ·rw[e,up1,if_pos rfl];rfl
   ·exact absurd e z
inductive Es0(B:List Pc)(f K lp:Nat)(b:j7)(d:List (PK×PV))(M:Mf)(hd:Hj)(v:PV)(c dp:Nat):Prop where
 |mk (l:List Nd)(Qg:Nat)(_:J B f lp b M hd=some (l,Qg))(_:Qg<=lp+c)(_:FO l c dp)(_:∀(D0:PV) t,aO t=true->X_ K .b_ [.ref 1,.tup (d8 b),J7 d v] (hJ D0 lp B t)=.ok (.tup (l.map nd)) (hJ D0 Qg B t))
def ES(B:List Pc)(f:Nat):Prop:=∀(K lp:Nat)(b:j7)(d:List (PK×PV))(M:Mf)(hd:Hj)(v:PV)(ns:List (List Nat))(m:Option Int)(c dp:Nat),3 * f+3<=K->cX B f b (er hd)=some (c,dp)->MO f d M->(∀x∈ns,(M x).isSome=true)->Ua (B.map O5) f m hd v->u_ (B.map O5,m,ns) b=true->wS b=true->lp+c<=900->
 Es0 B f K lp b d M hd v c dp
theorem Fw{B:List Pc}(hB:BO B)(f:Nat)(ih:ES B f)(K:Nat)(hK:3 * f+5<=K)(d:List (PK×PV))(M:Mf)(hd:Hj)(v:PV)(ns:List (List Nat))(m:Option Int)(mo:MO (f+1) d M)(cov:∀x∈ns,(M x).isSome=true)(hv:Ua (B.map O5) (f+1) m hd v):NO B f M hd (J7 d v) K (B.map O5,m,ns):=by
 intro n lp c dp hc ok w hl;have pv:=hv.pure;have m1:=mo.mono;have h1:=hv.mono
 cases n with
 |text s=>
  cases hc
  obtain⟨K',rfl⟩:∃K',K=K'+1:=⟨K - 1,by omega⟩
  rw[wN,ab5,decide_eq_true_eq]at w;exact⟨[.text s],lp,rfl,by omega,FO.one (by rw[wF];exact w.1) (acu _) (ab8 _) (by rw[Q6];omega),fun D0 t ht=>Cp K' lp B t ht s _ (eA mo.p pv)⟩
 |place p s=>
  cases hc
  obtain⟨K',rfl⟩:∃K',K=K'+2:=⟨K - 2,by omega⟩
  rw[okN]at ok;rw[wN,ab5]at w;obtain⟨q,e⟩:=qo (cov _ (eN ok p (by simp)));obtain⟨a1,a2,_⟩:=EU mo w.1 e;refine⟨[.place q s],lp,by rw[jN,e],by omega,FO.one ?_ (acu _) (ab8 _) (acu _),fun D0 t ht=>AI K' _ lp B t ht p q s mo pv w.1 e⟩;rw[wF,a1,a2,w.2];rfl
 |loop x p b s=>
  obtain⟨c',d',e0,rfl,rfl⟩:=kS hc;obtain⟨K',rfl⟩:∃K',K=K'+3:=⟨K - 3,by omega⟩
  rw[okN,ab5]at ok;rw[wN,ab5,ab5,ab5]at w;obtain⟨q,e⟩:=qo (cov _ (eN ok.1 p (by simp)));obtain⟨a1,a2,_⟩:=EU mo w.2.1 e;have Xm:=mo.l;have vs:=Ie lp (by omega);have m2:MO f (dP d (.inr x) (G3 ⟨QB lp,[]⟩)) (up1 M x ⟨QB lp,[]⟩):=MO.put x m1.r m1.p (by omega) m1.w ⟨vs,rfl,by simp;omega⟩
  obtain⟨l,l1,j1,j2,j3,j4⟩:=ih (K'+1) (lp+1) b _ _ hd v (ns++ [x]) m c' d' (by omega) e0 m2 (fun y hy=>by
   unfold up1
   by_cases z:y=x
   ·rw[if_pos z];rfl
   ·rw[if_neg z];exact cov y ((acz.mp hy).resolve_right fun q=>z (acp.mp q))) h1 ok.2 w.2.2.1 (by omega)
  obtain⟨f1,f2⟩:=j3.dS;refine⟨[.loop (QB lp) q (G8 l) s],l1,by rw[jN,e,j1],by omega,FO.one ?_ ?_ (by omega) (acu _),fun D0 t ht=>Cr K' _ lp l1 B t ht x p q b s l mo pv w.2.1 (by omega) e (j4 D0 t ht)⟩
  ·rw[wF,vs,a1,a2,f2,w.2.2.2];rfl
  ·rw[dN];omega
 |choice p y z=>
  obtain⟨c',d',e0,rfl,rfl⟩:=kS hc;obtain⟨K',rfl⟩:∃K',K=K'+2:=⟨K - 2,by omega⟩
  rw[okN,ab5,ab5]at ok;rw[wN,ab5,ab5]at w;obtain⟨q,e⟩:=qo (cov _ (eN ok.1 p (by simp)));obtain⟨a1,a2,_⟩:=EU mo w.1 e
  obtain⟨f',rfl⟩:∃f',f=f'+1:=by
   cases f with
   |zero=>cases e0
   |succ f'=>exact⟨f',rfl⟩
  rw[cX]at e0;obtain⟨c1,d1,c2,d2,x1,x2,x3,x4,x5⟩:=Et z y c' d' e0;obtain⟨ly,l1,j1,j2,j3,j4⟩:=ih (K'+1) lp y d M hd v ns m c1 d1 (by omega) (by rw[cX];exact x1) m1 cov h1 ok.2.1 w.2.1 (by omega);obtain⟨lz,l2,k1,k2,k3,k4⟩:=ih (K'+1) l1 z d M hd v ns m c2 d2 (by omega) (by rw[cX];exact x2) m1 cov h1 ok.2.2 w.2.2 (by omega);obtain⟨f1,f2⟩:=j3.dS;obtain⟨g1,g2⟩:=k3.dS;refine⟨[.choice q (G8 ly) (G8 lz)],l2,by rw[jN,e,j1];dsimp only;rw[k1],by omega,FO.one ?_ ?_ (by omega) (acu _),fun D0 t ht=>xW K' _ lp l1 l2 B t ht p q y z ly lz mo pv w.1 e (j4 D0 t ht) (k4 D0 t ht)⟩
  ·rw[wF,a1,a2,f2,g2];rfl
  ·rw[dN];have:max (dS (G8 ly)) (dS (G8 lz))<=d':=afw.mpr ⟨by omega,by omega⟩;omega
 |use x ps=>
  rw[K5]at hc;obtain⟨K',rfl⟩:∃K',K=K'+4:=⟨K - 4,by omega⟩
  rw[okN,ab5]at ok;rw[wN,ab5]at w;obtain⟨Un,YH⟩:=qN w.2
  split at hc
  ·cases hc
  ·rename_i q hq;obtain⟨c',d',e0,rfl,rfl⟩:=kS hc;obtain⟨u1,u2⟩:=Hp hq ok.2;obtain⟨o1,o2,o3,o4⟩:=hB.r x q hq;obtain⟨vs,e⟩:=nF fun p hp=>cov _ (eN ok.1 p hp);have Xm:=mo.l;have m2:MO f (Qh [] (QG q.ns ps vs)) (J4 no q.ns vs):=MO.hand q.ns ps vs [] no u1 (gq e) (fun x=>rfl) rfl (by simp;omega) (fun x q h=>by cases h) (yL mo ps vs Un e);obtain⟨l,l1,j1,j2,j3,j4⟩:=ih (K'+3) lp q.b _ _ .nil .non q.ns q.m c' d' (by omega) e0 m2 (sF q.ns vs no (by rw[gq e,u1])) (by rw[u2];exact .nil) o1 o2 (by omega);exact⟨l,l1,by rw[jN,hq,e];exact j1,by omega,j3.le (by omega) (by omega),fun D0 t ht=>Fl K' _ lp l1 B t ht x ps vs q l mo pv Un hq u1 (by omega) e (j4 D0 t ht)⟩
 |j8 x ps hs b=>
  rw[K5]at hc;obtain⟨K',rfl⟩:∃K',K=K'+4:=⟨K - 4,by omega⟩
  rw[okN,ab5,ab5,ab5]at ok;rw[wN,ab5,ab5,ab5,ab5]at w;obtain⟨Un,YH⟩:=qN w.2.1
  split at hc
  ·cases hc
  ·rename_i q hq;obtain⟨c',d',e0,rfl,rfl⟩:=kS hc;obtain⟨u1,u2⟩:=Hp hq ok.2.1;obtain⟨o1,o2,o3,o4⟩:=hB.r x q hq;obtain⟨vs,e⟩:=nF fun p hp=>cov _ (eN ok.1 p hp);have Xm:=mo.l;have h10:=o4 _ u2;have m2:MO f (Qh [] (QG q.ns ps vs)) (J4 no q.ns vs):=MO.hand q.ns ps vs [] no u1 (gq e) (fun x=>rfl) rfl (by simp;omega) (fun x q h=>by cases h) (yL mo ps vs Un e);obtain⟨l,l1,j1,j2,j3,j4⟩:=ih (K'+3) lp q.b _ _ (.cons hs b M hd) (.tup [nms hs,.tup (d8 b),J7 d v]) q.ns q.m c' d' (by omega) e0 m2 (sF q.ns vs no (by rw[gq e,u1])) (by rw[u2];exact .cons m1 cov ok.2.2.2 w.2.2.2.2 (by omega) h1) o1 o2 (by omega);exact⟨l,l1,by rw[jN,hq,e];exact j1,by omega,j3.le (by omega) (by omega),fun D0 t ht=>Co K' _ lp l1 B t ht x ps vs hs b q l mo pv Un hq u1 (by omega) e (j4 D0 t ht)⟩
 |body ps=>
  obtain⟨K',rfl⟩:∃K',K=K'+4:=⟨K - 4,by omega⟩
  rw[okN,ab5,decide_eq_true_eq]at ok;rw[wN]at w;obtain⟨Un,YH⟩:=qN w
  cases hv with
  |nil=>cases ok.2
  |@cons h2 QV b2 M2 r2 d2 v2 m2 VP Yo ok2 wb2 hl2 t2=>
   obtain⟨c',d',e0,rfl,rfl⟩:=kS hc;obtain⟨vs,e⟩:=nF fun p hp=>cov _ (eN ok.1 p hp);have ll:h2.length=ps.length:=by have:=ok.2;simp at this;omega
   have Xm:=VP.l;have m3:MO f (Qh d2 (QG h2 ps vs)) (J4 M2 h2 vs):=MO.hand h2 ps vs d2 M2 ll (gq e) VP.r VP.p (by omega) VP.mono.w (yL mo ps vs Un e)
   obtain⟨l,l1,j1,j2,j3,j4⟩:=ih (K'+3) lp b2 _ _ r2 v2 (QV++h2) m2 c' d' (by omega) e0 m3 (fun y hy=>by
    by_cases z:y∈h2
    ·exact sF h2 vs M2 (by rw[gq e,ll]) y z
    ·rw[xE h2 vs M2 y z];exact Yo y ((acz.mp hy).resolve_right z)) t2.mono ok2 wb2 (by omega)
   exact⟨l,l1,by show(match sts M ps with|some vs=>J B f lp b2 (J4 M2 h2 vs) r2|none=>none)=_;rw[e];exact j1,by omega,j3.le (by omega) (by omega),fun D0 t ht=>Cs K' _ lp l1 B t ht ps vs h2 b2 l mo VP.p t2.pure Un ll (by omega) e (j4 D0 t ht)⟩
theorem HD{B:List Pc}(hB:BO B):∀f,ES B f
 |0=>fun K lp b d M hd v ns m c dp _ h=>by cases h
 |f+1=>fun K lp b d M hd v ns m c dp hK h mo cov hv ok w hl=>by
  obtain⟨K',rfl⟩:∃K',K=K'+2:=⟨K - 2,by omega⟩
  have no:=Fw hB f (HD hB f) (K'+1) (by omega) d M hd v ns m mo cov hv;have hS:=eA mo.p hv.pure;obtain⟨l,Qg,j1,j2,j3,j4⟩:=Ce no hS (some (.tup (d8 b))) b lp [] c dp 0 0 h ok w hl (by omega) FO.nil;refine⟨l,Qg,j1,j2,j3.le (by omega) (by omega),fun D0 t ht=>?_⟩;obtain⟨y4,y5,e⟩:=j4 D0 t ht none none;show gH (dA (F (K'+1)) (L (K'+1)) (X_ (K'+1))) 3 6 [.ref 1,.tup (d8 b),J7 d v] (hJ D0 lp B t)=_;have en:(hJ D0 lp B t).length=3+t.length:=by simp[hJ];omega
  have mk:∀ ρ,cN eP am ρ (hJ D0 lp B t)=.ok (.ref (3+t.length)) (hJ D0 lp B (t++ [.lst []])):=fun ρ=>by show Res.ok (PV.ref (hJ D0 lp B t).length) (hJ D0 lp B t++ [PO.lst []])=_;rw[en];rfl
  have tp:df [.ref (3+t.length)] (hJ D0 Qg B (t++ [.lst (l.map nd)]))=.ok (.tup (l.map nd)) (hJ D0 Qg B (t++ [.lst (l.map nd)])):=by show(match(match(hJ D0 Qg B (t++ [PO.lst (l.map nd)]))[3+t.length]? with|some (PO.lst xs)=>some xs|_=>none)with|some xs=>Res.ok (PV.tup xs) (hJ D0 Qg B (t++ [PO.lst (l.map nd)]))|none=>Res.bad)=_;rw[zN]
  have dr:aq (hJ D0 Qg B (t++ [.lst (l.map nd)])) (.ref (3+t.length))=.ref (3+t.length):=Kr (zN D0 Qg B t _);have e':aN (z_ 4) (bK (F (K'+1)) (L (K'+1)) (X_ (K'+1))) (d8 b) [some (.ref 1),some (.tup (d8 b)),some (J7 d v),some (.ref (3+t.length)),none,none] (hJ D0 lp B (t++ [.lst []]))=.nx [some (.ref 1),some (.tup (d8 b)),some (J7 d v),some (.ref (3+t.length)),y4,y5] (hJ D0 Qg B (t++ [.lst (l.map nd)])):=e
  have s3:aJ 3 (cN eP am) [some (.ref 1),some (.tup (d8 b)),some (J7 d v),none,none,none] (hJ D0 lp B t)=.nx [some (.ref 1),some (.tup (d8 b)),some (J7 d v),some (.ref (3+t.length)),none,none] (hJ D0 lp B (t++ [.lst []])):=by unfold aJ;rw[mk];rfl
  unfold dA;simp only[gH,acw,adg,Nat.reduceAdd,if_true,ab7,acM,acB,acC,Nat.reduceSub,List.replicate,zF,s3,Hm];simp only[EX,e',dr,tp,en];exact MV [.lst (l.map nd)] (by rw[PV.pure];exact bu l) ht
noncomputable def ids(ns:List (List Nat)):List u9:=ns.map fun x=>⟨x,[]⟩
theorem zM(ns:List (List Nat)):(ids ns).length=ns.length:=by simp[ids]
theorem nZ(K:Nat)(a b:Option PV):∀(ns:List (List Nat))(d:List (PK×PV))(x3:Option PV),d.length+ns.length<=1000->∃y3,aN (z_ 3) (jP (F K)) (ns.map PV.str) [a,b,some (.ref 0),x3] [.dct d]=.nx [a,b,some (.ref 0),y3] [.dct (Qh d (QG ns (ids ns) (ids ns)))]
 |[],d,x3,_=>⟨x3,rfl⟩
 |x::r,d,x3,h=>by
  rw[acw]at h;have pl:=jD d (.inr x) (.tup (Vm ⟨x,[]⟩));obtain⟨y3,e⟩:=nZ K a b r (dP d (.inr x) (.tup (Vm ⟨x,[]⟩))) (some (.str x)) (by omega);have l2:d.length<16777216:=by omega
  refine⟨y3,?_⟩
  have st:jP (F K) [a,b,some (.ref 0),some (.str x)] [.dct d]=.nx [a,b,some (.ref 0),some (.str x)] [.dct (dP d (.inr x) (.tup (Vm ⟨x,[]⟩)))]:=by simp only[EX,jP,l2];rfl
  rw[ab7];exact adT (cP rfl st) e
theorem Fm{E:List Pc}{q:Pc}(h:q.n∉E.map (·.n)):dP (pD E) (.inr q.n) (pc q)=pD (E++ [q]):=by
 unfold dP;rw[if_neg]
 ·unfold pD;rw[aci];rfl
 ·intro z;obtain⟨y,hy,e⟩:=af2.mp z;unfold pD at hy;obtain⟨p,hp,rfl⟩:=acK.mp hy;have e:=of_decide_eq_true e;injection e with e
  exact h (acK.mpr ⟨p,hp,e⟩)
theorem tO(K:Nat)(b:Option PV)(d:List (PK×PV)):∀(r E:List Pc)(x2:Option PV),((E++r).map (·.n)).Nodup->E.length+r.length<=1000->∃y2,aN (z_ 2) (dD (F K)) (r.map pc) [some (.ref 1),b,x2] [.dct d,.obj 602 [.int 0,.ref 2],.dct (pD E)]=.nx [some (.ref 1),b,y2] [.dct d,.obj 602 [.int 0,.ref 2],.dct (pD (E++r))]
 |[],E,x2,_,_=>⟨x2,by rw[acH];rfl⟩
 |q::r,E,x2,nd,l=>by
  rw[show E++q::r=(E++ [q])++r by simp]at nd |-;obtain⟨y2,e⟩:=tO K b d r (E++ [q]) (some (pc q)) nd (by simp at l |-;omega);refine⟨y2,?_⟩
  have nq:q.n∉E.map (·.n):=fun z=>by rw[aci,aci,adQ,adQ]at nd;exact nd.1.2.2 _ z _ (by simp) rfl
  have l2:(pD E).length<sizeLine:=by unfold pD;rw[ab9];exact acU (by simp at l;omega:E.length<=1000) (by decide)
  have fl:∀h,uQ 602 1 (.ref 1) (.dct d::.obj 602 [.int 0,.ref 2]::.dct (pD E)::h)=.ok (.ref 2) (.dct d::.obj 602 [.int 0,.ref 2]::.dct (pD E)::h):=fun h=>rfl;have d1:aq [.dct d,.obj 602 [.int 0,.ref 2],.dct (pD E)] (.ref 1)=.ref 1:=rfl
  have sd:∀ ρ,mG (pc q) (.ref 2) (.str q.n) ρ [.dct d,.obj 602 [.int 0,.ref 2],.dct (pD E)]=.nx ρ [.dct d,.obj 602 [.int 0,.ref 2],.dct (pD (E++ [q]))]:=fun ρ=>by show(if(pD E).length<sizeLine then SR.nx ρ [.dct d,.obj 602 [.int 0,.ref 2],.dct (dP (pD E) (.inr q.n) (pc q))]else .bad)=_;rw[if_pos l2,Fm nq]
  have st:dD (F K) [some (.ref 1),b,some (pc q)] [.dct d,.obj 602 [.int 0,.ref 2],.dct (pD E)]=.nx [some (.ref 1),b,some (pc q)] [.dct d,.obj 602 [.int 0,.ref 2],.dct (pD (E++ [q]))]:=by simp only[EX,dD,fl,d1,sd]
  rw[ab7];exact adT (cP rfl st) e
theorem Gi(k:Nat)(B:List Pc)(d:List (PK×PV))(nd:(B.map (·.n)).Nodup)(l:B.length<=1000):X_ (k+1) .d9 [.ref 1,bk B] [.dct d,.obj 602 []]=.ok .non [.dct d,.obj 602 [.int 0,.ref 2],.dct (pD B)]:=by
 obtain⟨y2,e⟩:=tO k (some (bk B)) d B [] none (by simpa using nd) (by simpa using l);show xM (cL (F k)) 2 3 [.ref 1,bk B] [.dct d,.obj 602 []]=_;have s1:qW 602 0 (ai 0) aad [some (.ref 1),some (bk B),none] [.dct d,.obj 602 []]=.nx [some (.ref 1),some (bk B),none] [.dct d,.obj 602 [.int 0]]:=rfl;have s2:qW 602 1 (ai 0) lW [some (.ref 1),some (bk B),none] [.dct d,.obj 602 [.int 0]]=.nx [some (.ref 1),some (bk B),none] [.dct d,.obj 602 [.int 0,.ref 2],.dct (pD [])]:=rfl;have it:eI (ai 1) [some (.ref 1),some (bk B),none] [.dct d,.obj 602 [.int 0,.ref 2],.dct (pD [])]=.ok (B.map pc) [.dct d,.obj 602 [.int 0,.ref 2],.dct (pD [])]:=rfl;have r2:xM (cL (F k)) 2 3 [.ref 1,bk B] [.dct d,.obj 602 []]=match cL (F k) [some (.ref 1),some (bk B),none] [.dct d,.obj 602 []]with|.nx _ h1=>.ok .non h1|_=>.bad:=rfl
 rw[r2];unfold cL;rw[dQ,s1];dsimp only;rw[dQ,s2];dsimp only;unfold gf;rw[it,Dr,e];rfl
theorem AY(f K:Nat)(E:List Pc)(q:Pc)(hK:3 * f+3<=K)(hf:f<=48)(hB:BO (E++ [q]))(nd:((E++ [q]).map (·.n)).Nodup)(l:E.length+1<=1000)(hw:wS q.b=true)(hs:N5 q.ns=true)(hn:q.ns.length<=10)(ok:u_ ((E++ [q]).map O5,none,q.ns) q.b=true)(c dp:Nat)(hc:cX (E++ [q]) f q.b .nil=some (c,dp))(c9:c<=900):
  ∃l Qg,J (E++ [q]) f 0 q.b (J4 no q.ns (ids q.ns)) .nil=some (l,Qg)/\FO l c dp/\F (K+1) .joined [bk (E++ [q])]=.ok (.tup (l.map Qt.nd)):=by
 have mo:MO f (Qh [] (QG q.ns (ids q.ns) (ids q.ns))) (J4 no q.ns (ids q.ns)):=MO.hand q.ns (ids q.ns) (ids q.ns) [] no (zM _).symm rfl (fun x=>rfl) rfl (by simp;omega) (fun x q h=>by cases h) fun p hp=>by unfold ids at hp;obtain⟨x,hx,rfl⟩:=acK.mp hp;exact⟨aco.mp hs x hx,rfl,by simp;omega⟩
 obtain⟨ll,Qg,j1,j2,j3,j4⟩:=HD hB f K 0 q.b _ _ .nil .non q.ns none c dp hK hc mo (sF q.ns (ids q.ns) no (zM _)) .nil ok hw (by omega);refine⟨ll,Qg,j1,j3,?_⟩;obtain⟨k,rfl⟩:∃k,K=k+1:=⟨K - 1,by omega⟩
 obtain⟨y3,lo⟩:=nZ (k+1) (some (bk (E++ [q]))) (some (pc q)) q.ns [] none (by rw[adg];omega);have Zz:=Gi k (E++ [q]) (Qh [] (QG q.ns (ids q.ns) (ids q.ns))) nd (by rw[acs];exact l);have pk:aW (Qh [] (QG q.ns (ids q.ns) (ids q.ns)))=true:=mo.p;generalize Qh [] (QG q.ns (ids q.ns) (ids q.ns))=d at mo j4 lo Zz pk;have j5:=j4 (.dct d) [] rfl
 have mk:∀ ρ,Bj 602 (X_ (k+1) .d9) aaq (some (bk (E++ [q]))::ρ) [.dct d]=.ok (.ref 1) [.dct d,.obj 602 [.int 0,.ref 2],.dct (pD (E++ [q]))]:=fun ρ=>by show(match X_ (k+1) Fn.d9 [PV.ref 1,bk (E++ [q])] [PO.dct d,PO.obj 602 []]with|.ok .non h2=>Res.ok (PV.ref 1) h2|_=>Res.bad)=_;rw[Zz]
 have fz:TJ (.ref 0) [.dct d,.obj 602 [.int 0,.ref 2],.dct (pD (E++ [q]))]=.ok (.dct d) (hJ (.dct d) 0 (E++ [q]) []):=by show(match(if aW d=true then some (PV.dct d,([.dct d,.obj 602 [.int 0,.ref 2],.dct (pD (E++ [q]))]:List PO).set 0 (.J8 (.dct d)))else none)with|some (q,h2)=>Res.ok q h2|none=>Res.bad)=_;rw[if_pos pk];rfl
 have rt:∀y,gD 602 (X_ (k+1) .b_) (Bj 602 (X_ (k+1) .d9) aaq) aar [some (bk (E++ [q])),some (pc q),some (.ref 0),y] [.dct d]=.ok (.tup (ll.map Qt.nd)) (hJ (.dct d) Qg (E++ [q]) []):=fun y=>by
  unfold gD;rw[mk];show(aar [some (bk (E++ [q])),some (pc q),some (.ref 0),y] [.dct d,.obj 602 [.int 0,.ref 2],.dct (pD (E++ [q]))]).bind (fun ps h2=>X_ (k+1) .b_ (.ref 1::ps) h2)=_;have c3:R4 (ai 2) [some (bk (E++ [q])),some (pc q),some (.ref 0),y] [.dct d,.obj 602 [.int 0,.ref 2],.dct (pD (E++ [q]))]=.ok (.dct d) (hJ (.dct d) 0 (E++ [q]) []):=fz
  have c4:aar [some (bk (E++ [q])),some (pc q),some (.ref 0),y] [.dct d,.obj 602 [.int 0,.ref 2],.dct (pD (E++ [q]))]=.ok [.tup (d8 q.b),J7 d .non] (hJ (.dct d) 0 (E++ [q]) []):=by simp only[EX,pZ,fz];rfl
  rw[c4];exact j5
 show bz (oA (F (k+1)) (X_ (k+1))) 1 4 [bk (E++ [q])]=_
 have rt2:WD 602 (X_ (k+1) Fn.b_) (af (c2 d7 (ai 1) (cK (PV.int 4))) (af (cN aV (af (R4 (ai 2)) (af (cK PV.non) am))) am)) [some (bk (E++ [q])),some (pc q),some (PV.ref 0),y3] (Vq 602 (X_ (k+1) Fn.d9) [bk (E++ [q])] [PO.dct d])=.ok (.tup (ll.map Qt.nd)) (hJ (.dct d) Qg (E++ [q]) []):=by have e:=rt y3;rw[zn]at e;exact e
 simp only[EX,bz,oA,gx,pZ,lA,nms,lo,rt2];exact mZ _ (by rw[PV.pure];exact bu ll)
def hnm(n:Nat):List Nat:=35::jb (n:Int)
theorem qQ(n:Nat):jb (n:Int)=(Nat.toDigits 10 n).map Char.toNat:=by unfold jb;rw[PyProof.Rows.signs_ofString,Int.toString_eq_repr,Int.repr_eq_if,if_pos (Int.natCast_nonneg n),Nat.toList_repr,ada]
theorem Gn{a b:Nat}(h:hnm a=hnm b):a=b:=by
 have h:jb (a:Int)=jb (b:Int):=by injection h
 rw[qQ,qQ]at h;have c:Nat.toDigits 10 a=Nat.toDigits 10 b:=(List.map_inj_right (fun x y z=>Char.toNat_inj.mp z)).mp h;have:=congrArg (fun l=>Nat.ofDigitChars 10 l 0) c;simpa[Nat.ofDigitChars_toDigits]using this
noncomputable def led(σ:Mf)(p:u9):u9:=match σ p.a with
 |some m=>⟨m.a,m.f++p.f⟩
 |none=>p
mutual
def Oc(σ:Mf)(n:Nat):Nd->Nd×Nat
 |.place p w=>(.place (led σ p) w,n)
 |.loop x p b t=>(.loop (hnm (n+1)) (led σ p) (G6 (up1 σ x ⟨hnm (n+1),[]⟩) (n+1) b).1 t,(G6 (up1 σ x ⟨hnm (n+1),[]⟩) (n+1) b).2)
 |.choice p y z=>(.choice (led σ p) (G6 σ n y).1 (G6 σ (G6 σ n y).2 z).1,(G6 σ (G6 σ n y).2 z).2)
 |.body ps=>(.body (ps.map (led σ)),n)
 |.text s=>(.text s,n)
 |.use x ps=>(.use x ps,n)
 |.j8 x ps h b=>(.j8 x ps h b,n)
def G6(σ:Mf)(n:Nat):j7->j7×Nat
 |.nil=>(.nil,n)
 |.cons m r=>(.cons (Oc σ n m).1 (G6 σ (Oc σ n m).2 r).1,(G6 σ (Oc σ n m).2 r).2)
end
abbrev jc(n:Nd):j7:=.cons n .nil
mutual
def N7(h:List (List Nat))(B:j7)(n:Nat):Nd->j7×Nat
 |.body ps=>G6 (J4 no h ps) n B
 |.loop x p b t=>(jc (.loop x p (I_ h B n b).1 t),(I_ h B n b).2)
 |.choice p y z=>(jc (.choice p (I_ h B n y).1 (I_ h B (I_ h B n y).2 z).1),(I_ h B (I_ h B n y).2 z).2)
 |.text s=>(jc (.text s),n)
 |.place p w=>(jc (.place p w),n)
 |.use x ps=>(jc (.use x ps),n)
 |.j8 x ps h' b=>(jc (.j8 x ps h' b),n)
def I_(h:List (List Nat))(B:j7)(n:Nat):j7->j7×Nat
 |.nil=>(.nil,n)
 |.cons m r=>(J6 (N7 h B n m).1 (I_ h B (N7 h B n m).2 r).1,(I_ h B (N7 h B n m).2 r).2)
end
abbrev Kn:=List Nat->List (List Nat)×j7
mutual
def M7(K:Kn)(n:Nat):Nd->j7×Nat
 |.use x ps=>G6 (J4 no (K x).1 ps) n (K x).2
 |.j8 x ps h b=>if M6 (K x).2=true then G6 (J4 no (K x).1 ps) n (K x).2 else I_ h (H6 K (G6 (J4 no (K x).1 ps) n (K x).2).2 b).1 (H6 K (G6 (J4 no (K x).1 ps) n (K x).2).2 b).2 (G6 (J4 no (K x).1 ps) n (K x).2).1
 |.loop x p b t=>(jc (.loop x p (H6 K n b).1 t),(H6 K n b).2)
 |.choice p y z=>(jc (.choice p (H6 K n y).1 (H6 K (H6 K n y).2 z).1),(H6 K (H6 K n y).2 z).2)
 |.text s=>(jc (.text s),n)
 |.place p w=>(jc (.place p w),n)
 |.body ps=>(jc (.body ps),n)
def H6(K:Kn)(n:Nat):j7->j7×Nat
 |.nil=>(.nil,n)
 |.cons m r=>(J6 (M7 K n m).1 (H6 K (M7 K n m).2 r).1,(H6 K (M7 K n m).2 r).2)
end
theorem BG{x:List Nat}:∀{h:List (List Nat)}{ps:List u9}{σ:Mf},h.length=ps.length->(∃p∈ps,J4 σ h ps x=some p)\/(x∉h/\J4 σ h ps x=σ x)
 |[],[],σ,_=>.inr ⟨by simp,rfl⟩
 |y::r,p::t,σ,l=>by
  rw[J4];rcases BG (x:=x) (h:=r) (ps:=t) (σ:=up1 σ y p) (by simpa using l)with⟨q,hq,e⟩|⟨a,e⟩
  ·exact .inl ⟨q,by simp[hq],e⟩
  ·rw[e,up1]
   by_cases z:x=y
   ·rw[if_pos z];exact .inl ⟨p,by simp,rfl⟩
   ·rw[if_neg z];exact .inr ⟨by simp[z,a],rfl⟩
theorem LU{σ:Mf}(p:u9):(led σ p).a=(led σ ⟨p.a,[]⟩).a:=by unfold led;dsimp only;cases σ p.a<;>rfl
theorem Dm{σ:Mf}{x y:List Nat}{v:u9}:(led (up1 σ x v) ⟨y,[]⟩).a=if y=x then v.a else(led σ ⟨y,[]⟩).a:=by
 unfold led up1;dsimp only
 by_cases e:y=x
 ·rw[if_pos e,if_pos e]
 ·rw[if_neg e,if_neg e]
theorem qw{h:List (List Nat)}{ps:List u9}{y:List Nat}(l:h.length=ps.length):(∃p∈ps,(led (J4 no h ps) ⟨y,[]⟩).a=p.a)\/(y∉h/\(led (J4 no h ps) ⟨y,[]⟩).a=y):=by
 unfold led;dsimp only;rcases BG (x:=y) (σ:=no) l with⟨p,hp,e⟩|⟨a,e⟩<;>rw[e]
 ·exact .inl ⟨p,hp,rfl⟩
 ·exact .inr ⟨a,rfl⟩
abbrev X0(m:Option Int)(ns:List (List Nat)):Cx:=([],m,ns)
theorem qq{m m':Option Int}{ns Pa:List (List Nat)}{σ:Mf}(h:∀y∈ns,(led σ ⟨y,[]⟩).a∈Pa){ps:List u9}(ok:Qq (X0 m ns) ps=true):Qq (X0 m' Pa) (ps.map (led σ))=true:=by unfold Qq at*;rw[agf,aco];intro p hp;have:=acL.mp (aco.mp ok p hp);exact acL.mpr (by rw[LU];exact h _ this)
theorem Jj{ns Pa:List (List Nat)}{σ:Mf}(h:∀y∈ns,(led σ ⟨y,[]⟩).a∈Pa)(x z:List Nat):∀y∈ns++ [x],(led (up1 σ x ⟨z,[]⟩) ⟨y,[]⟩).a∈Pa++ [z]:=fun y hy=>by
 rw[Dm]
 by_cases e:y=x
 ·rw[if_pos e];simp
 ·rw[if_neg e];exact adf _ (h y ((acz.mp hy).resolve_right fun q=>e (acp.mp q)))
mutual
theorem JT(m:Option Int):∀(nd:Nd)(ns Pa:List (List Nat))(σ:Mf)(n:Nat),(∀y∈ns,(led σ ⟨y,[]⟩).a∈Pa)->okN (X0 m ns) nd=true->okN (X0 m Pa) (Oc σ n nd).1=true
 |.text _,_,_,_,_,_,_=>rfl
 |.place p w,ns,Pa,σ,n,h,ok=>qq (ps:=[p]) h ok
 |.loop x p b t,ns,Pa,σ,n,h,ok=>by rw[okN,ab5]at ok;rw[Oc,okN,show Qq (X0 m Pa) [led σ p]=true from qq (ps:=[p]) h ok.1,ac6];exact pB m b _ _ _ _ (Jj h x _) ok.2
 |.choice p y z,ns,Pa,σ,n,h,ok=>by rw[okN,ab5,ab5]at ok;rw[Oc,okN,show Qq (X0 m Pa) [led σ p]=true from qq (ps:=[p]) h ok.1,ac6,pB m y _ _ _ _ h ok.2.1,pB m z _ _ _ _ h ok.2.2];rfl
 |.body ps,ns,Pa,σ,n,h,ok=>by rw[okN,ab5]at ok;rw[Oc,okN,qq h ok.1,ab9];exact ok.2
 |.use x ps,_,_,_,_,_,ok=>by rw[okN,ab5]at ok;cases ok.2
 |.j8 x ps h b,_,_,_,_,_,ok=>by rw[okN,ab5,ab5]at ok;cases ok.2.1
theorem pB(m:Option Int):∀(b:j7)(ns Pa:List (List Nat))(σ:Mf)(n:Nat),(∀y∈ns,(led σ ⟨y,[]⟩).a∈Pa)->u_ (X0 m ns) b=true->u_ (X0 m Pa) (G6 σ n b).1=true
 |.nil,_,_,_,_,_,_=>rfl
 |.cons a r,ns,Pa,σ,n,h,ok=>by rw[u_,ab5]at ok;rw[G6,u_,JT m a _ _ _ _ h ok.1,pB m r _ _ _ _ h ok.2];rfl
end
theorem oU(X:Cx):∀y z:j7,u_ X (J6 y z)=(u_ X y&&u_ X z)
 |.nil,z=>by rw[J6,u_];rfl
 |.cons n r,z=>by rw[J6,u_,u_,oU X r z,afG]
mutual
theorem JX{h:List (List Nat)}{B:j7}{m:Option Int}{ns:List (List Nat)}(hB:u_ (X0 m (ns++h)) B=true):∀(nd:Nd)(Pa:List (List Nat))(n:Nat),(∀y∈ns,y∈Pa)->okN (X0 (some (h.length:Int)) Pa) nd=true->u_ (X0 m Pa) (N7 h B n nd).1=true
 |.text _,_,_,_,_=>rfl
 |.place p w,Pa,n,hs,ok=>by rw[N7,u_,okN];rw[okN]at ok;exact(aem _).trans ok
 |.loop x p b t,Pa,n,hs,ok=>by rw[okN,ab5]at ok;rw[N7,u_,okN,sh hB b _ _ (fun y hy=>adf _ (hs y hy)) ok.2];simpa[u_,Qq]using ok.1
 |.choice p y z,Pa,n,hs,ok=>by rw[okN,ab5,ab5]at ok;rw[N7,u_,okN,sh hB y _ _ hs ok.2.1,sh hB z _ _ hs ok.2.2];simpa[u_,Qq]using ok.1
 |.body ps,Pa,n,hs,ok=>by
  rw[okN,ab5]at ok;have l:h.length=ps.length:=by have:=of_decide_eq_true ok.2;simp at this;omega
  rw[N7];refine pB m B _ _ _ _ (fun y hy=>?_) hB;rcases qw (y:=y) l with⟨p,hp,e⟩|⟨a,e⟩<;>rw[e]
  ·exact eN ok.1 p hp
  ·exact hs y ((acz.mp hy).resolve_right a)
 |.use x ps,_,_,_,ok=>by rw[okN,ab5]at ok;cases ok.2
 |.j8 x ps h b,_,_,_,ok=>by rw[okN,ab5,ab5]at ok;cases ok.2.1
theorem sh{h:List (List Nat)}{B:j7}{m:Option Int}{ns:List (List Nat)}(hB:u_ (X0 m (ns++h)) B=true):∀(b:j7)(Pa:List (List Nat))(n:Nat),(∀y∈ns,y∈Pa)->u_ (X0 (some (h.length:Int)) Pa) b=true->u_ (X0 m Pa) (I_ h B n b).1=true
 |.nil,_,_,_,_=>rfl
 |.cons a r,Pa,n,hs,ok=>by rw[u_,ab5]at ok;rw[I_,oU,JX hB a _ _ hs ok.1,sh hB r _ _ hs ok.2];rfl
end
mutual
theorem IU{m m':Option Int}:∀(nd:Nd)(ns:List (List Nat)),O6 nd=true->okN (X0 m ns) nd=true->okN (X0 m' ns) nd=true
 |.text _,_,_,ok=>ok
 |.place _ _,_,_,ok=>ok
 |.loop x p b t,ns,h,ok=>by rw[okN,ab5]at*;rw[O6]at h;exact⟨ok.1,oW b _ h ok.2⟩
 |.choice p y z,ns,h,ok=>by rw[okN,ab5,ab5]at*;rw[O6,ab5]at h;exact⟨ok.1,oW y _ h.1 ok.2.1,oW z _ h.2 ok.2.2⟩
 |.body ps,_,h,_=>by cases h
 |.use x ps,_,_,ok=>by rw[okN,ab5]at ok;cases ok.2
 |.j8 x ps h b,_,_,ok=>by rw[okN,ab5,ab5]at ok;cases ok.2.1
theorem oW{m m':Option Int}:∀(b:j7)(ns:List (List Nat)),M6 b=true->u_ (X0 m ns) b=true->u_ (X0 m' ns) b=true
 |.nil,_,_,_=>rfl
 |.cons a r,ns,h,ok=>by rw[u_,ab5]at*;rw[M6,ab5]at h;exact⟨IU a _ h.1 ok.1,oW r _ h.2 ok.2⟩
end
mutual
theorem IV:∀(nd:Nd)(σ:Mf)(n:Nat),O6 (Oc σ n nd).1=O6 nd
 |.text _,_,_|.place _ _,_,_|.body _,_,_|.use _ _,_,_|.j8 _ _ _ _,_,_=>by rw[Oc]<;>rfl
 |.loop x p b t,σ,n=>by rw[Oc,O6,O6,ka b]
 |.choice p y z,σ,n=>by rw[Oc,O6,O6,ka y,ka z]
theorem ka:∀(b:j7)(σ:Mf)(n:Nat),M6 (G6 σ n b).1=M6 b
 |.nil,_,_=>by rw[G6]
 |.cons a r,σ,n=>by rw[G6,M6,M6,IV a,ka r]
end
def KO(P:List Pe)(K:Kn):Prop:=∀x l h,QH P x l h=true->(K x).1.length=l/\u_ (X0 h (K x).1) (K x).2=true
theorem qO{K:Kn}{x:List Nat}{ps:List u9}{h m:Option Int}{ns:List (List Nat)}{P:List Pe}(n:Nat)(hK:(K x).1.length=ps.length/\u_ (X0 h (K x).1) (K x).2=true)(ok:Qq (P,m,ns) ps=true):u_ (X0 h ns) (G6 (J4 no (K x).1 ps) n (K x).2).1=true:=by
 refine pB h (K x).2 _ _ _ _ (fun y hy=>?_) hK.2;rcases qw (y:=y) hK.1 with⟨p,hp,e⟩|⟨a,e⟩<;>rw[e]
 ·exact eN ok p hp
 ·exact absurd hy a
mutual
theorem CZ:∀(nd:Nd)(ns:List (List Nat)),okN (X0 none ns) nd=true->O6 nd=true
 |.text _,_,_|.place _ _,_,_|.use _ _,_,_=>rfl
 |.loop x p b t,ns,ok=>by rw[okN,ab5]at ok;rw[O6];exact mq b _ ok.2
 |.choice p y z,ns,ok=>by rw[okN,ab5,ab5]at ok;rw[O6,mq y _ ok.2.1,mq z _ ok.2.2];rfl
 |.j8 x ps h b,ns,ok=>by rw[okN,ab5,ab5]at ok;cases ok.2.1
 |.body ps,ns,ok=>by rw[okN,ab5]at ok;cases of_decide_eq_true ok.2
theorem mq:∀(b:j7)(ns:List (List Nat)),u_ (X0 none ns) b=true->M6 b=true
 |.nil,_,_=>rfl
 |.cons a r,ns,ok=>by rw[u_,ab5]at ok;rw[M6,CZ a ns ok.1,mq r ns ok.2];rfl
end
mutual
theorem HZ{P:List Pe}{K:Kn}(hK:KO P K)(m:Option Int):∀(nd:Nd)(ns:List (List Nat))(n:Nat),okN (P,m,ns) nd=true->u_ (X0 m ns) (M7 K n nd).1=true
 |.text _,_,_,_=>rfl
 |.place p w,ns,n,ok=>by rw[okN]at ok;exact(aem _).trans ok
 |.body ps,ns,n,ok=>by rw[okN]at ok;exact(aem _).trans ok
 |.loop x p b t,ns,n,ok=>by rw[okN,ab5]at ok;rw[M7,u_,okN,kR hK m b _ _ ok.2];simpa[u_,Qq]using ok.1
 |.choice p y z,ns,n,ok=>by rw[okN,ab5,ab5]at ok;rw[M7,u_,okN,kR hK m y _ _ ok.2.1,kR hK m z _ _ ok.2.2];simpa[u_,Qq]using ok.1
 |.use x ps,ns,n,ok=>by rw[okN,ab5]at ok;obtain⟨a,b⟩:=hK _ _ _ ok.2;rw[M7];have o:=qO n ⟨a,b⟩ ok.1;exact oW _ _ (mq _ _ o) o
 |.j8 x ps h b,ns,n,ok=>by
  rw[okN,ab5,ab5,ab5]at ok;obtain⟨a,c⟩:=hK _ _ _ ok.2.1;have o:=qO n ⟨a,c⟩ ok.1;rw[M7]
  split
  ·rename_i z;exact oW _ _ (by rw[ka];exact z) o
  ·exact sh (kR hK m b _ _ ok.2.2.2) _ _ _ (fun _ h=>h) o
theorem kR{P:List Pe}{K:Kn}(hK:KO P K)(m:Option Int):∀(b:j7)(ns:List (List Nat))(n:Nat),u_ (P,m,ns) b=true->u_ (X0 m ns) (H6 K n b).1=true
 |.nil,_,_,_=>rfl
 |.cons a r,ns,n,ok=>by rw[u_,ab5]at ok;rw[H6,oU,HZ hK m a _ _ ok.1,kR hK m r _ _ ok.2];rfl
end
theorem KL(l:List Nd)(t s:List Nat):bV (bV l (.text t)) (.text s)=bV l (.text (t++s)):=by
 rcases ac7 l with rfl|⟨B,m,rfl⟩
 ·rw[pP,pP];exact kB [] t s
 ·rw[ac8]
  cases tm:Rr m with
  |false=>rw[pO tm,pO tm,kB]
  |true=>
   obtain⟨u,rfl⟩:∃u,m=.text u:=by cases m<;>first|exact⟨_,rfl⟩|cases tm
   rw[kB,kB,kB,acG]
theorem DS(acc m:List Nd)(n:Nd):(bV m n).foldl bV acc=bV (m.foldl bV acc) n:=by
 rcases vF m n with e|⟨B,u,s,rfl,rfl,e⟩<;>rw[e,afP]
 ·rfl
 ·rw[afP];exact(KL _ u s).symm
theorem tW(acc:List Nd):∀m a:List Nd,(m.foldl bV a).foldl bV acc=m.foldl bV (a.foldl bV acc)
 |[],_=>rfl
 |n::r,a=>by rw[ad4,ad4,tW acc r,DS]
abbrev Bm:=List u9->Nat->Option (List Nd×Nat)
mutual
def Oj(β:Bm)(M:Mf)(lp:Nat):Nd->Option (List Nd×Nat)
 |.text s=>some ([.text s],lp)
 |.place p w=>match st M p with
  |some q=>some ([.place q w],lp)
  |none=>none
 |.loop x p b t=>match st M p,Oi β (up1 M x ⟨QB lp,[]⟩) (lp+1) [] b with
  |some q,some l=>some ([.loop (QB lp) q (G8 l.1) t],l.2)
  |_,_=>none
 |.choice p y z=>match st M p,Oi β M lp [] y with
  |some q,some l=>match Oi β M l.2 [] z with
   |some k=>some ([.choice q (G8 l.1) (G8 k.1)],k.2)
   |none=>none
  |_,_=>none
 |.body ps=>match sts M ps with
  |some vs=>β vs lp
  |none=>none
 |.use _ _=>none
 |.j8 _ _ _ _=>none
def Oi(β:Bm)(M:Mf)(lp:Nat)(acc:List Nd):j7->Option (List Nd×Nat)
 |.nil=>some (acc,lp)
 |.cons n r=>match Oj β M lp n with
  |some m=>Oi β M m.2 (m.1.foldl bV acc) r
  |none=>none
end
theorem sw{β:Bm}{M:Mf}(acc:List Nd):∀(X:j7)(lp:Nat)(a:List Nd)(r:List Nd×Nat),Oi β M lp a X=some r->Oi β M lp (a.foldl bV acc) X=some (r.1.foldl bV acc,r.2)
 |.nil,lp,a,r,h=>by rw[Oi]at*;cases h;rfl
 |.cons n t,lp,a,r,h=>by
  rw[Oi]at*
  cases e:Oj β M lp n with
  |none=>rw[e]at h;cases h
  |some m=>rw[e]at h;dsimp only at h |-;rw[<- tW];exact sw acc t _ _ r h
theorem Ef{β:Bm}{M:Mf}(z:j7):∀(y:j7)(lp:Nat)(a:List Nd)(r:List Nd×Nat),Oi β M lp a y=some r->Oi β M lp a (J6 y z)=Oi β M r.2 r.1 z
 |.nil,lp,a,r,h=>by rw[Oi]at h;cases h;rw[J6]
 |.cons n t,lp,a,r,h=>by
  rw[J6];rw[Oi]at*
  cases e:Oj β M lp n with
  |none=>rw[e]at h;cases h
  |some m=>rw[e]at h;exact Ef z t _ _ r h
mutual
theorem Kf{β β':Bm}:∀(nd:Nd)(M:Mf)(lp:Nat),O6 nd=true->Oj β M lp nd=Oj β' M lp nd
 |.text _,_,_,_|.use _ _,_,_,_|.j8 _ _ _ _,_,_,_=>by rw[Oj,Oj]
 |.place p w,_,_,_=>by rw[Oj,Oj]
 |.loop x p b t,M,lp,h=>by rw[O6]at h;rw[Oj,Oj,su (β':=β') b _ _ _ h]
 |.choice p y z,M,lp,h=>by
  rw[O6,ab5]at h;rw[Oj,Oj,su (β':=β') y _ _ _ h.1]
  cases st M p<;>cases Oi β' M lp [] y<;>first|rfl|(dsimp only;rw[su (β':=β') z _ _ _ h.2])
 |.body _,_,_,h=>by cases h
theorem su{β β':Bm}:∀(b:j7)(M:Mf)(lp:Nat)(acc:List Nd),M6 b=true->Oi β M lp acc b=Oi β' M lp acc b
 |.nil,_,_,_,_=>by rw[Oi,Oi]
 |.cons a r,M,lp,acc,h=>by
  rw[M6,ab5]at h;rw[Oi,Oi,Kf (β':=β') a _ _ h.1]
  cases Oj β' M lp a<;>first|rfl|exact su r _ _ _ h.2
end
def nk(n:Nat)(x:List Nat):Prop:=∀k,n<k->x≠hnm k
theorem nk.le{n n':Nat}{x:List Nat}(h:nk n x)(l:n<=n'):nk n' x:=fun k hk=>h k (by omega)
theorem LG{k n:Nat}(h:k<=n):nk n (hnm k):=fun j hj e=>by have:=Gn e;omega
structure FR(ns:List (List Nat))(σ:Mf)(n:Nat)(M M':Mf):Prop where
 m:∀x∈ns,st M' (led σ ⟨x,[]⟩)=M x
 k:∀x∈ns,nk n (led σ ⟨x,[]⟩).a
theorem FR.le{ns:List (List Nat)}{σ:Mf}{n n':Nat}{M M':Mf}(h:FR ns σ n M M')(l:n<=n'):FR ns σ n' M M':=⟨h.m,fun x hx=>(h.k x hx).le l⟩
theorem FR.st{ns:List (List Nat)}{σ:Mf}{n:Nat}{M M':Mf}(h:FR ns σ n M M'){p:u9}(hp:p.a∈ns):st M' (led σ p)=st M p:=by
 have:=h.m _ hp;unfold Qt.st led at*;dsimp only at this
 cases e:σ p.a with
 |none=>
  rw[e]at this;dsimp only at this |-;rw[<- this]
  cases M' p.a<;>simp
 |some v=>
  rw[e]at this;dsimp only at this |-;rw[<- this]
  cases M' v.a<;>simp
theorem FR.sts{ns:List (List Nat)}{σ:Mf}{n:Nat}{M M':Mf}(h:FR ns σ n M M'):∀{ps:List u9},(∀p∈ps,p.a∈ns)->sts M' (ps.map (led σ))=sts M ps
 |[],_=>rfl
 |p::r,hp=>by rw[ab7,Qt.sts,Qt.sts,h.st (hp p (by simp)),h.sts fun q hq=>hp q (by simp[hq])]
theorem BQ{M:Mf}{z:List Nat}{v p:u9}(h:p.a≠z):st (up1 M z v) p=st M p:=by unfold st up1;rw[if_neg h]
theorem FR.up{ns:List (List Nat)}{σ:Mf}{n:Nat}{M M':Mf}(h:FR ns σ n M M')(x:List Nat)(v:u9):FR (ns++ [x]) (up1 σ x ⟨hnm (n+1),[]⟩) (n+1) (up1 M x v) (up1 M' (hnm (n+1)) v) where
 m:=fun y hy=>by
  by_cases e:y=x
  ·subst e;unfold Qt.st led up1;simp
  ·have hy:=(acz.mp hy).resolve_right fun q=>e (acp.mp q);have l:led (up1 σ x ⟨hnm (n+1),[]⟩) ⟨y,[]⟩=led σ ⟨y,[]⟩:=by unfold led up1;dsimp only;rw[if_neg e]
   rw[l,BQ (h.k y hy _ (adJ n)),h.m y hy,up1,if_neg e]
 k:=fun y hy=>by
  rw[Dm]
  by_cases e:y=x
  ·rw[if_pos e];exact LG (ab8 _)
  ·rw[if_neg e];exact(h.k y ((acz.mp hy).resolve_right fun q=>e (acp.mp q))).le (acS n)
mutual
theorem DQ:∀(nd:Nd)(σ:Mf)(n:Nat),n<=(Oc σ n nd).2
 |.text _,_,_|.place _ _,_,_|.body _,_,_|.use _ _,_,_|.j8 _ _ _ _,_,_=>by rw[Oc]<;>exact ab8 _
 |.loop x p b t,σ,n=>by rw[Oc];exact ace (acS n) (iq b _ _)
 |.choice p y z,σ,n=>by rw[Oc];exact ace (iq y _ _) (iq z _ _)
theorem iq:∀(b:j7)(σ:Mf)(n:Nat),n<=(G6 σ n b).2
 |.nil,_,_=>by rw[G6];exact ab8 _
 |.cons a r,σ,n=>by rw[G6];exact ace (DQ a _ _) (iq r _ _)
end
mutual
theorem Kh{β:Bm}{m:Option Int}:∀(nd:Nd)(ns:List (List Nat))(σ:Mf)(n:Nat)(M M':Mf)(lp:Nat),okN (X0 m ns) nd=true->FR ns σ n M M'->Oj β M' lp (Oc σ n nd).1=Oj β M lp nd
 |.text _,_,_,_,_,_,_,_,_=>by rw[Oc,Oj,Oj]
 |.place p w,ns,σ,n,M,M',lp,ok,h=>by rw[okN]at ok;rw[Oc,Oj,Oj,h.st (eN ok p (by simp))]
 |.body ps,ns,σ,n,M,M',lp,ok,h=>by rw[okN,ab5]at ok;rw[Oc,Oj,Oj,h.sts (eN ok.1)]
 |.loop x p b t,ns,σ,n,M,M',lp,ok,h=>by rw[okN,ab5]at ok;rw[Oc,Oj,Oj,h.st (eN ok.1 p (by simp)),nh b _ _ _ _ _ _ _ ok.2 (h.up x _)]
 |.choice p y z,ns,σ,n,M,M',lp,ok,h=>by
  rw[okN,ab5,ab5]at ok;rw[Oc,Oj,Oj,h.st (eN ok.1 p (by simp)),nh y _ _ _ _ _ _ _ ok.2.1 h]
  cases st M p<;>cases Oi β M lp [] y<;>first|rfl|(dsimp only;rw[nh z _ _ _ _ _ _ _ ok.2.2 (h.le (iq y σ n))])
 |.use x ps,_,_,_,_,_,_,ok,_=>by rw[okN,ab5]at ok;cases ok.2
 |.j8 x ps h b,_,_,_,_,_,_,ok,_=>by rw[okN,ab5,ab5]at ok;cases ok.2.1
theorem nh{β:Bm}{m:Option Int}:∀(b:j7)(ns:List (List Nat))(σ:Mf)(n:Nat)(M M':Mf)(lp:Nat)(acc:List Nd),u_ (X0 m ns) b=true->FR ns σ n M M'->Oi β M' lp acc (G6 σ n b).1=Oi β M lp acc b
 |.nil,_,_,_,_,_,_,_,_,_=>by rw[G6,Oi,Oi]
 |.cons a r,ns,σ,n,M,M',lp,acc,ok,h=>by
  rw[u_,ab5]at ok;rw[G6,Oi,Oi,Kh a _ _ _ _ _ _ ok.1 h]
  cases Oj β M lp a<;>first|rfl|exact nh r _ _ _ _ _ _ _ ok.2 (h.le (DQ a σ n))
end
theorem ut{M:Mf}(x:List Nat):∀{h:List (List Nat)}{ps vs:List u9}{σ M1:Mf},sts M ps=some vs->h.length=ps.length->(st M (led σ ⟨x,[]⟩)=M1 x\/x∈h)->st M (led (J4 σ h ps) ⟨x,[]⟩)=J4 M1 h vs x
 |[],[],vs,σ,M1,e,_,h=>by cases e;exact h.elim id fun z=>(nomatch z)
 |y::r,p::t,vs,σ,M1,e,l,h=>by
  rw[sts]at e
  split at e
  ·rename_i q w e1 e2
   cases e
   rw[J4,J4];refine ut x e2 (by simpa using l) ?_
   by_cases z:x=y
   ·refine .inl ?_;subst z;rw[show led (up1 σ x p) ⟨x,[]⟩=p by unfold led up1;simp,e1,up1,if_pos rfl]
   ·rcases h with h|h
    ·refine .inl ?_;rw[show led (up1 σ y p) ⟨x,[]⟩=led σ ⟨x,[]⟩ by unfold led up1;dsimp only;rw[if_neg z],h,up1,if_neg z]
    ·exact .inr ((acn.mp h).resolve_left z)
  ·cases e
mutual
def TF(n:Nat):Nd->Prop
 |.loop x _ b _=>(∃k,k<=n/\x=hnm k)/\hlS n b
 |.choice _ y z=>hlS n y/\hlS n z
 |_=>True
def hlS(n:Nat):j7->Prop
 |.nil=>True
 |.cons a r=>TF n a/\hlS n r
end
mutual
theorem DG{n n':Nat}(l:n<=n'):∀nd:Nd,TF n nd->TF n' nd
 |.loop x _ b _,h=>by rw[TF]at*;obtain⟨⟨k,a,e⟩,c⟩:=h;exact⟨⟨k,ace a l,e⟩,lO l b c⟩
 |.choice _ y z,h=>by rw[TF]at*;exact⟨lO l y h.1,lO l z h.2⟩
 |.text _,_|.place _ _,_|.body _,_|.use _ _,_|.j8 _ _ _ _,_=>trivial
theorem lO{n n':Nat}(l:n<=n'):∀b:j7,hlS n b->hlS n' b
 |.nil,_=>trivial
 |.cons a r,h=>by rw[hlS]at*;exact⟨DG l a h.1,lO l r h.2⟩
end
mutual
theorem JK{m:Option Int}:∀(nd:Nd)(ns:List (List Nat))(σ:Mf)(n:Nat),okN (X0 m ns) nd=true->TF (Oc σ n nd).2 (Oc σ n nd).1
 |.text _,_,_,_,_|.place _ _,_,_,_,_|.body _,_,_,_,_=>by rw[Oc]<;>trivial
 |.loop x p b t,ns,σ,n,ok=>by rw[okN,ab5]at ok;rw[Oc,TF];exact⟨⟨n+1,iq b _ _,rfl⟩,rU b _ _ _ ok.2⟩
 |.choice p y z,ns,σ,n,ok=>by rw[okN,ab5,ab5]at ok;rw[Oc,TF];exact⟨lO (iq z _ _) _ (rU y _ _ _ ok.2.1),rU z _ _ _ ok.2.2⟩
 |.use x ps,_,_,_,ok=>by rw[okN,ab5]at ok;cases ok.2
 |.j8 x ps h b,_,_,_,ok=>by rw[okN,ab5,ab5]at ok;cases ok.2.1
theorem rU{m:Option Int}:∀(b:j7)(ns:List (List Nat))(σ:Mf)(n:Nat),u_ (X0 m ns) b=true->hlS (G6 σ n b).2 (G6 σ n b).1
 |.nil,_,_,_,_=>by rw[G6];trivial
 |.cons a r,ns,σ,n,ok=>by rw[u_,ab5]at ok;rw[G6,hlS];exact⟨DG (iq r _ _) _ (JK a _ _ _ ok.1),rU r _ _ _ ok.2⟩
end
mutual
theorem yq{h:List (List Nat)}{B:j7}:∀(nd:Nd)(n:Nat),n<=(N7 h B n nd).2
 |.text _,_|.place _ _,_|.use _ _,_|.j8 _ _ _ _,_=>by rw[N7]<;>exact ab8 _
 |.body ps,n=>by rw[N7];exact iq B _ _
 |.loop x p b t,n=>by rw[N7];exact ng b _
 |.choice p y z,n=>by rw[N7];exact ace (ng y _) (ng z _)
theorem ng{h:List (List Nat)}{B:j7}:∀(b:j7)(n:Nat),n<=(I_ h B n b).2
 |.nil,_=>by rw[I_];exact ab8 _
 |.cons a r,n=>by rw[I_];exact ace (yq a _) (ng r _)
end
def U7(x:List Nat):Prop:=∀k,x≠hnm k
structure FI(S8 ns:List (List Nat))(n:Nat)(M0 M:Mf):Prop where
 m:∀y∈S8,M y=M0 y/\U7 y
 k:∀y∈ns,nk n y
theorem FI.le{S8 ns:List (List Nat)}{n n':Nat}{M0 M:Mf}(h:FI S8 ns n M0 M)(l:n<=n'):FI S8 ns n' M0 M:=⟨h.m,fun y hy=>(h.k y hy).le l⟩
theorem FI.up{S8 ns:List (List Nat)}{n k:Nat}{M0 M:Mf}(h:FI S8 ns n M0 M)(l:k<=n)(v:u9):FI S8 (ns++ [hnm k]) n M0 (up1 M (hnm k) v):=
 ⟨fun y hy=>by obtain⟨a,b⟩:=h.m y hy;exact⟨by rw[up1,if_neg (b k)];exact a,b⟩,fun y hy=>by
  rcases acz.mp hy with z|z
  ·exact h.k y z
  ·rw[acp.mp z];exact LG l⟩
section
variable{β:Bm}{h S8:List (List Nat)}{B:j7}{m:Option Int}{M0:Mf}
abbrev bm(β:Bm)(M0:Mf)(h:List (List Nat))(B:j7):Bm:=fun vs lp=>Oi β (J4 M0 h vs) lp [] B
theorem iD{β:Bm}{M:Mf}{lp:Nat}{acc:List Nd}{n:Nd}{r:List Nd×Nat}(e:Oj β M lp n=some r):Oi β M lp acc (jc n)=some (r.1.foldl bV acc,r.2):=by rw[Oi,e];dsimp only;rw[Oi]
mutual
theorem Ki(hB:u_ (X0 m (S8++h)) B=true):∀(nd:Nd)(ns:List (List Nat))(n:Nat)(M:Mf)(lp:Nat)(acc:List Nd)(r:List Nd×Nat),okN (X0 (some (h.length:Int)) ns) nd=true->TF n nd->FI S8 ns n M0 M->Oj (bm β M0 h B) M lp nd=some r->Oi β M lp acc (N7 h B n nd).1=some (r.1.foldl bV acc,r.2)
 |.text _,ns,n,M,lp,acc,r,ok,hl,I,e=>by rw[Oj]at e;rw[N7];exact iD (by rw[Oj];exact e)
 |.place p w,ns,n,M,lp,acc,r,ok,hl,I,e=>by rw[Oj]at e;rw[N7];exact iD (by rw[Oj];exact e)
 |.loop x p b t,ns,n,M,lp,acc,r,ok,hl,I,e=>by
  rw[okN,ab5]at ok;rw[TF]at hl;obtain⟨⟨k,kl,rfl⟩,hl⟩:=hl;rw[N7];refine iD ?_;rw[Oj]at e |-
  split at e
  ·rename_i q l e1 e2;rw[e1,sv hB b _ n _ _ _ _ ok.2 hl (I.up kl _) e2];exact e
  ·cases e
 |.choice p y z,ns,n,M,lp,acc,r,ok,hl,I,e=>by
  rw[okN,ab5,ab5]at ok;rw[TF]at hl;rw[N7];refine iD ?_;rw[Oj]at e |-
  split at e
  ·rename_i q l e1 e2;rw[e1,sv hB y _ n _ _ _ _ ok.2.1 hl.1 I e2];dsimp only
   split at e
   ·rename_i k e3;rw[sv hB z _ _ _ _ _ _ ok.2.2 (lO (ng y _) _ hl.2) (I.le (ng y _)) e3];exact e
   ·cases e
  ·cases e
 |.body ps,ns,n,M,lp,acc,r,ok,hl,I,e=>by
  rw[okN,ab5]at ok;have l:h.length=ps.length:=by have:=of_decide_eq_true ok.2;simp at this;omega
  rw[Oj]at e
  split at e
  ·rename_i vs e1
   have F:FR (S8++h) (J4 no h ps) n (J4 M0 h vs) M:=⟨fun x hx=>ut x e1 l (by
    rcases acz.mp hx with z|z
    ·refine .inl ?_;rw[<- (I.m x z).1];show st M ⟨x,[]⟩=_;unfold st
     cases M x<;>simp
    ·exact .inr z),fun x hx=>by
    rcases qw (y:=x) l with⟨p,hp,z⟩|⟨a,z⟩<;>rw[z]
    ·exact I.k _ (eN ok.1 p hp)
    ·exact fun k _=>(I.m x ((acz.mp hx).resolve_right a)).2 k⟩
   rw[N7];have q:=nh (β:=β) B _ _ _ _ _ lp [] hB F;have e':Oi β (J4 M0 h vs) lp [] B=some r:=e;rw[e']at q;exact sw acc _ _ _ _ q
  ·cases e
 |.use x ps,_,_,_,_,_,_,ok,_,_,_=>by rw[okN,ab5]at ok;cases ok.2
 |.j8 x ps h b,_,_,_,_,_,_,ok,_,_,_=>by rw[okN,ab5,ab5]at ok;cases ok.2.1
theorem sv(hB:u_ (X0 m (S8++h)) B=true):∀(b:j7)(ns:List (List Nat))(n:Nat)(M:Mf)(lp:Nat)(acc:List Nd)(r:List Nd×Nat),u_ (X0 (some (h.length:Int)) ns) b=true->hlS n b->FI S8 ns n M0 M->Oi (bm β M0 h B) M lp acc b=some r->Oi β M lp acc (I_ h B n b).1=some r
 |.nil,ns,n,M,lp,acc,r,ok,hl,I,e=>by rw[Oi]at e;rw[I_,Oi];exact e
 |.cons a t,ns,n,M,lp,acc,r,ok,hl,I,e=>by
  rw[u_,ab5]at ok;rw[hlS]at hl;rw[Oi]at e
  cases e1:Oj (bm β M0 h B) M lp a with
  |none=>rw[e1]at e;cases e
  |some x=>rw[e1]at e;rw[I_,Ef _ _ _ _ _ (Ki hB a ns n M lp acc x ok.1 hl.1 I e1)];exact sv hB t ns _ M _ _ r ok.2 (lO (yq a n) _ hl.2) (I.le (yq a n)) e
end
end
def Vx(B:List Pc)(f:Nat):Hj->Bm->Prop
 |.nil,_=>True
 |.cons h b M r,β=>∀f',f'<=f->∀vs lp res,vs.length=h.length->J B f' lp b (J4 M h vs) r=some res->β vs lp=some res
theorem Vx.le{B:List Pc}{f f':Nat}{hd:Hj}{β:Bm}(h:Vx B f hd β)(l:f'<=f):Vx B f' hd β:=by
 cases hd with
 |nil=>trivial
 |cons _ _ _ _=>exact fun g hg=>h g (ace hg l)
def HL(m:Option Int):Hj->Prop
 |.nil=>True
 |.cons h _ _ _=>m=some (h.length:Int)
def SEM(B:List Pc)(q:Pc)(X:j7):Prop:=∀f lp M hd β r,Vx B f hd β->HL q.m hd->J B f lp q.b M hd=some r->Oi β M lp [] X=some r
structure KS(B:List Pc)(P:List Pe)(K:Kn):Prop where
 ok:KO P K
 s:∀x l h,QH P x l h=true->∃q,look B x=some q/\q.m=h/\(K x).1=q.ns/\SEM B q (K x).2
theorem Hh{B:List Pc}{f lp:Nat}{b:j7}{M:Mf}{hd:Hj}{r:List Nd×Nat}(h:J B f lp b M hd=some r):∃g,f=g+1/\jR (jN B (J B g) M hd) lp [] b=some r:=by
 cases f with
 |zero=>cases h
 |succ g=>exact⟨g,rfl,h⟩
theorem BE{M:Mf}{h ns:List (List Nat)}{ps vs:List u9}(n:Nat)(e:sts M ps=some vs)(l:h.length=ps.length)(hp:∀p∈ps,p.a∈ns)(hl:∀y∈ns,U7 y):FR h (J4 no h ps) n (J4 no h vs) M:=
 ⟨fun x hx=>ut x e l (.inr hx),fun x hx=>by
  rcases qw (y:=x) l with⟨p,q,z⟩|⟨a,_⟩
  ·rw[z];exact fun k _=>hl _ (hp p q) k
  ·exact absurd hx a⟩
theorem BT{x:List Nat}(h:sg x=true):U7 x:=fun k e=>by subst e;have:=aco.mp h 35 (by unfold hnm;simp);exact absurd this (by decide)
theorem zB{ns h:List (List Nat)}(a:∀y∈ns,U7 y)(b:N5 h=true):∀y∈ns++h,U7 y:=fun y hy=>(acz.mp hy).elim (a y) fun z=>BT (aco.mp b y z)
mutual
theorem Ia{K:Kn}:∀(nd:Nd)(n:Nat),n<=(M7 K n nd).2
 |.text _,_|.place _ _,_|.body _,_=>by rw[M7]<;>exact ab8 _
 |.use x ps,n=>by rw[M7];exact iq _ _ _
 |.j8 x ps h b,n=>by
  rw[M7]
  split
  ·exact iq _ _ _
  ·exact ace (iq _ _ _) (ace (oF b _) (ng _ _))
 |.loop x p b t,n=>by rw[M7];exact oF b _
 |.choice p y z,n=>by rw[M7];exact ace (oF y _) (oF z _)
theorem oF{K:Kn}:∀(b:j7)(n:Nat),n<=(H6 K n b).2
 |.nil,_=>by rw[H6];exact ab8 _
 |.cons a r,n=>by rw[H6];exact ace (Ia a _) (oF r _)
end
mutual
theorem Kb{B:List Pc}{P:List Pe}{K:Kn}(hK:KS B P K):∀(nd:Nd)(ns:List (List Nat))(m:Option Int)(n f lp:Nat)(M:Mf)(hd:Hj)(β:Bm)(acc:List Nd)(r:List Nd×Nat),okN (P,m,ns) nd=true->(∀y∈ns,U7 y)->wN nd=true->Vx B (f+1) hd β->HL m hd->jN B (J B f) M hd lp nd=some r->Oi β M lp acc (M7 K n nd).1=some (r.1.foldl bV acc,r.2)
 |.text _,ns,m,n,f,lp,M,hd,β,acc,r,ok,hl,hw,hc,hh,e=>by rw[jN]at e;rw[M7];exact iD (by rw[Oj];exact e)
 |.place p w,ns,m,n,f,lp,M,hd,β,acc,r,ok,hl,hw,hc,hh,e=>by rw[jN]at e;rw[M7];exact iD (by rw[Oj];exact e)
 |.loop x p b t,ns,m,n,f,lp,M,hd,β,acc,r,ok,hl,hw,hc,hh,e=>by
  rw[okN,ab5]at ok;rw[wN,ab5,ab5,ab5]at hw;rw[jN]at e;rw[M7];refine iD ?_;rw[Oj]
  split at e
  ·rename_i q l e1 e2;obtain⟨g,rfl,e2⟩:=Hh e2;rw[e1,pF hK b _ m n g _ _ hd β _ _ ok.2 (zB hl (by unfold N5;simp[hw.1])) hw.2.2.1 (hc.le (acS _)) hh e2];exact e
  ·cases e
 |.choice p y z,ns,m,n,f,lp,M,hd,β,acc,r,ok,hl,hw,hc,hh,e=>by
  rw[okN,ab5,ab5]at ok;rw[wN,ab5,ab5]at hw;rw[jN]at e;rw[M7];refine iD ?_;rw[Oj]
  split at e
  ·rename_i q l e1 e2;obtain⟨g,rfl,e2⟩:=Hh e2;rw[e1,pF hK y _ m n g _ _ hd β _ _ ok.2.1 hl hw.2.1 (hc.le (acS _)) hh e2];dsimp only
   split at e
   ·rename_i k e3;rw[pF hK z _ m _ g _ _ hd β _ _ ok.2.2 hl hw.2.2 (hc.le (acS _)) hh e3];exact e
   ·cases e
  ·cases e
 |.body ps,ns,m,n,f,lp,M,hd,β,acc,r,ok,hl,hw,hc,hh,e=>by
  rw[okN,ab5]at ok
  cases hd with
  |nil=>cases e
  |cons h b M0 r0=>
   have e:(match sts M ps with|some vs=>J B f lp b (J4 M0 h vs) r0|none=>none)=some r:=e;rw[M7];refine iD ?_;rw[Oj]
   split at e
   ·rename_i vs e1
    try rw[e1]
    refine hc f (acS f) vs lp r ?_ e;have a:=of_decide_eq_true ok.2;have b:m=some (h.length:Int):=hh;dsimp only at a;rw[b]at a;have:=gq e1;simp at a;omega
   ·cases e
 |.use x ps,ns,m,n,f,lp,M,hd,β,acc,r,ok,hl,hw,hc,hh,e=>by
  rw[okN,ab5]at ok;obtain⟨q,q1,q2,q3,q4⟩:=hK.s _ _ _ ok.2;obtain⟨k1,k2⟩:=hK.ok _ _ _ ok.2;rw[jN,q1]at e;rw[M7]
  cases e1:sts M ps with
  |none=>rw[e1]at e;cases e
  |some vs=>rw[e1]at e;have s:=q4 f lp _ .nil β r trivial trivial e;rw[<- q3]at s;rw[<- nh (K x).2 _ _ n _ M lp [] k2 (BE n e1 k1 (eN ok.1) hl)]at s;exact sw acc _ _ _ _ s
 |.j8 x ps h b,ns,m,n,f,lp,M,hd,β,acc,r,ok,hl,hw,hc,hh,e=>by
  rw[okN,ab5,ab5,ab5]at ok;rw[wN,ab5,ab5,ab5,ab5]at hw;obtain⟨q,q1,q2,q3,q4⟩:=hK.s _ _ _ ok.2.1;obtain⟨k1,k2⟩:=hK.ok _ _ _ ok.2.1;rw[jN,q1]at e
  cases e1:sts M ps with
  |none=>rw[e1]at e;cases e
  |some vs=>
   rw[e1]at e;have e:J B f lp q.b (J4 no q.ns vs) (.cons h b M hd)=some r:=e;have F:=BE n e1 k1 (eN ok.1) hl
   have s:=fun n2:Nat=>q4 f lp _ (.cons h b M hd) (bm β M h (H6 K n2 b).1) r (fun f' hf vs' Qg res lv hj=>by obtain⟨g,rfl,hj⟩:=Hh hj;exact pF hK b _ m n2 g _ _ hd β _ _ ok.2.2.2 (zB hl hw.2.2.1) hw.2.2.2.2 (hc.le (by omega)) hh hj) q2 e
   rw[<- q3]at s;simp only[<- nh (K x).2 _ _ n _ M lp [] k2 F]at s;rw[M7]
   split
   ·rename_i nb;have:=s 0;rw[su (β':=β) _ _ _ _ (by rw[ka];exact nb)]at this;exact sw acc _ _ _ _ this
   ·have l:=rU (K x).2 (K x).1 (J4 no (K x).1 ps) n k2;refine sw acc _ _ _ _ (sv (kR hK.ok m b _ _ ok.2.2.2) _ ns _ M lp [] r (qO n ⟨k1,k2⟩ ok.1) (lO (oF b _) _ l) ⟨fun y hy=>⟨rfl,hl y hy⟩,fun y hy k _=>hl y hy k⟩ (s _))
theorem pF{B:List Pc}{P:List Pe}{K:Kn}(hK:KS B P K):∀(b:j7)(ns:List (List Nat))(m:Option Int)(n f lp:Nat)(M:Mf)(hd:Hj)(β:Bm)(acc:List Nd)(r:List Nd×Nat),u_ (P,m,ns) b=true->(∀y∈ns,U7 y)->wS b=true->Vx B (f+1) hd β->HL m hd->jR (jN B (J B f) M hd) lp acc b=some r->Oi β M lp acc (H6 K n b).1=some r
 |.nil,ns,m,n,f,lp,M,hd,β,acc,r,ok,hl,hw,hc,hh,e=>by rw[jR]at e;rw[H6,Oi];exact e
 |.cons a t,ns,m,n,f,lp,M,hd,β,acc,r,ok,hl,hw,hc,hh,e=>by
  rw[u_,ab5]at ok;rw[wS,ab5]at hw;rw[jR]at e
  cases e1:jN B (J B f) M hd lp a with
  |none=>rw[e1]at e;cases e
  |some x=>rw[e1]at e;rw[H6,Ef _ _ _ _ _ (Kb hK a ns m n f lp M hd β acc x ok.1 hl hw.1 hc hh e1)];exact pF hK t ns m _ f _ M hd β _ r ok.2 hl hw.2 hc hh e
end
def O2(o:Option (Nat×Nat))(c d:Nat):Prop:=∃c' d',o=some (c',d')/\c'<=c/\d'<=d
theorem vx{g:Nd->Option (Nat×Nat)}(z:j7){c2 d2:Nat}(h2:cR g z=some (c2,d2)):∀(y:j7)(c1 d1:Nat),cR g y=some (c1,d1)->cR g (J6 y z)=some (c1+c2,max d1 d2)
 |.nil,c1,d1,h=>by rw[cR]at h;cases h;rw[J6,h2,adU,aga]
 |.cons n r,c1,d1,h=>by
  rw[cR]at h;rw[J6,cR]
  cases e1:g n with
  |none=>rw[e1]at h;cases h
  |some a=>
   cases e2:cR g r with
   |none=>rw[e1,e2]at h;cases h
   |some b=>
    rw[e1,e2]at h
    cases h
    rw[vx z h2 r b.1 b.2 e2];dsimp only;rw[afT,ae8]
theorem O2.cat{g:Nd->Option (Nat×Nat)}{y z:j7}{c1 d1 c2 d2 c d:Nat}(h1:O2 (cR g y) c1 d1)(h2:O2 (cR g z) c2 d2)(hc:c1+c2<=c)(hd:max d1 d2<=d):O2 (cR g (J6 y z)) c d:=by obtain⟨a,b,e,l1,l2⟩:=h1;obtain⟨a',b',e',l3,l4⟩:=h2;exact⟨_,_,vx z e' y a b e,by omega,by omega⟩
theorem O2.one{g:Nd->Option (Nat×Nat)}{n:Nd}{c d:Nat}(h:O2 (g n) c d):O2 (cR g (jc n)) c d:=by obtain⟨a,b,e,l1,l2⟩:=h;exact⟨a,b,by rw[cR,e];show some (a+0,max b 0)=_;rw[Nat.add_zero,Nat.max_zero],l1,l2⟩
theorem O2.up{o:Option (Nat×Nat)}{c d:Nat}(h:O2 o c d):O2 (RM o) (c+1) (d+1):=by obtain⟨a,b,rfl,l1,l2⟩:=h;exact⟨a+1,b+1,rfl,by omega,by omega⟩
theorem O2.le{o:Option (Nat×Nat)}{c d c' d':Nat}(h:O2 o c d)(hc:c<=c')(hd:d<=d'):O2 o c' d':=by obtain⟨a,b,e,l1,l2⟩:=h;exact⟨a,b,e,ace l1 hc,ace l2 hd⟩
theorem DP(σ:Mf)(z:j7):∀(y:j7)(n:Nat),G6 σ n (J6 y z)=(J6 (G6 σ n y).1 (G6 σ (G6 σ n y).2 z).1,(G6 σ (G6 σ n y).2 z).2)
 |.nil,n=>by rw[J6,G6,J6]
 |.cons a r,n=>by rw[J6,G6,DP σ z r,G6,J6]
theorem EA:∀x y z:j7,J6 (J6 x y) z=J6 x (J6 y z)
 |.nil,y,z=>by rw[J6,J6]
 |.cons a r,y,z=>by rw[J6,J6,J6,EA r]
theorem DX(h:List (List Nat))(B z:j7):∀(y:j7)(n:Nat),I_ h B n (J6 y z)=(J6 (I_ h B n y).1 (I_ h B (I_ h B n y).2 z).1,(I_ h B (I_ h B n y).2 z).2)
 |.nil,n=>by rw[J6,I_,J6]
 |.cons a r,n=>by rw[J6,I_,DX h B z r,I_,EA]
theorem HJ{G:Nd->Option (Nat×Nat)}(k:∀a σ n,G (Oc σ n a).1=G a):∀(b:j7)(σ:Mf)(n:Nat),cR G (G6 σ n b).1=cR G b
 |.nil,_,_=>by rw[G6]
 |.cons a r,σ,n=>by rw[G6,cR,cR,k,HJ k r]
theorem xt:∀(g:Nat)(b:j7)(σ:Mf)(n:Nat)(hd:Hd),cX [] g (G6 σ n b).1 hd=cX [] g b hd
 |0,_,_,_,_=>rfl
 |g+1,b,σ,n,hd=>by
  rw[cX];refine HJ (fun a σ n=>?_) b σ n
  cases a with
  |loop x p b t=>rw[Oc,K5,K5,xt g b]
  |choice p y z=>rw[Oc,K5,K5,<- xt g (J6 y z) σ n,DP]
  |body ps=>rw[Oc];cases hd<;>rfl
  |text=>rfl
  |place=>rfl
  |use=>rfl
  |j8=>rfl
theorem Ag(h1 h2:Hd):∀(g:Nat)(b:j7),M6 b=true->cX [] g b h1=cX [] g b h2
 |0,_,_=>rfl
 |g+1,b,h=>by
  have row:∀b:j7,M6 b=true->cR (K5 [] (cX [] g) h1) b=cR (K5 [] (cX [] g) h2) b:=fun b=>by
   induction b using j7.rec (motive_1:=fun _=>True)with
   |nil=>intro _;rw[cR,cR]
   |cons a r _ ih=>
    intro h;rw[M6,ab5]at h;rw[cR,cR,ih h.2]
    have:K5 [] (cX [] g) h1 a=K5 [] (cX [] g) h2 a:=by
     have h:=h.1
     cases a with
     |loop x p b t=>rw[O6]at h;rw[K5,K5,Ag h1 h2 g b h]
     |choice p y z=>rw[O6]at h;rw[K5,K5,Ag h1 h2 g _ (by rw[Da];exact h)]
     |body=>cases h
     |_=>rfl
    rw[this]
   |_=>trivial
  exact row b h
theorem jo{o:Option (Nat×Nat)}{c d:Nat}(h:RM o=some (c,d)):∃c' d',o=some (c',d')/\c=c'+1/\d=d'+1:=by
 cases o with
 |none=>cases h
 |some a=>cases h;exact⟨_,_,rfl,rfl,rfl⟩
theorem Eo{h:List (List Nat)}{B:j7}{hd:Hd}:∀(g:Nat)(X:j7)(n c d:Nat),cX [] g X (.cons B 0 hd)=some (c,d)->O2 (cX [] g (I_ h B n X).1 hd) c d
 |0,_,_,_,_,e=>by cases e
 |g+1,X,n,c,d,e=>by
  have node:∀(a:Nd)(n c d:Nat),K5 [] (cX [] g) (.cons B 0 hd) a=some (c,d)->O2 (cR (K5 [] (cX [] g) hd) (N7 h B n a).1) c d:=fun a n c d e=>by
   cases a with
   |text=>rw[N7];exact O2.one ⟨c,d,e,ab8 _,ab8 _⟩
   |place=>rw[N7];exact O2.one ⟨c,d,e,ab8 _,ab8 _⟩
   |use=>cases e
   |j8=>cases e
   |loop x p b t=>obtain⟨c',d',e0,rfl,rfl⟩:=jo e;rw[N7];exact O2.one (O2.up (Eo g b n c' d' e0))
   |choice p y z=>obtain⟨c',d',e0,rfl,rfl⟩:=jo e;have:=Eo (h:=h) g (J6 y z) n c' d' e0;rw[DX]at this;rw[N7];exact O2.one (O2.up this)
   |body ps=>
    obtain⟨c',d',e0,rfl,rfl⟩:=jo e;rw[N7];have:cX [] (g+1) (G6 (J4 no h ps) n B).1 hd=some (c',d'):=by rw[xt];exact ji _ _ _ _ _ e0
    exact⟨c',d',this,acS _,acS _⟩
  have row:∀(b:j7)(n c d:Nat),cR (K5 [] (cX [] g) (.cons B 0 hd)) b=some (c,d)->O2 (cR (K5 [] (cX [] g) hd) (I_ h B n b).1) c d:=fun b=>by
   induction b using j7.rec (motive_1:=fun _=>True)with
   |nil=>intro n c d e;rw[I_];exact⟨c,d,e,ab8 _,ab8 _⟩
   |cons a r _ ih=>
    intro n c d e;rw[cR]at e
    cases e1:K5 [] (cX [] g) (.cons B 0 hd) a with
    |none=>rw[e1]at e;cases e
    |some x=>
     cases e2:cR (K5 [] (cX [] g) (.cons B 0 hd)) r with
     |none=>rw[e1,e2]at e;cases e
     |some y=>
      rw[e1,e2]at e
      cases e
      rw[I_];exact O2.cat (node a n x.1 x.2 e1) (ih _ y.1 y.2 e2) (ab8 _) (ab8 _)
   |_=>trivial
  exact row X n c d e
def HW(B:List Pc):Hd->Hd->Prop
 |.nil,.nil=>True
 |.cons b _ r,.cons X _ r'=>∀f c d,cX B f b r=some (c,d)->O2 (cX [] f X r') c d
 |_,_=>False
def CEM(B:List Pc)(q:Pc)(X:j7):Prop:=∀f hd O1 c d,HW B hd O1->cX B f q.b hd=some (c,d)->O2 (cX [] f X O1) c d
def KC(B:List Pc)(P:List Pe)(K:Kn):Prop:=∀x l h,QH P x l h=true->∃q,look B x=some q/\CEM B q (K x).2
theorem O2.mono{f:Nat}{X:j7}{hd:Hd}{c d:Nat}(h:O2 (cX [] f X hd) c d):O2 (cX [] (f+1) X hd) c d:=by obtain⟨a,b,e,l⟩:=h;exact⟨a,b,ji _ _ _ _ _ e,l⟩
mutual
theorem KG{B:List Pc}{P:List Pe}{K:Kn}(hO:KO P K)(hK:KC B P K):∀(nd:Nd)(ns:List (List Nat))(m:Option Int)(n f:Nat)(hd O1:Hd)(c d:Nat),okN (P,m,ns) nd=true->HW B hd O1->K5 B (cX B f) hd nd=some (c,d)->O2 (cX [] (f+1) (M7 K n nd).1 O1) c d
 |.text _,ns,m,n,f,hd,O1,c,d,ok,hh,e=>by rw[M7];exact O2.one ⟨c,d,e,ab8 _,ab8 _⟩
 |.place p w,ns,m,n,f,hd,O1,c,d,ok,hh,e=>by rw[M7];exact O2.one ⟨c,d,e,ab8 _,ab8 _⟩
 |.loop x p b t,ns,m,n,f,hd,O1,c,d,ok,hh,e=>by rw[okN,ab5]at ok;obtain⟨c',d',e0,rfl,rfl⟩:=jo e;rw[M7];exact O2.one (O2.up (nr hO hK b _ m n f hd O1 c' d' ok.2 hh e0))
 |.choice p y z,ns,m,n,f,hd,O1,c,d,ok,hh,e=>by
  rw[okN,ab5,ab5]at ok;obtain⟨c',d',e0,rfl,rfl⟩:=jo e;rw[M7];refine O2.one (O2.up ?_)
  cases f with
  |zero=>cases e0
  |succ f=>obtain⟨c1,d1,c2,d2,h1,h2,h3,h4,h5⟩:=Et _ _ _ _ e0;have a:=nr hO hK y _ m n (f+1) hd O1 c1 d1 ok.2.1 hh h1;have b:=nr hO hK z _ m (H6 K n y).2 (f+1) hd O1 c2 d2 ok.2.2 hh h2;exact O2.cat a b (by omega) (afw.mpr ⟨h4,h5⟩)
 |.body ps,ns,m,n,f,hd,O1,c,d,ok,hh,e=>by
  rw[M7];refine O2.one ?_
  cases hd with
  |nil=>cases O1 with
   |nil=>exact⟨c,d,e,ab8 _,ab8 _⟩
   |cons _ _ _=>exact hh.elim
  |cons b i r=>cases O1 with
   |nil=>exact hh.elim
   |cons X i' r'=>obtain⟨c',d',e0,rfl,rfl⟩:=jo e;exact O2.up (hh f c' d' e0)
 |.use x ps,ns,m,n,f,hd,O1,c,d,ok,hh,e=>by rw[okN,ab5]at ok;obtain⟨q,q1,q2⟩:=hK _ _ _ ok.2;rw[K5,q1]at e;obtain⟨c',d',e0,rfl,rfl⟩:=jo e;have:=q2 f .nil .nil c' d' trivial e0;rw[M7];have z:=this.mono;rw[Ag _ O1 _ _ (mq _ _ (hO _ _ _ ok.2).2),<- xt (f+1) (K x).2 (J4 no (K x).1 ps) n]at z;exact z.le (acS _) (acS _)
 |.j8 x ps h b,ns,m,n,f,hd,O1,c,d,ok,hh,e=>by
  rw[okN,ab5,ab5,ab5]at ok;obtain⟨q,q1,q2⟩:=hK _ _ _ ok.2.1;rw[K5,q1]at e;obtain⟨c',d',e0,rfl,rfl⟩:=jo e;have s:=fun n2:Nat=>(q2 f (.cons b 0 hd) (.cons (H6 K n2 b).1 0 O1) c' d' (fun f' c2 d2 e2=>nr hO hK b _ m n2 f' hd O1 c2 d2 ok.2.2.2 hh e2) e0).mono;simp only[<- xt (f+1) (K x).2 (J4 no (K x).1 ps) n]at s;rw[M7]
  split
  ·rename_i nb;have:=s 0;rw[Ag _ O1 _ _ (by rw[ka];exact nb)]at this;exact this.le (acS _) (acS _)
  ·obtain⟨a,b2,e2,l1,l2⟩:=s (G6 (J4 no (K x).1 ps) n (K x).2).2;exact(Eo _ _ _ _ _ e2).le (by omega) (by omega)
theorem nr{B:List Pc}{P:List Pe}{K:Kn}(hO:KO P K)(hK:KC B P K):∀(b:j7)(ns:List (List Nat))(m:Option Int)(n f:Nat)(hd O1:Hd)(c d:Nat),u_ (P,m,ns) b=true->HW B hd O1->cX B f b hd=some (c,d)->O2 (cX [] f (H6 K n b).1 O1) c d
 |_,_,_,_,0,_,_,_,_,_,_,e=>by cases e
 |.nil,ns,m,n,f+1,hd,O1,c,d,ok,hh,e=>by rw[H6];exact⟨c,d,e,ab8 _,ab8 _⟩
 |.cons a r,ns,m,n,f+1,hd,O1,c,d,ok,hh,e=>by
  rw[u_,ab5]at ok;have e:cR (K5 B (cX B f) hd) (.cons a r)=some (c,d):=e;rw[cR]at e
  cases e1:K5 B (cX B f) hd a with
  |none=>rw[e1]at e;cases e
  |some x=>
   cases e2:cR (K5 B (cX B f) hd) r with
   |none=>rw[e1,e2]at e;cases e
   |some y=>
    rw[e1,e2]at e
    cases e
    rw[H6];exact O2.cat (KG hO hK a ns m n f hd O1 x.1 x.2 ok.1 hh e1) (nr hO hK r ns m _ (f+1) hd O1 y.1 y.2 ok.2 hh e2) (ab8 _) (ab8 _)
end
structure SG(d:List (PK×PV))(σ:Mf)(Ls:Nat):Prop where
 p:aW d=true
 v:∀x,dI d (.inr x)=(σ x).map G3
 w:∀x v,σ x=some v->v.f.length<=Ls
theorem SG.put{d:List (PK×PV)}{σ:Mf}{Ls:Nat}(h:SG d σ Ls)(x:List Nat){v:u9}(l:v.f.length<=Ls):SG (dP d (.inr x) (G3 v)) (up1 σ x v) Ls where
 p:=iP d _ _ h.p (eG v)
 v:=fun y=>by
  rw[vL,up1]
  by_cases e:y=x
  ·rw[if_pos (by rw[e]),if_pos e];rfl
  ·rw[if_neg (fun z=>e (by injection z)),if_neg e];exact h.v y
 w:=fun y u hu=>by
  rw[up1]at hu
  split at hu
  ·cases hu;exact l
  ·exact h.w y u hu
theorem SG.le{d:List (PK×PV)}{σ:Mf}{Ls Lt:Nat}(h:SG d σ Ls)(l:Ls<=Lt):SG d σ Lt:=⟨h.p,h.v,fun x v e=>ace (h.w x v e) l⟩
theorem SG.nil:SG [] no 0:=⟨rfl,fun _=>rfl,fun _ _ e=>by cases e⟩
def zq:List (List Nat)->List u9->List (PK×PV)
 |x::r,p::t=>(.inr x,G3 p)::zq r t
 |_,_=> []
theorem Hi:∀(h:List (List Nat))(ps:List u9),Uc (h.map PV.str) (dG ps)=some (zq h ps)
 |x::r,y::t=>by show Uc (PV.str x::r.map PV.str) (G3 y::dG t)=_;rw[Uc,Hi r t];rfl
 |[],_=>by rw[acM];unfold Uc zq;rfl
 |_::_,[]=>rfl
theorem SG.zip{Ls:Nat}:∀(h:List (List Nat))(ps:List u9)(d:List (PK×PV))(σ:Mf),SG d σ Ls->(∀p∈ps,p.f.length<=Ls)->SG ((zq h ps).foldl (fun acc kv=>dP acc kv.1 kv.2) d) (J4 σ h ps) Ls/\((zq h ps).foldl (fun acc kv=>dP acc kv.1 kv.2) d).length<=d.length+h.length
 |[],_,d,σ,s,_=>by simp only[zq,J4];exact⟨s,ab8 _⟩
 |_::_,[],d,σ,s,_=>by simp only[zq,J4];exact⟨s,acQ _ _⟩
 |x::r,p::t,d,σ,s,l=>by obtain⟨a,b⟩:=SG.zip r t _ _ (s.put x (l p (by simp))) fun q hq=>l q (by simp[hq]);have:=jD d (.inr x) (G3 p);rw[zq,J4,ad4];exact⟨a,by rw[acw];exact ace b (by omega)⟩
theorem SG.dz{Ls:Nat}(h:List (List Nat))(ps:List u9)(l:∀p∈ps,p.f.length<=Ls):SG (Sy (zq h ps)) (J4 no h ps) Ls/\(Sy (zq h ps)).length<=h.length:=by have:=SG.zip h ps [] no (SG.nil.le (acu Ls)) l;rw[adg,adU]at this;exact this
theorem yt(h:List (List Nat))(ps:List u9)(g:List PO):rH [nms h,.tup (dG ps)] g=.ok (.ref g.length) (g++ [.dct (Sy (zq h ps))]):=by show(match Uc (h.map PV.str) (dG ps)with|some l=>Res.ok (PV.ref g.length) (g++ [PO.dct (Sy l)])|none=>.bad)=_;rw[Hi]
theorem xe{g:List PO}{d:List (PK×PV)}(h:aW d=true):TJ (.ref g.length) (g++ [.dct d])=.ok (.dct d) (g++ [.J8 (.dct d)]):=by unfold TJ W6 nV;dsimp only;rw[adV];dsimp only;rw[if_pos h];dsimp only;rw[ad3 _ _ (ab8 _)];simp
theorem FQ(k:Nat){d:List (PK×PV)}{σ:Mf}{Ls:Nat}(h:SG d σ Ls)(p:u9)(l:p.f.length+Ls<=10000000):F (k+1) .K9 [G3 p,.dct d]=.ok (G3 (led σ p)):=by
 have hd:(PV.dct d).pure=true:=by rw[PV.pure];exact h.p
 obtain⟨u,hu,eu,lu⟩:∃u:u9,(∀g,ya (.dct d) [.str p.a,.tup [.str p.a]] g=.ok (G3 u) g)/\led σ p=⟨u.a,u.f++p.f⟩/\u.f.length<=Ls:=by
  have e:=h.v p.a;unfold led
  cases z:σ p.a with
  |none=>rw[z]at e;refine⟨⟨p.a,[]⟩,fun g=>?_,rfl,acu _⟩;show Res.ok (match dI d (.inr p.a)with|some v=>aq g v|none=>_) g=_;rw[e];rfl
  |some v=>rw[z]at e;refine⟨v,fun g=>?_,rfl,h.w _ _ z⟩;show Res.ok (match dI d (.inr p.a)with|some v=>aq g v|none=>_) g=_;rw[e];rfl
 have ad:∀g,aI (G3 u) (.tup (p.f.map PV.str)) g=.ok (G3 (led σ p)) g:=fun g=>by unfold G3;rw[fK _ _ _ (ace (by simp;omega:_<=10000001) (by decide)),eu];simp
 have is:∀g,tN g (.dct d)=true:=fun g=>rfl;show bz (qG (F k)) 2 2 [.tup (.str p.a::p.f.map PV.str),.dct d]=_;simp only[EX,bz,qG,Qa,yN,aL _ hd,is,hu,ad];exact mZ _ (eG _)
theorem iS(k:Nat){d:List (PK×PV)}{σ:Mf}{Ls:Nat}(h:SG d σ Ls)(p:u9)(l:p.f.length+Ls<=10000000)(g:List PO):bO (F (k+1) .K9) [G3 p,.dct d] g=.ok (G3 (led σ p)) g:=
 bp g (by rw[ar,eG,ar,PV.pure,h.p];rfl) (FQ k h p l)
theorem xo{α:Type}{te:Ex}{cp:Ev}(f g:α->PV)(h:List PO):∀(l:List α),(∀x∈l,te (some (f x)::cp) h=.ok (g x) h)->cY cV te cp (l.map f) h=.ok (l.map g) h
 |[],_=>rfl
 |x::r,e=>by rw[ab7,ab7,cY];show((Res.ok true h:Res Bool).bind _)=_;rw[Res.bind,if_pos rfl,e x (by simp),Res.bind,xo f g h r fun y hy=>e y (by simp[hy])];rfl
mutual
def OD(L:Nat):Nd->Prop
 |.place p _=>p.f.length<=L
 |.loop _ p b _=>p.f.length<=L/\Ot L b
 |.choice p y z=>p.f.length<=L/\(Ot L y/\Ot L z)
 |.body ps=>(∀p∈ps,p.f.length<=L)/\ps.length<60
 |.text s=>s.length<=1000
 |_=>True
def Ot(L:Nat):j7->Prop
 |.nil=>True
 |.cons a r=>OD L a/\Ot L r
end
theorem qx{σ:Mf}{Ls L:Nat}(h:∀x v,σ x=some v->v.f.length<=Ls){p:u9}(l:p.f.length<=L):(led σ p).f.length<=L+Ls:=by
 unfold led
 cases e:σ p.a with
 |none=>dsimp only;omega
 |some v=>have:=h _ _ e;simp;omega
theorem Ih{σ:Mf}{Ls:Nat}(h:∀x v,σ x=some v->v.f.length<=Ls)(x z:List Nat):∀y v,up1 σ x ⟨z,[]⟩ y=some v->v.f.length<=Ls:=fun y v e=>by
 rw[up1]at e
 split at e
 ·cases e;exact acu _
 ·exact h y v e
mutual
theorem II{Ls L:Nat}:∀(nd:Nd)(σ:Mf)(n:Nat),(∀x v,σ x=some v->v.f.length<=Ls)->OD L nd->OD (L+Ls) (Oc σ n nd).1
 |.use _ _,_,_,_,_|.j8 _ _ _ _,_,_,_,_=>by rw[Oc]<;>trivial
 |.text s,σ,n,h,l=>l
 |.place p w,σ,n,h,l=>by rw[Oc,OD];rw[OD]at l;exact qx h l
 |.body ps,σ,n,h,l=>by rw[OD]at l;rw[Oc,OD,ab9];refine⟨fun p hp=>?_,l.2⟩;obtain⟨q,hq,rfl⟩:=acK.mp hp;exact qx h (l.1 q hq)
 |.loop x p b t,σ,n,h,l=>by rw[OD]at l;rw[Oc,OD];exact⟨qx h l.1,lh b _ _ (Ih h x _) l.2⟩
 |.choice p y z,σ,n,h,l=>by rw[OD]at l;rw[Oc,OD];exact⟨qx h l.1,lh y _ _ h l.2.1,lh z _ _ h l.2.2⟩
theorem lh{Ls L:Nat}:∀(b:j7)(σ:Mf)(n:Nat),(∀x v,σ x=some v->v.f.length<=Ls)->Ot L b->Ot (L+Ls) (G6 σ n b).1
 |.nil,_,_,_,_=>by rw[G6];trivial
 |.cons a r,σ,n,h,l=>by rw[Ot]at l;rw[G6,Ot];exact⟨II a _ _ h l.1,lh r _ _ h l.2⟩
end
mutual
theorem El:∀(nd:Nd)(σ:Mf)(n:Nat),K_ (Oc σ n nd).1=K_ nd/\dN (Oc σ n nd).1=dN nd/\(Oc σ n nd).2<=n+K_ nd+1
 |.text _,_,_|.use _ _,_,_|.j8 _ _ _ _,_,_|.place _ _,_,_|.body _,_,_=>by rw[Oc]<;>exact⟨rfl,rfl,by omega⟩
 |.loop x p b t,σ,n=>by obtain⟨a,c,e⟩:=gC b (up1 σ x ⟨hnm (n+1),[]⟩) (n+1);rw[Oc,K_,K_,dN,dN,a,c];exact⟨rfl,rfl,by dsimp only;omega⟩
 |.choice p y z,σ,n=>by obtain⟨a,c,e⟩:=gC y σ n;obtain⟨a',c',e'⟩:=gC z σ (G6 σ n y).2;rw[Oc,K_,K_,dN,dN,a,c,a',c'];exact⟨rfl,rfl,by dsimp only;omega⟩
theorem gC:∀(b:j7)(σ:Mf)(n:Nat),p7 (G6 σ n b).1=p7 b/\dS (G6 σ n b).1=dS b/\(G6 σ n b).2<=n+p7 b
 |.nil,_,_=>by rw[G6];exact⟨rfl,rfl,by omega⟩
 |.cons a r,σ,n=>by obtain⟨x,y,e⟩:=El a σ n;obtain⟨x',y',e'⟩:=gC r σ (Oc σ n a).2;rw[G6,p7,p7,dS,dS,x,y,x',y'];exact⟨rfl,rfl,by dsimp only;omega⟩
end
abbrev G5(n:Nat):PO:=.lst [.int (n:Int)]
theorem cW(n:Nat):(G5 n).pure=true:=rfl
theorem Hs{n:Nat}(h:n<=1000000000000):((n:Int).natAbs).log2<1920:=by
 rw[Int.natAbs_natCast]
 by_cases e:n=0
 ·subst e;decide
 ·rw[Nat.log2_lt e];exact acU h (by decide+kernel)
theorem ET{n:Nat}(h:n<=1000000000000):(jb (n:Int)).length<=100:=by rw[qQ,ab9];exact ace (Nat.length_toDigits_le_iff (b:=10) (k:=20) (by decide) (by decide) |>.mpr (acU h (by decide))) (by decide)
theorem yY(c:Nat){n:Nat}(h:n<=1000000000000)(g:List PO):aI (.str [c]) (.str (jb (n:Int))) g=.ok (.str (c::jb (n:Int))) g:=by have sl:=ET h;have q: [c].length+(jb (n:Int)).length<=sizeLine:=ace (show 1+(jb (n:Int)).length<=1000 by omega) (by decide);rw[Am,if_pos q];rfl
section
variable{o:PO}
theorem vD(acc:List PV)(l:acc.length<=1000000)(v:PV)(t:List PO):bD (.ref 1) [v] (o::.lst acc::t)=.ok .non (o::.lst (acc++ [v])::t):=by show(if acc.length<sizeLine then Res.ok PV.non _ else .bad)=_;rw[if_pos (acU l (by decide))];rfl
theorem vg(acc:List PV)(t:List PO):dZ (o::.lst acc::t) (.ref 1)=true:=rfl
theorem sC(acc:List PV)(t:List PO):aq (o::.lst acc::t) (.ref 1)=.ref 1:=rfl
end
theorem sD(xs:List PV)(t:List PO):aq (.lst xs::t) (.ref 0)=.ref 0:=rfl
theorem MD(n:Nat)(t:List PO):d7 (.ref 0) (.int 0) (G5 n::t)=.ok (.int (n:Int)) (G5 n::t):=rfl
theorem Ll(n m:Nat)(ρ:Ev)(t:List PO):iN (.int (m:Int)) (.ref 0) (.int 0) ρ (G5 n::t)=.nx ρ (G5 m::t):=rfl
theorem mQ(p:u9)(g:List PO):aq g (G3 p)=G3 p:=rfl
theorem nM(p:List u9)(g:List PO):aq g (.tup (dG p))=.tup (dG p):=rfl
theorem cT(p:List PV)(g:List PO):aq g (.tup p)=.tup p:=rfl
abbrev fE(bv:Option PV)(d:List (PK×PV))(x4 x5 x6:Option PV):Ev:=[bv,some (.dct d),some (.ref 0),some (.ref 1),x4,x5,x6]
def CF(b:j7):Prop:=∀(K n Ls Lp:Nat)(m:Option Int)(ns:List (List Nat))(d:List (PK×PV))(σ:Mf),dS b+3<=K->SG d σ Ls->d.length+dS b<=900->u_ (X0 m ns) b=true->Ot Lp b->Lp+Ls<=10000000->p7 b<=1000000->n+p7 b<=1000000000000->
 L K .I7 [.tup (d8 b),.dct d,.ref 0] [G5 n]=.ok (.tup (d8 (G6 σ n b).1)) [G5 (G6 σ n b).2]
def Vy(a:Nd):Prop:=∀(K n Ls Lp:Nat)(m:Option Int)(ns:List (List Nat))(d:List (PK×PV))(σ:Mf),dN a+2<=K->SG d σ Ls->d.length+dN a<=900->okN (X0 m ns) a=true->OD Lp a->Lp+Ls<=10000000->K_ a<=1000000->n+K_ a+1<=1000000000000->
 ∀(bv:Option PV)(acc:List PV)(t:List PO)(x5 x6:Option PV),acc.length<=1000000->∃y5 y6 t',ew (F K) (L K) (fE bv d (some (nd a)) x5 x6) (G5 n::.lst acc::t)=.nx (fE bv d (some (nd (Oc σ n a).1)) y5 y6) (G5 (Oc σ n a).2::.lst (acc++ [nd (Oc σ n a).1])::t')
theorem CF.call{b:j7}(cf:CF b){K n Ls Lp:Nat}{m:Option Int}{ns:List (List Nat)}{d:List (PK×PV)}{σ:Mf}(hK:dS b+3<=K)(h:SG d σ Ls)(hl:d.length+dS b<=900)(ok:u_ (X0 m ns) b=true)(pl:Ot Lp b)(l:Lp+Ls<=10000000)(c:p7 b<=1000000)(hn:n+p7 b<=1000000000000){g:List PO}{i:Nat}(e:g[i]? =some (G5 n)):
  w6 (L K .I7) [.tup (d8 b),.dct d,.ref i] g=.ok (.tup (d8 (G6 σ n b).1)) (g.set i (G5 (G6 σ n b).2)):=
 cS [.tup (d8 b),.dct d] [] (by simp only[ar,PV.pure,aU,h.p];rfl) rfl e (cW n) (cf K n Ls Lp m ns d σ hK h hl ok pl l c hn) (by rw[PV.pure];exact aU _) (cW _)
theorem GA(x:List Nat):Vy (.text x):=fun K n Ls Lp m ns d σ hK h hl ok pl l c hn bv acc t x5 x6 la=>by refine⟨x5,x6,t,?_⟩;rw[Oc,nd];simp only[EX,ew,fE,vD acc la,vg,sC,sD]
theorem DN(p:u9)(x:List Nat):Vy (.place p x):=fun K n Ls Lp m ns d σ hK h hl ok pl l c hn bv acc t x5 x6 la=>by
 obtain⟨k,rfl⟩:∃k,K=k+1:=⟨K - 1,by omega⟩
 have hd:(PV.dct d).pure=true:=by rw[PV.pure];exact h.p
 rw[OD]at pl;have lc:=iS k h p (by omega);refine⟨x5,x6,t,?_⟩;rw[Oc,nd,nd];simp only[EX,ew,fE,vD acc la,vg,sC,sD,lc,aL _ hd,mQ]
theorem GD(ps:List u9):Vy (.body ps):=fun K n Ls Lp m ns d σ hK h hl ok pl l c hn bv acc t x5 x6 la=>by
 obtain⟨k,rfl⟩:∃k,K=k+1:=⟨K - 1,by omega⟩
 have hd:(PV.dct d).pure=true:=by rw[PV.pure];exact h.p
 rw[OD]at pl
 have co:=xo (te:=jg (F (k+1))) (cp:=[some (.dct d)]) G3 (fun p=>G3 (led σ p)) (G5 n::.lst acc::t) ps fun p hp=>by have lc:=iS k h p (by have:=pl.1 p hp;omega) (G5 n::.lst acc::t);simp only[EX,jg,aL _ hd,mQ,lc]
 have co:cY cV (jg (F (k+1))) [some (.dct d)] (dG ps) (G5 n::.lst acc::t)=.ok (dG (ps.map (led σ))) (G5 n::.lst acc::t):=by unfold dG;rw[co,ady];rfl
 have ln:(dG ps).length<16777216:=by unfold dG;rw[ab9];omega
 have cp:∀q,dj [1] (fE bv d q x5 x6)=[some (.dct d)]:=fun q=>rfl;unfold fE at cp;refine⟨x5,x6,t,?_⟩;rw[Oc,nd,nd];simp only[EX,ew,fE,vD acc la,vg,sC,sD,aL _ hd,nM,cp,co,ln]
theorem sH{te:Ex}{cp:Ev}{a b v w:PV}{g g1 g2:List PO}(e1:te (some a::cp) g=.ok v g1)(e2:te (some b::cp) g1=.ok w g2):cY cV te cp [a,b] g=.ok [v,w] g2:=by unfold cY;show((te _ _).bind _)=_;rw[e1];show((cY _ _ _ _ _).bind _)=_;unfold cY;show(((te _ _).bind _).bind _)=_;rw[e2];rfl
theorem Bc(p:u9)(y z:j7)(cy:CF y)(cz:CF z):Vy (.choice p y z):=fun K n Ls Lp m ns d σ hK h hl ok pl l c hn bv acc t x5 x6 la=>by
 obtain⟨k,rfl⟩:∃k,K=k+1:=⟨K - 1,by omega⟩
 have hd:(PV.dct d).pure=true:=by rw[PV.pure];exact h.p
 rw[dN]at hK hl;rw[K_]at c hn;rw[okN,ab5,ab5]at ok;rw[OD]at pl;have lc:=iS k h p (by omega);have ny:=(gC y σ n).2.2;have ly:=cy.call (K:=k+1) (n:=n) (by omega) h (by omega) ok.2.1 pl.2.1 l (by omega) (by omega) (g:=G5 n::.lst acc::t) (i:=0) rfl;have lz:=cz.call (K:=k+1) (n:=(G6 σ n y).2) (by omega) h (by omega) ok.2.2 pl.2.2 l (by omega) (by omega) (g:=G5 (G6 σ n y).2::.lst acc::t) (i:=0) rfl;simp only[adL]at ly lz;have cp:dj [1,2,4] (fE bv d (some (.tup [.str tC,G3 p,.tup (d8 y),.tup (d8 z)])) x5 x6)=[some (.dct d),some (.ref 0),some (.tup [.str tC,G3 p,.tup (d8 y),.tup (d8 z)])]:=rfl;unfold fE at cp
 have e2:fY (F (k+1)) (L (k+1)) [some (.int 2),some (.dct d),some (.ref 0),some (.tup [.str tC,G3 p,.tup (d8 y),.tup (d8 z)])] (G5 n::.lst acc::t)=.ok (.tup (d8 (G6 σ n y).1)) (G5 (G6 σ n y).2::.lst acc::t):=by simp only[EX,fY,at2,cT,sD,aL _ hd,ly]
 have e3:fY (F (k+1)) (L (k+1)) [some (.int 3),some (.dct d),some (.ref 0),some (.tup [.str tC,G3 p,.tup (d8 y),.tup (d8 z)])] (G5 (G6 σ n y).2::.lst acc::t)=.ok (.tup (d8 (G6 σ (G6 σ n y).2 z).1)) (G5 (G6 σ (G6 σ n y).2 z).2::.lst acc::t):=by simp only[EX,fY,SQ,cT,sD,aL _ hd,lz]
 have co:cY cV (fY (F (k+1)) (L (k+1))) [some (.dct d),some (.ref 0),some (.tup [.str tC,G3 p,.tup (d8 y),.tup (d8 z)])] [.int 2,.int 3] (G5 n::.lst acc::t)=.ok [.tup (d8 (G6 σ n y).1),.tup (d8 (G6 σ (G6 σ n y).2 z).1)] (G5 (G6 σ (G6 σ n y).2 z).2::.lst acc::t):=sH e2 e3;have ad:∀a b g,aI (.tup [.str tC,G3 (led σ p)]) (.tup [a,b]) g=.ok (.tup [.str tC,G3 (led σ p),a,b]) g:=fun a b g=>fK _ _ g (show 4<=sizeLine by decide);refine⟨x5,x6,t,?_⟩;rw[Oc,nd,nd];simp only[EX,ew,fE,vD acc la,vg,sC,sD,lc,aL _ hd,mQ,cT,cp,co,ad,show(2:Nat)<16777216 by decide]
theorem GC(x:List Nat)(p:u9)(b:j7)(u:List Nat)(cb:CF b):Vy (.loop x p b u):=fun K n Ls Lp m ns d σ hK h hl ok pl l c hn bv acc t x5 x6 la=>by
 obtain⟨k,rfl⟩:∃k,K=k+1:=⟨K - 1,by omega⟩
 have hd:(PV.dct d).pure=true:=by rw[PV.pure];exact h.p
 rw[dN]at hK hl;rw[K_]at c hn;rw[okN,ab5]at ok;rw[OD]at pl;have lc:=iS k h p (by omega);have hp:=h.put x (v:=⟨hnm (n+1),[]⟩) (acu _);have Xk:=jD d (.inr x) (G3 ⟨hnm (n+1),[]⟩);generalize O1:dP d (.inr x) (G3 ⟨hnm (n+1),[]⟩)=d' at hp Xk;have lb:=cb.call (K:=k+1) (n:=n+1) (by omega) hp (by omega) ok.2 pl.2 l (by omega) (by omega) (g:=G5 (n+1)::.lst acc::(t++ [.J8 (.dct d')])) (i:=0) rfl;rw[adL]at lb;have gl:(G5 (n+1)::PO.lst acc::t).length=t.length+2:=rfl;have mk:iQ [.dct d] (G5 (n+1)::.lst acc::t)=.ok (.ref (t.length+2)) (G5 (n+1)::.lst acc::(t++ [.dct d])):=rfl;have dl:d.length<sizeLine:=acU (by omega:d.length<=1000) (by decide)
 have sd:∀ ρ,mG (.tup [.str (hnm (n+1))]) (.ref (t.length+2)) (.str x) ρ (G5 (n+1)::.lst acc::(t++ [.dct d]))=.nx ρ (G5 (n+1)::.lst acc::(t++ [.dct d'])):=fun ρ=>by rw[<- O1];unfold mG nV;simp only[ade,adV];show(if d.length<sizeLine then _ else SR.bad)=_;rw[if_pos dl];simp;rfl
 have fz:TJ (.ref (t.length+2)) (G5 (n+1)::.lst acc::(t++ [.dct d']))=.ok (.dct d') (G5 (n+1)::.lst acc::(t++ [.J8 (.dct d')])):=xe (g:=G5 (n+1)::.lst acc::t) hp.p
 have dr:∀o,aq (G5 (n+1)::.lst acc::(t++ [.dct o])) (.ref (t.length+2))=.ref (t.length+2):=fun o=>by unfold aq;simp
 have i1:((n:Int)+1)=((n+1:Nat):Int):=by omega
 have lg:=Hs (n:=n+1) (by omega);have ad:=yY 35 (n:=n+1) (by omega);refine⟨some (.str (hnm (n+1))),some (.ref (t.length+2)),t++ [.J8 (.dct d')],?_⟩;rw[Oc,nd,nd];simp only[EX,ew,fE,vD acc la,vg,sC,sD,lc,aL _ hd,mQ,cT,MD,i1,Ll,lg,ad,mk,show(35::jb ((n+1:Nat):Int))=hnm (n+1)from rfl,sd,fz,dr,lb]
def YD(b:j7):Prop:=∀(K n Ls Lp:Nat)(m:Option Int)(ns:List (List Nat))(d:List (PK×PV))(σ:Mf),dS b+2<=K->SG d σ Ls->d.length+dS b<=900->u_ (X0 m ns) b=true->Ot Lp b->Lp+Ls<=10000000->n+p7 b<=1000000000000->
 ∀(bv:Option PV)(acc:List PV)(t:List PO)(x4 x5 x6:Option PV),acc.length+p7 b<=1000000->∃y4 y5 y6 t',aN (z_ 4) (ew (F K) (L K)) (d8 b) (fE bv d x4 x5 x6) (G5 n::.lst acc::t)=.nx (fE bv d y4 y5 y6) (G5 (G6 σ n b).2::.lst (acc++d8 (G6 σ n b).1)::t')
theorem JV{v:PV}{o:PO}(t:List PO)(hv:v.pure=true)(ho:o.pure=true):eO 1 v (o::t)=.ok v [o]:=by unfold eO;rw[gy _ hv];dsimp only;unfold gB;simp[aO,ho]
theorem YD.cf{b:j7}(cr:YD b):CF b:=fun K n Ls Lp m ns d σ hK h hl ok pl l c hn=>by
 obtain⟨k,rfl⟩:∃k,K=k+1:=⟨K - 1,by omega⟩
 have hd:(PV.dct d).pure=true:=by rw[PV.pure];exact h.p
 obtain⟨y4,y5,y6,t',e⟩:=cr k n Ls Lp m ns d σ (by omega) h hl ok pl l hn (some (.tup (d8 b))) [] [] none none none (by simpa using c);unfold fE at e;rw[acC]at e;show dY (mA (F k) (L k)) 3 7 [.tup (d8 b),.dct d,.ref 0] [G5 n]=_;have pt:∀o,df [.ref 1] (o::.lst (d8 (G6 σ n b).1)::t')=.ok (.tup (d8 (G6 σ n b).1)) (o::.lst (d8 (G6 σ n b).1)::t'):=fun o=>rfl;simp only[EX,dY,mA,e,pt,sC];exact JV _ (by rw[PV.pure];exact aU _) (cW _)
mutual
theorem Gz:∀a:Nd,Vy a
 |.text x=>GA x
 |.place p x=>DN p x
 |.loop x p b u=>GC x p b u (oh b).cf
 |.choice p y z=>Bc p y z (oh y).cf (oh z).cf
 |.use x ps=>fun K n Ls Lp m ns d σ hK h hl ok=>by rw[okN,ab5]at ok;cases ok.2
 |.j8 x ps hs b=>fun K n Ls Lp m ns d σ hK h hl ok=>by rw[okN,ab5,ab5]at ok;cases ok.2.1
 |.body ps=>GD ps
theorem oh:∀b:j7,YD b
 |.nil=>fun K n Ls Lp m ns d σ hK h hl ok pl l hn bv acc t x4 x5 x6 la=>⟨x4,x5,x6,t,by rw[G6,d8,acH];rfl⟩
 |.cons a r=>fun K n Ls Lp m ns d σ hK h hl ok pl l hn bv acc t x4 x5 x6 la=>by rw[u_,ab5]at ok;rw[Ot]at pl;rw[p7]at la hn;rw[dS]at hK hl;have nl:=(El a σ n).2.2;obtain⟨y5,y6,t1,e1⟩:=Gz a K n Ls Lp m ns d σ (by omega) h (by omega) ok.1 pl.1 l (by omega) (by omega) bv acc t x5 x6 (by omega);obtain⟨z4,z5,z6,t2,e2⟩:=oh r K (Oc σ n a).2 Ls Lp m ns d σ (by omega) h (by omega) ok.2 pl.2 l (by omega) bv (acc++ [nd (Oc σ n a).1]) t1 (some (nd (Oc σ n a).1)) y5 y6 (by rw[acs,acN];omega);refine⟨z4,z5,z6,t2,?_⟩;rw[d8,G6,d8];rw[acG]at e2;exact adT (cP rfl e1) e2
end
theorem pA(b:j7):CF b:=(oh b).cf
theorem neL(xs:List PV)(g:List PO):CD (.lst xs) (.lst []) g=.ok (.bl (!xs.isEmpty)) g:=by
 cases xs with
 |nil=>rfl
 |cons a r=>unfold CD;rw[if_pos (by show decide ((a::r).length≠0)=true;simp)];rfl
noncomputable def V2:Nd->Bool
 |.body _=>true
 |_=>false
theorem Mi(n:Nd)(h:List PO):J5 (.str (kT n)) (.str tB) h=.ok (.bl (V2 n)) h:=by
 rw[HE (DB n) (by decide)]
 cases n<;>rfl
noncomputable def ph:Nd->List j7
 |.loop _ _ b _=> [b]
 |.choice _ y z=> [y,z]
 |_=> []
theorem JL(a:Nd)(m:Option Int)(ns:List (List Nat))(ok:okN (X0 m ns) a=true)(C:CC)(bv x2:Option PV)(g:List PO):cM tN ya aaC abu [bv,some (nd a),x2] g=.ok (.tup ((ph a).map fun b=>.tup (d8 b))) g:=by
 cases a with
 |text s=>rw[nd];rfl
 |place p s=>rw[nd];rfl
 |loop x p b t=>rw[nd];rfl
 |choice p y z=>rw[nd];rfl
 |body ps=>rw[nd];rfl
 |use x ps=>rw[okN,ab5]at ok;cases ok.2
 |j8 x ps h b=>rw[okN,ab5,ab5]at ok;cases ok.2.1
theorem Go(K:Nat)(a:Nd)(m:Option Int)(ns:List (List Nat))(ok:okN (X0 m ns) a=true)(hk:∀b∈ph a,F K .n8 [.tup (d8 b)]=.ok (.bl (!M6 b)))(bv x2:Option PV)(g:List PO):
  bR (F K) [bv,some (nd a),x2] g=if O6 a=true then .nx [bv,some (nd a),some (.tup ((ph a).map fun b=>.tup (d8 b)))] g else .rt (.bl true) g:=by
 have e0:=JL a m ns ok (F K) bv x2 g
 have s1:aJ 2 (cM tN ya aaC abu) [bv,some (nd a),x2] g=.nx [bv,some (nd a),some (.tup ((ph a).map fun b=>.tup (d8 b)))] g:=by unfold aJ;rw[e0];rfl
 have co:cY (iM (F K)) (iY (F K)) [] ((ph a).map fun b=>PV.tup (d8 b)) g=.ok (((ph a).filter fun b=>!M6 b).map fun b=>.tup (d8 b)) g:=
  pE (fun b=>PV.tup (d8 b)) (fun b=>!M6 b) (fun b=>PV.tup (d8 b)) (ph a) (fun b hb=>by have c:∀h,bO (F K .n8) [.tup (d8 b)] h=.ok (.bl (!M6 b)) h:=fun h=>bp h (by simp[ar,PV.pure,aU]) (hk b hb);simp only[EX,iM,cT,c]) fun b hb=>by simp only[EX,iY,cT]
 have kl:((ph a).map fun b=>PV.tup (d8 b)).length<16777216:=by rw[ab9];cases a<;>simp[ph]
 have ie:(!(((ph a).filter fun b=>!M6 b).map fun b=>PV.tup (d8 b)).isEmpty)=(!V2 a&&!O6 a):=by
  cases a with
  |text s=>rfl
  |place p s=>rfl
  |loop x p b t=>rw[O6];cases e:M6 b<;>simp[ph,e,V2]
  |choice p y z=>rw[O6];cases e:M6 y<;>cases e2:M6 z<;>simp[ph,e,e2,V2]
  |body ps=>rfl
  |use x ps=>rfl
  |j8 x ps h b=>rw[okN,ab5,ab5]at ok;cases ok.2.1
 have cp:∀q,dj [] [bv,some (nd a),q]=[]:=fun q=>rfl;unfold bR;rw[dQ,s1];dsimp only
 cases tb:V2 a with
 |true=>
  have nb:O6 a=false:=by cases a<;>first|rfl|cases tb
  rw[nb];simp only[EX,Mi,tb]
  try rfl
 |false=>
  rw[tb]at ie;rw[ahv,ac6]at ie;simp only[EX,Mi,tb,cp,cT,co,kl,neL,ie]
  cases O6 a<;>rfl
def HR_(b:j7)(K:Nat):Prop:=∀bv x1 x2:Option PV,(M6 b=true->∃y1 y2,aN (z_ 1) (bR (F K)) (d8 b) [bv,x1,x2] []=.nx [bv,y1,y2] [])/\(M6 b=false->aN (z_ 1) (bR (F K)) (d8 b) [bv,x1,x2] []=.rt (.bl true) [])
theorem vi{b:j7}{K:Nat}(h:HR_ b K):F (K+1) .n8 [.tup (d8 b)]=.ok (.bl (!M6 b)):=by
 obtain⟨h1,h2⟩:=h (some (.tup (d8 b))) none none
 have r2:F (K+1) .n8 [.tup (d8 b)]=match gG (F K) [some (.tup (d8 b)),none,none] []with
   |.nx _ _=>.ok .non
   |.rt v h=>gA v h
   |_=>.bad:=rfl
 rw[r2]
 cases e:M6 b with
 |true=>obtain⟨y1,y2,l⟩:=h1 e;simp only[EX,gG,l];rfl
 |false=>have l:=h2 e;simp only[EX,gG,l];rfl
mutual
theorem Gc:∀(a:Nd)(K:Nat)(m:Option Int)(ns:List (List Nat)),dN a<=K->okN (X0 m ns) a=true->∀b∈ph a,F K .n8 [.tup (d8 b)]=.ok (.bl (!M6 b))
 |.loop x p b t,K,m,ns,hK,ok,c,hc=>by rw[okN,ab5]at ok;rw[dN]at hK;rw[acp.mp hc];obtain⟨k,rfl⟩:∃k,K=k+1:=⟨K - 1,by omega⟩;exact vi (rV b k m _ (by omega) ok.2)
 |.choice p y z,K,m,ns,hK,ok,c,hc=>by
  rw[okN,ab5,ab5]at ok;rw[dN]at hK;obtain⟨k,rfl⟩:∃k,K=k+1:=⟨K - 1,by omega⟩
  rcases acn.mp hc with e|e
  ·rw[e];exact vi (rV y k m _ (by omega) ok.2.1)
  ·rw[acp.mp e];exact vi (rV z k m _ (by omega) ok.2.2)
 |.text _,_,_,_,_,_,_,hc|.place _ _,_,_,_,_,_,_,hc|.body _,_,_,_,_,_,_,hc|.use _ _,_,_,_,_,_,_,hc|.j8 _ _ _ _,_,_,_,_,_,_,hc=>by cases hc
theorem rV:∀(b:j7)(K:Nat)(m:Option Int)(ns:List (List Nat)),dS b<=K->u_ (X0 m ns) b=true->HR_ b K
 |.nil,K,m,ns,_,_=>fun bv x1 x2=>⟨fun _=>⟨x1,x2,by rw[d8];rfl⟩,fun z=>(by cases z)⟩
 |.cons a r,K,m,ns,hK,ok=>fun bv x1 x2=>by
  rw[u_,ab5]at ok;rw[dS]at hK;have n:=Go K a m ns ok.1 (Gc a K m ns (by omega) ok.1) bv x2 []
  have step:∀T,bR (F K) [bv,some (nd a),x2] []=T->aN (z_ 1) (bR (F K)) (d8 (.cons a r)) [bv,x1,x2] []=(match T with
    |.nx ρ2 h2=>aN (z_ 1) (bR (F K)) (d8 r) ρ2 h2
    |.ct ρ2 h2=>aN (z_ 1) (bR (F K)) (d8 r) ρ2 h2
    |.bk ρ2 h2=>.nx ρ2 h2
    |.rt v h2=>.rt v h2
    |.exc v h2=>.exc v h2
    |.bad=>.bad):=fun T e=>by subst e;rw[d8];rfl
  rw[M6]
  cases e:O6 a with
  |false=>rw[e,if_neg (by decide)]at n;rw[step _ n];exact⟨fun z=>(by cases z),fun _=>rfl⟩
  |true=>rw[e,if_pos rfl]at n;rw[step _ n,ac6];exact rV r K m ns (by omega) ok.2 bv _ _
end
theorem Gp(b:j7){K:Nat}{m:Option Int}{ns:List (List Nat)}(hK:dS b+1<=K)(ok:u_ (X0 m ns) b=true)(g:List PO):bO (F K .n8) [.tup (d8 b)] g=.ok (.bl (!M6 b)) g:=by
 obtain⟨k,rfl⟩:∃k,K=k+1:=⟨K - 1,by omega⟩
 exact bp g (by simp[ar,PV.pure,aU]) (vi (rV b k m ns (by omega) ok))
theorem xZ{L:Nat}:∀{y z:j7},Ot L (J6 y z)↔Ot L y/\Ot L z
 |.nil,z=>by rw[J6];exact⟨fun h=>⟨trivial,h⟩,fun h=>h.2⟩
 |.cons a r,z=>by rw[J6,Ot,Ot,xZ (y:=r),and_assoc]
mutual
theorem Cv{L L':Nat}(l:L<=L'):∀a:Nd,OD L a->OD L' a
 |.use _ _,_|.j8 _ _ _ _,_=>trivial
 |.text s,h=>h
 |.place p w,h=>by rw[OD]at*;exact ace h l
 |.body ps,h=>by rw[OD]at*;exact⟨fun p hp=>ace (h.1 p hp) l,h.2⟩
 |.loop x p b t,h=>by rw[OD]at*;exact⟨ace h.1 l,gw l b h.2⟩
 |.choice p y z,h=>by rw[OD]at*;exact⟨ace h.1 l,gw l y h.2.1,gw l z h.2.2⟩
theorem gw{L L':Nat}(l:L<=L'):∀b:j7,Ot L b->Ot L' b
 |.nil,_=>trivial
 |.cons a r,h=>by rw[Ot]at*;exact⟨Cv l a h.1,gw l r h.2⟩
end
section
variable{h:List (List Nat)}{B:j7}
mutual
theorem IJ{Lp Lb:Nat}(hB:Ot Lb B):∀(a:Nd)(n:Nat),OD Lp a->Ot (Lp+Lb) (N7 h B n a).1
 |.use _ _,_,_|.j8 _ _ _ _,_,_=>by rw[N7]<;>exact⟨trivial,trivial⟩
 |.text s,n,l=>⟨l,trivial⟩
 |.place p w,n,l=>by rw[N7,Ot];exact⟨Cv (acQ _ _) _ l,trivial⟩
 |.body ps,n,l=>by rw[OD]at l;rw[N7,aes];exact lh B _ _ (SG.dz h ps l.1).1.w hB
 |.loop x p b t,n,l=>by rw[OD]at l;rw[N7,Ot,OD];exact⟨⟨ace l.1 (acQ _ _),rB hB b _ l.2⟩,trivial⟩
 |.choice p y z,n,l=>by rw[OD]at l;rw[N7,Ot,OD];exact⟨⟨ace l.1 (acQ _ _),rB hB y _ l.2.1,rB hB z _ l.2.2⟩,trivial⟩
theorem rB{Lp Lb:Nat}(hB:Ot Lb B):∀(b:j7)(n:Nat),Ot Lp b->Ot (Lp+Lb) (I_ h B n b).1
 |.nil,_,_=>by rw[I_];trivial
 |.cons a r,n,l=>by rw[Ot]at l;rw[I_,xZ];exact⟨IJ hB a _ l.1,rB hB r _ l.2⟩
end
mutual
theorem Em:∀(a:Nd)(n:Nat),(N7 h B n a).2<=n+p7 (N7 h B n a).1
 |.text _,_|.use _ _,_|.j8 _ _ _ _,_|.place _ _,_=>by rw[N7]<;>exact acQ _ _
 |.body ps,n=>by rw[N7,(gC B _ _).1];exact(gC B _ _).2.2
 |.loop x p b t,n=>by have:=pH b n;rw[N7,p7,K_];dsimp only;omega
 |.choice p y z,n=>by have:=pH y n;have:=pH z (I_ h B n y).2;rw[N7,p7,K_];dsimp only;omega
theorem pH:∀(b:j7)(n:Nat),(I_ h B n b).2<=n+p7 (I_ h B n b).1
 |.nil,_=>by rw[I_];exact acQ _ _
 |.cons a r,n=>by have:=Em a n;have:=pH r (N7 h B n a).2;rw[I_,iZ];dsimp only;omega
end
mutual
theorem JM:∀(a:Nd)(n:Nat)(m:Option Int)(ns:List (List Nat)),okN (X0 m ns) a=true->O6 a=false->p7 B<=p7 (N7 h B n a).1/\dS B<=dS (N7 h B n a).1
 |.text _,_,_,_,_,e|.use _ _,_,_,_,_,e|.place _ _,_,_,_,_,e=>by cases e
 |.j8 x ps h b,_,_,_,ok,_=>by rw[okN,ab5,ab5]at ok;cases ok.2.1
 |.body ps,n,m,ns,ok,e=>by rw[N7,(gC B _ _).1,(gC B _ _).2.1];exact⟨ab8 _,ab8 _⟩
 |.loop x p b t,n,m,ns,ok,e=>by rw[okN,ab5]at ok;rw[O6]at e;have:=pj b n m _ ok.2 e;rw[N7,p7,K_,dS,dN];omega
 |.choice p y z,n,m,ns,ok,e=>by
  rw[okN,ab5,ab5]at ok;rw[O6,ae3]at e;rw[N7,p7,K_,dS,dN];rcases e with e|e
  ·have:=pj y n m _ ok.2.1 e;omega
  ·have:=pj z (I_ h B n y).2 m _ ok.2.2 e;omega
theorem pj:∀(b:j7)(n:Nat)(m:Option Int)(ns:List (List Nat)),u_ (X0 m ns) b=true->M6 b=false->p7 B<=p7 (I_ h B n b).1/\dS B<=dS (I_ h B n b).1
 |.nil,_,_,_,_,e=>by cases e
 |.cons a r,n,m,ns,ok,e=>by
  rw[u_,ab5]at ok;rw[M6,ae3]at e;rw[I_,iZ,sE];rcases e with e|e
  ·have:=JM a n m _ ok.1 e;omega
  ·have:=pj r (N7 h B n a).2 m _ ok.2 e;omega
end
end
structure Hf(s:Nat)(g:List PO)(n i:Nat)(acc:List PV):Prop where
 es:g[s]? =some (G5 n)
 ei:g[i]? =some (.lst acc)
 en:s≠i
section
variable{s n i:Nat}{g:List PO}{acc:List PV}
theorem Hf.sp(h:Hf s g n i acc)(n':Nat):Hf s (g.set s (G5 n')) n' i acc:=⟨by rw[adl (acd.mp h.es).1],by rw[acX h.en];exact h.ei,h.en⟩
theorem Hf.ap(h:Hf s g n i acc)(v:List PV):Hf s (g.set i (.lst v)) n i v:=⟨by rw[acX (acW h.en)];exact h.es,by rw[adl (acd.mp h.ei).1],h.en⟩
theorem Hf.fz(h:Hf s g n i acc)(o:PO):Hf s (g++ [o]) n i acc:=⟨by rw[acA (acd.mp h.es).1];exact h.es,by rw[acA (acd.mp h.ei).1];exact h.ei,h.en⟩
theorem Hf.nw(h:Hf s g n i acc)(v:List PV):Hf s (g++ [.lst v]) n g.length v:=⟨(h.fz _).es,adV,ac2 (acd.mp h.es).1⟩
theorem Hf.il(h:Hf s g n i acc):dZ g (.ref i)=true:=by unfold dZ S_ Rp;simp only[h.ei];rfl
theorem Hf.dr(h:Hf s g n i acc):aq g (.ref i)=.ref i:=by unfold aq;simp only[h.ei]
theorem Hf.ds(h:Hf s g n i acc):aq g (.ref s)=.ref s:=by unfold aq;simp only[h.es]
theorem Hf.app(h:Hf s g n i acc)(l:acc.length<=1000000)(v:PV):bD (.ref i) [v] g=.ok .non (g.set i (.lst (acc++ [v]))):=Ez h.ei v (by omega)
theorem Hf.add(h:Hf s g n i acc)(ys:List PV)(l:acc.length+ys.length<=1000000):tE (.ref i) (.lst ys) g=.ok (.ref g.length) (g++ [.lst (acc++ys)]):=by
 have e:Rp g (.ref i)=some acc:=by unfold Rp;simp only[h.ei]
 unfold tE;rw[e];show(if acc.length+ys.length<=sizeLine then _ else Res.bad)=_;rw[if_pos (ace l (by decide))]
end
abbrev iE(bv:Option PV)(h:List (List Nat))(B:j7)(i:Nat)(x5:Option PV):Ev:=[bv,some (nms h),some (.tup (d8 B)),some (.ref 0),some (.ref i),x5]
structure FB(h:List (List Nat))(B:j7)(K Lp Lb:Nat)(m:Option Int)(ns:List (List Nat)):Prop where
 ok:u_ (X0 m ns) B=true
 pl:Ot Lb B
 l:Lp+Lb<=10000000
 c:p7 B<=1000000
 k:dS B+5<=K
 d:h.length+dS B<=900
theorem FB.le{h:List (List Nat)}{B:j7}{K K' Lp Lb:Nat}{m:Option Int}{ns:List (List Nat)}(H:FB h B K Lp Lb m ns)(l:K<=K'):FB h B K' Lp Lb m ns:=⟨H.ok,H.pl,H.l,H.c,ace H.k l,H.d⟩
def CI(h:List (List Nat))(B b:j7):Prop:=∀(K n Lp Lb:Nat)(m m2:Option Int)(ns QV:List (List Nat)),FB h B (K - dS b) Lp Lb m ns->u_ (X0 m2 QV) b=true->Ot Lp b->p7 (I_ h B n b).1<=1000000->n+p7 (I_ h B n b).1<=1000000000000->
 L K .n_ [.tup (d8 b),nms h,.tup (d8 B),.ref 0] [G5 n]=.ok (.tup (d8 (I_ h B n b).1)) [G5 (I_ h B n b).2]
def CIN(h:List (List Nat))(B:j7)(a:Nd):Prop:=∀(K n Lp Lb:Nat)(m m2:Option Int)(ns QV:List (List Nat)),FB h B (K+1 - dN a) Lp Lb m ns->okN (X0 m2 QV) a=true->OD Lp a->n+p7 (N7 h B n a).1<=1000000000000->
 ∀(bv:Option PV)(g:List PO)(i:Nat)(acc:List PV),Hf 0 g n i acc->acc.length+p7 (N7 h B n a).1<=1000000->∃j g',Hf 0 g' (N7 h B n a).2 j (acc++d8 (N7 h B n a).1)/\bW (F K) (L K) (iE bv h B i (some (nd a))) g=.nx (iE bv h B j (some (nd a))) g'
theorem CI.call{h:List (List Nat)}{B b:j7}(ci:CI h B b){K n Lp Lb:Nat}{m m2:Option Int}{ns QV:List (List Nat)}(H:FB h B (K - dS b) Lp Lb m ns)(ok:u_ (X0 m2 QV) b=true)(pl:Ot Lp b)(c:p7 (I_ h B n b).1<=1000000)(hn:n+p7 (I_ h B n b).1<=1000000000000){g:List PO}{s:Nat}(e:g[s]? =some (G5 n)):
  w6 (L K .n_) [.tup (d8 b),nms h,.tup (d8 B),.ref s] g=.ok (.tup (d8 (I_ h B n b).1)) (g.set s (G5 (I_ h B n b).2)):=
 cS [.tup (d8 b),nms h,.tup (d8 B)] [] (by simp only[ar,PV.pure,aU,cC];rfl) rfl e (cW n) (ci K n Lp Lb m m2 ns QV H ok pl c hn) (by rw[PV.pure];exact aU _) (cW _)
section
variable{h:List (List Nat)}{B:j7}
theorem qf(a:Nd):d8 (jc a)=[nd a]:=by rw[d8,d8]
theorem rN(g:List PO):aq g (nms h)=nms h:=rfl
theorem GH(x:List Nat):CIN h B (.text x):=fun K n Lp Lb m m2 ns QV H ok pl hn bv g i acc hf la=>by
 refine⟨i,g.set i (.lst (acc++ [nd (.text x)])),?_,?_⟩
 ·rw[N7,qf];exact hf.ap _
 ·have ap:=hf.app (by omega) (nd (.text x));rw[nd]at*;simp only[EX,bW,iE,hf.il,hf.dr,ap]
theorem DW(p:u9)(x:List Nat):CIN h B (.place p x):=fun K n Lp Lb m m2 ns QV H ok pl hn bv g i acc hf la=>by
 refine⟨i,g.set i (.lst (acc++ [nd (.place p x)])),?_,?_⟩
 ·rw[N7,qf];exact hf.ap _
 ·have ap:=hf.app (by omega) (nd (.place p x));rw[nd]at*;simp only[EX,bW,iE,hf.il,hf.dr,ap]
theorem GJ(ps:List u9):CIN h B (.body ps):=fun K n Lp Lb m m2 ns QV H ok pl hn bv g i acc hf la=>by rw[OD]at pl;rw[N7]at hn la |-;have cf:=gC B (J4 no h ps) n;have c:=H.c;have k:=H.k;have l:=H.l;have d:=H.d;rw[show dN (.body ps)=0 from rfl]at k;rw[cf.1]at hn la;obtain⟨Uo,sl⟩:=SG.dz h ps pl.1;have fr:=(pA B).call (K:=K) (n:=n) (by omega) Uo (by omega) H.ok H.pl (by omega) c hn (hf.fz (.J8 (.dct (Sy (zq h ps))))).es;have dz:=yt h ps g;have fz:=xe (g:=g) Uo.p;have h1:=hf.fz (.J8 (.dct (Sy (zq h ps))));have h2:=h1.sp (G6 (J4 no h ps) n B).2;have lb:=fC (G6 (J4 no h ps) n B).1;have ad:=h2.add (d8 (G6 (J4 no h ps) n B).1) (by rw[cf.1]at lb;omega);have li:∀xs g,nN [.tup xs] g=.ok (.lst xs) g:=fun _ _=>rfl;generalize Sy (zq h ps)=z at*;refine⟨_,_,h2.nw _,?_⟩;rw[nd];simp only[EX,bW,iE,hf.dr,hf.ds,rN,cT,nM,dz,fz,h1.ds,fr,li,ad]
theorem GI(x:List Nat)(p:u9)(b:j7)(u:List Nat)(cb:CI h B b):CIN h B (.loop x p b u):=fun K n Lp Lb m m2 ns QV H ok pl hn bv g i acc hf la=>by rw[OD]at pl;rw[okN,ab5]at ok;rw[dN]at H;rw[N7]at hn la |-;rw[p7,K_]at hn la;have ca:=cb.call (K:=K) (n:=n) (Nat.add_sub_add_right K 1 _▸H) ok.2 pl.2 (by omega) (by omega) hf.es;have h1:=hf.sp (I_ h B n b).2;have ap:=h1.app (by omega) (nd (.loop x p (I_ h B n b).1 u));refine⟨_,_,by rw[qf];exact h1.ap _,?_⟩;have sl:∀g,jq (.tup [.str tL,.str x,G3 p,.tup (d8 b),.str u]) none (some 3) g=.ok (.tup [.str tL,.str x,G3 p]) g:=fun g=>mM _ 3 g;have ad:∀q g,aI (.tup [.str tL,.str x,G3 p]) (.tup [q,.str u]) g=.ok (.tup [.str tL,.str x,G3 p,q,.str u]) g:=fun q g=>fK _ _ g (show 5<=sizeLine by decide);rw[nd]at ap;rw[nd,nd];simp only[EX,bW,iE,hf.il,hf.dr,hf.ds,rN,cT,sl,ca,ad,ap]
theorem Bd(p:u9)(y z:j7)(cy:CI h B y)(cz:CI h B z):CIN h B (.choice p y z):=fun K n Lp Lb m m2 ns QV H ok pl hn bv g i acc hf la=>by
 rw[OD]at pl;rw[okN,ab5,ab5]at ok;rw[dN]at H;rw[N7]at hn la |-;rw[p7,K_]at hn la;have ny:=pH (h:=h) (B:=B) y n;have ca:=cy.call (K:=K) (n:=n) (H.le (by rw[Nat.add_sub_add_right];exact Nat.sub_le_sub_left (ado _ _) _)) ok.2.1 pl.2.1 (by omega) (by omega) hf.es;have h1:=hf.sp (I_ h B n y).2;have cb:=cz.call (K:=K) (n:=(I_ h B n y).2) (H.le (by rw[Nat.add_sub_add_right];exact Nat.sub_le_sub_left (adi _ _) _)) ok.2.2 pl.2.2 (by omega) (by omega) h1.es;have h2:=h1.sp (I_ h B (I_ h B n y).2 z).2;have ap:=h2.app (by omega) (nd (.choice p (I_ h B n y).1 (I_ h B (I_ h B n y).2 z).1));refine⟨_,_,by rw[qf];exact h2.ap _,?_⟩;have sl:∀g,jq (.tup [.str tC,G3 p,.tup (d8 y),.tup (d8 z)]) none (some 2) g=.ok (.tup [.str tC,G3 p]) g:=fun g=>mM _ 2 g;have ad:∀q r g,aI (.tup [.str tC,G3 p]) (.tup [q,r]) g=.ok (.tup [.str tC,G3 p,q,r]) g:=fun q r g=>fK _ _ g (show 4<=sizeLine by decide);have cp:dj [1,2,3,5] (iE bv h B i (some (.tup [.str tC,G3 p,.tup (d8 y),.tup (d8 z)])))=[some (nms h),some (.tup (d8 B)),some (.ref 0),some (.tup [.str tC,G3 p,.tup (d8 y),.tup (d8 z)])]:=rfl;unfold iE at cp
 have e2:dK (F K) (L K) [some (.int 2),some (nms h),some (.tup (d8 B)),some (.ref 0),some (.tup [.str tC,G3 p,.tup (d8 y),.tup (d8 z)])] g=.ok (.tup (d8 (I_ h B n y).1)) (g.set 0 (G5 (I_ h B n y).2)):=by simp only[EX,dK,at2,cT,rN,hf.ds,ca]
 have e3:dK (F K) (L K) [some (.int 3),some (nms h),some (.tup (d8 B)),some (.ref 0),some (.tup [.str tC,G3 p,.tup (d8 y),.tup (d8 z)])] (g.set 0 (G5 (I_ h B n y).2))=.ok (.tup (d8 (I_ h B (I_ h B n y).2 z).1)) ((g.set 0 (G5 (I_ h B n y).2)).set 0 (G5 (I_ h B (I_ h B n y).2 z).2)):=by simp only[EX,dK,SQ,cT,rN,h1.ds,cb]
 have co:cY cV (dK (F K) (L K)) [some (nms h),some (.tup (d8 B)),some (.ref 0),some (.tup [.str tC,G3 p,.tup (d8 y),.tup (d8 z)])] [.int 2,.int 3] g=.ok [.tup (d8 (I_ h B n y).1),.tup (d8 (I_ h B (I_ h B n y).2 z).1)] ((g.set 0 (G5 (I_ h B n y).2)).set 0 (G5 (I_ h B (I_ h B n y).2 z).2)):=sH e2 e3;rw[nd]at ap;rw[nd,nd];simp only[EX,bW,iE,hf.il,hf.dr,hf.ds,rN,cT,cp,co,sl,ad,ap,show(2:Nat)<16777216 by decide]
def YC(h:List (List Nat))(B b:j7):Prop:=∀(K n Lp Lb:Nat)(m m2:Option Int)(ns QV:List (List Nat)),FB h B (K+1 - dS b) Lp Lb m ns->u_ (X0 m2 QV) b=true->Ot Lp b->n+p7 (I_ h B n b).1<=1000000000000->
 ∀(bv:Option PV)(g:List PO)(i:Nat)(acc:List PV)(x5:Option PV),Hf 0 g n i acc->acc.length+p7 (I_ h B n b).1<=1000000->∃j g' y5,Hf 0 g' (I_ h B n b).2 j (acc++d8 (I_ h B n b).1)/\aN (z_ 5) (bW (F K) (L K)) (d8 b) (iE bv h B i x5) g=.nx (iE bv h B j y5) g'
theorem JU{v:PV}{o:PO}{g:List PO}(e:g[0]? =some o)(hv:v.pure=true)(ho:o.pure=true):eO 1 v g=.ok v [o]:=by
 cases g with
 |nil=>cases e
 |cons a r=>cases e;exact JV r hv ho
theorem BL{s n i:Nat}{g:List PO}{acc:List PV}(hf:Hf s g n i acc):df [.ref i] g=.ok (.tup acc) g:=by
 have e:RX g (.ref i)=some acc:=by unfold RX S_ Rp;simp only[hf.ei]
 unfold df;simp only[e]
theorem YC.ci{b:j7}(cr:YC h B b):CI h B b:=fun K n Lp Lb m m2 ns QV H ok pl c hn=>by
 have hk:=H.k;obtain⟨k,rfl⟩:∃k,K=k+1:=⟨K - 1,by omega⟩
 obtain⟨j,g',y5,hf,e⟩:=cr k n Lp Lb m m2 ns QV H ok pl hn (some (.tup (d8 b))) [G5 n,.lst []] 1 [] none ⟨rfl,rfl,by decide⟩ (by simpa using c);unfold iE at e;rw[acC]at hf;show dY (hH (F k) (L k)) 4 6 [.tup (d8 b),nms h,.tup (d8 B),.ref 0] [G5 n]=_;simp only[EX,dY,hH,e,BL hf,hf.dr];exact JU hf.es (by rw[PV.pure];exact aU _) (cW _)
mutual
theorem JW:∀a:Nd,CIN h B a
 |.text x=>GH x
 |.place p x=>DW p x
 |.loop x p b u=>GI x p b u (rZ b).ci
 |.choice p y z=>Bd p y z (rZ y).ci (rZ z).ci
 |.use x ps=>fun K n Lp Lb m m2 ns QV H ok=>by rw[okN,ab5]at ok;cases ok.2
 |.j8 x ps hs b=>fun K n Lp Lb m m2 ns QV H ok=>by rw[okN,ab5,ab5]at ok;cases ok.2.1
 |.body ps=>GJ ps
theorem rZ:∀b:j7,YC h B b
 |.nil=>fun K n Lp Lb m m2 ns QV H ok pl hn bv g i acc x5 hf la=>⟨i,g,x5,by rw[I_,d8,acH];exact hf,rfl⟩
 |.cons a r=>fun K n Lp Lb m m2 ns QV H ok pl hn bv g i acc x5 hf la=>by rw[u_,ab5]at ok;rw[Ot]at pl;rw[I_,iZ]at la hn;rw[dS]at H;have nl:=Em (h:=h) (B:=B) a n;have lb:=fC (N7 h B n a).1;obtain⟨j,g1,X6,e1⟩:=JW a K n Lp Lb m m2 ns QV (H.le (Nat.sub_le_sub_left (ado _ _) _)) ok.1 pl.1 (by omega) bv g i acc hf (by omega);obtain⟨j2,g2,y5,V8,e2⟩:=rZ r K (N7 h B n a).2 Lp Lb m m2 ns QV (H.le (Nat.sub_le_sub_left (adi _ _) _)) ok.2 pl.2 (by omega) bv g1 j (acc++d8 (N7 h B n a).1) (some (nd a)) X6 (by rw[acs];omega);rw[acG]at V8;refine⟨j2,g2,y5,by rw[I_,mU];exact V8,?_⟩;rw[d8];exact adT (cP rfl e1) e2
end
end
theorem DV(h:List (List Nat))(B b:j7):CI h B b:=(rZ b).ci
structure KB(P:List Pe)(K:Kn)(D:Nat):Prop where
 ok:KO P K
 b:∀x l h,QH P x l h=true->p7 (K x).2<=10000/\dS (K x).2<=41/\Ot D (K x).2/\(K x).1.length<60
theorem lY{ps:List u9}(h:wps ps=true):∀p∈ps,p.f.length<=10:=fun p hp=>by have:=(qN h).1 p hp;unfold wp at this;rw[ab5,ab5]at this;exact of_decide_eq_true this.2.2
theorem BB{p:u9}(h:wp p=true):p.f.length<=10:=by unfold wp at h;rw[ab5,ab5]at h;exact of_decide_eq_true h.2.2
theorem rQ{a b D:Nat}(h:a<=b):(a+1) * (D+10)<=(b+1) * (D+10):=afe _ (Nat.succ_le_succ h)
theorem oZ(a D:Nat):D+10<=(a+1) * (D+10):=by rw[ag4];exact ahm _ _
section
variable{P:List Pe}{K:Kn}{D:Nat}
mutual
theorem IH(hK:KB P K D):∀(a:Nd)(n:Nat)(m:Option Int)(ns:List (List Nat)),okN (P,m,ns) a=true->wN a=true->Ot ((dN a+1) * (D+10)) (M7 K n a).1
 |.text s,n,m,ns,ok,hw=>by rw[wN,ab5]at hw;have:=of_decide_eq_true hw.2;exact⟨this,trivial⟩
 |.place p w,n,m,ns,ok,hw=>by rw[wN,ab5]at hw;have:=BB hw.1;have:=oZ (dN (.place p w)) D;rw[M7,Ot,OD];exact⟨by omega,trivial⟩
 |.body ps,n,m,ns,ok,hw=>by rw[wN]at hw;have:=oZ (dN (.body ps)) D;rw[M7,Ot,OD];exact⟨⟨fun p hp=>by have:=lY hw p hp;omega,(qN hw).2⟩,trivial⟩
 |.loop x p b t,n,m,ns,ok,hw=>by rw[okN,ab5]at ok;rw[wN,ab5,ab5,ab5]at hw;have:=BB hw.2.1;have:=oZ (dS b+1) D;rw[M7,Ot,OD,dN];exact⟨⟨by omega,gw (rQ (acS _)) _ (mR hK b n m _ ok.2 hw.2.2.1)⟩,trivial⟩
 |.choice p y z,n,m,ns,ok,hw=>by rw[okN,ab5,ab5]at ok;rw[wN,ab5,ab5]at hw;have:=BB hw.1;have:=oZ (max (dS y) (dS z)+1) D;rw[M7,Ot,OD,dN];exact⟨⟨by omega,gw (rQ (by omega)) _ (mR hK y n m _ ok.2.1 hw.2.1),gw (rQ (by omega)) _ (mR hK z _ m _ ok.2.2 hw.2.2)⟩,trivial⟩
 |.use x ps,n,m,ns,ok,hw=>by rw[okN,ab5]at ok;rw[wN,ab5]at hw;rw[M7];exact gw (oZ _ _) _ (lh _ _ _ (SG.dz _ ps (lY hw.2)).1.w (hK.b _ _ _ ok.2).2.2.1)
 |.j8 x ps h b,n,m,ns,ok,hw=>by
  rw[okN,ab5,ab5,ab5]at ok;rw[wN,ab5,ab5,ab5,ab5]at hw;have p1:=lh (L:=D) (K x).2 (J4 no (K x).1 ps) n (SG.dz _ ps (lY hw.2.1)).1.w (hK.b _ _ _ ok.2.1).2.2.1;rw[M7,dN]
  split
  ·exact gw (oZ _ _) _ p1
  ·refine gw ?_ _ (rB (mR hK b _ m _ ok.2.2.2 hw.2.2.2.2) _ _ p1);rw[afN (dS b+1) 1,ahj,aes];exact ab8 _
theorem mR(hK:KB P K D):∀(b:j7)(n:Nat)(m:Option Int)(ns:List (List Nat)),u_ (P,m,ns) b=true->wS b=true->Ot ((dS b+1) * (D+10)) (H6 K n b).1
 |.nil,_,_,_,_,_=>by rw[H6];trivial
 |.cons a r,n,m,ns,ok,hw=>by rw[u_,ab5]at ok;rw[wS,ab5]at hw;rw[H6,xZ,dS];exact⟨gw (rQ (by omega)) _ (IH hK a n m _ ok.1 hw.1),gw (rQ (by omega)) _ (mR hK r _ m _ ok.2 hw.2)⟩
end
mutual
theorem Ek(hK:KB P K D):∀(a:Nd)(n:Nat)(m:Option Int)(ns:List (List Nat)),okN (P,m,ns) a=true->p7 (M7 K n a).1<=10000->(M7 K n a).2<=n+20000 * (K_ a+1)
 |.text _,_,_,_,_,_|.place _ _,_,_,_,_,_|.body _,_,_,_,_,_=>by rw[M7]<;>exact acQ _ _
 |.loop x p b t,n,m,ns,ok,c=>by rw[okN,ab5]at ok;rw[M7,p7,K_]at c;have:=lU hK b n m _ ok.2 (by omega);rw[M7,K_];dsimp only;omega
 |.choice p y z,n,m,ns,ok,c=>by rw[okN,ab5,ab5]at ok;rw[M7,p7,K_]at c;have:=lU hK y n m _ ok.2.1 (by omega);have:=lU hK z (H6 K n y).2 m _ ok.2.2 (by omega);rw[M7,K_];dsimp only;omega
 |.use x ps,n,m,ns,ok,c=>by rw[okN,ab5]at ok;have:=(gC (K x).2 (J4 no (K x).1 ps) n).2.2;have:=(hK.b _ _ _ ok.2).1;rw[M7];omega
 |.j8 x ps h b,n,m,ns,ok,c=>by
  rw[okN,ab5,ab5,ab5]at ok;have f:=(gC (K x).2 (J4 no (K x).1 ps) n).2.2;have:=(hK.b _ _ _ ok.2.1).1;rw[M7]at c |-;rw[K_]
  split at c
  ·rename_i nb;rw[if_pos nb];omega
  ·rename_i nb;rw[if_neg nb];have o:=qO n (hK.ok _ _ _ ok.2.1) ok.1;have z:=pj (h:=h) (B:=(H6 K (G6 (J4 no (K x).1 ps) n (K x).2).2 b).1) (G6 (J4 no (K x).1 ps) n (K x).2).1 (H6 K (G6 (J4 no (K x).1 ps) n (K x).2).2 b).2 _ _ o (by rw[ka];simpa using nb);have:=lU hK b (G6 (J4 no (K x).1 ps) n (K x).2).2 m _ ok.2.2.2 (by omega);have:=pH (h:=h) (B:=(H6 K (G6 (J4 no (K x).1 ps) n (K x).2).2 b).1) (G6 (J4 no (K x).1 ps) n (K x).2).1 (H6 K (G6 (J4 no (K x).1 ps) n (K x).2).2 b).2;omega
theorem lU(hK:KB P K D):∀(b:j7)(n:Nat)(m:Option Int)(ns:List (List Nat)),u_ (P,m,ns) b=true->p7 (H6 K n b).1<=10000->(H6 K n b).2<=n+20000 * p7 b
 |.nil,_,_,_,_,_=>by rw[H6];exact acQ _ _
 |.cons a r,n,m,ns,ok,c=>by rw[u_,ab5]at ok;rw[H6,iZ]at c;have:=Ek hK a n m _ ok.1 (by omega);have:=lU hK r (M7 K n a).2 m _ ok.2 (by omega);rw[H6,p7];dsimp only;omega
end
end
structure Hk(kd:List (PK×PV))(g:List PO)(n i:Nat)(acc:List PV):Prop extends Hf 1 g n i acc where
 e0:g[0]? =some (.dct kd)
 i0:i≠0
section
variable{kd:List (PK×PV)}{n i:Nat}{g:List PO}{acc:List PV}
theorem Hk.sp(h:Hk kd g n i acc)(n':Nat):Hk kd (g.set 1 (G5 n')) n' i acc:=⟨h.toHf.sp n',by rw[acX (by decide)];exact h.e0,h.i0⟩
theorem Hk.ap(h:Hk kd g n i acc)(v:List PV):Hk kd (g.set i (.lst v)) n i v:=⟨h.toHf.ap v,by rw[acX h.i0];exact h.e0,h.i0⟩
theorem Hk.fz(h:Hk kd g n i acc)(o:PO):Hk kd (g++ [o]) n i acc:=⟨h.toHf.fz o,by rw[acA (acd.mp h.e0).1];exact h.e0,h.i0⟩
theorem Hk.nw(h:Hk kd g n i acc)(v:List PV):Hk kd (g++ [.lst v]) n g.length v:=⟨h.toHf.nw v,(h.fz _).e0,fun z=>by have:=(acd.mp h.e0).1;omega⟩
theorem Hk.d0(h:Hk kd g n i acc):aq g (.ref 0)=.ref 0:=by unfold aq;simp only[h.e0]
theorem uf{fn:List PV->List PO->Res PV}{p v:PV}{g:List PO}{a b b':PO}(hp:p.pure=true)(e0:g[0]? =some a)(e1:g[1]? =some b)(pa:a.pure=true)(pb:b.pure=true)(e:fn [p,.ref 0,.ref 1] [a,b]=.ok v [a,b'])(hv:v.pure=true)(pb':b'.pure=true):w6 fn [p,.ref 0,.ref 1] g=.ok v (g.set 1 b'):=by
 obtain⟨t,rfl⟩:∃t,g=a::b::t:=by
  match g,e0,e1 with
  |x::y::t,e0,e1=>cases e0;cases e1;exact⟨t,rfl⟩
 have q1:Q7 [p,.ref 0,.ref 1]=[0,1]:=by cases p<;>first|rfl|simp[PV.pure]at hp
 have q2:S6 0 [p,.ref 0,.ref 1]=[p,.ref 0,.ref 1]:=by cases p<;>first|rfl|simp[PV.pure]at hp
 have q3:ju [p,.ref 0,.ref 1]=true:=by cases p<;>first|exact hp|(simp[ju,hp];done)|simp[PV.pure]at hp
 unfold w6;rw[q1,q2,q3];have q4:ki (a::b::t) [0,1]=some [a,b]:=rfl;have q5:aO [a,b]=true:=by simp[aO,pa,pb]
 have q6:aO [a,b']=true:=by simp[aO,pa,pb']
 rw[q4];dsimp only;rw[q5,show iR [0,1]=true from rfl,e];show(if v.pure=true/\aO [a,b']=true/\_ then _ else _)=_;rw[if_pos ⟨hv,q6,rfl⟩];rfl
end
structure KD(kd:List (PK×PV))(K:Kn)(P:List Pe):Prop where
 p:aW kd=true
 v:∀x l h,QH P x l h=true->dI kd (.inr x)=some (.tup [nms (K x).1,.tup (d8 (K x).2)])
abbrev wE(bv:Option PV)(i:Nat)(x4 x5 x6 x7:Option PV):Ev:=[bv,some (.ref 0),some (.ref 1),some (.ref i),x4,x5,x6,x7]
structure WB(P:List Pe)(K:Kn)(kd:List (PK×PV))(D:Nat):Prop where
 b:KB P K D
 d:KD kd K P
 l:6 * (D+10)<=10000000
def CW(P:List Pe)(K:Kn)(kd:List (PK×PV))(D:Nat)(b:j7):Prop:=∀(k n:Nat)(m:Option Int)(ns:List (List Nat)),88+dS b<=k->dS b<=4->u_ (P,m,ns) b=true->wS b=true->p7 (H6 K n b).1<=10000->dS (H6 K n b).1<=41->n+20000 * p7 b<=1000000000000->
 L k .j6 [.tup (d8 b),.ref 0,.ref 1] [.dct kd,G5 n]=.ok (.tup (d8 (H6 K n b).1)) [.dct kd,G5 (H6 K n b).2]
def UG(P:List Pe)(K:Kn)(kd:List (PK×PV))(D:Nat)(a:Nd):Prop:=∀(k n:Nat)(m:Option Int)(ns:List (List Nat)),87+dN a<=k->dN a<=4->okN (P,m,ns) a=true->wN a=true->dS (M7 K n a).1<=41->n+20000 * (K_ a+1)<=1000000000000->
 ∀(bv:Option PV)(g:List PO)(i:Nat)(acc:List PV)(x5 x6 x7:Option PV),Hk kd g n i acc->acc.length+p7 (M7 K n a).1<=10000->∃j g' y5 y6 y7,Hk kd g' (M7 K n a).2 j (acc++d8 (M7 K n a).1)/\aZ (F k) (L k) (wE bv i (some (nd a)) x5 x6 x7) g=.nx (wE bv j (some (nd a)) y5 y6 y7) g'
section
variable{P:List Pe}{K:Kn}{kd:List (PK×PV)}{D:Nat}
theorem CW.call(H:WB P K kd D){b:j7}(cw:CW P K kd D b){k n:Nat}{m:Option Int}{ns:List (List Nat)}(hk:88+dS b<=k)(hd:dS b<=4)(ok:u_ (P,m,ns) b=true)(w:wS b=true)(c:p7 (H6 K n b).1<=10000)(d:dS (H6 K n b).1<=41)(hn:n+20000 * p7 b<=1000000000000){g:List PO}{i:Nat}{acc:List PV}(h:Hk kd g n i acc):
  w6 (L k .j6) [.tup (d8 b),.ref 0,.ref 1] g=.ok (.tup (d8 (H6 K n b).1)) (g.set 1 (G5 (H6 K n b).2)):=
 uf (by rw[PV.pure];exact aU b) h.e0 h.es (by rw[PO.pure];exact H.d.p) (cW n) (cw k n m ns hk hd ok w c d hn) (by rw[PV.pure];exact aU _) (cW _)
theorem EM(x:List Nat):UG P K kd D (.text x):=fun k n m ns hk hd ok w d hn bv g i acc x5 x6 x7 hf la=>by have ap:=hf.app (by omega) (nd (.text x));refine⟨i,_,x5,x6,x7,by rw[M7,qf];exact hf.ap _,?_⟩;rw[nd]at*;simp only[EX,aZ,wE,hf.il,hf.dr,ap]
theorem Bz(p:u9)(x:List Nat):UG P K kd D (.place p x):=fun k n m ns hk hd ok w d hn bv g i acc x5 x6 x7 hf la=>by have ap:=hf.app (by omega) (nd (.place p x));refine⟨i,_,x5,x6,x7,by rw[M7,qf];exact hf.ap _,?_⟩;rw[nd]at*;simp only[EX,aZ,wE,hf.il,hf.dr,ap]
theorem EO(ps:List u9):UG P K kd D (.body ps):=fun k n m ns hk hd ok w d hn bv g i acc x5 x6 x7 hf la=>by have ap:=hf.app (by omega) (nd (.body ps));refine⟨i,_,x5,x6,x7,by rw[M7,qf];exact hf.ap _,?_⟩;rw[nd]at*;simp only[EX,aZ,wE,hf.il,hf.dr,ap]
theorem EN(H:WB P K kd D)(x:List Nat)(p:u9)(b:j7)(u:List Nat)(cb:CW P K kd D b):UG P K kd D (.loop x p b u):=fun k n m ns hk hd ok w d hn bv g i acc x5 x6 x7 hf la=>by rw[okN,ab5]at ok;rw[wN,ab5,ab5,ab5]at w;rw[dN]at hk hd;rw[K_]at hn;rw[M7]at la d |-;rw[p7,K_]at la;rw[dS,dN]at d;have ca:=cb.call H (k:=k) (n:=n) (by omega) (by omega) ok.2 w.2.2.1 (by omega) (by omega) (by omega) hf;have h1:=hf.sp (H6 K n b).2;have ap:=h1.app (by omega) (nd (.loop x p (H6 K n b).1 u));refine⟨i,_,x5,x6,x7,by rw[qf];exact h1.ap _,?_⟩;have sl:∀g,jq (.tup [.str tL,.str x,G3 p,.tup (d8 b),.str u]) none (some 3) g=.ok (.tup [.str tL,.str x,G3 p]) g:=fun g=>mM _ 3 g;have ad:∀q g,aI (.tup [.str tL,.str x,G3 p]) (.tup [q,.str u]) g=.ok (.tup [.str tL,.str x,G3 p,q,.str u]) g:=fun q g=>fK _ _ g (show 5<=sizeLine by decide);rw[nd]at ap;rw[nd,nd];simp only[EX,aZ,wE,hf.il,hf.dr,hf.ds,hf.d0,cT,sl,ca,ad,ap]
theorem Ap(H:WB P K kd D)(p:u9)(y z:j7)(cy:CW P K kd D y)(cz:CW P K kd D z):UG P K kd D (.choice p y z):=fun k n m ns hk hd ok w d hn bv g i acc x5 x6 x7 hf la=>by
 rw[okN,ab5,ab5]at ok;rw[wN,ab5,ab5]at w;rw[dN]at hk hd;have a1:=ado (dS y) (dS z);have a2:=adi (dS y) (dS z);generalize max (dS y) (dS z)=M at hk hd a1 a2;rw[K_]at hn;rw[M7]at la d |-;rw[p7,K_]at la;rw[dS,dN]at d;have ny:=lU H.b y n m _ ok.2.1 (by omega);have ca:=cy.call H (k:=k) (n:=n) (by omega) (by omega) ok.2.1 w.2.1 (by omega) (by omega) (by omega) hf;have h1:=hf.sp (H6 K n y).2;have cb:=cz.call H (k:=k) (n:=(H6 K n y).2) (by omega) (by omega) ok.2.2 w.2.2 (by omega) (by omega) (by omega) h1;have h2:=h1.sp (H6 K (H6 K n y).2 z).2;have ap:=h2.app (by omega) (nd (.choice p (H6 K n y).1 (H6 K (H6 K n y).2 z).1));refine⟨i,_,x5,x6,x7,by rw[qf];exact h2.ap _,?_⟩;have sl:∀g,jq (.tup [.str tC,G3 p,.tup (d8 y),.tup (d8 z)]) none (some 2) g=.ok (.tup [.str tC,G3 p]) g:=fun g=>mM _ 2 g;have ad:∀q r g,aI (.tup [.str tC,G3 p]) (.tup [q,r]) g=.ok (.tup [.str tC,G3 p,q,r]) g:=fun q r g=>fK _ _ g (show 4<=sizeLine by decide);have cp:dj [1,2,4] (wE bv i (some (.tup [.str tC,G3 p,.tup (d8 y),.tup (d8 z)])) x5 x6 x7)=[some (.ref 0),some (.ref 1),some (.tup [.str tC,G3 p,.tup (d8 y),.tup (d8 z)])]:=rfl;unfold wE at cp
 have e2:dv (F k) (L k) [some (.int 2),some (.ref 0),some (.ref 1),some (.tup [.str tC,G3 p,.tup (d8 y),.tup (d8 z)])] g=.ok (.tup (d8 (H6 K n y).1)) (g.set 1 (G5 (H6 K n y).2)):=by simp only[EX,dv,at2,cT,hf.ds,hf.d0,ca]
 have e3:dv (F k) (L k) [some (.int 3),some (.ref 0),some (.ref 1),some (.tup [.str tC,G3 p,.tup (d8 y),.tup (d8 z)])] (g.set 1 (G5 (H6 K n y).2))=.ok (.tup (d8 (H6 K (H6 K n y).2 z).1)) ((g.set 1 (G5 (H6 K n y).2)).set 1 (G5 (H6 K (H6 K n y).2 z).2)):=by simp only[EX,dv,SQ,cT,h1.ds,h1.d0,cb]
 have co:=sH e2 e3;rw[nd]at ap;rw[nd,nd];simp only[EX,aZ,wE,hf.il,hf.dr,cT,cp,co,sl,ad,ap,show(2:Nat)<16777216 by decide]
theorem Hv(H:KD kd K P){x:List Nat}{l:Nat}{h:Option Int}(ok:QH P x l h=true){g:List PO}(e:g[0]? =some (.dct kd)):d7 (.ref 0) (.str x) g=.ok (.tup [nms (K x).1,.tup (d8 (K x).2)]) g:=by
 cases g with
 |nil=>cases e
 |cons o t=>
  cases e
  show(match dI kd (.inr x)with|some v=>Res.ok (aq (.dct kd::t) v) (.dct kd::t)|none=>_)=_;rw[H.v _ _ _ ok];rfl
theorem HY(H:WB P K kd D)(x:List Nat)(ps:List u9):UG P K kd D (.use x ps):=fun k n m ns hk hd ok w d hn bv g i acc x5 x6 x7 hf la=>by rw[okN,ab5]at ok;rw[wN,ab5]at w;obtain⟨b1,b2,b3,b4⟩:=H.b.b _ _ _ ok.2;obtain⟨o1,o2⟩:=H.b.ok _ _ _ ok.2;have ix:=Hv H.d ok.2 hf.e0;have hl:=H.l;rw[M7]at la d |-;rw[show K_ (.use x ps)=0 from rfl]at hn;have cf:=gC (K x).2 (J4 no (K x).1 ps) n;rw[cf.1]at la;obtain⟨Uo,sl⟩:=SG.dz (K x).1 ps (lY w.2);have h1:=hf.fz (.J8 (.dct (Sy (zq (K x).1 ps))));have fr:=(pA (K x).2).call (K:=k) (n:=n) (by omega) Uo (by omega) o2 b3 (by omega) (by omega) (by omega) h1.es;have dz:=yt (K x).1 ps g;have fz:=xe (g:=g) Uo.p;have h2:=h1.sp (G6 (J4 no (K x).1 ps) n (K x).2).2;have lb:=fC (G6 (J4 no (K x).1 ps) n (K x).2).1;have ad:=h2.add (d8 (G6 (J4 no (K x).1 ps) n (K x).2).1) (by rw[cf.1]at lb;omega);have li:∀xs g,nN [.tup xs] g=.ok (.lst xs) g:=fun _ _=>rfl;generalize Sy (zq (K x).1 ps)=z at*;refine⟨_,_,some (nms (K x).1),some (.tup (d8 (K x).2)),some (.tup (d8 (G6 (J4 no (K x).1 ps) n (K x).2).1)),h2.nw _,?_⟩;have U6:∀(h:List (List Nat))(g:List PO),aq g (nms h)=nms h:=fun _ _=>rfl;rw[nd];simp only[EX,aZ,wE,hf.dr,hf.ds,hf.d0,ix,U6,cT,nM,dz,fz,h1.ds,h1.dr,h2.dr,fr,li,ad]
theorem EL(H:WB P K kd D)(x:List Nat)(ps:List u9)(h:List (List Nat))(b:j7)(cb:CW P K kd D b):UG P K kd D (.j8 x ps h b):=fun k n m ns hk hd ok w d hn bv g i acc x5 x6 x7 hf la=>by
 rw[okN,ab5,ab5,ab5]at ok;rw[wN,ab5,ab5,ab5,ab5]at w;obtain⟨b1,b2,b3,b4⟩:=H.b.b _ _ _ ok.2.1;obtain⟨o1,o2⟩:=H.b.ok _ _ _ ok.2.1;have ix:=Hv H.d ok.2.1 hf.e0;have hl:=H.l;rw[dN]at hk hd;rw[K_]at hn;rw[M7]at la d |-;have cf:=gC (K x).2 (J4 no (K x).1 ps) n;have pf:=lh (L:=D) (K x).2 (J4 no (K x).1 ps) n (SG.dz _ ps (lY w.2.1)).1.w b3;have of:=qO n ⟨o1,o2⟩ ok.1;have nf:=ka (K x).2 (J4 no (K x).1 ps) n;obtain⟨Uo,sl⟩:=SG.dz (K x).1 ps (lY w.2.1);have h1:=hf.fz (.J8 (.dct (Sy (zq (K x).1 ps))));have fr:=(pA (K x).2).call (K:=k) (n:=n) (by omega) Uo (by omega) o2 b3 (by omega) (by omega) (by omega) h1.es;have dz:=yt (K x).1 ps g;have fz:=xe (g:=g) Uo.p;have h2:=h1.sp (G6 (J4 no (K x).1 ps) n (K x).2).2;generalize Sy (zq (K x).1 ps)=z at*;generalize hX:G6 (J4 no (K x).1 ps) n (K x).2=X at*;have hb:=Gp X.1 (K:=k) (by omega) of;rw[nf]at hb;have li:∀xs g,nN [.tup xs] g=.ok (.lst xs) g:=fun _ _=>rfl;have U6:∀(h:List (List Nat))(g:List PO),aq g (nms h)=nms h:=fun _ _=>rfl;have nn:kJ (.tup (d8 b))=false:=rfl
 by_cases nb:M6 (K x).2=true
 ·rw[if_pos nb]at la |-;rw[nb]at hb;have lb:=fC X.1;have ad:=h2.add (d8 X.1) (by omega);refine⟨_,_,some (nms (K x).1),some (.tup (d8 (K x).2)),some (.tup (d8 X.1)),h2.nw _,?_⟩;rw[nd];simp only[EX,aZ,wE,hf.dr,hf.ds,hf.d0,ix,U6,cT,nM,dz,fz,h1.ds,h1.dr,h2.dr,fr,nn,hb,li,ad]
 ·rw[if_neg nb]at la d |-;rw[ahf]at nb;rw[nb]at hb;obtain⟨f1,f2⟩:=pj (h:=h) (B:=(H6 K X.2 b).1) X.1 (H6 K X.2 b).2 _ _ of (by rw[nf];exact nb);have cw:=cb.call H (k:=k) (n:=X.2) (by omega) (by omega) ok.2.2.2 w.2.2.2.2 (by omega) (by omega) (by omega) h2;have nw_:=lU H.b b X.2 m _ ok.2.2.2 (by omega);have h3:=h2.sp (H6 K X.2 b).2;have pw:=mR H.b b X.2 m _ ok.2.2.2 w.2.2.2.2;have mb:(dS b+1) * (D+10)<=5 * (D+10):=afe _ (by omega);have fi:=(DV h (H6 K X.2 b).1 X.1).call (K:=k) (n:=(H6 K X.2 b).2) (Lp:=D+10) (Lb:=(dS b+1) * (D+10)) ⟨kR H.b.ok m b _ _ ok.2.2.2,pw,by omega,by omega,by omega,by have:=of_decide_eq_true w.2.2.2.1;omega⟩ of pf (by omega) (by omega) h3.es;have h4:=h3.sp (I_ h (H6 K X.2 b).1 (H6 K X.2 b).2 X.1).2;have lb:=fC (I_ h (H6 K X.2 b).1 (H6 K X.2 b).2 X.1).1;have ad:=h4.add (d8 (I_ h (H6 K X.2 b).1 (H6 K X.2 b).2 X.1).1) (by omega);refine⟨_,_,some (nms (K x).1),some (.tup (d8 (K x).2)),some (.tup (d8 (I_ h (H6 K X.2 b).1 (H6 K X.2 b).2 X.1).1)),h4.nw _,?_⟩;rw[nd];simp only[EX,aZ,wE,hf.dr,hf.ds,hf.d0,ix,U6,cT,nM,dz,fz,h1.ds,h1.dr,h2.dr,h2.ds,h2.d0,h3.ds,h4.dr,fr,nn,hb,cw,fi,li,ad]
inductive Yb0(K:Kn)(kd:List (PK×PV))(b:j7)(k n:Nat)(bv:Option PV)(g:List PO)(i:Nat)(acc:List PV)(x4 x5 x6 x7:Option PV):Prop where
 |mk (j:Nat)(g':List PO)(y4 y5 y6 y7:Option PV)(_:Hk kd g' (H6 K n b).2 j (acc++d8 (H6 K n b).1))(_:aN (z_ 4) (aZ (F k) (L k)) (d8 b) (wE bv i x4 x5 x6 x7) g=.nx (wE bv j y4 y5 y6 y7) g')
def YB(P:List Pe)(K:Kn)(kd:List (PK×PV))(D:Nat)(b:j7):Prop:=∀(k n:Nat)(m:Option Int)(ns:List (List Nat)),87+dS b<=k->dS b<=4->u_ (P,m,ns) b=true->wS b=true->dS (H6 K n b).1<=41->n+20000 * p7 b<=1000000000000->
 ∀(bv:Option PV)(g:List PO)(i:Nat)(acc:List PV)(x4 x5 x6 x7:Option PV),Hk kd g n i acc->acc.length+p7 (H6 K n b).1<=10000->Yb0 K kd b k n bv g i acc x4 x5 x6 x7
theorem GG{v:PV}{a o:PO}{g:List PO}(e0:g[0]? =some a)(e1:g[1]? =some o)(hv:v.pure=true)(ha:a.pure=true)(ho:o.pure=true):eO 2 v g=.ok v [a,o]:=by
 match g,e0,e1 with
 |x::y::t,e0,e1=>
  cases e0;cases e1
  unfold eO;rw[gy _ hv];dsimp only;unfold gB;simp[aO,ha,ho]
theorem YB.cw(H:WB P K kd D){b:j7}(cr:YB P K kd D b):CW P K kd D b:=fun k n m ns hk hd ok w c d hn=>by
 obtain⟨k,rfl⟩:∃k',k=k'+1:=⟨k - 1,by omega⟩
 obtain⟨j,g',y4,y5,y6,y7,hf,e⟩:=cr k n m ns (by omega) hd ok w d hn (some (.tup (d8 b))) [.dct kd,G5 n,.lst []] 2 [] none none none none ⟨⟨rfl,rfl,by decide⟩,rfl,by decide⟩ (by simpa using c);unfold wE at e;rw[acC]at hf;show dY (fG (F k) (L k)) 3 8 [.tup (d8 b),.ref 0,.ref 1] [.dct kd,G5 n]=_;simp only[EX,dY,fG,e,BL hf.toHf,hf.dr];exact GG hf.e0 hf.es (by rw[PV.pure];exact aU _) (by rw[PO.pure];exact H.d.p) (cW _)
mutual
theorem Ib(H:WB P K kd D):∀a:Nd,UG P K kd D a
 |.text x=>EM x
 |.place p x=>Bz p x
 |.loop x p b u=>EN H x p b u ((oG H b).cw H)
 |.choice p y z=>Ap H p y z ((oG H y).cw H) ((oG H z).cw H)
 |.use x ps=>HY H x ps
 |.j8 x ps hs b=>EL H x ps hs b ((oG H b).cw H)
 |.body ps=>EO ps
theorem oG(H:WB P K kd D):∀b:j7,YB P K kd D b
 |.nil=>fun k n m ns hk hd ok w d hn bv g i acc x4 x5 x6 x7 hf la=>⟨i,g,x4,x5,x6,x7,by rw[H6,d8,acH];exact hf,rfl⟩
 |.cons a r=>fun k n m ns hk hd ok w d hn bv g i acc x4 x5 x6 x7 hf la=>by rw[u_,ab5]at ok;rw[wS,ab5]at w;rw[H6,iZ]at la;rw[H6,sE]at d;rw[p7]at hn;rw[dS]at hk hd;have nl:=Ek H.b a n m _ ok.1 (by omega);have lb:=fC (M7 K n a).1;obtain⟨j,g1,y5,y6,y7,X6,e1⟩:=Ib H a k n m ns (by omega) (by omega) ok.1 w.1 (by omega) (by omega) bv g i acc x5 x6 x7 hf (by omega);obtain⟨j2,g2,z4,z5,z6,z7,V8,e2⟩:=oG H r k (M7 K n a).2 m ns (by omega) (by omega) ok.2 w.2 (by omega) (by omega) bv g1 j (acc++d8 (M7 K n a).1) (some (nd a)) y5 y6 y7 X6 (by rw[acs];omega);rw[acG]at V8;refine⟨j2,g2,z4,z5,z6,z7,by rw[H6,mU];exact V8,?_⟩;rw[d8];exact adT (cP rfl e1) e2
end
theorem BC(H:WB P K kd D)(b:j7):CW P K kd D b:=(oG H b).cw H
end
theorem Bh(k:Nat)(ns:List Int)(j:Nat):F (k+1) .D_ [cv ns,.int (j:Int)]=.ok (.int (ns.getD j 0)):=by
 have r2:F (k+1) .D_ [cv ns,.int (j:Int)]=match ii (F k) [some (cv ns),some (.int (j:Int))] []with
   |.nx _ _=>.ok .non
   |.rt v h=>gA v h
   |_=>.bad:=rfl
 have ln:∀h,gh [cv ns] h=.ok (.int ns.length) h:=fun h=>by unfold cv;rw[Hu,ab9]
 rw[r2]
 by_cases c:j<ns.length
 ·have d1:decide ((j:Int)<(ns.length:Int))=true:=decide_eq_true (by omega)
  have ix:∀h,d7 (cv ns) (.int (j:Int)) h=.ok (.int (ns.getD j 0)) h:=fun h=>by unfold cv;show(match O_ (ns.map PV.int) (j:Int)with|some v=>Res.ok (aq h v) h|none=>Res.bad)=_;rw[fU (v:=PV.int (ns.getD j 0)) (by omega) (by rw[ada,acJ,acy,acr c];rfl)];rfl
  simp only[EY,ii,ln,d1,ix];rfl
 ·have d1:decide ((j:Int)<(ns.length:Int))=false:=decide_eq_false (by omega);have e:ns.getD j 0=0:=by rw[acy,agt (by omega)];rfl
  simp only[EY,ii,ln,d1,e];rfl
theorem pU(k:Nat)(ns:List Int)(i:Int)(hi:0<=i):∃v:Int,∀h,bO (F (k+1) .D_) [cv ns,.int i] h=.ok (.int v) h:=by have e:=Bh k ns i.toNat;rw[agH hi]at e;exact⟨_,fun h=>bp h (by simp[ar,ku,PV.pure]) e⟩
theorem Dk{S:List (List Nat×Sz)}(h:∀y∈S,nn y.2)(x:List Nat):nn (Om S x):=by
 unfold Om
 cases e:S.find? fun y=>y.1==x with
 |none=>exact⟨acO _,acO _⟩
 |some y=>exact h y (adG e)
theorem HN:∀(r:List Pc)(S:List (List Nat×Sz)),(∀y∈S,nn y.2)->∀y∈bS S r,nn y.2
 |[],S,h=>by rw[bS];exact h
 |q::r,S,h=>by
  rw[bS];refine HN r _ fun y hy=>?_;rcases acz.mp hy with z|z
  ·exact h y z
  ·cases acp.mp z;exact yf (Dk h) q.b ⟨acO _,acO _⟩
theorem Lx{v:PV}(h:List PO)(hp:fd 59 v)(hs:∀i,v≠.ref i):O8 h v=toD v/\O9 h v=true:=by
 have e:O8 h v=toD v:=by cases v<;>first|rfl|exact(hs _ rfl).elim
 refine⟨e,?_⟩;unfold O9;rw[e,hp.1];exact decide_eq_true (ace hp.2.1 (by decide))
theorem FA{v:PV}(h:List PO)(hp:fd 59 v)(hs:∀i,v≠.ref i):QC v v h=.ok (.bl false) h:=by obtain⟨e,ok⟩:=Lx h hp hs;unfold QC;rw[if_pos ⟨ok,ok⟩,e,PySem.SeqAt.eqv_refl _ hp.1];rfl
theorem vm{d:Nat}{p:u9}(h1:sg p.a=true)(h2:N5 p.f=true):fd (d+1) (G3 p):=cJ (aG (cU h1) (iW h2))
mutual
theorem HB:∀{n:Nd},wF n=true->fd (2 * dN n+4) (nd n)
 |.text s,h=>by rw[wF]at h;rw[nd];exact bJ (cJ (aG (cU kI.1) (aG (cU h) (dg 0)))) (by omega)
 |.place p w,h=>by rw[wF,ab5,ab5]at h;rw[nd];exact bJ (cJ (d:=1) (aG (cU kI.2.1) (aG (vm h.1 h.2.1) (aG (cU h.2.2) (dg 1))))) (by omega)
 |.loop x p b t,h=>by rw[wF,ab5,ab5,ab5,ab5]at h;rw[nd,dN];have q:=cJ (vj h.2.2.2.1);exact bJ (cJ (aG (cU kI.2.2.1) (aG (cU h.1) (aG (bJ (vm (d:=0) h.2.1 h.2.2.1) (by omega)) (aG q (aG (cU h.2.2.2.2) (dg _))))))) (by omega)
 |.choice p y z,h=>by rw[wF,ab5,ab5,ab5]at h;rw[nd,dN];have m1:=ado (dS y) (dS z);have m2:=adi (dS y) (dS z);have q1:=bJ (e:=2 * max (dS y) (dS z)+5) (cJ (vj h.2.2.1)) (by omega);have q2:=bJ (e:=2 * max (dS y) (dS z)+5) (cJ (vj h.2.2.2)) (by omega);exact bJ (cJ (aG (cU kI.2.2.2.1) (aG (bJ (vm (d:=0) h.1 h.2.1) (by omega)) (aG q1 (aG q2 (dg _)))))) (by omega)
theorem vj:∀{b:j7},T4 b=true->fds (2 * dS b+4) (d8 b)
 |.nil,_=>by rw[d8];exact dg _
 |.cons n r,h=>by rw[T4,ab5]at h;rw[d8,dS];have m1:=ado (dN n) (dS r);have m2:=adi (dN n) (dS r);exact aG (bJ (HB h.1) (by omega)) (sk (vj h.2) (by omega))
end
theorem vk{d:Nat}:∀{l:List Nd},(∀n∈l,wF n=true/\dN n<=d)->fds (2 * d+4) (l.map nd)
 |[],_=>dg _
 |n::r,h=>by have:=(h n (by simp)).2;exact aG (bJ (HB (h n (by simp)).1) (by omega)) (vk fun x hx=>h x (by simp[hx]))
theorem zw{d:Nat}:∀{l:List Nd},T4 (G8 l)=true->dS (G8 l)<=d->∀n∈l,wF n=true/\dN n<=d
 |[],_,_,n,hn=>by cases hn
 |a::r,h,hd,n,hn=>by
  rw[G8,T4,ab5]at h;rw[G8,dS]at hd;rcases acn.mp hn with rfl|z
  ·exact⟨h.1,by omega⟩
  ·exact zw h.2 (by omega) n z
abbrev QF(d:Nat)(l:List Nd):Prop:=∀n∈l,wF n=true/\dN n<=d
theorem Hb{d:Nat}{acc:List Nd}{a:Nd}(h:QF d (bV acc a)):(wF a=true/\dN a<=d)/\QF d acc:=by
 rcases vF acc a with e|⟨B,u,s,rfl,rfl,e⟩<;>rw[e]at h
 ·exact⟨h a (by simp),fun n hn=>h n (by simp[hn])⟩
 ·have t:=(h (.text (u++s)) (by simp)).1;rw[wF,sg,afo,ab5]at t;refine⟨⟨by rw[wF];exact t.2,acu _⟩,fun n hn=>?_⟩;rcases acz.mp hn with z|z
  ·exact h n (by simp[z])
  ·rw[acp.mp z];exact⟨by rw[wF];exact t.1,acu _⟩
theorem oj{d:Nat}:∀(fs acc:List Nd),QF d (fs.foldl bV acc)->QF d fs/\QF d acc
 |[],acc,h=>⟨fun n hn=>(by cases hn),h⟩
 |a::r,acc,h=>by obtain⟨h1,h2⟩:=oj r _ h;obtain⟨h3,h4⟩:=Hb h2;exact⟨fun n hn=>(acn.mp hn).elim (fun e=>e▸h3) (h1 n),h4⟩
theorem zi(k:Nat)(v:PV):∀(fs acc:List Nd)(x2:Option PV),QF 24 (fs.foldl bV acc)->acc.length+fs.length<=1000000->Od acc+Od fs<=1000000->∃y2,aN (z_ 2) (eJ (F k)) (fs.map nd) [some v,some (.ref 0),x2] [.lst (acc.map nd)]=.nx [some v,some (.ref 0),y2] [.lst ((fs.foldl bV acc).map nd)]
 |[],acc,x2,_,_,_=>⟨x2,by rw[acM,aN];rfl⟩
 |a::r,acc,x2,q,l,t=>by
  have q1:=(oj (a::r) acc q).2;obtain⟨f1,f2,_⟩:=pN acc a;have e:Od (a::r)=Od [a]+Od r:=gU [a] r;have e2:Od [a]=Q6 a:=by simp[Od]
  rw[acw]at l;have s:=wG k v acc a (sk (vk q1) (by decide)) (by omega) (by omega);obtain⟨y2,h⟩:=zi k v r (bV acc a) (some (nd a)) q (by omega) (by omega);exact⟨y2,adT (cP rfl s) h⟩
theorem AP(k:Nat)(fs:List Nd)(q:QF 24 (fs.foldl bV []))(l:fs.length<=1000)(t:Od fs<=1000000):F (k+1) .K8 [.lst (fs.map nd)]=.ok (.tup ((fs.foldl bV []).map nd)):=by
 obtain⟨y2,r2⟩:=zi k (.lst (fs.map nd)) fs [] none q (by rw[adg];omega) (by show 0+Od fs<=_;omega)
 have e2:F (k+1) .K8 [.lst (fs.map nd)]=match mx (F k) [some (.lst (fs.map nd)),none,none] []with
   |.nx _ _=>.ok .non
   |.rt v h=>gA v h
   |_=>.bad:=rfl
 have Xj:aN (z_ 2) (eJ (F k)) (fs.map nd) [some (.lst (fs.map nd)),some (.ref 0),none] [.lst []]=.nx [some (.lst (fs.map nd)),some (.ref 0),y2] [.lst ((fs.foldl bV []).map nd)]:=r2;have d0:∀xs:List PV,aq [.lst xs] (.ref 0)=.ref 0:=fun xs=>rfl;have dl:∀g,aq g (.lst (fs.map nd))=.lst (fs.map nd):=fun g=>rfl;have si:∀g,kE (.lst (fs.map nd)) g=.ok (fs.map nd) g:=fun g=>rfl;generalize hl:fs.foldl bV []=l' at*;have tp:df [.ref 0] [.lst (l'.map nd)]=.ok (.tup (l'.map nd)) [.lst (l'.map nd)]:=rfl;rw[e2];simp only[EX,mx,dl,si,Xj,d0,tp];exact cD (by rw[PV.pure];exact bu l')
def RN(ns:List (List Nat))(σ M:Mf):Prop:=∀y∈ns,M y=some (led σ ⟨y,[]⟩)
theorem RN.up{ns:List (List Nat)}{σ M:Mf}(h:RN ns σ M)(x z:List Nat):RN (ns++ [x]) (up1 σ x ⟨z,[]⟩) (up1 M x ⟨z,[]⟩):=fun y hy=>by
 by_cases e:y=x
 ·subst e;unfold led up1;simp
 ·have l:led (up1 σ x ⟨z,[]⟩) ⟨y,[]⟩=led σ ⟨y,[]⟩:=by unfold led up1;dsimp only;rw[if_neg e]
  rw[l,up1,if_neg e];exact h y ((acz.mp hy).resolve_right fun q=>e (acp.mp q))
theorem RN.st{ns:List (List Nat)}{σ M:Mf}(h:RN ns σ M){p:u9}(hp:p.a∈ns):st M p=some (led σ p):=by
 unfold Qt.st;rw[h _ hp];unfold led;dsimp only
 cases σ p.a<;>simp
theorem zT{β:Bm}{M:Mf}:∀(b:j7)(lp:Nat)(acc:List Nd)(r:List Nd×Nat),Oi β M lp acc b=some r->∃fs:List Nd,r.1=fs.foldl bV acc
 |.nil,lp,acc,r,h=>by rw[Oi]at h;cases h;exact⟨[],rfl⟩
 |.cons a t,lp,acc,r,h=>by
  rw[Oi]at h
  cases e:Oj β M lp a with
  |none=>rw[e]at h;cases h
  |some m=>rw[e]at h;obtain⟨fs,q⟩:=zT t _ _ r h;exact⟨m.1++fs,by rw[q,afP]⟩
abbrev nE(bv:Option PV)(d:List (PK×PV))(x4 x5 x6 x7:Option PV):Ev:=[bv,some (.dct d),some (.ref 0),some (.ref 1),x4,x5,x6,x7]
structure NB(K lp Ls Lp:Nat)(ns:List (List Nat))(d:List (PK×PV))(σ M:Mf):Prop where
 s:SG d σ Ls
 l:Lp+Ls<=10000000
 r:RN ns σ M
def CU(b:j7):Prop:=∀(K lp Ls Lp:Nat)(ns:List (List Nat))(d:List (PK×PV))(σ M:Mf)(β:Bm)(r:List Nd×Nat),NB K lp Ls Lp ns d σ M->dS b+3<=K->d.length+dS b<=900->u_ (X0 none ns) b=true->Ot Lp b->p7 b<=1000->lp+p7 b<=1000000000000->Oi β M lp [] b=some r->QF 24 r.1->
 r.2<=lp+p7 b/\L K .m6 [.tup (d8 b),.dct d,.ref 0] [G5 lp]=.ok (.tup (r.1.map nd)) [G5 r.2]
inductive Wv0(a:Nd)(K lp:Nat)(d:List (PK×PV))(r:List Nd×Nat)(bv:Option PV)(acc:List PV)(t:List PO)(x5 x6 x7:Option PV):Prop where
 |mk (a':Nd)(y5 y6 y7:Option PV)(t':List PO)(_:r.1= [a'])(_:Q6 a'<=1000)(_:r.2<=lp+K_ a+1)(_:dk (F K) (L K) (nE bv d (some (nd a)) x5 x6 x7) (G5 lp::.lst acc::t)=.nx (nE bv d (some (nd a')) y5 y6 y7) (G5 r.2::.lst (acc++ [nd a'])::t'))
def Wv(a:Nd):Prop:=∀(K lp Ls Lp:Nat)(ns:List (List Nat))(d:List (PK×PV))(σ M:Mf)(β:Bm)(r:List Nd×Nat),NB K lp Ls Lp ns d σ M->dN a+2<=K->d.length+dN a<=900->okN (X0 none ns) a=true->OD Lp a->K_ a<=1000->lp+K_ a+1<=1000000000000->Oj β M lp a=some r->QF 24 r.1->
 ∀(bv:Option PV)(acc:List PV)(t:List PO)(x5 x6 x7:Option PV),acc.length<=1000000->Wv0 a K lp d r bv acc t x5 x6 x7
theorem Fu(x:List Nat):Wv (.text x):=fun K lp Ls Lp ns d σ M β r H hK hl ok pl c hn e q bv acc t x5 x6 x7 la=>by
 rw[Oj]at e
 cases e
 refine⟨.text x,x5,x6,x7,t,rfl,pl,by omega,?_⟩;rw[nd];simp only[EX,dk,nE,vD acc la,vg,sC,sD]
theorem CQ(p:u9)(x:List Nat):Wv (.place p x):=fun K lp Ls Lp ns d σ M β r H hK hl ok pl c hn e q bv acc t x5 x6 x7 la=>by
 obtain⟨k,rfl⟩:∃k,K=k+1:=⟨K - 1,by omega⟩
 have hd:(PV.dct d).pure=true:=by rw[PV.pure];exact H.s.p
 rw[OD]at pl;rw[okN]at ok;have lc:=iS k H.s p (by have:=H.l;omega);rw[Oj,H.r.st (eN ok p (by simp))]at e
 cases e
 refine⟨_,x5,x6,x7,t,rfl,acu _,by omega,?_⟩;rw[nd,nd];simp only[EX,dk,nE,vD acc la,vg,sC,sD,lc,aL _ hd,mQ]
theorem CU.call{b:j7}(cu:CU b){K lp Ls Lp:Nat}{ns:List (List Nat)}{d:List (PK×PV)}{σ M:Mf}{β:Bm}{r:List Nd×Nat}(H:NB K lp Ls Lp ns d σ M)(hK:dS b+3<=K)(hl:d.length+dS b<=900)(ok:u_ (X0 none ns) b=true)(pl:Ot Lp b)(c:p7 b<=1000)(hn:lp+p7 b<=1000000000000)(e:Oi β M lp [] b=some r)(q:QF 24 r.1)(g:List PO):
  r.2<=lp+p7 b/\w6 (L K .m6) [.tup (d8 b),.dct d,.ref 0] (G5 lp::g)=.ok (.tup (r.1.map nd)) (G5 r.2::g):=by
 obtain⟨a,z⟩:=cu K lp Ls Lp ns d σ M β r H hK hl ok pl c hn e q;exact⟨a,cS [.tup (d8 b),.dct d] [] (by simp only[ar,PV.pure,aU,H.s.p];rfl) rfl (i:=0) (h:=G5 lp::g) rfl (cW lp) z (by rw[PV.pure];exact bu _) (cW _)⟩
theorem AQ(p:u9)(y z:j7)(cy:CU y)(cz:CU z):Wv (.choice p y z):=fun K lp Ls Lp ns d σ M β r H hK hl ok pl c hn e q bv acc t x5 x6 x7 la=>by
 obtain⟨k,rfl⟩:∃k,K=k+1:=⟨K - 1,by omega⟩
 have hd:(PV.dct d).pure=true:=by rw[PV.pure];exact H.s.p
 rw[OD]at pl;rw[okN,ab5,ab5]at ok;rw[dN]at hK hl;rw[K_]at c hn;have lc:=iS k H.s p (by have:=H.l;omega);rw[Oj,H.r.st (eN ok.1 p (by simp))]at e
 split at e
 ·rename_i l e0 e1
  split at e
  ·rename_i l2 e2
   cases e0
   cases e
   have qc:=q (.choice (led σ p) (G8 l.1) (G8 l2.1)) (by simp);rw[wF,ab5,ab5,ab5,dN]at qc;obtain⟨n1,c1⟩:=cy.call ⟨H.s,H.l,H.r⟩ (K:=k+1) (by omega) (by omega) ok.2.1 pl.2.1 (by omega) (by omega) e1 (zw qc.1.2.2.1 (by omega)) (.lst acc::t);obtain⟨n2,c2⟩:=cz.call ⟨H.s,H.l,H.r⟩ (K:=k+1) (lp:=l.2) (by omega) (by omega) ok.2.2 pl.2.2 (by omega) (by omega) e2 (zw qc.1.2.2.2 (by omega)) (.lst acc::t);refine⟨_,some (.tup (l.1.map nd)),x6,x7,t,rfl,acu _,by rw[K_];dsimp only;omega,?_⟩;rw[nd,nd,eR,eR];simp only[EX,dk,nE,vD acc la,vg,sC,sD,lc,aL _ hd,mQ,cT,c1,c2]
  ·cases e
 ·cases e
theorem Fv(x:List Nat)(p:u9)(b:j7)(u:List Nat)(cb:CU b):Wv (.loop x p b u):=fun K lp Ls Lp ns d σ M β r H hK hl ok pl c hn e q bv acc t x5 x6 x7 la=>by
 obtain⟨k,rfl⟩:∃k,K=k+1:=⟨K - 1,by omega⟩
 have hd:(PV.dct d).pure=true:=by rw[PV.pure];exact H.s.p
 rw[OD]at pl;rw[okN,ab5]at ok;rw[dN]at hK hl;rw[K_]at c hn;have lc:=iS k H.s p (by have:=H.l;omega);rw[Oj,H.r.st (eN ok.1 p (by simp))]at e
 split at e
 ·rename_i l e0 e1
  cases e0
  cases e
  have qc:=q (.loop (QB lp) (led σ p) (G8 l.1) u) (by simp);rw[wF,ab5,ab5,ab5,ab5,dN]at qc;have hp:=H.s.put x (v:=⟨QB lp,[]⟩) (acu _);have Xk:=jD d (.inr x) (G3 ⟨QB lp,[]⟩);generalize O1:dP d (.inr x) (G3 ⟨QB lp,[]⟩)=d' at hp Xk;obtain⟨n1,c1⟩:=cb.call ⟨hp,H.l,H.r.up x _⟩ (K:=k+1) (lp:=lp+1) (by omega) (by omega) ok.2 pl.2 (by omega) (by omega) e1 (zw qc.1.2.2.2.1 (by omega)) (.lst acc::(t++ [.J8 (.dct d')]));have mk:iQ [.dct d] (G5 (lp+1)::.lst acc::t)=.ok (.ref (t.length+2)) (G5 (lp+1)::.lst acc::(t++ [.dct d])):=rfl;have dl:d.length<sizeLine:=acU (by omega:d.length<=1000) (by decide)
  have sd:∀ ρ,mG (.tup [.str (QB lp)]) (.ref (t.length+2)) (.str x) ρ (G5 (lp+1)::.lst acc::(t++ [.dct d]))=.nx ρ (G5 (lp+1)::.lst acc::(t++ [.dct d'])):=fun ρ=>by rw[<- O1];unfold mG nV;simp only[ade,adV];show(if d.length<sizeLine then _ else SR.bad)=_;rw[if_pos dl];simp;rfl
  have fz:TJ (.ref (t.length+2)) (G5 (lp+1)::.lst acc::(t++ [.dct d']))=.ok (.dct d') (G5 (lp+1)::.lst acc::(t++ [.J8 (.dct d')])):=xe (g:=G5 (lp+1)::.lst acc::t) hp.p
  have dr:∀o,aq (G5 (lp+1)::.lst acc::(t++ [.dct o])) (.ref (t.length+2))=.ref (t.length+2):=fun o=>by unfold aq;simp
  have i1:((lp:Int)+1)=((lp+1:Nat):Int):=by omega
  have lg:=Hs (n:=lp) (by omega);have ad:=yY 118 (n:=lp) (by omega);refine⟨_,x5,some (.str (QB lp)),some (.ref (t.length+2)),t++ [.J8 (.dct d')],rfl,acu _,by rw[K_];dsimp only;omega,?_⟩;rw[nd,nd,eR];simp only[EX,dk,nE,vD acc la,vg,sC,sD,lc,aL _ hd,mQ,cT,MD,i1,Ll,lg,ad,mk,show(118::jb (lp:Int))=QB lp from rfl,sd,fz,dr,c1]
 ·cases e
inductive Cu0(b:j7)(K lp:Nat)(d:List (PK×PV))(a0:List Nd)(r:List Nd×Nat)(bv:Option PV)(acc:List PV)(t:List PO)(x4 x5 x6 x7:Option PV):Prop where
 |mk (fs:List Nd)(y4 y5 y6 y7:Option PV)(t':List PO)(_:r.1=fs.foldl bV a0)(_:fs.length<=p7 b)(_:Od fs<=1000 * p7 b)(_:r.2<=lp+p7 b)(_:aN (z_ 4) (dk (F K) (L K)) (d8 b) (nE bv d x4 x5 x6 x7) (G5 lp::.lst acc::t)=.nx (nE bv d y4 y5 y6 y7) (G5 r.2::.lst (acc++fs.map nd)::t'))
def CUR(b:j7):Prop:=∀(K lp Ls Lp:Nat)(ns:List (List Nat))(d:List (PK×PV))(σ M:Mf)(β:Bm)(a0:List Nd)(r:List Nd×Nat),NB K lp Ls Lp ns d σ M->dS b+2<=K->d.length+dS b<=900->u_ (X0 none ns) b=true->Ot Lp b->p7 b<=1000->lp+p7 b<=1000000000000->Oi β M lp a0 b=some r->QF 24 r.1->
 ∀(bv:Option PV)(acc:List PV)(t:List PO)(x4 x5 x6 x7:Option PV),acc.length+p7 b<=1000000->Cu0 b K lp d a0 r bv acc t x4 x5 x6 x7
theorem CUR.cu{b:j7}(cr:CUR b):CU b:=fun K lp Ls Lp ns d σ M β r H hK hl ok pl c hn e q=>by
 obtain⟨k,rfl⟩:∃k,K=k+1:=⟨K - 1,by omega⟩
 have hd:(PV.dct d).pure=true:=by rw[PV.pure];exact H.s.p
 obtain⟨fs,y4,y5,y6,y7,t',f1,f2,f3,f4,e⟩:=cr k lp Ls Lp ns d σ M β [] r ⟨H.s,H.l,H.r⟩ (by omega) hl ok pl c hn e q (some (.tup (d8 b))) [] [] none none none none (by rw[adg];omega);refine⟨f4,?_⟩;unfold nE at e;rw[acC]at e;rw[f1]at q |-;obtain⟨k',rfl⟩:∃k',k=k'+1:=⟨k - 1,by omega⟩
 have o1:=AP k' fs q (by omega) (by omega)
 have co:∀o,bO (F (k'+1) .K8) [.ref 1] (o::.lst (fs.map nd)::t')=.ok (.tup ((fs.foldl bV []).map nd)) (o::.J8 (.lst (fs.map nd))::t'):=fun o=>by
  have fr:Qk [.ref 1] (o::.lst (fs.map nd)::t')=some ([.lst (fs.map nd)],o::.J8 (.lst (fs.map nd))::t'):=by show(match(if ar (fs.map nd)=true then some (PV.lst (fs.map nd),o::PO.J8 (.lst (fs.map nd))::t')else none)with|some (q,h1)=>_|none=>_)=_;rw[if_pos (bu fs)];rfl
  rw[ue,fr];dsimp only;rw[o1]
 show dY (iH (F (k'+1)) (L (k'+1))) 3 8 [.tup (d8 b),.dct d,.ref 0] [G5 lp]=_;simp only[EX,dY,iH,e,sC,co];exact JV _ (by rw[PV.pure];exact bu _) (cW _)
mutual
theorem LC:∀a:Nd,Wv a
 |.text x=>Fu x
 |.place p x=>CQ p x
 |.loop x p b u=>Fv x p b u (wJ b).cu
 |.choice p y z=>AQ p y z (wJ y).cu (wJ z).cu
 |.use x ps=>fun K lp Ls Lp ns d σ M β r H hK hl ok=>by rw[okN,ab5]at ok;cases ok.2
 |.j8 x ps hs b=>fun K lp Ls Lp ns d σ M β r H hK hl ok=>by rw[okN,ab5,ab5]at ok;cases ok.2.1
 |.body ps=>fun K lp Ls Lp ns d σ M β r H hK hl ok=>by rw[okN,ab5]at ok;cases of_decide_eq_true ok.2
theorem wJ:∀b:j7,CUR b
 |.nil=>fun K lp Ls Lp ns d σ M β a0 r H hK hl ok pl c hn e q bv acc t x4 x5 x6 x7 la=>by rw[Oi]at e;cases e;exact⟨[],x4,x5,x6,x7,t,rfl,ab8 _,acu _,ab8 _,by rw[d8,acM,acH];rfl⟩
 |.cons a s=>fun K lp Ls Lp ns d σ M β a0 r H hK hl ok pl c hn e q bv acc t x4 x5 x6 x7 la=>by
  rw[u_,ab5]at ok;rw[Ot]at pl;rw[p7]at la hn c;rw[dS]at hK hl;rw[Oi]at e
  cases em:Oj β M lp a with
  |none=>rw[em]at e;cases e
  |some m=>
   rw[em]at e;obtain⟨gs,eg⟩:=zT s _ _ r e;have qm:QF 24 m.1:=by rw[eg]at q;exact(oj _ _ (oj _ _ q).2).1
   obtain⟨a',y5,y6,y7,t1,m1,m2,m3,e1⟩:=LC a K lp Ls Lp ns d σ M β m H (by omega) (by omega) ok.1 pl.1 (by omega) (by omega) em qm bv acc t x5 x6 x7 (by omega);obtain⟨fs,z4,z5,z6,z7,t2,f1,f2,f3,f4,e2⟩:=wJ s K m.2 Ls Lp ns d σ M β _ r ⟨H.s,H.l,H.r⟩ (by omega) (by omega) ok.2 pl.2 (by omega) (by omega) e q bv (acc++ [nd a']) t1 (some (nd a')) y5 y6 y7 (by rw[acs,acN];omega);have tl:Od (a'::fs)=Q6 a'+Od fs:=by simp[Od]
   refine⟨a'::fs,z4,z5,z6,z7,t2,by rw[f1,m1];rfl,by rw[acw,p7];omega,by rw[tl,p7];omega,by rw[p7];omega,?_⟩;rw[d8,ab7];rw[acG]at e2;exact adT (cP rfl e1) e2
end
theorem Ft(b:j7):CU b:=(wJ b).cu
mutual
theorem CJ{P P':List Pe}(hP:∀x l h,QH P x l h=true->QH P' x l h=true):∀(n:Nd)(m:Option Int)(ns:List (List Nat)),okN (P,m,ns) n=true->okN (P',m,ns) n=true
 |.text _,_,_,_=>rfl
 |.place _ _,_,_,h=>h
 |.loop x p b t,m,ns,h=>by rw[okN,ab5]at h |-;exact⟨h.1,jG hP b m _ h.2⟩
 |.choice p y z,m,ns,h=>by rw[okN,ab5,ab5]at h |-;exact⟨h.1,jG hP y m _ h.2.1,jG hP z m _ h.2.2⟩
 |.use x ps,m,ns,h=>by rw[okN,ab5]at h |-;exact⟨h.1,hP _ _ _ h.2⟩
 |.j8 x ps hs b,m,ns,h=>by rw[okN,ab5,ab5,ab5]at h |-;exact⟨h.1,hP _ _ _ h.2.1,h.2.2.1,jG hP b m _ h.2.2.2⟩
 |.body _,_,_,h=>h
theorem jG{P P':List Pe}(hP:∀x l h,QH P x l h=true->QH P' x l h=true):∀(b:j7)(m:Option Int)(ns:List (List Nat)),u_ (P,m,ns) b=true->u_ (P',m,ns) b=true
 |.nil,_,_,_=>rfl
 |.cons n r,m,ns,h=>by rw[u_,ab5]at h |-;exact⟨CJ hP n m ns h.1,jG hP r m ns h.2⟩
end
theorem Fr{P R:List Pe}{x:List Nat}{l:Nat}{h:Option Int}(e:QH P x l h=true):QH (P++R) x l h=true:=by
 unfold QH at e |-
 cases z:Tc P x with
 |none=>rw[z]at e;cases e
 |some p=>
  rw[z]at e
  have:Tc (P++R) x=some p:=by unfold Tc at z |-;rw[adA,z];rfl
  rw[this];exact e
theorem qv:∀(r C:List Pc),QJ C r=true->∀q∈r,u_ ((C++r).map O5,q.m,q.ns) q.b=true/\dup q.ns=false
 |[],_,_,q,hq=>by cases hq
 |p::r,C,h,q,hq=>by
  rw[QJ,ab5,ab5,ab5]at h;rcases acn.mp hq with rfl|hq
  ·refine⟨?_,by simpa using h.2.1⟩;rw[aci];exact jG (fun x l m e=>Fr e) q.b _ _ h.2.2.1
  ·have:=qv r (C++ [p]) h.2.2.2 q hq;rw[acG]at this;exact this
theorem Dj{C:List Pc}{x:List Nat}{p:Pc}(h:look C x=some p):p∈C/\p.n=x:=by unfold look at h;exact⟨adG h,by have:=agm h;simpa using this⟩
structure EX(B1 B2:List Pc)(P:List Pe):Prop where
 x:∀x l h,QH P x l h=true->∃p,look B1 x=some p/\look B2 x=some p/\u_ (P,p.m,p.ns) p.b=true
def HdO(P:List Pe):Hd->Prop
 |.nil=>True
 |.cons b _ h=>(∃m ns,u_ (P,m,ns) b=true)/\HdO P h
theorem HI{P:List Pe}{m:Option Int}{ns:List (List Nat)}{g g':Nd->Option (Nat×Nat)}(k:∀n r,okN (P,m,ns) n=true->g n=some r->g' n=some r):∀(b:j7)(r:Nat×Nat),u_ (P,m,ns) b=true->cR g b=some r->cR g' b=some r
 |.nil,r,_,h=>h
 |.cons n t,r,ok,h=>by
  rw[u_,ab5]at ok;rw[cR]at h |-
  cases e1:g n with
  |none=>rw[e1]at h;cases h
  |some a=>
   cases e2:cR g t with
   |none=>rw[e1,e2]at h;cases h
   |some c=>rw[e1,e2]at h;rw[k n a ok.1 e1,HI k t c ok.2 e2];exact h
theorem nt{B1 B2:List Pc}{P:List Pe}(H:EX B1 B2 P):∀(f:Nat)(b:j7)(hd:Hd)(m:Option Int)(ns:List (List Nat))(r:Nat×Nat),u_ (P,m,ns) b=true->HdO P hd->cX B1 f b hd=some r->cX B2 f b hd=some r
 |0,_,_,_,_,_,_,_,h=>by cases h
 |f+1,b,hd,m,ns,r,ok,hh,h=>by
  refine HI (P:=P) (m:=m) (ns:=ns) (fun n r ok hn=>?_) b r ok h
  cases n with
  |text s=>exact hn
  |place p s=>exact hn
  |loop x p c t=>rw[okN,ab5]at ok;exact fL (fun r=>nt H f c hd m _ r ok.2 hh) r hn
  |choice p y z=>rw[okN,ab5,ab5]at ok;exact fL (fun r=>nt H f (J6 y z) hd m ns r (by rw[oU,ok.2.1,ok.2.2];rfl) hh) r hn
  |use x ps=>rw[okN,ab5]at ok;obtain⟨p,p1,p2,p3⟩:=H.x _ _ _ ok.2;rw[K5,p1]at hn;rw[K5,p2];exact fL (fun r=>nt H f p.b .nil _ _ r p3 trivial) r hn
  |j8 x ps h b=>rw[okN,ab5,ab5,ab5]at ok;obtain⟨p,p1,p2,p3⟩:=H.x _ _ _ ok.2.1;rw[K5,p1]at hn;rw[K5,p2];exact fL (fun r=>nt H f p.b (.cons b 0 hd) _ _ r p3 ⟨⟨_,_,ok.2.2.2⟩,hh⟩) r hn
  |body ps=>
   cases hd with
   |nil=>exact hn
   |cons b2 i2 h2=>obtain⟨⟨m',Pa,o⟩,hh⟩:=hh;exact fL (fun r=>nt H f b2 h2 m' Pa r o hh) r hn
theorem Aa:∀(f:Nat)(X:j7)(c d:Nat)(m:Option Int)(ns:List (List Nat)),u_ (X0 m ns) X=true->cX [] f X .nil=some (c,d)->p7 X<=c/\dS X<=d/\d<=f
 |0,_,_,_,_,_,_,h=>by cases h
 |f+1,X,c,d,m,ns,ok,h=>by
  have node:∀(a:Nd)(c d:Nat),okN (X0 m ns) a=true->K5 [] (cX [] f) .nil a=some (c,d)->K_ a+1<=c/\dN a<=d/\d<=f+1:=fun a c d ok e=>by
   cases a with
   |text s=>cases e;exact⟨ab8 _,acu _,by omega⟩
   |place p s=>cases e;exact⟨ab8 _,acu _,by omega⟩
   |body ps=>cases e;exact⟨ab8 _,acu _,by omega⟩
   |use x ps=>cases e
   |j8 x ps h b=>cases e
   |loop x p b t=>rw[okN,ab5]at ok;obtain⟨c',d',e0,rfl,rfl⟩:=jo e;have:=Aa f b c' d' m _ ok.2 e0;rw[K_,dN];omega
   |choice p y z=>rw[okN,ab5,ab5]at ok;obtain⟨c',d',e0,rfl,rfl⟩:=jo e;have:=Aa f (J6 y z) c' d' m ns (by rw[oU,ok.2.1,ok.2.2];rfl) e0;rw[iZ,sE]at this;rw[K_,dN];omega
  have row:∀(b:j7)(c d:Nat),u_ (X0 m ns) b=true->cR (K5 [] (cX [] f) .nil) b=some (c,d)->p7 b<=c/\dS b<=d/\d<=f+1:=fun b=>by
   induction b using j7.rec (motive_1:=fun _=>True)with
   |nil=>intro c d _ e;cases e;exact⟨ab8 _,ab8 _,by omega⟩
   |cons a r _ ih=>
    intro c d ok e;rw[u_,ab5]at ok;rw[cR]at e
    cases e1:K5 [] (cX [] f) .nil a with
    |none=>rw[e1]at e;cases e
    |some x=>
     cases e2:cR (K5 [] (cX [] f) .nil) r with
     |none=>rw[e1,e2]at e;cases e
     |some y=>
      rw[e1,e2]at e;have h1:=node a x.1 x.2 ok.1 e1;have h2:=ih y.1 y.2 ok.2 e2;injection e with e
      injection e with ea eb
      subst ea eb;rw[p7,dS];exact⟨afx h1.1 h2.1,afw.mpr ⟨ace h1.2.1 (ado ..),ace h2.2.1 (adi ..)⟩,afw.mpr ⟨h1.2.2,h2.2.2⟩⟩
   |_=>trivial
  exact row X c d ok h
def Pb(C:List Pc):List (PK×PV):=C.map fun q=>(Sum.inr q.n,.tup [nms q.ns,.tup (d8 q.b)])
def RZ(C:List Pc):Kn:=fun x=>match look C x with
 |some q=>(q.ns,q.b)
 |none=>([],.nil)
theorem va:∀C:List Pc,aW (Pb C)=true
 |[]=>rfl
 |q::r=>by show((PV.tup [nms q.ns,.tup (d8 q.b)]).pure&&aW (Pb r))=true;rw[va r];simp[PV.pure,ar,cC,aU]
theorem DA(x:List Nat):∀C:List Pc,dI (Pb C) (.inr x)=(look C x).map fun q=>.tup [nms q.ns,.tup (d8 q.b)]
 |[]=>rfl
 |q::r=>by
  have ih:=DA x r;unfold dI Pb look at*;rw[ab7,adh,adh]
  by_cases e:q.n=x
  ·rw[show(q.n==x)=true by simpa using e];simp[e]
  ·rw[show(q.n==x)=false by simpa using e,show decide ((Sum.inr q.n:PK)=.inr x)=false from decide_eq_false fun z=>e (by injection z)];exact ih
theorem Jq{C:List Pc}{q:Pc}(h:q.n∉C.map (·.n)):dP (Pb C) (.inr q.n) (.tup [nms q.ns,.tup (d8 q.b)])=Pb (C++ [q]):=by
 unfold dP;rw[if_neg]
 ·unfold Pb;rw[aci];rfl
 ·intro z;obtain⟨y,hy,e⟩:=af2.mp z;unfold Pb at hy;obtain⟨p,hp,rfl⟩:=acK.mp hy;have e:=of_decide_eq_true e;injection e with e
  exact h (acK.mpr ⟨p,hp,e⟩)
structure PZ(B:List Pc)(D:Nat)(p p':Pc):Prop where
 n:p'.ns=p.ns
 ok:u_ (X0 p.m p.ns) p'.b=true
 c:p7 p'.b<=10000
 d:dS p'.b<=41
 l:Ot D p'.b
 s:SEM B p p'.b
 e:CEM B p p'.b
theorem PZ.le{B:List Pc}{D D':Nat}{p p':Pc}(h:PZ B D p p')(l:D<=D'):PZ B D' p p':=⟨h.n,h.ok,h.c,h.d,gw l _ h.l,h.s,h.e⟩
structure DI(B E C:List Pc)(D:Nat):Prop where
 nm:C.map (·.n)=E.map (·.n)
 z:∀x p,look E x=some p->look B x=some p/\p.ns.length<60/\∃p',look C x=some p'/\PZ B D p p'
section
variable{B E C:List Pc}{D:Nat}
theorem DI.u(I:DI B E C D){x:List Nat}{l:Nat}{h:Option Int}(ok:QH (E.map O5) x l h=true):∃p p',look B x=some p/\p.ns.length=l/\p.m=h/\p.ns.length<60/\look C x=some p'/\RZ C x=(p.ns,p'.b)/\PZ B D p p':=by obtain⟨p,a,b,c⟩:=lG ok;obtain⟨d,e,p',f,g⟩:=I.z x p a;exact⟨p,p',d,b,c,e,f,by unfold RZ;rw[f];dsimp only;rw[g.n],g⟩
theorem DI.ko(I:DI B E C D):KO (E.map O5) (RZ C):=fun x l h ok=>by obtain⟨p,p',h1,h2,h3,h4,h5,h6,h7⟩:=I.u ok;rw[h6];subst h2 h3;exact⟨rfl,h7.ok⟩
theorem DI.kb(I:DI B E C D):KB (E.map O5) (RZ C) D:=⟨I.ko,fun x l h ok=>by obtain⟨p,p',h1,h2,h3,h4,h5,h6,h7⟩:=I.u ok;rw[h6];exact⟨h7.c,h7.d,h7.l,h4⟩⟩
theorem DI.ks(I:DI B E C D):KS B (E.map O5) (RZ C):=⟨I.ko,fun x l h ok=>by obtain⟨p,p',h1,h2,h3,h4,h5,h6,h7⟩:=I.u ok;rw[h6];exact⟨p,h1,h3,rfl,h7.s⟩⟩
theorem DI.kc(I:DI B E C D):KC B (E.map O5) (RZ C):=fun x l h ok=>by obtain⟨p,p',h1,h2,h3,h4,h5,h6,h7⟩:=I.u ok;rw[h6];exact⟨p,h1,h7.e⟩
theorem DI.kd(I:DI B E C D):KD (Pb C) (RZ C) (E.map O5):=⟨va C,fun x l h ok=>by obtain⟨p,p',h1,h2,h3,h4,h5,h6,h7⟩:=I.u ok;rw[DA,h5,h6,<- h7.n];rfl⟩
theorem oY(E:List Pc)(q:Pc)(x:List Nat):look (E++ [q]) x=(look E x).or (if q.n=x then some q else none):=by
 unfold look;rw[adA]
 congr 1
 rw[adh]
 by_cases e:q.n=x
 ·rw[if_pos e,show(q.n==x)=true by simpa using e]
 ·rw[if_neg e,show(q.n==x)=false by simpa using e];rfl
theorem zC{E:List Pc}{x:List Nat}(h:x∉E.map (·.n)):look E x=none:=by
 unfold look
 exact aeh.mpr fun p hp=>by intro z;exact h (acK.mpr ⟨p,hp,aec z⟩)
theorem DI.W(I:DI B E C D){q:Pc}(n:Nat)(ok:u_ (E.map O5,q.m,q.ns) q.b=true)(w:wC q=true)(hd:dS q.b<=4){c d:Nat}(hx:cX B 41 q.b .nil=some (c,d))(hc:c<=10000):PZ B (5 * (D+10)) q ⟨q.n,q.ns,q.m,(H6 (RZ C) n q.b).1⟩:=by unfold wC at w;rw[ab5,ab5,ab5,ab5]at w;have o:=kR I.ko q.m q.b q.ns n ok;obtain⟨c',d',e,l1,l2⟩:=nr I.ko I.kc q.b q.ns q.m n 41 .nil .nil c d ok trivial hx;obtain⟨a1,a2,a3⟩:=Aa 41 _ c' d' _ _ o e;refine⟨rfl,o,ace a1 (by omega),ace a2 a3,gw (afe _ (by omega)) _ (mR I.kb q.b n q.m q.ns ok w.2.2.2.1),fun f lp M hd β r hc hh hj=>?_,fun f hd O1 c d hh hx=>nr I.ko I.kc q.b q.ns q.m n f hd O1 c d ok hh hx⟩;obtain⟨g,rfl,hj⟩:=Hh hj;exact pF I.ks q.b q.ns q.m n g lp M hd β [] r ok (fun y hy=>BT (aco.mp w.2.1 y hy)) w.2.2.2.1 hc hh hj
theorem DI.step(I:DI B E C D){q:Pc}{p':Pc}(hq:q.n∉E.map (·.n))(hB:look B q.n=some q)(hn:q.ns.length<60)(e:p'.n=q.n)(z:PZ B (5 * (D+10)) q p'):DI B (E++ [q]) (C++ [p']) (5 * (D+10)) where
 nm:=by rw[aci,aci,I.nm];simp[e]
 z:=fun x p h=>by
  rw[oY]at h
  cases le:look E x with
  |some y=>
   rw[le]at h
   cases h
   obtain⟨a,b,p2,c,d⟩:=I.z x p le;exact⟨a,b,p2,by rw[oY,c];rfl,d.le (by omega)⟩
  |none=>
   rw[le,ahr]at h
   split at h
   ·rename_i ex
    cases h
    subst ex;refine⟨hB,hn,p',?_,z⟩;rw[oY,zC (by rw[I.nm];exact hq),if_pos e];rfl
   ·cases h
end
noncomputable def dB:Nat->Nat
 |0=>0
 |i+1=>5 * (dB i+10)
theorem Nb:∀i,i<=7->6 * (dB i+10)<=10000000:=by decide
theorem Eh{B E C:List Pc}(I:DI B E C (dB E.length))(lE:E.length<=7){q:Pc}(n:Nat)(hn:n<=10000000000)(ok:u_ (E.map O5,q.m,q.ns) q.b=true)(w:wC q=true)(hd:dS q.b<=4)(V_:p7 q.b<=20000){c d:Nat}(hx:cX B 41 q.b .nil=some (c,d))(hc:c<=10000)(hq:q.n∉E.map (·.n))(bv x3:Option PV):
  (H6 (RZ C) n q.b).2<=n+400000000/\jy (F 98) (L 98) [bv,some (.ref 0),some (.ref 1),some (pc q)] [.dct (Pb C),G5 n]=.nx [bv,some (.ref 0),some (.ref 1),some (pc q)] [.dct (Pb (C++ [⟨q.n,q.ns,q.m,(H6 (RZ C) n q.b).1⟩])),G5 (H6 (RZ C) n q.b).2]:=by
 have Z:=I.W n ok w hd hx hc;have H:WB (E.map O5) (RZ C) (Pb C) (dB E.length):=⟨I.kb,I.kd,Nb _ lE⟩
 have nl:=lU I.kb q.b n q.m q.ns ok Z.c;have w2:=w;unfold wC at w2;rw[ab5,ab5,ab5,ab5]at w2;have ca:=uf (fn:=L 98 .j6) (p:=.tup (d8 q.b)) (g:=[.dct (Pb C),G5 n]) (by rw[PV.pure];exact aU q.b) rfl rfl (by rw[PO.pure];exact va C) (cW n) (BC H q.b 98 n q.m q.ns (by omega) hd ok w2.2.2.2.1 Z.c Z.d (by omega)) (by rw[PV.pure];exact aU _) (cW _);refine⟨by omega,?_⟩;have pu:=Jq (C:=C) (q:=⟨q.n,q.ns,q.m,(H6 (RZ C) n q.b).1⟩) (by rw[I.nm];exact hq);generalize H6 (RZ C) n q.b=W at*;have Yr:w6 (L 98 .j6) [.tup (d8 q.b),.ref 0,.ref 1] [.dct (Pb C),G5 n]=.ok (.tup (d8 W.1)) [.dct (Pb C),G5 W.2]:=ca
 have lk:(Pb C).length<sizeLine:=by
  have:(Pb C).length=E.length:=by unfold Pb;rw[ab9,<- ab9 (f:=fun q:Pc=>q.n),I.nm,ab9]
  rw[this];exact acU lE (by decide)
 have sd:∀ ρ v,mG v (.ref 0) (.str q.n) ρ [.dct (Pb C),G5 W.2]=.nx ρ [.dct (dP (Pb C) (.inr q.n) v),G5 W.2]:=fun ρ v=>by show(if(Pb C).length<sizeLine then _ else SR.bad)=_;rw[if_pos lk];rfl
 have d0:∀o,aq [.dct (Pb C),o] (.ref 0)=.ref 0:=fun _=>rfl;have d1:∀o m,aq [o,G5 m] (.ref 1)=.ref 1:=fun _ _=>rfl;have U6:∀(h:List (List Nat))(g:List PO),aq g (nms h)=nms h:=fun _ _=>rfl;simp only[EX,jy,pZ,lA,d0,d1,U6,cT,Yr,sd,pu]
theorem wR{E R:List Pc}{q:Pc}(nd:((E++q::R).map (·.n)).Nodup):look (E++q::R) q.n=some q/\q.n∉E.map (·.n):=by rw[aci,ab7,adQ]at nd;have nq:q.n∉E.map (·.n):=fun z=>nd.2.2 _ z _ (by simp) rfl;refine⟨?_,nq⟩;have:=zC nq;unfold look at this |-;rw[adA,this,ahr,adh];simp
structure BD(B:List Pc):Prop where
 l:B.length<=8
 nd:(B.map (·.n)).Nodup
 p:∀E q R,B=E++q::R->u_ (E.map O5,q.m,q.ns) q.b=true/\wC q=true/\dS q.b<=4/\p7 q.b<=20000/\∃c d,cX B 41 q.b .nil=some (c,d)/\c<=10000
theorem xh{B:List Pc}(hB:BD B)(bv:Option PV):∀(R E C:List Pc)(n:Nat)(x3:Option PV),B=E++R->DI B E C (dB E.length)->n<=400000000 * E.length->∃C' n' y3,DI B B C' (dB B.length)/\aN (z_ 3) (jy (F 98) (L 98)) (R.map pc) [bv,some (.ref 0),some (.ref 1),x3] [.dct (Pb C),G5 n]=.nx [bv,some (.ref 0),some (.ref 1),y3] [.dct (Pb C'),G5 n']
 |[],E,C,n,x3,e,I,hn=>⟨C,n,x3,by rw[acH]at e;rw[e]at I |-;exact I,rfl⟩
 |q::R,E,C,n,x3,e,I,hn=>by
  have l:=hB.l;rw[e,acs,acw]at l;obtain⟨o,w,hd,ct,c,d,hx,hc⟩:=hB.p E q R e;obtain⟨lk,nq⟩:=wR (e▸hB.nd);rw[<- e]at lk;obtain⟨n1,s1⟩:=Eh I (by omega) n (by omega) o w hd ct hx hc nq bv x3;have w2:=w;unfold wC at w2;rw[ab5,ab5,ab5,ab5]at w2;have I2:=I.step (p':=⟨q.n,q.ns,q.m,(H6 (RZ C) n q.b).1⟩) nq lk (of_decide_eq_true w2.2.2.1) rfl (I.W n o w hd hx hc);have le:(E++ [q]).length=E.length+1:=by simp
  obtain⟨C',n',y3,I3,s2⟩:=xh hB bv R (E++ [q]) _ (H6 (RZ C) n q.b).2 (some (pc q)) (by rw[e];simp) (by rw[le];exact I2) (by rw[le];omega);exact⟨C',n',y3,I3,by rw[ab7];exact adT (cP rfl s1) s2⟩
theorem Hy{y:List Nat}:∀(ns:List (List Nat))(σ:Mf),(σ y=some ⟨y,[]⟩\/y∈ns)->J4 σ ns (ids ns) y=some ⟨y,[]⟩
 |[],σ,h=>h.elim id fun z=>(nomatch z)
 |x::r,σ,h=>by
  show J4 (up1 σ x ⟨x,[]⟩) r (ids r) y=_;refine Hy r _ ?_
  by_cases e:y=x
  ·refine .inl ?_;rw[up1,if_pos e,e]
  ·rcases h with h|h
   ·refine .inl ?_;rw[up1,if_neg e];exact h
   ·exact .inr ((acn.mp h).resolve_left e)
theorem Kl{E:List Pc}{q:Pc}(hB:BD (E++ [q]))(hm:q.m=none){c d:Nat}(hx:cX (E++ [q]) 41 q.b .nil=some (c,d))(hc:c<=400)(hd:d<=24){l:List Nd}{lp:Nat}(hj:J (E++ [q]) 25 0 q.b (J4 no q.ns (ids q.ns)) .nil=some (l,lp))(fo:FO l c d):F 99 .O7 [bk (E++ [q])]=.ok (.tup (l.map nd)):=by
 obtain⟨C,n,y3,I,lo⟩:=xh hB (some (bk (E++ [q]))) (E++ [q]) [] [] 0 none rfl ⟨rfl,fun x p h=>by cases h⟩ (acu _);obtain⟨lk,_⟩:=wR (E:=E) (q:=q) (R:=[]) hB.nd;obtain⟨_,_,p',k1,Z⟩:=I.z q.n q (by unfold look at lk |-;exact lk);have lB:=hB.l;have ev:=Z.s 25 0 (J4 no q.ns (ids q.ns)) .nil (fun _ _=>none) (l,lp) trivial trivial hj;obtain⟨c',d',e1,l1,l2⟩:=Z.e 41 .nil .nil c d trivial hx;obtain⟨a1,a2,_⟩:=Aa 41 _ c' d' _ _ Z.ok e1;have ok:=Z.ok;rw[hm]at ok
 have pb:dB (E++ [q]).length<=5000000:=by
  have:∀i,i<=8->dB i<=5000000:=by decide
  exact this _ lB
 obtain⟨n1,nu⟩:=Ft p'.b 98 0 0 (dB (E++ [q]).length) q.ns [] no (J4 no q.ns (ids q.ns)) (fun _ _=>none) (l,lp) ⟨SG.nil,by omega,fun y hy=>Hy q.ns no (.inr hy)⟩ (by omega) (by rw[adg];omega) ok Z.l (by omega) (by omega) ev (fun x hx=>⟨(fo.w x hx).1,ace (fo.w x hx).2 hd⟩);have ca:=cS (fn:=L 98 .m6) [.tup (d8 p'.b),.dct []] [] (h:=[.dct (Pb C),G5 n,G5 0]) (i:=2) (by simp only[ar,PV.pure,aU];rfl) rfl rfl (cW 0) nu (by rw[PV.pure];exact bu _) (cW _);have Yr:w6 (L 98 .m6) [.tup (d8 p'.b),.dct [],.ref 2] [.dct (Pb C),G5 n,.lst [.int 0]]=.ok (.tup (l.map nd)) [.dct (Pb C),G5 n,G5 lp]:=ca
 have ix:∀t,d7 (.ref 0) (.str q.n) (.dct (Pb C)::t)=.ok (.tup [nms p'.ns,.tup (d8 p'.b)]) (.dct (Pb C)::t):=fun t=>by show(match dI (Pb C) (.inr q.n)with|some v=>Res.ok (aq (.dct (Pb C)::t) v) (.dct (Pb C)::t)|none=>_)=_;rw[DA,k1];rfl
 have mk:eP [.int 0] [.dct (Pb C),G5 n]=.ok (.ref 2) [.dct (Pb C),G5 n,.lst [.int 0]]:=rfl;have d0:∀o t,aq (.dct o::t) (.ref 0)=.ref 0:=fun _ _=>rfl;have s1:aJ 1 lW [some (bk (E++ [q])),none,none,none] []=.nx [some (bk (E++ [q])),some (.ref 0),none,none] [.dct []]:=rfl;have s2:aJ 2 (cN eP abb) [some (bk (E++ [q])),some (.ref 0),none,none] [.dct []]=.nx [some (bk (E++ [q])),some (.ref 0),some (.ref 1),none] [.dct [],G5 0]:=rfl;have lo':aN (z_ 3) (jy (F 98) (L 98)) ((E++ [q]).map pc) [some (bk (E++ [q])),some (.ref 0),some (.ref 1),none] [.dct [],G5 0]=.nx [some (bk (E++ [q])),some (.ref 0),some (.ref 1),y3] [.dct (Pb C),G5 n]:=lo;have it:∀g,kE (bk (E++ [q])) g=.ok ((E++ [q]).map pc) g:=fun _=>rfl
 have r2:F 99 .O7 [bk (E++ [q])]=match qH (F 98) (L 98) [some (bk (E++ [q])),none,none,none] []with
   |.nx _ _=>.ok .non
   |.rt v h=>gA v h
   |_=>.bad:=rfl
 rw[r2];unfold qH;rw[dQ,s1];dsimp only;rw[dQ,s2];dsimp only;have dn:∀g,aq g (nms p'.ns)=nms p'.ns:=fun g=>rfl;simp only[EX,uh,it,lo',gx,pZ,lA,d0,ix,dn,cT,mk,Yr];exact cD (by rw[PV.pure];exact bu l)
mutual
def Tn(B:List Pc):Nd->Bool
 |.loop _ _ b _=>RP B b
 |.choice _ y z=>RP B y&&RP B z
 |.use x _=>match look B x with
  |none=>false
  |some q=>M6 q.b
 |.j8 _ _ _ b=>RP B b
 |_=>true
def RP(B:List Pc):j7->Bool
 |.nil=>true
 |.cons n r=>Tn B n&&RP B r
end
def hun(B:List Pc):Hd->Bool
 |.nil=>true
 |.cons b _ h=>RP B b&&hun B h
theorem Ai{B:List Pc}{g:j7->Hd->Option (Nat×Nat)}{hd:Hd}{n:Nd}{c d:Nat}(h:K5 B g hd n=some (c,d)):1<=c:=by
 have up:∀{o:Option (Nat×Nat)},RM o=some (c,d)->1<=c:=fun{o} z=>by
  cases o with
  |none=>cases z
  |some a=>cases z;exact ahm _ _
 cases n with
 |loop x p b t=>exact up h
 |choice p y z=>exact up h
 |use x ps=>rw[K5]at h;cases l:look B x<;>rw[l]at h<;>first|cases h|exact up h
 |j8 x ps hs b=>rw[K5]at h;cases l:look B x<;>rw[l]at h<;>first|cases h|exact up h
 |body ps=>cases hd with
  |nil=>cases h;exact ab8 _
  |cons b i h'=>exact up h
 |text s=>cases h;exact ab8 _
 |place p s=>cases h;exact ab8 _
theorem oy{B:List Pc}{f:Nat}{b:j7}{hd:Hd}{d:Nat}(h:cX B f b hd=some (0,d)):d=0:=by
 cases f with
 |zero=>cases h
 |succ f=>
  cases b with
  |nil=>cases h;rfl
  |cons n r=>
   have h':cR (K5 B (cX B f) hd) (.cons n r)=some (0,d):=h;rw[cR]at h'
   cases e1:K5 B (cX B f) hd n with
   |none=>rw[e1]at h';cases h'
   |some x=>
    cases e2:cR (K5 B (cX B f) hd) r with
    |none=>rw[e1,e2]at h';cases h'
    |some y=>rw[e1,e2]at h';have:=Ai (c:=x.1) (d:=x.2) e1;have h2:=congrArg (fun o=>o.map (·.1)) h';simp only[agj,ag2]at h2;omega
theorem Es(g:Nd->Option (Nat×Nat)):∀(y z:j7)(c d:Nat),cR g (J6 y z)=some (c,d)->∃c1 d1 c2 d2,cR g y=some (c1,d1)/\cR g z=some (c2,d2)/\c=c1+c2/\d=max d1 d2
 |.nil,z,c,d,h=>⟨0,0,c,d,rfl,h,by omega,by omega⟩
 |.cons n r,z,c,d,h=>by
  rw[J6,cR]at h
  cases e1:g n with
  |none=>rw[e1]at h;cases h
  |some x=>
   cases e2:cR g (J6 r z)with
   |none=>rw[e1,e2]at h;cases h
   |some y=>
    rw[e1,e2]at h
    cases h
    obtain⟨c1,d1,c2,d2,a,b,e,f⟩:=Es g r z y.1 y.2 e2;exact⟨x.1+c1,max x.2 d1,c2,d2,by rw[cR,e1,a],b,by rw[e,afT],by rw[f,ae8]⟩
noncomputable def lw(c d:Nat)(dp:Int):Int:=if c=0 then 0 else dp - 1+d
def vH(t:Bool)(B:List Pc)(f:Nat):Prop:=∀(b:j7)(hd:Hd)(i dp:Int)(k c d:Nat),cX B f b (zH hd)=some (c,d)->hb b hd=true->RP B b=true->hun B hd=true->1<=dp->f<=k->
 F k .I9 [QZ t B,.int i,.tup (d8 b),hv hd,.int dp]=.ok (.tup [.int c,.int (lw c d dp)])
theorem xn(B:List Pc)(k:Nat)(ρ:Ev)(h:List PO):cY cV (jh (F k)) (dj [] ρ) (B.map pc) h=.ok ((B.map (·.n)).map PV.str) h:=by
 rw[ady]
 exact rR pc _ B fun p hp=>by show jh (F k) [some (pc p)] h=_;simp only[EX,jh];rfl
theorem ym{b c:j7}{hd:Hd}(h:hb b hd=true)(s:M6 b=true->M6 c=true):hb c hd=true:=by
 cases hd with
 |nil=>exact s h
 |cons b' i h'=>exact h
abbrev Qe(a b:Int):Int:=if b>a then b else a
abbrev Sv(i:Int)(b:j7)(h:Hd):PV:=.tup [.int i,.tup (d8 b),hv h]
abbrev Vr(t:Bool)(B:List Pc)(i:Int)(a:PV)(hd:Hd)(dp M Lo:Int)(x7 x8 x9 Qz Qp Qf:Option PV):Ev:=[some (QZ t B),some (.int i),some a,some (hv hd),some (.int dp),some (.int M),some (.int Lo),x7,x8,x9,Qz,Qp,Qf]
theorem jK(t:Bool)(B:List Pc)(k:Nat)(a nv v8:PV)(hd:Hd)(i dp M Lo c l i':Int)(b:j7)(h':Hd)(x9 Qz Qp Qf:Option PV)(r:List PV)(h:List PO)(e:F k .I9 [QZ t B,.int i',.tup (d8 b),hv h',.int (dp+1)]=.ok (.tup [.int c,.int l])):
  aN (z_ 10) (hU (F k)) (Sv i' b h'::r) (Vr t B i a hd dp M Lo (some nv) (some v8) x9 Qz Qp Qf) h=
  aN (z_ 10) (hU (F k)) r (Vr t B i a hd dp (M+c) (Qe Lo l) (some nv) (some v8) x9 (some (Sv i' b h')) (some (.int c)) (some (.int l))) h:=by
 have cc:∀h,bO (F k .I9) [QZ t B,.int i',.tup (d8 b),hv h',.int (dp+1)] h=.ok (.tup [.int c,.int l]) h:=fun h=>bp h (by simp[ar,sI,PV.pure,aU,qy]) e;refine cP rfl ?_;simp only[EX,hU,gS,iT,cc]
theorem uT(a b:Int):Qe a b=max a b:=WY a b
theorem uU(a b c:Int):Qe (Qe a b) c=Qe a (Qe b c):=by simp only[uT,ael]
theorem Z2(dp:Int)(d:Nat):dp - 1+((d+1:Nat):Int)=dp+d:=by omega
theorem Dc{c d e:Nat}{dp:Int}(h:c=0->d=0)(p:1<=dp):Qe (dp+e) (lw c d (dp+1))=dp+((max e d:Nat):Int):=by
 rw[uT,Vp,lw]
 split
 ·rw[h ‹_›,aeH (by omega),aeH (by omega)]
 ·rw[show dp+1 - 1+(d:Int)=dp+d by omega,ad9 dp,ad9 dp,ad9 dp,WL]
inductive CO(t:Bool)(B:List Pc)(k:Nat)(a:PV)(hd:Hd)(i dp:Int)(n:Nd)(M Lo:Int)(h:List PO)(R:SR):Prop where
 |mk (y8 y9 T3 TY TX:Option PV)(_:R=.nx (Vr t B i a hd dp M Lo (some (nd n)) y8 y9 T3 TY TX) h)
theorem Bg(t:Bool)(B:List Pc)(lB:B.length<=1000)(hB:∀q∈B,RP B q.b=true)(k f:Nat)(ok:vH t B f)(hk:f<=k)(a:PV)(hd:Hd)(i dp M Lo:Int)(n:Nd)(c d:Nat)(x8 x9 Qz Qp Qf:Option PV)(h:List PO)(e:K5 B (cX B f) (zH hd) n=some (c,d))(h1:hb (.cons n .nil) hd=true)(h2:Tn B n=true)(h3:hun B hd=true)(h4:1<=dp):
  CO t B k a hd i dp n (M+c) (Qe Lo (dp - 1+d)) h (dh (F k) (Vr t B i a hd dp M Lo (some (nd n)) x8 x9 Qz Qp Qf) h):=by
 have up:∀{o:Option (Nat×Nat)},RM o=some (c,d)->∃c' d',o=some (c',d')/\c=c'+1/\d=d'+1:=fun{o} z=>by
  cases o with
  |none=>cases z
  |some a=>cases z;exact⟨_,_,rfl,rfl,rfl⟩
 have Wz:∀b:j7,(O6 n=true->M6 b=true)->hb b hd=true:=fun b hh=>ym h1 fun z=>hh (by rw[M6,M6]at z;simpa using z);have one:∀(b:j7)(h':Hd)(i':Int)(c' d':Nat),cX B f b (zH h')=some (c',d')->hb b h'=true->RP B b=true->hun B h'=true->F k .I9 [QZ t B,.int i',.tup (d8 b),hv h',.int (dp+1)]=.ok (.tup [.int c',.int (lw c' d' (dp+1))]):=fun b h' i' c' d' z1 z2 z3 z4=>ok b h' i' (dp+1) k c' d' z1 z2 z3 z4 (by omega) hk
 have fin:∀(c' d':Nat)(b:j7)(h':Hd),cX B f b (zH h')=some (c',d')->c=c'+1->d=d'+1->M+1+(c':Int)=M+c/\Qe (Qe Lo dp) (lw c' d' (dp+1))=Qe Lo (dp - 1+d):=fun c' d' b h' z e1 e2=>by subst e1 e2;have:=Dc (c:=c') (d:=d') (e:=0) (fun y=>by subst y;exact oy z) h4;rw[ahe,ag6,aga]at this;exact⟨by clear this;omega,by rw[uU,this,Z2]⟩
 have R9:∀ ρ h,aN (z_ 10) (hU (F k)) [] ρ h=.nx ρ h:=fun ρ h=>by rw[aN]
 cases n with
 |text s=>cases e;exact⟨_,_,_,_,_,by
   have e1:dp - 1+((1:Nat):Int)=dp:=by omega
   rw[e1];simp only[EX,dh,gS,iT,R9];rfl⟩
 |place p s=>cases e;exact⟨_,_,_,_,_,by
   have e1:dp - 1+((1:Nat):Int)=dp:=by omega
   rw[e1];simp only[EX,dh,gS,iT,R9];rfl⟩
 |loop x p b s=>obtain⟨c',d',z,q1,q2⟩:=up e;rw[Tn]at h2;obtain⟨f1,f2⟩:=fin c' d' b hd z q1 q2;have st:=jK t B k a (nd (.loop x p b s)) (.lst [Sv i b hd]) hd i dp (M+1) (Qe Lo dp) c' (lw c' d' (dp+1)) i b hd x9 Qz Qp Qf [] h (one b hd i c' d' z (Wz b fun y=>by rw[O6]at y;exact y) h2 h3);rw[R9,f1,f2]at st;exact⟨_,_,_,_,_,by simp only[EX,dh,gS,iT,st];rfl⟩
 |choice p y z=>
  obtain⟨c',d',zz,q1,q2⟩:=up e;rw[Tn,ab5]at h2
  cases f with
  |zero=>cases zz
  |succ f=>
  obtain⟨c1,d1,c2,d2,r1,r2,r3,r4⟩:=Es _ y z c' d' zz;have ny:hb y hd=true:=Wz y fun w=>by rw[O6,ab5]at w;exact w.1
  have nz:hb z hd=true:=Wz z fun w=>by rw[O6,ab5]at w;exact w.2
  have s1:=jK t B k a (nd (.choice p y z)) (.lst [Sv i y hd,Sv i z hd]) hd i dp (M+1) (Qe Lo dp) c1 (lw c1 d1 (dp+1)) i y hd x9 Qz Qp Qf [Sv i z hd] h (one y hd i c1 d1 r1 ny h2.1 h3);have s2:=jK t B k a (nd (.choice p y z)) (.lst [Sv i y hd,Sv i z hd]) hd i dp (M+1+c1) (Qe (Qe Lo dp) (lw c1 d1 (dp+1))) c2 (lw c2 d2 (dp+1)) i z hd x9 (some (Sv i y hd)) (some (.int c1)) (some (.int (lw c1 d1 (dp+1)))) [] h (one z hd i c2 d2 r2 nz h2.2 h3);have st:=s1.trans s2;have g1:M+1+(c1:Int)+c2=M+c:=by omega
  have g2:Qe (Qe (Qe Lo dp) (lw c1 d1 (dp+1))) (lw c2 d2 (dp+1))=Qe Lo (dp - 1+d):=by
   have a1:c1=0->d1=0:=fun y=>by subst y;exact oy (B:=B) (f:=f+1) (hd:=zH hd) r1
   have a2:c2=0->d2=0:=fun y=>by subst y;exact oy (B:=B) (f:=f+1) (hd:=zH hd) r2
   have b1:=Dc (e:=0) a1 h4;rw[ahe,ag6,aga]at b1;rw[uU Lo,b1,uU Lo,Dc a2 h4,q2,r4,Z2]
  rw[R9,g1,g2]at st;exact⟨_,_,_,_,_,by simp only[EX,dh,gS,iT,st];rfl⟩
 |body ps=>
  cases hd with
  |nil=>simp[hb,M6,O6]at h1
  |cons b i' h'=>
   obtain⟨c',d',z,q1,q2⟩:=up e;rw[hun,ab5]at h3;obtain⟨f1,f2⟩:=fin c' d' b h' z q1 q2;have st:=jK t B k a (nd (.body ps)) (.lst [Sv i' b h']) (.cons b i' h') i dp (M+1) (Qe Lo dp) c' (lw c' d' (dp+1)) i' b h' x9 Qz Qp Qf [] h (one b h' i' c' d' z h1 h3.1 h3.2);rw[R9,f1,f2]at st;have e0:∀h,d7 (hv (.cons b i' h')) (.int 0) h=.ok (.tup (d8 b)) h:=fun h=>by rw[hv];rfl
   have e1:∀h,d7 (hv (.cons b i' h')) (.int 1) h=.ok (.int i') h:=fun h=>by rw[hv];rfl
   have e2:∀h,d7 (hv (.cons b i' h')) (.int 2) h=.ok (hv h') h:=fun h=>by rw[hv];show Res.ok (aq h (hv h')) h=_;rw[iT]
   exact⟨_,_,_,_,_,by simp only[EX,dh,gS,iT,e0,e1,e2,st];rfl⟩
 |use x ps=>
  rw[K5]at e;rw[Tn]at h2
  cases l:look B x with
  |none=>rw[l]at e;cases e
  |some q=>
   rw[l]at e h2;obtain⟨c',d',z,q1,q2⟩:=up e;obtain⟨q',ax,hq,lk,ia,ll⟩:=qC t B lB x (by rw[<- lJ,l];rfl);rw[l]at lk
   cases lk
   have cm:=xn B k;obtain⟨f1,f2⟩:=fin c' d' q.b .nil z q1 q2;have st:=jK t B k a (nd (.use x ps)) (.lst [Sv ax q.b .nil]) hd i dp (M+1) (Qe Lo dp) c' (lw c' d' (dp+1)) ax q.b .nil (some (.int ax)) Qz Qp Qf [] h (one q.b .nil ax c' d' z h2 (hB q (acj hq)) rfl);rw[R9,f1,f2]at st;have hn:hv .nil=.non:=rfl;rw[Sv,hn]at st;exact⟨_,_,_,_,_,by simp only[EX,dh,gS,vz,iT,cm,ll,ia,vy t hq,zJ,st];rfl⟩
 |j8 x ps hs b=>
  rw[K5]at e;rw[Tn]at h2
  cases l:look B x with
  |none=>rw[l]at e;cases e
  |some q=>
   rw[l]at e;obtain⟨c',d',z,q1,q2⟩:=up e;obtain⟨q',ax,hq,lk,ia,ll⟩:=qC t B lB x (by rw[<- lJ,l];rfl);rw[l]at lk
   cases lk
   have cm:=xn B k;have z':cX B f q.b (zH (.cons b i hd))=some (c',d'):=z;obtain⟨f1,f2⟩:=fin c' d' q.b (.cons b i hd) z' q1 q2;have st:=jK t B k a (nd (.j8 x ps hs b)) (.lst [Sv ax q.b (.cons b i hd)]) hd i dp (M+1) (Qe Lo dp) c' (lw c' d' (dp+1)) ax q.b (.cons b i hd) (some (.int ax)) Qz Qp Qf [] h (one q.b (.cons b i hd) ax c' d' z' (Wz b fun y=>by rw[O6]at y;exact y) (hB q (acj hq)) (by rw[hun,h2,h3];rfl));rw[R9,f1,f2]at st;have hn:hv (.cons b i hd)=.tup [.tup (d8 b),.int i,hv hd]:=by rw[hv]
   rw[Sv,hn]at st;have dt:∀h,aq h (.tup [.tup (d8 b),.int i,hv hd])=.tup [.tup (d8 b),.int i,hv hd]:=fun h=>rfl;exact⟨_,_,_,_,_,by simp only[EX,dh,gS,vz,iT,cm,ll,ia,vy t hq,zJ,dt,st];rfl⟩
theorem sG(t:Bool)(B:List Pc)(lB:B.length<=1000)(hB:∀q∈B,RP B q.b=true)(k f:Nat)(ok:vH t B f)(hk:f<=k)(a:PV)(hd:Hd)(i dp:Int)(h3:hun B hd=true)(h4:1<=dp)(h:List PO):∀(b:j7)(M Lo:Int)(c d:Nat)(x7 x8 x9 Qz Qp Qf:Option PV),cX B (f+1) b (zH hd)=some (c,d)->hb b hd=true->RP B b=true->
  ∃y7 y8 y9 T3 TY TX,aN (z_ 7) (dh (F k)) (d8 b) (Vr t B i a hd dp M Lo x7 x8 x9 Qz Qp Qf) h=.nx (Vr t B i a hd dp (M+c) (if c=0 then Lo else Qe Lo (dp - 1+d)) y7 y8 y9 T3 TY TX) h
 |.nil,M,Lo,c,d,x7,x8,x9,Qz,Qp,Qf,e,_,_=>by
  cases e
  exact⟨_,_,_,_,_,_,by rw[d8,aN];simp;exact⟨rfl,rfl,rfl,rfl,rfl,rfl⟩⟩
 |.cons n r,M,Lo,c,d,x7,x8,x9,Qz,Qp,Qf,e,h1,h2=>by
  have e':cR (K5 B (cX B f) (zH hd)) (.cons n r)=some (c,d):=e;rw[RP,ab5]at h2;rw[cR]at e'
  cases e1:K5 B (cX B f) (zH hd) n with
  |none=>rw[e1]at e';cases e'
  |some p=>
   cases e2:cR (K5 B (cX B f) (zH hd)) r with
   |none=>rw[e1,e2]at e';cases e'
   |some q=>
    rw[e1,e2]at e'
    cases e'
    have g2:cX B (f+1) r (zH hd)=some (q.1,q.2):=e2;have p1:=Ai (c:=p.1) (d:=p.2) e1;have q0:q.1=0->q.2=0:=fun z=>by rw[z]at g2;exact oy g2
    obtain⟨y8,y9,T3,TY,TX,one⟩:=Bg t B lB hB k f ok hk a hd i dp M Lo n p.1 p.2 x8 x9 Qz Qp Qf h e1 (ym h1 fun z=>by rw[M6,ab5]at z;rw[M6,M6,z.1];rfl) h2.1 h3 h4;obtain⟨z7,z8,z9,z10,z11,z12,rest⟩:=sG t B lB hB k f ok hk a hd i dp h3 h4 h r (M+p.1) (Qe Lo (dp - 1+p.2)) q.1 q.2 (some (nd n)) y8 y9 T3 TY TX g2 (ym h1 fun z=>by rw[M6,ab5]at z;exact z.2) h2.2;refine⟨z7,z8,z9,z10,z11,z12,?_⟩;rw[d8];refine(cP rfl one).trans (rest.trans ?_);have f1:M+(p.1:Int)+q.1=M+((p.1+q.1:Nat):Int):=by omega
    have f2:(if q.1=0 then Qe Lo (dp - 1+p.2)else Qe (Qe Lo (dp - 1+p.2)) (dp - 1+q.2))=(if p.1+q.1=0 then Lo else Qe Lo (dp - 1+((max p.2 q.2:Nat):Int))):=by
     rw[if_neg (by omega:¬ p.1+q.1=0)]
     split
     ·rename_i z;rw[q0 z,Nat.max_eq_left (acu _)]
     ·rw[uU,uT (dp - 1+p.2),Vp,ad9 (dp - 1),ad9 (dp - 1),ad9 (dp - 1),WL]
    rw[f1,f2]
theorem xm(t:Bool)(B:List Pc)(lB:B.length<=1000)(hB:∀q∈B,RP B q.b=true):∀f,vH t B f
 |0=>fun b hd i dp k c d e=>by cases e
 |f+1=>fun b hd i dp k c d e h1 h2 h3 h4 hk=>by
  obtain⟨k',rfl⟩:∃k',k=k'+1:=⟨k - 1,by omega⟩
  obtain⟨y7,y8,y9,T3,TY,TX,lp⟩:=sG t B lB hB k' f (xm t B lB hB f) (by omega) (.tup (d8 b)) hd i dp h3 h4 [] b 0 0 c d none none none none none none e h1 h2
  have r2:F (k'+1) .I9 [QZ t B,.int i,.tup (d8 b),hv hd,.int dp]=match mB (F k') [some (QZ t B),some (.int i),some (.tup (d8 b)),some (hv hd),some (.int dp),none,none,none,none,none,none,none,none] []with
   |.nx _ _=>.ok .non
   |.rt v h=>gA v h
   |_=>.bad:=rfl
  have ff:(if c=0 then 0 else Qe 0 (dp - 1+d))=lw c d dp:=by
   unfold lw Qe
   split
   ·rfl
   ·split<;>omega
  rw[ff,agg]at lp;rw[r2];simp only[EX,mB,lp];rfl
mutual
theorem Ii{B E:List Pc}(pre:∀x q,look E x=some q->look B x=some q/\(q.m=none->M6 q.b=true))(m:Option Int)(w:List Int)(ns:List (List Nat)):∀n:Nd,Pk E m ns n=false->QX E m w ns n=none->Tn B n=true
 |.loop x _ b _,_,h=>by rw[QX]at h;rw[Tn];exact oH pre m _ _ _ b h
 |.choice _ y z,_,h=>by rw[QX,ac1]at h;rw[Tn,oH pre m _ _ _ y h.1,oH pre m _ _ _ z h.2];rfl
 |.j8 _ _ _ b,_,h=>by rw[QX]at h;rw[Tn];exact oH pre m _ _ _ b h
 |.use x ps,e,_=>by
  rw[Pk,adt]at e
  cases l:look E x with
  |none=>rw[l]at e;exact absurd e.2 (by simp)
  |some q=>
   rw[l]at e;obtain⟨p1,p2⟩:=pre x q l;have e2:Ri ps q none=false:=e.2
   have qm:q.m=none:=by
    rw[Ri,adt]at e2
    cases z:q.m with
    |none=>rfl
    |some i=>rw[z]at e2;exact absurd e2.2 (by simp)
   rw[Tn,p1];exact p2 qm
 |.body _,_,_=>rfl
 |.text _,_,_=>rfl
 |.place _ _,_,_=>rfl
theorem oH{B E:List Pc}(pre:∀x q,look E x=some q->look B x=some q/\(q.m=none->M6 q.b=true))(m:Option Int)(w:List Int)(k:Nat)(ns:List (List Nat)):∀b:j7,P_ E m w k ns b=none->RP B b=true
 |.nil,_=>rfl
 |.cons n r,h=>by
  rw[P_]at h
  cases e:Pk E m ns n with
  |true=>rw[e,if_pos rfl]at h;cases h
  |false=>rw[e,if_neg (by decide),ac1]at h;rw[RP,Ii pre m _ _ n e h.1,oH pre m _ _ _ r h.2];rfl
end
theorem Aj(len:Nat):∀(r E:List Pc),Rk len E r=none->(∀q∈E,q.m=none->M6 q.b=true)->∀q∈r,RP (E++r) q.b=true/\(q.m=none->M6 q.b=true)
 |[],_,_,_,q,hq=>by cases hq
 |p::r,E,hf,hE,q,hq=>by
  rw[Rk]at hf
  split at hf
  ·cases hf
  ·rw[ac1]at hf;have np:p.m=none->M6 p.b=true:=fun z=>by have h1:=hf.1;rw[z]at h1;exact oV E _ _ _ p.b h1
   rcases acn.mp hq with z|z
   ·subst z;refine⟨oH (fun x q' hx=>⟨?_,hE q' (adG hx)⟩) _ _ _ _ _ hf.1,np⟩;unfold look at hx |-;rw[adA,hx];rfl
   ·have:=Aj len r (E++ [p]) hf.2 (fun q' h'=>by
     rcases acz.mp h' with y|y
     ·exact hE q' y
     ·cases acp.mp y;exact np) q z
    rw[acG]at this;exact this
structure GB(D:List Pc)(q:Pc)(c d:Nat):Prop where
 l:D.length+1<=8
 w:∀p∈D++ [q],wC p=true
 r:∀p∈D++ [q],dS p.b<=4/\p7 p.b<=20000
 ok:QJ [] (D++ [q])=true
 nd:((D++ [q]).map (·.n)).Nodup
 n4:∀p∈D++ [q],p.ns.length<=4/\hO p.m
 m:q.m=none
 x:cX (D++ [q]) 41 q.b .nil=some (c,d)
section
variable{D:List Pc}{q:Pc}{c d:Nat}
theorem GB.f(H:GB D q c d):Rk (D.length+1) [] (D++ [q])=none:=DL _ _ [] H.ok (by simp) fun C p e=>by have:q=p:=afz.mp (aeS e rfl);rw[<- this];exact H.m
theorem GB.num(H:GB D q c d):(Om (bS [] (D++ [q])) q.n).1=c/\(Om (bS [] (D++ [q])) q.n).2.1=d:=by
 have hS:=HO _ (D++ [q]) [] [] rfl H.f;have nS:∀x,nn (Om (bS [] (D++ [q])) x):=Dk (HN _ [] fun y hy=>by cases hy)
 have hL:∀x p,look (D++ [q]) x=some p->Om (bS [] (D++ [q])) x=Ou (Om (bS [] (D++ [q]))) (0,0,0,0) p.b:=fun x p hx=>by have e:=agm hx;rw[<- aec e];exact hS p (adG hx)
 have vr:=(HH (D++ [q]) _ nS hL 41 q.b .nil c d H.x).a (.inr rfl);rw[<- hS q (by simp)]at vr;exact⟨vr.1.symm,vr.2.symm⟩
theorem GB.many(H:GB D q c d)(k:Nat)(hk:46<=k):F (k+1) .I6 [bk (D++ [q])]=.ok (.bl (decide (c>400)||decide (d>24))):=by
 obtain⟨k',rfl⟩:∃k',k=k'+1:=⟨k - 1,by omega⟩
 obtain⟨n1,n2⟩:=H.num;have be:=(Ha k' D q (by omega) H.l H.w (fun p hp=>⟨ace (H.r p hp).1 (by decide),ace (H.r p hp).2 (by decide)⟩)).2 H.f;rw[n1,n2]at be;have e1:decide ((c:Int)>400)=decide (c>400):=by by_cases z:c>400<;>simp[z]<;>omega
 have e2:decide ((d:Int)>24)=decide (d>24):=by by_cases z:d>24<;>simp[z]<;>omega
 rw[e1,e2]at be
 have r2:F (k'+1+1) .I6 [bk (D++ [q])]=match jm (F (k'+1)) (X_ (k'+1)) [some (bk (D++ [q]))] []with
   |.nx _ _=>.ok .non
   |.rt v h=>gA v h
   |_=>.bad:=rfl
 have db:aq [] (bk (D++ [q]))=bk (D++ [q]):=rfl;rw[r2];unfold jm;rw[dQ]
 cases e:decide (c>400)||decide (d>24)with
 |true=>
  rw[e,if_pos rfl]at be
  have se:dq (lX (X_ (k'+1) .C_) aaq) [some (bk (D++ [q]))] []=.exc (.cls 1) []:=by
   simp only[EX,db,be]
   try rfl
  unfold vV;rw[se];rfl
 |false=>
  rw[e,if_neg (by decide)]at be
  have se:dq (lX (X_ (k'+1) .C_) aaq) [some (bk (D++ [q]))] []=.nx [some (bk (D++ [q]))] []:=by
   simp only[EX,db,be]
   try rfl
  unfold vV;rw[se];rfl
theorem MK{m:Option Int}(h:hO m):∀i,m=some i->i<=10:=fun i e=>by subst e;have:=h.2;omega
theorem GB.bo(H:GB D q c d):BO (D++ [q]):=⟨fun x p hx=>by obtain⟨m,_⟩:=Dj hx;have w:=H.w p m;unfold wC at w;rw[ab5,ab5,ab5,ab5]at w;exact⟨(qv _ [] H.ok p m).1,w.2.2.2.1,ace (H.n4 p m).1 (by decide),MK (H.n4 p m).2⟩⟩
theorem Er(B:List Pc):∀(f:Nat)(b:j7)(hd:Hd)(c d g:Nat),cX B f b hd=some (c,d)->d<=g->cX B (g+1) b hd=some (c,d)
 |0,_,_,_,_,_,h,_=>by cases h
 |f+1,b,hd,c,d,g,h,hg=>by
  have up:∀(x:j7)(h2:Hd)(a e:Nat),RM (cX B f x h2)=some (a,e)->e<=g->RM (cX B g x h2)=some (a,e):=fun x h2 a e hu he=>by
   cases z:cX B f x h2 with
   |none=>rw[z]at hu;cases hu
   |some r=>
    rw[z]at hu;obtain⟨r1,r2⟩:=r;have T6:some (r1+1,r2+1)=some (a,e):=hu;injection T6 with T6
    injection T6 with e1 e2
    obtain⟨g',rfl⟩:∃g',g=g'+1:=⟨g - 1,by omega⟩
    rw[Er B f x h2 r1 r2 g' z (by omega)];exact hu
  have node:∀(n:Nd)(a e:Nat),K5 B (cX B f) hd n=some (a,e)->e<=g->K5 B (cX B g) hd n=some (a,e):=fun n a e hn he=>by
   cases n with
   |loop x p c t=>exact up _ _ _ _ hn he
   |choice p y z=>exact up _ _ _ _ hn he
   |use x ps=>
    rw[K5]at hn |-
    cases z:look B x with
    |none=>rw[z]at hn;cases hn
    |some q=>rw[z]at hn;exact up _ _ _ _ hn he
   |j8 x ps hs c=>
    rw[K5]at hn |-
    cases z:look B x with
    |none=>rw[z]at hn;cases hn
    |some q=>rw[z]at hn;exact up _ _ _ _ hn he
   |body ps=>
    cases hd with
    |nil=>exact hn
    |cons b2 i h2=>exact up _ _ _ _ hn he
   |text s=>exact hn
   |place p s=>exact hn
  have row:∀(b:j7)(c d:Nat),cR (K5 B (cX B f) hd) b=some (c,d)->d<=g->cR (K5 B (cX B g) hd) b=some (c,d):=fun b=>by
   intro c d
   induction b using j7.rec (motive_1:=fun _=>True) generalizing c d with
   |text=>trivial
   |place=>trivial
   |loop=>trivial
   |choice=>trivial
   |use=>trivial
   |j8=>trivial
   |body=>trivial
   |nil=>exact fun h _=>h
   |cons n r _ ih=>
    intro h hg;rw[cR]at h |-
    cases e1:K5 B (cX B f) hd n with
    |none=>rw[e1]at h;cases h
    |some x=>
     cases e2:cR (K5 B (cX B f) hd) r with
     |none=>rw[e1,e2]at h;cases h
     |some y=>
      rw[e1,e2]at h;obtain⟨x1,x2⟩:=x;obtain⟨y1,y2⟩:=y;have h':some (x1+y1,max x2 y2)=some (c,d):=h;injection h' with h'
      injection h' with h1 h2
      rw[node n x1 x2 e1 (by omega),ih y1 y2 e2 (by omega)];exact h
  exact row b c d h hg
theorem GB.joined(H:GB D q c d)(K:Nat)(hK:78<=K)(h1:c<=400)(h2:d<=24):∃l Qg,J (D++ [q]) 25 0 q.b (J4 no q.ns (ids q.ns)) .nil=some (l,Qg)/\FO l c d/\F (K+1) .joined [bk (D++ [q])]=.ok (.tup (l.map Qt.nd)):=by have w:=H.w q (by simp);unfold wC at w;rw[ab5,ab5,ab5,ab5]at w;have o:=(qv _ [] H.ok q (by simp)).1;rw[H.m]at o;exact AY 25 K D q (by omega) (by omega) H.bo H.nd (by have:=H.l;omega) w.2.2.2.1 w.2.1 (ace (H.n4 q (by simp)).1 (by decide)) o c d (Er _ _ _ _ _ _ 24 H.x h2) (by omega)
theorem GB.count(H:GB D q c d)(k:Nat)(hk:41<=k)(i:Int)(g:List PO):bO (F k .I9) [bk (D++ [q]),.int i,.tup (d8 q.b),.non,.int 1] g=.ok (.tup [.int c,.int d]) g:=by
 have hu:=Aj _ (D++ [q]) [] H.f (fun q hq=>by cases hq);have l:=H.l;have e:=xm true (D++ [q]) (by rw[acs,acN];omega) (fun p hp=>(hu p hp).1) 41 q.b .nil i 1 k c d H.x ((hu q (by simp)).2 H.m) (hu q (by simp)).1 rfl (by decide) hk
 have z:lw c d 1=d:=by
  unfold lw
  split
  ·rename_i c0;have:=H.x;rw[c0]at this;rw[oy this];rfl
  ·omega
 rw[z]at e;exact bp g (by rw[ar,fF];simp[ar,PV.pure,aU]) e
end
abbrev YK:List Nat:=[112,108,97,105,110]
noncomputable def uY(x n0:List Nat):Nd:=.loop x ⟨n0,[]⟩ (jc (.place ⟨x,[]⟩ YK)) []
noncomputable def tc(a:Nd):Nat->j7
 |0=>.nil
 |k+1=>.cons a (tc a k)
noncomputable def FJ(x3 x4 n0:List Nat)(b:j7):j7:=jc (.loop x3 ⟨n0,[]⟩ (jc (.loop x4 ⟨x3,[]⟩ b [44,32])) [])
theorem rO(a:Nd):∀k,d8 (tc a k)=List.replicate k (nd a)
 |0=>by rw[tc,d8];rfl
 |k+1=>by rw[tc,d8,rO a k,ac3]
structure MR(B:List Pc)(P:List Pe)(m:Option Int)(ns:List (List Nat))(b:j7)(dm cm:Nat):Prop where
 ok:u_ (P,m,ns) b=true
 w:wS b=true
 d:dS b<=dm
 c:p7 b<=cm
 x:∀f hd,dm+1<=f->∃c' d',cX B f b hd=some (c',d')/\c'<=cm
theorem YJ{x:List Nat}(h:sg x=true):wp ⟨x,[]⟩=true:=by unfold wp;rw[h];rfl
theorem Jd(B:List Pc)(P:List Pe)(m:Option Int)(ns:List (List Nat))(D:Nat):MR B P m ns .nil D 0:=⟨rfl,rfl,acu _,ab8 _,fun f hd h=>by
 obtain⟨f',rfl⟩:∃f',f=f'+1:=⟨f - 1,by omega⟩
 exact⟨0,0,rfl,ab8 _⟩⟩
theorem FH{B:List Pc}{P:List Pe}{m:Option Int}{ns:List (List Nat)}{D c1 c2:Nat}{a:Nd}{r:j7}(h:MR B P m ns (jc a) D c1)(t:MR B P m ns r D c2):MR B P m ns (.cons a r) D (c1+c2):=by
 have h1:=h.ok;have h2:=h.w;have h3:=h.d;have h4:=h.c;rw[u_,ab5]at h1;rw[wS,ab5]at h2;rw[dS]at h3;rw[p7,p7]at h4;have t3:=t.d;have t4:=t.c;refine⟨by rw[u_,h1.1,t.ok];rfl,by rw[wS,h2.1,t.w];rfl,by rw[dS];omega,by rw[p7];omega,fun f hd hf=>?_⟩;obtain⟨c',d',e,l⟩:=h.x f hd hf;obtain⟨c2',d2',e2,l2⟩:=t.x f hd hf;obtain⟨f',rfl⟩:∃f',f=f'+1:=⟨f - 1,by omega⟩
 exact⟨_,_,vx r e2 (jc a) c' d' e,by omega⟩
theorem uX{B:List Pc}{P:List Pe}{m:Option Int}{ns:List (List Nat)}{D c:Nat}{x n0 t:List Nat}{b:j7}(hn:n0∈ns)(s0:sg n0=true)(sx:sg x=true)(st:sg t=true)(h:MR B P m (ns++ [x]) b D c):MR B P m ns (jc (.loop x ⟨n0,[]⟩ b t)) (D+1) (c+1):=by
 refine⟨?_,?_,?_,?_,fun f hd hf=>?_⟩
 ·rw[u_,okN,h.ok];simp[Qq,u_,hn]
 ·rw[wS,wN,sx,YJ s0,h.w,st];rfl
 ·have:=h.d;rw[dS,dN,dS];omega
 ·have:=h.c;rw[p7,K_,p7];omega
 ·obtain⟨f',rfl⟩:∃f',f=f'+1:=⟨f - 1,by omega⟩
  obtain⟨c',d',e,l⟩:=h.x f' hd (by omega);exact⟨c'+1+0,max (d'+1) 0,by show cR _ _=_;rw[cR,K5,e];rfl,by omega⟩
theorem De{B:List Pc}{P:List Pe}{m:Option Int}{ns:List (List Nat)}{x n0:List Nat}(hn:n0∈ns)(s0:sg n0=true)(sx:sg x=true):MR B P m ns (jc (uY x n0)) 1 2:=by
 refine uX hn s0 sx rfl ⟨?_,?_,ab8 _,ab8 _,fun f hd hf=>?_⟩
 ·rw[u_,okN];simp[Qq,u_]
 ·rw[wS,wN,YJ sx];rfl
 ·obtain⟨f',rfl⟩:∃f',f=f'+1:=⟨f - 1,by omega⟩
  exact⟨1,1,rfl,ab8 _⟩
theorem yg{B:List Pc}{P:List Pe}{m:Option Int}{ns:List (List Nat)}{a:Nd}(h:MR B P m ns (jc a) 1 2):∀k,MR B P m ns (tc a k) 1 (2 * k)
 |0=>Jd ..
 |k+1=>by have:=FH h (yg h k);rw[show 2 * (k+1)=2+2 * k by omega];exact this
theorem MR.le{B:List Pc}{P:List Pe}{m:Option Int}{ns:List (List Nat)}{b:j7}{D c D' c':Nat}(h:MR B P m ns b D c)(l:D<=D')(l2:c<=c'):MR B P m ns b D' c':=⟨h.ok,h.w,ace h.d l,ace h.c l2,fun f hd hf=>by obtain⟨a,b,e,z⟩:=h.x f hd (by omega);exact⟨a,b,e,ace z l2⟩⟩
theorem GT(l:List PV)(x:PV):cut (l++ [x]) none (some (-1))=l:=by unfold cut HT.M4;simp;rw[show(-1+((l.length:Int)+1)).toNat=l.length by omega];simp
theorem wc(o:PV):∀k:Nat,(List.replicate k [o]).flatten=List.replicate k o
 |0=>rfl
 |k+1=>by rw[ac3,adR,wc o k,ac3];rfl
theorem Di(D:List Pc)(q:Pc)(ms:List (List Nat))(ml:ms.length=12)(hm:N5 ms=true)(v:Int)(lD:D.length<=100)(ct:p7 q.b<=10000)(wq:N5 q.ns=true):
  (F 99 .G_ [bk (D++ [q]),Ob ms,.int v]=.ok (bk (D++ [q])))\/∃n0 r b,q.ns=n0::r/\(∀B P m,MR B P m q.ns b 3 262)/\F 99 .G_ [bk (D++ [q]),Ob ms,.int v]=.ok (bk (D++ [⟨q.n,q.ns,q.m,J6 q.b b⟩])):=by
 have r2:F 99 .G_ [bk (D++ [q]),Ob ms,.int v]=match fT (F 98) [some (bk (D++ [q])),some (Ob ms),some (.int v),none,none,none] []with
   |.nx _ _=>.ok .non
   |.rt v h=>gA v h
   |_=>.bad:=rfl
 have dM:∀h,aq h (Ob ms)=Ob ms:=fun h=>rfl;have n1:∀g,QC (.int (v % 8)) (.int 3) g=.ok (.bl (!decide (v % 8=3))) g:=fun g=>jt (v % 8) 3 g;have e2:=zv wq
 have ret:v % 8≠3\/q.ns= []->F 99 .G_ [bk (D++ [q]),Ob ms,.int v]=.ok (bk (D++ [q])):=fun h=>by
  rw[r2]
  by_cases h8:v % 8=3
  ·have e3:q.ns.isEmpty=true:=by rw[(h.resolve_left fun z=>z h8)];rfl
   simp only[EY,fT,gx,pZ,lA,uh,n1,h8,e2,e3];exact cD (fF _)
  ·simp only[EY,fT,gx,pZ,lA,uh,n1,h8];exact cD (fF _)
 by_cases h8:v % 8=3
 ·by_cases hz:q.ns= []
  ·exact .inl (ret (.inr hz))
  ·obtain⟨n0,r,hq⟩:=List.exists_cons_of_ne_nil hz;refine .inr ?_;have i0:=adS (v / 8) (by decide:(12:Int)≠0);have i1:=adq (v / 8) (by decide:(0:Int)<12);obtain⟨x,sx,ex,_⟩:=oX ml hm (v / 8 % 12) i0 i1;obtain⟨x3,s3,ex3,_⟩:=oX ml hm 3 (by decide) (by decide);obtain⟨x4,s4,ex4,_⟩:=oX ml hm 4 (by decide) (by decide);have s0:sg n0=true:=aco.mp wq n0 (by rw[hq];simp);have k0:=adS (v / 96) (by decide:(130:Int)≠0);have k1:=adq (v / 96) (by decide:(0:Int)<130);obtain⟨k,ek⟩:∃k:Nat,v / 96 % 130=(k:Int):=⟨(v / 96 % 130).toNat,by omega⟩
   have kl:k<130:=by omega
   have on:PV.tup [.str tL,.str x,.tup [.str n0],.tup [.tup [.str tP,.tup [.str x],.str YK]],.str []]=nd (uY x n0):=by unfold uY;rw[nd,qf,nd];rfl
   have mu:∀o g,rG (.tup [o]) (.int (k:Int)) g=.ok (.tup (List.replicate k o)) g:=fun o g=>by rw[Ja,if_pos ⟨eT.mpr ⟨by omega,by omega⟩,ace (by simp;omega:_<=1000) (by decide)⟩];unfold sQ;rw[ada,wc]
   have e3:q.ns.isEmpty=false:=by rw[hq];rfl
   have Zb:∀g,jq (nms q.ns) none (some 1) g=.ok (.tup [.str n0]) g:=fun g=>by rw[hq];exact mM _ 1 g
   have Y_:∀g,jq (pc q) none (some 4) g=.ok (.tup [.str tI,.str q.n,nms q.ns,H7 q.m]) g:=fun g=>by unfold pc;exact mM _ 4 g
   have Y9:∀g,jq (bk (D++ [q])) none (some (-1)) g=.ok (bk D) g:=fun g=>by unfold bk;rw[yO,aci];exact congrArg (fun z=>Res.ok (PV.tup z) g) (GT _ _)
   have fin:∀(b:j7),p7 b<=1000->∀g,(aI (.tup (d8 q.b)) (.tup (d8 b)) g=.ok (.tup (d8 (J6 q.b b))) g):=fun b hb g=>by rw[mU];exact fK _ _ g (by have:=fC b;have:=fC q.b;exact ace (by omega:_<=1000000) (by decide))
   have a4:∀b g,aI (.tup [.str tI,.str q.n,nms q.ns,H7 q.m]) (.tup [.tup (d8 b)]) g=.ok (pc ⟨q.n,q.ns,q.m,b⟩) g:=fun b g=>fK _ _ g (show 5<=sizeLine by decide)
   have ab:∀b g,aI (bk D) (.tup [pc ⟨q.n,q.ns,q.m,b⟩]) g=.ok (bk (D++ [⟨q.n,q.ns,q.m,b⟩])) g:=fun b g=>by unfold bk;rw[fK _ _ g (by rw[ab9];exact ace (by simp;omega:_<=1000) (by decide)),aci];rfl
   have md:∀g,aq g (H7 q.m)=H7 q.m:=fun g=>lH ..;have U6:∀(h:List (List Nat))(g:List PO),aq g (nms h)=nms h:=fun _ _=>rfl;have w0:=fun B P m=>yg (De (B:=B) (P:=P) (m:=m) (ns:=q.ns) (by rw[hq];simp) s0 sx) k
   by_cases ZS:v / 16 % 2=1
   ·have w2:=fun B P m=>uX (t:=[]) (by rw[hq];simp) s0 s3 rfl (uX (t:=[44,32]) (n0:=x3) (by simp) s3 s4 (by decide) (yg (De (B:=B) (P:=P) (m:=m) (ns:=q.ns++ [x3]++[x4]) (x:=x) (n0:=n0) (by rw[hq];simp) s0 sx) k));refine⟨n0,r,FJ x3 x4 n0 (tc (uY x n0) k),hq,fun B P m=>(w2 B P m).le (by decide) (by omega),?_⟩;have fi:=fin (FJ x3 x4 n0 (tc (uY x n0) k)) (ace (w2 [] [] none).c (by omega))
    have tw:d8 (FJ x3 x4 n0 (tc (uY x n0) k))=[.tup [.str tL,.str x3,.tup [.str n0],.tup [.tup [.str tL,.str x4,.tup [.str x3],.tup (List.replicate k (nd (uY x n0))),.str [44,32]]],.str []]]:=by unfold FJ;rw[qf,nd,qf,nd,rO];rfl
    rw[tw]at fi;have Ym:decide (v / 16 % 2=1)=true:=decide_eq_true ZS;rw[r2];simp only[EY,fT,gx,pZ,lA,uh,dM,n1,h8,e2,e3,ex,ex3,ex4,Zb,cT,on,ek,mu,Ym,Y9,Y_,fi,a4,ab];exact cD (fF _)
   ·refine⟨n0,r,tc (uY x n0) k,hq,fun B P m=>(w0 B P m).le (by decide) (by omega),?_⟩;have fi:=fin (tc (uY x n0) k) (ace (w0 [] [] none).c (by omega));rw[rO]at fi;have Ym:decide (v / 16 % 2=1)=false:=decide_eq_false ZS;rw[r2];simp only[EY,fT,gx,pZ,lA,uh,dM,n1,h8,e2,e3,ex,Zb,cT,on,ek,mu,Ym,Y9,Y_,fi,a4,ab];exact cD (fF _)
 ·exact .inl (ret (.inl h8))
theorem qu:∀(E F:List Pc)(q:Pc)(R:List Pc),QJ F (E++q::R)=true->u_ ((F++E).map O5,q.m,q.ns) q.b=true/\dup q.ns=false
 |[],F,q,R,h=>by rw[acC,QJ,ab5,ab5,ab5]at h;rw[acH];exact⟨h.2.2.1,by simpa using h.2.1⟩
 |p::E,F,q,R,h=>by rw[acB,QJ,ab5,ab5,ab5]at h;have:=qu E (F++ [p]) q R h.2.2.2;rw[acG]at this;exact this
theorem qt:∀(E F R:List Pc),QJ F (E++R)=true->QJ F E=true
 |[],_,_,_=>rfl
 |p::E,F,R,h=>by rw[acB,QJ,ab5,ab5,ab5]at h;rw[QJ,h.1,h.2.1,h.2.2.1,qt E (F++ [p]) R h.2.2.2];rfl
theorem wQ{E:List Pc}(R:List Pc){x:List Nat}{p:Pc}(h:look E x=some p):look (E++R) x=some p:=by unfold look at*;rw[adA,h];rfl
theorem zS{E R1 R2:List Pc}(h:QJ [] E=true):EX (E++R1) (E++R2) (E.map O5):=⟨fun x l m ok=>by obtain⟨p,a,b,c⟩:=lG ok;have:=(qv E [] h p (Dj a).1).1;rw[acC]at this;exact⟨p,wQ R1 a,wQ R2 a,this⟩⟩
structure LQ(D:List Pc)(q q':Pc):Prop where
 n:q'.n=q.n
 s:q'.ns=q.ns
 m:q'.m=q.m
 w:wC q'=true
 d:dS q'.b<=4
 c:p7 q'.b<=20000
 ok:u_ (D.map O5,q'.m,q'.ns) q'.b=true
 x:∃c d,cX (D++ [q']) 41 q'.b .nil=some (c,d)
theorem Dh(D:List Pc)(q:Pc)(ms:List (List Nat))(ml:ms.length=12)(hm:N5 ms=true)(v:Int)(lD:D.length<=100)(w:wC q=true)(hd:dS q.b<=4)(ct:p7 q.b<=10000)(ho:QJ [] (D++ [q])=true)(hx:∃r,cX (D++ [q]) 41 q.b .nil=some r/\r.1<=10000):∃q',LQ D q q'/\F 99 .G_ [bk (D++ [q]),Ob ms,.int v]=.ok (bk (D++ [q'])):=by
 have w2:=w;unfold wC at w2;rw[ab5,ab5,ab5,ab5]at w2;have ok:=(qu D [] q [] ho).1;rw[acC]at ok;obtain⟨⟨c,d⟩,hx,hc⟩:=hx;rcases Di D q ms ml hm v lD ct w2.2.1 with e|⟨n0,r,b,hq,hb,e⟩
 ·exact⟨q,⟨rfl,rfl,rfl,w,hd,by omega,ok,c,d,hx⟩,e⟩
 ·refine⟨⟨q.n,q.ns,q.m,J6 q.b b⟩,⟨rfl,rfl,rfl,?_,?_,?_,?_,?_⟩,e⟩
  ·have:=(hb [] [] none).w;have b1:=(hb [] [] none).d;unfold wC;dsimp only;rw[w2.1,w2.2.1,w2.2.2.1,Hl,w2.2.2.2.1,this,decide_eq_true (by rw[sE];omega:dS (J6 q.b b)<=20)];rfl
  ·have:=(hb [] [] none).d;show dS (J6 q.b b)<=4;rw[sE];omega
  ·have:=(hb [] [] none).c;show p7 (J6 q.b b)<=20000;rw[iZ];omega
  ·show u_ (D.map O5,q.m,q.ns) (J6 q.b b)=true;rw[oU,ok,(hb [] (D.map O5) q.m).ok];rfl
  ·have x1:=nt (zS (R1:=[q]) (R2:=[⟨q.n,q.ns,q.m,J6 q.b b⟩]) (qt D [] [q] ho)) 41 q.b .nil _ _ _ ok trivial hx;obtain⟨c2,d2,x2,_⟩:=(hb (D++ [⟨q.n,q.ns,q.m,J6 q.b b⟩]) [] none).x 41 .nil (by decide);exact⟨_,_,vx b x2 q.b c d x1⟩
theorem Dp:∀ns:List Int,ns.length<=63->F 100 .law [.QD (ns.map PV.int)]=.ok (.bl true):=fun cs hc=>by
 obtain⟨v0,e0⟩:=pU 98 cs 0 (by decide);obtain⟨v1,e1⟩:=pU 98 cs 1 (by decide);obtain⟨ms,ml,hm,⟨md,mw⟩,en⟩:=AV 98 v0;have cn:∀h,bO (F 99 .K6) [.int v0] h=.ok (Ob ms) h:=fun h=>bp h rfl en;obtain⟨B,n,m,b1,b8,hB,ho,⟨hn,h4⟩,hq,hx,eg⟩:=Gq 98 (by decide) cs hc ms ml hm md mw;have cg:=cS (fn:=L 99 .u6) [cv cs] [Ob ms] (h:=[J9 0 30]) (i:=0) (by rw[ar,ku];rfl) (by rw[ar,nU];rfl) rfl (cA _ _) eg (fF B) (cA _ _);have Yq:w6 (L 99 .u6) [cv cs,.ref 0,Ob ms] [J9 0 30]=.ok (bk B) [J9 n m]:=cg;have mk:eP [.int 0,.int 30] []=.ok (.ref 0) [J9 0 30]:=rfl
 obtain⟨D,q,rfl⟩:∃D q,B=D++ [q]:=by
  rcases ac7 B with rfl|⟨D,q,rfl⟩
  ·rw[adg]at b1;omega
  ·exact⟨D,q,by rw[ac8]⟩
 rw[acs,acN]at b8;obtain⟨w,hd,ct⟩:=hB q (by simp);obtain⟨q',Q,el⟩:=Dh D q ms ml hm v1 (by omega) w hd ct ho (hx D q [] rfl);have cl:∀h,bO (F 99 .G_) [bk (D++ [q]),Ob ms,.int v1] h=.ok (bk (D++ [q'])) h:=fun h=>bp h (by rw[ar,fF,ar,nU];rfl) el;obtain⟨c,d,xq⟩:=Q.x;have oD:=qt D [] [q] ho;have nm:(D++ [q']).map (·.n)=(D++ [q]).map (·.n):=by rw[aci,aci];simp[Q.n]
 have mem:∀{p},p∈D++ [q']->p∈D\/p=q':=fun h=>(acz.mp h).imp id acp.mp;have Vo:((D++ [q']).map (·.n)).Nodup:=by rw[nm];exact hn
 have qm:q'.m=none:=by rw[Q.m];exact hq D q rfl
 have H:GB D q' c d:=⟨by omega,fun p hp=>(mem hp).elim (fun z=>(hB p (by simp[z])).1) fun z=>z▸Q.w,fun p hp=>(mem hp).elim (fun z=>⟨(hB p (by simp[z])).2.1,by have:=(hB p (by simp[z])).2.2;omega⟩) fun z=>z▸⟨Q.d,Q.c⟩,rJ q' D [] oD (by rw[acC];intro z;rw[aci,adQ]at Vo;exact Vo.2.2 _ z _ (by simp) rfl) (by rw[Q.s];exact(qu D [] q [] ho).2) (by rw[acC];exact Q.ok),Vo,fun p hp=>(mem hp).elim (fun z=>h4 p (by simp[z])) fun z=>by rw[z,Q.s,Q.m];exact h4 q (by simp),qm,xq⟩
 have cc:=H.count 99 (by decide) (((D++ [q']).length:Int) - 1);have mn:=H.many 98 (by decide);have cm:∀h,bO (F 99 .I6) [bk (D++ [q'])] h=.ok (.bl (decide (c>400)||decide (d>24))) h:=fun h=>bp h (by rw[ar,fF];rfl) mn
 have r2:F 100 .law [.QD (cs.map PV.int)]=match um (F 99) (L 99) [some (cv cs),none,none,none,none,none,none,none] []with
   |.nx _ _=>.ok .non
   |.rt v h=>gA v h
   |_=>.bad:=rfl
 have W8:∀B h,aq h (bk B)=bk B:=fun B h=>rfl;have dM:∀h,aq h (Ob ms)=Ob ms:=fun h=>rfl;have dC:∀h,aq h (cv cs)=cv cs:=fun h=>rfl;have g1:decide ((c:Int)>400)=decide (c>400):=by by_cases z:c>400<;>simp[z]<;>omega
 have g2:decide ((d:Int)>24)=decide (d>24):=by by_cases z:d>24<;>simp[z]<;>omega
 rw[r2]
 cases z1:decide (c>400)with
 |true=>rw[z1,agh]at cm;rw[z1]at g1;simp only[EY,um,mk,e0,e1,cn,Yq,cl,cc,cm,W8,dM,dC,vA,gx,pZ,lA,g1];rfl
 |false=>
  cases z2:decide (d>24)with
  |true=>rw[z1,z2,aea]at cm;rw[z1]at g1;rw[z2]at g2;simp only[EY,um,mk,e0,e1,cn,Yq,cl,cc,cm,W8,dM,dC,vA,gx,pZ,lA,g1,g2];rfl
  |false=>
   have h1:c<=400:=by have:=of_decide_eq_false z1;omega
   have h2:d<=24:=by have:=of_decide_eq_false z2;omega
   rw[z1]at g1;rw[z2]at g2;obtain⟨l,lp,j1,j2,j3⟩:=H.joined 98 (by decide) h1 h2;have cj:∀h,bO (F 99 .joined) [bk (D++ [q'])] h=.ok (.tup (l.map nd)) h:=fun h=>bp h (by rw[ar,fF];rfl) j3
   have bd:BD (D++ [q']):=⟨by rw[acs,acN];omega,Vo,fun E p R e=>by
    rcases ac7 R with rfl|⟨R',z,rfl⟩
    ·have e3:D=E:=ae2 e rfl;have e4:q'=p:=afz.mp (aeS e rfl);subst e3 e4;exact⟨Q.ok,Q.w,Q.d,Q.c,c,d,xq,by omega⟩
    ·rw[ac8,<- acB,<- acG]at e;have e3:D=E++p::R':=ae2 e rfl;have pm:p∈D++ [q]:=by rw[e3];simp
     obtain⟨o,_⟩:=qu E [] p R' (e3▸oD);rw[acC]at o;obtain⟨⟨c1,d1⟩,x1,x2⟩:=hx E p (R'++ [q]) (by rw[e3];simp);have x3:=nt (zS (R1:=[p]) (R2:=p::R'++ [q']) (qt E [] (p::R') (e3▸oD))) 41 p.b .nil _ _ _ o trivial x1;rw[<- acG,<- e3]at x3;exact⟨o,(hB p pm).1,(hB p pm).2.1,by have:=(hB p pm).2.2;omega,c1,d1,x3,x2⟩⟩
   have cd:∀h,bO (F 99 .O7) [bk (D++ [q'])] h=.ok (.tup (l.map nd)) h:=fun h=>bp h (by rw[ar,fF];rfl) (Kl bd qm xq h1 h2 j1 j2);have n2:∀h,QC (.tup (l.map nd)) (.tup (l.map nd)) h=.ok (.bl false) h:=fun h=>FA h (bJ (cJ (vk j2.w)) (by omega)) fun i z=>by cases z
   have dt:∀h,aq h (.tup (l.map nd))=.tup (l.map nd):=fun _=>rfl
   have st:∀(x3 x4 x6 x7:Option PV),qk (F 99) [some (cv cs),some (Ob ms),some (bk (D++ [q'])),x3,x4,some (.tup (l.map nd)),x6,x7] [J9 n m]=.nx [some (cv cs),some (Ob ms),some (bk (D++ [q'])),x3,x4,some (.tup (l.map nd)),x6,some (.tup (l.map nd))] [J9 n m]:=fun x3 x4 x6 x7=>by have tn:∀(x:Option PV) h,BM (kD (cN mj (af (ai 7) (af (cK (.ty "tuple")) am)))) [some (cv cs),some (Ob ms),some (bk (D++ [q'])),x3,x4,some (.tup (l.map nd)),x,some (.tup (l.map nd))] h=.ok false h:=fun x h=>rfl;simp only[EY,qk,cj,W8,dt,n2,tn]
   have lo:∀x3 x4,aN (z_ 6) (qk (F 99)) ((List.range (2:Int).toNat).map fun i=>PV.int (0+(i:Nat))) [some (cv cs),some (Ob ms),some (bk (D++ [q'])),x3,x4,some (.tup (l.map nd)),none,none] [J9 n m]=.nx [some (cv cs),some (Ob ms),some (bk (D++ [q'])),x3,x4,some (.tup (l.map nd)),some (.int (0+(1:Nat))),some (.tup (l.map nd))] [J9 n m]:=fun x3 x4=>adT (cP rfl (st x3 x4 _ _)) (adT (cP rfl (st x3 x4 _ _)) rfl);simp only[EY,um,mk,e0,e1,cn,Yq,cl,cc,cd,W8,dM,dC,vA,gx,pZ,lA,g1,g2,lo,show Q8 4611686018427387904 2=true by decide];rfl
end Qt
namespace PySem.W.Fast
open Lean in
local macro_rules|`(command|#check tws)=>do let p:=`PySem.Challenge;let q:=p.str "cw_formsmith_k19_joined_by_own_going_holds";let c<-((List.range 400).map (fun i=>q.str s!"o_{i+43}")++("tree_215 sts_386 sts_123 heap_443 tree_47 tree_122 sts_216 env_41 tree_303 heap_46 tree_442 tree_78 sts_49 view_39 sts_64 tree_63 sts_304 heap_39 tree_385 sts_253 tree_252 sts_79".splitOn.map q.str)++[p.str "pw_formsmith_k19_joined_by_own_going",p.str "rw_formsmith_k19_joined_by_own_going"]).mapM fun n=>`(command|theorem $(mkIdent (.mkSimple s!"tw{n.hash}")):ident:True:=⟨⟩);return mkNullNode c.toArray
#check tws
end PySem.W.Fast
open PySem PySem.W PyProof.Rows
set_option maxRecDepth 100000 in
set_option maxHeartbeats 0 in
theorem PySem.Challenge.cw_formsmith_k19_joined_by_own_going_holds : PySem.Challenge.rw_formsmith_k19_joined_by_own_going.Holds := by
  w_on; o_law; k_head; (case hw => w_witness2)
  k_fill
  refine Z.Do (l := PySem.Challenge.rw_formsmith_k19_joined_by_own_going) (k := Qt.dl 100) (x := "_law_script") (fn := Qt.F 100 .law) rfl rfl ⟨by decide, by decide, rfl⟩ (fun w h Y => W.kIn_of Y) Qt.Dp ?F
  case F =>
    intro w mg fa h KX G V4
    refine' Qt.KK KX G V4 ?Qy ?L_ ?Qv ?Qw ?Og ?Oa ?Qc ?Qd ?Pu ?N_ ?A_ ?PL ?PJ ?PB ?Pz ?Py ?Px ?hf ?K4 ?v9 ?Oo ?Qx ?hn
    (case Qy | Qc | Qd | Qv | Qw | Og | Oa | PJ | Pz | Py | Px | K4 | v9 | Oo | Qx=>k_is);(case L_ | Pu => constructor <;> k_is);(case N_ => k_exc)
    (case A_ => kts_exm)
    (case PL | PB => first | rfl | kernel_rfl)
    (case hf => intro f; cases f <;> (refine' Qt.fq (Ad := Qt.Yx _ _ _) ?fa ?fl ?fc ?fk ?fb; (case fa => dsimp only [Qt.Yx]; first | k_is | ((first | constructor | skip) <;> (repeat' apply And.intro) <;> k_is)); (case fl=>k_is); (case fc=>k_is); (case fk=>k_is); (case fb => intro _ _ _ _ _ _ us hl; first | (obtain rfl := Qt.YZ hl; rfl) | (obtain ⟨_, rfl⟩ := Qt.YX hl; rfl) | (obtain ⟨_, _, rfl⟩ := Qt.YW hl; rfl) | (obtain ⟨_, _, _, rfl⟩ := Qt.YT hl; rfl) | (obtain ⟨_, _, _, _, rfl⟩ := Qt.YS hl; rfl) | (obtain ⟨_, _, _, _, _, rfl⟩ := Qt.YQ hl; rfl) | (obtain ⟨_, _, _, _, _, _, rfl⟩ := Qt.YM hl; rfl) | (obtain ⟨_, _, _, _, _, _, _, rfl⟩ := Qt.us7 hl; rfl))))
    (case hn => intro i; cases i <;> k_is)
