import PyProof.Rows.All
import Wide.All
import OpenK.AllK
import Open.SpecLaws
import KE.OsHead
import KE.OsGo
import KE.KNestM
import PySem.Challenge.RW_boardpresses_s01_answers
import VbpcauSpec
import PyVbpcau
import OpenK.KOwn
import OpenK.KMake
import PyProof.ExcBaseAll.Exception
import PyProof.InstStoreFacts
import PyProof.ExcAttrAll.Exception
import PyProof.StationsW
import Wide.FinOn
import PyProof.EqAt
import PyProof.EqKinds
import PyProof.TupleCall
import KE.BitLaws
import KE.KSortTupG
import PyProof.AutoSeq1
import KE.KLam
import KE.KMinKey
set_option Elab.async false
set_option linter.all false
set_option maxRecDepth 100000
set_option maxHeartbeats 4000000
local macro_rules|`(tactic|ac_rfl)=>`(tactic|solve_by_elim (maxDepth:=3)[Nat.le_trans,Nat.lt_of_lt_of_le,Nat.lt_of_le_of_lt,Nat.le_of_lt,Nat.zero_le,Nat.le_add_left,Nat.le_add_right,Nat.ne_of_lt,Nat.ne_of_gt,Nat.succ_le_of_lt,Nat.lt_of_not_le,Nat.not_le_of_lt,Nat.not_lt_of_le,Nat.le_of_not_lt,Nat.le_refl,Nat.lt_succ_of_le,Nat.lt_succ_self,Nat.le_succ_of_le,Nat.succ_pos])
open Array renaming length_toList->eY,getElem?_eq_some_iff->gE,replicate->ja,getElem?_toList->mv,getD_eq_getD_getElem?->BL,size_setIfInBounds->DS,size_replicate->HE,toList_inj->MZ
open Bool renaming and_eq_true->ak,false_ne_true->bc,noConfusion->b0,false_eq_true->ft,eq_iff_iff->g9,and_eq_true_iff->ia,or_eq_true->oo,and_false->u1,eq_false_iff->yz,not_eq_true'->yA,not_eq_true->O5
open Char renaming toNat->MN
open False renaming elim->cy
open Int renaming ofNat_inj->gA,toNat_of_nonneg->kh,natCast_mul->oM,natCast_add->uw,natCast_emod->Ac,natCast_sub->BV,mul_emod->HH
open List renaming length_map->ae,length_append->ai,mem_cons_of_mem->ax,mem_cons_self->ay,map_append->aB,getElem?_eq_some_iff->aD,length_cons->aF,mem_cons->aG,mem_singleton->aK,size_toArray->aO,getElem?_map->aS,map_cons->aU,append_nil->aZ,map_congr_left->bg,range'->br,mem_filter->bu,lookup->bz,range->bA,mem_map->bB,take_length->bF,length_take->bH,length_eq_zero_iff->bM,drop_eq_getElem_cons->bO,length_filter_le->bP,flatMap_cons->bT,mem_of_getElem?->bY,mem_append_right->b7,mem_append->ck,length_range'->cp,length_pos_iff->cx,filter_append->cB,getElem?_eq_getElem->cC,find?_cons->cF,pairwise_cons->cS,filter_cons->da,lookup_cons->df,flatMap_append->dh,append_assoc->dm,mem_range->dF,map_map->dQ,getElem?_append_left->dU,any_cons->d6,sum_cons->eX,length_nil->fh,dropLast_concat_getLast->fP,filter_nil->fQ,all_eq_true->gB,flatMap_nil->gC,filter_filter->gF,getElem?_append_right->gG,contains_iff_mem->gK,getElem?_eq_none->gL,mem_of_find?_eq_some->gZ,nodup_cons->hG,length_drop->iL,length->i3,getElem?_set_self->i6,all_cons->ji,take_append_drop->jk,length_range->jq,mem_append_left->jM,cons_append->j4,range'_eq_map_range->kN,find?_eq_none->lh,filter_eq_nil_iff->lO,getElem?_reverse->mF,getElem?_set_ne->nN,forIn_cons->oq,range_succ->ot,length_reverse->oO,map_eq_nil_iff->oP,mem_map_of_mem->oQ,filter_congr->qr,find?_append->qt,foldl_append->qv,pairwise_map->qw,append_eq_nil_iff->sJ,drop_eq_nil_of_le->sL,getElem?_of_mem->u5,range'_append_1->u6,filterMap_cons->wj,map_nil->yB,mem_range'_1->yC,range'_succ->zK,map_id->Ad,foldl_cons->BM,nil_append->BN,of_mem_zip->BO,forIn_nil->Cy,perm_append_singleton->Cz,dropLast_cons_cons->FC,all_map->Hq,any_nil->Hr,range_succ_eq_map->Hs,getElem?_range'->Jy,pairwise_append->Jz,toList_toArray->K7,mem_filterMap->MQ,cons_ne_nil->O6,drop_length->O7,getElem_mem->O8,map_reverse->O9
open List.Perm renaming refl->sm
open List.cons renaming inj->fO
open Nat renaming le_refl->ah,le_trans->aX,lt_of_lt_of_le->aY,zero_le->bp,ne_of_lt->bJ,lt_irrefl->di,lt_of_le_of_lt->eB,strongRecOn->jj,le_add_right->j6,sub_self->j7,le_of_lt->lU,toDigits->lV,le_succ->n6,le_of_succ_le->qV,lt_succ_self->sq,le_of_eq->sQ,add_comm->zk,lt_succ_of_lt->zm,ne_of_gt->zo,succ_le_succ->Ae,digitChar->FD,toDigits_of_lt_base->Ht,le_of_ble_eq_true->JA,one_mul->K9,mod_lt->M5
open Ne renaming symm->ra
open NeutralIO renaming bytes->JB
open Option renaming some->aa,isSome_iff_exists->kc,map_eq_some_iff->lN,map_some->nO,none_or->BP,isSome_some->JD,isSome_map->Lb,bind_some->MR,getD_none->MS
open Option.some renaming inj->bq
open Prod renaming ext->CA
open Prod.mk renaming inj->pE
open PyFlat renaming told->jE,calls->ou,rows->ux,call->Hu,row->JE
open PyProof.Rows renaming callWith_type1->iO,lex_false->zL
open PyProof.Rows.G renaming tupKeyC->j5
open PySem renaming Spec->aI,mem_of_lookup->a9,boot_len->cz,Within->FG,wpAt_of_wpAny->JL,wpAt_bind->Pe
open PySem.Around renaming under_plainId->uy,under->Fu,frames_deeper->Hv
open PySem.Bind renaming staticBase->BQ,madeBy->JF
open PySem.Builtin.Builtins renaming bindParams->uV
open PySem.Builtin.List renaming listTooLong->gH
open PySem.Calls renaming Name_function_global->BW,callWith_builtin->FE,evalArgs_plain->HK,spliced_cons->Lc,spliced_nil->MT
open PySem.Challenge renaming pw_boardpresses_s01_answers->ow,rw_boardpresses_s01_answers->oy
open PySem.Code renaming isFrame->Hw,quiet_builtin->MU
open PySem.EntryCells renaming newEntry->DV
open PySem.F renaming plainAttrs_list->cq,plain_min_loop->eK,slot_list_extend->eM,slot_list_append->fL,type_list_append->hJ,type_list_extend->hU,entry_min_loop->rb,args_tuple_add_2->BX,entry_tuple_add->CB,attr_Exception->DX,slot_tuple_add->DY,args_list_extend_2->M6,entry_list_extend->Pb
open PySem.Heap renaming get?_push_of_some->aw,lt_size->aQ,get?_push_size->bh,size_push->cu,get?_update_other->dS,get?_update_self->jl,get?_push_at->qx,SameBut->yE,get?_update_ne->Ld
open PySem.Heap.Ns1 renaming of_empty->HL
open PySem.Manifest renaming canonical->Hx
open PySem.Obj renaming mapFields->jm,isFreed_of_fields->nt,data_mapFields->pX,mapSeq->M7
open PySem.Paired renaming length->gj
open PySem.PassesOwn renaming never->dw
open PySem.PyData renaming eqv->jF,eqvAll->kd,depthAll->sr,depth->Fv,canLayAll0->Le
open PySem.SeqAt renaming shaped->xH,EqAt->Lf,in_listAt->Pc
open PySem.SeqAt.EqAt renaming int_str->Fw,str_int->Fx
open PySem.Str renaming ofString->cj,empty->su
open PySem.Txt renaming join->zp
open PySem.Value.type renaming inj->JG
open PySem.W renaming Frag->af,findIn->bU,emptyDict->cG,keepIn->cK,instObj->dD,mg_of->eW,mg_none_of->fj,Looks->gg,callWith_K->iP,fnOf->i5,codeHdIn->jr,hasDictIn->lA,methodCall_KW->lP,codeIn->mH,typeIn->mI,kla_obj->nA,callWith_K0->nP,tabObj->oR,isFn->pA,plainGet->qy,lookIn->sS,looks_findIn->sV,plainGet_of->uW,makesIn->u7,methodObj->wm,nsIn->wo,length_le_weightAllW->zq,takerIn->zr,subIn->BY,cellsFrom_some->DZ,codeHd_of_K->Hz,findObj_own->HA,looks_subIn->HB,make_core->JH,plainOver->JI,specialIn->JJ,WRecords->Lh,handedIn->Li,makes_of->Lj,bind_fn->MV,kla_fn->M9,clsIn->Pd
open PySem.W.Codec renaming encAll->sv,denoteAll->Af,app->M8
open PySem.W.Fast renaming te14364793385576792824->px,te5923862056798008813->CC,tw5923862056798008813->CD
open PySem.W.Looks renaming ld->pz,of_pure->Hy,here->Lg
open PySem.W.R renaming mapR->FF
open PySem.W.WData renaming weightAll->sO
open PySem.Walks renaming list->wq
open PySem.Within renaming cons->Lk
open PySem.callAny renaming viaDunder->JK
open PyVbpcau renaming answers_asked->qW,answers->xF,calls->MW
open Sum.inl renaming inj->yF
open UInt8 renaming toNat_ofNat'->wu,ofNat->zM,le_iff_toNat_le->HC
open Vbpcau renaming putSpan->fG,sumOver->gD,read->g8,start->r8,decimal->uz,Tab->wk,readParts->yG,between->BR,PRIME->Fy
open VbpcauNeutral renaming step->ic,callOf->lC,textRow->pY,asked1->qA,bytes?->qB,whole60->zN
section
namespace Bx
open PySem PySem.W PySem.Calls PyProof.Rows
section
variable{p q:Program}{loose:List Str}{Xt:Shared->Bool}{α:Type}{Yf:Shared->α}{Ya:World->α}{N M m₀:Nat}{g0:Bool}{H₀:Params->Heap}{gs₀:Array GenState}{d₀:Drawn}{k₀:Nat}{ann:Option Value}
theorem Oa(open_:∀w:World,(fencedOpening treeTable p w N).map (λs=>(s.heap,s.gens,s.drawn,s.toks))=aa (H₀ w.params,gs₀,d₀,k₀))
  (size:∀w:World,((H₀ w.params).isNs mainGlobals&&gs₀.size==0,(H₀ w.params).objs.size,(H₀ w.params).nsMap mainGlobals "__annotations__")=(true,m₀,ann))
  (run:∀(w:World)(os:OsState),∃s₁,topRun treeTable p w m₀ ann M ⟨H₀ w.params,gs₀,d₀,k₀,os⟩ (topStub p)=aa s₁/\(staticsOk (importedModules p.main.body) (H₀ w.params) s₁.heap&&namesBound p s₁.heap&&gensDone s₁&&laidKept (H₀ w.params) s₁.heap)=true/\
    openSeen q loose (importedModules p.main.body) Xt g0 s₁=openGood q loose/\Yf s₁=Ya w)(le:Nat.ble M N=true):LeftO p q loose Xt Yf Ya N g0:=λw=>by
 obtain⟨⟨h,gs,d,k,os⟩,e,e'⟩:=lN.mp (open_ w)
 obtain⟨rfl,rfl,rfl,rfl⟩:h=H₀ w.params/\gs=gs₀/\d=d₀/\k=k₀:=by simpa using e'
 obtain⟨z1,z2,z3⟩:_/\_/\_:=by simpa only[Prod.mk.injEq]using size w
 obtain⟨s₁,hr,l1,l2,l3⟩:=run w os
 have r:=topRun_mono (N-M) _ _ _ _ hr
 rw[show M+(N-M)=N by have:=JA le;lia]at r
 have t:topFrom treeTable p w N ⟨H₀ w.params,gs,d,k,os⟩=aa s₁:=by
  unfold topFrom
  dsimp only
  rw[z1,z2,z3,r]
  show(match staticsOk (importedModules p.main.body) (H₀ w.params) s₁.heap&&namesBound p s₁.heap&&gensDone s₁&&laidKept (H₀ w.params) s₁.heap with|true=>_|false=>_)=_
  rw[l1]
 unfold openEnds
 rw[e]
 show(topFrom treeTable p w N _).map _=_
 rw[t]
 exact congrArg aa (CA l2 l3)
theorem QE{w:World}{n1 n2 n3 n4:Nat}{s0 sa:Shared}{sT sU:SharedT}{b:List Stmt}{env:Env}{c:Code}{z zz zF:Pos}(hc:c=.body b env)
  (pre:topGo treeTable p w m₀ ann n1 s0 (topStub p)=aa (sa,⟨denote treeTable c,c,z,[topFrame zz]⟩))
  (block:segRun treeTable p w m₀ ann 1 n2 sa (blockOf b env c z [topFrame zz])=aa (.next,sT.abs,c,z))
  (main:segRunT treeTable p w m₀ ann 1 n3 sT (piecesOf b env c z [topFrame zz])=aa (.next,sU,c,zF))
  (fin:topRun treeTable p w m₀ ann n4 sU.abs ⟨doneF .next,c,zF,[topFrame zz]⟩=aa sU.abs):topRun treeTable p w m₀ ann (n1+(n2+(n3+n4))) s0 (topStub p)=aa sU.abs:=by
 have r1:topRun treeTable p w m₀ ann (n3+n4) sT.abs (restOf b env c z [topFrame zz])=aa sU.abs:=by
  have:=piece_app (rest:=[]) (segRun_of main) (piece_nil (env:=env) fin)
  rwa[aZ]at this
 subst hc
 exact go_top pre (piece_block block r1)
theorem map_one{A S C D T:Type}{o:Option (A×S×C×D)}{f:S->T}{a:A}{c:C}{d:D}{t:T}(h:o.map (λr=>(r.1,r.2.2.1,r.2.2.2,f r.2.1))=aa (a,c,d,t)):∃s,o=aa (a,s,c,d)/\f s=t:=by
 cases o with
 |none=>cases h
 |some r=>
  obtain⟨a',s,c',d'⟩:=r
  cases h
  exact⟨s,rfl,rfl⟩
theorem GG{t:BT}{n:Nat}{life:Life}:∀(l:List Addr)(k:List (Addr×Obj)),l.all (λa=>Nat.blt a n)=true->l.map t.get=k.map (λp=>aa p.2)->k.map (λp=>alive p.2)=k.map (λp=>aa p.2)->l.map (absHeap t n life).get?=k.map λp=>aa p.2
 |[],[],_,_,_=>rfl
 |[],_::_,_,h,_=>nomatch h
 |_::_,[],_,h,_=>nomatch h
 |a::l,x::k,h1,h2,h3=>by
  rw[ji,ak]at h1
  rw[aU,aU]at h2 h3
  rw[aU,aU,GG l k h1.2 (fO h2).2 (fO h3).2,abs_get (JA h1.1) (fO h2).1,(fO h3).1]
theorem Qh{K:Params->Frag}{as ks:List Addr}{us:List (Option Obj)}{e:∀P,as=(K P).map (·.1)}{w:World}{s:SharedT}(hk:ks=(K w.params).map (·.1))(hu:us=(K w.params).map (λp=>aa p.2))(b:s.n=1012/\FF s.tree.get ks=us/\s.tree.get 567=aa (tabObj #[]))
  (hl:(K w.params).map (λp=>alive p.2)=(K w.params).map (λp=>aa p.2))(ha:as.all (λa=>Nat.blt a 1012)=true):(kmHook K as e [567]).obs s.abs=(kmHook K as e [567]).val w:=by
 obtain⟨T,m,life,gens,drawn,toks,os⟩:=s
 obtain⟨b1,b2,b3⟩:=b
 rw[<-R.mapR_eq,hk,hu,<-e]at b2
 dsimp only at b1 b2 b3
 subst b1
 refine CA (GG as (K w.params) ha b2 hl) ?_
 show[(absHeap T 1012 life).get? 567]=[aa (tabObj #[])]
 rw[abs_get (by decide) b3]
 rfl
theorem map_R{α β:Type}{f:α->β}{l m:List α}(h:m=l):FF f l=m.map f:=by rw[h,R.mapR_eq]
end
local macro_rules | `(tactic| o_headS ($f $K $as $p)) => `(tactic| assumption)
theorem hp0(h0:oy.Holds):oy.Holds:=by k_headS
noncomputable section
abbrev p0:Program:=ow
def q0:Program:=view p0 [99]
def tG:List Str:=[("__name__":Str),("Refusal":Str),("OutOfRange":Str),("WrongNeed":Str),("TooManyNeeded":Str),("NoPlan":Str),("NoSuchNumber":Str),("NotAPlan":Str),("NotServing":Str),("TooLong":Str),("WrongText":Str),("__name__":Str),("FIRST_LAYERS":Str),("FEWEST_LAYERS":Str),("MOST_LAYERS":Str),("MOST_NEEDED":Str),("clashes":Str),("Board":Str),("__name__":Str),("Part":Str),("is_press":Str),("is_foil":Str),("text_of":Str),("pieces_of":Str),("spans_of":Str),("depth_of":Str),("mirrored":Str),("__name__":Str),("DIVISOR":Str),("Count":Str),("Weight":Str),("FewestPresses":Str),("LeastDepth":Str),("__name__":Str),("cuts_of":Str),("ends_of":Str),("Ways":Str),("__name__":Str),("FewestPressesChooser":Str),("DepthChooser":Str),("NumberChooser":Str),("chosen_part":Str),("number_of":Str),("__name__":Str),("MOST_WEIGHT":Str),("value_of_plans":Str),("check_some_plan":Str),("count_plans":Str),("weigh_plans":Str),("fewest_presses":Str),("least_depth":Str),("first_with_fewest_presses":Str),("first_with_least_depth":Str),("plan_with_number":Str),("serves_all":Str),("number_of_plan":Str),("plan_behind":Str),("__name__":Str),("MOST_BYTES":Str),("DEEPEST":Str),("BLANK":Str),("PRESS_BEGINS":Str),("PRESS_ENDS":Str),("ZERO":Str),("NINE":Str),("CORE_BEGINS":Str),("CORE_ENDS":Str),("TEXT_ENDS":Str),("Reader":Str),("is_sound":Str),("read_plan":Str),("__name__":Str),("begin":Str),("need":Str),("drop":Str),("needs":Str),("clash":Str),("count":Str),("weigh":Str),("least":Str),("depth":Str),("best":Str),("flat":Str),("plan":Str),("rank":Str),("following":Str),("check":Str),("spans":Str),("mirror":Str),("steps":Str),("turn":Str),("read_text":Str),("pairs_answer":Str),("text_answer":Str),("CALLS":Str),("GIVEN":Str),("WITH_TEXT":Str),("answer_one":Str),("end_of_call":Str)]
def Eg:Env:={scope:=p0.main.scope,locals:=mainNs,globals:=mainNs,cells:=[],code:=.ref 13,frame:=aa 14}
abbrev z0:Pos:=⟨0,0,0,0⟩
abbrev zF:Pos:=⟨490,0,500,15⟩
abbrev Tt:Option Value:=aa (.ref 6)
abbrev c0:Code:=.body (behindTheImports p0) Eg
def Vq:Obj:={cls:=.type "tuple",data:=.seq #[]}
def Vr:Obj:={cls:=.none,data:=.fields #[]}
def Vs:Obj:={cls:=.type "code",data:=.fields #[.str "<module>" 182,.str "<module>" 183,.str "/claim/cut.py" 184,.int 1 0,.int 0 0,.int 0 0,.int 0 0,.int 0 0,.ref 11,.bool false,.int 181 0,.ref 12,.none,.none,.none,.none,.int 185 0,.int 1 0,.str "/claim/cut.py" 186]}
def Vt:Obj:={cls:=.type "frame",slots:=#[aa (.ref 13),aa (.ref 3),aa (.ref 3),none,aa (.str "__main__" 164),none,aa (.ref 0)]}
def T9(P:Params):BT:=
 .node (boot_o_0 P) (.node (boot_o_1 P) (.node (boot_o_3 P) (.node (boot_o_7 P) .nil .nil) (.node Vq .nil .nil)) (.node (boot_o_5 P) (.node (boot_o_9 P) .nil .nil) (.node Vs .nil .nil)))
  (.node (boot_o_2 P) (.node (boot_o_4 P) (.node (boot_o_8 P) .nil .nil) (.node Vr .nil .nil)) (.node (boot_o_6 P) (.node (boot_o_10 P) .nil .nil) (.node Vt .nil .nil)))
abbrev sb(w:World)(os:OsState):SharedT:={tree:=T9 w.params,n:=15,life:={},gens:=#[],drawn:={},toks:=187,os:=os}
abbrev Wd:Thread:=piecesOf (behindTheImports p0) Eg c0 z0 [topFrame z0]
abbrev UH(s:Shared):Bool:=xlAt q0 [] s&&recOk [] s
abbrev UO:List Str:=importedModules p0.main.body
def SD(w:World)(os:OsState):Option (Flow×SharedT×Code×Pos):=segRunT treeTable p0 w 11 Tt 1 8500 (sb w os) Wd
def QD(w:World)(os:OsState):Option (Flow×SharedT×Code×Pos):=Fast.tw10110043849684766642 Fast.tw14364793385576792824 p0 w 11 Tt 1 8500 (sb w os) Wd
theorem run_eq(w:World)(os:OsState):SD w os=QD w os:=by
 unfold SD QD
 rw[Fast.te10110043849684766642,px]
theorem Q8(w:World)(os:OsState):topGo treeTable p0 w 11 Tt 12 ⟨boot_heap w.params,#[],boot_drawn,boot_toks,os⟩ (topStub p0)=aa ((sb w os).abs,⟨denote treeTable c0,c0,z0,[topFrame z0]⟩):=by
 rw[Fast.te15667345088766844465,px,Fast.te11892475500146522536]
 kernel_rfl
theorem MI(w:World)(os:OsState):segRun treeTable p0 w 11 Tt 1 1 (sb w os).abs (blockOf (behindTheImports p0) Eg c0 z0 [topFrame z0])=aa (.next,(sb w os).abs,c0,z0):=by
 rw[Fast.te14374325043358763698,px]
 kernel_rfl
theorem Q7(w:World)(s:Shared):topRun treeTable p0 w 11 Tt 2 s ⟨doneF .next,c0,zF,[topFrame z0]⟩=aa s:=by
 kernel_rfl
def UM(w:World)(s:SharedT):Bool:=staticsOk (CD p0.main.body) (boot_heap w.params) s.abs.heap&&namesBound p0 s.abs.heap&&gensDone s.abs&&laidKept (boot_heap w.params) s.abs.heap
def UN(s:SharedT):=Fast.tw4187177175401517315 q0 tG (CD p0.main.body) UH true s.abs
def ks0(w:World):List Addr:=FF (λp:Addr×Obj=>p.1) (hp0.heap_1 w.params)
def us0(w:World):List (Option Obj):=FF (λp:Addr×Obj=>aa p.2) (hp0.heap_1 w.params)
abbrev Fc(w:World)(s:SharedT):Prop:=s.n=1012/\FF s.tree.get (ks0 w)=us0 w/\s.tree.get 567=aa (tabObj #[])
def lkC(w:World)(s:SharedT):=(UM w s,UN s,s.n,FF s.tree.get (ks0 w),s.tree.get 567)
theorem MJ(w:World)(os:OsState):(QD w os).map (λr=>(r.1,r.2.2.1,r.2.2.2,lkC w r.2.1))=aa (.next,c0,zF,true,openGood q0 tG,1012,us0 w,aa (tabObj #[])):=by
 kernel_rfl
theorem five{A B C D E:Type}{a a':A}{b b':B}{c c':C}{d d':D}{e e':E}(h:(a,b,c,d,e)=(a',b',c',d',e')):a=a'/\b=b'/\c=c'/\d=d'/\e=e':=by
 cases h
 exact⟨rfl,rfl,rfl,rfl,rfl⟩
theorem Sd(w:World)(s:SharedT):UM w s=(staticsOk UO (boot_heap w.params) s.abs.heap&&namesBound p0 s.abs.heap&&gensDone s.abs&&laidKept (boot_heap w.params) s.abs.heap):=by
 unfold UM
 rw[<-CC]
theorem Se(s:SharedT):UN s=openSeen q0 tG UO UH true s.abs:=by
 unfold UN
 rw[<-Fast.te4187177175401517315,<-CC]
theorem Q9(w:World)(os:OsState):∃sT:SharedT,SD w os=aa (.next,sT,c0,zF)/\(staticsOk UO (boot_heap w.params) sT.abs.heap&&namesBound p0 sT.abs.heap&&gensDone sT.abs&&laidKept (boot_heap w.params) sT.abs.heap)=true/\openSeen q0 tG UO UH true sT.abs=openGood q0 tG/\Fc w sT:=
 Exists.elim (map_one (o:=QD w os) (f:=lkC w) (a:=Flow.next) (c:=c0) (d:=zF) (t:=(true,openGood q0 tG,1012,us0 w,aa (tabObj #[]))) (MJ w os)) λsT h=>
  have g:=five (a:=UM w sT) (b:=UN sT) (c:=sT.n) (d:=FF sT.tree.get (ks0 w)) (e:=sT.tree.get 567) (a':=true) (b':=openGood q0 tG) (c':=1012) (d':=us0 w) (e':=aa (tabObj #[])) h.2
  ⟨sT,(run_eq w os).trans h.1,(Sd w sT).symm.trans g.1,(Se sT).symm.trans g.2.1,g.2.2⟩
theorem UL{α:Type}{Yf:Shared->α}{Ya:World->α}(hy:∀w(sT:SharedT),Fc w sT->Yf sT.abs=Ya w):LeftO p0 q0 tG UH Yf Ya 9000:=
 Oa (M:=12+(1+(8500+2))) (boot_open (by kernel_rfl) (by decide) (λs=>by kernel_rfl)) (λw=>by kernel_rfl) (λw os=>by
  obtain⟨sT,hr,l1,l2,l3⟩:=Q9 w os
  exact⟨sT.abs,QE (sT:=sb w os) (b:=behindTheImports p0) (env:=Eg) (c:=c0) (z:=z0) (zz:=z0) (zF:=zF) rfl (Q8 w os) (MI w os) hr (Q7 w sT.abs),l1,l2,hy w sT l3⟩) (by decide)
theorem Vu{K:Params->Frag}{as:List Addr}{e:∀P,as=(K P).map (·.1)}(hK:∀P,K P=hp0.heap_1 P)
  (hl:∀P,(K P).map (λp=>alive p.2)=(K P).map (λp=>aa p.2))(ha:as.all (λa=>Nat.blt a 1012)=true):∀w(sT:SharedT),Fc w sT->(kmHook K as e [567]).obs sT.abs=(kmHook K as e [567]).val w:=λw _ f=>
 Qh (map_R (hK w.params)) (map_R (hK w.params)) f (hl _) ha
end
end Bx
end
section
namespace Bp
open Vbpcau
structure Laws{α:Type}(A:Alg α):Prop where
 Lv:∀x,A.either A.none x=x
 TV:∀x,A.either x A.none=x
 Nm:∀x,A.both x A.none=A.none
theorem my(w:Nat):Laws (counting w):=⟨λx=>Nat.zero_add x,λx=>Nat.add_zero x,λx=>Nat.mul_zero x⟩
theorem p6:Laws pressing:=⟨λ_=>rfl,λx=>by cases x<;>rfl,λx=>by cases x<;>rfl⟩
theorem rp:Laws nesting:=⟨λ_=>rfl,λx=>by cases x<;>rfl,λx=>by cases x<;>rfl⟩
section
variable{α:Type}{A:Alg α}{needs:List Span}
def jS(needs:List Span)(a b c:Nat):List Nat:=((bA (b+1-c)).map λi=>c+i).filter λd=>allowed needs a b c d
def firstOpts(needs:List Span)(a b:Nat):List Nat:=((bA (b-a)).map λi=>a+i).filter λd=>allowed needs a b a d
theorem rq{a b c d:Nat}:d∈jS needs a b c↔c<=d/\d<=b/\allowed needs a b c d=true:=by
 unfold jS
 rw[bu,bB]
 constructor
 ·rintro⟨⟨i,hi,rfl⟩,h⟩
  rw[dF]at hi
  exact⟨by ac_rfl,by omega,h⟩
 ·rintro⟨h1,h2,h⟩
  exact⟨⟨d-c,by rw[dF];lia,by lia⟩,h⟩
theorem p7{a b d:Nat}:d∈firstOpts needs a b↔a<=d/\d<b/\allowed needs a b a d=true:=by
 unfold firstOpts
 rw[bu,bB]
 constructor
 ·rintro⟨⟨i,hi,rfl⟩,h⟩
  rw[dF]at hi
  exact⟨by ac_rfl,by omega,h⟩
 ·rintro⟨h1,h2,h⟩
  exact⟨⟨d-a,by rw[dF];lia,by lia⟩,h⟩
def jh(A:Alg α)(needs:List Span)(t:Tab α)(a b c:Nat):Six α:=(sixes A needs t a b (b+1-c)).headD []
theorem yl(t:Tab α)(a b:Nat):∀(m i:Nat),i<=m->(sixes A needs t a b m).getD i []=(sixes A needs t a b (m-i)).headD []
 |0,i,h=>by
  have e:i=0:=by lia
  subst e
  rfl
 |m+1,0,_=>rfl
 |m+1,i+1,h=>by
  show(_::sixes A needs t a b m).getD (i+1) []=_
  rw[List.getD_cons_succ,yl t a b m i (by lia)]
  congr 2
  simp
theorem G8(t:Tab α){a b c:Nat}(h1:a<=c)(h2:c<=b+1):(sixes A needs t a b (b+1-a)).getD (c-a) []=jh A needs t a b c:=by
 rw[yl t a b _ _ (by lia)]
 unfold jh
 congr 2
 lia
theorem Nh(t:Tab α)(a b c:Nat)(behind:List (Six α))(k:Nat)(s:Bool)(hk:k<=2):
  (sixOf A needs t a b c behind).at_ A k s=sumOver A ((jS needs a b c).map λd=>A.both (partOf A t c d) ((behind.getD (d-c) []).at_ A (min 2 (k+1)) (s||decide (c<d)))):=by
 match k,s,hk with
 |0,false,_=>rfl
 |0,true,_=>rfl
 |1,false,_=>rfl
 |1,true,_=>rfl
 |2,false,_=>rfl
 |2,true,_=>rfl
 |k+3,_,h=>lia
theorem DF(t:Tab α)(a b:Nat):jh A needs t a b (b+1)=lastSix A:=by
 unfold jh
 rw[j7]
 rfl
theorem pj(t:Tab α){a b c:Nat}(h:c<=b)(k:Nat)(s:Bool)(hk:k<=2):
  (jh A needs t a b c).at_ A k s=sumOver A ((jS needs a b c).map λd=>A.both (partOf A t c d) ((jh A needs t a b (d+1)).at_ A (min 2 (k+1)) (s||decide (c<d)))):=by
 have e:jh A needs t a b c=sixOf A needs t a b c (sixes A needs t a b (b-c)):=by
  unfold jh
  have e1:b+1-c=(b-c)+1:=by lia
  rw[e1]
  show(sixOf A needs t a b (b-(b-c)) _::_).headD []=_
  have e2:b-(b-c)=c:=by omega
  rw[e2]
  rfl
 rw[e,Nh t a b c _ k s hk]
 congr 1
 refine bg λd hd=>?_
 rw[rq]at hd
 have e3:(sixes A needs t a b (b-c)).getD (d-c) []=jh A needs t a b (d+1):=by
  rw[yl t a b _ _ (by omega)]
  unfold jh
  congr 2
  lia
 rw[e3]
def gN(A:Alg α)(needs:List Span)(t:Tab α)(a b c:Nat):α:=(jh A needs t a b c).at_ A 2 true
theorem jx(t:Tab α)(a b:Nat):gN A needs t a b (b+1)=A.one:=by
 unfold gN
 rw[DF]
 rfl
theorem iN(t:Tab α){a b c:Nat}(h:c<=b):
  gN A needs t a b c=sumOver A ((jS needs a b c).map λd=>A.both (partOf A t c d) (gN A needs t a b (d+1))):=by
 unfold gN
 rw[pj t h 2 true (ah 2)]
 rfl
theorem Ol(t:Tab α){a b c:Nat}(h:c<=b):(jh A needs t a b c).at_ A 1 true=gN A needs t a b c:=by
 rw[pj t h 1 true (by decide),iN t h]
 rfl
theorem Oh{a b c d:Nat}(h:allowed needs a b c d=true)(h1:a<c)(h2:c<b)(h3:c<=d):c<d:=by
 unfold allowed at h
 rw[ak,oo,oo]at h
 rcases h.1 with q|q|q
 ·exact of_decide_eq_true q
 ·have:=eq_of_beq q
  lia
 ·have:=eq_of_beq q
  lia
theorem Mm(t:Tab α){a b:Nat}(h:a+2<=b):(jh A needs t a b (a+1)).at_ A 1 false=gN A needs t a b (a+1):=by
 rw[pj t (by ac_rfl) 1 false (by decide),iN t (by ac_rfl)]
 congr 1
 refine bg λd hd=>?_
 rw[rq]at hd
 have q:=Oh hd.2.2 (by ac_rfl) (by assumption) hd.1
 rw[decide_eq_true q]
 rfl
theorem wA(t:Tab α){a b d:Nat}(h:a+2<=b)(h1:a<=d)(h2:d<b):(jh A needs t a b (d+1)).at_ A (min 2 (0+1)) (false||decide (a<d))=gN A needs t a b (d+1):=by
 by_cases q:a<d
 ·rw[decide_eq_true q]
  exact Ol t (by assumption)
 ·have e:d=a:=by lia
  subst e
  rw[decide_eq_false q]
  exact Mm t h
theorem wB(t:Tab α){a b:Nat}(s:Bool):(jh A needs t a b (b+1)).at_ A (min 2 (0+1)) s=A.none:=by
 rw[DF]
 cases s<;>rfl
theorem xw(L:Laws A)(l:List α):sumOver A (l++[A.none])=sumOver A l:=by
 unfold sumOver
 rw[qv]
 exact L.TV _
theorem wY{a b:Nat}(h:a<=b):jS needs a b a=firstOpts needs a b++(if allowed needs a b a b=true then[b]else[]):=by
 unfold jS firstOpts
 have e:b+1-a=(b-a)+1:=by lia
 rw[e,ot,aB,cB]
 congr 1
 show([a+(b-a)]:List Nat).filter _=_
 have e2:a+(b-a)=b:=by omega
 rw[e2,da,fQ]
theorem LL(L:Laws A)(t:Tab α){a b:Nat}(h:a+2<=b):
  (jh A needs t a b a).at_ A 0 false=sumOver A ((firstOpts needs a b).map λd=>A.both (partOf A t a d) (gN A needs t a b (d+1))):=by
 rw[pj t (by lia) 0 false (by decide),wY (by lia),aB]
 have e1:(firstOpts needs a b).map (λd=>A.both (partOf A t a d) ((jh A needs t a b (d+1)).at_ A (min 2 (0+1)) (false||decide (a<d))))=(firstOpts needs a b).map λd=>A.both (partOf A t a d) (gN A needs t a b (d+1)):=by
  refine bg λd hd=>?_
  rw[p7]at hd
  rw[wA t h hd.1 hd.2.1]
 rw[e1]
 by_cases q:allowed needs a b a b=true
 ·rw[if_pos q]
  show sumOver A (_++[A.both (partOf A t a b) ((jh A needs t a b (b+1)).at_ A (min 2 (0+1)) (false||decide (a<b)))])=_
  rw[wB,L.Nm,xw L]
 ·rw[if_neg q]
  show sumOver A (_++[])=_
  rw[aZ]
theorem vQ(L:Laws A)(t:Tab α){a b:Nat}(h:a+2<=b):
  pressOf A needs t a b=A.press (sumOver A ((firstOpts needs a b).map λd=>A.both (partOf A t a d) (gN A needs t a b (d+1)))):=by
 rw[<-LL L t h]
 rfl
def Alike(A:Alg α)(t u:Tab α)(a b:Nat):Prop:=∀c d,a<=c->c<d->d<=b->¬(c=a/\d=b)->t.of A c d=u.of A c d
theorem wZ{t u:Tab α}{a b c d:Nat}(h:Alike A t u a b)(h1:a<=c)(h2:c<=d)(h3:d<=b)(h4:¬(c=a/\d=b)):partOf A t c d=partOf A u c d:=by
 unfold partOf
 by_cases e:c=d
 ·rw[if_pos e,if_pos e]
 ·rw[if_neg e,if_neg e]
  exact h c d h1 (by lia) h3 h4
theorem EL{t u:Tab α}{a b:Nat}(h:Alike A t u a b):∀(m c:Nat),b+1-c=m->a<c->c<=b+1->gN A needs t a b c=gN A needs u a b c:=by
 intro m
 induction m using jj with
 |ind m ih=>
  intro c hm h1 h2
  by_cases e:c=b+1
  ·subst e
   rw[jx,jx]
  ·rw[iN t (by lia),iN u (by lia)]
   congr 1
   refine bg λd hd=>?_
   rw[rq]at hd
   rw[wZ h (by ac_rfl) hd.1 hd.2.1 (by lia),ih (b+1-(d+1)) (by lia) (d+1) rfl (by lia) (by lia)]
theorem vo(L:Laws A){t u:Tab α}{a b:Nat}(h:Alike A t u a b)(hab:a+2<=b):pressOf A needs t a b=pressOf A needs u a b:=by
 rw[vQ L t hab,vQ L u hab]
 congr 2
 refine bg λd hd=>?_
 rw[p7]at hd
 rw[wZ h (ah _) hd.1 (by lia) (by lia),EL h _ (d+1) rfl (by lia) (by lia)]
def cell(A:Alg α)(t:Tab α)(a b:Nat):α:=(t.getD a #[]).getD b A.none
def u9(n:Nat)(t:Tab α):Prop:=t.size=n+2/\∀a,a<n+2->(t.getD a #[]).size=n+2
theorem Ay{β:Type}(l:Array β)(i j:Nat)(v d:β):(l.setIfInBounds i v).getD j d=if j=i/\i<l.size then v else l.getD j d:=by
 simp only[BL,Array.getElem?_setIfInBounds]
 by_cases e:i=j
 ·subst e
  by_cases q:i<l.size
  ·simp[q]
  ·simp[q]
 ·have e':¬j=i:=λz=>e z.symm
  simp[e,e']
def put(t:Tab α)(x y:Nat)(v:α):Tab α:=t.setIfInBounds x ((t.getD x #[]).setIfInBounds y v)
theorem FO{n:Nat}{t:Tab α}(S:u9 n t){x y:Nat}(hx:x<n+2)(hy:y<n+2)(v:α)(a b:Nat):cell A (put t x y v) a b=if a=x/\b=y then v else cell A t a b:=by
 unfold cell put
 rw[Ay]
 by_cases e:a=x
 ·subst e
  rw[if_pos ⟨rfl,by rw[S.1];exact hx⟩,Ay]
  by_cases e2:b=y
  ·subst e2
   rw[if_pos ⟨rfl,by rw[S.2 a hx];exact hy⟩,if_pos ⟨rfl,rfl⟩]
  ·rw[if_neg (λz=>e2 z.1),if_neg (λz=>e2 z.2)]
 ·rw[if_neg (λz=>e z.1),if_neg (λz=>e z.1)]
theorem Mx{n:Nat}{t:Tab α}(S:u9 n t)(x y:Nat)(v:α):u9 n (put t x y v):=by
 unfold put
 refine⟨by rw[DS];exact S.1,λa ha=>?_⟩
 rw[Ay]
 by_cases e:a=x/\x<t.size
 ·rw[if_pos e,DS]
  rw[<-e.1]
  exact S.2 a ha
 ·rw[if_neg e]
  exact S.2 a ha
theorem wU(t:Tab α){a b:Nat}(h:a+2<=b):t.of A a b=cell A t a b:=by
 unfold Tab.of cell
 rw[if_neg (by ac_rfl)]
theorem pL(t:Tab α)(a:Nat):t.of A a (a+1)=A.one:=by
 unfold Tab.of
 rw[if_pos rfl]
def inner(A:Alg α)(needs:List Span)(len:Nat)(t:Tab α)(a:Nat):Tab α:=if a=0 then t else put t a (a+len-1) (pressOf A needs t a (a+len-1))
theorem Gi(L:Laws A){n len:Nat}(hl:3<=len){t0:Tab α}(S:u9 n t0):∀k,k+len<=n+2->
  u9 n ((bA k).foldl (inner A needs len) t0)/\
  (∀x y,¬(1<=x/\x<k/\y=x+len-1)->cell A ((bA k).foldl (inner A needs len) t0) x y=cell A t0 x y)/\
  (∀x,1<=x->x<k->cell A ((bA k).foldl (inner A needs len) t0) x (x+len-1)=pressOf A needs t0 x (x+len-1))
 |0,_=>⟨S,λ_ _ _=>rfl,λx h1 h2=>by lia⟩
 |k+1,hk=>by
  obtain⟨S1,B1,C1⟩:=Gi L hl S k (by lia)
  rw[ot,qv]
  show u9 n (inner A needs len ((bA k).foldl (inner A needs len) t0) k)/\(∀x y,_->cell A (inner A needs len ((bA k).foldl (inner A needs len) t0) k) x y=_)/\(∀x,_->_->cell A (inner A needs len ((bA k).foldl (inner A needs len) t0) k) x (x+len-1)=_)
  generalize (bA k).foldl (inner A needs len) t0=t at S1 B1 C1
  unfold inner
  by_cases e:k=0
  ·subst e
   rw[if_pos rfl]
   exact⟨S1,λx y h=>B1 x y (by simp),λx h1 h2=>by lia⟩
  ·rw[if_neg e]
   have pe:pressOf A needs t k (k+len-1)=pressOf A needs t0 k (k+len-1):=by
    refine vo L (λc d h1 h2 h3 h4=>?_) (by omega)
    by_cases e2:d=c+1
    ·subst e2
     rw[pL,pL]
    ·rw[wU t (by lia),wU t0 (by lia)]
     exact B1 c d (by lia)
   refine⟨Mx S1 _ _ _,λx y h=>?_,λx h1 h2=>?_⟩
   ·rw[FO S1 (by lia) (by omega),if_neg (by lia)]
    exact B1 x y (by lia)
   ·rw[FO S1 (by lia) (by omega)]
    by_cases e3:x=k
    ·subst e3
     rw[if_pos ⟨rfl,rfl⟩]
     exact pe
    ·rw[if_neg (by lia)]
     exact C1 x h1 (by lia)
def outer(A:Alg α)(needs:List Span)(n:Nat)(t:Tab α)(len:Nat):Tab α:=if len<3 then t else(bA (n+2-len)).foldl (inner A needs len) t
theorem GQ(L:Laws A){n:Nat}{t0:Tab α}(S:u9 n t0):∀k,k<=n+1->
  u9 n ((bA k).foldl (outer A needs n) t0)/\
  (∀x y,1<=x->x+2<=y->y<=n->y+1-x<k->cell A ((bA k).foldl (outer A needs n) t0) x y=pressOf A needs ((bA k).foldl (outer A needs n) t0) x y)
 |0,_=>⟨S,λx y h1 h2 h3 h4=>by lia⟩
 |k+1,hk=>by
  obtain⟨S1,B1⟩:=GQ L S k (by ac_rfl)
  rw[ot,qv]
  show u9 n (outer A needs n ((bA k).foldl (outer A needs n) t0) k)/\(∀x y,_->_->_->_->cell A (outer A needs n ((bA k).foldl (outer A needs n) t0) k) x y=pressOf A needs (outer A needs n ((bA k).foldl (outer A needs n) t0) k) x y)
  generalize (bA k).foldl (outer A needs n) t0=t at S1 B1
  unfold outer
  by_cases e:k<3
  ·rw[if_pos e]
   exact⟨S1,λx y h1 h2 h3 h4=>by lia⟩
  ·rw[if_neg e]
   obtain⟨S2,B2,C2⟩:=Gi (needs:=needs) L (len:=k) (by ac_rfl) S1 (n+2-k) (by lia)
   generalize (bA (n+2-k)).foldl (inner A needs k) t=u at S2 B2 C2
   have al:∀x y,1<=x->y<=n->y+1-x<=k->Alike A u t x y:=λx y h1 h2 h3 c d g1 g2 g3 g4=>by
    by_cases e2:d=c+1
    ·subst e2
     rw[pL,pL]
    ·rw[wU u (by lia),wU t (by lia)]
     exact B2 c d (by lia)
   refine⟨S2,λx y h1 h2 h3 h4=>?_⟩
   rw[vo L (al x y h1 h3 (by lia)) h2]
   by_cases e3:y+1-x=k
   ·have e4:y=x+k-1:=by omega
    rw[e4]
    exact C2 x h1 (by lia)
   ·rw[B2 x y (by lia)]
    exact B1 x y h1 h2 h3 (by lia)
theorem Mw{n:Nat}{z:α}:u9 n (ja (n+2) (ja (n+2) z)):=by
 refine⟨HE,λa ha=>?_⟩
 have e:(ja (n+2) (ja (n+2) z)).getD a #[]=ja (n+2) z:=by
  simp[BL,ha]
 rw[e,HE]
theorem tabOf_eq(n:Nat):tabOf A needs n=(bA (n+1)).foldl (outer A needs n) (ja (n+2) (ja (n+2) A.none)):=rfl
theorem DM(L:Laws A){n a b:Nat}(h1:1<=a)(h2:a+2<=b)(h3:b<=n):
  (tabOf A needs n).of A a b=A.press (sumOver A ((firstOpts needs a b).map λd=>A.both (partOf A (tabOf A needs n) a d) (gN A needs (tabOf A needs n) a b (d+1)))):=by
 rw[<-vQ L _ h2,wU _ h2,tabOf_eq]
 exact(GQ L Mw (n+1) (ah _)).2 a b h1 h2 h3 (by lia)
end
end Bp
end
section
namespace Bp
open Vbpcau
structure Laws2{α:Type}(A:Alg α):Prop extends Laws A where
 comm:∀x y,A.either x y=A.either y x
 assoc:∀x y z,A.either (A.either x y) z=A.either x (A.either y z)
 Ni:∀x,A.both x A.one=x
theorem yU:∀x y,lessOf x y=lessOf y x
 |none,none=>rfl
 |none,aa _=>rfl
 |some _,none=>rfl
 |some a,aa b=>congrArg aa (Nat.min_comm a b)
theorem wL:∀x y z,lessOf (lessOf x y) z=lessOf x (lessOf y z)
 |none,none,none=>rfl
 |none,none,aa _=>rfl
 |none,aa _,none=>rfl
 |none,aa _,aa _=>rfl
 |some _,none,none=>rfl
 |some _,none,aa _=>rfl
 |some _,aa _,none=>rfl
 |some a,aa b,aa c=>congrArg aa (Nat.min_assoc a b c)
theorem iB(w:Nat):Laws2 (counting w):={my w with comm:=zk,assoc:=Nat.add_assoc,Ni:=Nat.mul_one}
theorem eR:Laws2 pressing:={p6 with comm:=yU,assoc:=wL,Ni:=λx=>by cases x<;>rfl}
theorem Il:∀x,nesting.both x nesting.one=x
 |none=>rfl
 |some a=>congrArg aa (Nat.max_zero a)
theorem i8:Laws2 nesting:={rp with comm:=yU,assoc:=wL,Ni:=Il}
section
variable{α:Type}{A:Alg α}{needs:List Span}
theorem n9(L:Laws2 A):∀(l:List α)(x:α),l.foldl A.either x=A.either x (sumOver A l)
 |[],x=>(L.TV x).symm
 |y::l,x=>by
  unfold sumOver
  rw[BM,BM,n9 L l,n9 L l,L.Lv,L.assoc]
theorem iY(L:Laws2 A)(x:α)(l:List α):sumOver A (x::l)=A.either x (sumOver A l):=by
 show l.foldl A.either (A.either A.none x)=_
 rw[L.Lv,n9 L]
theorem By(L:Laws2 A)(l m:List α):sumOver A (l++m)=A.either (sumOver A l) (sumOver A m):=by
 unfold sumOver
 rw[qv,n9 L]
 rfl
theorem Fg(L:Laws2 A)(l:List α)(x:α):sumOver A (l++[x])=sumOver A (x::l):=by
 have e:sumOver A [x]=x:=L.Lv x
 rw[By L,iY L x l,L.comm,e]
def WF(needs:List Span):Prop:=∀s∈needs,s.1<s.2
def ib(needs:List Span)(a b d:Nat):Bool:=needs.all λs=>!(decide (a<=s.1)&&decide (s.2<=b)&&decide (s≠(a,b))&&decide (s.1<=d)&&decide (d<s.2))
theorem iz{a b d:Nat}:ib needs a b d=true↔∀s∈needs,a<=s.1->s.2<=b->s≠(a,b)->s.1<=d->s.2<=d:=by
 unfold ib
 rw[gB]
 constructor
 ·intro h s hs h1 h2 h3 h4
  have q:=h s hs
  simp[h1,h2,h3,h4]at q
  exact q
 ·intro h s hs
  by_cases h1:a<=s.1
  ·by_cases h2:s.2<=b
   ·by_cases h3:s=(a,b)
    ·simp[h3]
    ·by_cases h4:s.1<=d
     ·have q:=h s hs h1 h2 h3 h4
      simp[h1,h2,h3,h4]
      exact q
     ·simp[h4]
   ·simp[h2]
  ·simp[h1]
def gn(needs:List Span)(a b:Nat):List Nat:=((bA (b-a)).map λi=>a+i).filter λd=>ib needs a b d
theorem d9{a b d:Nat}:d∈gn needs a b↔a<=d/\d<b/\ib needs a b d=true:=by
 unfold gn
 rw[bu,bB]
 constructor
 ·rintro⟨⟨i,hi,rfl⟩,h⟩
  rw[dF]at hi
  exact⟨by ac_rfl,by omega,h⟩
 ·rintro⟨h1,h2,h⟩
  exact⟨⟨d-a,by rw[dF];lia,by lia⟩,h⟩
theorem pF{a b c d:Nat}:allowed needs a b c d=true↔(c<d\/c=a\/d=b)/\∀s∈needs,s.1<a\/b<s.2\/s=(a,b)\/s.2<c\/d<s.1\/(c<=s.1/\s.2<=d):=by
 unfold allowed
 rw[ak,oo,oo,gB,decide_eq_true_iff,beq_iff_eq,beq_iff_eq]
 simp only[decide_eq_true_iff]
theorem zQ{p q:Bool}(h:p=true↔q=true):p=q:=by
 cases p<;>cases q<;>simp_all
theorem BZ(W:WF needs){a b d:Nat}:allowed needs a b a d=ib needs a b d:=by
 refine zQ ?_
 rw[pF,iz]
 constructor
 ·rintro⟨_,h⟩ s hs h1 h2 h3 h4
  have w:=W s hs
  rcases h s hs with q|q|q|q|q|q
  ·lia
  ·lia
  ·exact absurd q h3
  ·lia
  ·lia
  ·exact q.2
 ·intro h
  refine⟨.inr (.inl rfl),λs hs=>?_⟩
  have w:=W s hs
  by_cases h1:a<=s.1
  ·by_cases h2:s.2<=b
   ·by_cases h3:s=(a,b)
    ·exact .inr (.inr (.inl h3))
    ·by_cases h4:s.1<=d
     ·exact .inr (.inr (.inr (.inr (.inr ⟨h1,h s hs h1 h2 h3 h4⟩))))
     ·exact .inr (.inr (.inr (.inr (.inl (by ac_rfl)))))
   ·exact .inr (.inl (by ac_rfl))
  ·exact .inl (by ac_rfl)
theorem tm(W:WF needs)(a b:Nat):firstOpts needs a b=gn needs a b:=by
 unfold firstOpts gn
 congr 1
 funext d
 exact BZ W
def kl(needs:List Span)(a b c:Nat):Prop:=∀s∈needs,a<=s.1->s.2<=b->s≠(a,b)->s.1<c->s.2<c
theorem mn{a b d:Nat}(h:ib needs a b d=true):kl needs a b (d+1):=λs hs h1 h2 h3 h4=>by
 have q:=iz.mp h s hs h1 h2 h3 (by lia)
 ac_rfl
theorem B0{a b c d:Nat}(hs:kl needs a b c)(h1:a<c)(h2:c<=d)(h3:d<b):allowed needs a b c d=(decide (c<d)&&ib needs a b d):=by
 refine zQ ?_
 rw[pF,ak,iz,decide_eq_true_iff]
 constructor
 ·rintro⟨q,h⟩
  refine⟨by lia,λs hs' g1 g2 g3 g4=>?_⟩
  rcases h s hs' with q|q|q|q|q|q
  ·lia
  ·lia
  ·exact absurd q g3
  ·lia
  ·lia
  ·exact q.2
 ·rintro⟨q,h⟩
  refine⟨.inl q,λs hs'=>?_⟩
  by_cases g1:a<=s.1
  ·by_cases g2:s.2<=b
   ·by_cases g3:s=(a,b)
    ·exact .inr (.inr (.inl g3))
    ·by_cases g4:s.1<=d
     ·have z:=h s hs' g1 g2 g3 g4
      by_cases g5:s.1<c
      ·have z2:=hs s hs' g1 g2 g3 g5
       omega
      ·omega
     ·omega
   ·omega
  ·omega
theorem D1{a b c:Nat}(hs:kl needs a b c):allowed needs a b c b=true:=by
 rw[pF]
 refine⟨.inr (.inr rfl),λs hs'=>?_⟩
 by_cases g1:a<=s.1
 ·by_cases g2:s.2<=b
  ·by_cases g3:s=(a,b)
   ·exact .inr (.inr (.inl g3))
   ·by_cases g5:s.1<c
    ·have z2:=hs s hs' g1 g2 g3 g5
     omega
    ·omega
  ·omega
 ·omega
theorem kf(p:Nat->Bool)(a c b:Nat)(h1:a<=c)(h2:c<=b):(((bA (b-a)).map λi=>a+i).filter λd=>decide (c<d)&&p d)=((bA (b-c)).map λi=>c+i).filter λd=>decide (c<d)&&p d:=by
 have e:b-a=(c-a)+(b-c):=by lia
 rw[e,List.range_add,aB,cB,dQ]
 have e1:(((bA (c-a)).map λi=>a+i).filter λd=>decide (c<d)&&p d)=[]:=by
  rw[lO]
  intro d hd
  rw[bB]at hd
  obtain⟨i,hi,rfl⟩:=hd
  rw[dF]at hi
  have q:¬c<a+i:=by lia
  simp[q]
 rw[e1,BN]
 congr 2
 funext i
 show a+(c-a+i)=c+i
 lia
theorem oh{a b c:Nat}(hs:kl needs a b c)(h1:a<c)(h2:c<=b):jS needs a b c=(gn needs a b).filter (λd=>decide (c<d))++[b]:=by
 unfold jS gn
 have e:b+1-c=(b-c)+1:=by lia
 rw[e,ot,aB,cB]
 congr 1
 ·rw[gF]
  rw[kf (λd=>ib needs a b d) a c b (by ac_rfl) h2]
  refine qr λd hd=>?_
  rw[bB]at hd
  obtain⟨i,hi,rfl⟩:=hd
  rw[dF]at hi
  exact B0 hs h1 (by ac_rfl) (by omega)
 ·show([c+(b-c)]:List Nat).filter _=_
  have e2:c+(b-c)=b:=by omega
  rw[e2,da,if_pos (D1 hs),fQ]
theorem G1{needs':List Span}(t:Tab α){a a' b:Nat}:∀(m c:Nat),b+1-c=m->a<c->a'<c->c<=b+1->kl needs a b c->kl needs' a' b c->(∀d,c<=d->d<b->ib needs a b d=ib needs' a' b d)->
  gN A needs t a b c=gN A needs' t a' b c:=by
 intro m
 induction m using jj with
 |ind m ih=>
  intro c hm h1 h1' h2 hs hs' hc
  by_cases e:c=b+1
  ·subst e
   rw[jx,jx]
  ·rw[iN t (by lia),iN t (by lia),oh hs h1 (by lia),oh hs' h1' (by lia)]
   have e1:(gn needs a b).filter (λd=>decide (c<d))=(gn needs' a' b).filter (λd=>decide (c<d)):=by
    unfold gn
    rw[gF,gF,kf (λd=>ib needs a b d) a c b (by ac_rfl) (by lia),kf (λd=>ib needs' a' b d) a' c b (by ac_rfl) (by lia)]
    refine qr λd hd=>?_
    rw[bB]at hd
    obtain⟨i,hi,rfl⟩:=hd
    rw[dF]at hi
    rw[hc (c+i) (by ac_rfl) (by lia)]
   rw[<-e1]
   congr 1
   refine bg λd hd=>?_
   rw[ck,bu,d9]at hd
   congr 1
   rcases hd with ⟨⟨g1,g2,g3⟩,g4⟩|g
   ·have g4':c<d:=of_decide_eq_true g4
    exact ih (b+1-(d+1)) (by lia) (d+1) rfl (by ac_rfl) (by lia) (by ac_rfl) (mn g3) (mn (by rw[<-hc d (by ac_rfl) g2];exact g3)) λd' q1 q2=>hc d' (by lia) q2
   ·have g':d=b:=aK.mp g
    subst g'
    rw[jx,jx]
def restOf(A:Alg α)(needs:List Span)(t:Tab α)(c b:Nat):α:=gN A (needs.filter λs=>decide (c<=s.1)) t (c-1) b c
theorem xp{b c:Nat}:kl (needs.filter λs=>decide (c<=s.1)) (c-1) b c:=λs hs _ _ _ h=>by
 rw[bu]at hs
 have:=of_decide_eq_true hs.2
 lia
theorem Gk{a b c d:Nat}(hs:kl needs a b c)(h1:a<c)(h2:c<=d)(h3:d<b):ib needs a b d=ib (needs.filter λs=>decide (c<=s.1)) (c-1) b d:=by
 refine zQ ?_
 rw[iz,iz]
 constructor
 ·intro h s hs' g1 g2 g3 g4
  rw[bu]at hs'
  have g5:c<=s.1:=of_decide_eq_true hs'.2
  exact h s hs'.1 (by lia) g2 (λe=>by rw[e]at g5;exact absurd g5 (by show¬c<=a;ac_rfl)) g4
 ·intro h s hs' g1 g2 g3 g4
  by_cases g5:c<=s.1
  ·exact h s (bu.mpr ⟨hs',decide_eq_true g5⟩) (by lia) g2 (λe=>by rw[e]at g5;exact absurd g5 (by show¬c<=c-1;omega)) g4
  ·have:=hs s hs' g1 g2 g3 (by ac_rfl)
   lia
theorem p9(t:Tab α){a b c:Nat}(hs:kl needs a b c)(h1:a<c)(h2:c<=b+1):gN A needs t a b c=restOf A needs t c b:=
 G1 t _ c rfl h1 (by lia) h2 hs xp λ_ q1 q2=>Gk hs h1 q1 q2
theorem xx(L:Laws A)(W:WF needs){n a b:Nat}(h1:1<=a)(h2:a+2<=b)(h3:b<=n):
  (tabOf A needs n).of A a b=A.press (sumOver A ((gn needs a b).map λd=>A.both (partOf A (tabOf A needs n) a d) (restOf A needs (tabOf A needs n) (d+1) b))):=by
 rw[DM L h1 h2 h3,tm W]
 congr 2
 refine bg λd hd=>?_
 rw[d9]at hd
 rw[p9 _ (mn hd.2.2) (by lia) (by lia)]
theorem iU(t:Tab α)(b:Nat):restOf A needs t (b+1) b=A.one:=jx _ _ _
theorem rh(W:WF needs){b c:Nat}(h1:1<=c)(h2:c<=b):(gn (needs.filter λs=>decide (c<=s.1)) (c-1) b).filter (λd=>decide (c<d))=if(c,b)∈needs then[]else(gn needs c b).filter λd=>decide (c<d):=by
 unfold gn
 rw[gF,kf (λd=>ib _ (c-1) b d) (c-1) c b (by simp) h2]
 by_cases e:(c,b)∈needs
 ·rw[if_pos e,lO]
  intro d hd hq
  rw[bB]at hd
  obtain⟨i,hi,rfl⟩:=hd
  rw[dF]at hi
  rw[ak]at hq
  have q:=iz.mp hq.2 (c,b) (bu.mpr ⟨e,decide_eq_true (ah c)⟩) (by show c-1<=c;simp) (ah b) (λz=>by have z1:=(pE z).1;lia) (by show c<=c+i;ac_rfl)
  have q':b<=c+i:=q
  omega
 ·rw[if_neg e,gF]
  refine qr λd hd=>?_
  rw[bB]at hd
  obtain⟨i,hi,rfl⟩:=hd
  rw[dF]at hi
  congr 1
  refine zQ ?_
  rw[iz,iz]
  constructor
  ·intro h s hs' g1 g2 g3 g4
   exact h s (bu.mpr ⟨hs',decide_eq_true g1⟩) (by lia) g2 (λz=>by rw[z]at g1;exact absurd g1 (by show¬c<=c-1;lia)) g4
  ·intro h s hs' g1 g2 g3 g4
   rw[bu]at hs'
   exact h s hs'.1 (of_decide_eq_true hs'.2) g2 (λz=>by rw[z]at hs';exact e hs'.1) g4
theorem y1(W:WF needs)(t:Tab α){b c:Nat}(h1:1<=c)(h2:c<=b):
  restOf A needs t c b=sumOver A (((if(c,b)∈needs then[]else(gn needs c b).filter λd=>decide (c<d))++[b]).map λd=>A.both (partOf A t c d) (restOf A needs t (d+1) b)):=by
 have e0:restOf A needs t c b=gN A (needs.filter λs=>decide (c<=s.1)) t (c-1) b c:=rfl
 rw[e0,iN t h2,oh xp (by omega) h2,rh W h1 h2]
 congr 1
 refine bg λd hd=>?_
 congr 1
 rw[ck]at hd
 rcases hd with g|g
 ·rw[<-rh W h1 h2,bu,d9]at g
  have g4:c<d:=of_decide_eq_true g.2
  have st:kl needs c b (d+1)->gN A (needs.filter λs=>decide (c<=s.1)) t (c-1) b (d+1)=restOf A needs t (d+1) b:=λ_=>by
   rw[p9 t (mn g.1.2.2) (by lia) (by lia)]
   unfold restOf
   rw[gF]
   congr 1
   refine qr λs _=>?_
   by_cases z:d+1<=s.1
   ·have z2:c<=s.1:=by lia
    simp[z,z2]
   ·simp[z]
  by_cases e:(c,b)∈needs
  ·have g':d∈(gn (needs.filter λs=>decide (c<=s.1)) (c-1) b).filter (λd=>decide (c<d)):=bu.mpr ⟨d9.mpr g.1,g.2⟩
   rw[rh W h1 h2,if_pos e]at g'
   exact absurd g' (by simp)
  ·have g':d∈(gn (needs.filter λs=>decide (c<=s.1)) (c-1) b).filter (λd=>decide (c<d)):=bu.mpr ⟨d9.mpr g.1,g.2⟩
   rw[rh W h1 h2,if_neg e,bu,d9]at g'
   exact st (mn g'.1.2.2)
 ·have g':d=b:=aK.mp g
  subst g'
  rw[jx,iU]
theorem pR(L:Laws2 A)(W:WF needs)(t:Tab α){b c:Nat}(h1:1<=c)(h2:c<b):
  restOf A needs t c b=sumOver A (t.of A c b::(if(c,b)∈needs then[]else((gn needs c b).filter λd=>decide (c<d)).map λd=>A.both (partOf A t c d) (restOf A needs t (d+1) b))):=by
 rw[y1 W t h1 (by ac_rfl),aB]
 have e:([b]:List Nat).map (λd=>A.both (partOf A t c d) (restOf A needs t (d+1) b))=[t.of A c b]:=by
  show[A.both (partOf A t c b) (restOf A needs t (b+1) b)]=_
  rw[iU,L.Ni]
  unfold partOf
  rw[if_neg (by ac_rfl)]
 rw[e,Fg L]
 congr 2
 by_cases q:(c,b)∈needs
 ·rw[if_pos q,if_pos q]
  rfl
 ·rw[if_neg q,if_neg q]
theorem tM(L:Laws2 A)(W:WF needs)(t:Tab α){b:Nat}(h1:1<=b):restOf A needs t b b=A.one:=by
 rw[y1 W t h1 (ah b)]
 have e:(if(b,b)∈needs then([]:List Nat)else(gn needs b b).filter λd=>decide (b<d))=[]:=by
  by_cases q:(b,b)∈needs
  ·rw[if_pos q]
  ·rw[if_neg q]
   unfold gn
   rw[j7]
   rfl
 rw[e]
 show A.either A.none (A.both (partOf A t b b) (restOf A needs t (b+1) b))=_
 rw[iU,L.Ni,L.Lv]
 unfold partOf
 rw[if_pos rfl]
theorem yZ(L:Laws2 A)(W:WF needs)(t:Tab α){c:Nat}(h1:1<=c):restOf A needs t c (c+1)=A.one:=by
 rw[pR L W t h1 (by ac_rfl)]
 have e:(if(c,c+1)∈needs then([]:List α)else((gn needs c (c+1)).filter λd=>decide (c<d)).map λd=>A.both (partOf A t c d) (restOf A needs t (d+1) (c+1)))=[]:=by
  by_cases q:(c,c+1)∈needs
  ·rw[if_pos q]
  ·rw[if_neg q]
   have e2:(gn needs c (c+1)).filter (λd=>decide (c<d))=[]:=by
    rw[lO]
    intro d hd
    rw[d9]at hd
    have:¬c<d:=by lia
    simp[this]
   rw[e2]
   rfl
 rw[e]
 show A.either A.none (t.of A c (c+1))=_
 rw[L.Lv,pL]
end
end Bp
end
section
namespace Bp
open Vbpcau
structure Jx{α:Type}(A:Alg α):Prop extends Laws2 A where
 Px:∀x,A.both A.none x=A.none
 pn:A.press A.none=A.none
theorem oW:Jx pressing:={eR with Px:=λx=>by cases x<;>rfl,pn:=rfl}
theorem vi:Jx nesting:={i8 with Px:=λx=>by cases x<;>rfl,pn:=rfl}
section
variable{α:Type}{A:Alg α}{needs:List Span}
theorem vx(L:Laws A):∀(l:List α),(∀x∈l,x=A.none)->sumOver A l=A.none:=by
 intro l
 unfold sumOver
 induction l with
 |nil=>intro _;rfl
 |cons x l ih=>
  intro h
  rw[BM,h x ay,L.Lv]
  exact ih λy hy=>h y (ax _ hy)
theorem yL{s u:Span}:crosses s u=true↔s.1<u.1/\u.1<=s.2/\s.2<u.2:=by
 unfold crosses
 rw[decide_eq_true_iff]
theorem HQ(L:Jx A){n:Nat}{s u:Span}(hs:s∈needs)(hu:u∈needs)(hc:crosses s u=true):∀(m a b:Nat),b-a=m->1<=a->b<=n->a<=s.1->u.2<=b->
  (tabOf A needs n).of A a b=A.none:=by
 obtain⟨c1,c2,c3⟩:=yL.mp hc
 intro m
 induction m using jj with
 |ind m ih=>
  intro a b hm h1 h2 h3 h4
  have nw:s≠(a,b):=λe=>by rw[e]at c3;exact absurd c3 (by show¬b<u.2;ac_rfl)
  have nu:u≠(a,b):=λe=>by rw[e]at c1;exact absurd c1 (by show¬s.1<a;ac_rfl)
  have part:∀c d,a<=c->d<=b->¬(c=a/\d=b)->allowed needs a b c d=true->c<=u.1->u.1<=d->partOf A (tabOf A needs n) c d=A.none:=λc d g1 g2 g3 g4 g5 g6=>by
   have q:=(pF.mp g4).2
   have qs:c<=s.1/\s.2<=d:=by
    rcases q s hs with z|z|z|z|z|z
    ·lia
    ·lia
    ·exact absurd z nw
    ·lia
    ·lia
    ·exact z
   have qu:c<=u.1/\u.2<=d:=by
    rcases q u hu with z|z|z|z|z|z
    ·lia
    ·lia
    ·exact absurd z nu
    ·lia
    ·lia
    ·exact z
   unfold partOf
   rw[if_neg (by lia)]
   exact ih (d-c) (by lia) c d rfl (by lia) (by lia) qs.1 qu.2
  have rest:∀(k c:Nat),b+1-c=k->a<c->c<=u.1->gN A needs (tabOf A needs n) a b c=A.none:=by
   intro k
   induction k using jj with
   |ind k ihk=>
    intro c hk g1 g2
    rw[iN _ (by lia)]
    refine vx L.toLaws _ λx hx=>?_
    rw[bB]at hx
    obtain⟨d,hd,rfl⟩:=hx
    rw[rq]at hd
    by_cases e:u.1<=d
    ·rw[part c d (by ac_rfl) hd.2.1 (by lia) hd.2.2 g2 e,L.Px]
    ·rw[ihk (b+1-(d+1)) (by omega) (d+1) rfl (by lia) (by ac_rfl),L.Nm]
  rw[DM L.toLaws h1 (by lia) h2]
  have e:sumOver A ((firstOpts needs a b).map λd=>A.both (partOf A (tabOf A needs n) a d) (gN A needs (tabOf A needs n) a b (d+1)))=A.none:=by
   refine vx L.toLaws _ λx hx=>?_
   rw[bB]at hx
   obtain⟨d,hd,rfl⟩:=hx
   rw[p7]at hd
   by_cases e:u.1<=d
   ·rw[part a d (ah _) (by lia) (by lia) hd.2.2 (by lia) e,L.Px]
   ·rw[rest _ (d+1) rfl (by lia) (by lia),L.Nm]
  rw[e,L.pn]
end
def d4(needs:List Span):Prop:=∀s∈needs,∀u∈needs,crosses s u=false
theorem Im{needs:List Span}(N:d4 needs){s u:Span}(hs:s∈needs)(hu:u∈needs)(h1:s.1<u.1)(h2:u.1<=s.2):u.2<=s.2:=by
 have q:=N s hs u hu
 by_cases h3:s.2<u.2
 ·rw[yL.mpr ⟨h1,h2,h3⟩]at q
  cases q
 ·ac_rfl
theorem Gd{needs:List Span}(p:Span->Prop):∀(l:List Span),(∃s∈l,p s)->∃s∈l,p s/\∀u∈l,p u->u.2<=s.2
 |[],h=>by obtain⟨s,hs,_⟩:=h;cases hs
 |x::l,h=>by
  by_cases q:∃s∈l,p s
  ·obtain⟨s,hs,ps,hg⟩:=Gd (needs:=needs) p l q
   by_cases z:p x/\s.2<x.2
   ·refine⟨x,ay,z.1,λu hu pu=>?_⟩
    rcases aG.mp hu with e|e
    ·rw[e];exact ah _
    ·exact aX (hg u e pu) (lU z.2)
   ·refine⟨s,ax _ hs,ps,λu hu pu=>?_⟩
    rcases aG.mp hu with e|e
    ·subst e
     by_cases w:s.2<u.2
     ·exact absurd ⟨pu,w⟩ z
     ·ac_rfl
    ·exact hg u e pu
  ·obtain⟨s,hs,ps⟩:=h
   rcases aG.mp hs with e|e
   ·subst e
    refine⟨s,ay,ps,λu hu pu=>?_⟩
    rcases aG.mp hu with e|e
    ·rw[e];exact ah _
    ·exact absurd ⟨u,e,pu⟩ q
   ·exact absurd ⟨s,e,ps⟩ q
theorem Bs{needs:List Span}(W:WF needs)(N:d4 needs){a b:Nat}(h:a<b):∃d,d∈gn needs a b:=by
 by_cases q:∃s∈needs,s.1=a/\s.2<=b/\s≠(a,b)
 ·obtain⟨s,hs,⟨p1,p2,p3⟩,hg⟩:=Gd (needs:=needs) (λs=>s.1=a/\s.2<=b/\s≠(a,b)) needs q
  have w:=W s hs
  have p4:s.2≠b:=λe=>p3 (by rw[<-p1,<-e])
  refine⟨s.2,d9.mpr ⟨by lia,by lia,iz.mpr λu hu g1 g2 g3 g4=>?_⟩⟩
  by_cases e:u.1=a
  ·exact hg u hu ⟨e,g2,g3⟩
  ·exact Im N hs hu (by lia) g4
 ·refine⟨a,d9.mpr ⟨ah _,h,iz.mpr λu hu g1 g2 g3 g4=>?_⟩⟩
  exact absurd ⟨u,hu,by lia,g2,g3⟩ q
structure va(A:Alg (Option Nat)):Prop where
 one:A.one.isSome=true
 either:∀x y,x.isSome=true->(A.either x y).isSome=true
 both:∀x y,x.isSome=true->y.isSome=true->(A.both x y).isSome=true
 press:∀x,x.isSome=true->(A.press x).isSome=true
theorem iH:va pressing where
 one:=rfl
 either:=λx y h=>by cases x<;>cases y<;>first|rfl|(cases h)
 both:=λx y h h'=>by cases x<;>cases y<;>first|rfl|exact h|exact h'|(cases h;done)|(cases h';done)
 press:=λx h=>by cases x<;>first|rfl|(cases h)
theorem mD:va nesting where
 one:=rfl
 either:=λx y h=>by cases x<;>cases y<;>first|rfl|(cases h)
 both:=λx y h h'=>by cases x<;>cases y<;>first|rfl|exact h|exact h'|(cases h;done)|(cases h';done)
 press:=λx h=>by cases x<;>first|rfl|(cases h)
theorem om{A:Alg (Option Nat)}(L:Laws2 A)(S:va A):∀(l:List (Option Nat))(x:Option Nat),x∈l->x.isSome=true->(sumOver A l).isSome=true
 |[],x,h,_=>by cases h
 |y::l,x,h,hx=>by
  rw[iY L]
  rcases aG.mp h with e|e
  ·subst e
   exact S.either _ _ hx
  ·rw[L.comm]
   exact S.either _ _ (om L S l x e hx)
theorem all_some{A:Alg (Option Nat)}{needs:List Span}(L:Laws2 A)(S:va A)(W:WF needs)(N:d4 needs){n:Nat}:∀(m a b:Nat),b-a=m->1<=a->b<=n->
  (a<b->((tabOf A needs n).of A a b).isSome=true)/\(a<=b->(restOf A needs (tabOf A needs n) a b).isSome=true):=by
 intro m
 induction m using jj with
 |ind m ih=>
  intro a b hm h1 h2
  have first:a<b->((tabOf A needs n).of A a b).isSome=true:=λh=>by
   by_cases e:b=a+1
   ·subst e
    rw[pL]
    exact S.one
   ·rw[xx L.toLaws W h1 (by lia) h2]
    refine S.press _ ?_
    obtain⟨d,hd⟩:=Bs W N h
    have hd':=d9.mp hd
    refine om L S _ _ (bB.mpr ⟨d,hd,rfl⟩) (S.both _ _ ?_ ?_)
    ·unfold partOf
     by_cases z:a=d
     ·rw[if_pos z]
      exact S.one
     ·rw[if_neg z]
      exact(ih (d-a) (by lia) a d rfl h1 (by lia)).1 (by lia)
    ·by_cases z:d+1<=b
     ·exact(ih (b-(d+1)) (by lia) (d+1) b rfl (by ac_rfl) h2).2 z
     ·lia
  refine⟨first,λh=>?_⟩
  by_cases e:a=b
  ·subst e
   rw[tM L W _ h1]
   exact S.one
  ·rw[pR L W _ h1 (by lia)]
   exact om L S _ _ ay (first (by lia))
end Bp
end
section
namespace Bp
open Vbpcau
def ends(needs:List Span)(a b c:Nat):List Nat:=if c=a then gn needs a b else if c<=b then(gn needs a b).filter (λd=>decide (c<d))++[b]else[]
def At(needs:List Span)(a b c n:Nat)(s:Bool):Prop:=(c=a/\n=0/\s=false)\/(a<c/\c<=b+1/\1<=n/\n<=2/\(s=true\/c=a+1)/\kl needs a b c)
section
variable{α:Type}{A:Alg α}{needs:List Span}
theorem dC{a b c d:Nat}(h:d∈ends needs a b c)(hc:a<=c):c<=d/\d<=b/\(d<b->ib needs a b d=true)/\(c=a->d<b):=by
 unfold ends at h
 by_cases e:c=a
 ·rw[if_pos e,d9]at h
  exact⟨by lia,by lia,λ_=>h.2.2,λ_=>h.2.1⟩
 ·rw[if_neg e]at h
  by_cases e2:c<=b
  ·rw[if_pos e2,ck,bu,d9]at h
   rcases h with h|h
   ·have:=of_decide_eq_true h.2
    exact⟨by ac_rfl,by lia,λ_=>h.1.2.2,λz=>absurd z e⟩
   ·have:=aK.mp h
    exact⟨by lia,by lia,λz=>by lia,λz=>absurd z e⟩
  ·rw[if_neg e2]at h
   cases h
theorem Lw{a b c d:Nat}(h:d∈ends needs a b c)(h1:a<c)(h2:c<b):c<d:=by
 unfold ends at h
 rw[if_neg (by ac_rfl),if_pos (by ac_rfl),ck,bu]at h
 rcases h with h|h
 ·exact of_decide_eq_true h.2
 ·have:=aK.mp h
  lia
theorem At.starts{a b c n d:Nat}{s:Bool}(h:At needs a b c n s)(hab:a+2<=b)(hd:d∈ends needs a b c):At needs a b (d+1) (min 2 (n+1)) (s||decide (c<d)):=by
 have hc:a<=c:=by rcases h with h|h<;>lia
 have m:=dC hd hc
 have st:kl needs a b (d+1):=by
  by_cases e:d<b
  ·exact mn (m.2.2.1 e)
  ·intro s' _ _ q _ _
   lia
 rcases h with ⟨h1,h2,h3⟩|⟨h1,h2,h3,h4,h5,h6⟩
 ·subst h1 h2 h3
  refine .inr ⟨by lia,by lia,by ac_rfl,by decide,?_,st⟩
  by_cases e:c<d
  ·rw[decide_eq_true e]
   exact .inl rfl
  ·exact .inr (by lia)
 ·refine .inr ⟨by lia,by lia,by lia,by lia,.inl ?_,st⟩
  rcases h5 with h5|h5
  ·rw[h5]
   rfl
  ·by_cases e:c<b
   ·rw[decide_eq_true (Lw hd h1 e),Bool.or_true]
   ·omega
theorem At.next{a b c n d:Nat}{s:Bool}(h:At needs a b c n s)(t:Tab α)(hab:a+2<=b)(hd:d∈ends needs a b c):
  (jh A needs t a b (d+1)).at_ A (min 2 (n+1)) (s||decide (c<d))=restOf A needs t (d+1) b:=by
 have hc:a<=c:=by rcases h with h|h<;>lia
 have m:=dC hd hc
 have h':=h.starts hab hd
 have st:kl needs a b (d+1):=by
  rcases h' with z|z
  ·lia
  ·exact z.2.2.2.2.2
 rw[<-p9 t st (by lia) (by lia)]
 rcases h with ⟨h1,h2,h3⟩|⟨h1,h2,h3,h4,h5,h6⟩
 ·subst h1 h2 h3
  exact wA t hab m.1 (m.2.2.2 rfl)
 ·have e1:min 2 (n+1)=2:=by lia
  rw[e1]
  rcases h' with z|⟨_,_,_,_,z,_⟩
  ·lia
  ·rcases z with z|z
   ·rw[z]
    rfl
   ·lia
theorem pP(W:WF needs){a b c n:Nat}{s:Bool}(h:At needs a b c n s)(hab:a+2<=b):jS needs a b c=ends needs a b c++(if c=a/\allowed needs a b a b=true then[b]else[]):=by
 rcases h with ⟨h1,h2,h3⟩|⟨h1,h2,h3,h4,h5,h6⟩
 ·subst h1
  rw[wY (by lia),tm W]
  unfold ends
  rw[if_pos rfl]
  congr 1
  by_cases q:allowed needs c b c b=true
  ·rw[if_pos q,if_pos ⟨rfl,q⟩]
  ·rw[if_neg q,if_neg (λz=>q z.2)]
 ·rw[if_neg (by lia),aZ]
  unfold ends
  rw[if_neg (by ac_rfl)]
  by_cases e:c<=b
  ·rw[if_pos e,oh h6 h1 e]
  ·rw[if_neg e]
   unfold jS
   have e1:b+1-c=0:=by lia
   rw[e1]
   rfl
theorem At.whole{a b c n:Nat}{s:Bool}(h:At needs a b c n s)(t:Tab α)(hc:c=a)(s':Bool):(jh A needs t a b (b+1)).at_ A (min 2 (n+1)) s'=A.none:=by
 rcases h with ⟨h1,h2,h3⟩|⟨h1,_⟩
 ·subst h2
  exact wB t s'
 ·lia
theorem ni(t:Tab α){a b d:Nat}(h1:a<=d)(h2:d<=b):(sixes A needs t a b (b+1-a)).getD (d+1-a) []=jh A needs t a b (d+1):=G8 t (by ac_rfl) (by ac_rfl)
end
theorem yJ(b:Nat):∀(l:List (Nat×Nat))(k:Nat),choose (l++[(b,0)]) k=choose l k
 |[],k=>by
  show(if k<0 then _ else choose [] (k-0))=_
  rw[if_neg (by ac_rfl)]
  rfl
 |(d,w)::l,k=>by
  show(if k<w then _ else choose (l++[(b,0)]) (k-w))=if k<w then _ else choose l (k-w)
  rw[yJ b l]
theorem yH(d b:Nat):∀(l:List (Nat×Nat)),weightBefore d (l++[(b,0)])=weightBefore d l
 |[]=>by
  show(if b=d then 0 else 0+0)=0
  split<;>rfl
 |(e,w)::l=>by
  show(if e=d then 0 else w+weightBefore d (l++[(b,0)]))=if e=d then 0 else w+weightBefore d l
  rw[yH d b l]
section
variable{needs:List Span}
def iJ(needs:List Span)(t:Tab Nat)(a b c:Nat):List (Nat×Nat):=(ends needs a b c).map λd=>(d,partOf (counting 1) t c d*restOf (counting 1) needs t (d+1) b)
theorem K3(W:WF needs)(t:Tab Nat){a b c n:Nat}{s:Bool}(h:At needs a b c n s)(hab:a+2<=b):
  ways needs t (sixes (counting 1) needs t a b (b+1-a)) a b c n s=iJ needs t a b c++(if c=a/\allowed needs a b a b=true then[(b,0)]else[]):=by
 have hc:a<=c:=by rcases h with h|h<;>lia
 show(jS needs a b c).map (λd=>(d,partOf (counting 1) t c d*((sixes (counting 1) needs t a b (b+1-a)).getD (d+1-a) []).at_ (counting 1) (min 2 (n+1)) (s||decide (c<d))))=_
 rw[pP W h hab,aB]
 congr 1
 ·refine bg λd hd=>?_
  have m:=dC hd hc
  rw[ni t (by lia) m.2.1,h.next t hab hd]
 ·by_cases q:c=a/\allowed needs a b a b=true
  ·rw[if_pos q,if_pos q]
   show[(b,partOf (counting 1) t c b*((sixes (counting 1) needs t a b (b+1-a)).getD (b+1-a) []).at_ (counting 1) (min 2 (n+1)) (s||decide (c<b)))]=_
   rw[ni t (by lia) (ah b),h.whole t q.1]
   rfl
  ·rw[if_neg q,if_neg q]
   rfl
theorem FP(W:WF needs)(t:Tab Nat){a b c n:Nat}{s:Bool}(h:At needs a b c n s)(hab:a+2<=b)(k:Nat):
  choose (ways needs t (sixes (counting 1) needs t a b (b+1-a)) a b c n s) k=choose (iJ needs t a b c) k:=by
 rw[K3 W t h hab]
 by_cases q:c=a/\allowed needs a b a b=true
 ·rw[if_pos q,yJ]
 ·rw[if_neg q,aZ]
theorem FJ(W:WF needs)(t:Tab Nat){a b c n:Nat}{s:Bool}(h:At needs a b c n s)(hab:a+2<=b)(d:Nat):
  weightBefore d (ways needs t (sixes (counting 1) needs t a b (b+1-a)) a b c n s)=weightBefore d (iJ needs t a b c):=by
 rw[K3 W t h hab]
 by_cases q:c=a/\allowed needs a b a b=true
 ·rw[if_pos q,yH]
 ·rw[if_neg q,aZ]
theorem vC:∀{l:List (Nat×Nat)}{k d j:Nat},choose l k=aa (d,j)->∃w,(d,w)∈l/\j<w
 |[],k,d,j,h=>by cases h
 |(e,w)::l,k,d,j,h=>by
  have h':(if k<w then aa (e,k)else choose l (k-w))=aa (d,j):=h
  by_cases q:k<w
  ·rw[if_pos q]at h'
   cases h'
   exact⟨w,ay,q⟩
  ·rw[if_neg q]at h'
   obtain⟨w',h1,h2⟩:=vC h'
   exact⟨w',ax _ h1,h2⟩
mutual
def Sk(needs:List Span)(t:Tab Nat):Nat->Nat->Nat->Nat->Plan
 |0,a,b,_=>.core a b
 |f+1,a,b,k=>if b=a+1 then .core a b else .press (mP needs t f a b a k)
def mP(needs:List Span)(t:Tab Nat):Nat->Nat->Nat->Nat->Nat->Plans
 |0,_,_,_,_=>.nil
 |f+1,a,b,c,k=>match choose (iJ needs t a b c) k with
  |none=>.nil
  |some (d,j)=>.cons (if c=d then .foil c else Sk needs t f c d (j/restOf (counting 1) needs t (d+1) b)) (mP needs t f a b (d+1) (j%restOf (counting 1) needs t (d+1) b))
end
theorem EJ(W:WF needs)(t:Tab Nat):∀f,(∀a b k,a<b->pick needs t f a b k=Sk needs t f a b k)/\
  (∀a b c n s k,a+2<=b->At needs a b c n s->pickParts needs t f (sixes (counting 1) needs t a b (b+1-a)) a b c n s k=mP needs t f a b c k)
 |0=>⟨λ_ _ _ _=>by rw[pick,Sk],λ_ _ _ _ _ _ _ _=>by rw[pickParts,mP]⟩
 |f+1=>by
  obtain⟨h1,h2⟩:=EJ W t f
  refine⟨λa b k hab=>?_,λa b c n s k hab h=>?_⟩
  ·rw[pick,Sk]
   by_cases e:b=a+1
   ·rw[if_pos e,if_pos e]
   ·rw[if_neg e,if_neg e,h2 a b a 0 false k (by lia) (.inl ⟨rfl,rfl,rfl⟩)]
  ·have hc:a<=c:=by rcases h with h|h<;>lia
   rw[pickParts,mP]
   rw[FP W t h hab]
   cases e:choose (iJ needs t a b c) k with
   |none=>rfl
   |some q=>
    obtain⟨d,j⟩:=q
    obtain⟨w,hw,_⟩:=vC e
    unfold iJ at hw
    rw[bB]at hw
    obtain⟨d',hd,hq⟩:=hw
    have e2:d'=d:=(pE hq).1
    subst e2
    have m:=dC hd hc
    have e3:behind (sixes (counting 1) needs t a b (b+1-a)) a c d' n s=restOf (counting 1) needs t (d'+1) b:=by
     unfold behind
     rw[ni t (by lia) m.2.1,h.next t hab hd]
    show Plans.cons (if c=d' then .foil c else pick needs t f c d' (j/behind (sixes (counting 1) needs t a b (b+1-a)) a c d' n s)) _=Plans.cons (if c=d' then .foil c else Sk needs t f c d' (j/restOf (counting 1) needs t (d'+1) b)) _
    rw[e3,h2 a b (d'+1) _ _ _ hab (h.starts hab hd)]
    congr 1
    by_cases e4:c=d'
    ·rw[if_pos e4,if_pos e4]
    ·rw[if_neg e4,if_neg e4,h1 c d' _ (by lia)]
end
section
variable{needs:List Span}
def jd{α:Type}(A:Alg α)(needs:List Span)(t:Tab α)(b c d:Nat):α:=A.both (partOf A t c d) (restOf A needs t (d+1) b)
mutual
def wH(needs:List Span)(t:Tab (Option Nat)):Nat->Nat->Nat->Plan
 |0,a,b=>.core a b
 |f+1,a,b=>if b=a+1 then .core a b else .press (pH needs t f a b a)
def pH(needs:List Span)(t:Tab (Option Nat)):Nat->Nat->Nat->Nat->Plans
 |0,_,_,_=>.nil
 |f+1,a,b,c=>match(ends needs a b c).find? λd=>jd pressing needs t b c d==sumOver pressing ((ends needs a b c).map λe=>jd pressing needs t b c e)&&(sumOver pressing ((ends needs a b c).map λe=>jd pressing needs t b c e)).isSome with
  |none=>.nil
  |some d=>.cons (if c=d then .foil c else wH needs t f c d) (pH needs t f a b (d+1))
end
theorem wI{l m:List Nat}{p:Nat->Bool}(h:∀x∈m,p x=false):(l++m).find? p=l.find? p:=by
 rw[qt]
 have e:m.find? p=none:=by
  rw[lh]
  intro x hx
  rw[h x hx]
  exact bc
 rw[e,Option.or_none]
theorem Aw{l:List Nat}{p q:Nat->Bool}(h:∀x∈l,p x=q x):l.find? p=l.find? q:=by
 induction l with
 |nil=>rfl
 |cons x l ih=>
  rw[cF,cF,h x ay,ih λy hy=>h y (ax _ hy)]
theorem KR{α:Type}{A:Alg α}(L:Laws A)(W:WF needs)(t:Tab α){a b c n:Nat}{s:Bool}(h:At needs a b c n s)(hab:a+2<=b)(hcb:c<=b):
  (jh A needs t a b c).at_ A n s=sumOver A ((ends needs a b c).map λd=>jd A needs t b c d):=by
 have hc:a<=c:=by rcases h with h|h<;>lia
 rw[pj t hcb n s (by rcases h with h|h<;>lia),pP W h hab,aB]
 have e1:(ends needs a b c).map (λd=>A.both (partOf A t c d) ((jh A needs t a b (d+1)).at_ A (min 2 (n+1)) (s||decide (c<d))))=(ends needs a b c).map λd=>jd A needs t b c d:=by
  refine bg λd hd=>?_
  rw[h.next t hab hd]
  rfl
 rw[e1]
 by_cases q:c=a/\allowed needs a b a b=true
 ·rw[if_pos q]
  show sumOver A (_++[A.both (partOf A t c b) ((jh A needs t a b (b+1)).at_ A (min 2 (n+1)) (s||decide (c<b)))])=_
  rw[h.whole t q.1,L.Nm,xw L]
 ·rw[if_neg q]
  show sumOver A (_++[])=_
  rw[aZ]
theorem NO(W:WF needs)(t:Tab (Option Nat)):∀f,(∀a b,a<b->firstFew needs t f a b=wH needs t f a b)/\
  (∀a b c n s,a+2<=b->At needs a b c n s->fewParts needs t f (sixes pressing needs t a b (b+1-a)) a b c n s=pH needs t f a b c)
 |0=>⟨λ_ _ _=>by rw[firstFew,wH],λ_ _ _ _ _ _ _=>by rw[fewParts,pH]⟩
 |f+1=>by
  obtain⟨h1,h2⟩:=NO W t f
  refine⟨λa b hab=>?_,λa b c n s hab h=>?_⟩
  ·rw[firstFew,wH]
   by_cases e:b=a+1
   ·rw[if_pos e,if_pos e]
   ·rw[if_neg e,if_neg e,h2 a b a 0 false (by lia) (.inl ⟨rfl,rfl,rfl⟩)]
  ·have hc:a<=c:=by rcases h with h|h<;>lia
   have hc2:c<=b+1:=by rcases h with h|h<;>lia
   rw[fewParts,pH]
   show(match(jS needs a b c).find? (λd=>pressing.both (partOf pressing t c d) (((sixes pressing needs t a b (b+1-a)).getD (d+1-a) []).at_ pressing (min 2 (n+1)) (s||decide (c<d)))==((sixes pressing needs t a b (b+1-a)).getD (c-a) []).at_ pressing n s&&(((sixes pressing needs t a b (b+1-a)).getD (c-a) []).at_ pressing n s).isSome)with
    |none=>Plans.nil
    |some d=>Plans.cons (if c=d then .foil c else firstFew needs t f c d) (fewParts needs t f (sixes pressing needs t a b (b+1-a)) a b (d+1) (min 2 (n+1)) (s||decide (c<d))))=_
   rw[G8 t hc hc2]
   by_cases hcb:c<=b
   ·rw[KR p6 W t h hab hcb,pP W h hab]
    generalize hv:sumOver pressing ((ends needs a b c).map λe=>jd pressing needs t b c e)=v
    have e1:(ends needs a b c++(if c=a/\allowed needs a b a b=true then[b]else[])).find? (λd=>pressing.both (partOf pressing t c d) (((sixes pressing needs t a b (b+1-a)).getD (d+1-a) []).at_ pressing (min 2 (n+1)) (s||decide (c<d)))==v&&v.isSome)=
      (ends needs a b c).find? (λd=>jd pressing needs t b c d==v&&v.isSome):=by
     rw[wI]
     ·refine Aw λd hd=>?_
      have m:=dC hd hc
      rw[ni t (by lia) m.2.1,h.next t hab hd]
      rfl
     ·intro x hx
      by_cases q:c=a/\allowed needs a b a b=true
      ·rw[if_pos q]at hx
       have e2:x=b:=aK.mp hx
       subst e2
       rw[ni t (by lia) (ah x),h.whole t q.1,p6.Nm]
       cases v with
       |none=>rfl
       |some y=>rfl
      ·rw[if_neg q]at hx
       cases hx
    rw[e1]
    cases e:(ends needs a b c).find? (λd=>jd pressing needs t b c d==v&&v.isSome)with
    |none=>rfl
    |some d=>
     have hd:=gZ e
     have m:=dC hd hc
     show Plans.cons (if c=d then .foil c else firstFew needs t f c d) _=Plans.cons (if c=d then .foil c else wH needs t f c d) _
     rw[h2 a b (d+1) _ _ hab (h.starts hab hd)]
     congr 1
     by_cases e4:c=d
     ·rw[if_pos e4,if_pos e4]
     ·rw[if_neg e4,if_neg e4,h1 c d (by lia)]
   ·have e1:jS needs a b c=[]:=by
     unfold jS
     have e1:b+1-c=0:=by lia
     rw[e1]
     rfl
    have e2:ends needs a b c=[]:=by
     unfold ends
     rw[if_neg (by lia),if_neg hcb]
    rw[e1,e2]
    rfl
mutual
def vE(needs:List Span)(t:Tab (Option Nat)):Nat->Nat->Nat->Nat->Plan
 |0,_,a,b=>.core a b
 |f+1,m,a,b=>if b=a+1 then .core a b else .press (mM needs t f (m-1) a b a)
def mM(needs:List Span)(t:Tab (Option Nat)):Nat->Nat->Nat->Nat->Nat->Plans
 |0,_,_,_,_=>.nil
 |f+1,m,a,b,c=>match(ends needs a b c).find? λd=>atMost (partOf nesting t c d) m&&atMost (restOf nesting needs t (d+1) b) m with
  |none=>.nil
  |some d=>.cons (if c=d then .foil c else vE needs t f m c d) (mM needs t f m a b (d+1))
end
theorem zS(W:WF needs)(t:Tab (Option Nat)):∀f,(∀m a b,a<b->firstFlat needs t f m a b=vE needs t f m a b)/\
  (∀m a b c n s,a+2<=b->At needs a b c n s->flatParts needs t f m (sixes nesting needs t a b (b+1-a)) a b c n s=mM needs t f m a b c)
 |0=>⟨λ_ _ _ _=>by rw[firstFlat,vE],λ_ _ _ _ _ _ _ _=>by rw[flatParts,mM]⟩
 |f+1=>by
  obtain⟨h1,h2⟩:=zS W t f
  refine⟨λm a b hab=>?_,λm a b c n s hab h=>?_⟩
  ·rw[firstFlat,vE]
   by_cases e:b=a+1
   ·rw[if_pos e,if_pos e]
   ·rw[if_neg e,if_neg e,h2 (m-1) a b a 0 false (by lia) (.inl ⟨rfl,rfl,rfl⟩)]
  ·have hc:a<=c:=by rcases h with h|h<;>lia
   rw[flatParts,mM]
   show(match(jS needs a b c).find? (λd=>atMost (partOf nesting t c d) m&&atMost (((sixes nesting needs t a b (b+1-a)).getD (d+1-a) []).at_ nesting (min 2 (n+1)) (s||decide (c<d))) m)with
    |none=>Plans.nil
    |some d=>Plans.cons (if c=d then .foil c else firstFlat needs t f m c d) (flatParts needs t f m (sixes nesting needs t a b (b+1-a)) a b (d+1) (min 2 (n+1)) (s||decide (c<d))))=_
   rw[pP W h hab,wI,Aw (q:=λd=>atMost (partOf nesting t c d) m&&atMost (restOf nesting needs t (d+1) b) m)]
   ·cases e:(ends needs a b c).find? (λd=>atMost (partOf nesting t c d) m&&atMost (restOf nesting needs t (d+1) b) m)with
    |none=>rfl
    |some d=>
     have hd:=gZ e
     have mm:=dC hd hc
     show Plans.cons (if c=d then .foil c else firstFlat needs t f m c d) _=Plans.cons (if c=d then .foil c else vE needs t f m c d) _
     rw[h2 m a b (d+1) _ _ hab (h.starts hab hd)]
     congr 1
     by_cases e4:c=d
     ·rw[if_pos e4,if_pos e4]
     ·rw[if_neg e4,if_neg e4,h1 m c d (by lia)]
   ·intro d hd
    have mm:=dC hd hc
    rw[ni t (by lia) mm.2.1,h.next t hab hd]
   ·intro x hx
    by_cases q:c=a/\allowed needs a b a b=true
    ·rw[if_pos q]at hx
     have e2:x=b:=aK.mp hx
     subst e2
     rw[ni t (by lia) (ah x),h.whole t q.1]
     show(atMost _ m&&false)=false
     exact u1 _
    ·rw[if_neg q]at hx
     cases hx
end
end Bp
end
section
namespace Bp
open Vbpcau
theorem uO{c m:Nat}{x y:List Nat}(h:br c m=x++y):x=br c x.length/\y=br (c+x.length) (m-x.length)/\x.length<=m:=by
 have hl:m=x.length+y.length:=by
  have:=congrArg i3 h
  rw[cp,ai]at this
  exact this
 have e:br c m=br c x.length++br (c+x.length) y.length:=by
  rw[hl,u6]
 rw[e]at h
 obtain⟨h1,h2⟩:=List.append_inj h (by rw[cp])
 have e2:m-x.length=y.length:=by lia
 exact⟨h1.symm,by rw[e2];exact h2.symm,by lia⟩
theorem qH{c m:Nat}(h:0<m):(br c m).headD 0=c:=by
 cases m with
 |zero=>lia
 |succ m=>rfl
theorem qI{c m:Nat}(h:0<m):(br c m).getLastD 0=c+m-1:=by
 cases m with
 |zero=>lia
 |succ m=>
  rw[List.range'_1_concat,List.getLastD_concat]
  rfl
section
variable(needs:List Span)
mutual
def Good:Plan->Nat->Nat->Prop
 |.foil _,_,_=>False
 |.core x y,a,b=>x=a/\y=b/\b=a+1
 |.press l,a,b=>a+2<=b/\il l a b a
def il:Plans->Nat->Nat->Nat->Prop
 |.nil,_,b,c=>c=b+1
 |.cons p l,a,b,c=>∃d,d∈ends needs a b c/\(if c=d then p=.foil c else Good p c d)/\il l a b (d+1)
end
end
mutual
theorem fZ:∀(p:Plan),p.sound=true->p.layers≠[]
 |.foil k,_=>by rw[Plan.layers];exact O6 _ _
 |.core a b,_=>by rw[Plan.layers];exact O6 _ _
 |.press l,h=>by
  rw[Plan.sound,ak,ak,ak,ak]at h
  rw[Plan.layers]
  exact Ct l h.2.2.2.2 (by have:=of_decide_eq_true h.1;ac_rfl)
theorem Ct:∀(l:Plans),l.sound=true->0<l.list.length->l.layers≠[]
 |.nil,_,h=>by
  rw[Plans.list]at h
  exact absurd h (by decide)
 |.cons p l,h,_=>by
  rw[Plans.sound,ak]at h
  rw[Plans.layers]
  intro e
  exact fZ p h.1 (sJ.mp e).1
end
mutual
theorem za:∀(p:Plan)(c m:Nat),p.sound=true->p.layers=br c m->∀s∈p.spans,c<=s.1/\s.1<=s.2/\s.2<c+m
 |.foil k,c,m,_,_,s,hs=>by
  rw[Plan.spans]at hs
  cases hs
 |.core x y,c,m,_,hl,s,hs=>by
  rw[Plan.spans]at hs
  rw[Plan.layers]at hl
  have e:s=(x,y):=aK.mp hs
  subst e
  match m,hl with
  |0,hl=>cases hl
  |1,hl=>cases hl
  |m+2,hl=>
   rw[zK,zK]at hl
   injection hl with h1 h2
   injection h2 with h2 h3
   show c<=x/\x<=y/\y<_
   lia
 |.press l,c,m,h,hl,s,hs=>by
  have h':=h
  rw[Plan.sound,ak,ak,ak,ak]at h
  rw[Plan.layers]at hl
  rw[Plan.spans]at hs
  have hm:0<m:=by
   cases m with
   |zero=>
    have:=fZ (.press l) h'
    rw[Plan.layers,hl]at this
    exact absurd rfl this
   |succ m=>ac_rfl
  rcases aG.mp hs with e|e
  ·rw[hl,qH hm,qI hm]at e
   subst e
   show c<=c/\c<=c+m-1/\c+m-1<c+m
   lia
  ·exact rS l c m h.2.2.2.2 hl s e
theorem rS:∀(l:Plans)(c m:Nat),l.sound=true->l.layers=br c m->∀s∈l.spans,c<=s.1/\s.1<=s.2/\s.2<c+m
 |.nil,c,m,_,_,s,hs=>by
  rw[Plans.spans]at hs
  cases hs
 |.cons p l,c,m,h,hl,s,hs=>by
  rw[Plans.sound,ak]at h
  rw[Plans.layers]at hl
  rw[Plans.spans,ck]at hs
  obtain⟨e1,e2,e3⟩:=uO hl.symm
  rcases hs with q|q
  ·have:=za p c p.layers.length h.1 e1 s q
   omega
  ·have:=rS l (c+p.layers.length) (m-p.layers.length) h.2 e2 s q
   lia
end
section
variable{needs:List Span}
def VX(needs:List Span)(l:List Span)(a b:Nat):Prop:=∀s∈needs,a<=s.1->s.2<=b->s∈l
def l4(l:List Plan):Bool:=l.dropLast.all λp=>!p.isFoil
theorem Gs{p:Plan}{l:List Plan}(h:foilsOut (p::l)=true):l4 l=true:=h
theorem LV{p:Plan}{l:List Plan}(h:l4 (p::l)=true):l4 l=true:=by
 unfold l4 at h⊢
 cases l with
 |nil=>rfl
 |cons q l=>
  rw[FC,ji,ak]at h
  exact h.2
theorem LU{p q:Plan}{l:List Plan}(h:l4 (p::q::l)=true):p.isFoil=false:=by
 unfold l4 at h
 rw[FC,ji,ak]at h
 exact yA _▸h.1
theorem Kd:∀{p:Plan},p.isFoil=true->∃k,p=.foil k
 |.foil k,_=>⟨k,rfl⟩
 |.core _ _,h=>by cases h
 |.press _,h=>by cases h
theorem rV:∀{p:Plan},p.sound=true->p.isFoil=false->2<=p.layers.length
 |.foil k,_,h=>by cases h
 |.core x y,_,_=>by
  rw[Plan.layers]
  exact ah 2
 |.press .nil,h,_=>by
  rw[Plan.sound,ak]at h
  exact absurd (of_decide_eq_true h.1) (by rw[Plans.list];decide)
 |.press (.cons p .nil),h,_=>by
  rw[Plan.sound,ak]at h
  exact absurd (of_decide_eq_true h.1) (by rw[Plans.list,Plans.list];show¬2<=1;decide)
 |.press (.cons p (.cons q l)),h,_=>by
  rw[Plan.sound,ak,ak,ak,ak]at h
  have hs:=h.2.2.2.2
  rw[Plans.sound,Plans.sound,ak,ak]at hs
  rw[Plan.layers,Plans.layers,Plans.layers,ai,ai]
  have h1:=cx.mpr (fZ p hs.1)
  have h2:=cx.mpr (fZ q hs.2.1)
  lia
theorem Cd:∀(l:Plans),l.sound=true->l.layers=[]->l=.nil
 |.nil,_,_=>rfl
 |.cons p l,h,e=>by
  rw[Plans.sound,ak]at h
  rw[Plans.layers]at e
  exact absurd (sJ.mp e).1 (fZ p h.1)
theorem FT(W:WF needs){a b c d m:Nat}{x y:List Span}(hx:∀s∈x,s.2<=d)(hy:∀s∈y,d<s.1)(hm:b+1=m)(hs:kl needs a b c)(ha:a<=c)(hcd:c<=d)
  (H:∀s∈needs,a<=s.1->s.2<=b->s≠(a,b)->c<=s.1->s∈x++y):ib needs a b d=true:=by
 rw[iz]
 intro s hs' g1 g2 g3 g4
 by_cases g5:c<=s.1
 ·rcases ck.mp (H s hs' g1 g2 g3 g5)with q|q
  ·exact hx s q
  ·have:=hy s q
   lia
 ·have:=hs s hs' g1 g2 g3 (by ac_rfl)
  lia
theorem PH{a b c d:Nat}(hc:a<=c)(hcd:c<=d)(hd:d<=b)(hcut:d<b->ib needs a b d=true)(hfirst:c=a->d<b)(hfoil:a<c->d<b->c<d):d∈ends needs a b c:=by
 unfold ends
 by_cases e:c=a
 ·rw[if_pos e]
  exact d9.mpr ⟨by lia,hfirst e,hcut (hfirst e)⟩
 ·rw[if_neg e,if_pos (by lia),ck]
  by_cases e2:d<b
  ·exact .inl (bu.mpr ⟨d9.mpr ⟨by lia,e2,hcut e2⟩,decide_eq_true (hfoil (by lia) e2)⟩)
  ·exact .inr (aK.mpr (by lia))
mutual
theorem Kf(W:WF needs):∀(p:Plan)(a b:Nat),a<b->p.isFoil=false->p.sound=true->p.layers=br a (b+1-a)->VX needs p.spans a b->Good needs p a b
 |.foil k,a,b,_,h,_,_,_=>by cases h
 |.core x y,a,b,hab,_,hs,hl,_=>by
  rw[Good]
  rw[Plan.sound]at hs
  have e:=eq_of_beq hs
  rw[Plan.layers]at hl
  have hm:b+1-a=2:=by
   have:=congrArg i3 hl
   rw[cp]at this
   exact this.symm
  rw[hm]at hl
  injection hl with h1 h2
  injection h2 with h2 h3
  lia
 |.press l,a,b,hab,_,hs,hl,hn=>by
  rw[Good]
  have hs':=hs
  rw[Plan.sound,ak,ak,ak,ak]at hs
  obtain⟨g1,g2,g3,g4,g5⟩:=hs
  rw[Plan.layers]at hl
  have hh:VX needs ((a,b)::l.spans) a b:=by
   rw[Plan.spans,hl,qH (by omega),qI (by lia)]at hn
   have e:a+(b+1-a)-1=b:=by omega
   rw[e]at hn
   exact hn
  have H:∀s∈needs,a<=s.1->s.2<=b->s≠(a,b)->a<=s.1->s∈l.spans:=λs q1 q2 q3 q4 _=>by
   rcases aG.mp (hh s q1 q2 q3)with z|z
   ·exact absurd z q4
   ·exact z
  have two:=of_decide_eq_true g1
  have h2:a+2<=b:=by
   have three:3<=(br a (b+1-a)).length:=by
    rw[<-hl]
    match l,two,g2,g5 with
    |.nil,two,_,_=>rw[Plans.list]at two;exact absurd two (by decide)
    |.cons p .nil,two,_,_=>rw[Plans.list,Plans.list]at two;exact absurd two (by show¬2<=1;decide)
    |.cons p (.cons q l),_,g2,g5=>
     rw[Plans.sound,Plans.sound,ak,ak]at g5
     rw[Plans.layers,Plans.layers,ai,ai]
     have z1:=cx.mpr (fZ p g5.1)
     have z2:=cx.mpr (fZ q g5.2.1)
     by_cases f1:p.isFoil=true
     ·by_cases f2:q.isFoil=true
      ·cases l with
       |nil=>
        rw[Plans.list,Plans.list,Plans.list,d6,d6,Hr,f1,f2]at g2
        cases g2
       |cons r l=>
        have z3:=g5.2.2
        rw[Plans.sound,ak]at z3
        have z4:=cx.mpr (fZ r z3.1)
        rw[Plans.layers,ai]
        lia
      ·have z3:=rV g5.2.1 (O5 _▸f2)
       lia
     ·have z3:=rV g5.1 (O5 _▸f1)
      lia
   rw[cp]at three
   lia
  refine⟨h2,Gb W l a b a (ah a) (by lia) h2 g5 hl H (λs _ q _ _ q2=>by lia) (λ_=>two) ?_ ?_⟩
  ·intro z
   exact absurd z (by ac_rfl)
  ·intro _
   exact g3
theorem Gb(W:WF needs):∀(l:Plans)(a b c:Nat),a<=c->c<=b+1->a+2<=b->l.sound=true->l.layers=br c (b+1-c)->
  (∀s∈needs,a<=s.1->s.2<=b->s≠(a,b)->c<=s.1->s∈l.spans)->kl needs a b c->(c=a->2<=l.list.length)->(a<c->l4 l.list=true)->(c=a->foilsOut l.list=true)->il needs l a b c
 |.nil,a,b,c,h1,h2,h3,_,hl,_,_,_,_,_=>by
  rw[il]
  have:=congrArg i3 hl
  rw[Plans.layers,cp,fh]at this
  lia
 |.cons p l,a,b,c,h1,h2,h3,hs,hl,H,hst,htwo,hlate,hout=>by
  rw[Plans.sound,ak]at hs
  rw[Plans.layers]at hl
  obtain⟨e1,e2,e3⟩:=uO hl.symm
  have z1:=cx.mpr (fZ p hs.1)
  rw[il]
  have hd:c+p.layers.length=c+p.layers.length-1+1:=by lia
  have hlast:c+p.layers.length-1=b->l=.nil:=λz=>Cd l hs.2 (by
   rw[e2]
   have:b+1-c-p.layers.length=0:=by lia
   rw[this]
   rfl)
  have hx:∀s∈p.spans,s.2<=c+p.layers.length-1:=λs q=>by
   have:=za p c p.layers.length hs.1 e1 s q
   lia
  have hy:∀s∈l.spans,c+p.layers.length-1<s.1:=λs q=>by
   have:=rS l _ _ hs.2 e2 s q
   lia
  have hcut:ib needs a b (c+p.layers.length-1)=true:=FT W hx hy rfl hst h1 (by lia) λs q1 q2 q3 q4 q5=>by
   have:=H s q1 q2 q3 q4 q5
   rw[Plans.spans]at this
   exact this
  have hfoil:p.isFoil=true->p.layers.length=1:=λz=>by
   obtain⟨k,rfl⟩:=Kd z
   rw[Plan.layers]
   rfl
  refine⟨c+p.layers.length-1,PH h1 (by lia) (by lia) (λ_=>hcut) (λz=>?_) (λz1 z2=>?_),?_,?_⟩
  ·have q:=htwo z
   by_cases z2:c+p.layers.length-1<b
   ·exact z2
   ·have q2:=hlast (by lia)
    rw[q2,Plans.list,Plans.list]at q
    exact absurd q (by show¬2<=1;decide)
  ·have q:=hlate z1
   cases hq:p.isFoil with
   |false=>
    have:=rV hs.1 hq
    lia
   |true=>
    cases l with
    |nil=>
     have q2:=congrArg i3 e2
     rw[Plans.layers,cp,fh]at q2
     lia
    |cons r l=>
     rw[Plans.list,Plans.list]at q
     have:=LU q
     rw[hq]at this
     cases this
  ·by_cases e:c=c+p.layers.length-1
   ·rw[if_pos e]
    cases hq:p.isFoil with
    |false=>
     have:=rV hs.1 hq
     lia
    |true=>
     obtain⟨k,rfl⟩:=Kd hq
     rw[Plan.layers]at e1
     injection e1 with e4 _
     rw[e4]
   ·rw[if_neg e]
    refine Kf W p c (c+p.layers.length-1) (by lia) ?_ hs.1 ?_ ?_
    ·cases hq:p.isFoil with
     |false=>rfl
     |true=>
      have:=hfoil hq
      lia
    ·have e4:c+p.layers.length-1+1-c=p.layers.length:=by lia
     rw[e4]
     exact e1
    ·intro s q1 q2 q3
     have w:=W s q1
     have q4:s≠(a,b):=λz=>by
      rw[z]at q2 q3
      by_cases z2:c=a
      ·have q:=htwo z2
       have q5:=hlast (by show _=b;exact Nat.le_antisymm (by lia) q3)
       rw[q5,Plans.list,Plans.list]at q
       exact absurd q (by show¬2<=1;decide)
      ·exact absurd q2 (by show¬c<=a;lia)
     have q5:=H s q1 (by lia) (by lia) q4 q2
     rw[Plans.spans,ck]at q5
     rcases q5 with q5|q5
     ·exact q5
     ·have:=hy s q5
      lia
  ·rw[<-hd]
   refine Gb W l a b (c+p.layers.length) (by lia) (by lia) h3 hs.2 ?_ ?_ ?_ (λz=>by lia) (λ_=>?_) (λz=>by lia)
   ·rw[e2]
    congr 1
    lia
   ·intro s q1 q2 q3 q4 q5
    have q6:=H s q1 q2 q3 q4 (by lia)
    rw[Plans.spans,ck]at q6
    rcases q6 with q6|q6
    ·have:=hx s q6
     have:=W s q1
     lia
    ·exact q6
   ·rw[hd]
    exact mn hcut
   ·by_cases z:c=a
    ·have q:=hout z
     rw[Plans.list]at q
     exact Gs q
    ·have q:=hlate (by lia)
     rw[Plans.list]at q
     exact LV q
end
theorem LG(W:WF needs){n:Nat}(hn:2<=n)(hin:∀s∈needs,1<=s.1/\s.2<=n){p:Plan}(h:planOf n p=true)(hs:serves needs p=true):Good needs p 1 n:=by
 unfold planOf at h
 rw[ak,ak]at h
 have hl:=of_decide_eq_true h.2.2
 unfold serves at hs
 rw[gB]at hs
 refine Kf W p 1 n (by lia) (yA _▸h.1) h.2.1 ?_ λs q _ _=>by simpa using hs s q
 rw[hl]
 have e:n+1-1=n:=by lia
 rw[e,kN]
 refine bg λi _=>?_
 lia
mutual
theorem yR:∀(p:Plan)(a b:Nat),a<b->Good needs p a b->p.layers=br a (b+1-a)
 |.foil _,_,_,_,h=>by rw[Good]at h;exact h.elim
 |.core x y,a,b,_,h=>by
  rw[Good]at h
  obtain⟨rfl,rfl,h⟩:=h
  have e:y+1-x=2:=by lia
  rw[Plan.layers,e,h]
  rfl
 |.press l,a,b,hab,h=>by
  rw[Good]at h
  rw[Plan.layers]
  exact oa l a b a (ah a) (by lia) h.2
theorem oa:∀(l:Plans)(a b c:Nat),a<=c->c<=b+1->il needs l a b c->l.layers=br c (b+1-c)
 |.nil,a,b,c,_,_,h=>by
  rw[il]at h
  have e:b+1-c=0:=by lia
  rw[e,Plans.layers]
  rfl
 |.cons p l,a,b,c,h1,h2,h=>by
  rw[il]at h
  obtain⟨d,hd,hp,hl⟩:=h
  have m:=dC hd h1
  rw[Plans.layers,oa l a b (d+1) (by lia) (by lia) hl]
  have e:p.layers=br c (d+1-c):=by
   by_cases q:c=d
   ·rw[if_pos q]at hp
    have e:d+1-c=1:=by lia
    rw[hp,e,Plan.layers]
    rfl
   ·rw[if_neg q]at hp
    exact yR p c d (by lia) hp
  rw[e]
  have e1:b+1-c=(d+1-c)+(b+1-(d+1)):=by lia
  have e2:d+1=c+(d+1-c):=by omega
  rw[e1,<-u6,<-e2]
end
theorem Df{p:Plan}{c d:Nat}(hcd:c<=d)(h:if c=d then p=.foil c else Good needs p c d):p.span=(c,d)/\(!p.isFoil)=decide (c<d):=by
 by_cases q:c=d
 ·rw[if_pos q]at h
  subst h
  subst q
  exact⟨rfl,by simp[Plan.isFoil]⟩
 ·rw[if_neg q]at h
  have e:=yR p c d (by lia) h
  have q2:c<d:=by lia
  refine⟨?_,?_⟩
  ·unfold Plan.span
   rw[e,qH (by omega),qI (by omega)]
   have:c+(d+1-c)-1=d:=by omega
   rw[this]
  ·rw[decide_eq_true q2]
   cases p with
   |foil k=>rw[Good]at h;exact h.elim
   |core x y=>rfl
   |press l=>rfl
mutual
def numOf(needs:List Span)(t:Tab Nat):Plan->Nat->Nat->Nat
 |.press l,a,b=>iR needs t l a b a
 |_,_,_=>0
def iR(needs:List Span)(t:Tab Nat):Plans->Nat->Nat->Nat->Nat
 |.nil,_,_,_=>0
 |.cons p l,a,b,c=>weightBefore p.span.2 (iJ needs t a b c)+(numOf needs t p c p.span.2*restOf (counting 1) needs t (p.span.2+1) b+iR needs t l a b (p.span.2+1))
end
mutual
theorem KL(W:WF needs)(t:Tab Nat):∀(p:Plan)(a b:Nat),a<b->Good needs p a b->rankOf needs t p=numOf needs t p a b
 |.foil _,_,_,_,h=>by rw[Good]at h;exact h.elim
 |.core x y,a,b,_,h=>by
  rw[rankOf,numOf]
  ·intro l q
   cases q
  ·intro l q
   cases q
 |.press l,a,b,hab,h=>by
  rw[Good]at h
  have e:=oa l a b a (ah a) (by lia) h.2
  have e1:l.layers.headD 0=a:=by rw[e,qH (by omega)]
  have e2:l.layers.getLastD 0=b:=by
   rw[e,qI (by lia)]
   omega
  rw[rankOf,numOf,e1,e2]
  exact GX W t l a b a 0 false h.1 (.inl ⟨rfl,rfl,rfl⟩) h.2
theorem GX(W:WF needs)(t:Tab Nat):∀(l:Plans)(a b c n:Nat)(s:Bool),a+2<=b->At needs a b c n s->il needs l a b c->
  rankParts needs t (sixes (counting 1) needs t a b (b+1-a)) a b n s l=iR needs t l a b c
 |.nil,_,_,_,_,_,_,_,_=>by rw[rankParts,iR]
 |.cons p l,a,b,c,n,s,hab,hat,h=>by
  have hc:a<=c:=by rcases hat with h|h<;>lia
  rw[il]at h
  obtain⟨d,hd,hp,hl⟩:=h
  have m:=dC hd hc
  obtain⟨e1,e2⟩:=Df m.1 hp
  rw[rankParts,iR,e1,e2]
  show weightBefore d (ways needs t _ a b c n s)+(rankOf needs t p*behind _ a c d n s+rankParts needs t _ a b (min 2 (n+1)) (s||decide (c<d)) l)=weightBefore d (iJ needs t a b c)+(numOf needs t p c d*restOf (counting 1) needs t (d+1) b+iR needs t l a b (d+1))
  have e3:behind (sixes (counting 1) needs t a b (b+1-a)) a c d n s=restOf (counting 1) needs t (d+1) b:=by
   unfold behind
   rw[ni t (by lia) m.2.1,hat.next t hab hd]
  have e4:rankOf needs t p=numOf needs t p c d:=by
   by_cases q:c=d
   ·rw[if_pos q]at hp
    subst hp
    rw[rankOf,numOf]
    ·intro l q
     cases q
    ·intro l q
     cases q
   ·rw[if_neg q]at hp
    exact KL W t p c d (by lia) hp
  rw[FJ W t hat hab d,e3,e4,GX W t l a b (d+1) _ _ hab (hat.starts hab hd) hl]
end
end
end Bp
end
section
namespace Bp
open Vbpcau
def Vl:List Nat:=[1,1,2,7,27,110,467,2045,9172,41925,194607,914868,4346981,20842857,100721094,490045907,2398535011,11801850914,58344418943,289656043901,1443510448008,7218659378409,36212491486431,182183337231912]
def lid(m:Nat):Nat:=Vl.getD m 0
def LY(m:Nat):Nat:=if m<2 then 1 else 2*lid m
theorem Sb:∀m,m<24->2<=m->((bA m).map λi=>lid i*LY (m-1-i)).sum<=lid m:=by decide+kernel
theorem LZ:∀m,m<24->lid m<2^60:=by decide+kernel
theorem nk(w:Nat)(l:List Nat):sumOver (counting w) l=l.sum:=by
 induction l with
 |nil=>rfl
 |cons x l ih=>
  rw[iY (iB w),eX,ih]
  rfl
theorem vy(p:Nat->Bool)(f:Nat->Nat):∀l:List Nat,((l.filter p).map f).sum<=(l.map f).sum
 |[]=>ah _
 |x::l=>by
  rw[da,aU,eX]
  have:=vy p f l
  split
  ·rw[aU,eX]
   lia
  ·lia
theorem BC{f g:Nat->Nat}:∀l:List Nat,(∀x∈l,f x<=g x)->(l.map f).sum<=(l.map g).sum
 |[],_=>ah _
 |x::l,h=>by
  rw[aU,aU,eX,eX]
  have h1:=h x ay
  have h2:=BC l λy hy=>h y (ax _ hy)
  lia
section
variable{needs:List Span}
theorem T5(W:WF needs){n:Nat}(hn:n<=24):∀(m a b:Nat),b-a=m->1<=a->a<=b->b<=n->
  partOf (counting 1) (tabOf (counting 1) needs n) a b<=lid m/\restOf (counting 1) needs (tabOf (counting 1) needs n) a b<=LY m:=by
 intro m
 induction m using jj with
 |ind m ih=>
  intro a b hm h1 h2 h3
  by_cases e0:a=b
  ·subst e0
   have:m=0:=by lia
   subst this
   rw[tM (iB 1) W _ h1]
   unfold partOf
   rw[if_pos rfl]
   exact⟨by decide+kernel,by decide+kernel⟩
  ·have ep:partOf (counting 1) (tabOf (counting 1) needs n) a b=(tabOf (counting 1) needs n).of (counting 1) a b:=by
    unfold partOf
    rw[if_neg e0]
   by_cases e1:b=a+1
   ·subst e1
    have:m=1:=by lia
    subst this
    rw[yZ (iB 1) W _ h1,ep,pL]
    exact⟨by decide+kernel,by decide+kernel⟩
   ·have rows:∀p:Nat->Bool,((((bA (b-a)).map λi=>a+i).filter p).map λd=>(counting 1).both (partOf (counting 1) (tabOf (counting 1) needs n) a d) (restOf (counting 1) needs (tabOf (counting 1) needs n) (d+1) b)).sum<=lid m:=λp=>by
     refine aX (vy p _ _) ?_
     rw[dQ,hm]
     refine aX (BC (g:=λi=>lid i*LY (m-1-i)) _ λi hi=>?_) (Sb m (by lia) (by lia))
     rw[dF]at hi
     show partOf _ _ a (a+i)*restOf _ _ _ (a+i+1) b<=_
     have q1:=(ih i (by assumption) a (a+i) (by simp) h1 (by ac_rfl) (by lia)).1
     have q2:=(ih (m-1-i) (by omega) (a+i+1) b (by lia) (by ac_rfl) (by lia) h3).2
     exact Nat.mul_le_mul q1 q2
    have et:=xx (my 1) W h1 (show a+2<=b by lia) h3
    have ew:(tabOf (counting 1) needs n).of (counting 1) a b<=lid m:=by
     rw[et,nk]
     show 1*_<=_
     rw[K9]
     exact rows _
    refine⟨by rw[ep];exact ew,?_⟩
    rw[pR (iB 1) W _ h1 (by lia),nk,eX]
    have er:LY m=2*lid m:=by
     unfold LY
     rw[if_neg (by lia)]
    rw[er]
    by_cases q:(a,b)∈needs
    ·rw[if_pos q]
     show _+0<=_
     lia
    ·rw[if_neg q]
     have:=rows (λd=>decide (a<d)&&ib needs a b d)
     rw[<-gF]at this
     exact aX (Nat.add_le_add ew this) (sQ (Nat.two_mul (lid m)).symm)
end
end Bp
end
section
namespace Bp
open Vbpcau
def codes(t:Bytes):List Int:=t.map λc=>(c.toNat:Int)
def toks:Call->List Int
 |.begin_ n=>[0,n]
 |.need a b=>[1,a,b]
 |.drop a b=>[2,a,b]
 |.needs=>[3]
 |.clash=>[4]
 |.count=>[5]
 |.weigh w=>[6,w]
 |.least=>[7]
 |.depth=>[8]
 |.best=>[9]
 |.flat=>[10]
 |.plan k=>[11,k]
 |.rank t=>12::(t.length:Int)::codes t
 |.next t=>13::(t.length:Int)::codes t
 |.check t=>14::(t.length:Int)::codes t
 |.spans t=>15::(t.length:Int)::codes t
 |.mirror t=>16::(t.length:Int)::codes t
 |.steps t=>17::(t.length:Int)::codes t
 |.turn=>[18]
def fits(z:Int):Prop:=-1000000000000000000<=z/\z<=1000000000000000000
def CZ:Call->Prop
 |.begin_ n=>fits n
 |.need a b=>fits a/\fits b
 |.drop a b=>fits a/\fits b
 |.weigh w=>fits w
 |.plan k=>fits k
 |.rank t=>t.length<=500
 |.next t=>t.length<=500
 |.check t=>t.length<=500
 |.spans t=>t.length<=500
 |.mirror t=>t.length<=500
 |.steps t=>t.length<=500
 |_=>True
def vn:State->List Call->List (List Int)
 |_,[]=>[]
 |s,c::r=>(step s c).2::vn (step s c).1 r
theorem i19{P:Int->Prop}(a:∀n,P (.negSucc n))(b:∀n,P (.ofNat (n+19)))(c0:P 0)(c1:P 1)(c2:P 2)(c3:P 3)(c4:P 4)(c5:P 5)(c6:P 6)(c7:P 7)(c8:P 8)(c9:P 9)(c10:P 10)(c11:P 11)(c12:P 12)(c13:P 13)(c14:P 14)(c15:P 15)(c16:P 16)(c17:P 17)(c18:P 18):∀p,P p
 |.negSucc n=>a n|.ofNat 0=>c0|.ofNat 1=>c1|.ofNat 2=>c2|.ofNat 3=>c3|.ofNat 4=>c4|.ofNat 5=>c5|.ofNat 6=>c6|.ofNat 7=>c7|.ofNat 8=>c8|.ofNat 9=>c9|.ofNat 10=>c10|.ofNat 11=>c11|.ofNat 12=>c12|.ofNat 13=>c13|.ofNat 14=>c14|.ofNat 15=>c15|.ofNat 16=>c16|.ofNat 17=>c17|.ofNat 18=>c18|.ofNat (n+19)=>b n
theorem shp{P:List (List Int)->Prop}(h0:P [])(h1:P [[]])(h2:∀t,P ([]::[]::t))(h3:∀a b t,P ([]::(a::b)::t))(k1:∀p,P [[p]])(k2:∀p a,P [[p,a]])(k3:∀p a b,P [[p,a,b]])(k4:∀p a b c d,P [p::a::b::c::d])(k5:∀p x,P [[p],x])(k6:∀p a x,P [[p,a],x])(k7:∀p a b x,P [[p,a,b],x])(k8:∀p a b c l x,P [p::a::b::c::l,x])(m1:∀p x y t,P ([p]::x::y::t))(m2:∀p a x y t,P ([p,a]::x::y::t))(m3:∀p a b x y t,P ([p,a,b]::x::y::t))(m4:∀p a b c l x y t,P ((p::a::b::c::l)::x::y::t)):∀c,P c
 |[]=>h0|[[]]=>h1|[]::[]::t=>h2 t|[]::(a::b)::t=>h3 a b t|[[p]]=>k1 p|[[p,a]]=>k2 p a|[[p,a,b]]=>k3 p a b|[p::a::b::c::d]=>k4 p a b c d|[[p],x]=>k5 p x|[[p,a],x]=>k6 p a x|[[p,a,b],x]=>k7 p a b x|[p::a::b::c::l,x]=>k8 p a b c l x|[p]::x::y::t=>m1 p x y t|[p,a]::x::y::t=>m2 p a x y t|[p,a,b]::x::y::t=>m3 p a b x y t|(p::a::b::c::l)::x::y::t=>m4 p a b c l x y t
theorem O2:∀c:List (List Int),PyVbpcau.whole c=c:=by
 apply shp
 ·rfl
 ·rfl
 ·exact λ_=>rfl
 ·exact λ_ _ _=>rfl
 all_goals apply i19
 all_goals intros;rfl
theorem fits_of{z:Int}(h:zN z=true):fits z:=by
 unfold zN at h
 rw[ak]at h
 have h1:=of_decide_eq_true h.1
 have h2:=of_decide_eq_true h.2
 unfold fits
 lia
theorem Nn{l:List Int}(h:pY l=true):∃t:Bytes,qB l=aa t/\t.length=l.length/\codes t=l/\l.length<=500:=by
 unfold pY at h
 rw[ak,gB]at h
 have hb:JB l=true:=by
  unfold JB
  rw[gB]
  intro z hz
  exact h.2 z hz
 refine⟨l.map λn=>zM n.toNat,?_,by rw[ae],?_,of_decide_eq_true h.1⟩
 ·unfold qB
  rw[if_pos hb]
 ·unfold codes
  rw[dQ]
  refine(bg λz hz=>?_).trans (Ad l)
  have q:=h.2 z hz
  rw[ak]at q
  have q1:=of_decide_eq_true q.1
  have q2:=of_decide_eq_true q.2
  show((zM z.toNat).toNat:Int)=z
  rw[wu]
  lia
theorem qF{t:List Int}(h:pY t=true)(C:Bytes->Call)(p:Int)(h1:∀b,toks (C b)=p::(b.length:Int)::codes b)(h2:lC [[p],t]=(qB t).map C)(h3:∀b,b.length<=500->CZ (C b)):
  ∃C:Call,lC [[p],t]=aa C/\CZ C/\(∀q a xs,[[p],t]=(q::a)::xs->toks C=(q::a)++xs.flatMap λx=>(x.length:Int)::x):=by
 obtain⟨b,e1,e2,e3,e4⟩:=Nn h
 refine⟨C b,by rw[h2,e1];rfl,h3 b (by lia),λq a xs e=>?_⟩
 cases e
 rw[h1,e2,e3]
 simp
def Rd(c:List (List Int)):Prop:=∃C:Call,lC c=aa C/\CZ C/\(∀p a xs,c=(p::a)::xs->toks C=(p::a)++xs.flatMap λx=>(x.length:Int)::x)
theorem cU{c:List (List Int)}(h:false=true):Rd c:=b0 h
theorem rd1{p:Int}{l:List Int}{C:Call}(h1:lC [p::l]=aa C)(h2:CZ C)(h3:toks C=p::l):Rd [p::l]:=⟨C,h1,h2,λq a xs e=>by cases e;rw[h3,gC,aZ]⟩
theorem call_of:∀{c:List (List Int)},qA c=true->Rd c:=by
 refine λ{c}=>shp (P:=λc=>qA c=true->Rd c) ?_ ?_ ?_ ?_ ?_ ?_ ?_ ?_ ?_ ?_ ?_ ?_ ?_ ?_ ?_ ?_ c
 ·exact cU
 ·exact cU
 ·exact λ_=>cU
 ·exact λ_ _ _=>cU
 ·exact i19 (λ_=>cU) (λ_=>cU) cU cU cU (λ_=>rd1 (C:=.needs) rfl trivial rfl) (λ_=>rd1 (C:=.clash) rfl trivial rfl) (λ_=>rd1 (C:=.count) rfl trivial rfl) cU (λ_=>rd1 (C:=.least) rfl trivial rfl) (λ_=>rd1 (C:=.depth) rfl trivial rfl) (λ_=>rd1 (C:=.best) rfl trivial rfl) (λ_=>rd1 (C:=.flat) rfl trivial rfl) cU cU cU cU cU cU cU (λ_=>rd1 (C:=.turn) rfl trivial rfl)
 ·exact i19 (λ_ _=>cU) (λ_ _=>cU) (λ_ h=>rd1 (C:=.begin_ _) rfl (fits_of h) rfl) (λ_=>cU) (λ_=>cU) (λ_=>cU) (λ_=>cU) (λ_=>cU) (λ_ h=>rd1 (C:=.weigh _) rfl (fits_of h) rfl) (λ_=>cU) (λ_=>cU) (λ_=>cU) (λ_=>cU) (λ_ h=>rd1 (C:=.plan _) rfl (fits_of h) rfl) (λ_=>cU) (λ_=>cU) (λ_=>cU) (λ_=>cU) (λ_=>cU) (λ_=>cU) (λ_=>cU)
 ·refine i19 ?_ ?_ ?_ (λ_ _ h=>rd1 (C:=.need _ _) rfl ⟨fits_of (ia.mp h).1,fits_of (ia.mp h).2⟩ rfl) (λ_ _ h=>rd1 (C:=.drop _ _) rfl ⟨fits_of (ia.mp h).1,fits_of (ia.mp h).2⟩ rfl) ?_ ?_ ?_ ?_ ?_ ?_ ?_ ?_ ?_ ?_ ?_ ?_ ?_ ?_ ?_ ?_<;>intros<;>exact cU ‹_›
 ·apply i19<;>intros<;>exact cU ‹_›
 ·refine i19 ?_ ?_ ?_ ?_ ?_ ?_ ?_ ?_ ?_ ?_ ?_ ?_ ?_ ?_ (λ_ h=>qF h .rank 12 (λ_=>rfl) rfl (λ_ h=>h)) (λ_ h=>qF h .next 13 (λ_=>rfl) rfl (λ_ h=>h)) (λ_ h=>qF h .check 14 (λ_=>rfl) rfl (λ_ h=>h)) (λ_ h=>qF h .spans 15 (λ_=>rfl) rfl (λ_ h=>h)) (λ_ h=>qF h .mirror 16 (λ_=>rfl) rfl (λ_ h=>h)) (λ_ h=>qF h .steps 17 (λ_=>rfl) rfl (λ_ h=>h)) ?_<;>intros<;>exact cU ‹_›
 all_goals apply i19<;>intros<;>exact cU ‹_›
theorem QC{l x s:List Int}(h:JE l=aa (x,s)):l=((x.length:Int)::x)++s:=by
 cases l with
 |nil=>cases h
 |cons n r=>
  unfold JE at h
  dsimp only at h
  by_cases k:0<=n/\n.toNat<=r.length
  ·rw[if_pos k]at h
   injection h with h
   injection h with h1 h2
   subst h1 h2
   have hl:(r.take n.toNat).length=n.toNat:=by rw[bH];lia
   have hn:((r.take n.toNat).length:Int)=n:=by lia
   rw[hn,j4,jk]
  ·rw[if_neg k]at h
   cases h
theorem G2:∀(k:Nat)(l:List Int)(xs:List (List Int))(s:List Int),ux k l=aa (xs,s)->l=(xs.flatMap λx=>(x.length:Int)::x)++s
 |0,l,xs,s,h=>by
  unfold ux at h
  injection h with h
  injection h with h1 h2
  subst h1 h2
  rfl
 |k+1,l,xs,s,h=>by
  unfold ux at h
  cases e:JE l with
  |none=>rw[e]at h;cases h
  |some q=>
   obtain⟨x,t⟩:=q
   rw[e]at h
   dsimp only at h
   cases e2:ux k t with
   |none=>rw[e2]at h;cases h
   |some q2=>
    obtain⟨ys,u⟩:=q2
    rw[e2]at h
    dsimp only at h
    injection h with h
    injection h with h1 h2
    subst h1 h2
    rw[QC e,G2 k t ys u e2,bT,dm]
theorem Np{shape:Int->Option (Nat×Nat)}{l:List Int}{c:List (List Int)}{t:List Int}(h:Hu shape l=aa (c,t)):∃p a xs,c=(p::a)::xs/\l=((p::a)++xs.flatMap λx=>(x.length:Int)::x)++t:=by
 cases l with
 |nil=>cases h
 |cons p r=>
  unfold Hu at h
  dsimp only at h
  cases e:shape p with
  |none=>rw[e]at h;cases h
  |some q=>
   obtain⟨n,k⟩:=q
   rw[e]at h
   dsimp only at h
   by_cases hl:r.length<n
   ·rw[if_pos hl]at h
    cases h
   ·rw[if_neg hl]at h
    cases e2:ux k (r.drop n)with
    |none=>rw[e2]at h;cases h
    |some q2=>
     obtain⟨xs,u⟩:=q2
     rw[e2]at h
     dsimp only at h
     injection h with h
     injection h with h1 h2
     subst h1 h2
     refine⟨p,r.take n,xs,rfl,?_⟩
     have e3:=G2 k _ _ _ e2
     rw[j4,j4,dm,<-e3,jk]
theorem CL{shape:Int->Option (Nat×Nat)}:∀(f:Nat)(l:List Int)(cs:List (List (List Int))),ou shape f l=aa cs->(∀c∈cs,qA c=true)->
  ∃Cs:List Call,l=Cs.flatMap toks/\Cs.length=cs.length/\(∀C∈Cs,CZ C)/\∀s,PyFlat.played ic s cs=vn s Cs
 |f,[],cs,h,_=>by
  have e:cs=[]:=by
   unfold ou at h
   cases f<;>(injection h with h;exact h.symm)
  subst e
  exact⟨[],rfl,rfl,λC hC=>(by cases hC),λs=>rfl⟩
 |0,_::_,cs,h,_=>by
  unfold ou at h
  cases h
 |f+1,p::r,cs,h,ha=>by
  unfold ou at h
  cases e:Hu shape (p::r)with
  |none=>rw[e]at h;cases h
  |some q=>
   obtain⟨c,t⟩:=q
   rw[e]at h
   dsimp only at h
   cases e2:ou shape f t with
   |none=>rw[e2]at h;cases h
   |some ds=>
    rw[e2]at h
    dsimp only at h
    injection h with h
    subst h
    obtain⟨C,hC,hf,ht⟩:=call_of (ha c ay)
    obtain⟨p',a,xs,e3,e4⟩:=Np e
    obtain⟨Cs,h1,h2,h3,h4⟩:=CL f t ds e2 λd hd=>ha d (ax _ hd)
    refine⟨C::Cs,?_,by rw[aF,aF,h2],λD hD=>?_,λs=>?_⟩
    ·rw[e4,bT,ht p' a xs e3,<-h1]
    ·rcases aG.mp hD with z|z
     ·rw[z];exact hf
     ·exact h3 D z
    ·show(ic s c).2::PyFlat.played ic (ic s c).1 ds=(step s C).2::vn (step s C).1 Cs
     have e5:ic s c=step s C:=by
      unfold ic
      rw[hC]
     rw[e5,h4]
theorem FI{l:List Int}(h:qW l=true):∃Cs:List Call,l=Cs.flatMap toks/\Cs≠[]/\Cs.length<=100/\(∀C∈Cs,CZ C)/\xF l=jE (vn start Cs):=by
 unfold qW at h
 unfold xF
 cases e:MW l with
 |none=>rw[e]at h;cases h
 |some cs=>
  rw[e]at h
  dsimp only at h⊢
  rw[ak]at h
  unfold VbpcauNeutral.asked at h
  rw[ak,ak,gB]at h
  obtain⟨_,ha,h1,h2⟩:=h
  have h1':=of_decide_eq_true h1
  have h2':=of_decide_eq_true h2
  unfold MW at e
  cases e2:ou PyVbpcau.shape l.length l with
  |none=>rw[e2]at e;cases e
  |some ds=>
   rw[e2]at e
   dsimp only at e
   injection e with e
   have e3:ds=cs:=by
    rw[<-e]
    refine((bg λc _=>?_).trans (Ad ds)).symm
    exact O2 c
   subst e3
   obtain⟨Cs,q1,q2,q3,q4⟩:=CL _ l ds e2 ha
   refine⟨Cs,q1,λz=>?_,by lia,q3,by rw[q4];rfl⟩
   subst z
   rw[fh]at q2
   lia
end Bp
end
section
namespace Ex
open PySem PySem.Calls PyProof.Rows PySem.W
abbrev HM:String:="Exception.__new__"
def wF(K:Frag)(C:Addr):Bool:=match K.lookup C with
 |some ⟨_,_,.cls cd,sl⟩=>!cd.abstract&&!cd.hasDel&&(sl.toList[4]?).join==aa (.builtin HM)&&!cd.mro.isEmpty&&cd.mro.contains (.ref C)&&cd.mro.contains (.type "Exception")&&
   cd.mro.contains (.type "BaseException")&&!cd.mro.contains (.type "AttributeError")&&!cd.mro.contains (.type "NameError")&&
   specialIn K (.ref C) "__call__"==aa (aa (.builtin "type.__call__"))&&instIn K (.ref C) (.type "type")==aa true
 |_=>false
structure xI(M:Model)(h:Heap)(C:Addr):Prop where
 obj:∃oc od cd sl,h.get? C=aa ⟨oc,od,.cls cd,sl⟩/\cd.hasDel=false/\cd.mro.isEmpty=false
 made:Looks M h (JF (.ref C)) (aa HM)
 base:Looks M h (BQ (.ref C)) (.ref C)
 self:Looks M h (isSubtype (.ref C) (.ref C)) true
 exc:Looks M h (isSubtype (.ref C) (.type "Exception")) true
 TC:Looks M h (isSubtype (.ref C) (.type "BaseException")) true
 Rp:Looks M h (isSubtype (.ref C) (.type "AttributeError")) false
 V8:Looks M h (isSubtype (.ref C) (.type "NameError")) false
 call:Looks M h (specialOf (.ref C) "__call__") (aa (.builtin "type.__call__"))
 typ:Looks M h (isInstance (.ref C) (.type "type")) true
theorem yO{K:Frag}{M:Model}{h:Heap}(X:K.In h){C:Addr}(e:wF K C=true):xI M h C:=by
 unfold wF at e
 split at e
 ·rename_i oc od cd sl ho
  simp only[ak,yA,beq_iff_eq]at e
  obtain⟨⟨⟨⟨⟨⟨⟨⟨⟨⟨e1,e2⟩,e3⟩,e4⟩,e5⟩,e6⟩,e7⟩,e8⟩,e9⟩,e10⟩,e11⟩:=e
  have hc:clsIn K C=aa cd:=by unfold clsIn;rw[ho]
  have hm:Looks M h (mroOf (.ref C)) cd.mro:=(looks_clsIn X hc).andThen .now
  have mr:∀v b,cd.mro.contains v=b->mroIn K C v=aa b:=λv b q=>by
   unfold mroIn
   rw[hc,MR,if_neg (by rw[e4];decide),q]
  obtain⟨c,l,hl⟩:∃c l,cd.mro=c::l:=by
   cases q:cd.mro with
   |nil=>rw[q]at e4;cases e4
   |cons c l=>exact⟨c,l,rfl⟩
  have mb:Looks M h (JF (.ref C)) (aa HM):=by
   intro A Q E s k q
   unfold JF
   refine wpAny_bind (hm A _ E s k ?_)
   rw[hl,oq]
   refine wpAny_bind (wpAny_bind (wpAny_bind (wpAny_bind (wpAny_loadPart (k _ _ (X _ _ ho)) (wpAny_pure ?_)))))
   dsimp only
   rw[<-mv,e3]
   exact wpAny_pure (wpAny_pure (wpAny_pure q))
  have sb:Looks M h (BQ (.ref C)) (.ref C):=by
   intro A Q E s k q
   unfold BQ
   refine wpAny_bind (hm A _ E s k ?_)
   rw[hl,oq]
   exact wpAny_bind (wpAny_bind (wpAny_bind (mb A _ E s k (wpAny_pure (wpAny_pure (wpAny_pure q))))))
  exact⟨⟨oc,od,cd,sl,X _ _ ho,e2,e4⟩,mb,sb,looks_mroIn X (mr _ _ e5),looks_mroIn X (mr _ _ e6),looks_mroIn X (mr _ _ e7),looks_mroIn X (mr _ _ e8),looks_mroIn X (mr _ _ e9),looks_specialIn X e10,looks_instIn X e11⟩
 ·cases e
abbrev jw(C t:Addr)(d:Option Addr):Obj:={cls:=.ref C,dict:=d,data:=.fields #[.ref t,.none,.none,.none,.bool false,.none]}
abbrev x9(vs:List Value):Obj:={cls:=.type "tuple",data:=.seq vs.toArray}
section
variable{prog:Program}{w:World}{A:Around}{K:Frag}{C:Addr}{R:Result->Shared->Prop}{h:Heap}{g:Array GenState}{d:Drawn}{t:Nat}{os:OsState}
theorem Ua{rest:List Value}(Y:xI (model prog w) h C)(hq:R (.ok (.ret (.ref (h.objs.size+1)))) ⟨(h.push (x9 rest)).push (jw C h.objs.size none),g,d,t,os⟩)(hr:rest.length<=sizeLine):
  codeAny (model prog w) A (.call (.builtin HM) ⟨.ref C::rest,[]⟩) R ⟨h,g,d,t,os⟩:=by
 have F:=PySem.F.excBase_Exception
 obtain⟨⟨oc,od,cd,sl,hC,e2,e4⟩,made,base,self,exc,TC,Rp,V8,call,typ⟩:=Y
 have hst:=F.noStar
 have hen:HM.endsWith ".__new__"=true:=F.ends
 refine codeAny_call_builtin_code (MU _ F.quiet) ?_
 simp only[checkBuiltinCall,F.newKind,F.newSplit,F.newRow]
 repeat (first|simp only[bne_self_eq_false,ft,if_false]|lk|wp_step)
 refine codeAny_builtinAt F.entry ?_
 unfold Builtin.«BaseException.__new__»
 refine Pe ?_
 show PySem.wpAt _ _ _ (stack>>=_) _ _ _
 refine Pe (PySem.wpAt_stack λp below=>JL ?_)
 wp_walk
 refine JL ?_
 rw[show HM.dropRight 8="Exception"from F.owner]
 have here:Looks (model prog w) h (Bind.madeHere "BaseException.__new__" (.ref C)) ():=base.andThen (made.andThen (Hy (by
  simp only[nO,show Hx HM=Hx "BaseException.__new__"from F.canon,bne_self_eq_false,ft,if_false])))
 repeat (first|lk|wp_step)
 refine wpAny_load (aw _ (aw _ hC)) (wpAny_pure ?_)
 rw[e2]
 refine wpAny_pure (wpAny_pure ?_)
 show R _ _
 rw[cu]
 exact hq
theorem Si{rest:List Value}{f:Addr}(Y:xI (model prog w) h C)(hi:Looks (model prog w) h (typeLookup (.ref C) "__init__") (aa (.ref f)))
  (hb:∀self,Looks (model prog w) h (bindSpecial (.ref f) self) (.ref f,[self]))(hr:rest.length<=sizeLine)
  (hq:codeAny (model prog w) (A.under (.builtin "type.__call__" ⟨.ref C::rest,[]⟩)) (.call (.ref f) ⟨.ref (h.objs.size+1)::rest,[]⟩) (InitBack (h.objs.size+1) R)
    ⟨(h.push (x9 rest)).push (jw C h.objs.size none),g,d,t,os⟩):
  codeAny (model prog w) A (.call (.ref C) ⟨rest,[]⟩) R ⟨h,g,d,t,os⟩:=by
 have Y2:=Y
 obtain⟨⟨oc,od,cd,sl,hC,e2,e4⟩,made,base,self,exc,TC,Rp,V8,call,typ⟩:=Y
 refine codeAny_of_tree ?_
 show wpAny _ _ (callAny (.ref C) _) _ _ _
 refine nd_load hC ?_
 show wpAny _ _ (JK (.ref C) _) _ _ _
 unfold JK
 refine wpAny_bind (call.at ?_)
 dsimp only
 rw[tc_bind]
 refine wpAny_bind (wpAny_pure (wpAny_bind (wpAny_pure ?_)))
 refine wpAny_pure (a:=Fin.again (.call (.builtin "type.__call__") ⟨.ref C::rest,[]⟩)) ⟨rfl,?_⟩
 refine codeAny_call_builtin_at (MU _ (by decide+kernel)) entry_typeCall (check_slot tc_kind tc_split typ (tc_args _ _ _) ?_)
 unfold Builtin.«type.__call__»
 have hm:Looks (model prog w) h (mroOf (.ref C)) cd.mro:=((pz (part:=none) hC).andThen .now).andThen .now
 repeat (first|simp only[e4,ft,if_false]|with_reducible refine wpAny_call ?_|lk)
 refine Ua Y2 ?_ hr
 have k:∀b o,h.get? b=aa o->((h.push (x9 rest)).push (jw C h.objs.size none)).get? b=aa o:=λb o e=>aw _ (aw _ e)
 have hx:((h.push (x9 rest)).push (jw C h.objs.size none)).get? (h.objs.size+1)=aa (jw C h.objs.size none):=qx (by rw[cu]) rfl
 have t1:Looks (model prog w) ((h.push (x9 rest)).push (jw C h.objs.size none)) (typeOf (.ref (h.objs.size+1))) (.ref C):=(pz hx).andThen .now
 have s1:=self.keeps k
 have i1:=hi.keeps k
 have b1:=(hb (.ref (h.objs.size+1))).keeps k
 unfold isInstance callSpecial? specialOf
 repeat (first|with_reducible refine wpAny_call ?_|lk)
 refine codeAny_mono hq λr s' z=>?_
 rcases r with e|(v|_|_|_)
 ·exact z
 ·exact z.elim
 ·exact z.elim
 ·exact z.elim
 ·obtain⟨rfl,z⟩:=z
  exact wpAny_pure (wpAny_pure z)
end
end Ex
end
section
namespace Ex
open PySem PySem.Calls PyProof.Rows PySem.W Builtin Builtin.ObjectAttr
def uI:List Value->Bool
 |.ref _::r=>uI r
 |[.type a,.type b,.type c]=>a=="Exception"&&(b=="BaseException"&&c=="object")
 |_=>false
theorem Bb(self:Value):∀{l:List Value},uI l=true->refuseLoop self "__setattr__" l=pure ()
 |.ref c::r,e=>by rw[refuseLoop_ref];exact Bb self e
 |[.type a,.type b,.type c],e=>by
  unfold uI at e
  rw[ak,ak]at e
  rw[eq_of_beq e.1,eq_of_beq e.2.1,eq_of_beq e.2.2]
  exact PySem.F.store_Exception.passes self
theorem J4:∀{l:List Value},uI l=true->l.contains (.type "object")=true
 |.ref c::r,e=>by rw[List.contains_cons,J4 (l:=r) e,Bool.or_true]
 |[.type a,.type b,.type c],e=>by
  unfold uI at e
  rw[ak,ak]at e
  rw[eq_of_beq e.1,eq_of_beq e.2.1,eq_of_beq e.2.2]
  rfl
def Eh(K:Frag)(C:Addr):Bool:=(clsIn K C).any λcd=>uI cd.mro
section
variable{prog:Program}{w:World}{A:Around}{E:Value->Shared->Prop}{K:Frag}{C x:Addr}{s:Shared}{R:Result->Shared->Prop}
theorem Qq{ox:Obj}{od:Option Obj}{name:Str}{tk:Tok}{v:Value}(X:K.In s.heap)(I:InstAt s.heap x ox C od)(hp:Eh K C=true)(ht:takerIn K C name=aa none)
  (h:∀b,wpAny (model prog w) A.in1 (storeInOwnDict (.ref x) (.ref C) (.str name tk) name v b)
    (λfin s'=>match fin with|.done f=>R (.ok f) s'|.again c'=>c'.quiet=true/\codeAny (model prog w) A c' R s') (λe s'=>R (.error e) s') s):
  codeAny (model prog w) A (.call (.builtin "object.__setattr__") ⟨[.ref x,.str name tk,v],[]⟩) R s:=by
 have SF:=PySem.F.store_object
 obtain⟨cd,hc,ho⟩:=any_some hp
 have ne:cd.mro.isEmpty=false:=by
  cases q:cd.mro with
  |nil=>rw[q]at ho;cases ho
  |cons _ _=>rfl
 have sub:Looks (model prog w) s.heap (isInstance (.ref x) (.type "object")) true:=
  I.type.andThen (looks_mroIn X (by unfold mroIn;rw[hc,MR,if_neg (by rw[ne];decide),J4 ho]))
 refine codeAny_call_builtin SF.slot.plain SF.entry
  (@check_slot (model prog w) _ _ s "object.__setattr__" "object" "__setattr__" (.ref x) [.str name tk,v] [] _ SF.kind SF.split sub (SF.args (.ref x) (.str name tk) v) ?_)
 obtain⟨attr,ha,hr⟩:=Option.bind_eq_some_iff.mp ht
 have hm:Looks (model prog w) s.heap (mroOf (.ref C)) cd.mro:=(looks_clsIn X hc).andThen .now
 have ta:Looks (model prog w) s.heap (storeTaker? attr) none:=by
  cases attr with
  |none=>cases hr;exact .now
  |some a=>
   obtain⟨b,hb,q⟩:=lN.mp hr
   refine(looks_takesIn X hb).andThen ?_
   cases b
   ·exact .now
   ·cases q
 rw[osa_eq,refuse_eq]
 refine wpAny_bind (wpAny_bind (I.type.here (wpAny_bind (hm.here ?_))))
 rw[Bb _ ho]
 refine wpAny_pure (wpAny_bind (I.type.here (wpAny_bind ((looks_findIn X ha).here (wpAny_bind (ta.here ?_))))))
 exact h _
theorem QN{t:Addr}{name:Str}{v:Value}{Q:Unit->Shared->Prop}(X:K.In s.heap)(hx:s.heap.get? x=aa (jw C t none))(hs:findIn K (.ref C) "__setattr__"=aa (aa (.builtin "object.__setattr__")))
  (hp:Eh K C=true)(ht:takerIn K C name=aa none)(hh:hasDictIn K C=true)
  (h:∀h',h'.get? x=aa (jw C t (aa s.heap.objs.size))->h'.Ns1 s.heap.objs.size (λy=>if y=name then aa v else none)->(∀b o,b≠x->s.heap.get? b=aa o->h'.get? b=aa o)->
    ∀tk,Q () {s with heap:=h',toks:=tk}):wpAny (model prog w) A (setAttr (.ref x) name v) Q E s:=by
 have I:InstAt s.heap x (jw C t none) C none:=⟨hx,rfl,rfl,trivial⟩
 refine set_plain X I hs (Qq (s:={s with toks:=s.toks+1}) X I hp ht λb=>?_)
 obtain⟨cd,hc,hd⟩:=any_some hh
 refine wpAny_bind (wpAny_pure (wpAny_bind (wpAny_bind (wpAny_loadPart hx (wpAny_bind (Lg (s:={s with toks:=s.toks+1}) (looks_clsIn X hc) ?_))))))
 rw[hd,if_neg (show¬((!true)=true) by decide)]
 dsimp only
 rw[if_neg (show¬((!true||!typeHasDict (.ref C))=true) by simp[typeHasDict])]
 have xs:x≠s.heap.objs.size:=bJ (aQ hx)
 refine wpAny_bind (wpAny_alloc' ?_)
 refine wpAny_bind (wpAny_update' (aw _ hx) ?_)
 generalize hi:((s.heap.push {cls:=.type "dict",data:=.dict #[]}).update x λo=>{cls:=o.cls,dict:=aa s.heap.objs.size,data:=o.data,slots:=o.slots})=i
 have ix:i.get? x=aa (jw C t (aa s.heap.objs.size)):=by
  rw[<-hi]
  exact jl _ (aw _ hx) rfl
 have id:i.get? s.heap.objs.size=aa {cls:=.type "dict",data:=.dict #[]}:=by
  rw[<-hi]
  exact(Ld _ _ _ _ xs.symm).trans (qx rfl rfl)
 have io:∀b o,b≠x->s.heap.get? b=aa o->i.get? b=aa o:=λb o n q=>by
  rw[<-hi]
  exact(Ld _ _ _ _ n).trans (aw _ q)
 have nd:i.Ns s.heap.objs.size (λ_=>none):=⟨_,#[],_,id,rfl,λe he=>absurd he (by simp),λ_=>rfl⟩
 refine wpAny_pure ?_
 show wpAny _ _ (storeInDict s.heap.objs.size (.str name s.toks) name v) _ _ _
 unfold storeInDict newKeyGuard
 refine wpAny_bind (wpAny_pure (wpAny_bind (wpAny_nsSet1 (HL nd) λj nj sj=>?_)))
 obtain⟨oD,es,ep,ho,hdD,cD⟩:=nj.count (Lk name v Within.nil)
 refine wpAny_bind (wpAny_lookBehind ho (by rw[hdD];exact pastItsLine_dict (aX cD (by rw[aF,fh,sizeLine_eq];decide))) ?_)
 exact wpAny_pure (h j ((sj.2 x xs).trans ix) nj (λb o n q=>(sj.2 b (bJ (aQ q))).trans (io b o n q)) _)
end
end Ex
end
section
namespace Ex
open PySem PySem.Calls PyProof.Rows PySem.W Builtin Builtin.ObjectAttr
section
variable{prog:Program}{w:World}{A:Around}{E:Value->Shared->Prop}{s:Shared}{K:Frag}{x C:Addr}{ox:Obj}{od:Option Obj}{name:Str}{expr:Bool}{Q:Value->Shared->Prop}
theorem PR{v:Value}(X:K.In s.heap)(I:W.InstAt s.heap x ox C od)(hga:findIn K (.ref C) "__getattribute__"=aa (aa (.builtin "BaseException.__getattribute__")))
  (hgx:findIn K (.ref C) "__getattr__"=aa none)(hb:subIn K (.ref C) (.type "BaseException")=aa true)(hf:findObj K C od name=aa (.value v))(hh:handedIn v=true)
  (h:Q v {s with toks:=s.toks+1}):wpAny (model prog w) A (getAttr (.ref x) name expr) Q E s:=by
 obtain⟨hp,g,d,t,os⟩:=s
 have L0:=I.type (M:=model prog w)
 have L1:=looks_findIn (M:=model prog w) X hga
 have L2:=looks_findIn (M:=model prog w) X hgx
 have L3:=looks_find (M:=model prog w) X I hf
 have L4:Looks (model prog w) hp (isInstance (.ref x) (.type "BaseException")) true:=L0.andThen (looks_subIn X hb)
 have f3:=DX.ga.bind (.ref x)
 have x0:(expr&&onTheHeap (Value.builtin "BaseException.__getattribute__"))=false:=by cases expr<;>rfl
 have x2:(Value.builtin "BaseException.__getattribute__"==Value.builtin "object.__getattribute__")=false:=by decide+kernel
 have x1:(onTheHeap (Value.ref C)&&Value.builtin "BaseException.__getattribute__"==Value.builtin "object.__getattribute__")=false:=by rw[x2];rfl
 have hk:builtinKind "BaseException.__getattribute__"=aa .slot:=by decide+kernel
 have hsp:splitId "BaseException.__getattribute__"=aa ("BaseException","__getattribute__"):=by decide+kernel
 unfold getAttr getAttrBy
 refine wpAny_bind (wpAny_mkText (wpAny_holding (wpAny_bind (L0.at (wpAny_bind (L1.at ?_))))))
 dsimp only
 rw[x1,if_neg (by decide)]
 unfold getAttrByItsOwn
 unfold hookBefore
 refine wpAny_bind (L2.at (wpAny_bind (wpAny_attempt (wpAny_holding ?_))))
 unfold callGetattribute
 rw[x0,if_neg (by decide)]
 unfold boundAndCalled
 rw[f3]
 refine wpAny_bind (wpAny_pure (wpAny_call ?_))
 refine codeAny_call_builtin DX.ga.plain PySem.F.entry_bexc_ga
  (@check_slot (model prog w) _ _ ⟨hp,g,d,t+1,os⟩ "BaseException.__getattribute__" "BaseException" "__getattribute__" (.ref x) [.str name t] [] _ hk hsp L4 (PySem.F.args_bexc_ga (.ref x) (.str name t)) ?_)
 refine wpAny_bind (wpAny_pure (wpAny_bind (wpAny_pure (wpAny_bind (L0.at (wpAny_bind (L3.at (wpAny_pure ?_))))))))
 show wpAny _ _ (handedOut v) _ _ _
 rw[handedOut_of hh]
 exact wpAny_pure h
end
end Ex
end
section
namespace Ex
open PySem
structure Rec(h:Heap)(e:Addr)(cls:Value)(dx:Option Addr)(T:Addr)(fl:Value):Prop where
 ob:∃o vs,h.get? e=aa o/\o.cls=cls/\o.dict=dx/\o.data=.fields vs/\vs[1]?=aa (.ref T)
 en:∃o ts,h.get? T=aa o/\o.data=.fields ts/\ts[3]?=aa fl
 ne:T≠e
structure U5(h:Heap)(e:Addr)(cls:Value)(dx:Option Addr):Prop where
 ob:∃o vs,h.get? e=aa o/\o.cls=cls/\o.dict=dx/\o.data=.fields vs/\vs[1]?=aa .none
structure DT(fs ch:List Addr)(h h':Heap):Prop where
 keep:∀b o,h.get? b=aa o->b∉ch->b∉fs->h'.get? b=aa o
 slot:∀b o,h.get? b=aa o->b∉ch->∃sl,h'.get? b=aa {o with slots:=sl}
 there:∀b o,h.get? b=aa o->∃q,h'.get? b=aa q
theorem DT.trans{fs ch:List Addr}{h i j:Heap}(x:DT fs ch h i)(y:DT fs ch i j):DT fs ch h j where
 keep:=λb o q n m=>y.keep b o (x.keep b o q n m) n m
 slot:=λb o q n=>by
  obtain⟨sl,z⟩:=x.slot b o q n
  obtain⟨sl',z'⟩:=y.slot b _ z n
  exact⟨sl',z'⟩
 there:=λb o q=>by
  obtain⟨p,z⟩:=x.there b o q
  exact y.there b p z
theorem DT.mono{fs ch ch' fs':List Addr}{h i:Heap}(x:DT fs ch h i)(m:∀b∈ch,b∈ch')(f:∀b∈fs,b∈fs'):DT fs' ch' h i:=
 ⟨λb o q n k=>x.keep b o q (λz=>n (m b z)) λz=>k (f b z),λb o q n=>x.slot b o q λz=>n (m b z),x.there⟩
theorem DT.one{h:Heap}{T:Addr}{o:Obj}{f:Obj->Obj}(q:h.get? T=aa o)(fr:(f o).isFreed=false):DT [] [T] h (h.update T f)where
 keep:=λb p z n _=>by
  rw[dS _ _ (λe=>n (by rw[e];exact aK.mpr rfl))]
  exact z
 slot:=λb p z n=>⟨p.slots,by
  rw[dS _ _ (λe=>n (by rw[e];exact aK.mpr rfl))]
  exact z⟩
 there:=λb p z=>by
  by_cases e:T=b
  ·subst e
   exact⟨_,jl _ q fr⟩
  ·exact⟨p,by rw[dS _ _ e];exact z⟩
abbrev De(l:List Env):List Addr:=l.filterMap (·.frame)
section
variable{M:Model}{A:Around}{E:Value->Shared->Prop}{s:Shared}{base:Heap}{env:Env}{outer:List Env}{L e T:Addr}{cls fl:Value}{dx:Option Addr}{Q:Unit->Shared->Prop}
theorem Dm{b:Addr}{o:Obj}{vs:Array Value}{l:List Env}(hl:s.heap.FunFrames base l)(q:s.heap.get? b=aa o)(d:o.data=.fields vs):b∉De l:=λz=>by
 obtain⟨_,p,hp,np⟩:=hl.mem z
 have e:o=p:=bq (q.symm.trans hp)
 subst e
 exact np vs d
theorem Hl{head:Value}{had:Bool}{o:Obj}{vs:Array Value}(fr:A.frames=aa (env::outer))(hl:s.heap.FunFrames base (env::outer))(hf:env.frame=aa L)
  (ho:s.heap.get? e=aa o)(hd:o.data=.fields vs)(hv:1<vs.size)
  (k:∀h' T',DT (De (env::outer)) [e] s.heap h'->s.heap.objs.size<=T'->Rec h' e o.cls o.dict T' (rawInt L)->Q () {s with heap:=h'}):
  wpAny M A (do let a<-frameOf env;let pl<-entryPlaceOf L had;let b<-DV head a .none (rawInt L) .none pl;setField (.ref e) 1 b) Q E s:=by
 have nf:=Dm hl ho hd
 refine wpAny_bind (wpAny_frameOf_fun fr hl hf λg sg=>?_)
 refine wpAny_bind (wpAny_entryPlaceOf λpl ip=>?_)
 unfold DV newFields
 refine wpAny_bind (wpAny_newObj_type ?_ (ip.sizeOk5 _ _ _ _ _))
 have hg:g.get? e=aa o:=(sg.2.1 e nf).trans ho
 generalize hob:({cls:=.type "traceback",dict:=none,data:=.fields ([head,Value.ref L,.none,rawInt L,.none]++(if pl.isEmpty then List.replicate 6 Value.none else pl)).toArray}:Obj)=ob
 have nfree:ob.isFreed=false:=by rw[<-hob];rfl
 have gp:=aw (h:=g) ob hg
 refine wpAny_setField gp hd hv ?_
 have ne:g.objs.size≠e:=zo (aQ hg)
 have hd2:=pX hd (·.setIfInBounds 1 (Value.ref g.objs.size))
 have fe:=nt hd2
 have upd:=jl (jm (·.setIfInBounds 1 (Value.ref g.objs.size))) gp fe
 have other:∀b p,b≠e->g.get? b=aa p->((g.push ob).update e (jm (·.setIfInBounds 1 (Value.ref g.objs.size)))).get? b=aa p:=λb p n z=>by
  rw[dS _ _ (ra n)]
  exact aw ob z
 have top:((g.push ob).update e (jm (·.setIfInBounds 1 (Value.ref g.objs.size)))).get? g.objs.size=aa ob:=by
  rw[dS _ _ (ra ne)]
  exact bh g nfree
 refine k _ g.objs.size ⟨λb p z n m=>?_,λb p z n=>?_,λb p z=>?_⟩ ?_ ⟨?_,⟨ob,_,top,by rw[<-hob],?_⟩,ne⟩
 ·exact other b p (λw=>n (by rw[w];exact aK.mpr rfl)) ((sg.2.1 b m).trans z)
 ·obtain⟨sl,q⟩:=sg.2.2 b p z
  exact⟨sl,other b _ (λw=>n (by rw[w];exact aK.mpr rfl)) q⟩
 ·by_cases w:b=e
  ·subst w
   exact⟨_,upd⟩
  ·obtain⟨sl,q⟩:=sg.2.2 b p z
   exact⟨_,other b _ w q⟩
 ·rw[sg.1]
  exact ah _
 ·refine⟨_,_,upd,Obj.cls_mapFields _ _,?_,hd2,?_⟩
  ·obtain⟨c,d,dt,sl⟩:=o
   dsimp only at hd
   subst hd
   rfl
  ·simp[hv]
 ·rcases ip with rfl|⟨_,_,_,_,_,_,_,rfl⟩<;>simp
theorem yt(R:Rec s.heap e cls dx T fl)(k:∀h',DT [] [T] s.heap h'->Rec h' e cls dx T .none->Q () {s with heap:=h'}):wpAny M A (setFlight (.ref e) none) Q E s:=by
 obtain⟨⟨o,vs,ho,c,d,hd,h1⟩,⟨p,ts,hp,hdp,h3⟩,ne⟩:=R
 have sz:3<ts.size:=(gE.mp h3).1
 unfold setFlight
 refine wpAny_bind (wpAny_field ho hd h1 ?_)
 rw[if_pos (show(Value.ref T != Value.none)=true by simp)]
 have hd2:=pX hdp (·.setIfInBounds 3 ((none:Option Addr).elim Value.none λf=>rawInt f))
 have fp:=nt hd2
 refine wpAny_setField hp hdp sz (k _ (DT.one hp fp) ⟨⟨o,vs,?_,c,d,hd,h1⟩,⟨_,_,jl _ hp fp,hd2,?_⟩,ne⟩)
 ·rw[dS _ _ ne]
  exact ho
 ·simp[sz]
theorem Hm(fr:A.frames=aa (env::outer))(hl:s.heap.FunFrames base (env::outer))(hf:env.frame=aa L)(N:U5 s.heap e cls dx)
  (k:∀h' T',DT (De (env::outer)) [e] s.heap h'->s.heap.objs.size<=T'->Rec h' e cls dx T' (rawInt L)->Q () {s with heap:=h'}):wpAny M A (noteFrame (.ref e) env) Q E s:=by
 obtain⟨o,vs,ho,rfl,rfl,hd,h1⟩:=N.ob
 unfold noteFrame
 simp only[hf]
 refine wpAny_bind (wpAny_field ho hd h1 ?_)
 rw[if_neg (by decide)]
 exact Hl fr hl hf ho hd (gE.mp h1).1 k
theorem xE(fr:A.frames=aa (env::outer))(hl:s.heap.FunFrames base (env::outer))(hf:env.frame=aa L)(R:Rec s.heap e cls dx T .none)
  (k:∀h' T',DT (De (env::outer)) [e,T] s.heap h'->s.heap.objs.size<=T'->Rec h' e cls dx T' (rawInt L)->Q () {s with heap:=h'}):wpAny M A (noteFrame (.ref e) env) Q E s:=by
 obtain⟨⟨o,vs,ho,rfl,rfl,hd,h1⟩,⟨p,ts,hp,hdp,h3⟩,ne⟩:=R
 have sz:3<ts.size:=(gE.mp h3).1
 unfold noteFrame
 simp only[hf]
 refine wpAny_bind (wpAny_field ho hd h1 ?_)
 rw[if_pos (show(Value.ref T != Value.none)=true by simp)]
 refine wpAny_bind (wpAny_field hp hdp h3 ?_)
 rw[if_neg (show¬((Value.none==rawInt L)=true) by simp[rawInt])]
 refine wpAny_bind (wpAny_setField hp hdp sz ?_)
 have hd2:=pX hdp (·.setIfInBounds 3 Value.none)
 have fp:=nt hd2
 have c1:=DT.one (f:=jm (·.setIfInBounds 3 Value.none)) hp fp
 have nT:=Dm hl hp hdp
 refine Hl (s:={s with heap:=s.heap.update T (jm (·.setIfInBounds 3 Value.none))}) fr (hl.of_keeps λb q z n=>?_) hf (c1.keep e o ho (by intro w;exact ne (aK.mp w).symm) (by simp)) hd (gE.mp h1).1 λh' T' c n R=>k h' T' ?_ ?_ R
 ·by_cases w:b=T
  ·subst w
   have:q=p:=bq (z.symm.trans hp)
   subst this
   exact absurd hdp (n ts)
  ·exact⟨q,c1.keep b q z (by intro x;exact w (aK.mp x)) (by simp),rfl⟩
 ·exact(c1.mono (λb z=>by rw[aK.mp z];simp) (by simp)).trans (c.mono (λb z=>by rw[aK.mp z];simp) λb z=>z)
 ·rw[show s.heap.objs.size=(s.heap.update T (jm (·.setIfInBounds 3 Value.none))).objs.size from(Heap.size_after_update ..).symm]
  exact n
theorem Cv(hf:env.frame=aa L)(R:Rec s.heap e cls dx T (rawInt L))(k:Q () s):wpAny M A (noteFrame (.ref e) env) Q E s:=by
 obtain⟨⟨o,vs,ho,rfl,rfl,hd,h1⟩,⟨p,ts,hp,hdp,h3⟩,ne⟩:=R
 unfold noteFrame
 simp only[hf]
 refine wpAny_bind (wpAny_field ho hd h1 ?_)
 rw[if_pos (show(Value.ref T != Value.none)=true by simp)]
 refine wpAny_bind (wpAny_field hp hdp h3 ?_)
 rw[if_pos (show(rawInt L==rawInt L)=true by simp)]
 exact wpAny_pure k
end
end Ex
end
section
namespace L2
open PySem PySem.Spec PyProof.Rows
def exP{α:Sort u}{κ:Type}(Q:κ)(F:α->κ->Prop)(a:α):Prop:=F a Q
def ex1{α:Sort u}{κ:Type}(Q:κ)(F:α->κ->Prop):Prop:=Exists (exP Q F)
@[reducible] def kQ{α β κ:Type}(Q:κ)(F:α->β->κ->Prop)(x:α)(y:β):Prop:=F x y Q
def eg2{t0 t1 κ:Type}(F:t0->t1->κ->Prop)(a:t0)(Q:κ):Prop:=ex1 Q (F a)
def ex2{t0 t1 κ:Type}(Q:κ)(F:t0->t1->κ->Prop):Prop:=ex1 Q (eg2 F)
def eg3{t0 t1 t2 κ:Type}(F:t0->t1->t2->κ->Prop)(a:t0)(Q:κ):Prop:=ex2 Q (F a)
def ex3{t0 t1 t2 κ:Type}(Q:κ)(F:t0->t1->t2->κ->Prop):Prop:=ex1 Q (eg3 F)
def eg4{t0 t1 t2 t3 κ:Type}(F:t0->t1->t2->t3->κ->Prop)(a:t0)(Q:κ):Prop:=ex3 Q (F a)
def ex4{t0 t1 t2 t3 κ:Type}(Q:κ)(F:t0->t1->t2->t3->κ->Prop):Prop:=ex1 Q (eg4 F)
def eg5{t0 t1 t2 t3 t4 κ:Type}(F:t0->t1->t2->t3->t4->κ->Prop)(a:t0)(Q:κ):Prop:=ex4 Q (F a)
def ex5{t0 t1 t2 t3 t4 κ:Type}(Q:κ)(F:t0->t1->t2->t3->t4->κ->Prop):Prop:=ex1 Q (eg5 F)
def eg6{t0 t1 t2 t3 t4 t5 κ:Type}(F:t0->t1->t2->t3->t4->t5->κ->Prop)(a:t0)(Q:κ):Prop:=ex5 Q (F a)
def ex6{t0 t1 t2 t3 t4 t5 κ:Type}(Q:κ)(F:t0->t1->t2->t3->t4->t5->κ->Prop):Prop:=ex1 Q (eg6 F)
def eg7{t0 t1 t2 t3 t4 t5 t6 κ:Type}(F:t0->t1->t2->t3->t4->t5->t6->κ->Prop)(a:t0)(Q:κ):Prop:=ex6 Q (F a)
def ex7{t0 t1 t2 t3 t4 t5 t6 κ:Type}(Q:κ)(F:t0->t1->t2->t3->t4->t5->t6->κ->Prop):Prop:=ex1 Q (eg7 F)
def eg8{t0 t1 t2 t3 t4 t5 t6 t7 κ:Type}(F:t0->t1->t2->t3->t4->t5->t6->t7->κ->Prop)(a:t0)(Q:κ):Prop:=ex7 Q (F a)
def ex8{t0 t1 t2 t3 t4 t5 t6 t7 κ:Type}(Q:κ)(F:t0->t1->t2->t3->t4->t5->t6->t7->κ->Prop):Prop:=ex1 Q (eg8 F)
def eg9{t0 t1 t2 t3 t4 t5 t6 t7 t8 κ:Type}(F:t0->t1->t2->t3->t4->t5->t6->t7->t8->κ->Prop)(a:t0)(Q:κ):Prop:=ex8 Q (F a)
def ex9{t0 t1 t2 t3 t4 t5 t6 t7 t8 κ:Type}(Q:κ)(F:t0->t1->t2->t3->t4->t5->t6->t7->t8->κ->Prop):Prop:=ex1 Q (eg9 F)
def eg10{t0 t1 t2 t3 t4 t5 t6 t7 t8 t9 κ:Type}(F:t0->t1->t2->t3->t4->t5->t6->t7->t8->t9->κ->Prop)(a:t0)(Q:κ):Prop:=ex9 Q (F a)
def ex10{t0 t1 t2 t3 t4 t5 t6 t7 t8 t9 κ:Type}(Q:κ)(F:t0->t1->t2->t3->t4->t5->t6->t7->t8->t9->κ->Prop):Prop:=ex1 Q (eg10 F)
def eg11{t0 t1 t2 t3 t4 t5 t6 t7 t8 t9 t10 κ:Type}(F:t0->t1->t2->t3->t4->t5->t6->t7->t8->t9->t10->κ->Prop)(a:t0)(Q:κ):Prop:=ex10 Q (F a)
def ex11{t0 t1 t2 t3 t4 t5 t6 t7 t8 t9 t10 κ:Type}(Q:κ)(F:t0->t1->t2->t3->t4->t5->t6->t7->t8->t9->t10->κ->Prop):Prop:=ex1 Q (eg11 F)
def eg12{t0 t1 t2 t3 t4 t5 t6 t7 t8 t9 t10 t11 κ:Type}(F:t0->t1->t2->t3->t4->t5->t6->t7->t8->t9->t10->t11->κ->Prop)(a:t0)(Q:κ):Prop:=ex11 Q (F a)
def ex12{t0 t1 t2 t3 t4 t5 t6 t7 t8 t9 t10 t11 κ:Type}(Q:κ)(F:t0->t1->t2->t3->t4->t5->t6->t7->t8->t9->t10->t11->κ->Prop):Prop:=ex1 Q (eg12 F)
def eg13{t0 t1 t2 t3 t4 t5 t6 t7 t8 t9 t10 t11 t12 κ:Type}(F:t0->t1->t2->t3->t4->t5->t6->t7->t8->t9->t10->t11->t12->κ->Prop)(a:t0)(Q:κ):Prop:=ex12 Q (F a)
def ex13{t0 t1 t2 t3 t4 t5 t6 t7 t8 t9 t10 t11 t12 κ:Type}(Q:κ)(F:t0->t1->t2->t3->t4->t5->t6->t7->t8->t9->t10->t11->t12->κ->Prop):Prop:=ex1 Q (eg13 F)
abbrev Key:=Sum Int Str
def Dj:Key->Value->Bool
 |.inl k,v=>Value.isInt k v
 |.inr x,v=>Value.isStrOf x v
def Vj(w:World):Key->Int
 |.inl k=>hashInt k
 |.inr x=>hashStr w x
theorem gU:∀{k:Key}{v:Value},Dj k v=true->(∃i t,k=Sum.inl i/\v=Value.int i t)\/(∃x t,k=Sum.inr x/\v=Value.str x t)
 |.inl i,v,h=>by
  obtain⟨t,e⟩:=Value.isInt_shape (k:=i) (v:=v) h
  exact .inl ⟨i,t,rfl,e⟩
 |.inr x,v,h=>by
  obtain⟨t,e⟩:=Value.isStrOf_shape (x:=x) (v:=v) h
  exact .inr ⟨x,t,rfl,e⟩
theorem LO(i:Int)(t:Tok):Dj (.inl i) (.int i t)=true:=by simp[Dj,Value.isInt]
theorem LQ(x:Str)(t:Tok):Dj (.inr x) (.str x t)=true:=by simp[Dj,Value.isStrOf]
theorem RZ(a b:Int):decide ((Sum.inl a:Key)=Sum.inl b)=(a==b):=by
 by_cases e:a=b
 ·subst e;simp
 ·have h:¬(Sum.inl a:Key)=Sum.inl b:=λq=>e (yF q)
  rw[decide_eq_false h]
  exact(beq_eq_false_iff_ne.mpr e).symm
theorem R5(a b:Str):decide ((Sum.inr a:Key)=Sum.inr b)=decide (a=b):=by
 by_cases e:a=b
 ·subst e;simp
 ·have h:¬(Sum.inr a:Key)=Sum.inr b:=λq=>e (Sum.inr.inj q)
  rw[decide_eq_false h,decide_eq_false e]
theorem R0(a:Int)(b:Str):decide ((Sum.inl a:Key)=Sum.inr b)=false:=decide_eq_false (λq=>nomatch q)
theorem R4(a:Str)(b:Int):decide ((Sum.inr a:Key)=Sum.inl b)=false:=decide_eq_false (λq=>nomatch q)
def jH(prog:Program)(w:World):PySem.KeyKind prog w Key where
 is:=Dj
 hash:=Vj w
 inj:=λv a b ha hb=>by
  rcases gU ha with ⟨i,t,rfl,rfl⟩|⟨x,t,rfl,rfl⟩
  ·rcases gU hb with ⟨j,u,rfl,e⟩|⟨y,u,rfl,e⟩
   ·injection e with e1 _;rw[e1]
   ·exact nomatch e
  ·rcases gU hb with ⟨j,u,rfl,e⟩|⟨y,u,rfl,e⟩
   ·exact nomatch e
   ·injection e with e1 _;rw[e1]
 byValue:=λk v h=>by
  rcases gU h with ⟨i,t,rfl,rfl⟩|⟨x,t,rfl,rfl⟩<;>rfl
 pyHash:=λhv h=>by
  rcases gU hv with ⟨i,t,rfl,rfl⟩|⟨x,t,rfl,rfl⟩
  ·exact wpAny_pyHash_int h
  ·exact wpAny_pyHash_str h
 eqBool:=λhu hv h=>by
  rcases gU hu with ⟨i,t,rfl,rfl⟩|⟨x,t,rfl,rfl⟩
  ·rcases gU hv with ⟨j,u,rfl,rfl⟩|⟨y,u,rfl,rfl⟩
   ·rw[RZ]at h;exact wpAny_eqBool_int h
   ·rw[R0]at h;exact Fw i t y u _ _ _ _ h
  ·rcases gU hv with ⟨j,u,rfl,rfl⟩|⟨y,u,rfl,rfl⟩
   ·rw[R4]at h;exact Fx x t j u _ _ _ _ h
   ·rw[R5]at h;exact wpAny_eqBool_str h
 «strs»:=λk x t v h=>by
  rcases gU h with ⟨i,u,rfl,e⟩|⟨y,u,rfl,e⟩
  ·exact nomatch e
  ·injection e with e1 _
   subst e1
   cases v<;>rfl
theorem Gx(prog:Program)(w:World)(i:Int)(t:Tok):(jH prog w).is (.inl i) (.int i t)=true:=LO i t
theorem Gy(prog:Program)(w:World)(x:Str)(t:Tok):(jH prog w).is (.inr x) (.str x t)=true:=LQ x t
end L2
namespace L2
open PySem PySem.Spec PyProof.Rows
inductive V where
 |iD|bl (b:Bool)|int (i:Int)|str (x:Str)|HD (b:Array UInt8)|Th (b:UInt64)|ref (a:Addr)|ty (n:String)
 deriving DecidableEq
def RelV:V->Value->Prop
 |.iD,u=>u=Value.none
 |.bl b,u=>u=Value.bool b
 |.int i,u=>∃t,u=Value.int i t
 |.str x,u=>∃t,u=Value.str x t
 |.HD b,u=>∃t,u=Value.bytes b t
 |.Th b,u=>∃t,u=Value.float b t
 |.ref a,u=>u=Value.ref a
 |.ty n,u=>u=Value.type n
abbrev Vals:List V->List Value->Prop:=Paired RelV
theorem Vals.length{xs:List V}{us:List Value}(r:Vals xs us):xs.length=us.length:=gj r
theorem Vals.get:∀{xs:List V}{us:List Value}{i:Nat}{x:V},Vals xs us->xs[i]?=aa x->∃u,us[i]?=aa u/\RelV x u
 |_,_,_,_,.nil,e=>by simp at e
 |_,_,0,_,.cons r _,e=>by simp at e;subst e;exact⟨_,rfl,r⟩
 |_,_,i+1,x,.cons _ t,e=>by
  obtain⟨u,h1,h2⟩:=Vals.get (i:=i) (x:=x) t (by simpa using e)
  exact⟨u,by simpa using h1,h2⟩
theorem Vals.append:∀{xs ys:List V}{us ws:List Value},Vals xs us->Vals ys ws->Vals (xs++ys) (us++ws)
 |_,_,_,_,.nil,s=>s
 |_,_,_,_,.cons r t,s=>.cons r (Vals.append t s)
theorem Vals.take:∀{xs:List V}{us:List Value}(n:Nat),Vals xs us->Vals (xs.take n) (us.take n)
 |_,_,0,_=>.nil
 |_,_,_+1,.nil=>.nil
 |_,_,n+1,.cons r t=>.cons r (Vals.take n t)
theorem Vals.drop:∀{xs:List V}{us:List Value}(n:Nat),Vals xs us->Vals (xs.drop n) (us.drop n)
 |_,_,0,r=>r
 |_,_,_+1,.nil=>.nil
 |_,_,n+1,.cons _ t=>Vals.drop n t
def rf:Option V->Option Value->Prop
 |some v,aa u=>RelV v u
 |none,none=>True
 |_,_=>False
def KV{κ:Type}:List (κ×V)->List (κ×Value)->Prop:=Paired λ(p:κ×V)(q:κ×Value)=>p.1=q.1/\RelV p.2 q.2
def kV:Key->V
 |.inl i=>.int i
 |.inr x=>.str x
inductive HO where
 |lst (xs:List V)
 |tup (xs:List V)
 |dK (kvs:List (Key×V))|dT (kvs:List (List Key×V))
 |set (S:Int->Bool) (n:Nat)
 |ins (C dx:Addr) (fs:List (Str×V))
 |own (x:Addr)
 |xd (fs:List (Str×V))
 |met (f x:Addr)
 |Cn (lo hi:Int)
 |B8 (o:Obj) (u:HO)
 |zg (ps:Array Value)
 |ext (φ:Heap->Prop)
abbrev Hp:=Addr->Option HO
def upd(H:Hp)(a:Addr)(o:HO):Hp:=λb=>if b=a then aa o else H b
theorem ag{H:Hp}{a:Addr}{o:HO}:upd H a o a=aa o:=by unfold upd;rw[if_pos rfl]
theorem az{H:Hp}{a b:Addr}{o:HO}(h:b≠a):upd H a o b=H b:=by unfold upd;rw[if_neg h]
theorem ik{H:Hp}{a:Addr}{o u:HO}:upd (upd H a o) a u=upd H a u:=by
 funext b;unfold upd;split<;>rfl
theorem eI{H:Hp}{a b:Addr}{o u:HO}(h:H a=aa o)(h':H b=aa u)(d:o≠u):a≠b:=by
 intro e;subst e;rw[h]at h';exact d (bq h')
theorem aA{H:Hp}{a b:Addr}{o:HO}(h:H a=aa o)(h':H b=none):a≠b:=by
 intro e;subst e;rw[h]at h';cases h'
section
variable(P:Program)(w:World)
def gb(H:Hp)(h:Heap)(a:Addr):HO->Prop
 |.lst xs=>xs.length<=sizeLine/\∃(its:List Value)(n:Nat),Vals xs its/\h.get? a=aa {cls:=.type "list",data:=.seq its.toArray n}
 |.tup xs=>xs.length<=sizeLine/\∃its:List Value,Vals xs its/\IsTup h a its.toArray
 |.dK kvs=>kvs.length<=sizeLine/\(a==sysModules)=false/\∃vs,KV kvs vs/\h.DictOf (jH P w) a vs
 |.dT kvs=>kvs.length<=sizeLine/\(a==sysModules)=false/\∃xs:List (List Key×Addr×Value),
   Paired (λ(p:List Key×V)(q:List Key×Addr×Value)=>p.1=q.1/\H q.2.1=aa (.tup (p.1.map kV))/\RelV p.2 q.2.2) kvs xs/\
   ∃o es ep,h.get? a=aa o/\o.ExactDict/\o.data=.dict es ep/\es.toList=xs.map (entryOfKey (tupleKind (jH P w)))/\(xs.map (·.1)).Nodup
 |.set S n=>h.SetOf (intKind P w) a S n
 |.ins C dx fs=>H dx=aa (.own a)/\fs.length<=1000/\dx≠a/\h.get? a=aa (dD C dx)/\
   ∃mA,h.Ns1 dx mA/\(∀f,rf (fs.lookup f) (mA f))/\FG mA (fs.map (·.1))
 |.own _=>∃o,h.get? a=aa o
 |.xd fs=>∃mA,h.Ns1 a mA/\∀f,rf (fs.lookup f) (mA f)
 |.Cn lo hi=>∃t u v,h.get? a=aa {cls:=.type "range",data:=.fields #[.int lo t,.int hi u,.int 1 v]}
 |.B8 o u=>h.get? a=aa o/\gb H h a u
 |.zg ps=>h.get? a=aa {cls:=.none,data:=.fields ps}
 |.met f x=>h.get? a=aa (wm (.ref f) (.ref x))
 |.ext φ=>φ h/\(∃o,h.get? a=aa o)/\∀h1 h2:Heap,φ h1->(∀o,h1.get? a=aa o->h2.get? a=aa o)->φ h2
def pV(H:Hp)(h:Heap):Prop:=∀a o,H a=aa o->gb P w H h a o
end
section
variable{P:Program}{w:World}{H H':Hp}{h h':Heap}{a:Addr}{o:HO}
theorem gb.lt(x:gb P w H h a o):a<h.objs.size:=by
 cases o with
 |lst xs=>obtain⟨_,_,_,_,e⟩:=x;exact aQ e
 |tup xs=>obtain⟨_,_,_,p⟩:=x;exact p.lt
 |dK kvs=>obtain⟨_,_,_,_,o,_,_,e,_⟩:=x;exact aQ e
 |dT kvs=>obtain⟨_,_,_,_,o,_,_,e,_⟩:=x;exact aQ e
 |set S n=>obtain⟨o,_,_,_,e,_⟩:=x;exact aQ e
 |ins C dx fs=>obtain⟨_,_,_,e,_⟩:=x;exact aQ e
 |own y=>obtain⟨_,e⟩:=x;exact aQ e
 |xd fs=>obtain⟨_,⟨_,_,_,e,_⟩,_⟩:=x;exact aQ e
 |Cn lo hi=>obtain⟨_,_,_,e⟩:=x;exact aQ e
 |B8 ob u=>obtain⟨e,_⟩:=x;exact aQ e
 |zg ps=>exact aQ (show h.get? a=aa _ from x)
 |met f y=>exact aQ (show h.get? a=aa _ from x)
 |ext φ=>obtain⟨_,⟨_,e⟩,_⟩:=x;exact aQ e
theorem Paired.P8{α β:Type}{F G:α->β->Prop}:∀{l₁:List α}{l₂:List β},Paired F l₁ l₂->(∀a b,F a b->G a b)->Paired G l₁ l₂
 |_,_,.nil,_=>.nil
 |_,_,.cons r t,f=>.cons (f _ _ r) (Paired.P8 t f)
theorem gb.xq(x:gb P w H h a o)(k:∀b u,(b=a\/H b=aa (.own a))->h.get? b=aa u->h'.get? b=aa u)
  (ho:∀b,H b=aa (.own a)->H' b=aa (.own a))(ht:∀b xs,H b=aa (.tup xs)->H' b=aa (.tup xs)):gb P w H' h' a o:=by
 induction o with
 |lst xs=>obtain⟨z,its,n,r,e⟩:=x;exact⟨z,its,n,r,k _ _ (.inl rfl) e⟩
 |tup xs=>obtain⟨z,its,r,ob,e,c⟩:=x;exact⟨z,its,r,ob,k _ _ (.inl rfl) e,c⟩
 |dK kvs=>obtain⟨z,y,vs,r,ob,es,ep,e,c⟩:=x;exact⟨z,y,vs,r,ob,es,ep,k _ _ (.inl rfl) e,c⟩
 |dT kvs=>
  obtain⟨z,y,xs,r,ob,es,ep,e,c⟩:=x
  exact⟨z,y,xs,Paired.P8 r λp q z=>⟨z.1,ht _ _ z.2.1,z.2.2⟩,ob,es,ep,k _ _ (.inl rfl) e,c⟩
 |set S n=>obtain⟨ob,es,ep,t,e,c⟩:=x;exact⟨ob,es,ep,t,k _ _ (.inl rfl) e,c⟩
 |ins C dx fs=>
  obtain⟨d,z,ne,e,mA,⟨od,es,ep,e2,c⟩,r⟩:=x
  exact⟨ho _ d,z,ne,k _ _ (.inl rfl) e,mA,⟨od,es,ep,k _ _ (.inr d) e2,c⟩,r⟩
 |own y=>obtain⟨ob,e⟩:=x;exact⟨ob,k _ _ (.inl rfl) e⟩
 |xd fs=>obtain⟨mA,⟨od,es,ep,e,c⟩,r⟩:=x;exact⟨mA,⟨od,es,ep,k _ _ (.inl rfl) e,c⟩,r⟩
 |Cn lo hi=>obtain⟨t,u,v,e⟩:=x;exact⟨t,u,v,k _ _ (.inl rfl) e⟩
 |B8 ob u ih=>obtain⟨e,q⟩:=x;exact⟨k _ _ (.inl rfl) e,ih q⟩
 |zg ps=>
  have e:h.get? a=aa {cls:=.none,data:=.fields ps}:=x
  show h'.get? a=aa {cls:=.none,data:=.fields ps}
  exact k a _ (.inl rfl) e
 |met f y=>
  have e:h.get? a=aa (wm (.ref f) (.ref y)):=x
  show h'.get? a=aa (wm (.ref f) (.ref y))
  exact k a _ (.inl rfl) e
 |ext φ=>obtain⟨p,⟨o,e⟩,st⟩:=x;exact⟨st _ _ p λo q=>k _ _ (.inl rfl) q,⟨o,k _ _ (.inl rfl) e⟩,st⟩
theorem pV.lt(x:pV P w H h)(e:H a=aa o):a<h.objs.size:=(x a o e).lt
theorem pV.fresh(x:pV P w H h)(e:h.objs.size<=a):H a=none:=by
 cases q:H a with
 |none=>rfl
 |some u=>exact absurd (aY (x.lt q) e) (di _)
theorem pV.kept(x:pV P w H h)(k:∀b u,h.get? b=aa u->h'.get? b=aa u):pV P w H h':=λa o e=>
 (x a o e).xq (λb u _ q=>k b u q) (λ_ q=>q) λ_ _ q=>q
theorem pV.laid(x:pV P w H h)(k:∀b u,h.get? b=aa u->h'.get? b=aa u)(hp:h.objs.size<=a)(new:gb P w (upd H a o) h' a o):pV P w (upd H a o) h':=λb u e=>by
 have hn:=x.fresh hp
 by_cases hb:b=a
 ·subst hb;rw[ag]at e;cases e;exact new
 ·rw[az hb]at e
  exact(x b u e).xq (λc v _ q=>k c v q) (λc q=>by rw[az (aA q hn)];exact q) λc xs q=>by rw[az (aA q hn)];exact q
end
def Rd(H:Hp)(a:Addr)(u:HO):Prop:=H a=aa u\/∃o,H a=aa (.B8 o u)
theorem Rd.ok{P:Program}{w:World}{H:Hp}{h:Heap}{a:Addr}{u:HO}(r:Rd H a u)(x:pV P w H h):gb P w H h a u:=by
 rcases r with r|⟨o,r⟩
 ·exact x a u r
 ·obtain⟨_,q⟩:=x a _ r
  exact q
def Tp:Option HO->Prop
 |some (.lst _)=>True
 |some (.dK _)=>True
 |some (.dT _)=>True
 |some (.set _ _)=>True
 |some (.ins _ _ _)=>True
 |some (.ext _)=>True
 |_=>False
section
variable{P:Program}{w:World}{H:Hp}{h h':Heap}{x e:Addr}{o':HO}
theorem pV.write(ok:pV P w H h)(mu:Tp (H x))(he:e=x\/H e=aa (.own x))(k:∀b u,b≠e->h.get? b=aa u->h'.get? b=aa u)(heo:∃u,h'.get? e=aa u)
  (new:gb P w (upd H x o') h' x o'):pV P w (upd H x o') h':=λb u q=>by
 have nown:∀c y,H c=aa (.own y)->c≠x:=λc y r z=>by subst z;rw[r]at mu;exact mu
 have ntup:∀c xs,H c=aa (.tup xs)->c≠x:=λc xs r z=>by subst z;rw[r]at mu;exact mu
 by_cases hb:b=x
 ·subst hb;rw[ag]at q;cases q;exact new
 ·rw[az hb]at q
  by_cases hbe:b=e
  ·have q':H b=aa (.own x):=by
    rcases he with z|z
    ·exact absurd (hbe.trans z) hb
    ·rw[hbe];exact z
   rw[q]at q';cases q'
   obtain⟨v,hv⟩:=heo
   exact⟨v,by rw[hbe];exact hv⟩
  ·refine(ok b u q).xq (λc v hc r=>k c v ?_ r) (λc r=>by rw[az (nown c b r)];exact r) λc xs r=>by rw[az (ntup c xs r)];exact r
   rcases hc with rfl|hc
   ·exact hbe
   ·rintro rfl
    rcases he with z|z
    ·exact nown c b hc z
    ·rw[hc]at z;cases z;exact hb rfl
end
structure Un(fs ex:List Addr)(H H':Hp)(h h':Heap):Prop where
 keep:∀b o,h.get? b=aa o->H b=none->b∉fs->b∉ex->h'.get? b=aa o
 slot:∀b o,h.get? b=aa o->H b=none->b∈fs->b∉ex->∃sl,h'.get? b=aa {o with slots:=sl}
 free:∀b o,h.get? b=aa o->H b=none->b∉ex->H' b=none
 there:∀b o,h.get? b=aa o->b∉ex->∃o',h'.get? b=aa o'
 BF:∀b xs,H b=aa (.tup xs)->H' b=aa (.tup xs)
 zt:∀b o u,H b=aa (.B8 o u)->H' b=aa (.B8 o u)
 zI:∀b ps,H b=aa (.zg ps)->∃more,H' b=aa (.zg (ps++more))
section
variable{fs fs' ex ex':List Addr}{H H1 H2:Hp}{h h1 h2 h':Heap}{a x e:Addr}{o:HO}
theorem Un.any(u:Un fs ex H H1 h h1){b:Addr}{ob:Obj}(q:h.get? b=aa ob)(n:H b=none)(hx:b∉ex):∃sl,h1.get? b=aa {ob with slots:=sl}:=by
 by_cases hb:b∈fs
 ·exact u.slot b ob q n hb hx
 ·exact⟨ob.slots,u.keep b ob q n hb hx⟩
theorem Un.kept(k:∀b u,h.get? b=aa u->h'.get? b=aa u):Un fs ex H H h h':=
 ⟨λb ob q _ _ _=>k b ob q,λb ob q _ _ _=>⟨ob.slots,k b ob q⟩,λ_ _ _ n _=>n,λb ob q _=>⟨ob,k b ob q⟩,λ_ _ q=>q,λ_ _ _ q=>q,λ_ ps q=>⟨#[],by rw[q];simp⟩⟩
theorem Un.refl:Un fs ex H H h h:=Un.kept λ_ _ q=>q
theorem Un.laid(k:∀b u,h.get? b=aa u->h'.get? b=aa u)(hp:h.objs.size<=a)(hn:H a=none):Un fs ex H (upd H a o) h h' where
 keep:=λb u q _ _ _=>k b u q
 slot:=λb u q _ _ _=>⟨u.slots,k b u q⟩
 free:=λb u q n _=>by rw[az (bJ (aY (aQ q) hp))];exact n
 there:=λb u q _=>⟨u,k b u q⟩
 BF:=λb xs q=>by rw[az (aA q hn)];exact q
 zt:=λb u xs q=>by rw[az (aA q hn)];exact q
 zI:=λb ps q=>⟨#[],by rw[az (aA q hn),q];simp⟩
theorem Un.write(mu:Tp (H x))(he:e=x\/H e=aa (.own x))(k:∀b u,b≠e->h.get? b=aa u->h'.get? b=aa u)(heo:∃u,h'.get? e=aa u):Un fs ex H (upd H x o) h h':=by
 have hx:∀b,H b=none->b≠x:=λb n z=>by subst z;rw[n]at mu;exact mu
 have hb:∀b,H b=none->b≠e:=λb n z=>by
  subst z
  rcases he with r|r
  ·exact hx b n r
  ·rw[n]at r;cases r
 have hm:∀b u,H b=aa u->¬Tp (aa u)->b≠x:=λb u q nm z=>by subst z;rw[q]at mu;exact nm mu
 refine⟨λb u q n _ _=>k b u (hb b n) q,λb u q n _ _=>⟨u.slots,k b u (hb b n) q⟩,λb u q n _=>by rw[az (hx b n)];exact n,λb u q _=>?_,
  λb xs q=>by rw[az (hm b _ q λz=>z)];exact q,λb u xs q=>by rw[az (hm b _ q λz=>z)];exact q,λb ps q=>⟨#[],by rw[az (hm b _ q λz=>z),q];simp⟩⟩
 by_cases hbe:b=e
 ·subst hbe;exact heo
 ·exact⟨u,k b u hbe q⟩
end
def UX(h:Heap)(H:Hp):List Addr:=(bA h.objs.size).filter λa=>(H a).isSome
def Ca(h:Heap)(H:Hp):Heap:=PySem.W.hideAll h (UX h H)
theorem LJ(h:Heap)(H:Hp):(Ca h H).objs.size=h.objs.size:=PySem.W.hideAll_size _ _
theorem NX{h:Heap}{H:Hp}{b:Addr}{o:Obj}(e:h.get? b=aa o)(n:H b=none):(Ca h H).get? b=aa o:=
 PySem.W.hideAll_get _ e λhm=>by
  have q:(H b).isSome=true:=(bu.mp hm).2
  rw[n]at q;simp at q
theorem Qj{h:Heap}{H:Hp}{b:Addr}{o:Obj}(e:(Ca h H).get? b=aa o):h.get? b=aa o/\H b=none:=by
 have e':h.get? b=aa o:=PySem.W.of_hideAll (UX h H) e
 refine⟨e',?_⟩
 cases q:H b with
 |none=>rfl
 |some x=>
  have hm:b∈UX h H:=bu.mpr ⟨dF.mpr (aQ e'),by simp[q]⟩
  have z:(Ca h H).get? b=none:=PySem.W.hideAll_none (UX h H) hm
  rw[z]at e;cases e
end L2
namespace L2
open PySem PySem.Spec PyProof.Rows
structure Mod(K:af)(mg:Str->Option Value)(base:Heap):Prop where
 Rn:K.In base
 glob:base.Ns mainGlobals mg
 blt:∃mb,base.Ns builtinsNs mb/\∀x:Str,x≠"__name__"->mb x=bootBuiltins x
 nolimit:base.NoLimit
structure Cx where
 prog:Program
 w:World
 K:af
 mg:Str->Option Value
 base:Heap
 A:Around
 N:List Str
 vq:Shared
 Te:Hp
 env:Env
 outer:List Env
 stack:List Env
 ex:List Addr
 fn:Str->Bool
 calm:Bool
 pn:List (Addr×Obj)
 xe:Value->Shared->Prop
def HZ(l:List Env):List Addr:=l.filterMap (·.frame)
abbrev Cx.fs(X:Cx):List Addr:=HZ X.outer
def Pq(sc:Scope)(x:Str):Prop:=sc.names.lookup x=aa .local\/sc.names.lookup x=aa .cell\/sc.names.lookup x=aa .free
def Loc(sc:Scope)(x:Str):Prop:=sc.names.lookup x=aa .local\/sc.names.lookup x=aa .cell
def Look(env:Env)(h:Heap)(m:Str->Option Value)(x:Str)(u:Value):Prop:=
 (env.kindOf x=aa .local/\m x=aa u)\/((env.kindOf x=aa .cell\/env.kindOf x=aa .free)/\∃c,env.cells.lookup x=aa c/\h.IsCell c (aa u))
structure Cx.Ok(X:Cx):Prop where
 mod:Mod X.K X.mg X.base
 kind:X.env.scope.kind=.function
 glob:X.env.globals=mainGlobals
 blt:X.env.builtins=builtinsNs
 above:X.vq.heap.objs.size<=X.env.locals
 inj:∀x y c,X.env.cells.lookup x=aa c->X.env.cells.lookup y=aa c->x=y
 has:∀x,(X.env.kindOf x=aa .cell\/X.env.kindOf x=aa .free)->∃c,X.env.cells.lookup x=aa c
 Tf:∀x c,X.fn x=true->X.env.cells.lookup x=aa c->X.vq.heap.objs.size<=c
 hd:X.calm=true->X.A.handled=none
 frames:X.A.frames=aa X.stack
 Pl:X.stack=X.outer\/(X.stack=X.env::X.outer/\X.env.frame=aa X.env.locals)
 TX:∀b∈X.ex,b≠X.env.locals/\∀x c,X.env.cells.lookup x=aa c->c≠b
 bs:∀b o,X.base.get? b=aa o->X.vq.heap.get? b=aa o/\X.Te b=none
 MX:X.base.objs.size<=X.vq.heap.objs.size
 L7:∀b o,X.base.get? b=aa o->b∉X.ex
 Ly:∀b∈X.ex,b∉X.fs
 xS:X.vq.heap.FunFrames X.base X.outer
 Rl:∀b∈X.fs,X.Te b=none
structure Inv(X:Cx)(pins:List (Addr×Obj))(σ:List (Option V))(H:Hp)(s:Shared):Prop where
 ok:X.Ok
 os:s.os=X.vq.os
 bare:AllBare s.gens
 base:Un X.fs X.ex X.Te H X.vq.heap s.heap
 loc:∃m,s.heap.Ns X.env.locals m/\∀(i:Nat)(x:Str)(v:V),X.N[i]?=aa x->σ[i]?=aa (aa v)->Pq X.env.scope x->∃u,RelV v u/\Look X.env s.heap m x u
 cell:∀x c,X.env.cells.lookup x=aa c->∃v,s.heap.IsCell c v
 free:H X.env.locals=none
 mN:∀x c,X.env.cells.lookup x=aa c->H c=none
 pin:∀p∈X.pn++pins,s.heap.get? p.1=aa p.2/\H p.1=none/\p.1≠X.env.locals/\p.1∉X.fs/\∀v,p.2.data≠.cell v
 dO:pV X.prog X.w H s.heap
 len:σ.length=X.N.length
section
variable{X:Cx}{pins:List (Addr×Obj)}{σ:List (Option V)}{H H':Hp}{s:Shared}{h':Heap}
theorem Cx.Ok.Vo(ok:X.Ok){b:Addr}{o:Obj}(e:X.base.get? b=aa o):b∉X.fs:=λhb=>by
 have:=(ok.xS.mem hb).1
 rw[e]at this;cases this
theorem Inv.bs(I:Inv X pins σ H s):∀b o,X.base.get? b=aa o->s.heap.get? b=aa o/\H b=none:=λb o e=>
 ⟨I.base.keep b o (I.ok.bs b o e).1 (I.ok.bs b o e).2 (I.ok.Vo e) (I.ok.L7 b o e),I.base.free b o (I.ok.bs b o e).1 (I.ok.bs b o e).2 (I.ok.L7 b o e)⟩
theorem Inv.bk(I:Inv X pins σ H s):∀b o,X.base.get? b=aa o->s.heap.get? b=aa o:=λb o e=>(I.bs b o e).1
theorem Inv.mod(I:Inv X pins σ H s):Mod X.K X.mg X.base:=I.ok.mod
theorem Inv.vh(I:Inv X pins σ H s):X.K.In s.heap:=I.ok.mod.Rn.keeps I.bk
theorem Inv.nolimit(I:Inv X pins σ H s):s.heap.NoLimit:=I.ok.mod.nolimit.keeps I.bk
theorem Inv.fr(I:Inv X pins σ H s):∃m,Fr X.base X.env.locals s.heap m:=
 let⟨m,hn,_⟩:=I.loc
 ⟨m,hn,I.bk,aX I.ok.MX I.ok.above⟩
theorem Inv.lt(I:Inv X pins σ H s):X.env.locals<s.heap.objs.size:=let⟨_,hn,_⟩:=I.loc;hn.lt
theorem Inv.sz(I:Inv X pins σ H s):X.vq.heap.objs.size<=s.heap.objs.size:=aX I.ok.above (lU I.lt)
theorem Inv.Vp(I:Inv X pins σ H s){a:Addr}(h:s.heap.objs.size<=a):a∉X.fs:=λhb=>by
 obtain⟨_,o,ho,_⟩:=I.ok.xS.mem hb
 exact absurd (aY (aQ ho) (aX I.sz h)) (di _)
theorem Inv.Rj(I:Inv X pins σ H s):∀x c,X.env.cells.lookup x=aa c->c≠X.env.locals:=λx c e z=>by
 obtain⟨v,o,ho,hd⟩:=I.cell x c e
 obtain⟨m,⟨o',es,ep,ho',hd',_⟩,_⟩:=I.loc
 rw[z,ho']at ho;cases ho;rw[hd']at hd;cases hd
theorem Inv.xS(I:Inv X pins σ H s):s.heap.FunFrames X.base X.outer:=by
 have all:∀(l:List Env),(∀b∈HZ l,b∈X.fs)->X.vq.heap.FunFrames X.base l->s.heap.FunFrames X.base l:=by
  intro l
  induction l with
  |nil=>intro _ _;trivial
  |cons env r ih=>
   intro hs hl
   obtain⟨hk,⟨L,o,hf,hn,ho,hd⟩,hr⟩:=hl
   have hL:L∈X.fs:=hs L (by unfold HZ;rw[wj,hf];exact ay)
   obtain⟨sl,e⟩:=I.base.slot L o ho (I.ok.Rl L hL) hL λz=>I.ok.Ly L z hL
   exact⟨hk,⟨L,_,hf,hn,e,hd⟩,ih (λb hb=>hs b (by unfold HZ;rw[wj,hf];exact ax _ hb)) hr⟩
 exact all X.outer (λ_ hb=>hb) I.ok.xS
theorem Inv.stack(I:Inv X pins σ H s):s.heap.FunFrames X.base X.stack:=by
 rcases I.ok.Pl with e|⟨e,hf⟩
 ·rw[e];exact I.xS
 ·rw[e]
  obtain⟨m,hn,_⟩:=I.loc
  refine .cons (by rw[I.ok.kind];decide) hf hn ?_ I.xS
  exact Heap.get?_none_of_le (aX I.ok.MX I.ok.above)
theorem Inv.Jo(I:Inv X pins σ H s):∀b∈HZ X.stack,b∈X.env.locals::X.fs:=λb hb=>by
 rcases I.ok.Pl with e|⟨e,hf⟩
 ·rw[e]at hb;exact ax _ hb
 ·rw[e]at hb
  unfold HZ at hb
  rw[wj,hf]at hb
  exact hb
theorem Inv.z9(I:Inv X pins σ H s):∀b∈HZ X.stack,H b=none:=λb hb=>by
 rcases aG.mp (I.Jo b hb)with e|hb
 ·rw[e];exact I.free
 ·obtain⟨_,o,ho,_⟩:=I.ok.xS.mem hb
  exact I.base.free b o ho (I.ok.Rl b hb) λz=>I.ok.Ly b z hb
theorem Inv.step{g':Array GenState}{t':Nat}{d':Drawn}{ch:List Addr}(I:Inv X pins σ H s)
  (hch:∀b∈ch,(b∈X.ex\/X.vq.heap.objs.size<=b)/\b≠X.env.locals/\(∀x c,X.env.cells.lookup x=aa c->c≠b)/\∀p∈X.pn++pins,p.1≠b)
  (keep:∀b o,b≠X.env.locals->b∉X.fs->b∉ch->s.heap.get? b=aa o->H b=none->h'.get? b=aa o)
  (slot:∀b o,b≠X.env.locals->b∈X.fs->b∉ch->s.heap.get? b=aa o->H b=none->∃sl,h'.get? b=aa {o with slots:=sl})(free:∀b o,b∉ch->s.heap.get? b=aa o->H b=none->H' b=none)
  (there:∀b o,b∉ch->s.heap.get? b=aa o->∃o',h'.get? b=aa o')
  (BF:∀b xs,H b=aa (.tup xs)->H' b=aa (.tup xs))(zt:∀b o u,H b=aa (.B8 o u)->H' b=aa (.B8 o u))(zI:∀b ps,H b=aa (.zg ps)->∃more,H' b=aa (.zg (ps++more)))
  (ns:∀m,s.heap.Ns X.env.locals m->h'.Ns X.env.locals m)(dO:pV X.prog X.w H' h')(hg:AllBare g'):
  Inv X pins σ H' {s with heap:=h',gens:=g',drawn:=d',toks:=t'}:=by
 have neL:∀b o,X.vq.heap.get? b=aa o->b≠X.env.locals:=λb o e=>bJ (aY (aQ e) I.ok.above)
 have neC:∀b o,X.vq.heap.get? b=aa o->b∉X.ex->b∉ch:=λb o e hx hb=>by
  rcases(hch b hb).1 with z|z
  ·exact hx z
  ·exact absurd (aY (aQ e) z) (di _)
 have cellK:∀x c,X.env.cells.lookup x=aa c->∀v,s.heap.IsCell c v->h'.IsCell c v:=λx c e v zz0=>by
  obtain⟨o,ho,hd⟩:=zz0
  have nch:c∉ch:=λz=>(hch c z).2.2.1 x c e rfl
  by_cases hc:c∈X.fs
  ·obtain⟨sl,q⟩:=slot c o (I.Rj x c e) hc nch ho (I.mN x c e)
   exact⟨_,q,hd⟩
  ·exact⟨o,keep c o (I.Rj x c e) hc nch ho (I.mN x c e),hd⟩
 refine⟨I.ok,I.os,hg,⟨λb o e n hb hx=>?_,λb o e n hb hx=>?_,λb o e n hx=>?_,λb o e hx=>?_,λb xs e=>BF b xs (I.base.BF b xs e),λb o xs e=>zt b o xs (I.base.zt b o xs e),λb ps e=>?_⟩,?_,λx c e=>?_,?_,λx c e=>?_,λp hp=>?_,dO,I.len⟩
 ·exact keep b o (neL b o e) hb (neC b o e hx) (I.base.keep b o e n hb hx) (I.base.free b o e n hx)
 ·obtain⟨sl,e1⟩:=I.base.slot b o e n hb hx
  obtain⟨sl',e2⟩:=slot b _ (neL b o e) hb (neC b o e hx) e1 (I.base.free b o e n hx)
  exact⟨sl',e2⟩
 ·obtain⟨o',e1⟩:=I.base.there b o e hx
  exact free b o' (neC b o e hx) e1 (I.base.free b o e n hx)
 ·obtain⟨o',e1⟩:=I.base.there b o e hx
  exact there b o' (neC b o e hx) e1
 ·obtain⟨m1,e1⟩:=I.base.zI b ps e
  obtain⟨m2,e2⟩:=zI b _ e1
  exact⟨m1++m2,by rw[e2,Array.append_assoc]⟩
 ·obtain⟨m,hn,hl⟩:=I.loc
  refine⟨m,ns m hn,λi x v e1 e2 e3=>?_⟩
  obtain⟨u,r,l⟩:=hl i x v e1 e2 e3
  refine⟨u,r,?_⟩
  rcases l with l|⟨k,c,e,z⟩
  ·exact .inl l
  ·exact .inr ⟨k,c,e,cellK x c e _ z⟩
 ·obtain⟨v,z⟩:=I.cell x c e
  exact⟨v,cellK x c e v z⟩
 ·obtain⟨m,⟨o,_,_,ho,_⟩,_⟩:=I.loc
  exact free _ o (λz=>(hch _ z).2.1 rfl) ho I.free
 ·obtain⟨v,o,ho,hd⟩:=I.cell x c e
  exact free c o (λz=>(hch c z).2.2.1 x c e rfl) ho (I.mN x c e)
 ·obtain⟨e,n,ne,nf,d⟩:=I.pin p hp
  have nch:p.1∉ch:=λz=>(hch p.1 z).2.2.2 p hp rfl
  exact⟨keep p.1 p.2 ne nf nch e n,free p.1 p.2 nch e n,ne,nf,d⟩
theorem Inv.un{t':Nat}(I:Inv X pins σ H s)(u:Un X.fs [] H H' s.heap h')(dO:pV X.prog X.w H' h'):Inv X pins σ H' {s with heap:=h',toks:=t'}:=by
 obtain⟨m,⟨o,es,ep,ho,r⟩,_⟩:=id I.loc
 obtain⟨sl,hL⟩:=u.any ho I.free (by simp)
 exact I.step (g':=s.gens) (d':=s.drawn) (ch:=[]) (λ_ z=>nomatch z) (λb o _ hb _ e n=>u.keep b o e n hb (by simp)) (λb o _ hb _ e n=>u.slot b o e n hb (by simp)) (λb o _ e n=>u.free b o e n (by simp)) (λb o _ e=>u.there b o e (by simp)) u.BF u.zt u.zI (λm' hm=>by
  obtain⟨o',es',ep',ho',r'⟩:=hm
  rw[ho]at ho';cases ho'
  exact⟨_,es',ep',hL,r'⟩) dO I.bare
theorem Inv.call{g':Array GenState}{t':Nat}{d':Drawn}{ch:List Addr}(I:Inv X pins σ H s)(u:Un (HZ X.stack) ch H H' s.heap h')(dO:pV X.prog X.w H' h')(hg:AllBare g')
  (hch:∀b∈ch,(b∈X.ex\/X.vq.heap.objs.size<=b)/\b≠X.env.locals/\(∀x c,X.env.cells.lookup x=aa c->c≠b)/\∀p∈X.pn++pins,p.1≠b):
  Inv X pins σ H' {s with heap:=h',gens:=g',drawn:=d',toks:=t'}:=by
 obtain⟨m,⟨o,es,ep,ho,r⟩,_⟩:=id I.loc
 obtain⟨sl,hL⟩:=u.any ho I.free λz=>(hch _ z).2.1 rfl
 exact I.step (ch:=ch) hch (λb o hL hb hc e n=>u.keep b o e n (λz=>(aG.mp (I.Jo b z)).elim hL hb) hc) (λb o _ _ hc e n=>u.any e n hc) (λb o hc e n=>u.free b o e n hc) (λb o hc e=>u.there b o e hc) u.BF u.zt u.zI (λm' hm=>by
  obtain⟨o',es',ep',ho',r'⟩:=hm
  rw[ho]at ho';cases ho'
  exact⟨_,es',ep',hL,r'⟩) dO hg
theorem Inv.turned{t':Nat}{it:Addr}(I:Inv X pins σ H s)(k:∀b o,b≠it->s.heap.get? b=aa o->h'.get? b=aa o)(hn:H it=none)(hL:it≠X.env.locals)
  (h1:it∈X.ex\/X.vq.heap.objs.size<=it)(h2:∀x c,X.env.cells.lookup x=aa c->c≠it)(h3:∀p∈X.pn++pins,p.1≠it):Inv X pins σ H {s with heap:=h',toks:=t'}:=by
 have nit:∀b u,H b=aa u->b≠it:=λb u e z=>by rw[z,hn]at e;cases e
 refine I.step (g':=s.gens) (d':=s.drawn) (ch:=[it]) (λb hb=>?_) (λb o _ _ hc e _=>k b o (λz=>hc (by simp[z])) e) (λb o _ _ hc e _=>⟨o.slots,k b o (λz=>hc (by simp[z])) e⟩) (λ_ _ _ _ n=>n)
  (λb o hc e=>⟨o,k b o (λz=>hc (by simp[z])) e⟩) (λ_ _ e=>e) (λ_ _ _ e=>e) (λb ps e=>⟨#[],by rw[e];simp⟩) (λm hm=>?_) (λb u e=>?_) I.bare
 ·have e:b=it:=by simpa using hb
  subst e
  exact⟨h1,hL,h2,h3⟩
 ·obtain⟨o,es,ep,ho,r⟩:=hm
  exact⟨o,es,ep,k _ o (ra hL) ho,r⟩
 ·refine(I.dO b u e).xq (λc v hc q=>k c v ?_ q) (λ_ q=>q) λ_ _ q=>q
  rcases hc with z|z
  ·rw[z];exact nit b u e
  ·exact nit c _ z
theorem Inv.tok(I:Inv X pins σ H s)(t:Nat):Inv X pins σ H {s with toks:=t}:=I.un (h':=s.heap) (t':=t) Un.refl I.dO
theorem Inv.kept{t':Nat}(I:Inv X pins σ H s)(k:∀b u,s.heap.get? b=aa u->h'.get? b=aa u):Inv X pins σ H {s with heap:=h',toks:=t'}:=I.un (Un.kept k) (I.dO.kept k)
theorem Inv.laid{a:Addr}{o:HO}{t':Nat}(I:Inv X pins σ H s)(k:∀b u,s.heap.get? b=aa u->h'.get? b=aa u)(hp:s.heap.objs.size<=a)(new:gb X.prog X.w (upd H a o) h' a o):
 Inv X pins σ (upd H a o) {s with heap:=h',toks:=t'}:=I.un (Un.laid k hp (I.dO.fresh hp)) (I.dO.laid k hp new)
theorem Inv.write{x e:Addr}{o:HO}{t':Nat}(I:Inv X pins σ H s)(mu:Tp (H x))(he:e=x\/H e=aa (.own x))(k:∀b u,b≠e->s.heap.get? b=aa u->h'.get? b=aa u)(heo:∃u,h'.get? e=aa u)
 (new:gb X.prog X.w (upd H x o) h' x o):Inv X pins σ (upd H x o) {s with heap:=h',toks:=t'}:=I.un (Un.write mu he k heo) (I.dO.write mu he k heo new)
theorem Inv.weak{σ':List (Option V)}(I:Inv X pins σ H s)(hl:σ'.length=σ.length)(w:∀(i:Nat) v,σ'[i]?=aa (aa v)->σ[i]?=aa (aa v)):Inv X pins σ' H s:=
 ⟨I.ok,I.os,I.bare,I.base,let⟨m,hn,hl'⟩:=I.loc;⟨m,hn,λi x v e1 e2 e3=>hl' i x v e1 (w i v e2) e3⟩,I.cell,I.free,I.mN,I.pin,I.dO,hl.trans I.len⟩
theorem Inv.zZ{pins':List (Addr×Obj)}(I:Inv X pins σ H s)(h:∀p∈pins',s.heap.get? p.1=aa p.2/\H p.1=none/\p.1≠X.env.locals/\p.1∉X.fs/\∀v,p.2.data≠.cell v):Inv X pins' σ H s:=
 ⟨I.ok,I.os,I.bare,I.base,I.loc,I.cell,I.free,I.mN,λp hp=>(ck.mp hp).elim (λz=>I.pin p (jM _ z)) (h p),I.dO,I.len⟩
theorem wO{N:List Str}(hN:N.Nodup){i j:Nat}{x:Str}(a:N[i]?=aa x)(b:N[j]?=aa x):i=j:=by
 obtain⟨h1,e1⟩:=aD.mp a
 obtain⟨h2,e2⟩:=aD.mp b
 exact(List.getElem_inj hN).mp (e1.trans e2.symm)
theorem DK{M:Model}{A:Around}{E:Value->Shared->Prop}{i:Nat}{x:Str}{v:V}{u:Value}{Q:Unit->Shared->Prop}(I:Inv X pins σ H s)(hN:X.N.Nodup)(hi:X.N[i]?=aa x)(hx:Loc X.env.scope x)(r:RelV v u)
  (h:∀s',Inv X pins (σ.set i (aa v)) H s'->(∃a,yE a s.heap s'.heap/\(a=X.env.locals\/X.env.cells.lookup x=aa a))->Q () s')(hf:X.fn x=true\/X.env.scope.names.lookup x=aa .local:=by first|exact .inl rfl|exact .inr rfl|assumption):wpAny M A (storeName X.env x u) Q E s:=by
 obtain⟨m,hn,hl⟩:=id I.loc
 have hcls:(X.env.scope.kind==.class||(X.env.scope.kind==.module&&X.env.locals != X.env.globals))=false:=by rw[I.ok.kind];rfl
 have hiσ:i<σ.length:=by rw[I.len];exact(aD.mp hi).1
 have Rj:=I.Rj
 have tracked:∀{a:Addr}{h':Heap},(∃o,s.heap.get? a=aa o/\H a=none)->yE a s.heap h'->pV X.prog X.w H h':=λ{a h'} ha hs b ob e=>by
  obtain⟨_,_,hfree⟩:=ha
  refine(I.dO b ob e).xq (λc w' hc q=>(hs.2 c ?_).trans q) (λ_ q=>q) λ_ _ q=>q
  rintro rfl
  rcases hc with rfl|hc
  ·rw[hfree]at e;cases e
  ·rw[hfree]at hc;cases hc
 rcases hx with hk|hk
 ·refine wpAny_storeName_local hk hn (λh' hn' hs=>?_) hcls
  obtain⟨oL,_,_,hoL,_⟩:=id hn
  refine h _ ⟨I.ok,I.os,I.bare,⟨λb o e n hb hx=>?_,λb o e n hb hx=>?_,I.base.free,λb o e hx=>?_,I.base.BF,I.base.zt,I.base.zI⟩,⟨_,hn',λj y v' e1 e2 e3=>?_⟩,λy c e=>?_,I.free,I.mN,λp hp=>?_,tracked ⟨oL,hoL,I.free⟩ hs,by simpa using I.len⟩ ⟨_,hs,.inl rfl⟩
  ·exact(hs.2 b (bJ (aY (aQ e) I.ok.above))).trans (I.base.keep b o e n hb hx)
  ·obtain⟨sl,e1⟩:=I.base.slot b o e n hb hx
   exact⟨sl,(hs.2 b (bJ (aY (aQ e) I.ok.above))).trans e1⟩
  ·obtain⟨o',e1⟩:=I.base.there b o e hx
   exact⟨o',(hs.2 b (bJ (aY (aQ e) I.ok.above))).trans e1⟩
  ·by_cases hj:j=i
   ·subst hj
    rw[hi]at e1;cases e1
    rw[i6 hiσ]at e2
    cases e2
    exact⟨u,r,.inl ⟨hk,by simp⟩⟩
   ·rw[nN (ra hj)]at e2
    obtain⟨u',r',q⟩:=hl j y v' e1 e2 e3
    refine⟨u',r',?_⟩
    rcases q with ⟨k,e⟩|⟨k,c,e,z⟩
    ·refine .inl ⟨k,?_⟩
     have:y≠x:=λe=>hj (wO hN e1 (e▸hi))
     simp[this,e]
    ·exact .inr ⟨k,c,e,z.sameBut hs (Rj y c e)⟩
  ·obtain⟨w',z⟩:=I.cell y c e
   exact⟨w',z.sameBut hs (Rj y c e)⟩
  ·obtain⟨e,n,ne,nf,d⟩:=I.pin p hp
   exact⟨(hs.2 p.1 ne).trans e,n,ne,nf,d⟩
 ·have hfn:X.fn x=true:=by
   rcases hf with z|z
   ·exact z
   ·rw[z]at hk;cases hk
  obtain⟨c,hc⟩:=I.ok.has x (.inl hk)
  obtain⟨w',z⟩:=I.cell x c hc
  refine wpAny_storeName_cell I.ok.kind hk hc z (λh' hc' hs=>?_)
  obtain⟨oc,hoc,hocd⟩:=id z
  refine h {s with heap:=h'} ⟨I.ok,I.os,I.bare,⟨λb o e n hb hx=>?_,λb o e n hb hx=>?_,I.base.free,λb o e hx=>?_,I.base.BF,I.base.zt,I.base.zI⟩,⟨m,hn.sameBut hs (ra (Rj x c hc)),λj y v' e1 e2 e3=>?_⟩,λy c' e=>?_,I.free,I.mN,λp hp=>?_,tracked ⟨oc,hoc,I.mN x c hc⟩ hs,by simpa using I.len⟩ ⟨c,hs,.inr hc⟩
  ·exact(hs.2 b (bJ (aY (aQ e) (I.ok.Tf x c hfn hc)))).trans (I.base.keep b o e n hb hx)
  ·obtain⟨sl,e1⟩:=I.base.slot b o e n hb hx
   exact⟨sl,(hs.2 b (bJ (aY (aQ e) (I.ok.Tf x c hfn hc)))).trans e1⟩
  ·obtain⟨o',e1⟩:=I.base.there b o e hx
   exact⟨o',(hs.2 b (bJ (aY (aQ e) (I.ok.Tf x c hfn hc)))).trans e1⟩
  ·by_cases hj:j=i
   ·subst hj
    rw[hi]at e1;cases e1
    rw[i6 hiσ]at e2
    cases e2
    exact⟨u,r,.inr ⟨.inl hk,c,hc,hc'⟩⟩
   ·rw[nN (ra hj)]at e2
    obtain⟨u',r',q⟩:=hl j y v' e1 e2 e3
    refine⟨u',r',?_⟩
    rcases q with q|⟨k,c',e,z'⟩
    ·exact .inl q
    ·refine .inr ⟨k,c',e,z'.sameBut hs ?_⟩
     rintro rfl
     exact hj (wO hN e1 (I.ok.inj _ _ _ e hc▸hi))
  ·by_cases hcc:c'=c
   ·subst hcc;exact⟨_,hc'⟩
   ·obtain⟨w2,z2⟩:=I.cell y c' e
    exact⟨w2,z2.sameBut hs hcc⟩
  ·obtain⟨e,n,ne,nf,d⟩:=I.pin p hp
   refine⟨(hs.2 p.1 ?_).trans e,n,ne,nf,d⟩
   intro q
   rw[q,hoc]at e
   have q':oc=p.2:=bq e
   exact d w' (by rw[<-q'];exact hocd)
theorem xu{M:Model}{A:Around}{E:Value->Shared->Prop}{i:Nat}{x:Str}{v:V}{u:Value}{Q:Unit->Shared->Prop}(I:Inv X pins σ H s)(hN:X.N.Nodup)(hi:X.N[i]?=aa x)(hx:Loc X.env.scope x)(r:RelV v u)
  (h:∀s',Inv X pins (σ.set i (aa v)) H s'->Q () s')(hf:X.fn x=true\/X.env.scope.names.lookup x=aa .local:=by first|exact .inl rfl|exact .inr rfl|assumption):wpAny M A (storeName X.env x u) Q E s:=
 DK I hN hi hx r (λs' I' _=>h s' I') hf
theorem Inv.JS{s':Shared}{ch:List Addr}(I:Inv X pins σ H s)(ho:s'.os=s.os)(u:Un (HZ X.stack) ch H H' s.heap s'.heap)(dO:pV X.prog X.w H' s'.heap)(hg:AllBare s'.gens)
  (hch:∀b∈ch,(b∈X.ex\/X.vq.heap.objs.size<=b)/\b≠X.env.locals/\(∀x c,X.env.cells.lookup x=aa c->c≠b)/\∀p∈X.pn++pins,p.1≠b):Inv X pins σ H' s':=by
 obtain⟨h',g',d',t',o'⟩:=s'
 have e:o'=s.os:=ho
 subst e
 exact I.call (g':=g') (t':=t') (d':=d') u dO hg hch
end
abbrev XK:=Value->Option Addr->Hp->Prop
abbrev St:=List (Option V)
abbrev VK:=V->Hp->Prop
abbrev TE:=St->Hp->VK->Prop
abbrev TT:=St->Hp->(Bool->Hp->Prop)->Prop
abbrev TA:=St->Hp->(List V->Hp->Prop)->Prop
structure Ends where
 nx:St->Hp->Prop
 rt:VK
 bk:St->Hp->Prop:=λ_ _=>False
 ct:St->Hp->Prop:=λ_ _=>False
abbrev TS:=Ends->St->Hp->Prop
def EP(X:Cx)(pins:List (Addr×Obj))(σ:St)(Q:VK)(u:Value)(s':Shared):Prop:=∃v H',Inv X pins σ H' s'/\RelV v u/\Q v H'
def TP(X:Cx)(pins:List (Addr×Obj))(σ:St)(Q:Bool->Hp->Prop)(b:Bool)(s':Shared):Prop:=∃H',Inv X pins σ H' s'/\Q b H'
def AP(X:Cx)(pins:List (Addr×Obj))(σ:St)(Q:List V->Hp->Prop)(us:List Value)(s':Shared):Prop:=∃vs H',Inv X pins σ H' s'/\Vals vs us/\Q vs H'
def SP(X:Cx)(pins:List (Addr×Obj))(D:Ends)(f:Flow)(s':Shared):Prop:=
 match f with
 |.next=>∃σ' H',Inv X pins σ' H' s'/\D.nx σ' H'
 |.brk=>∃σ' H',Inv X pins σ' H' s'/\D.bk σ' H'
 |.cont=>∃σ' H',Inv X pins σ' H' s'/\D.ct σ' H'
 |.ret u=>∃v σ' H',Inv X pins σ' H' s'/\RelV v u/\D.rt v H'
def PE(X:Cx)(e:Expr)(t:TE):Prop:=
 ∀(pins:List (Addr×Obj))(s:Shared)(σ:St)(H:Hp)(Q:VK),Inv X pins σ H s->t σ H Q->wpAny (model X.prog X.w) X.A (eval e X.env) (EP X pins σ Q) X.xe s
def PT(X:Cx)(e:Expr)(t:TT):Prop:=
 ∀(pins:List (Addr×Obj))(s:Shared)(σ:St)(H:Hp)(Q:Bool->Hp->Prop),Inv X pins σ H s->t σ H Q->wpAny (model X.prog X.w) X.A (isTrue e X.env (eval e X.env)) (TP X pins σ Q) X.xe s
def PW(X:Cx)(e:Expr)(t:TT):Prop:=
 ∀(whole:Sem Value)(pins:List (Addr×Obj))(s:Shared)(σ:St)(H:Hp)(Q:Bool->Hp->Prop),Inv X pins σ H s->t σ H Q->wpAny (model X.prog X.w) X.A (isTrue e X.env whole) (TP X pins σ Q) X.xe s
theorem PW.pt{X:Cx}{e:Expr}{t:TT}(h:PW X e t):PT X e t:=h _
def PA(X:Cx)(es:List Expr)(t:TA):Prop:=
 ∀(pos:Pos)(pins:List (Addr×Obj))(s:Shared)(σ:St)(H:Hp)(Q:List V->Hp->Prop),Inv X pins σ H s->t σ H Q->wpAny (model X.prog X.w) X.A (spliced (backTo pos (starEach es X.env))) (AP X pins σ Q) X.xe s
def PS(X:Cx)(st:Stmt)(t:TS):Prop:=
 ∀(pins:List (Addr×Obj))(s:Shared)(σ:St)(H:Hp)(D:Ends),Inv X pins σ H s->t D σ H->wpAny (model X.prog X.w) X.A (exec st X.env) (SP X pins D) X.xe s
def DU(X:Cx)(st:List Stmt)(t:TS):Prop:=
 ∀(pins:List (Addr×Obj))(s:Shared)(σ:St)(H:Hp)(D:Ends),Inv X pins σ H s->t D σ H->wpAny (model X.prog X.w) X.A (execs st X.env) (SP X pins D) X.xe s
theorem fH{α:Type}{t:Sem α}{Q Q':α->Shared->Prop}{M:Model}{A:Around}{E:Value->Shared->Prop}{s:Shared}(h:wpAny M A t Q E s)(hQ:∀a s,Q a s->Q' a s):wpAny M A t Q' E s:=wpAny_mono h hQ λ_ _ x=>x
end L2
namespace L2
open PySem PySem.Spec PyProof.Rows
section
variable{X:Cx}
theorem bin{a b:Expr}{ta tb:TE}(ha:PE X a ta)(hb:PE X b tb){pins:List (Addr×Obj)}{s:Shared}{σ:St}{H:Hp}{R:V->V->Hp->Prop}(I:Inv X pins σ H s)(h:ta σ H λx H1=>tb σ H1 λy H2=>R x y H2)
  {α:Type}{Q:α->Shared->Prop}{f:Value->Value->Sem α}
  (hf:∀v u s2 x y H2,Inv X pins σ H2 s2->RelV x v->RelV y u->R x y H2->wpAny (model X.prog X.w) X.A (f v u) Q X.xe s2):
  wpAny (model X.prog X.w) X.A (eval a X.env) (λv s₁=>wpAny (model X.prog X.w) X.A (eval b X.env) (λu s₂=>wpAny (model X.prog X.w) X.A (f v u) Q X.xe s₂) X.xe s₁) X.xe s:=by
 refine fH (ha pins s σ H _ I h) λv s1 zz1=>?_
 obtain⟨x,H1,I1,r1,q1⟩:=zz1
 refine fH (hb pins s1 σ H1 _ I1 q1) λu s2 zz2=>?_
 obtain⟨y,H2,I2,r2,q2⟩:=zz2
 exact hf v u s2 x y H2 I2 r1 r2 q2
def fN(i:Nat):TE:=λσ H Q=>ex1 Q λv Q=>σ[i]?=aa (aa v)/\Q v H
def tC(v:V):TE:=λ_ H Q=>Q v H
theorem IL{i:Nat}{x:Str}{pos:Pos}(hN:X.N[i]?=aa x)(hv:Pq X.env.scope x)(hd:(x==("__debug__":Str))=false:=by decide)(hcd:(x==("__classdict__":Str))=false:=by decide):PE X (.Name x pos) (fN i):=by
 intro pins s σ H Q I h
 obtain⟨v,e,h⟩:=h
 obtain⟨m,hn,hl⟩:=I.loc
 obtain⟨u,r,l⟩:=hl i x v hN e hv
 have fin:EP X pins σ Q u s:=⟨v,H,I,r,h⟩
 rcases l with ⟨hk,hm⟩|⟨hk,c,hc,hcell⟩
 ·exact wpAny_Name (wpAny_loadName_local I.ok.kind hk hn hm fin) hd
 ·rcases hk with hk|hk
  ·exact wpAny_Name (wpAny_loadName_cell I.ok.kind hk hc hcell fin) hd
  ·exact wpAny_Name (wpAny_loadName_free I.ok.kind hk hc hcell fin hcd) hd
theorem bj{i j pos}:PE X (.Constant (.int i) j pos) (tC (.int i)):=λ_ _ _ H _ I h=>wpAny_Constant_int ⟨.int i,H,I.tok _,⟨_,rfl⟩,h⟩
theorem Oq{b j pos}:PE X (.Constant (.bool b) j pos) (tC (.bl b)):=λ_ _ _ H _ I h=>Constant_bool ⟨.bl b,H,I,rfl,h⟩
theorem x6{x j pos}:PE X (.Constant (.str x) j pos) (tC (.str x)):=λ_ _ _ H _ I h=>Calls.Constant_str ⟨.str x,H,I.tok _,⟨_,rfl⟩,h⟩
def Gl(X:Cx)(x:Str):Prop:=X.env.kindOf x=aa .globalImplicit
theorem og{E:Value->Shared->Prop}{pins:List (Addr×Obj)}{s:Shared}{σ:St}{H:Hp}{x:Str}{u:Value}{pos:Pos}{Q:Value->Shared->Prop}(I:Inv X pins σ H s)(hg:Gl X x)(hm:X.mg x=aa u)(h:Q u s)
  (hd:(x==("__debug__":Str))=false:=by decide):wpAny (model X.prog X.w) X.A (eval (.Name x pos) X.env) Q E s:=
 BW I.ok.kind hg (Calls.loadGlobal_global (by rw[I.ok.glob];exact I.mod.glob.keeps I.bk) hm h) hd
theorem xX{E:Value->Shared->Prop}{pins:List (Addr×Obj)}{s:Shared}{σ:St}{H:Hp}{x:Str}{u:Value}{pos:Pos}{Q:Value->Shared->Prop}(I:Inv X pins σ H s)(hg:Gl X x)(hm:X.mg x=none)(hv:bootBuiltins x=aa u)(h:Q u s)
  (hn:x≠"__name__":=by decide)(hd:(x==("__debug__":Str))=false:=by decide):wpAny (model X.prog X.w) X.A (eval (.Name x pos) X.env) Q E s:=by
 obtain⟨mb,h1,h2⟩:=I.mod.blt
 exact BW I.ok.kind hg (Calls.loadGlobal_builtin (by rw[I.ok.glob];exact I.mod.glob.keeps I.bk) hm (by rw[I.ok.blt];exact h1.keeps I.bk) ((h2 x hn).trans hv) h) hd
theorem zX{x:Str}{v:V}{u:Value}{pos:Pos}(hg:Gl X x)(hm:X.mg x=aa u)(r:RelV v u)(hd:(x==("__debug__":Str))=false:=by decide):PE X (.Name x pos) (tC v):=
 λ_ _ _ H _ I h=>og I hg hm ⟨v,H,I,r,h⟩ hd
variable{a b:Expr}{ta tb:TE}{pos:Pos}
def PC(X:Cx)(op:CmpOp)(a b:Expr)(t:TE):Prop:=
 ∀(pins:List (Addr×Obj))(s:Shared)(σ:St)(H:Hp)(Q:VK),Inv X pins σ H s->t σ H Q->
  wpAny (model X.prog X.w) X.A (eval a X.env) (λv s₁=>wpAny (model X.prog X.w) X.A (eval b X.env) (λu s₂=>wpAny (model X.prog X.w) X.A (compareOp op v u) (EP X pins σ Q) X.xe s₂) X.xe s₁) X.xe s
theorem Og(b:Expr){op:CmpOp}(h:op≠.In)(h2:op≠.NotIn):behindInMarks op b=false:=by
 have e1:(op==CmpOp.In)=false:=by cases op<;>first|rfl|exact absurd rfl h
 have e2:(op==CmpOp.NotIn)=false:=by cases op<;>first|rfl|exact absurd rfl h2
 cases b<;>simp[behindInMarks,e1,e2]
def tB(t:TE):TT:=λσ H Q=>t σ H (kQ Q λx H1 Q=>ex1 Q λc Q=>x=.bl c/\Q c H1)
theorem Sw{op:CmpOp}{t:TE}(h:PC X op a b t)(h1:behindInMarks op b=false:=by first|exact Og _ (by decide) (by decide)|rfl):PT X (.Compare a [op] [b] pos) (tB t):=by
 intro pins s σ H Q I hw
 refine wpAny_isTrue_Compare1 (fH (h pins s σ H _ I hw) λv s1 h1=>fH h1 λu s2 h2=>fH h2 λc s3 zy=>?_) h1
 obtain⟨x,H1,I1,r1,q1⟩:=zy
 obtain⟨d,rfl,q⟩:=q1
 cases r1
 exact wpAny_truthy_bool ⟨H1,I1,q⟩
theorem kn{e:Expr}{t:TE}(h:PE X e t)(he:∀whole,isTrue e X.env whole=(do let v<-whole;standAt e.pos;holding [v] (truthy v)):=by intro _;rfl):PT X e (tB t):=by
 intro pins s σ H Q I hw
 refine isTrue_plain (fH (h pins s σ H _ I hw) λv s1 zy=>?_) (he _)
 obtain⟨x,H1,I1,r1,q1⟩:=zy
 obtain⟨d,rfl,q⟩:=q1
 cases r1
 exact wpAny_truthy_bool ⟨H1,I1,q⟩
variable{tA tB':TT}{rest:List Expr}
def VN(t u:TT):TT:=λσ H Q=>t σ H (kQ Q λc H1 Q=>if c=true then u σ H1 Q else Q false H1)
def Wr(t u:TT):TT:=λσ H Q=>t σ H (kQ Q λc H1 Q=>if c=true then Q true H1 else u σ H1 Q)
def VT(t:TT):TT:=λσ H Q=>t σ H (kQ Q λc H1 Q=>Q (!c) H1)
theorem Qz(ha:PT X a tA):PW X (.BoolOp .And [a] pos) tA:=by
 intro wh pins s σ H Q I h
 refine isTrue_and (fH (ha pins s σ H Q I h) λc s1 e=>?_)
 cases c with
 |true=>exact isTrue_and_nil e
 |false=>exact e
theorem Oz(ha:PT X a tA):PW X (.BoolOp .Or [a] pos) tA:=by
 intro wh pins s σ H Q I h
 refine isTrue_or (fH (ha pins s σ H Q I h) λc s1 e=>?_)
 cases c with
 |false=>exact isTrue_or_nil e
 |true=>exact e
theorem Ox(ha:PT X a tA)(hb:PW X (.BoolOp .And (b::rest) pos) tB'):PW X (.BoolOp .And (a::b::rest) pos) (VN tA tB'):=by
 intro wh pins s σ H Q I h
 refine isTrue_and (fH (ha pins s σ H _ I h) λc s1 zy=>?_)
 obtain⟨H1,I1,q1⟩:=zy
 cases c with
 |true=>exact hb wh pins s1 σ H1 Q I1 q1
 |false=>exact⟨H1,I1,q1⟩
theorem Oy(ha:PT X a tA)(hb:PW X (.BoolOp .Or (b::rest) pos) tB'):PW X (.BoolOp .Or (a::b::rest) pos) (Wr tA tB'):=by
 intro wh pins s σ H Q I h
 refine isTrue_or (fH (ha pins s σ H _ I h) λc s1 zy=>?_)
 obtain⟨H1,I1,q1⟩:=zy
 cases c with
 |true=>exact⟨H1,I1,q1⟩
 |false=>exact hb wh pins s1 σ H1 Q I1 q1
theorem o3(ha:PT X a tA):PT X (.UnaryOp .Not a pos) (VT tA):=by
 intro pins s σ H Q I h
 exact isTrue_not (ha pins s σ H (λc H1=>Q (!c) H1) I h)
def Ur(ta tb:TE):TE:=λσ H Q=>ta σ H (kQ Q λx H1 Q=>ex1 Q λc Q=>x=.bl c/\if c=true then tb σ H1 Q else Q (.bl false) H1)
def Uw(ta:TE):TE:=λσ H Q=>ta σ H (kQ Q λx H1 Q=>ex1 Q λc Q=>x=.bl c/\Q (.bl (!c)) H1)
theorem Sr{op}{t:TE}(h:PE X a t):PE X (.BoolOp op [a] pos) t:=λpins s σ H Q I hw=>BoolOp_one (h pins s σ H Q I hw)
theorem So(ha:PE X a ta)(hb:PE X (.BoolOp .And (b::rest) pos) tb):PE X (.BoolOp .And (a::b::rest) pos) (Ur ta tb):=by
 intro pins s σ H Q I h
 refine BoolOp_and (fH (ha pins s σ H _ I h) λv s1 zy=>?_)
 obtain⟨x,H1,I1,r1,q1⟩:=zy
 obtain⟨c,rfl,q1⟩:=q1
 cases r1
 refine wpAny_truthy_bool ?_
 cases c with
 |true=>exact hb pins s1 σ H1 Q I1 q1
 |false=>exact⟨.bl false,H1,I1,rfl,q1⟩
theorem Sq(ha:PE X a ta):PE X (.UnaryOp .Not a pos) (Uw ta):=by
 intro pins s σ H Q I h
 refine UnaryOp_ (fH (ha pins s σ H _ I h) λv s1 zy=>?_)
 obtain⟨x,H1,I1,r1,q1⟩:=zy
 obtain⟨c,rfl,q1⟩:=q1
 cases r1
 exact not_of (wpAny_truthy_bool ⟨.bl (!c),H1,I1,rfl,q1⟩)
def Wq(t:TT)(ta tb:TE):TE:=λσ H Q=>t σ H (kQ Q λc H1 Q=>if c=true then ta σ H1 Q else tb σ H1 Q)
theorem qM{c:Expr}(hc:PT X c tA)(ha:PE X a ta)(hb:PE X b tb):PE X (.IfExp c a b pos) (Wq tA ta tb):=by
 intro pins s σ H Q I h
 refine wpAny_IfExp (fH (hc pins s σ H _ I h) λd s1 zy=>?_)
 obtain⟨H1,I1,q1⟩:=zy
 cases d with
 |true=>exact ha pins s1 σ H1 Q I1 q1
 |false=>exact hb pins s1 σ H1 Q I1 q1
end
end L2
namespace L2
open PySem PySem.Spec PyProof.Rows
def cJ(K:af)(H:Hp)(a:Addr)(xs:List V):Prop:=
 Rd H a (.lst xs)\/
  ∃(o:Obj)(its:Array Value)(n:Nat),K.lookup a=aa o/\o.cls=.type "list"/\o.dict=none/\o.data=.seq its n/\its.size<=sizeLine/\Vals xs its.toList
def vb(K:af)(H:Hp)(a:Addr)(xs:List V):Prop:=
 Rd H a (.tup xs)\/
  ∃(o:Obj)(its:Array Value)(n:Nat),K.lookup a=aa o/\o.cls=.type "tuple"/\o.data=.seq its n/\its.size<=sizeLine/\Vals xs its.toList
def U9:Value->Option V
 |.none=>aa .iD
 |.bool b=>aa (.bl b)
 |.int i _=>aa (.int i)
 |.str x _=>aa (.str x)
 |.bytes b _=>aa (.HD b)
 |.float b _=>aa (.Th b)
 |.ref a=>aa (.ref a)
 |.type n=>aa (.ty n)
 |_=>none
theorem RelV.abs{x:V}{u:Value}(r:RelV x u):U9 u=aa x:=by
 cases x with
 |iD=>cases r;rfl
 |bl _=>cases r;rfl
 |int _=>obtain⟨t,rfl⟩:=r;rfl
 |str _=>obtain⟨t,rfl⟩:=r;rfl
 |HD _=>obtain⟨t,rfl⟩:=r;rfl
 |Th _=>obtain⟨t,rfl⟩:=r;rfl
 |ref _=>cases r;rfl
 |ty _=>cases r;rfl
theorem RelV.inj{x y:V}{u:Value}(r:RelV x u)(q:RelV y u):x=y:=bq (r.abs.symm.trans q.abs)
theorem Vals.inj:∀{xs ys:List V}{us:List Value},Vals xs us->Vals ys us->xs=ys
 |_,_,_,.nil,.nil=>rfl
 |_,_,_,.cons r t,.cons r' t'=>by rw[r.inj r',Vals.inj t t']
section
variable{X:Cx}{pins:List (Addr×Obj)}{σ:St}{H:Hp}{s:Shared}{a:Addr}{xs ys:List V}
theorem cJ.of{K:af}(h:H a=aa (.lst xs)):cJ K H a xs:=.inl (.inl h)
theorem vb.of{K:af}(h:H a=aa (.tup xs)):vb K H a xs:=.inl (.inl h)
theorem Inv.list(I:Inv X pins σ H s)(h:cJ X.K H a xs):∃its:List Value,Vals xs its/\PlainL s.heap a its.toArray/\xs.length<=sizeLine:=by
 rcases h with h|⟨o,its,n,hk,hc,hd,hs,hz,r⟩
 ·obtain⟨z,its,n,r,e⟩:=h.ok I.dO
  exact⟨its,r,⟨_,n,e,rfl,rfl,rfl⟩,z⟩
 ·refine⟨its.toList,r,⟨o,n,I.vh a o hk,hc,hd,by simpa using hs⟩,?_⟩
  have e:=r.length
  simp only[eY]at e
  lia
theorem Inv.tuple(I:Inv X pins σ H s)(h:vb X.K H a xs):∃its:List Value,Vals xs its/\IsTup s.heap a its.toArray/\xs.length<=sizeLine:=by
 rcases h with h|⟨o,its,n,hk,hc,hs,hz,r⟩
 ·obtain⟨z,its,r,p⟩:=h.ok I.dO
  exact⟨its,r,p,z⟩
 ·refine⟨its.toList,r,⟨o,I.vh a o hk,hc,n,by simpa using hs⟩,?_⟩
  have e:=r.length
  simp only[eY]at e
  lia
theorem Inv.wM(I:Inv X pins σ H s)(h:cJ X.K H a xs)(h':cJ X.K H a ys):xs=ys:=by
 obtain⟨its,r,⟨o,n,e,_,_,d⟩,_⟩:=I.list h
 obtain⟨its',r',⟨o',n',e',_,_,d'⟩,_⟩:=I.list h'
 rw[e]at e';cases e'
 rw[d]at d'
 injection d' with d1 _
 have:its=its':=by simpa using congrArg Array.toList d1
 subst this
 exact r.inj r'
end
abbrev Cx.uv(X:Cx)(E:Value->Shared->Prop):Cx:={X with xe:=E}
abbrev Cx.Pj(X:Cx):Cx:=X.uv λ_ _=>False
theorem Cx.Ok.uv{X:Cx}(ok:X.Ok)(E:Value->Shared->Prop):(X.uv E).Ok:=
 ⟨ok.mod,ok.kind,ok.glob,ok.blt,ok.above,ok.inj,ok.has,ok.Tf,ok.hd,ok.frames,ok.Pl,ok.TX,ok.bs,ok.MX,ok.L7,ok.Ly,ok.xS,ok.Rl⟩
theorem Cx.Ok.kK{X:Cx}{E:Value->Shared->Prop}(ok:(X.uv E).Ok):X.Ok:=
 ⟨ok.mod,ok.kind,ok.glob,ok.blt,ok.above,ok.inj,ok.has,ok.Tf,ok.hd,ok.frames,ok.Pl,ok.TX,ok.bs,ok.MX,ok.L7,ok.Ly,ok.xS,ok.Rl⟩
section
variable{X:Cx}{pins:List (Addr×Obj)}{σ:St}{H:Hp}{s:Shared}{E:Value->Shared->Prop}
theorem Inv.uv(I:Inv X pins σ H s)(E:Value->Shared->Prop):Inv (X.uv E) pins σ H s:=⟨I.ok.uv E,I.os,I.bare,I.base,I.loc,I.cell,I.free,I.mN,I.pin,I.dO,I.len⟩
theorem Inv.kK(I:Inv (X.uv E) pins σ H s):Inv X pins σ H s:=⟨I.ok.kK,I.os,I.bare,I.base,I.loc,I.cell,I.free,I.mN,I.pin,I.dO,I.len⟩
theorem SP.kK{D:Ends}{f:Flow}{s':Shared}(h:SP (X.uv E) pins D f s'):SP X pins D f s':=by
 cases f with
 |next=>obtain⟨σ',H',I,q⟩:=h;exact⟨σ',H',I.kK,q⟩
 |brk=>obtain⟨σ',H',I,q⟩:=h;exact⟨σ',H',I.kK,q⟩
 |cont=>obtain⟨σ',H',I,q⟩:=h;exact⟨σ',H',I.kK,q⟩
 |ret u=>obtain⟨v,σ',H',I,r,q⟩:=h;exact⟨v,σ',H',I.kK,r,q⟩
theorem PE.Pj{e:Expr}{t:TE}(h:PE X.Pj e t):PE X e t:=λpins s σ H Q I hw=>
 wpAny_mono (h pins s σ H Q (I.uv _) hw) (λ_ _ zy=>by obtain⟨v,H',I',r,q⟩:=zy;exact⟨v,H',I'.kK,r,q⟩) λ_ _ z=>cy z
theorem PT.Pj{e:Expr}{t:TT}(h:PT X.Pj e t):PT X e t:=λpins s σ H Q I hw=>
 wpAny_mono (h pins s σ H Q (I.uv _) hw) (λ_ _ zy=>by obtain⟨H',I',q⟩:=zy;exact⟨H',I'.kK,q⟩) λ_ _ z=>cy z
theorem DU.Pj{st:List Stmt}{t:TS}(h:DU X.Pj st t):DU X st t:=λpins s σ H D I hw=>
 wpAny_mono (h pins s σ H D (I.uv _) hw) (λ_ _ q=>q.kK) λ_ _ z=>cy z
end
section
variable{X:Cx}{st:Stmt}{rest:List Stmt}{t u:TS}{e:Expr}{te:TE}{pos:Pos}
def Uv:TS:=λD σ H=>D.nx σ H
def S8(t u:TS):TS:=λD σ H=>t {D with nx:=u D} σ H
theorem cH:DU X [] Uv:=λ_ _ σ H _ I h=>wpAny_execs_nil ⟨σ,H,I,h⟩
theorem ao(h1:PS X st t)(h2:DU X rest u):DU X (st::rest) (S8 t u):=by
 intro pins s σ H D I h
 refine wpAny_execs_cons (fH (h1 pins s σ H {D with nx:=u D} I h) λf s1 q=>?_)
 cases f with
 |next=>
  obtain⟨σ',H',I',q⟩:=q
  exact h2 pins s1 σ' H' D I' q
 |ret v=>exact q
 |brk=>exact q
 |cont=>exact q
theorem au(h1:PS X st t):DU X [st] t:=by
 intro pins s σ H D I h
 refine wpAny_execs_cons (fH (h1 pins s σ H D I h) λf s1 q=>?_)
 cases f with
 |next=>exact wpAny_execs_nil q
 |ret v=>exact q
 |brk=>exact q
 |cont=>exact q
theorem Inv.quiet{pins:List (Addr×Obj)}{σ:St}{H:Hp}{s:Shared}(I:Inv X pins σ H s):interactive X.env=false:=by simp[interactive,I.ok.kind]
def OU(te:TE):TS:=λD σ H=>te σ H (kQ D λ_ H1 D=>D.nx σ H1)
theorem cw(he:PE X e te)(hs:swapsWith e none pos.line X.env=pure false:=by rfl):PS X (.Expr e pos) (OU te):=by
 intro pins s σ H D I h
 exact wpAny_Expr_any (fH (he pins s σ H _ I h) λv s1 zy=>by obtain⟨x,H1,I1,r1,q1⟩:=zy;exact⟨σ,H1,I1,q1⟩) I.quiet hs
def OV(te:TE):TS:=λD σ H=>te σ H D.rt
theorem a8(he:PE X e te):PS X (.Return (aa e) pos) (OV te):=by
 intro pins s σ H D I h
 exact wpAny_Return_some (fH (he pins s σ H _ I h) λv s1 zy=>by obtain⟨x,H1,I1,r1,q1⟩:=zy;exact⟨x,σ,H1,I1,r1,q1⟩)
def Uy:TS:=λD _ H=>D.rt .iD H
theorem Qx:PS X (.Return none pos) Uy:=λ_ _ σ H _ I h=>wpAny_Return_none ⟨.iD,σ,H,I,rfl,h⟩
def VS(c:TT)(t u:TS):TS:=λD σ H=>c σ H (kQ D λb H1 D=>if b=true then t D σ H1 else u D σ H1)
theorem gi{c:Expr}{a b:List Stmt}{tc:TT}(hc:PT X c tc)(ha:DU X a t)(hb:DU X b u):PS X (.If c a b pos) (VS tc t u):=by
 intro pins s σ H D I h
 refine wpAny_If (fH (hc pins s σ H _ I h) λd s1 zy=>?_)
 obtain⟨H1,I1,q1⟩:=zy
 cases d with
 |true=>exact ha pins s1 σ H1 D I1 q1
 |false=>exact hb pins s1 σ H1 D I1 q1
end
abbrev TG:=V->St->Hp->(St->Hp->Prop)->Prop
abbrev RG:=List V->St->Hp->(St->Hp->Prop)->Prop
def PG(X:Cx)(target:Expr)(t:TG):Prop:=
 ∀(pins:List (Addr×Obj))(s:Shared)(σ:St)(H:Hp)(v:V)(u:Value)(Q:St->Hp->Prop),Inv X pins σ H s->RelV v u->t v σ H Q->
  wpAny (model X.prog X.w) X.A (assign target X.env u) (λ_ s'=>∃σ' H',Inv X pins σ' H' s'/\Q σ' H') X.xe s
def UE(X:Cx)(ts:List Expr)(t:RG):Prop:=
 ∀(pins:List (Addr×Obj))(s:Shared)(σ:St)(H:Hp)(vs:List V)(us:List Value)(Q:St->Hp->Prop),Inv X pins σ H s->Vals vs us->t vs σ H Q->
  wpAny (model X.prog X.w) X.A (assignInOrder ((assignEach ts X.env).map (·.2)) us) (λ_ s'=>∃σ' H',Inv X pins σ' H' s'/\Q σ' H') X.xe s
abbrev UG:=V->V->Hp->VK->Prop
def VZ(X:Cx)(op:Operator)(t:UG):Prop:=
 ∀(pins:List (Addr×Obj))(s:Shared)(σ:St)(H:Hp)(x y:V)(v u:Value)(Q:VK),Inv X pins σ H s->RelV x v->RelV y u->t x y H Q->
  wpAny (model X.prog X.w) X.A (inplaceOp op v u) (EP X pins σ Q) X.xe s
section
variable{X:Cx}{pos:Pos}
def yQ(i:Nat):TG:=λv σ H Q=>Q (σ.set i (aa v)) H
theorem cX{i:Nat}{x:Str}(hN:X.N.Nodup)(hi:X.N[i]?=aa x)(hx:Loc X.env.scope x)(hf:X.fn x=true\/X.env.scope.names.lookup x=aa .local:=by first|exact .inl rfl|exact .inr rfl|assumption):PG X (.Name x pos) (yQ i):=by
 intro pins s σ H v u Q I r h
 exact wpAny_assign_Name (xu I hN hi hx r (λs' I'=>⟨_,H,I',h⟩) hf)
def RT:RG:=λvs σ H Q=>vs=[]/\Q σ H
def F9(t:TG)(u:RG):RG:=λvs σ H Q=>ex2 Q λv r Q=>vs=v::r/\t v σ H (kQ Q λσ' H' Q=>u r σ' H' Q)
theorem EI:UE X [] RT:=by
 intro pins s σ H vs us Q I r h
 obtain⟨e,h⟩:=h
 subst e
 cases r
 exact assignInOrder_nil ⟨σ,H,I,h⟩
theorem qN{e:Expr}{es:List Expr}{t:TG}{u:RG}(h1:PG X e t)(h2:UE X es u)
  (hs:(assignEach (e::es) X.env).map (·.2)=assign e X.env::(assignEach es X.env).map (·.2):=by rfl):UE X (e::es) (F9 t u):=by
 intro pins s σ H vs us Q I r h
 obtain⟨v,vr,e1,h⟩:=h
 subst e1
 cases r with
 |cons r rr=>
  rw[hs]
  refine assignInOrder_cons (fH (h1 pins s σ H _ _ _ I r h) λ_ s1 zy=>?_)
  obtain⟨σ1,H1,I1,q1⟩:=zy
  exact h2 pins s1 σ1 H1 _ _ Q I1 rr q1
def RU(K:af)(n:Nat)(t:RG):TG:=λv σ H Q=>ex2 Q λa xs Q=>v=.ref a/\vb K H a xs/\xs.length=n/\t xs σ H Q
theorem IM{es:List Expr}{k:Nat}{t:RG}{n:Nat}(hc:X.calm=true)(h:UE X es t)
  (hn:(assignEach es X.env).length=n:=by rfl)(hst:(assignEach es X.env).findIdx? (·.1)=none:=by rfl):PG X (.Tuple es k pos) (RU X.K n t):=by
 intro pins s σ H v u Q I r hw
 obtain⟨a,xs,e1,hq,hl,hw⟩:=hw
 subst e1
 cases r
 obtain⟨its,rv,ht,hz⟩:=I.tuple hq
 refine assign_Tuple_tuple (I.ok.hd hc) ht (by simp[hn,<-hl,rv.length]) hst λh' hx=>?_
 have I1:Inv X pins σ H {s with heap:=h'}:=I.kept (t':=s.toks) λb o e=>hx b o (bJ (aQ e)) e
 exact h pins _ σ H xs _ Q I1 (by simpa using rv) hw
def Us(te:TE)(g:TG):TS:=λD σ H=>te σ H (kQ D λx H1 D=>g x σ H1 D.nx)
theorem bK{i:Nat}{x:Str}{e:Expr}{te:TE}{pos':Pos}(hN:X.N.Nodup)(hi:X.N[i]?=aa x)(hx:Loc X.env.scope x)(he:PE X e te)(hs:swapsWith e (aa (.Name x pos')) pos.line X.env=pure false:=by rfl)(hf:X.fn x=true\/X.env.scope.names.lookup x=aa .local:=by first|exact .inl rfl|exact .inr rfl|assumption):
  PS X (.Assign [.Name x pos'] e pos) (Us te (yQ i)):=by
 intro pins s σ H D I h
 refine wpAny_Assign_Name (fH (he pins s σ H _ I h) λv s1 zy=>?_) hs
 obtain⟨y,H1,I1,r1,q1⟩:=zy
 exact xu I1 hN hi hx r1 (λs2 I2=>⟨_,H1,I2,q1⟩) hf
def VO(i:Nat)(te:TE)(ti:UG):TS:=λD σ H=>ex1 D λx D=>σ[i]?=aa (aa x)/\te σ H (kQ D λy H1 D=>ti x y H1 (kQ D λz H2 D=>D.nx (σ.set i (aa z)) H2))
theorem IU{i:Nat}{x:Str}{e:Expr}{te:TE}{op:Operator}{ti:UG}{pos':Pos}(hN:X.N.Nodup)(hi:X.N[i]?=aa x)(hx:Loc X.env.scope x)(he:PE X e te)(ho:VZ X op ti)(hf:X.fn x=true\/X.env.scope.names.lookup x=aa .local:=by first|exact .inl rfl|exact .inr rfl|assumption):
  PS X (.AugAssign (.Name x pos') op e pos) (VO i te ti):=by
 intro pins s σ H D I h
 obtain⟨v,e1,h⟩:=h
 obtain⟨m,hn,hl⟩:=I.loc
 have vis:Pq X.env.scope x:=by rcases hx with k|k;exact .inl k;exact .inr (.inl k)
 obtain⟨u,r,l⟩:=hl i x v hi e1 vis
 refine wpAny_AugAssign_Name ?_
 have go:wpAny (model X.prog X.w) X.A (eval e X.env) (λw s₂=>wpAny (model X.prog X.w) X.A (inplaceOp op u w) (λr s₃=>wpAny (model X.prog X.w) X.A (storeName X.env x r) (λ_=>SP X pins D .next) X.xe s₃) X.xe s₂) X.xe s:=by
  refine fH (he pins s σ H _ I h) λw s1 zz3=>?_
  obtain⟨y,H1,I1,r1,q1⟩:=zz3
  refine fH (ho pins s1 σ H1 v y u w _ I1 r r1 q1) λz s2 zz4=>?_
  obtain⟨zv,H2,I2,r2,q2⟩:=zz4
  exact xu I2 hN hi hx r2 (λs3 I3=>⟨_,H2,I3,q2⟩) hf
 rcases l with ⟨hk,hm⟩|⟨hk,c,hc,hcell⟩
 ·exact wpAny_loadName_local I.ok.kind hk hn hm go
 ·rcases hk with hk|hk
  ·exact wpAny_loadName_cell I.ok.kind hk hc hcell go
  ·rcases hx with k|k
   ·have:X.env.scope.names.lookup x=aa .free:=hk
    rw[k]at this;cases this
   ·have:X.env.scope.names.lookup x=aa .free:=hk
    rw[k]at this;cases this
def Wk(f:Int->Int->Int):UG:=λx y H Q=>ex2 Q λi j Q=>x=.int i/\y=.int j/\Q (.int (f i j)) H
theorem Ib:VZ X .Add (Wk λi j=>i+j):=by
 intro pins s σ H x y v u Q I r1 r2 h
 obtain⟨i,j,e1,e2,q⟩:=h
 subst e1;subst e2
 obtain⟨t,rfl⟩:=r1
 obtain⟨t',rfl⟩:=r2
 exact iadd_int ⟨.int _,H,I.tok _,⟨_,rfl⟩,q⟩
end
section
variable{X:Cx}{pos:Pos}
def OW(c:TT)(tb:TS):TS:=λD σ H=>ex1 D λ(W:Nat->St->Hp->Prop) D=>(∃m,W m σ H)/\∀m σ H,W m σ H->
 c σ H (kQ D λb H1 D=>if b=true then ex1 D λ(N:St->Hp->Prop) D=>(∀σ' H',N σ' H'->∃m',m'<m/\W m' σ' H')/\tb {D with nx:=N,ct:=N,bk:=D.nx} σ H1 else D.nx σ H1)
theorem xa{c:Expr}{body:List Stmt}{tc:TT}{tb:TS}(hp:PassesOwn (model X.prog X.w) X.A X.env X.xe)(hc:PT X c tc)(hb:DU X body tb):PS X (.While c body [] pos) (OW tc tb):=by
 intro pins s σ H D I h
 obtain⟨W,⟨m0,w0⟩,turn⟩:=h
 refine wpAny_While (codeAny_whileLoop (λn s'=>∃σ' H',Inv X pins σ' H' s'/\W n σ' H') ?_ m0 ⟨σ,H,I,w0⟩)
 rintro n s1 ⟨σ1,H1,I1,w1⟩
 refine wpAny_passesOwn hp (fH (hc pins s1 σ1 H1 _ I1 (turn n σ1 H1 w1)) λb s2 zy=>?_)
 obtain⟨H2,I2,q2⟩:=zy
 cases b with
 |true=>
  obtain⟨N,hN,q2⟩:=q2
  rw[if_pos rfl]
  refine wpAny_passesOwn hp (fH (hb pins s2 σ1 H2 _ I2 q2) λf s3 q3=>?_)
  cases f with
  |next=>
   obtain⟨σ3,H3,I3,n3⟩:=q3
   obtain⟨m',hm,w3⟩:=hN σ3 H3 n3
   exact⟨m',hm,σ3,H3,I3,w3⟩
  |cont=>
   obtain⟨σ3,H3,I3,n3⟩:=q3
   obtain⟨m',hm,w3⟩:=hN σ3 H3 n3
   exact⟨m',hm,σ3,H3,I3,w3⟩
  |brk=>exact q3
  |ret v=>exact q3
 |false=>
  rw[if_neg bc]
  exact wpAny_execs_nil ⟨σ1,H2,I2,q2⟩
end
structure It where
 go:Nat->Hp->Prop
 RC:Nat->Hp->V->Hp->Prop
 stop:Nat->Hp->Prop
def zj(X:Cx)(pins:List (Addr×Obj))(H:Hp)(b:Addr):Prop:=
 H b=none/\b≠X.env.locals/\b∉X.fs/\(b∈X.ex\/X.vq.heap.objs.size<=b)/\(∀x c,X.env.cells.lookup x=aa c->c≠b)/\∀p∈X.pn++pins,p.1≠b
theorem Inv.NS{X:Cx}{pins:List (Addr×Obj)}{σ:St}{H H':Hp}{s:Shared}{b:Addr}(I:Inv X pins σ H s)(hb:s.heap.objs.size<=b)(hn:H' b=none):zj X pins H' b:=by
 refine⟨hn,zo (aY I.lt hb),I.Vp hb,.inr (aX I.sz hb),λx c e z=>?_,λp hp z=>?_⟩
 ·obtain⟨v,q⟩:=I.cell x c e
  exact absurd (aY q.lt (by rw[z];exact hb)) (di _)
 ·exact absurd (aY (aQ (I.pin p hp).1) (by rw[z];exact hb)) (di _)
structure Turn(P:Program)(w:World)(K:af)(tg:Expr)(J:It)(fp:List Addr)(it:Addr)(tn:Nat->Heap->Prop):Prop where
 mem:it∈fp
 obj:∀i h,tn i h->∀b∈fp,∃o,h.get? b=aa o/\∀v,o.data≠.cell v
 keep:∀i h h',tn i h->(∀b∈fp,∀o,h.get? b=aa o->h'.get? b=aa o)->tn i h'
 item:∀(X:Cx),X.prog=P->X.w=w->X.K=K->X.calm=true->∀(i:Nat)(pins:List (Addr×Obj))(s:Shared)(σ:St)(H:Hp)(E:Value->Shared->Prop),Inv X pins σ H s->(∀b∈fp,zj X pins H b)->tn i s.heap->J.go i H->
  wpAny (model P w) X.A (pyNext (.ref it)) (λr s1=>∃u,r=aa u/\
   wpAny (model P w) X.A (letOwnedTupleGo tg (.ref it) u) (λ_ s2=>∃x H',Inv X pins σ H' s2/\RelV x u/\J.RC i H x H'/\tn (i+1) s2.heap/\∀b∈fp,H' b=none) E s1) E s
 done:∀(X:Cx),X.prog=P->X.w=w->X.K=K->X.calm=true->∀(i:Nat)(pins:List (Addr×Obj))(s:Shared)(σ:St)(H:Hp)(E:Value->Shared->Prop),Inv X pins σ H s->(∀b∈fp,zj X pins H b)->tn i s.heap->J.stop i H->
  wpAny (model P w) X.A (pyNext (.ref it)) (λr s1=>r=none/\Inv X pins σ H s1) E s
 self:∀(A:Around)(i:Nat)(s:Shared)(Q:Value->Shared->Prop)(E:Value->Shared->Prop),tn i s.heap->Q (.ref it) s->wpAny (model P w) A (pyIter (.ref it)) Q E s
abbrev TI:=St->Hp->(It->Hp->Prop)->Prop
def U7(X:Cx)(pins:List (Addr×Obj))(σ:St)(tg:Expr)(R:It->Hp->Prop)(itv:Value)(s2:Shared):Prop:=
 ∃(it:Addr)(fp:List Addr)(tn:Nat->Heap->Prop)(J:It)(H':Hp),itv=.ref it/\Inv X pins σ H' s2/\Turn X.prog X.w X.K tg J fp it tn/\tn 0 s2.heap/\(∀b∈fp,zj X pins H' b)/\R J H'
def PI(X:Cx)(tg iter:Expr)(wi:TI):Prop:=
 ∀(pins:List (Addr×Obj))(s:Shared)(σ:St)(H:Hp)(R:It->Hp->Prop),Inv X pins σ H s->wi σ H R->
  wpAny (model X.prog X.w) X.A (eval iter X.env) (λv s1=>wpAny (model X.prog X.w) X.A (pyIter v) (U7 X pins σ tg R) X.xe s1) X.xe s
theorem Ke{M:Model}{A:Around}{E:Value->Shared->Prop}{s:Shared}{tg:Expr}{it:Addr}{u:Value}{o:Obj}{n:String}{vs:Array Value}{Q:Unit->Shared->Prop}(ho:s.heap.get? it=aa o)(hc:o.cls=.type n)(hd:o.data=.fields vs)
  (hn:["enumerate","zip","dict_itemiterator","dict_reverseitemiterator","odict_iterator","itertools.zip_longest","itertools.pairwise"].contains n=false)(hQ:Q () s):wpAny M A (letOwnedTupleGo tg (.ref it) u) Q E s:=by
 unfold letOwnedTupleGo
 cases tg<;>first
  |exact wpAny_pure hQ
  |(cases u<;>first
     |exact wpAny_pure hQ
     |(refine wpAny_bind (wpAny_load ho ?_)
       rw[hc,hd]
       show wpAny M A (if(["enumerate","zip","dict_itemiterator","dict_reverseitemiterator","odict_iterator","itertools.zip_longest","itertools.pairwise"].contains n&&vs[0]?==aa (rawInt _))=true then _ else _) Q E s
       rw[if_neg (by intro h;rw[hn,Bool.false_and]at h;cases h)]
       exact wpAny_pure hQ))
def Rh(K:af)(a:Addr):It:=
 ⟨λi H=>∃xs x,cJ K H a xs/\xs[i]?=aa x,λi H x H'=>H'=H/\∀xs,cJ K H a xs->xs[i]?=aa x,λi H=>∃xs,cJ K H a xs/\xs.length<=i⟩
def Pn(lo:Int)(n:Nat):It:=⟨λi _=>i<n,λi H x H'=>H'=H/\x=.int (lo+i),λi _=>n<=i⟩
theorem MK{P:Program}{w:World}{K:af}{tg:Expr}(a it:Addr):Turn P w K tg (Rh K a) [it] it (λi h=>h.IsListIter it a i)where
 mem:=by simp
 obj:=λi h st b hb=>by
  have e:b=it:=by simpa using hb
  subst e
  obtain⟨o,e,c,d⟩:=st
  exact⟨o,e,λv z=>by rw[d]at z;cases z⟩
 keep:=λi h h' st k=>st.at λo e=>k it (by simp) o e
 item:=by
  intro X hP hw hK hc i pins s σ H E I hf st hg
  subst hP hw hK
  obtain⟨xs,x,hq,hx⟩:=hg
  obtain⟨its,rv,p,hz⟩:=I.list hq
  obtain⟨u,hu,ru⟩:=rv.get hx
  obtain⟨f0,f1,f2,f3,f4,f5⟩:=hf it (by simp)
  refine wpAny_pyNext_list_item st p.isList (x:=u) (by simpa using hu) λh' st' sb=>?_
  have I1:Inv X pins σ H {s with heap:=h'}:=I.turned (t':=s.toks) (λb o hb e=>(sb.2 b hb).trans e) f0 f1 f3 f4 f5
  obtain⟨o,e,c,d⟩:=id st'
  exact⟨u,rfl,Ke (s:={s with heap:=h'}) e c d (by decide) ⟨x,H,I1,ru,⟨rfl,λys hy=>by rw[I.wM hy hq];exact hx⟩,st',λb hb=>(hf b hb).1⟩⟩
 done:=by
  intro X hP hw hK hc i pins s σ H E I hf st hg
  subst hP hw hK
  obtain⟨xs,hq,hx⟩:=hg
  obtain⟨its,rv,p,hz⟩:=I.list hq
  obtain⟨f0,f1,f2,f3,f4,f5⟩:=hf it (by simp)
  have hl:=rv.length
  exact wpAny_pyNext_list_end (I.ok.hd hc) st p.isList (by simp;lia) λh' eb=>⟨rfl,I.turned (t':=s.toks) (λb o hb e=>eb b o hb e) f0 f1 f3 f4 f5⟩
 self:=λ_ _ _ _ _ st h=>wpAny_pyIter_listiter st h
theorem Js{P:Program}{w:World}{K:af}{tg:Expr}(it:Addr)(lo:Int)(n:Nat):Turn P w K tg (Pn lo n) [it] it (λi h=>IsRangeIter h it (lo+(i:Nat)*1) ((n:Int)-(i:Nat)) 1)where
 mem:=by simp
 obj:=λi h st b hb=>by
  have e:b=it:=by simpa using hb
  subst e
  exact⟨_,st,λv z=>by
   have z':Data.fields _=Data.cell v:=z
   cases z'⟩
 keep:=λi h h' st k=>k it (by simp) _ st
 item:=by
  intro X hP hw hK hc i pins s σ H E I hf st hg
  subst hP hw hK
  obtain⟨f0,f1,f2,f3,f4,f5⟩:=hf it (by simp)
  have W:=Walks.range (prog:=X.prog) (w:=X.w) (I.ok.hd hc) it lo 1 n
  refine W.item i s _ _ hg st λv h' tk hv st' kk=>?_
  obtain⟨t,rfl⟩:=hv
  have I1:Inv X pins σ H {s with heap:=h',toks:=tk}:=I.turned (λb o hb e=>kk b o (by simpa using hb) e) f0 f1 f3 f4 f5
  refine⟨_,rfl,Ke (s:={s with heap:=h',toks:=tk}) (n:="range_iterator") st' rfl rfl (by decide) ⟨.int (lo+i),H,I1,⟨t,?_⟩,⟨rfl,rfl⟩,st',λb hb=>(hf b hb).1⟩⟩
  rw[Int.mul_one]
 done:=by
  intro X hP hw hK hc i pins s σ H E I hf st hg
  subst hP hw hK
  obtain⟨f0,f1,f2,f3,f4,f5⟩:=hf it (by simp)
  exact wpAny_pyNext_range_end (I.ok.hd hc) st (by have:n<=i:=hg;lia) λh' eb=>⟨rfl,I.turned (t':=s.toks) (λb o hb e=>eb b o hb e) f0 f1 f3 f4 f5⟩
 self:=λ_ _ _ _ _ st h=>wpAny_pyIter_rangeiter st h
end L2
namespace L2
open PySem PySem.Spec PyProof.Rows
section
variable{X:Cx}{tg:Expr}
def T2(K:af)(tl:TE):TI:=λσ H R=>tl σ H (kQ R λx H1 R=>ex1 R λa R=>x=.ref a/\(∃xs,cJ K H1 a xs)/\R (Rh K a) H1)
theorem fJ{l:Expr}{tl:TE}(hl:PE X l tl):PI X tg l (T2 X.K tl):=by
 intro pins s σ H R I h
 refine fH (hl pins s σ H _ I h) λv s1 zz5=>?_
 obtain⟨x,H1,I1,r1,q1⟩:=zz5
 obtain⟨a,e,⟨xs,hq⟩,q⟩:=q1
 subst e
 cases r1
 obtain⟨its,rv,p,hz⟩:=I1.list hq
 refine wpAny_pyIter_list p.isList ?_
 refine⟨s1.heap.objs.size,[s1.heap.objs.size],_,_,H1,rfl,I1.kept (t':=s1.toks) λb o e=>aw _ e,MK a _,⟨_,bh _ rfl,rfl,rfl⟩,λb hb=>?_,q⟩
 have e:b=s1.heap.objs.size:=by simpa using hb
 subst e
 exact I1.NS (ah _) (I1.dO.fresh (ah _))
theorem OC{pins:List (Addr×Obj)}{σ:St}{H:Hp}{s:Shared}{R:It->Hp->Prop}{E:Value->Shared->Prop}{lo hi:Int}{t u v:Tok}{tk:Nat}(I:Inv X pins σ H s)(h1:-(2^62)<=lo)(h2:lo<2^62)(h3:-(2^62)<=hi)(h4:hi<2^62)
  (q:R (Pn lo (hi-lo).toNat) H):wpAny (model X.prog X.w) X.A (pyIter (.ref s.heap.objs.size)) (U7 X pins σ tg R) E {s with heap:=s.heap.push {cls:=.type "range",data:=.fields #[.int lo t,.int hi u,.int 1 v]},toks:=tk}:=by
 refine wpAny_pyIter_range (IsRange.new ..) (small_one h1 h2 h3 h4) ?_
 have I1:Inv X pins σ H {s with heap:=s.heap.push {cls:=.type "range",data:=.fields #[.int lo t,.int hi u,.int 1 v]},toks:=tk}:=I.kept λb o e=>aw _ e
 refine⟨(s.heap.push {cls:=.type "range",data:=.fields #[.int lo t,.int hi u,.int 1 v]}).objs.size,[(s.heap.push {cls:=.type "range",data:=.fields #[.int lo t,.int hi u,.int 1 v]}).objs.size],_,_,H,rfl,
  I1.kept (t':=tk) λb o e=>aw _ e,Js _ lo (hi-lo).toNat,?_,λb hb=>?_,q⟩
 ·have e1:lo+((0:Nat):Int)*1=lo:=by simp
  have e2:(((hi-lo).toNat:Nat):Int)-((0:Nat):Int)=Builtin.Range.rangeSize lo hi 1:=by rw[rangeSize_one];split<;>lia
  show IsRangeIter _ _ (lo+((0:Nat):Int)*1) ((((hi-lo).toNat:Nat):Int)-((0:Nat):Int)) 1
  rw[e1,e2]
  exact bh _ rfl
 ·have e:b=(s.heap.push {cls:=.type "range",data:=.fields #[.int lo t,.int hi u,.int 1 v]}).objs.size:=by simpa using hb
  subst e
  exact I1.NS (ah _) (I1.dO.fresh (ah _))
def T3(ta:TA):TI:=λσ H R=>ta σ H (kQ R λvs H1 R=>ex2 R λ(i j:Int) R=>vs=[.int i,.int j]/\(-(2^62)<=i/\i<2^62/\-(2^62)<=j/\j<2^62)/\R (Pn i (j-i).toNat) H1)
theorem uK{a b:Expr}{ta:TA}{p pos:Pos}(hg:Gl X "range")(hm:X.mg "range"=none)(ha:PA X [a,b] ta)(hs:starEach [a,b] X.env=[(false,eval a X.env),(false,eval b X.env)]:=by rfl)(hs2:starEach [b] X.env=[(false,eval b X.env)]:=by rfl):
  PI X tg (.Call (.Name "range" p) [a,b] [] pos) (T3 ta):=by
 intro pins s σ H R I h
 refine Call_ (xX I hg hm boot_range (iO (fH (ha pos pins s σ H _ I h) λus s1 ⟨vs,H1,I1,r1,q1⟩=>?_) (by rw[hs,hs2]) (by rw[hs2];rfl)))
 obtain⟨i,j,e,⟨q1,q2,q3,q4⟩,q⟩:=q1
 subst e
 cases r1 with
 |cons r rr=>
  cases rr with
  |cons r' rr=>
   cases rr
   obtain⟨t,rfl⟩:=r
   obtain⟨t',rfl⟩:=r'
   exact call_range_2 (OC I1 q1 q2 q3 q4 q)
def VR(wi:TI)(g:TG)(tb:TS):TS:=λD σ H=>wi σ H (kQ D λJ H1 D=>ex1 D λ(W:Nat->Nat->St->Hp->Prop) D=>(∃m,W 0 m σ H1)/\∀i m σ H,W i m σ H->
 (J.stop i H/\D.nx σ H)\/(J.go i H/\ex1 D λ(N:St->Hp->Prop) D=>(∀σ' H',N σ' H'->∃m',m'<m/\W (i+1) m' σ' H')/\∀x H',J.RC i H x H'->g x σ H' (kQ D λσ2 H2 D=>tb {D with nx:=N,ct:=N,bk:=D.nx} σ2 H2)))
def A5(fp:List Addr)(h:Heap):List (Addr×Obj):=fp.filterMap λb=>(h.get? b).map λo=>(b,o)
theorem vI{fp:List Addr}{h:Heap}{b:Addr}{o:Obj}(hb:b∈fp)(e:h.get? b=aa o):(b,o)∈A5 fp h:=MQ.mpr ⟨b,hb,by rw[e];rfl⟩
theorem L9{fp:List Addr}{h:Heap}{p:Addr×Obj}(hp:p∈A5 fp h):p.1∈fp/\h.get? p.1=aa p.2:=by
 obtain⟨b,hb,e⟩:=MQ.mp hp
 cases q:h.get? b with
 |none=>rw[q]at e;cases e
 |some o=>
  rw[q]at e
  have e':(b,o)=p:=bq e
  subst e'
  exact⟨hb,q⟩
theorem Inv.pinned{pins:List (Addr×Obj)}{σ:St}{H:Hp}{s:Shared}{fp:List Addr}(I:Inv X pins σ H s)(hf:∀b∈fp,zj X pins H b)(ho:∀b∈fp,∃o,s.heap.get? b=aa o/\∀v,o.data≠.cell v):Inv X (pins++A5 fp s.heap) σ H s:=
 I.zZ λp hp=>(ck.mp hp).elim (λz=>I.pin p (b7 _ z)) λz=>by
  obtain⟨hb,e⟩:=L9 z
  obtain⟨f0,f1,f2,_⟩:=hf p.1 hb
  obtain⟨o,e',d⟩:=ho p.1 hb
  rw[e]at e';cases e'
  exact⟨e,f0,f1,f2,d⟩
theorem Inv.xy{pins pl:List (Addr×Obj)}{σ:St}{H:Hp}{s:Shared}(I:Inv X (pins++pl) σ H s):Inv X pins σ H s:=I.zZ λp hp=>I.pin p (b7 _ (jM _ hp))
theorem p8{iter:Expr}{body:List Stmt}{wi:TI}{g:TG}{tb:TS}{pos:Pos}(hp:PassesOwn (model X.prog X.w) X.A X.env X.xe)(hc:X.calm=true)(hi:PI X tg iter wi)(hg:PG X tg g)(hb:DU X body tb)
  (hs:∀x,foldedSetIterable iter X.env x=pure x:=by intro _;rfl):PS X (.For tg iter body [] pos) (VR wi g tb):=by
 intro pins s σ H D I h
 refine wpAny_For (fH (hi pins s σ H _ I h) λv s1 h1=>fH h1 λitv s2 h2=>?_) hs
 obtain⟨it,fp,tn,J,H2,e,I2,T,st2,f2,W,⟨m0,w0⟩,turn⟩:=h2
 subst e
 have stat:∀{H':Hp},(∀b∈fp,H' b=none)->∀b∈fp,zj X pins H' b:=λhn b hb=>⟨hn b hb,(f2 b hb).2⟩
 refine codeAny_forLoop_any (λn s'=>∃i σ' H',Inv X pins σ' H' s'/\tn i s'.heap/\(∀b∈fp,H' b=none)/\W i n σ' H') ?_ m0 ⟨0,σ,H2,I2,st2,λb hb=>(f2 b hb).1,w0⟩
 rintro n s3 ⟨i,σ3,H3,I3,st3,fr3,w3⟩
 rcases turn i n σ3 H3 w3 with ⟨stop,qn⟩|⟨go,N,hN,step⟩
 ·refine wpAny_passesOwn hp (fH (T.done X rfl rfl rfl hc i pins s3 σ3 H3 X.xe I3 (stat fr3) st3 stop) λr s4 ⟨hr,I4⟩=>?_)
  subst hr
  exact wpAny_execs_nil ⟨σ3,H3,I4,qn⟩
 ·refine wpAny_passesOwn hp (fH (T.item X rfl rfl rfl hc i pins s3 σ3 H3 X.xe I3 (stat fr3) st3 go) λr s4 zy=>?_)
  obtain⟨u,hr,h4⟩:=zy
  subst hr
  refine wpAny_passesOwn hp (fH h4 λ_ s5 zy=>?_)
  obtain⟨x,H5,I5,r5,y5,st5,fr5⟩:=zy
  have I5':=I5.pinned (stat fr5) (T.obj _ _ st5)
  refine wpAny_passesOwn hp (fH (hg _ s5 σ3 H5 x u _ I5' r5 (step x H5 y5)) λ_ s6 zy=>?_)
  obtain⟨σ6,H6,I6,q6⟩:=zy
  refine wpAny_passesOwn hp (fH (hb _ s6 σ6 H6 _ I6 q6) λf s7 q7=>?_)
  have again:∀{σ7:St}{H7:Hp},Inv X (pins++A5 fp s5.heap) σ7 H7 s7->N σ7 H7->∃m,m<n/\∃i σ' H',Inv X pins σ' H' s7/\tn i s7.heap/\(∀b∈fp,H' b=none)/\W i m σ' H':=λ{σ7 H7} I7 n7=>by
   obtain⟨m',hm,w7⟩:=hN σ7 H7 n7
   refine⟨m',hm,i+1,σ7,H7,I7.xy,T.keep _ _ _ st5 λb hb o e=>(I7.pin (b,o) (b7 _ (b7 _ (vI hb e)))).1,λb hb=>?_,w7⟩
   obtain⟨o,e,d⟩:=T.obj _ _ st5 b hb
   exact(I7.pin (b,o) (b7 _ (b7 _ (vI hb e)))).2.1
  cases f with
  |next=>obtain⟨σ7,H7,I7,n7⟩:=q7;exact again I7 n7
  |cont=>obtain⟨σ7,H7,I7,n7⟩:=q7;exact again I7 n7
  |brk=>obtain⟨σ7,H7,I7,q7⟩:=q7;exact⟨σ7,H7,I7.xy,q7⟩
  |ret v=>obtain⟨x7,σ7,H7,I7,r7,q7⟩:=q7;exact⟨x7,σ7,H7,I7.xy,r7,q7⟩
end
theorem oU{K:af}{a:Addr}{xs:List V}{g:TG}{tb:TS}{D:Ends}{σ:St}{H:Hp}(Pv:Nat->St->Hp->Prop)(h0:Pv 0 σ H)(hl:∀i σ H,i<=xs.length->Pv i σ H->cJ K H a xs)
  (hs:∀i x σ H,xs[i]?=aa x->Pv i σ H->g x σ H λσ2 H2=>tb {D with nx:=Pv (i+1),ct:=Pv (i+1),bk:=D.nx} σ2 H2)(hd:∀σ H,Pv xs.length σ H->D.nx σ H):
  ∃W:Nat->Nat->St->Hp->Prop,(∃m,W 0 m σ H)/\∀i m σ H,W i m σ H->
   ((Rh K a).stop i H/\D.nx σ H)\/((Rh K a).go i H/\∃N:St->Hp->Prop,(∀σ' H',N σ' H'->∃m',m'<m/\W (i+1) m' σ' H')/\∀x H',(Rh K a).RC i H x H'->g x σ H' λσ2 H2=>tb {D with nx:=N,ct:=N,bk:=D.nx} σ2 H2):=by
 refine⟨λi m σ H=>m=xs.length-i/\i<=xs.length/\Pv i σ H,⟨xs.length,by simp,bp _,h0⟩,?_⟩
 rintro i m σ H ⟨rfl,hi,p⟩
 have q:=hl i σ H hi p
 by_cases hlt:i<xs.length
 ·refine .inr ⟨⟨xs,xs[i],q,by simp[hlt]⟩,Pv (i+1),λσ' H' p'=>⟨xs.length-(i+1),by omega,rfl,hlt,p'⟩,λx H' y=>?_⟩
  obtain⟨e,y⟩:=y
  subst e
  exact hs i x σ _ (y xs q) p
 ·have e:i=xs.length:=by lia
  subst e
  exact .inl ⟨⟨xs,q,ah _⟩,hd σ H p⟩
theorem xQ{lo:Int}{n:Nat}{g:TG}{tb:TS}{D:Ends}{σ:St}{H:Hp}(Pv:Nat->St->Hp->Prop)(h0:Pv 0 σ H)
  (hs:∀i σ H,i<n->Pv i σ H->g (.int (lo+i)) σ H λσ2 H2=>tb {D with nx:=Pv (i+1),ct:=Pv (i+1),bk:=D.nx} σ2 H2)(hd:∀σ H,Pv n σ H->D.nx σ H):
  ∃W:Nat->Nat->St->Hp->Prop,(∃m,W 0 m σ H)/\∀i m σ H,W i m σ H->
   ((Pn lo n).stop i H/\D.nx σ H)\/((Pn lo n).go i H/\∃N:St->Hp->Prop,(∀σ' H',N σ' H'->∃m',m'<m/\W (i+1) m' σ' H')/\∀x H',(Pn lo n).RC i H x H'->g x σ H' λσ2 H2=>tb {D with nx:=N,ct:=N,bk:=D.nx} σ2 H2):=by
 refine⟨λi m σ H=>m=n-i/\i<=n/\Pv i σ H,⟨n,by simp,bp _,h0⟩,?_⟩
 rintro i m σ H ⟨rfl,hi,p⟩
 by_cases hlt:i<n
 ·refine .inr ⟨hlt,Pv (i+1),λσ' H' p'=>⟨n-(i+1),by lia,rfl,hlt,p'⟩,λx H' y=>?_⟩
  obtain⟨e,y⟩:=y
  subst e y
  exact hs i σ _ hlt p
 ·have e:i=n:=by lia
  subst e
  exact .inl ⟨ah _,hd σ H p⟩
theorem xD{c:TT}{tb:TS}{D:Ends}{σ:St}{H:Hp}(Pv:St->Hp->Prop)(μ:St->Hp->Nat)(h0:Pv σ H)
  (hs:∀σ H,Pv σ H->c σ H λb H1=>if b=true then tb {D with nx:=λσ' H'=>Pv σ' H'/\μ σ' H'<μ σ H,ct:=λσ' H'=>Pv σ' H'/\μ σ' H'<μ σ H,bk:=D.nx} σ H1 else D.nx σ H1)
  (mono:∀σ H Q Q',(∀b H1,Q b H1->Q' b H1)->c σ H Q->c σ H Q'):OW c tb D σ H:=by
 refine⟨λm σ H=>m=μ σ H/\Pv σ H,⟨_,rfl,h0⟩,?_⟩
 rintro m σ H ⟨rfl,p⟩
 refine mono σ H _ _ (λb H1 q=>?_) (hs σ H p)
 cases b with
 |true=>exact⟨_,λσ' H' ⟨p',l⟩=>⟨_,l,rfl,p'⟩,q⟩
 |false=>exact q
end L2
namespace L2
open PySem PySem.Spec PyProof.Rows
abbrev R2:=V->V->Hp->VK->Prop
def vA(X:Cx)(f:Value->Value->Sem Value)(r:R2):Prop:=
 ∀(pins:List (Addr×Obj))(s:Shared)(σ:St)(H:Hp)(x y:V)(v u:Value)(Q:VK),Inv X pins σ H s->RelV x v->RelV y u->r x y H Q->
  wpAny (model X.prog X.w) X.A (f v u) (EP X pins σ Q) X.xe s
def U8(X:Cx)(f:Value->Sem Value)(r:V->Hp->VK->Prop):Prop:=
 ∀(pins:List (Addr×Obj))(s:Shared)(σ:St)(H:Hp)(x:V)(v:Value)(Q:VK),Inv X pins σ H s->RelV x v->r x H Q->
  wpAny (model X.prog X.w) X.A (f v) (EP X pins σ Q) X.xe s
def nM(X:Cx)(f:Value)(r:List V->Hp->VK->Prop):Prop:=
 ∀(pins:List (Addr×Obj))(s:Shared)(σ:St)(H:Hp)(xs:List V)(us:List Value)(Q:VK),Inv X pins σ H s->Vals xs us->r xs H Q->
  wpAny (model X.prog X.w) X.A (call f us) (EP X pins σ Q) X.xe s
def S7(r:R2)(ta tb:TE):TE:=λσ H Q=>ta σ H (kQ Q λx H1 Q=>tb σ H1 (kQ Q λy H2 Q=>r x y H2 Q))
def Wt(r:V->Hp->VK->Prop)(ta:TE):TE:=λσ H Q=>ta σ H (kQ Q λx H1 Q=>r x H1 Q)
def rI(C:Int->Int->Prop)(g:Int->Int->V):R2:=λx y H Q=>ex2 Q λi j Q=>x=.int i/\y=.int j/\C i j/\Q (g i j) H
def Pk(g:Int->Int->V):R2:=λx y H Q=>ex2 Q λi j Q=>x=.int i/\y=.int j/\Q (g i j) H
def rU(g:Int->V):V->Hp->VK->Prop:=λx H Q=>ex1 Q λi Q=>x=.int i/\Q (g i) H
section
variable{X:Cx}{a b c:Expr}{ta tb tc:TE}{pos:Pos}
theorem RJ(ha:PE X a ta)(hb:PE X b tb){pins:List (Addr×Obj)}{s:Shared}{σ:St}{H:Hp}{R:V->V->Hp->Prop}(I:Inv X pins σ H s)
  (h:ta σ H λx H1=>tb σ H1 λy H2=>R x y H2){Q:Value->Shared->Prop}{f:Value->Value->Sem Value}
  (hf:∀v u s2 x y H2,Inv X pins σ H2 s2->RelV x v->RelV y u->R x y H2->wpAny (model X.prog X.w) X.A (f v u) Q X.xe s2):
  wpAny (model X.prog X.w) X.A (eval a X.env) (λv s₁=>wpAny (model X.prog X.w) X.A (eval b X.env) (λu s₂=>wpAny (model X.prog X.w) X.A (f v u) Q X.xe s₂) X.xe s₁) X.xe s:=by
 refine fH (ha pins s σ H _ I h) λv s1 zz6=>?_
 obtain⟨x,H1,I1,r1,q1⟩:=zz6
 refine fH (hb pins s1 σ H1 _ I1 q1) λu s2 zz0=>?_
 obtain⟨y,H2,I2,r2,q2⟩:=zz0
 exact hf v u s2 x y H2 I2 r1 r2 q2
theorem cZ{op:Operator}{r:R2}(ho:vA X (binaryOp op) r)(ha:PE X a ta)(hb:PE X b tb):PE X (.BinOp a op b pos) (S7 r ta tb):=by
 intro pins s σ H Q I h
 exact wpAny_BinOp (RJ ha hb I h λv u s2 x y H2 I2 rx ry q=>ho pins s2 σ H2 x y v u Q I2 rx ry q)
theorem tI{op:UnaryOp}{r:V->Hp->VK->Prop}(ho:U8 X (unaryOp op) r)(ha:PE X a ta):PE X (.UnaryOp op a pos) (Wt r ta):=by
 intro pins s σ H Q I h
 exact UnaryOp_ (fH (ha pins s σ H _ I h) λv s1 zy=>by obtain⟨x,H1,I1,r1,q1⟩:=zy;exact ho pins s1 σ H1 x v Q I1 r1 q1)
theorem Vv{f:Value->Value->Sem Value}{C:Int->Int->Prop}{g:Int->Int->Int}
  (rule:∀(i j:Int)(t u:Tok)(s:Shared)(Q:Value->Shared->Prop)(E:Value->Shared->Prop),C i j->Q (.int (g i j) s.toks) {s with toks:=s.toks+1}->wpAny (model X.prog X.w) X.A (f (.int i t) (.int j u)) Q E s):
  vA X f (rI C λi j=>.int (g i j)):=by
 intro pins s σ H x y v u Q I rx ry h
 obtain⟨i,j,rfl,rfl,hc,q⟩:=h
 obtain⟨t,rfl⟩:=rx
 obtain⟨t',rfl⟩:=ry
 exact rule i j t t' s _ _ hc ⟨.int (g i j),H,I.tok _,⟨_,rfl⟩,q⟩
theorem Uc{f:Value->Value->Sem Value}{g:Int->Int->Int}
  (rule:∀(i j:Int)(t u:Tok)(s:Shared)(Q:Value->Shared->Prop)(E:Value->Shared->Prop),Q (.int (g i j) s.toks) {s with toks:=s.toks+1}->wpAny (model X.prog X.w) X.A (f (.int i t) (.int j u)) Q E s):
  vA X f (Pk λi j=>.int (g i j)):=by
 intro pins s σ H x y v u Q I rx ry h
 obtain⟨i,j,rfl,rfl,q⟩:=h
 obtain⟨t,rfl⟩:=rx
 obtain⟨t',rfl⟩:=ry
 exact rule i j t t' s _ _ ⟨.int (g i j),H,I.tok _,⟨_,rfl⟩,q⟩
theorem Qo{f:Value->Value->Sem Value}{g:Int->Int->Bool}
  (rule:∀(i j:Int)(t u:Tok)(s:Shared)(Q:Value->Shared->Prop)(E:Value->Shared->Prop),Q (.bool (g i j)) s->wpAny (model X.prog X.w) X.A (f (.int i t) (.int j u)) Q E s):
  vA X f (Pk λi j=>.bl (g i j)):=by
 intro pins s σ H x y v u Q I rx ry h
 obtain⟨i,j,rfl,rfl,q⟩:=h
 obtain⟨t,rfl⟩:=rx
 obtain⟨t',rfl⟩:=ry
 exact rule i j t t' s _ _ ⟨.bl (g i j),H,I,rfl,q⟩
def K5(i j:Int):Prop:=(-(2^64)<i/\i<2^64)\/(-(2^64)<j/\j<2^64)
theorem K5.ok{i j:Int}(h:K5 i j):IntMulOk i j:=by
 rcases h with ⟨h1,h2⟩|⟨h1,h2⟩
 ·exact .of_left (intBits_le_64 h1 h2)
 ·exact .of_right (intBits_le_64 h1 h2)
theorem gM:vA X (binaryOp .Add) (Pk λi j=>.int (i+j)):=Uc λ_ _ _ _ _ _ _ q=>add_int q
theorem nE:vA X (binaryOp .Sub) (Pk λi j=>.int (i-j)):=Uc λ_ _ _ _ _ _ _ q=>sub_int q
theorem A0:vA X (binaryOp .Mult) (rI K5 λi j=>.int (i*j)):=Vv λ_ _ _ _ _ _ _ hc q=>mul_int q hc.ok
theorem EH:vA X (binaryOp .Mod) (rI (λ_ j=>0<j) λi j=>.int (i%j)):=Vv λi j _ _ _ _ _ hc q=>by
 have h1:(0:Int)<j:=hc
 exact mod_int' (by lia) (by rw[Int.fmod_eq_emod_of_nonneg i (by lia)];exact q)
theorem Wu{f:Value->Sem Value}{g:Int->Int}
  (rule:∀(i:Int)(t:Tok)(s:Shared)(Q:Value->Shared->Prop)(E:Value->Shared->Prop),Q (.int (g i) s.toks) {s with toks:=s.toks+1}->wpAny (model X.prog X.w) X.A (f (.int i t)) Q E s):
  U8 X f (rU λi=>.int (g i)):=by
 intro pins s σ H x v Q I rx h
 obtain⟨i,rfl,q⟩:=h
 obtain⟨t,rfl⟩:=rx
 exact rule i t s _ _ ⟨.int (g i),H,I.tok _,⟨_,rfl⟩,q⟩
theorem pk:U8 X (unaryOp .USub) (rU λi=>.int (-i)):=Wu λ_ _ _ _ _ q=>neg_int q
end
def Uj:V->V->Bool
 |.iD,.iD=>true|.iD,.int _=>true|.int _,.iD=>true|.iD,.bl _=>true|.bl _,.iD=>true|.iD,.str _=>true|.str _,.iD=>true
 |.int _,.int _=>true|.bl _,.bl _=>true|.str _,.str _=>true|.HD _,.HD _=>true
 |.int _,.str _=>true|.str _,.int _=>true|.bl _,.str _=>true|.str _,.bl _=>true
 |_,_=>false
def Wm:R2:=λx y H Q=>Uj x y=true/\Q (.bl (decide (x=y))) H
def Wo:R2:=λx y H Q=>Uj x y=true/\Q (.bl (!decide (x=y))) H
theorem JV{i j:Int}:decide (V.int i=V.int j)=(i==j):=by
 rw[g9]
 simp
theorem Ny{i j:Bool}:decide (V.bl i=V.bl j)=(i==j):=by
 rw[g9]
 simp
theorem JW{i j:Str}:decide (V.str i=V.str j)=(i==j):=by
 rw[g9]
 simp
theorem JU{i j:Array UInt8}:decide (V.HD i=V.HD j)=(i.toList==j.toList):=by
 rw[g9]
 cases i
 cases j
 simp
section
variable{X:Cx}{a b c:Expr}{ta tb tc:TE}{pos:Pos}
theorem eC{pins:List (Addr×Obj)}{σ:St}{H:Hp}{s:Shared}{Q:VK}{k k':Bool}(I:Inv X pins σ H s)(q:Q (.bl k) H)(e:k=k'):EP X pins σ Q (.bool k') s:=by
 subst e
 exact⟨.bl k,H,I,rfl,q⟩
theorem Dn:vA X (compareOp .Eq) Wm:=by
 intro pins s σ H x y v u Q I rx ry h
 obtain⟨hs,q⟩:=h
 cases x with
 |iD=>
  cases rx
  cases y with
  |iD=>cases ry;exact PySem.EqNone.eq_none_none (eC I q (by simp))
  |bl j=>cases ry;exact PySem.EqNone.eq_none_bool (eC I q (by simp))
  |int j=>obtain⟨t',rfl⟩:=ry;exact PySem.EqNone.eq_none_int (eC I q (by simp))
  |str j=>obtain⟨t',rfl⟩:=ry;exact PySem.EqNone.eq_none_str (eC I q (by simp))
  |_=>exact absurd (show false=true from hs) bc
 |bl i=>
  cases rx
  cases y with
  |iD=>cases ry;exact PySem.EqNone.eq_bool_none (eC I q (by simp))
  |bl j=>cases ry;exact eq_bool (eC I q Ny)
  |str j=>obtain⟨t',rfl⟩:=ry;exact PySem.EqMixed.eq_bool_str (eC I q (by simp))
  |_=>exact absurd (show false=true from hs) bc
 |int i=>
  obtain⟨t,rfl⟩:=rx
  cases y with
  |iD=>cases ry;exact PySem.EqNone.eq_int_none (eC I q (by simp))
  |int j=>obtain⟨t',rfl⟩:=ry;exact eq_int (eC I q JV)
  |str j=>obtain⟨t',rfl⟩:=ry;exact PySem.EqMixed.eq_int_str (eC I q (by simp))
  |_=>exact absurd (show false=true from hs) bc
 |str i=>
  obtain⟨t,rfl⟩:=rx
  cases y with
  |iD=>cases ry;exact PySem.EqNone.eq_str_none (eC I q (by simp))
  |bl j=>cases ry;exact PySem.EqMixed.eq_str_bool (eC I q (by simp))
  |int j=>obtain⟨t',rfl⟩:=ry;exact PySem.EqMixed.eq_str_int (eC I q (by simp))
  |str j=>obtain⟨t',rfl⟩:=ry;exact eq_str (eC I q JW)
  |_=>exact absurd (show false=true from hs) bc
 |HD i=>
  obtain⟨t,rfl⟩:=rx
  cases y with
  |HD j=>obtain⟨t',rfl⟩:=ry;exact PySem.W.eq_bytes (eC I q JU)
  |_=>exact absurd (show false=true from hs) bc
 |_=>cases y<;>exact absurd (show false=true from hs) bc
theorem Rr:vA X (compareOp .NotEq) Wo:=by
 intro pins s σ H x y v u Q I rx ry h
 obtain⟨hs,q⟩:=h
 cases x with
 |iD=>
  cases rx
  cases y with
  |iD=>cases ry;exact PySem.EqNone.ne_none_none (eC I q (by simp))
  |bl j=>cases ry;exact PySem.EqNone.ne_none_bool (eC I q (by simp))
  |int j=>obtain⟨t',rfl⟩:=ry;exact PySem.EqNone.ne_none_int (eC I q (by simp))
  |str j=>obtain⟨t',rfl⟩:=ry;exact PySem.EqNone.ne_none_str (eC I q (by simp))
  |_=>exact absurd (show false=true from hs) bc
 |bl i=>
  cases rx
  cases y with
  |iD=>cases ry;exact PySem.EqNone.ne_bool_none (eC I q (by simp))
  |bl j=>cases ry;exact ne_bool (eC I q (congrArg not Ny))
  |str j=>obtain⟨t',rfl⟩:=ry;exact PySem.EqMixed.ne_bool_str (eC I q (by simp))
  |_=>exact absurd (show false=true from hs) bc
 |int i=>
  obtain⟨t,rfl⟩:=rx
  cases y with
  |iD=>cases ry;exact PySem.EqNone.ne_int_none (eC I q (by simp))
  |int j=>obtain⟨t',rfl⟩:=ry;exact ne_int (eC I q (congrArg not JV))
  |str j=>obtain⟨t',rfl⟩:=ry;exact PySem.EqMixed.ne_int_str (eC I q (by simp))
  |_=>exact absurd (show false=true from hs) bc
 |str i=>
  obtain⟨t,rfl⟩:=rx
  cases y with
  |iD=>cases ry;exact PySem.EqNone.ne_str_none (eC I q (by simp))
  |bl j=>cases ry;exact PySem.EqMixed.ne_str_bool (eC I q (by simp))
  |int j=>obtain⟨t',rfl⟩:=ry;exact PySem.EqMixed.ne_str_int (eC I q (by simp))
  |str j=>obtain⟨t',rfl⟩:=ry;exact ne_str (eC I q (congrArg not JW))
  |_=>exact absurd (show false=true from hs) bc
 |HD i=>
  obtain⟨t,rfl⟩:=rx
  cases y with
  |HD j=>obtain⟨t',rfl⟩:=ry;exact PySem.W.ne_bytes (eC I q (congrArg not JU))
  |_=>exact absurd (show false=true from hs) bc
 |_=>cases y<;>exact absurd (show false=true from hs) bc
theorem sh:vA X (compareOp .Lt) (Pk λi j=>.bl (decide (i<j))):=Qo λ_ _ _ _ _ _ _ q=>lt_int q
theorem pO:vA X (compareOp .LtE) (Pk λi j=>.bl (decide (i<=j))):=Qo λ_ _ _ _ _ _ _ q=>le_int q
theorem Dq:vA X (compareOp .Gt) (Pk λi j=>.bl (decide (j<i))):=Qo λ_ _ _ _ _ _ _ q=>gt_int q
theorem Oo:vA X (compareOp .GtE) (Pk λi j=>.bl (decide (j<=i))):=Qo λ_ _ _ _ _ _ _ q=>ge_int q
theorem eE(b:Expr){op:CmpOp}(h:op≠.In:=by decide)(h2:op≠.NotIn:=by decide):behindInMarks op b=false:=by
 have e1:(op==CmpOp.In)=false:=by cases op<;>first|rfl|exact absurd rfl h
 have e2:(op==CmpOp.NotIn)=false:=by cases op<;>first|rfl|exact absurd rfl h2
 cases b<;>simp[behindInMarks,e1,e2]
theorem zV{op:CmpOp}{r:R2}(ho:vA X (compareOp op) r)(ha:PE X a ta)(hb:PE X b tb)(hm:behindInMarks op b=false):PE X (.Compare a [op] [b] pos) (S7 r ta tb):=by
 intro pins s σ H Q I h
 exact wpAny_Compare1 (RJ ha hb I h λv u s2 x y H2 I2 rx ry q=>ho pins s2 σ H2 x y v u Q I2 rx ry q) hm
def DL(t:TE):TT:=λσ H Q=>t σ H (kQ Q λx H' Q=>ex1 Q λk Q=>x=.bl k/\Q k H')
theorem cI{op:CmpOp}{r:R2}(ho:vA X (compareOp op) r)(ha:PE X a ta)(hb:PE X b tb)(hm:behindInMarks op b=false):PT X (.Compare a [op] [b] pos) (DL (S7 r ta tb)):=by
 intro pins s σ H Q I h
 refine wpAny_isTrue_Compare1 (fH (ha pins s σ H _ I h) λv s1 ⟨x,H1,I1,r1,q1⟩=>fH (hb pins s1 σ H1 _ I1 q1) λu s2 ⟨y,H2,I2,r2,q2⟩=>
  fH (ho pins s2 σ H2 x y v u _ I2 r1 r2 q2) λc s3 ⟨z,H3,I3,r3,k,e,q3⟩=>?_) hm
 subst e
 cases r3
 exact wpAny_truthy_bool ⟨H3,I3,q3⟩
def S3(r r':R2)(ta tb tc:TE):TE:=λσ H Q=>ta σ H (kQ Q λx H1 Q=>tb σ H1 (kQ Q λy H2 Q=>r x y H2 (kQ Q λz H3 Q=>ex1 Q λk Q=>z=.bl k/\
 (if k=true then tc σ H3 (kQ Q λw' H4 Q=>r' y w' H4 Q)else Q (.bl false) H3))))
theorem tL{op op':CmpOp}{r r':R2}(ho:vA X (compareOp op) r)(ho':vA X (compareOp op') r')(ha:PE X a ta)(hb:PE X b tb)(hc:PE X c tc)
  (hm:lastMarks [op,op'] [b,c]=false:=by with_unfolding_all rfl):PT X (.Compare a [op,op'] [b,c] pos) (DL (S3 r r' ta tb tc)):=by
 intro pins s σ H Q I h
 refine isTrue_chain (fH (ha pins s σ H _ I h) λv s1 ⟨x,H1,I1,r1,q1⟩=>test_link (fH (hb pins s1 σ H1 _ I1 q1) λu s2 ⟨y,H2,I2,r2,q2⟩=>
  fH (ho pins s2 σ H2 x y v u _ I2 r1 r2 q2) λd s3 ⟨z,H3,I3,r3,k,e,q3⟩=>?_)) hm
 subst e
 cases r3
 refine wpAny_truthy_bool ?_
 cases k with
 |false=>
  obtain⟨k',e',q'⟩:=q3
  cases e'
  exact ite_ff ⟨H3,I3,q'⟩
 |true=>
  refine ite_tt (test_last (fH (hc pins s3 σ H3 _ I3 q3) λw' s4 ⟨z',H4,I4,r4,q4⟩=>fH (ho' pins s4 σ H4 y z' u w' _ I4 r2 r4 q4) λd' s5 zy=>?_))
  obtain⟨z2,H5,I5,r5,k2,e2,q5⟩:=zy
  subst e2
  cases r5
  exact wpAny_truthy_bool ⟨H5,I5,q5⟩
theorem Er:(sizeLine:Nat)<2^63:=by rw[sizeLine_eq];decide
theorem vals1{x:V}{us:List Value}(r:Vals [x] us):∃u,us=[u]/\RelV x u:=by
 cases r with
 |cons r1 r2=>cases r2;exact⟨_,rfl,r1⟩
theorem vals2{x y:V}{us:List Value}(r:Vals [x,y] us):∃u w',us=[u,w']/\RelV x u/\RelV y w':=by
 cases r with
 |cons r1 r2=>
  cases r2 with
  |cons r3 r4=>cases r4;exact⟨_,_,rfl,r1,r3⟩
theorem Ln(hc:X.calm=true):nM X (.builtin "max") (λxs H Q=>ex2 Q λi j Q=>xs=[.int i,.int j]/\Q (.int (if j>i then j else i)) H):=by
 intro pins s σ H xs us Q I r h
 obtain⟨i,j,rfl,q⟩:=h
 obtain⟨u,w',rfl,⟨t,rfl⟩,⟨t',rfl⟩⟩:=vals2 r
 refine max_two_ints (I.ok.hd hc) λh' tk k=>⟨_,H,I.kept k,?_,q⟩
 by_cases hj:j>i
 ·rw[if_pos hj,if_pos hj];exact⟨_,rfl⟩
 ·rw[if_neg hj,if_neg hj];exact⟨_,rfl⟩
theorem D8:nM X (.type "str") (λxs H Q=>ex1 Q λi Q=>xs=[.int i]/\i.natAbs.log2<1920/\Q (.str (toString i)) H):=by
 intro pins s σ H xs us Q I r h
 obtain⟨i,rfl,hz,q⟩:=h
 obtain⟨u,rfl,t,rfl⟩:=vals1 r
 exact PySem.P.str_of_int hz ⟨.str _,H,I.tok _,⟨_,rfl⟩,q⟩
theorem Nq:nM X (.builtin "ord") (λxs H Q=>ex1 Q λx Q=>xs=[.str x]/\x.length=1/\Q (.int (x.cps.getD 0 0:Nat)) H):=by
 intro pins s σ H xs us Q I r h
 obtain⟨x,rfl,hz,q⟩:=h
 obtain⟨u,rfl,t,rfl⟩:=vals1 r
 exact ord_of_one hz ⟨.int _,H,I.tok _,⟨_,rfl⟩,q⟩
end
end L2
namespace L2
open PySem PySem.Spec PyProof.Rows
structure HJ(h:Heap)(x dx C:Addr)(mA:Str->Option Value):Prop where
 obj:h.get? x=aa (dD C dx)
 ns:h.Ns1 dx mA
 ne:dx≠x
theorem Dk{h:Heap}{dx:Addr}{mA:Str->Option Value}(n:h.Ns1 dx mA):∃od,h.get? dx=aa od/\∀name,sS name od=aa (mA name):=by
 obtain⟨o,es,ep,ho,hd,hk,_,hm⟩:=n
 refine⟨o,ho,λname=>?_⟩
 have e:=hm name
 unfold nsFind findBy at e
 rw[<-Array.find?_toList]at e
 unfold sS
 rw[hd]
 dsimp only
 split
 ·rename_i y q
  rw[q]at e
  exact congrArg aa e
 ·rename_i q
  rw[q]at e
  have a:es.toList.any (·.refKey)=false:=by
   rw[List.any_eq_false]
   intro y hy
   obtain⟨z,t,hkey⟩:=hk y (Array.mem_toList_iff.mp hy)
   simp[DictEntry.refKey,hkey]
  have a':¬es.toList.any (·.refKey)=true:=by rw[a];exact bc
  rw[if_neg a']
  exact congrArg aa e
theorem HJ.look{h:Heap}{x dx C:Addr}{mA:Str->Option Value}(I:HJ h x dx C mA):∃od,PySem.W.InstAt h x (dD C dx) C (aa od)/\∀name,sS name od=aa (mA name):=
 let⟨od,ho,hl⟩:=Dk I.ns
 ⟨od,⟨I.obj,rfl,rfl,ho⟩,hl⟩
section
variable{prog:Program}{w:World}{A:Around}{E:Value->Shared->Prop}{s:Shared}{K:af}{x dx C f:Addr}{mA:Str->Option Value}{name:Str}{v:Value}
theorem get_map{expr:Bool}{Q:Value->Shared->Prop}(X:K.In s.heap)(I:HJ s.heap x dx C mA)(hg:qy K C name=true)(hh:lA K C=true)
  (ha:bU K (.ref C) name=aa none)(hv:mA name=aa v)(hv':Li v=true)(h:Q v {s with toks:=s.toks+1}):
  wpAny (model prog w) A (getAttr (.ref x) name expr) Q E s:=by
 obtain⟨od,J,hl⟩:=I.look
 exact PySem.W.get_value X J (uW hg).1 (HA hh ha rfl (by rw[hl,hv])) hv' h
theorem NT{pl:Sem Bool}{Q:Value×List Value->Shared->Prop}(X:K.In s.heap)(I:HJ s.heap x dx C mA)(hg:qy K C name=true)
  (hf:bU K (.ref C) name=aa (aa (.ref f)))(ht:pA K (.ref f)=true)(hv:mA name=none)(h:Q (.ref f,[.ref x]) s):
  wpAny (model prog w) A (getMethod (.ref x) name pl) Q E s:=by
 obtain⟨od,J,hl⟩:=I.look
 exact PySem.W.method_fn X J (uW hg).1 (uW hg).2 hf (beq_iff_eq.mp ht) (by show(sS name od).map (·.isSome)=aa false;rw[hl,hv];rfl) h
theorem QO{ns:List Str}{Q:Unit->Shared->Prop}(X:K.In s.heap)(I:HJ s.heap x dx C mA)
  (hs:bU K (.ref C) "__setattr__"=aa (aa (.builtin "object.__setattr__")))(hp:JI K C=true)(ht:zr K C name=aa none)(hh:lA K C=true)
  (hw:FG mA ns)(hsz:ns.length<=sizeLine)
  (h:∀h',HJ h' x dx C (λy=>if y=name then aa v else mA y)->yE dx s.heap h'->Q () {s with heap:=h',toks:=s.toks+2}):
  wpAny (model prog w) A (setAttr (.ref x) name v) Q E s:=by
 obtain⟨od,J,hl⟩:=I.look
 refine PySem.W.set_plain X J hs (PySem.W.osa_open (s:={s with toks:=s.toks+1}) (r:=none) X J hp ht λb=>?_)
 obtain⟨cd,hc,hd'⟩:=PySem.W.any_some hh
 have hx:s.heap.get? x=aa ⟨.ref C,aa dx,.plain,#[]⟩:=I.obj
 refine wpAny_bind (wpAny_pure (wpAny_bind (wpAny_bind (wpAny_loadPart hx (wpAny_bind (Lg (s:={s with toks:=s.toks+1}) (PySem.W.looks_clsIn X hc) ?_))))))
 rw[hd']
 refine wpAny_pure (a:=aa dx) (wpAny_bind (wpAny_pure (wpAny_bind ?_)))
 refine wpAny_nsSet1 (s:={s with toks:=s.toks+1}) I.ns λh' hn2 hs2=>?_
 obtain⟨oD,esD,epD,hoD,hdD,hcD⟩:=hn2.count (Lk name v hw)
 refine wpAny_bind (wpAny_lookBehind hoD (by rw[hdD];exact pastItsLine_dict (aX hcD (by rw[aF];ac_rfl))) ?_)
 exact wpAny_pure (h _ ⟨(hs2.2 _ (ra I.ne)).trans I.obj,hn2,I.ne⟩ hs2)
theorem Oc{R:Result->Shared->Prop}{vs:List Value}{kw:List (Str×Value)}(X:K.In s.heap)(hm:u7 K C=true)
  (hi:bU K (.ref C) "__init__"=aa (aa (.ref f)))(hf:mI K (.ref f)=aa (.type "function"))
  (h:codeAny (model prog w) (A.under (.builtin "type.__call__" ⟨.ref C::vs,kw⟩)) (.call (.ref f) ⟨.ref (s.heap.objs.size+1)::vs,kw⟩) (PySem.W.InitBack (s.heap.objs.size+1) R)
    {s with heap:=(s.heap.push cG).push (dD C s.heap.objs.size)}):
  codeAny (model prog w) A (.call (.ref C) ⟨vs,kw⟩) R s:=by
 obtain⟨hh,g,d,t,os⟩:=s
 exact JH (Lj X hm) (sV X hi) (λself=>MV X self hf) (.inl rfl) h
end
def pB(f:Str)(v:V):List (Str×V)->List (Str×V)
 |[]=>[(f,v)]
 |(g,x)::r=>if g=f then(g,v)::r else(g,x)::pB f v r
theorem yW(f g:Str)(v:V):∀fs:List (Str×V),(pB f v fs).lookup g=if g=f then aa v else fs.lookup g
 |[]=>by
  show bz g [(f,v)]=_
  by_cases h:g=f
  ·have hb:(g==f)=true:=beq_iff_eq.mpr h
   simp only[bz,hb,if_pos h]
  ·have hb:(g==f)=false:=beq_eq_false_iff_ne.mpr h
   simp only[bz,hb,if_neg h]
 |(k,x)::r=>by
  have ih:=yW f g v r
  rw[show pB f v ((k,x)::r)=(if k=f then(k,v)::r else(k,x)::pB f v r)from rfl]
  by_cases hk:k=f
  ·rw[if_pos hk]
   by_cases h:g=k
   ·have hb:(g==k)=true:=beq_iff_eq.mpr h
    simp only[bz,hb,if_pos (h.trans hk)]
   ·have hb:(g==k)=false:=beq_eq_false_iff_ne.mpr h
    simp only[bz,hb,if_neg (λe:g=f=>h (e.trans hk.symm))]
  ·rw[if_neg hk]
   by_cases h:g=k
   ·have hb:(g==k)=true:=beq_iff_eq.mpr h
    simp only[bz,hb,if_neg (λe:g=f=>hk (h.symm.trans e))]
   ·have hb:(g==k)=false:=beq_eq_false_iff_ne.mpr h
    simp only[bz,hb]
    exact ih
theorem xV(f:Str)(v:V):∀fs:List (Str×V),f∈(pB f v fs).map (·.1)/\∀g,g∈fs.map (·.1)->g∈(pB f v fs).map (·.1)
 |[]=>⟨by simp[pB],λg h=>by simp at h⟩
 |(k,x)::r=>by
  obtain⟨i1,i2⟩:=xV f v r
  rw[show pB f v ((k,x)::r)=(if k=f then(k,v)::r else(k,x)::pB f v r)from rfl]
  by_cases hk:k=f
  ·rw[if_pos hk]
   subst hk
   exact⟨by simp,λg h=>by simpa using h⟩
  ·rw[if_neg hk]
   refine⟨?_,λg h=>?_⟩
   ·rw[aU]
    exact ax _ i1
   ·rw[aU]at h⊢
    rcases aG.mp h with e|e
    ·exact aG.mpr (.inl e)
    ·exact ax _ (i2 g e)
theorem yT(f:Str)(v:V):∀fs:List (Str×V),(pB f v fs).length<=fs.length+1
 |[]=>by simp[pB]
 |(k,x)::r=>by
  have ih:=yT f v r
  rw[show pB f v ((k,x)::r)=(if k=f then(k,v)::r else(k,x)::pB f v r)from rfl]
  by_cases hk:k=f
  ·rw[if_pos hk,aF,aF];ac_rfl
  ·rw[if_neg hk,aF,aF];ac_rfl
theorem rf.some_of{v:V}{o:Option Value}(r:rf (aa v) o):∃u,o=aa u/\RelV v u:=by
 cases o with
 |none=>exact(show False from r).elim
 |some u=>exact⟨u,rfl,r⟩
theorem rf.none_of{o:Option Value}(r:rf none o):o=none:=by
 cases o with
 |none=>rfl
 |some u=>exact(show False from r).elim
theorem Dg{v:V}{u:Value}(r:RelV v u):Li u=true:=by
 cases v with
 |iD=>cases(show u=Value.none from r);rfl
 |bl b=>cases(show u=Value.bool b from r);rfl
 |int i=>obtain⟨t,e⟩:=(show∃t,u=Value.int i t from r);cases e;rfl
 |str x=>obtain⟨t,e⟩:=(show∃t,u=Value.str x t from r);cases e;rfl
 |HD b=>obtain⟨t,e⟩:=(show∃t,u=Value.bytes b t from r);cases e;rfl
 |Th b=>obtain⟨t,e⟩:=(show∃t,u=Value.float b t from r);cases e;rfl
 |ref a=>cases(show u=Value.ref a from r);rfl
 |ty n=>cases(show u=Value.type n from r);rfl
section
variable{P:Program}{w:World}{H H':Hp}{h h':Heap}{a C dx:Addr}{fs fs':List (Str×V)}
theorem Em(dO:pV P w H h)(e:H a=aa (.ins C dx fs)):∃mA,HJ h a dx C mA/\(∀f,rf (fs.lookup f) (mA f))/\FG mA (fs.map (·.1))/\fs.length<=1000/\H dx=aa (.own a):=by
 obtain⟨d,z,ne,ob,mA,n,r,q⟩:=(show gb P w H h a (.ins C dx fs)from dO a _ e)
 exact⟨mA,⟨ob,n,ne⟩,r,q,z,d⟩
end
structure Hn(K:af)(C:Addr):Prop where
 pg:qy K C su=true
 hd:lA K C=true
 po:JI K C=true
 sa:bU K (.ref C) "__setattr__"=aa (aa (.builtin "object.__setattr__"))
theorem Hn.get{K:af}{C:Addr}(c:Hn K C)(f:Str):qy K C f=true:=c.pg
def iq(K:af)(C:Addr)(f:Str):Prop:=bU K (.ref C) f=aa none
theorem iq.Rz{K:af}{C:Addr}{f:Str}(n:iq K C f):zr K C f=aa none:=by
 unfold zr
 rw[show bU K (.ref C) f=aa none from n]
 rfl
structure Meth(K:af)(C:Addr)(m:Str)(f:Addr):Prop where
 at_:bU K (.ref C) m=aa (aa (.ref f))
 fn:pA K (.ref f)=true
 kp:cK K (.ref f)=true
section
variable{X:Cx}{pins:List (Addr×Obj)}{σ:St}{H:Hp}{s:Shared}{a C dx:Addr}{fs:List (Str×V)}{f:Str}{v:V}{A:Around}{E:Value->Shared->Prop}
theorem Az{b:Bool}{Q:Value->Shared->Prop}(I:Inv X pins σ H s)(e:H a=aa (.ins C dx fs))(c:Hn X.K C)(n:iq X.K C f)(l:fs.lookup f=aa v)
  (h:∀u s',Inv X pins σ H s'->RelV v u->Q u s'):wpAny (model X.prog X.w) A (getAttr (.ref a) f b) Q E s:=by
 obtain⟨mA,O,r,_,_,_⟩:=Em I.dO e
 obtain⟨u,hu,ru⟩:=rf.some_of (v:=v) (o:=mA f) (by rw[<-l];exact r f)
 exact get_map I.vh O (c.get f) c.hd n hu (Dg ru) (h u _ (I.tok _) ru)
theorem vF{m:Str}{g:Addr}{pl:Sem Bool}{Q:Value×List Value->Shared->Prop}(I:Inv X pins σ H s)(e:H a=aa (.ins C dx fs))(c:Hn X.K C)(k:Meth X.K C m g)(l:fs.lookup m=none)
  (h:Q (.ref g,[.ref a]) s):wpAny (model X.prog X.w) A (getMethod (.ref a) m pl) Q E s:=by
 obtain⟨mA,O,r,_,_,_⟩:=Em I.dO e
 have hn:mA m=none:=rf.none_of (by rw[<-l];exact r m)
 exact NT I.vh O (c.get m) k.at_ k.fn hn h
theorem Bq{y:V}{u:Value}{Q:Unit->Shared->Prop}(I:Inv X pins σ H s)(e:H a=aa (.ins C dx fs))(c:Hn X.K C)(n:iq X.K C f)(hl:fs.length<1000)(ry:RelV y u)
  (h:∀s',Inv X pins σ (upd H a (.ins C dx (pB f y fs))) s'->Q () s'):wpAny (model X.prog X.w) A (setAttr (.ref a) f u) Q E s:=by
 obtain⟨mA,O,r,wi,_,ho⟩:=Em I.dO e
 have hz:(fs.map (·.1)).length<=sizeLine:=by rw[ae,sizeLine_eq];lia
 refine QO I.vh O c.sa c.po n.Rz c.hd wi hz λh' O' sb=>h _ ?_
 have hd:∃o,h'.get? dx=aa o:=let⟨o,_,_,e',_⟩:=O'.ns;⟨o,e'⟩
 refine I.write (x:=a) (e:=dx) (by rw[e];exact True.intro) (.inr ho) (λb q hb z=>(sb.2 b hb).trans z) hd ?_
 refine⟨by rw[az O.ne];exact ho,?_,O.ne,O'.obj,_,O'.ns,λg=>?_,λg hg=>?_⟩
 ·have:=yT f y fs;lia
 ·show rf ((pB f y fs).lookup g) (if g=f then aa u else mA g)
  rw[yW]
  by_cases q:g=f
  ·rw[if_pos q,if_pos q];exact ry
  ·rw[if_neg q,if_neg q];exact r g
 ·by_cases q:g=f
  ·rw[q];exact(xV f y fs).1
  ·refine(xV f y fs).2 g (wi g λz=>hg ?_)
   show(if g=f then aa u else mA g)=none
   rw[if_neg q];exact z
theorem Inv.made(I:Inv X pins σ H s):Inv X pins σ (upd (upd H s.heap.objs.size (.own (s.heap.objs.size+1))) (s.heap.objs.size+1) (.ins C s.heap.objs.size []))
  {s with heap:=(s.heap.push cG).push (dD C s.heap.objs.size)}:=by
 have e1:(s.heap.push cG).get? s.heap.objs.size=aa cG:=bh s.heap rfl
 have e2:((s.heap.push cG).push (dD C s.heap.objs.size)).get? (s.heap.objs.size+1)=aa (dD C s.heap.objs.size):=by
  have:=bh (s.heap.push cG) (o:=dD C s.heap.objs.size) rfl
  rwa[cu]at this
 have e3:(s.heap.push cG).Ns s.heap.objs.size (λ_=>none):=⟨cG,#[],_,e1,rfl,(λe he=>absurd he (by simp)),λ_=>rfl⟩
 have I1:=I.laid (a:=s.heap.objs.size) (o:=.own (s.heap.objs.size+1)) (h':=s.heap.push cG) (t':=s.toks) (λb u q=>aw _ q) (ah _) ⟨_,e1⟩
 refine I1.laid (a:=s.heap.objs.size+1) (o:=.ins C s.heap.objs.size []) (t':=s.toks) (λb u q=>aw _ q) (sQ (cu _ _)) ?_
 have ne:s.heap.objs.size≠s.heap.objs.size+1:=bJ (sq _)
 refine⟨by rw[az ne,ag],bp _,ne,e2,λ_=>none,(HL e3).at λo q=>aw _ q,λ_=>True.intro,λy hy=>absurd rfl hy⟩
theorem JO{prog:Program}{w:World}{env:Env}{e:Expr}{f:Str}{pos:Pos}{s:Shared}{Q:Value->Shared->Prop}(hb:attributeBase e f env (eval e env)=eval e env)
  (h:wpAny (model prog w) A (eval e env) (λo s₁=>wpAny (model prog w) A (getAttr o f true) Q E s₁) E s):wpAny (model prog w) A (eval (.Attribute e f pos) env) Q E s:=
 Attribute_any_ h (by rw[arm_eval_Attribute,hb])
end
def BD(K:af)(ta:TE)(f:Str):TE:=λσ H Q=>ta σ H (kQ Q λx H1 Q=>ex5 Q λa C dx fs v Q=>x=.ref a/\H1 a=aa (.ins C dx fs)/\Hn K C/\iq K C f/\fs.lookup f=aa v/\Q v H1)
def VI(K:af)(ta tv:TE)(f:Str):TS:=λD σ H=>tv σ H (kQ D λy H1 D=>ta σ H1 (kQ D λx H2 D=>ex4 D λa C dx fs D=>x=.ref a/\H2 a=aa (.ins C dx fs)/\Hn K C/\iq K C f/\fs.length<1000/\
 D.nx σ (upd H2 a (.ins C dx (pB f y fs)))))
def RF(X:Cx)(op:Operator)(rd:V->V->Hp->VK->Prop):Prop:=
 ∀(pins:List (Addr×Obj))(s:Shared)(σ:St)(H:Hp)(x y:V)(u v:Value)(Q:VK),Inv X pins σ H s->RelV x u->RelV y v->rd x y H Q->wpAny (model X.prog X.w) X.A (inplaceOp op u v) (EP X pins σ Q) X.xe s
def QF(K:af)(ta tv:TE)(rd:V->V->Hp->VK->Prop)(f:Str):TS:=λD σ H=>ta σ H (kQ D λx H1 D=>ex5 D λa C dx fs v D=>x=.ref a/\H1 a=aa (.ins C dx fs)/\Hn K C/\iq K C f/\fs.lookup f=aa v/\
 tv σ H1 (kQ D λy H2 D=>rd v y H2 (kQ D λz H3 D=>ex2 D λdx' fs' D=>H3 a=aa (.ins C dx' fs')/\fs'.length<1000/\D.nx σ (upd H3 a (.ins C dx' (pB f z fs'))))))
section
variable{X:Cx}{o e value:Expr}{f:Str}{pos pos' tpos:Pos}{ta tv:TE}
theorem ba(he:PE X e ta)(hb:attributeBase e f X.env (eval e X.env)=eval e X.env):PE X (.Attribute e f pos) (BD X.K ta f):=by
 intro pins s σ H Q I h
 refine JO hb (fH (he pins s σ H _ I h) λu s1 zy=>?_)
 obtain⟨x,H1,I1,rx,a,C,dx,fs,v,ex,ea,c,n,l,q⟩:=zy
 subst ex
 obtain rfl:u=Value.ref a:=rx
 exact Az I1 ea c n l λu' s2 I2 ru=>⟨v,H1,I2,ru,q⟩
theorem hZ(ha:PE X o ta)(hv:PE X value tv)(hs:swapsWith value (aa (.Attribute o f pos')) pos.line X.env=pure false):PS X (.Assign [.Attribute o f pos'] value pos) (VI X.K ta tv f):=by
 intro pins s σ H D I h
 refine plainObj_wpAny_Assign_Attribute (fH (hv pins s σ H _ I h) λu s1 ⟨y,H1,I1,ry,q⟩=>fH (ha pins s1 σ H1 _ I1 q) λov s2 zy=>?_) hs
 obtain⟨x,H2,I2,rx,a,C,dx,fs,ex,ea,c,n,l,q2⟩:=zy
 subst ex
 obtain rfl:ov=Value.ref a:=rx
 exact Bq I2 ea c n l ry λs3 I3=>⟨σ,_,I3,q2⟩
theorem x8{op:Operator}{rd:V->V->Hp->VK->Prop}(ha:PE X o ta)(hv:PE X value tv)(hop:RF X op rd):PS X (.AugAssign (.Attribute o f tpos) op value pos) (QF X.K ta tv rd f):=by
 intro pins s σ H D I h
 refine wpAny_AugAssign_AttributeAny (fH (ha pins s σ H _ I h) λov s1 zy=>?_)
 obtain⟨x,H1,I1,rx,a,C,dx,fs,v,ex,ea,c,n,l,q⟩:=zy
 subst ex
 obtain rfl:ov=Value.ref a:=rx
 refine Az I1 ea c n l λu s2 I2 ru=>fH (hv pins s2 σ H1 _ I2 q) λw3 s3 zy=>?_
 obtain⟨y,H2,I3,ry,q3⟩:=zy
 refine fH (hop pins s3 σ H2 v y u w3 _ I3 ru ry q3) λw4 s4 zz1=>?_
 obtain⟨z,H3,I4,rz,dx',fs',ea',l',q4⟩:=zz1
 exact Bq I4 ea' c n l' rz λs5 I5=>⟨σ,_,I5,q4⟩
def Vw:V->V->Hp->VK->Prop:=λx y H Q=>ex2 Q λi j Q=>x=.int i/\y=.int j/\Q (.int (i+j)) H
def VF:V->V->Hp->VK->Prop:=λx y H Q=>ex2 Q λi j Q=>x=.int i/\y=.int j/\Q (.int (i-j)) H
theorem NZ:RF X .Add Vw:=by
 rintro pins s σ H x y u v Q I rx ry ⟨i,j,rfl,rfl,q⟩
 obtain⟨t,rfl⟩:=(show∃t,u=Value.int i t from rx)
 obtain⟨t',rfl⟩:=(show∃t',v=Value.int j t' from ry)
 exact PyProof.Rows.iadd_int ⟨.int (i+j),H,I.tok _,⟨_,rfl⟩,q⟩
theorem RW:RF X .Sub VF:=by
 rintro pins s σ H x y u v Q I rx ry ⟨i,j,rfl,rfl,q⟩
 obtain⟨t,rfl⟩:=(show∃t,u=Value.int i t from rx)
 obtain⟨t',rfl⟩:=(show∃t',v=Value.int j t' from ry)
 exact PyProof.Rows.isub_int ⟨.int (i-j),H,I.tok _,⟨_,rfl⟩,q⟩
theorem Ro{pl:Sem Bool}{m:Str}{apos:Pos}{args:List Expr}{pins:List (Addr×Obj)}{s:Shared}{σ:St}{H:Hp}{Q:Value->Shared->Prop}{te:TE}(he:PE X e te)(I:Inv X pins σ H s)
  (h:te σ H λx H1=>∃a C dx fs g,x=.ref a/\H1 a=aa (.ins C dx fs)/\Hn X.K C/\Meth X.K C m g/\fs.lookup m=none/\
    ∀s1,Inv X pins σ H1 s1->wpAny (model X.prog X.w) X.A (callWith pos (.ref g) [.ref a] (backTo pos (starEach args X.env)) (backToKw pos (keywordEach [] X.env))) Q X.xe s1)
  (ht:eval (.Call (.Attribute e m apos) args [] pos) X.env=(do
    let ov<-eval e X.env
    standAt apos.atName
    let(f,first)<-holding [ov] (getMethod ov m pl)
    callWith pos f first (backTo pos (starEach args X.env)) (backToKw pos (keywordEach [] X.env)))):
  wpAny (model X.prog X.w) X.A (eval (.Call (.Attribute e m apos) args [] pos) X.env) Q X.xe s:=by
 refine lP (pl:=pl) (fH (he pins s σ H _ I h) λu s1 zy=>?_) ht
 obtain⟨x,H1,I1,rx,a,C,dx,fs,g,ex,ea,c,k,l,q⟩:=zy
 subst ex
 obtain rfl:u=Value.ref a:=rx
 exact vF I1 ea c k l (q s1 I1)
end
section
variable{X:Cx}{pins:List (Addr×Obj)}{σ:St}{H:Hp}{s:Shared}{A:Around}{E:Value->Shared->Prop}{Q:Value->Shared->Prop}{c:Value}{b:Bool}
inductive Ah(K:af)(H:Hp):V->Value->Prop where
 |iD:Ah K H .iD (.type "NoneType")
 |bl (x:Bool):Ah K H (.bl x) (.type "bool")
 |int (i:Int):Ah K H (.int i) (.type "int")
 |str (x:Str):Ah K H (.str x) (.type "str")
 |Th (x:UInt64):Ah K H (.Th x) (.type "float")
 |lst {a:Addr} {xs:List V} (e:H a=aa (.lst xs)):Ah K H (.ref a) (.type "list")
 |B8 {a:Addr} {o:Obj} {xs:List V} (e:H a=aa (.B8 o (.lst xs))):Ah K H (.ref a) (.type "list")
 |tup {a:Addr} {xs:List V} (e:H a=aa (.tup xs)):Ah K H (.ref a) (.type "tuple")
 |dK {a:Addr} {kvs:List (Key×V)} (e:H a=aa (.dK kvs)):Ah K H (.ref a) (.type "dict")
 |dT {a:Addr} {kvs:List (List Key×V)} (e:H a=aa (.dT kvs)):Ah K H (.ref a) (.type "dict")
 |ins {a C dx:Addr} {fs:List (Str×V)} (e:H a=aa (.ins C dx fs)) (cl:Hn K C) (ha:bU K (.ref C) "__class__"=aa (aa (.builtin "object.__class__")))
   (hn:JJ K (.builtin "object.__class__") "__get__"=aa (aa (.builtin "getset_descriptor.__get__"))) (htk:PySem.W.takesIn K (.builtin "object.__class__")=aa true)
   (hm:PySem.W.mroIn K C (.type "object")=aa true):Ah K H (.ref a) (.ref C)
end
end L2
namespace L2
open PySem PySem.Spec PyProof.Rows
structure iK(k:Nat)(A:Around):Prop where
 hd:A.handled=none
 dp:A.depth+3*k+5<recursionLimit
 un:A.units+16*k+200<cLine
theorem iK.mono{j k:Nat}{A:Around}(r:iK k A)(h:j<=k):iK j A:=⟨r.hd,by have:=r.dp;lia,by have:=r.un;lia⟩
theorem iK.deeper{k:Nat}{A:Around}(r:iK (k+1) A)(env:Env):iK k (A.deeper env):=
 ⟨r.hd,by have:=r.dp;show A.depth+1+3*k+5<_;lia,by have:=r.un;show A.units+3+16*k+200<_;lia⟩
theorem iK.in1{k:Nat}{A:Around}(r:iK (k+1) A):iK k A.in1:=
 ⟨r.hd,by have:=r.dp;show A.depth+3*k+5<_;lia,by have:=r.un;show A.units+1+16*k+200<_;lia⟩
theorem Ii{A:Around}{C:Addr}{us:List Value}{kw:List (Str×Value)}:(A.under (.builtin "type.__call__" ⟨.ref C::us,kw⟩)).depth=A.depth+1:=by
 first|rfl|simp[Fu,Code.weight,Code.isCreation,Code.isGuard,Code.isCaller,Code.frames,Hw,guardIds]
theorem Ij{A:Around}{C:Addr}{us:List Value}{kw:List (Str×Value)}:(A.under (.builtin "type.__call__" ⟨.ref C::us,kw⟩)).units=A.units+1:=by
 first|rfl|simp[Fu,Code.cUnits,Code.frames,Hw]
theorem iK.make{k:Nat}{A:Around}(r:iK (k+1) A)(C:Addr)(us:List Value)(kw:List (Str×Value)):iK k (A.under (.builtin "type.__call__" ⟨.ref C::us,kw⟩)):=
 ⟨r.hd,by have:=r.dp;rw[Ii];lia,by have:=r.un;rw[Ij];lia⟩
theorem iK.depth{k:Nat}{A:Around}(r:iK k A):A.depth<recursionLimit:=by have:=r.dp;lia
theorem iK.units{k:Nat}{A:Around}(r:iK k A):A.units+64<cLine:=by have:=r.un;lia
def mq:TA:=λ_ H Q=>Q [] H
def gJ(ta:TE)(tr:TA):TA:=λσ H Q=>ta σ H (kQ Q λx H1 Q=>tr σ H1 (kQ Q λxs H2 Q=>Q (x::xs) H2))
section
variable{X:Cx}{e:Expr}{es:List Expr}{te:TE}{t:TA}{pos:Pos}
theorem aj:PA X [] mq:=λ_ _ _ _ H Q I h=>MT ⟨[],H,I,.nil,h⟩
theorem ab(ha:PE X e te)(hr:PA X es t)(hs:starEach (e::es) X.env=(false,eval e X.env)::starEach es X.env:=by rfl):PA X (e::es) (gJ te t):=by
 intro pos pins s σ H Q I h
 rw[hs]
 show wpAny _ _ (spliced ((false,eval e X.env)::backTo pos (starEach es X.env))) _ _ s
 refine Lc (fH (ha pins s σ H _ I h) λu s1 zy=>?_)
 obtain⟨x,H1,I1,r1,q1⟩:=zy
 exact fH (hr pos pins s1 σ H1 _ I1 q1) λus s2 zy=>by obtain⟨xs,H2,I2,r2,q2⟩:=zy;exact⟨x::xs,H2,I2,.cons r1 r2,q2⟩
def S9(t:TA):TE:=λσ H Q=>t σ H (kQ Q λxs H1 Q=>xs.length<=sizeLine/\∀p,H1 p=none->Q (.ref p) (upd H1 p (.tup xs)))
def Uu(t:TA):TE:=λσ H Q=>t σ H (kQ Q λxs H1 Q=>xs.length<=sizeLine/\∀p,H1 p=none->Q (.ref p) (upd H1 p (.lst xs)))
theorem iE{x1}(h:PA X es t):PE X (.Tuple es x1 pos) (S9 t):=by
 intro pins s σ H Q I hq
 refine wpAny_Tuple_spliced (fH (h pos pins s σ H _ I hq) λus s1 ⟨xs,H1,I1,r,z,q⟩=>⟨by rw[<-r.length];exact z,?_⟩)
 have hf:H1 s1.heap.objs.size=none:=I1.dO.fresh (ah _)
 refine⟨.ref s1.heap.objs.size,upd H1 s1.heap.objs.size (.tup xs),I1.laid (t':=s1.toks) (λb u e=>aw _ e) (ah _) ?_,rfl,q _ hf⟩
 exact⟨z,us,r,⟨_,bh _ rfl,rfl,_,rfl⟩⟩
theorem d3(h:PA X es t):PE X (.List es pos) (Uu t):=by
 intro pins s σ H Q I hq
 refine wpAny_List_spliced (fH (h pos pins s σ H _ I hq) λus s1 ⟨xs,H1,I1,r,z,q⟩=>⟨by rw[<-r.length];exact z,?_⟩)
 have hf:H1 s1.heap.objs.size=none:=I1.dO.fresh (ah _)
 refine⟨.ref s1.heap.objs.size,upd H1 s1.heap.objs.size (.lst xs),I1.laid (t':=s1.toks) (λb u e=>aw _ e) (ah _) ?_,rfl,q _ hf⟩
 exact⟨z,us,0,r,bh _ rfl⟩
end
abbrev Sp:=List V->Hp->VK->XK->Prop
abbrev Jv:=List Env->Hp->Shared->XK->Value->Shared->Prop
structure HF(P:Program)(w:World)(K:af)(mg:Str->Option Value)(base:Heap)(A:Around)(outer:List Env)(s:Shared)(H:Hp):Prop where
 frames:A.frames=aa outer
 mod:Mod K mg base
 bs:∀b o,base.get? b=aa o->s.heap.get? b=aa o/\H b=none
 MX:base.objs.size<=s.heap.objs.size
 xS:s.heap.FunFrames base outer
 Rl:∀b∈HZ outer,H b=none
 dO:pV P w H s.heap
 bare:AllBare s.gens
def CE(outer:List Env)(P:Program)(w:World)(H:Hp)(s:Shared)(Q:VK)(u:Value)(s':Shared):Prop:=
 ∃v H',s'.os=s.os/\AllBare s'.gens/\Un (HZ outer) [] H H' s.heap s'.heap/\pV P w H' s'.heap/\RelV v u/\Q v H'
def CR(CX:Jv)(outer:List Env)(P:Program)(w:World)(H:Hp)(s:Shared)(Q:VK)(E:XK)(r:Result)(s':Shared):Prop:=
 match r with
 |.ok (.ret u)=>CE outer P w H s Q u s'
 |.ok _=>False
 |.error e=>CX outer H s E e s'
structure bw(P:Program)(w:World)(K:af)(mg:Str->Option Value)(base:Heap)(CX:Jv)(k:Nat)(f:Addr)(fd:FuncData)(ps:List Str)(sp:Sp):Prop where
 len:∀vs H Q E,sp vs H Q E->vs.length=ps.length
 run:∀(A:Around)(outer:List Env)(s:Shared)(H:Hp)(args:Args)(us:List Value)(vs:List V)(Q:VK)(E:XK),iK k A->HF P w K mg base A outer s H->BindsTo s fd args (ps.zip us)->Vals vs us->sp vs H Q E->
  codeAny (model P w) A (.call (.ref f) args) (CR CX outer P w H s Q E) s
theorem HF.make{P:Program}{w:World}{K:af}{mg:Str->Option Value}{base:Heap}{A:Around}{outer:List Env}{s:Shared}{H:Hp}(e:HF P w K mg base A outer s H)(C:Addr)(us:List Value)(kw:List (Str×Value)):
 HF P w K mg base (A.under (.builtin "type.__call__" ⟨.ref C::us,kw⟩)) outer s H:=⟨by first|exact e.frames|(simpa[Fu,Code.envs,Hw,pushEnvs]using e.frames),e.mod,e.bs,e.MX,e.xS,e.Rl,e.dO,e.bare⟩
section
variable{X:Cx}{pins:List (Addr×Obj)}{σ:St}{H:Hp}{s s':Shared}
theorem Inv.Eg(I:Inv X pins σ H s):HF X.prog X.w X.K X.mg X.base X.A X.stack s H:=
 ⟨I.ok.frames,I.ok.mod,I.bs,aX I.ok.MX I.sz,I.stack,I.z9,I.dO,I.bare⟩
theorem Inv.after{Q:VK}{u:Value}(I:Inv X pins σ H s)(h:CE X.stack X.prog X.w H s Q u s'):EP X pins σ Q u s':=by
 obtain⟨v,H',os,bare,un,dO,r,q⟩:=h
 obtain⟨hh,g,d,t,os'⟩:=s'
 obtain rfl:os'=s.os:=os
 exact⟨v,H',I.call (h':=hh) (g':=g) (d':=d) (t':=t) (ch:=[]) un dO bare (λb z=>absurd z (by simp)),r,q⟩
end
def ze(sp:Sp)(dvs:List V)(E:XK)(t:TA):TE:=λσ H Q=>t σ H (kQ Q λvs H1 Q=>sp (vs++dvs) H1 Q E)
def BE(C:Addr)(m:Str)(sp:Sp)(dvs:List V)(E:XK)(ta:TE)(t:TA):TE:=λσ H Q=>ta σ H (kQ Q λx H1 Q=>ex3 Q λa dx fs Q=>x=.ref a/\H1 a=aa (.ins C dx fs)/\fs.lookup m=none/\
 t σ H1 (kQ Q λvs H2 Q=>sp (x::(vs++dvs)) H2 Q E))
def Ry(C:Addr)(sp:Sp)(dvs:List V)(E:XK)(t:TA):TE:=λσ H Q=>t σ H (kQ Q λvs H1 Q=>∀x dx,H1 x=none->H1 dx=none->dx≠x->
 sp (.ref x::(vs++dvs)) (upd (upd H1 dx (.own x)) x (.ins C dx [])) (kQ Q λv H2 Q=>v=.iD/\Q (.ref x) H2) E)
def Binds(K:af)(fd:FuncData)(ps:List Str)(ds:List Value):Prop:=
 ∀(s:Shared)(us:List Value),K.In s.heap->(us++ds).length=ps.length->BindsTo s fd ⟨us,[]⟩ (ps.zip (us++ds))
theorem Binds.all{K:af}{fd:FuncData}{ps:List Str}(h:∀us:List Value,us.length=ps.length->bindArgs fd ⟨us,[]⟩=pure (ps.zip us)):Binds K fd ps []:=λs us _ hl=>by
 rw[aZ]at hl⊢
 exact .of_eq (h us hl)
def Passes(CX:Jv)(X:Cx)(E:XK):Prop:=∀(pins:List (Addr×Obj))(σ:St)(H:Hp)(s:Shared)(e:Value)(s':Shared),Inv X pins σ H s->CX X.stack H s E e s'->X.xe e s'
section
variable{X:Cx}{CX:Jv}{k:Nat}{f C:Addr}{fd:FuncData}{ps:List Str}{sp:Sp}{dvs:List V}{ds:List Value}{E:XK}{x m:Str}{p pos apos:Pos}{e o:Expr}{es:List Expr}{ta:TE}{t:TA}
theorem EM{pins:List (Addr×Obj)}{σ:St}{H:Hp}{s:Shared}{Q:VK}{us:List Value}{vs:List V}(F:bw X.prog X.w X.K X.mg X.base CX k f fd ps sp)(hr:iK k X.A)(hb:Binds X.K fd ps ds)(hd:Vals dvs ds)(hx:Passes CX X E)
  (I:Inv X pins σ H s)(r:Vals vs us)(h:sp (vs++dvs) H Q E):wpAny (model X.prog X.w) X.A (call (.ref f) us) (EP X pins σ Q) X.xe s:=by
 have r2:Vals (vs++dvs) (us++ds):=r.append hd
 have hl:(us++ds).length=ps.length:=by rw[<-r2.length];exact F.len _ _ _ _ h
 refine wpAny_call (codeAny_mono (F.run X.A X.stack s H ⟨us,[]⟩ (us++ds) (vs++dvs) Q E hr I.Eg (hb s us I.vh hl) r2 h) λr s' hq=>?_)
 cases r with
 |error e=>exact hx pins σ H s e s' I hq
 |ok fl=>
  cases fl with
  |ret u=>exact I.after hq
  |next=>exact cy hq
  |brk=>exact cy hq
  |cont=>exact cy hq
theorem bb(F:bw X.prog X.w X.K X.mg X.base CX k f fd ps sp)(hr:iK k X.A)(hg:Gl X x)(hm:X.mg x=aa (.ref f))(hk:cK X.K (.ref f)=true)(hb:Binds X.K fd ps ds)(hd:Vals dvs ds)(hx:Passes CX X E)
  (ha:PA X (e::es) t)(hdb:(x==("__debug__":Str))=false:=by decide)(he:starEach (e::es) X.env=(false,eval e X.env)::starEach es X.env:=by rfl)(hpl:(backTo pos (starEach es X.env)).any (·.1)=false:=by rfl):
  PE X (.Call (.Name x p) (e::es) [] pos) (ze sp dvs E t):=by
 intro pins s σ H Q I h
 refine wpAny_Call_Name_kw (og I hg hm ?_ hdb)
 refine iP (h₀:=X.base) I.ok.mod.Rn hk (fH (ha pos pins s σ H _ I h) λus s1 ⟨vs,H1,I1,r,q⟩=>⟨I1.vh,?_⟩) he hpl
 exact EM F hr hb hd hx I1 r q
theorem cQ{pl:Sem Bool}(he:PE X o ta)(c:Hn X.K C)(hm:Meth X.K C m f)(F:bw X.prog X.w X.K X.mg X.base CX k f fd ps sp)(hr:iK k X.A)(hb:Binds X.K fd ps ds)(hd:Vals dvs ds)(hx:Passes CX X E)(ha:PA X (e::es) t)
  (hst:starEach (e::es) X.env=(false,eval e X.env)::starEach es X.env:=by rfl)(hpl:(backTo pos (starEach es X.env)).any (·.1)=false:=by rfl)
  (ht:eval (.Call (.Attribute o m apos) (e::es) [] pos) X.env=(do
    let ov<-eval o X.env
    standAt apos.atName
    let(f,first)<-holding [ov] (getMethod ov m pl)
    callWith pos f first (backTo pos (starEach (e::es) X.env)) (backToKw pos (keywordEach [] X.env))):=by rfl):
  PE X (.Call (.Attribute o m apos) (e::es) [] pos) (BE C m sp dvs E ta t):=by
 intro pins s σ H Q I h
 refine lP (pl:=pl) (fH (he pins s σ H _ I h) λu s1 zy=>?_) ht
 obtain⟨x,H1,I1,rx,a,dx,fs,ex,ea,l,q⟩:=zy
 subst ex
 obtain rfl:u=Value.ref a:=rx
 refine vF I1 ea c hm l ?_
 refine iP (first:=[.ref a]) (h₀:=X.base) I.ok.mod.Rn hm.kp (fH (ha pos pins s1 σ H1 _ I1 q) λus s2 ⟨vs,H2,I2,r,q2⟩=>⟨I2.vh,?_⟩) hst hpl
 exact EM (us:=.ref a::us) (vs:=.ref a::vs) F hr hb hd hx I2 (.cons rfl r) q2
theorem eu{pl:Sem Bool}(he:PE X o ta)(c:Hn X.K C)(hm:Meth X.K C m f)(F:bw X.prog X.w X.K X.mg X.base CX k f fd ps sp)(hr:iK k X.A)(hb:Binds X.K fd ps ds)(hd:Vals dvs ds)(hx:Passes CX X E)
  (ht:eval (.Call (.Attribute o m apos) [] [] pos) X.env=(do
    let ov<-eval o X.env
    standAt apos.atName
    let(f,first)<-holding [ov] (getMethod ov m pl)
    callWith pos f first (backTo pos (starEach [] X.env)) (backToKw pos (keywordEach [] X.env))):=by rfl):
  PE X (.Call (.Attribute o m apos) [] [] pos) (BE C m sp dvs E ta mq):=by
 intro pins s σ H Q I h
 refine lP (pl:=pl) (fH (he pins s σ H _ I h) λu s1 zy=>?_) ht
 obtain⟨x,H1,I1,rx,a,dx,fs,ex,ea,l,q⟩:=zy
 subst ex
 obtain rfl:u=Value.ref a:=rx
 refine vF I1 ea c hm l ?_
 exact nP (first:=[.ref a]) I1.vh hm.kp (EM (us:=[.ref a]) (vs:=[.ref a]) F hr hb hd hx I1 (.cons rfl .nil) q)
structure Mk(K:af)(C f:Addr):Prop where
 makes:u7 K C=true
 init:bU K (.ref C) "__init__"=aa (aa (.ref f))
 fn:pA K (.ref f)=true
 kp:cK K (.ref C)=true
theorem G3{pins:List (Addr×Obj)}{σ:St}{H:Hp}{s:Shared}{Q:VK}{us:List Value}{vs:List V}(M:Mk X.K C f)(F:bw X.prog X.w X.K X.mg X.base CX k f fd ps sp)(hr:iK (k+1) X.A)(hb:Binds X.K fd ps ds)(hd:Vals dvs ds)
  (hx:Passes CX X E)(I:Inv X pins σ H s)(r:Vals vs us)
  (h:∀x dx,H x=none->H dx=none->dx≠x->sp (.ref x::(vs++dvs)) (upd (upd H dx (.own x)) x (.ins C dx [])) (λv H2=>v=.iD/\Q (.ref x) H2) E):
  wpAny (model X.prog X.w) X.A (call (.ref C) us) (EP X pins σ Q) X.xe s:=by
 have hq:=h (s.heap.objs.size+1) s.heap.objs.size (I.dO.fresh (n6 _)) (I.dO.fresh (ah _)) (bJ (sq _))
 have I2:=Inv.made (C:=C) I
 have r2:Vals (V.ref (s.heap.objs.size+1)::(vs++dvs)) (Value.ref (s.heap.objs.size+1)::(us++ds)):=.cons rfl (r.append hd)
 have hl:(Value.ref (s.heap.objs.size+1)::us++ds).length=ps.length:=by
  have e:=r2.length
  rw[F.len _ _ _ _ hq]at e
  exact e.symm
 refine wpAny_call (Oc (f:=f) I.vh M.makes M.init (beq_iff_eq.mp M.fn) (codeAny_mono (F.run _ X.stack _ _ ⟨Value.ref (s.heap.objs.size+1)::us,[]⟩ (Value.ref (s.heap.objs.size+1)::(us++ds)) _ _ E (hr.make C us [])
  (I2.Eg.make C us []) (hb _ (Value.ref (s.heap.objs.size+1)::us) I2.vh hl) r2 hq) λr s' hq'=>?_))
 cases r with
 |error e=>exact hx pins σ _ _ e s' I2 hq'
 |ok fl=>
  cases fl with
  |ret u=>
   obtain⟨v,H',I3,rv,ev,q3⟩:=I2.after hq'
   subst ev
   exact⟨rv,⟨V.ref (s.heap.objs.size+1),H',I3,rfl,q3⟩⟩
  |next=>exact cy hq'
  |brk=>exact cy hq'
  |cont=>exact cy hq'
theorem gW(M:Mk X.K C f)(F:bw X.prog X.w X.K X.mg X.base CX k f fd ps sp)(hr:iK (k+1) X.A)(hg:Gl X x)(hm:X.mg x=aa (.ref C))(hb:Binds X.K fd ps ds)(hd:Vals dvs ds)(hx:Passes CX X E)
  (ha:PA X (e::es) t)(hdb:(x==("__debug__":Str))=false:=by decide)(he:starEach (e::es) X.env=(false,eval e X.env)::starEach es X.env:=by rfl)(hpl:(backTo pos (starEach es X.env)).any (·.1)=false:=by rfl):
  PE X (.Call (.Name x p) (e::es) [] pos) (Ry C sp dvs E t):=by
 intro pins s σ H Q I h
 refine wpAny_Call_Name_kw (og I hg hm ?_ hdb)
 refine iP (h₀:=X.base) I.ok.mod.Rn M.kp (fH (ha pos pins s σ H _ I h) λus s1 ⟨vs,H1,I1,r,q⟩=>⟨I1.vh,?_⟩) he hpl
 exact G3 M F hr hb hd hx I1 r q
theorem Ou(M:Mk X.K C f)(F:bw X.prog X.w X.K X.mg X.base CX k f fd ps sp)(hr:iK (k+1) X.A)(hg:Gl X x)(hm:X.mg x=aa (.ref C))(hb:Binds X.K fd ps ds)(hd:Vals dvs ds)(hx:Passes CX X E)
  (hdb:(x==("__debug__":Str))=false:=by decide):PE X (.Call (.Name x p) [] [] pos) (Ry C sp dvs E mq):=by
 intro pins s σ H Q I h
 refine wpAny_Call_Name_kw (og I hg hm ?_ hdb)
 exact nP I.vh M.kp (G3 (us:=[]) M F hr hb hd hx I .nil h)
end
section
variable{X:Cx}{CX:Jv}{k:Nat}{f C:Addr}{fd:FuncData}{ps ks:List Str}{sp:Sp}{E:XK}{x m:Str}{p pos apos kpos:Pos}{e o:Expr}{es:List Expr}{kws:List Keyword}{te ta:TE}{t tk:TA}{nm:Option Str}
variable{g:List Value->List Value->List Value}{gV:List V->List V->List V}
end
structure aH(N P:List Str)(sc:Scope):Prop where
 kind:sc.kind=.function
 co:sc.isCoroutine=false
 gen:sc.isGenerator=false
 nd:N.Nodup
 pre:N.take P.length=P
 par:∀x∈P,sc.names.lookup x=aa .local\/sc.names.lookup x=aa .cell
 Sj:∀y∈sc.names,y.2≠.free
theorem CK{kindOf:Str->Option NameKind}{x:Str}:∀{binds:List (Str×Value)}{m:Str->Option Value},(∀v,(x,v)∉binds)->bindL kindOf binds m x=m x
 |[],_,_=>rfl
 |(n,v)::r,m,h=>by
  unfold bindL
  rw[CK λw hw=>h w (ax _ hw)]
  split
  ·have:x≠n:=by rintro rfl;exact h v ay
   simp[this]
  ·rfl
theorem CI{kindOf:Str->Option NameKind}{x:Str}:∀{binds:List (Str×Value)}{m:Str->Option Value},(∀v,(x,v)∉binds)->bindC kindOf binds m x=m x
 |[],_,_=>rfl
 |(n,v)::r,m,h=>by
  unfold bindC
  rw[CI λw hw=>h w (ax _ hw)]
  split
  ·rfl
  ·have:x≠n:=by rintro rfl;exact h v ay
   simp[this]
theorem CJ{kindOf:Str->Option NameKind}{x:Str}{v:Value}:∀{P:List Str}{vs:List Value}{i:Nat}{m:Str->Option Value},P.Nodup->P[i]?=aa x->vs[i]?=aa v->kindOf x=aa .local->
  bindL kindOf (P.zip vs) m x=aa v
 |[],_,_,_,_,h,_,_=>by simp at h
 |_::_,[],_,_,_,_,h,_=>by simp at h
 |p::P,w::vs,0,m,nd,h1,h2,hk=>by
  simp at h1 h2;subst h1;subst h2
  show bindL kindOf ((p,w)::P.zip vs) m p=_
  unfold bindL
  rw[CK λv hv=>(hG.mp nd).1 (BO hv).1,if_pos hk]
  simp
 |p::P,w::vs,i+1,m,nd,h1,h2,hk=>by
  show bindL kindOf ((p,w)::P.zip vs) m x=_
  unfold bindL
  exact CJ (i:=i) (hG.mp nd).2 (by simpa using h1) (by simpa using h2) hk
theorem CG{kindOf:Str->Option NameKind}{x:Str}{v:Value}:∀{P:List Str}{vs:List Value}{i:Nat}{m:Str->Option Value},P.Nodup->P[i]?=aa x->vs[i]?=aa v->kindOf x≠aa .local->
  bindC kindOf (P.zip vs) m x=aa v
 |[],_,_,_,_,h,_,_=>by simp at h
 |_::_,[],_,_,_,_,h,_=>by simp at h
 |p::P,w::vs,0,m,nd,h1,h2,hk=>by
  simp at h1 h2;subst h1;subst h2
  show bindC kindOf ((p,w)::P.zip vs) m p=_
  unfold bindC
  rw[CI λv hv=>(hG.mp nd).1 (BO hv).1,if_neg hk]
  simp
 |p::P,w::vs,i+1,m,nd,h1,h2,hk=>by
  show bindC kindOf ((p,w)::P.zip vs) m x=_
  unfold bindC
  exact CG (i:=i) (hG.mp nd).2 (by simpa using h1) (by simpa using h2) hk
def start(N:List Str)(vs:List V):St:=vs.map aa++List.replicate (N.length-vs.length) none
def Lq(CX:Jv)(P:Program)(w:World)(K:af)(mg:Str->Option Value)(base:Heap)(N:List Str)(qual:Str)(scope:Scope)(f:Addr)(cd:Value)(A:Around)(outer:List Env)(s:Shared)(H:Hp)(E:XK):Cx where
 prog:=P
 w:=w
 K:=K
 mg:=mg
 base:=base
 A:=A.deeper (envOfC qual scope s.heap.objs.size f cd)
 N:=N
 vq:=s
 Te:=H
 env:=envOfC qual scope s.heap.objs.size f cd
 outer:=outer
 stack:=envOfC qual scope s.heap.objs.size f cd::outer
 ex:=[]
 calm:=true
 fn:=λ_=>true
 pn:=[]
 xe:=λe s'=>wpAny (model P w) (A.deeper (envOfC qual scope s.heap.objs.size f cd)) (leaving (envOfC qual scope s.heap.objs.size f cd) e) (λ_ s''=>CX outer H s E e s'') (λe' s''=>CX outer H s E e' s'') s'
theorem FN{sc:Scope}{n:Nat}{x:Str}(h:sc.names.lookup x=aa .cell):∃c,(cellsFrom n sc.names []).lookup x=aa c:=by
 have q:=DZ sc.names n [] (.inl h)
 exact kc.mp q
theorem LM{CX:Jv}{P:Program}{w:World}{K:af}{mg:Str->Option Value}{base:Heap}{N ps:List Str}{qual:Str}{scope:Scope}{f:Addr}{cd:Value}{A:Around}{outer:List Env}{s s1:Shared}{H:Hp}{E:XK}{us:List Value}{vs:List V}
  (S:aH N ps scope)(hd:A.handled=none)(e0:HF P w K mg base A outer s H)(hl:vs.length=ps.length)(r:Vals vs us)
  (x:InCallC s s.heap.objs.size (bindL (envOfC qual scope s.heap.objs.size f cd).kindOf (ps.zip us) λ_=>none) (cellsFrom (s.heap.objs.size+1) scope.names []) (bindC (envOfC qual scope s.heap.objs.size f cd).kindOf (ps.zip us) λ_=>none) s1):
  Inv (Lq CX P w K mg base N qual scope f cd A outer s H E) [] (start N vs) H s1:=by
 have hpl:ps.length<=N.length:=by have:=congrArg i3 S.pre;rw[bH]at this;lia
 obtain⟨h1,tk,rfl,hk⟩:=x.done
 have Rp:∀b:Addr,b∉(Lq CX P w K mg base N qual scope f cd A outer s H E).ex:=λb z=>absurd (show b∈([]:List Addr)from z) (by simp)
 refine⟨⟨e0.mod,S.kind,rfl,rfl,ah _,λy z c h1 h2=>?_,λy hy=>?_,λy c _ h=>?_,λ_=>hd,Hv e0.frames,.inr ⟨rfl,rfl⟩,λb z=>absurd z (Rp b),e0.bs,e0.MX,λb _ _=>Rp b,λb z=>absurd z (Rp b),e0.xS,e0.Rl⟩,
  rfl,e0.bare,Un.kept hk,⟨_,x.toInCall.ns,λi y v h1 h2 h3=>?_⟩,λy c h=>⟨_,x.cell y c h⟩,e0.dO.fresh (ah _),λy c h=>?_,λp hp=>absurd (show p∈([]:List (Addr×Obj))from hp) (by simp),e0.dO.kept hk,?_⟩
 ·exact name_of_addr x.apart (a9 h1) (a9 h2)
 ·have hy:scope.names.lookup y=aa .cell\/scope.names.lookup y=aa .free:=hy
  rcases hy with hy|hy
  ·exact FN hy
  ·exact absurd rfl (S.Sj _ (a9 hy))
 ·exact lU (x.above y c (a9 h))
 ·have hi:i<vs.length:=by
   unfold start at h2
   by_cases hi:i<vs.length
   ·exact hi
   ·rw[gG (by simpa using hi)]at h2
    rw[List.getElem?_replicate]at h2
    split at h2<;>cases h2
  have ha:vs[i]?=aa v:=by
   unfold start at h2
   rw[dU (by simpa using hi),aS]at h2
   cases e:vs[i]? with
   |none=>rw[e]at h2;cases h2
   |some a=>rw[e]at h2;cases h2;rfl
  obtain⟨u,hu,rv⟩:=r.get ha
  have hp:ps[i]?=aa y:=by
   rw[<-S.pre,List.getElem?_take_of_lt (by lia)];exact h1
  have ndP:ps.Nodup:=by rw[<-S.pre];exact S.nd.sublist (List.take_sublist _ _)
  refine⟨u,rv,?_⟩
  rcases S.par y (bY hp)with k|k
  ·exact .inl ⟨k,CJ ndP hp hu k⟩
  ·obtain⟨c,e⟩:=FN (n:=s.heap.objs.size+1) k
   refine .inr ⟨.inl k,c,e,?_⟩
   have q:=x.cell y c e
   rw[CG ndP hp hu (by show scope.names.lookup y≠_;rw[k];decide)]at q
   exact q
 ·exact e0.dO.fresh (lU (x.above y c (a9 h)))
 ·unfold start
  show _=N.length
  rw[ai,ae,List.length_replicate]
  lia
theorem NR{CX:Jv}{P:Program}{w:World}{K:af}{mg:Str->Option Value}{base:Heap}{k:Nat}{f:Addr}{name qual:Str}{params:Arguments}{body:List Stmt}{scope:Scope}{dV kV doc pm cdv ct oc:Value}{an od:Option Addr}
  {osl:Array (Option Value)}{N ps:List Str}{sp:Sp}(lk:K.lookup f=aa ⟨oc,od,.func (i5 name qual params body scope dV kV doc pm an cdv ct),osl⟩)(hcd:mH K cdv qual=true)(S:aH N ps scope)
  (len:∀vs H Q E,sp vs H Q E->vs.length=ps.length)
  (hbody:∀(A:Around)(outer:List Env)(s:Shared)(H:Hp)(vs:List V)(Q:VK)(E:XK),iK k (A.deeper (envOfC qual scope s.heap.objs.size f cdv))->sp vs H Q E->
    ∃t,DU (Lq CX P w K mg base N qual scope f cdv A outer s H E) body t/\t {nx:=λ_ H'=>Q .iD H',rt:=Q} (start N vs) H):
  bw P w K mg base CX (k+1) f (i5 name qual params body scope dV kV doc pm an cdv ct) ps sp:=by
 refine⟨len,λA outer s H args us vs Q E hr e0 hb r hsp=>?_⟩
 have hl:=len _ _ _ _ hsp
 have KX:K.In s.heap:=e0.mod.Rn.keeps λb o e=>(e0.bs b o e).1
 have lim:s.heap.NoLimit:=e0.mod.nolimit.keeps λb o e=>(e0.bs b o e).1
 have hkind:∀y∈ps.zip us,scope.names.lookup y.1=aa .local\/(scope.names.lookup y.1=aa .cell/\((cellsFrom (s.heap.objs.size+1) scope.names []).lookup y.1).isSome=true):=λ⟨n,v⟩ hy=>by
  rcases S.par n (BO hy).1 with q|q
  ·exact .inl q
  ·exact .inr ⟨q,DZ _ _ _ (.inl q)⟩
 refine codeAny_call_function hr.depth (KX _ _ lk) rfl S.co S.gen rfl (PySem.W.codeRec_of KX hcd) (hb _ _ _ _ ?_)
 refine wpAny_newFunctionEnv_cells S.kind hkind λenv he s1 x=>?_
 subst he
 refine⟨lim.keeps x.toInCall.keep,codeAny_func ?_⟩
 obtain⟨t,ht,hq⟩:=hbody A outer s H vs Q E (hr.deeper _) hsp
 have I:Inv (Lq CX P w K mg base N qual scope f cdv A outer s H E) [] (start N vs) H s1:=LM S hr.hd e0 hl r x
 refine wpAny_mono (ht [] s1 (start N vs) H _ I hq) (λfl s' hs=>?_) λe s' hs=>hs
 have fin:∀{σ':St}{H':Hp}{v:V}{u:Value},Inv (Lq CX P w K mg base N qual scope f cdv A outer s H E) [] σ' H' s'->RelV v u->Q v H'->CE outer P w H s Q u s':=
  λ{σ' H' v u} J rv q=>⟨v,H',J.os,J.bare,J.base,J.dO,rv,q⟩
 cases fl with
 |ret u=>
  obtain⟨v,σ',H',J,rv,q⟩:=hs
  exact fin J rv q
 |next=>
  obtain⟨σ',H',J,q⟩:=hs
  exact fin (v:=V.iD) (u:=Value.none) J rfl q
 |brk=>
  obtain⟨_,_,_,q⟩:=hs
  exact cy q
 |cont=>
  obtain⟨_,_,_,q⟩:=hs
  exact cy q
end L2
namespace L2
open PySem PySem.Spec PyProof.Rows
section
variable{X:Cx}{x:Str}{p pos:Pos}{e:Expr}{es:List Expr}{t:TA}{id T:String}{r:List V->Hp->VK->Prop}
def Wb(r:List V->Hp->VK->Prop)(t:TA):TE:=λσ H Q=>t σ H (kQ Q λvs H1 Q=>r vs H1 Q)
theorem cg(hc:nM X (.builtin id) r)(hg:Gl X x)(hm:X.mg x=none)(hv:bootBuiltins x=aa (.builtin id))(ha:PA X (e::es) t)(hn:x≠"__name__":=by decide)(hdb:(x==("__debug__":Str))=false:=by decide)
  (he:starEach (e::es) X.env=(false,eval e X.env)::starEach es X.env:=by rfl)(hpl:(backTo pos (starEach es X.env)).any (·.1)=false:=by rfl):PE X (.Call (.Name x p) (e::es) [] pos) (Wb r t):=by
 intro pins s σ H Q I h
 refine wpAny_Call_Name_kw (xX I hg hm hv ?_ hn hdb)
 exact PyProof.Rows.callWith_builtin1 (fH (ha pos pins s σ H _ I h) λus s1 zy=>by obtain⟨vs,H1,I1,r1,q1⟩:=zy;exact hc pins s1 σ H1 vs us Q I1 r1 q1) he hpl
theorem qL(hc:nM X (.type T) r)(hg:Gl X x)(hm:X.mg x=none)(hv:bootBuiltins x=aa (.type T))(ha:PA X (e::es) t)(hn:x≠"__name__":=by decide)(hdb:(x==("__debug__":Str))=false:=by decide)
  (he:starEach (e::es) X.env=(false,eval e X.env)::starEach es X.env:=by rfl)(hpl:(backTo pos (starEach es X.env)).any (·.1)=false:=by rfl):PE X (.Call (.Name x p) (e::es) [] pos) (Wb r t):=by
 intro pins s σ H Q I h
 refine wpAny_Call_Name_kw (xX I hg hm hv ?_ hn hdb)
 exact iO (fH (ha pos pins s σ H _ I h) λus s1 zy=>by obtain⟨vs,H1,I1,r1,q1⟩:=zy;exact hc pins s1 σ H1 vs us Q I1 r1 q1) he hpl
end
end L2
namespace HT
open PySem PyProof.Rows
section
open PySem.SeqAt
open PySem.AutoSeq1 (wpAny_loadPart')
open PySem.MeetsSeq PySem.MeetsSeq2 PySem.MeetsSeq3
end
section
variable{prog:Program}{w:World}{A:Around}{E:Value->Shared->Prop}{s:Shared}
theorem Pz{t b:Addr}{vs ws:List Value}{Q:Value->Shared->Prop}(ht:IsTup s.heap t vs.toArray)(hb:IsTup s.heap b ws.toArray)(hv:vs≠[])
  (h1:ws=[]->Q (.ref t) s)(h2:ws≠[]->Q (.ref s.heap.objs.size) {s with heap:=s.heap.push {cls:=.type "tuple",data:=.seq (vs++ws).toArray} })
  (hsz:vs.length+ws.length<=sizeLine):wpAny (model prog w) A (binaryOp .Add (.ref t) (.ref b)) Q E s:=by
 obtain⟨⟨cls,dd,data,sl⟩,ho,hc,n,hd⟩:=id ht
 obtain⟨⟨cls2,dd2,data2,sl2⟩,ho2,hc2,n2,hd2⟩:=id hb
 simp only at hc hd hc2 hd2
 subst hc hd hc2 hd2
 have e:vs.toArray++ws.toArray=(vs++ws).toArray:=by simp
 by_cases hw:ws=[]
 ·exact concat_meets ⟨_,ho,rfl⟩ ⟨_,ho2,rfl⟩ noFill_tuple_add seq_tuple_add DY CB (BX _ _)
   (tuple_addW1 t b vs.toArray ws.toArray n n2 dd dd2 sl sl2 (by simpa using hv) (by simp[hw])) ⟨ho,ho2,h1 hw⟩
 ·refine concat_meets ⟨_,ho,rfl⟩ ⟨_,ho2,rfl⟩ noFill_tuple_add seq_tuple_add DY CB (BX _ _)
   (tuple_addW2 t b vs.toArray ws.toArray n n2 dd dd2 sl sl2 (by simpa using hv) (by simpa using hw) (by rw[aO,aO];exact hsz)) ⟨ho,ho2,?_⟩
  rw[e]
  exact h2 hw
def Bc(n d:Nat):Option Int->Nat
 |none=>d
 |some v=>if v<0 then(v+(n:Int)).toNat else min v.toNat n
end
end HT
namespace L2
open PySem PySem.Spec PyProof.Rows
abbrev TO:=St->Hp->(Option Int->Hp->Prop)->Prop
def PO(X:Cx)(e:Option Expr)(t:TO):Prop:=
 ∀(pins:List (Addr×Obj))(s:Shared)(σ:St)(H:Hp)(Q:Option Int->Hp->Prop),Inv X pins σ H s->t σ H Q->
  wpAny (model X.prog X.w) X.A (evalPart e X.env) (λu s'=>∃o H',Inv X pins σ H' s'/\IsPart u o/\Q o H') X.xe s
def Q5:TO:=λ_ H Q=>Q none H
def Ux(t:TE):TO:=λσ H Q=>t σ H (kQ Q λx H1 Q=>ex1 Q λi Q=>x=.int i/\Q (aa i) H1)
section
variable{X:Cx}{e:Expr}{te:TE}{lo hi:Option Expr}{tl th:TO}{pos p2:Pos}
theorem Qv:PO X none Q5:=by
 intro pins s σ H Q I h
 rw[evalPart_none]
 exact wpAny_pure ⟨none,H,I,.none,h⟩
theorem w6(h:PE X e te):PO X (aa e) (Ux te):=by
 intro pins s σ H Q I hw
 rw[evalPart_some]
 refine fH (h pins s σ H _ I hw) λu s1 zz2=>?_
 obtain⟨x,H1,I1,r1,q1⟩:=zz2
 obtain⟨i,rfl,q⟩:=q1
 obtain⟨t,rfl⟩:=r1
 exact⟨aa i,H1,I1,.int i t,q⟩
def V0(X:Cx)(r:V->Option Int->Option Int->Hp->VK->Prop):Prop:=
 ∀(pins:List (Addr×Obj))(s:Shared)(σ:St)(H:Hp)(x:V)(v vl vu:Value)(lo hi:Option Int)(sl:Addr)(Q:VK),Inv X pins σ H s->RelV x v->s.heap.IsSliceOf sl vl vu .none->IsPart vl lo->IsPart vu hi->r x lo hi H Q->
  ∃T id,typeLookup (.type T) "__getitem__"=pure (aa (.builtin id))/\s.TypeIs v T/\wpAny (model X.prog X.w) X.A (getItem v (.ref sl)) (EP X pins σ Q) X.xe s
def Ws(r:V->Option Int->Option Int->Hp->VK->Prop)(te:TE)(tl th:TO):TE:=λσ H Q=>te σ H (kQ Q λx H1 Q=>tl σ H1 (kQ Q λl H2 Q=>th σ H2 (kQ Q λu H3 Q=>r x l u H3 Q)))
theorem A4{r:V->Option Int->Option Int->Hp->VK->Prop}(hr:V0 X r)(he:PE X e te)(hl:PO X lo tl)(hu:PO X hi th):PE X (.Subscript e (.Slice lo hi none p2) pos) (Ws r te tl th):=by
 intro pins s σ H Q I h
 refine Subscript_ (fH (he pins s σ H _ I h) λv s1 zy=>?_)
 obtain⟨x,H1,I1,r1,q1⟩:=zy
 refine wpAny_Slice (fH (hl pins s1 σ H1 _ I1 q1) λvl s2 ⟨l,H2,I2,pl,q2⟩=>fH (hu pins s2 σ H2 _ I2 q2) λvu s3 zy=>?_)
 obtain⟨u,H3,I3,pu,q3⟩:=zy
 rw[evalPart_none]
 refine wpAny_pure ?_
 have I4:Inv X pins σ H3 {s3 with heap:=s3.heap.push {cls:=.type "slice",data:=.fields #[vl,vu,.none]} }:=I3.kept (t':=s3.toks) λb ob q=>aw _ q
 obtain⟨T,id,hT,ht,hg⟩:=hr pins {s3 with heap:=s3.heap.push {cls:=.type "slice",data:=.fields #[vl,vu,.none]} } σ H3 x v vl vu l u s3.heap.objs.size Q I4 r1 (Heap.IsSliceOf.new ..) pl pu q3
 show wpAny (model X.prog X.w) X.A (subscriptTail e (.Slice lo hi none p2) v (.ref s3.heap.objs.size)) (EP X pins σ Q) X.xe {s3 with heap:=s3.heap.push {cls:=.type "slice",data:=.fields #[vl,vu,.none]} }
 exact tail_any (ops:=[.ref s3.heap.objs.size,v]) ht hT hg (by with_unfolding_all rfl)
def B6(xs:List V)(lo hi:Option Int):List V:=(xs.drop (HT.Bc xs.length 0 lo)).take (HT.Bc xs.length xs.length hi-HT.Bc xs.length 0 lo)
theorem FR(xs:List V)(lo hi:Option Int):(B6 xs lo hi).length<=xs.length:=by
 unfold B6
 rw[bH,iL]
 lia
def Ug(K:af):R2:=λx y H Q=>ex4 Q λa b xs ys Q=>x=.ref a/\y=.ref b/\vb K H a xs/\vb K H b ys/\xs≠[]/\xs.length+ys.length<=sizeLine/\
 (ys=[]->Q (.ref a) H)/\(ys≠[]->∀p,H p=none->Q (.ref p) (upd H p (.tup (xs++ys))))
theorem Vals.Ez{xs:List V}{us:List Value}(r:Vals xs us):us=[]↔xs=[]:=by
 cases r with
 |nil=>simp
 |cons _ _=>simp
theorem Qp:vA X (binaryOp .Add) (Ug X.K):=by
 intro pins s σ H x y v u Q I rx ry h
 obtain⟨a,b,xs,ys,rfl,rfl,ha,hb,hx,hz,q1,q2⟩:=h
 cases rx
 cases ry
 obtain⟨its,r1,p1,_⟩:=I.tuple ha
 obtain⟨its2,r2,p2,_⟩:=I.tuple hb
 refine HT.Pz p1 p2 (λz=>hx (r1.Ez.mp z)) (λz=>⟨.ref a,H,I,rfl,q1 (r2.Ez.mp z)⟩) (λz=>?_) (by rw[<-r1.length,<-r2.length];exact hz)
 refine⟨.ref s.heap.objs.size,_,I.laid (t':=s.toks) (o:=.tup (xs++ys)) (λb ob q=>aw _ q) (ah _) ?_,rfl,q2 (λw=>z (r2.Ez.mpr w)) _ (I.dO.fresh (ah _))⟩
 exact⟨by rw[ai];exact hz,_,r1.append r2,IsTup.new _ _⟩
end
end L2
namespace L2
open PySem PySem.Spec PyProof.Rows
def Rm(n:Nat)(i:Int):Option Nat:=if 0<=i then(if i<n then aa i.toNat else none)else if-(n:Int)<=i then aa (i+n).toNat else none
def Nf{α:Type}(xs:List α)(i:Int):Option α:=(Rm xs.length i).bind λj=>xs[j]?
theorem PZ{n:Nat}{i:Int}{j:Nat}(h:Rm n i=aa j):seqIndex? i n=aa j/\j<n/\-(n:Int)<=i/\i<n:=by
 unfold Rm at h
 by_cases h0:0<=i
 ·rw[if_pos h0]at h
  by_cases h1:i<n
  ·rw[if_pos h1]at h
   have e:i.toNat=j:=bq h
   exact⟨by rw[seqIndex_of h0 h1,e],by lia,by lia,h1⟩
  ·rw[if_neg h1]at h;cases h
 ·rw[if_neg h0]at h
  by_cases h1:-(n:Int)<=i
  ·rw[if_pos h1]at h
   have e:(i+n).toNat=j:=bq h
   exact⟨by rw[seqIndex_neg (by lia) h1,e],by lia,h1,by lia⟩
  ·rw[if_neg h1]at h;cases h
theorem JN{α:Type}{xs:List α}{i:Int}{v:α}(h:Nf xs i=aa v):∃j,seqIndex? i xs.length=aa j/\xs[j]?=aa v/\j<xs.length/\-(xs.length:Int)<=i/\i<xs.length:=by
 unfold Nf at h
 cases e:Rm xs.length i with
 |none=>rw[e]at h;cases h
 |some j=>
  rw[e]at h
  obtain⟨h1,h2,h3,h4⟩:=PZ e
  exact⟨j,h1,h,h2,h3,h4⟩
theorem gT{α:Type}{xs:List α}{j:Nat}{v:α}(h:xs[j]?=aa v):Nf xs (j:Int)=aa v:=by
 have hj:j<xs.length:=(aD.mp h).1
 have e:Rm xs.length (j:Int)=aa j:=by
  unfold Rm
  rw[if_pos (by ac_rfl),if_pos (by lia)];simp
 unfold Nf;rw[e];exact h
theorem Ng{α:Type}(xs:List α)(v:α):Nf (xs++[v]) (-1)=aa v:=by
 have hl:(xs++[v]).length=xs.length+1:=by simp
 have e:Rm (xs++[v]).length (-1)=aa xs.length:=by
  unfold Rm
  rw[hl,if_neg (by decide),if_pos (by lia)]
  congr 1
  lia
 unfold Nf
 rw[e]
 show(xs++[v])[xs.length]?=aa v
 simp
def Pp(b:Expr):Prop:=∀o i,subscripted b false o i=operate [o,i] (getItem o i)
def U2(X:Cx)(r:R2):Prop:=
 ∀(value slice:Expr)(pins:List (Addr×Obj))(s:Shared)(σ:St)(H:Hp)(x y:V)(v u:Value)(Q:VK),Inv X pins σ H s->RelV x v->RelV y u->r x y H Q->
  subscripted slice false v u=operate [v,u] (getItem v u)->wpAny (model X.prog X.w) X.A (subscriptTail value slice v u) (EP X pins σ Q) X.xe s
def U4(X:Cx)(id:String)(r:V->List V->Hp->VK->Prop):Prop:=
 ∀(pins:List (Addr×Obj))(s:Shared)(σ:St)(H:Hp)(x:V)(xs:List V)(v:Value)(us:List Value)(Q:VK),Inv X pins σ H s->RelV x v->Vals xs us->r x xs H Q->
  wpAny (model X.prog X.w) X.A (call (.builtin id) (v::us)) (EP X pins σ Q) X.xe s
section
variable{X:Cx}{a b:Expr}{ta tb:TE}{pos:Pos}
theorem jN{r:R2}(hr:U2 X r)(ha:PE X a ta)(hb:PE X b tb)(hs:Pp b):PE X (.Subscript a b pos) (S7 r ta tb):=by
 intro pins s σ H Q I h
 exact Subscript_ (RJ ha hb I h λv u s2 x y H2 I2 rx ry q=>hr a b pins s2 σ H2 x y v u Q I2 rx ry q (hs _ _))
def VA(K:af):R2:=λx y H Q=>ex4 Q λp xs i v Q=>x=.ref p/\y=.int i/\cJ K H p xs/\Nf xs i=aa v/\Q v H
def VB(K:af):R2:=λx y H Q=>ex4 Q λp xs i v Q=>x=.ref p/\y=.int i/\vb K H p xs/\Nf xs i=aa v/\Q v H
theorem ij:U2 X (VA X.K):=by
 intro value slice pins s σ H x y v u Q I rx ry h hs
 obtain⟨p,xs,i,z,rfl,rfl,hq,he,q⟩:=h
 cases rx
 obtain⟨t,rfl⟩:=ry
 obtain⟨its,r,pl,hz⟩:=I.list hq
 obtain⟨j,h1,h2,h3,h4,h5⟩:=JN he
 obtain⟨w,ew,rw'⟩:=r.get h2
 have hl:=r.length
 have hn:=Er
 have fin:EP X pins σ Q w s:=⟨z,H,I,rw',q⟩
 by_cases h0:0<=i
 ·have hj:i.toNat=j:=by
   rw[seqIndex_of h0 h5]at h1
   exact bq h1
  exact item_listR pl.isList h0 (by lia) (by rw[hj];simpa using ew) fin hs
 ·have hj:(i+(its.toArray.size:Int)).toNat=j:=by
   rw[seqIndex_neg (by lia) h4]at h1
   rw[aO,<-hl]
   exact bq h1
  exact subscriptTail_builtinR (x:=w) pl.isList.typeIs slot_list_getitem.lookup
   (wpAny_getItem_list_neg (Q:=λr s'=>r=w/\EP X pins σ Q r s') pl.isList (by lia) (by rw[aO]<;>lia) (by lia) (by rw[hj];simpa using ew) ⟨rfl,fin⟩) hs
theorem xU:U2 X (VB X.K):=by
 intro value slice pins s σ H x y v u Q I rx ry h hs
 obtain⟨p,xs,i,z,rfl,rfl,hq,he,q⟩:=h
 cases rx
 obtain⟨t,rfl⟩:=ry
 obtain⟨its,r,pl,hz⟩:=I.tuple hq
 obtain⟨j,h1,h2,h3,h4,h5⟩:=JN he
 obtain⟨w,ew,rw'⟩:=r.get h2
 have hl:=r.length
 have hn:=Er
 have fin:EP X pins σ Q w s:=⟨z,H,I,rw',q⟩
 exact subscriptTail_builtinR (x:=w) pl.typeIs slot_tuple_getitem.lookup
  (getItem_tuple (j:=j) (Q:=λr s'=>r=w/\EP X pins σ Q r s') pl (by lia) (by lia) (by rw[aO,<-hl];exact h1) (by simpa using ew) ⟨rfl,fin⟩) hs
theorem E8(lo hi:Option Int)(n:Nat):(sliceBounds lo hi none n).1=((HT.Bc n 0 lo:Nat):Int)/\(sliceBounds lo hi none n).2.1=((HT.Bc n n hi:Nat):Int)/\(sliceBounds lo hi none n).2.2=1:=by
 refine⟨?_,?_,rfl⟩
 ·cases lo with
  |none=>simp[sliceBounds,HT.Bc]
  |some i=>
   simp only[sliceBounds,HT.Bc,MS,show(1:Int)>0 by decide,if_true]
   by_cases h:i<0
   ·simp only[h,if_true]<;>lia
   ·simp only[h,if_false]<;>lia
 ·cases hi with
  |none=>simp[sliceBounds,HT.Bc]
  |some i=>
   simp only[sliceBounds,HT.Bc,MS,show(1:Int)>0 by decide,if_true]
   by_cases h:i<0
   ·simp only[h,if_true]<;>lia
   ·simp only[h,if_false]<;>lia
theorem Cr(its:List Value)(lo hi:Option Int):slicePick its.toArray lo hi none=((its.drop (HT.Bc its.length 0 lo)).take (HT.Bc its.length its.length hi-HT.Bc its.length 0 lo)).toArray:=by
 obtain⟨h1,h2,h3⟩:=E8 lo hi its.toArray.size
 unfold slicePick
 rw[h1,h2,h3]
 simp only[sliceRange_one,pick_run,aO]<;>rfl
def VE(K:af):V->Option Int->Option Int->Hp->VK->Prop:=λx lo hi H Q=>ex2 Q λa xs Q=>x=.ref a/\cJ K H a xs/\∀p,H p=none->Q (.ref p) (upd H p (.lst (B6 xs lo hi)))
theorem E7:V0 X (VE X.K):=by
 intro pins s σ H x v vl vu lo hi sl Q I rx hs pl pu h
 obtain⟨a,xs,rfl,hx,q⟩:=h
 cases rx
 obtain⟨its,r,ht,hz⟩:=I.list hx
 have hlen:=r.length
 refine⟨"list",_,slot_list_getitem.lookup,ht.isList.typeIs,?_⟩
 refine wpAny_getItem_list_slice ht.isList hs pl pu .none (by simp) ?_ (by rw[aO]<;>lia)
 rw[Cr,<-hlen]
 refine⟨.ref s.heap.objs.size,_,I.laid (t':=s.toks) (o:=.lst (B6 xs lo hi)) (λb ob q=>aw _ q) (ah _) ?_,rfl,q _ (I.dO.fresh (ah _))⟩
 exact⟨aX (FR xs lo hi) hz,_,0,(r.drop (HT.Bc xs.length 0 lo)).take (HT.Bc xs.length xs.length hi-HT.Bc xs.length 0 lo),bh _ rfl⟩
def yP:V->Bool
 |.iD=>true
 |.bl _=>true
 |.int _=>true
 |.str _=>true
 |_=>false
def Rk:V->V->Bool
 |.iD,.iD=>true
 |.bl a,.bl b=>a==b
 |.bl a,.int b=>(if a then 1 else 0)==b
 |.int a,.bl b=>a==(if b then 1 else 0)
 |.int a,.int b=>a==b
 |.str a,.str b=>a==b
 |_,_=>false
theorem RQ{A:Around}{s:Shared}{y x:V}{u v:Value}(ry:RelV y u)(rx:RelV x v)(fy:yP y=true)(fx:yP x=true):Lf A s u v (Rk y x):=by
 cases y with
 |iD=>
  cases ry
  cases x with
  |iD=>cases rx;exact SeqAt.EqAt.same _
  |bl b=>cases rx;exact SeqAt.EqAt.none_bool b
  |int b=>obtain⟨t,rfl⟩:=rx;exact SeqAt.EqAt.none_int b t
  |str b=>obtain⟨t,rfl⟩:=rx;exact SeqAt.EqAt.none_str b t
  |_=>exact absurd (show false=true from fx) bc
 |bl a=>
  cases ry
  cases x with
  |iD=>cases rx;exact SeqAt.EqAt.bool_none a
  |bl b=>cases rx;exact SeqAt.EqAt.bool_bool a b
  |int b=>obtain⟨t,rfl⟩:=rx;exact SeqAt.EqAt.bool_int a b t
  |str b=>obtain⟨t,rfl⟩:=rx;exact SeqAt.EqAt.bool_str a b t
  |_=>exact absurd (show false=true from fx) bc
 |int a=>
  obtain⟨t',rfl⟩:=ry
  cases x with
  |iD=>cases rx;exact SeqAt.EqAt.int_none a t'
  |bl b=>cases rx;exact SeqAt.EqAt.int_bool a t' b
  |int b=>obtain⟨t,rfl⟩:=rx;exact SeqAt.EqAt.int_int a t' b t
  |str b=>obtain⟨t,rfl⟩:=rx;exact Fw a t' b t
  |_=>exact absurd (show false=true from fx) bc
 |str a=>
  obtain⟨t',rfl⟩:=ry
  cases x with
  |iD=>cases rx;exact SeqAt.EqAt.str_none a t'
  |bl b=>cases rx;exact SeqAt.EqAt.str_bool a t' b
  |int b=>obtain⟨t,rfl⟩:=rx;exact Fx a t' b t
  |str b=>obtain⟨t,rfl⟩:=rx;exact SeqAt.EqAt.str_str a t' b t
  |_=>exact absurd (show false=true from fx) bc
 |_=>exact absurd (show false=true from fy) bc
def PJ(x:V)(u:Value):Bool:=match u with
 |.none=>Rk .iD x
 |.bool b=>Rk (.bl b) x
 |.int i _=>Rk (.int i) x
 |.str z _=>Rk (.str z) x
 |_=>false
theorem NI{x y:V}{u:Value}(r:RelV y u)(f:yP y=true):PJ x u=Rk y x:=by
 cases y with
 |iD=>cases r;rfl
 |bl b=>cases r;rfl
 |int i=>obtain⟨t,rfl⟩:=r;rfl
 |str z=>obtain⟨t,rfl⟩:=r;rfl
 |_=>exact absurd (show false=true from f) bc
theorem D5{x:V}:∀{xs:List V}{us:List Value},Vals xs us->xs.all yP=true->us.any (PJ x)=xs.any λy=>Rk y x
 |_,_,.nil,_=>rfl
 |y::xs,u::us,.cons r t,f=>by
  rw[ji,ak]at f
  rw[d6,d6,NI r f.1,D5 t f.2]
theorem AJ{A:Around}{s:Shared}{x:V}{v:Value}(rx:RelV x v)(fx:yP x=true):∀{xs:List V}{us:List Value},Vals xs us->xs.all yP=true->∀u∈us,Lf A s u v (PJ x u)
 |_,_,.nil,_=>λu hu=>by cases hu
 |y::xs,u::us,.cons r t,f=>λu' hu=>by
  rw[ji,ak]at f
  rcases aG.mp hu with rfl|hu
  ·rw[NI r f.1];exact RQ r rx f.1 fx
  ·exact AJ rx fx t f.2 u' hu
def Vh(x:V)(xs:List V):Bool:=xs.any λy=>Rk y x
def Wn(K:af)(neg:Bool):R2:=λx y H Q=>ex2 Q λp xs Q=>y=.ref p/\(cJ K H p xs\/vb K H p xs)/\yP x=true/\xs.all yP=true/\Q (.bl (if neg then !Vh x xs else Vh x xs)) H
theorem Mn:vA X (compareOp .In) (Wn X.K false):=by
 intro pins s σ H x y v u Q I rx ry h
 obtain⟨p,xs,rfl,hq,fx,fs,q⟩:=h
 cases ry
 rcases hq with hq|hq
 ·obtain⟨its,r,pl,hz⟩:=I.list hq
  refine Pc (PJ x) pl.isList (λw hw=>AJ rx fx r fs w (by simpa using hw)) ⟨.bl _,H,I,rfl,?_⟩
  rw[show its.toArray.any (PJ x)=its.any (PJ x) by simp,D5 r fs]
  exact q
 ·obtain⟨its,r,pl,hz⟩:=I.tuple hq
  refine SeqAt.in_tupleAt (PJ x) pl (λw hw=>AJ rx fx r fs w (by simpa using hw)) ⟨.bl _,H,I,rfl,?_⟩
  rw[show its.toArray.any (PJ x)=its.any (PJ x) by simp,D5 r fs]
  exact q
theorem cP:nM X (.builtin "len") (λxs H Q=>ex2 Q λp ys Q=>xs=[.ref p]/\(cJ X.K H p ys\/vb X.K H p ys)/\Q (.int ys.length) H):=by
 intro pins s σ H xs us Q I r h
 obtain⟨p,ys,rfl,hq,q⟩:=h
 obtain⟨u,rfl,rx⟩:=vals1 r
 cases rx
 have hn:=Er
 rcases hq with hq|hq
 ·obtain⟨its,r',pl,hz⟩:=I.list hq
  have hlen:=r'.length
  exact Calls.call_len_list pl.isList (by simp only[aO]<;>lia) ⟨.int ys.length,H,I.tok _,⟨s.toks+1,by rw[aO,hlen]⟩,q⟩
 ·obtain⟨its,r',pl,hz⟩:=I.tuple hq
  have hlen:=r'.length
  exact len_tuple pl (by simp only[aO]<;>lia) ⟨.int ys.length,H,I.tok _,⟨s.toks+1,by rw[aO,hlen]⟩,q⟩
theorem D7:nM X (.builtin "len") (λxs H Q=>ex1 Q λz Q=>xs=[.str z]/\z.length<=sizeLine/\Q (.int z.length) H):=by
 intro pins s σ H xs us Q I r h
 obtain⟨z,rfl,hz,q⟩:=h
 obtain⟨u,rfl,t,rfl⟩:=vals1 r
 have hn:=Er
 exact len_str (by lia) ⟨.int z.length,H,I.tok _,⟨_,rfl⟩,q⟩
theorem wC:nM X (.type "list") (λxs H Q=>ex2 Q λp ys Q=>xs=[.ref p]/\(cJ X.K H p ys\/vb X.K H p ys)/\∀l,H l=none->Q (.ref l) (upd H l (.lst ys))):=by
 intro pins s σ H xs us Q I r h
 obtain⟨p,ys,rfl,hq,q⟩:=h
 obtain⟨u,rfl,rx⟩:=vals1 r
 cases rx
 have fin:∀(its:List Value),Vals ys its->ys.length<=sizeLine->∀(h':Heap)(c':Nat),(∀b o',s.heap.get? b=aa o'->h'.get? b=aa o')->
   h'.get? s.heap.objs.size=aa {cls:=.type "list",dict:=none,data:=.seq its.toArray c',slots:=#[]}->EP X pins σ Q (.ref s.heap.objs.size) {s with heap:=h'}:=λits r' hz h' c' kp e=>
  ⟨.ref s.heap.objs.size,_,I.laid (t':=s.toks) kp (ah _) (show gb X.prog X.w _ h' _ (.lst ys)from⟨hz,its,c',r',e⟩),rfl,q _ (I.dO.fresh (ah _))⟩
 rcases hq with hq|hq
 ·obtain⟨its,r',pl,hz⟩:=I.list hq
  have hlen:=r'.length
  obtain⟨o,ho,hc,n,hd⟩:=pl.isList
  exact call_list_seq p (.inl rfl) ho hc hd (λh' c' kp e=>fin its r' hz h' c' kp e) (by simp only[aO]<;>lia)
 ·obtain⟨its,r',pl,hz⟩:=I.tuple hq
  have hlen:=r'.length
  obtain⟨o,ho,hc,n,hd⟩:=pl
  exact call_list_seq p (.inr rfl) ho hc hd (λh' c' kp e=>fin its r' hz h' c' kp e) (by simp only[aO]<;>lia)
def We(K:af)(T:String)(x:V)(H:Hp):Prop:=match x with
 |.str _=>T="str"
 |.int _=>T="int"
 |.ref p=>(T="list"/\∃xs,cJ K H p xs)\/(T="tuple"/\∃o,K.lookup p=aa o/\o.cls=.type "tuple"/\o.dict=none)\/
   (T="dict"/\((∃kvs,H p=aa (.dK kvs))\/∃kvs,H p=aa (.dT kvs)))\/(T="set"/\∃S n,H p=aa (.set S n))
 |_=>False
theorem Ta{pins:List (Addr×Obj)}{σ:St}{H:Hp}{s:Shared}{T:String}{x:V}{v:Value}(I:Inv X pins σ H s)(r:RelV x v)(ty:We X.K T x H):
  s.TypeIs v T/\∀a,v=.ref a->∃ob,s.heap.get? a=aa ob/\ob.dict=none:=by
 cases x with
 |str z=>
  obtain⟨t,rfl⟩:=r
  cases(show T="str"from ty)
  exact⟨typeIs_str s z t,λ_ e=>nomatch e⟩
 |int i=>
  obtain⟨t,rfl⟩:=r
  cases(show T="int"from ty)
  exact⟨typeIs_int s i t,λ_ e=>nomatch e⟩
 |ref p=>
  cases r
  rcases ty with ⟨rfl,xs,hq⟩|⟨rfl,o,hk,hc,hd⟩|⟨rfl,hk⟩|⟨rfl,S,n,hk⟩
  ·obtain⟨its,_,pl,_⟩:=I.list hq
   refine⟨pl.isList.typeIs,λa e=>?_⟩
   cases e
   obtain⟨o,n,e,c,hd,_⟩:=pl
   exact⟨o,e,hd⟩
  ·refine⟨⟨o,I.vh p o hk,hc⟩,λa e=>?_⟩
   cases e
   exact⟨o,I.vh _ o hk,hd⟩
  ·have z:∃o,s.heap.get? p=aa o/\o.ExactDict:=by
    rcases hk with ⟨kvs,hk⟩|⟨kvs,hk⟩
    ·obtain⟨_,_,_,_,o,_,_,e,ex,_⟩:=I.dO p _ hk
     exact⟨o,e,ex⟩
    ·obtain⟨_,_,_,_,o,_,_,e,ex,_⟩:=I.dO p _ hk
     exact⟨o,e,ex⟩
   obtain⟨o,e,ex⟩:=z
   refine⟨⟨o,e,ex.1⟩,λa e2=>?_⟩
   cases e2
   exact⟨o,e,ex.2.1⟩
  ·obtain⟨o,_,_,_,e,ex,_⟩:=I.dO p _ hk
   refine⟨⟨o,e,ex.1⟩,λa e2=>?_⟩
   cases e2
   exact⟨o,e,ex.2.1⟩
 |_=>exact cy ty
def VQ(K:af)(T:String)(r:V->List V->Hp->VK->Prop)(to:TE)(t:TA):TE:=λσ H Q=>to σ H (kQ Q λx H1 Q=>We K T x H1/\t σ H1 (kQ Q λxs H2 Q=>r x xs H2 Q))
variable{o e:Expr}{es:List Expr}{to:TE}{t:TA}{name:Str}{apos cpos:Pos}{T id:String}{r:V->List V->Hp->VK->Prop}
theorem vm(pa:PlainAttrs T)(slot:Slot T name id)(hty:typeOf (.builtin id)=pure (.type "method_descriptor"))(hm:U4 X id r)(ho:PE X o to)(ha:PA X (e::es) t)
  (hbase:attributeBase o name X.env (eval o X.env)=eval o X.env:=by rfl)
  (hfew:((backTo cpos (starEach (e::es) X.env)).all (λx=>!x.1)&&(backToKw cpos (keywordEach [] X.env)).all (λx=>x.1.isSome)
    &&decide ((e::es).length+([]:List Keyword).length+(if([]:List Keyword).isEmpty then 0 else 1)<30))=true:=by rfl)
  (hline:(apos.endLine==cpos.line)=true:=by rfl)(hs:starEach (e::es) X.env=(false,eval e X.env)::starEach es X.env:=by rfl)(hplain:(backTo cpos (starEach es X.env)).any (·.1)=false:=by rfl):
  PE X (.Call (.Attribute o name apos) (e::es) [] cpos) (VQ X.K T r to t):=by
 intro pins s σ H Q I h
 refine wpAny_Call_method_late hbase hfew hline rfl (fH (ho pins s σ H _ I h) λv s1 zy=>?_)
 obtain⟨x,H1,I1,r1,ty,q1⟩:=zy
 obtain⟨h1,h2⟩:=Ta I1 r1 ty
 refine⟨T,id,pa,slot,hty,h1,h2,?_⟩
 have hA:=ha cpos pins s1 σ H1 _ I1 q1
 rw[hs]at hA⊢
 refine FE (by show(false||(backTo cpos (starEach es X.env)).any (·.1))=false;rw[hplain]<;>rfl) (HK ?_)
 exact fH hA λus s2 zy=>by obtain⟨vs,H2,I2,r2,q2⟩:=zy;exact hm pins s2 σ H2 x vs v us Q I2 r1 r2 q2
end
end L2
namespace L2
open PySem PySem.Spec PyProof.Rows
def U3(X:Cx)(id:String)(r:V->List V->Hp->VK->Prop):Prop:=
 ∀(pins:List (Addr×Obj))(s:Shared)(σ:St)(H:Hp)(x:V)(xs:List V)(v:Value)(us:List Value)(Q:VK),Inv X pins σ H s->RelV x v->Vals xs us->r x xs H Q->
  wpAny (model X.prog X.w) X.A (call (.builtin id) (v::us)) (EP X pins σ Q) X.xe s
theorem Vals.one:∀{x:V}{us:List Value},Vals [x] us->∃u,us=[u]/\RelV x u
 |_,_,.cons r .nil=>⟨_,rfl,r⟩
section
variable{X:Cx}{pins:List (Addr×Obj)}{σ:St}{H:Hp}{s:Shared}{l b:Addr}{xs ys zs:List V}
theorem Inv.L5{its its':List Value}{n:Nat}{f:Array Value->Array Value}{t':Nat}(I:Inv X pins σ H s)(hH:H l=aa (.lst xs))
  (e:s.heap.get? l=aa {cls:=.type "list",data:=.seq its.toArray n})(hf:f its.toArray=its'.toArray)(hv:Vals ys its')(hz:ys.length<=sizeLine):
  Inv X pins σ (upd H l (.lst ys)) {s with heap:=s.heap.update l (M7 f),toks:=t'}:=by
 have q:=PySem.IsL.update e f
 rw[hf]at q
 refine I.write (x:=l) (e:=l) (by rw[hH];exact trivial) (.inl rfl) (λb' u hb hu=>(dS s.heap (M7 f) (ra hb)).trans hu) ⟨_,q⟩ ?_
 exact⟨hz,its',_,hv,q⟩
theorem Inv.T6{its:List Value}{t':Nat}(I:Inv X pins σ H s)(hv:Vals ys its)(hz:ys.length<=sizeLine):
  Inv X pins σ (upd H s.heap.objs.size (.lst ys)) {s with heap:=s.heap.push {cls:=.type "list",data:=.seq its.toArray},toks:=t'}:=
 I.laid (λ_ _ q=>aw _ q) (ah _) ⟨hz,its,0,hv,bh _ rfl⟩
theorem Inv.fresh(I:Inv X pins σ H s):H s.heap.objs.size=none:=I.dO.fresh (ah _)
theorem Inv.L6(I:Inv X pins σ H s)(hH:H l=aa (.lst xs)):xs.length<=sizeLine/\∃(its:List Value)(n:Nat),Vals xs its/\xs.length=its.length/\s.heap.get? l=aa {cls:=.type "list",data:=.seq its.toArray n}:=by
 obtain⟨z,its,n,r,e⟩:=I.dO l _ hH
 exact⟨z,its,n,r,r.length,e⟩
theorem GA{n:Nat}(h:n<=sizeLine):gH n=false:=by
 unfold gH
 exact decide_eq_false (by ac_rfl)
end
section
variable{X:Cx}
def EK:V->List V->Hp->VK->Prop:=λx vs H Q=>ex3 Q λl xs y Q=>x=.ref l/\vs=[y]/\H l=aa (.lst xs)/\xs.length<sizeLine/\Q .iD (upd H l (.lst (xs++[y])))
theorem qK:U3 X "list.append" EK:=by
 intro pins s σ H x vs v us Q I rx rv h
 obtain⟨l,xs,y,rfl,rfl,hH,hz,q⟩:=h
 cases rx
 obtain⟨u,rfl,ru⟩:=rv.one
 obtain⟨z,its,n,r,hl,e⟩:=I.L6 hH
 refine call_meets fL ⟨_,e,rfl⟩ F.entry_list_append (F.args_list_append_2 _ _) (PySem.list_append l its.toArray n u (by rw[aO];lia)) ⟨e,?_⟩
 refine⟨.iD,_,I.L5 (its':=its++[u]) hH e (by simp) (r.append (.cons ru .nil)) ?_,rfl,q⟩
 rw[ai,List.length_singleton]
 assumption
def QA:V->List V->Hp->VK->Prop:=λx vs H Q=>ex4 Q λl b xs zs Q=>x=.ref l/\vs=[.ref b]/\H l=aa (.lst xs)/\H b=aa (.lst zs)/\xs.length+zs.length<=sizeLine/\Q .iD (upd H l (.lst (xs++zs)))
theorem uF:U3 X "list.extend" QA:=by
 intro pins s σ H x vs v us Q I rx rv h
 obtain⟨l,b,xs,zs,rfl,rfl,hH,hB,hz,q⟩:=h
 cases rx
 obtain⟨u,rfl,ru⟩:=rv.one
 cases ru
 obtain⟨z,its,n,r,hl,e⟩:=I.L6 hH
 obtain⟨z2,its2,n2,r2,hl2,e2⟩:=I.L6 hB
 have hsz:its.toArray.size+its2.toArray.size<=sizeLine:=by rw[aO,aO];lia
 have hlong:¬(!its.toArray.isEmpty&&gH (its.toArray.size+its2.toArray.size))=true:=by
  rw[GA hsz,u1]
  exact bc
 refine call_meets eM ⟨_,e,rfl⟩ Pb (M6 _ _)
  (AutoSeq1.list_extend_list_list_0 l its.toArray n b its2.toArray n2 hlong (by rw[aO];lia) (by ac_rfl)) ⟨e,e2,?_⟩
 refine⟨.iD,_,I.L5 (its':=its++its2) hH e (by simp) (r.append r2) ?_,rfl,q⟩
 rw[ai]
 assumption
def Vz:R2:=λx y H Q=>ex4 Q λl b xs zs Q=>x=.ref l/\y=.ref b/\H l=aa (.lst xs)/\H b=aa (.lst zs)/\xs.length+zs.length<=sizeLine/\∀p,H p=none->Q (.ref p) (upd H p (.lst (xs++zs)))
theorem AZ:vA X (binaryOp .Add) Vz:=by
 intro pins s σ H x y v u Q I rx ry h
 obtain⟨l,b,xs,zs,rfl,rfl,hH,hB,hz,q⟩:=h
 cases rx
 cases ry
 obtain⟨z,its,n,r,hl,e⟩:=I.L6 hH
 obtain⟨z2,its2,n2,r2,hl2,e2⟩:=I.L6 hB
 refine PySem.P.add_list e e2 ?_ (by rw[aO,aO];lia)
 have ea:its.toArray++its2.toArray=(its++its2).toArray:=by simp
 rw[ea]
 exact⟨.ref _,_,I.T6 (t':=s.toks) (r.append r2) (by rw[ai];assumption),rfl,q _ I.fresh⟩
end
section
variable{prog:Program}{w:World}{A:Around}{E:Value->Shared->Prop}{s:Shared}
set_option maxRecDepth 100000 in
end
section
variable{X:Cx}
end
end L2
namespace L2
open PySem PySem.Spec PyProof.Rows
theorem Vals.ints:∀{ns:List Int}{us:List Value},Vals (ns.map V.int) us->IntsAre us ns
 |[],us,h=>by
  rw[yB]at h
  cases h
  exact IntsAre.nil
 |n::ns,us,h=>by
  rw[aU]at h
  cases h with
  |cons r t=>
   obtain⟨k,rfl⟩:=r
   exact IntsAre.cons n k (Vals.ints t)
theorem Vals.Vc:∀{bs:List Bool}{us:List Value},Vals (bs.map V.bl) us->us=bs.map Value.bool
 |[],us,h=>by
  rw[yB]at h
  cases h
  rfl
 |b::bs,us,h=>by
  rw[aU]at h
  cases h with
  |cons r t=>
   cases r
   rw[Vals.Vc t,aU]
theorem Vals.IV{a:Addr}{us:List Value}(r:Vals [V.ref a] us):us=[Value.ref a]:=by
 cases r with
 |cons r t=>
  cases t
  cases r
  rfl
theorem Vals.Vi{i j:Int}{us:List Value}(r:Vals [V.int i,V.int j] us):∃t u,us=[Value.int i t,Value.int j u]:=by
 cases r with
 |cons r t=>
  cases t with
  |cons r2 t2=>
   cases t2
   obtain⟨t,rfl⟩:=r
   obtain⟨u,rfl⟩:=r2
   exact⟨t,u,rfl⟩
section
variable{prog:Program}{w:World}{A:Around}{E:Value->Shared->Prop}{s:Shared}{l:Addr}{its:List Value}{ns:List Int}{Q:Value->Shared->Prop}
theorem Q1(hh:A.handled=none)(hl:s.heap.IsList l its.toArray)(hi:IntsAre its ns)
  (h:∀h' tk t',(∀b o,s.heap.get? b=aa o->h'.get? b=aa o)->Q (.int ns.sum t') {s with heap:=h',toks:=tk}):wpAny (model prog w) A (call (.builtin "sum") [.ref l]) Q E s:=by
 obtain⟨xs,e⟩:=hi.allInts.items
 have hn:numsOf (intItems xs).toList=ns:=by rw[<-e];exact hi.numsOf
 rw[nums_intItems]at hn
 rw[e]at hl
 refine PySem.sum_intListG hh hl λh' tk t' hk=>?_
 have:=h h' tk t' hk
 rw[preSum_eq,List.take_of_length_le (by simp),hn];exact this
theorem P9(hh:A.handled=none)(hl:s.heap.IsList l its.toArray)(hi:IntsAre its ns)(hne:0<ns.length)
  (h:∀h' tk M t',(∀b o,s.heap.get? b=aa o->h'.get? b=aa o)->M∈ns->(∀a,a∈ns->a<=M)->Q (.int M t') {s with heap:=h',toks:=tk}):wpAny (model prog w) A (call (.builtin "max") [.ref l]) Q E s:=by
 obtain⟨xs,e⟩:=hi.allInts.items
 have hn:numsOf (intItems xs).toList=ns:=by rw[<-e];exact hi.numsOf
 rw[nums_intItems]at hn
 subst hn
 rw[e]at hl
 have hsz:0<xs.size:=by simpa using hne
 refine PySem.max_intList hh hl hsz λv h' tk hv hk=>?_
 obtain⟨t,rfl⟩:=intItems_at hv
 obtain⟨h1,h2⟩:=argBest_gt (numAt xs) (xs.size-1)
 refine h h' tk _ t hk ?_ λa ha=>?_
 ·rw[numAt_eq];exact PySem.getD_mem (by rw[ae,eY];omega)
 ·obtain⟨j,hj,rfl⟩:=mem_getD ha
  rw[ae,eY]at hj
  rw[<-numAt_eq];exact h2 j (by lia)
theorem Qb(hh:A.handled=none)(hl:s.heap.IsList l its.toArray)(hi:IntsAre its ns)(hne:0<ns.length)
  (h:∀h' tk M t',(∀b o,s.heap.get? b=aa o->h'.get? b=aa o)->M∈ns->(∀a,a∈ns->M<=a)->Q (.int M t') {s with heap:=h',toks:=tk}):wpAny (model prog w) A (call (.builtin "min") [.ref l]) Q E s:=by
 obtain⟨xs,e⟩:=hi.allInts.items
 have hn:numsOf (intItems xs).toList=ns:=by rw[<-e];exact hi.numsOf
 rw[nums_intItems]at hn
 subst hn
 rw[e]at hl
 have hsz:0<xs.size:=by simpa using hne
 refine PySem.min_intList hh hl hsz λv h' tk hv hk=>?_
 obtain⟨t,rfl⟩:=intItems_at hv
 obtain⟨h1,h2⟩:=argBest_lt (numAt xs) (xs.size-1)
 refine h h' tk _ t hk ?_ λa ha=>?_
 ·rw[numAt_eq];exact PySem.getD_mem (by rw[ae,eY];omega)
 ·obtain⟨j,hj,rfl⟩:=mem_getD ha
  rw[ae,eY]at hj
  rw[<-numAt_eq];exact h2 j (by lia)
end
section
variable{X:Cx}
def VG(K:af):List V->Hp->VK->Prop:=λvs H Q=>ex2 Q λ(a:Addr)(ns:List Int) Q=>vs=[V.ref a]/\cJ K H a (ns.map V.int)/\Q (.int ns.sum) H
def VC(K:af):List V->Hp->VK->Prop:=λvs H Q=>ex2 Q λ(a:Addr)(ns:List Int) Q=>vs=[V.ref a]/\cJ K H a (ns.map V.int)/\0<ns.length/\∀m,m∈ns->(∀y,y∈ns->y<=m)->Q (.int m) H
def VD(K:af):List V->Hp->VK->Prop:=λvs H Q=>ex2 Q λ(a:Addr)(ns:List Int) Q=>vs=[V.ref a]/\cJ K H a (ns.map V.int)/\0<ns.length/\∀m,m∈ns->(∀y,y∈ns->m<=y)->Q (.int m) H
theorem HU(hc:X.calm=true):nM X (.builtin "sum") (VG X.K):=by
 intro pins s σ H vs us Q I r h
 obtain⟨a,ns,rfl,hs,q⟩:=h
 obtain⟨its,rv,hl,_⟩:=I.list hs
 rw[Vals.IV r]
 exact Q1 (I.ok.hd hc) hl.isList rv.ints λh' tk t' hk=>⟨.int _,H,I.kept hk,⟨_,rfl⟩,q⟩
theorem RM(hc:X.calm=true):nM X (.builtin "max") (VC X.K):=by
 intro pins s σ H vs us Q I r h
 obtain⟨a,ns,rfl,hs,hne,q⟩:=h
 obtain⟨its,rv,hl,_⟩:=I.list hs
 rw[Vals.IV r]
 exact P9 (I.ok.hd hc) hl.isList rv.ints hne λh' tk m t' hk h1 h2=>⟨.int _,H,I.kept hk,⟨_,rfl⟩,q m h1 h2⟩
theorem HS(hc:X.calm=true):nM X (.builtin "min") (VD X.K):=by
 intro pins s σ H vs us Q I r h
 obtain⟨a,ns,rfl,hs,hne,q⟩:=h
 obtain⟨its,rv,hl,_⟩:=I.list hs
 rw[Vals.IV r]
 exact Qb (I.ok.hd hc) hl.isList rv.ints hne λh' tk m t' hk h1 h2=>⟨.int _,H,I.kept hk,⟨_,rfl⟩,q m h1 h2⟩
end
section
variable{X:Cx}
end
section
variable{X:Cx}
end
theorem Gm{prog:Program}{w:World}{A:Around}{E:Value->Shared->Prop}{s:Shared}{l:Addr}{items:Array Value}{Q:Value->Shared->Prop}(hl:s.heap.IsList l items)
  (h:∀s₂:Shared,s₂={s with heap:=s.heap.push {cls:=.type "list_iterator",data:=.fields #[.ref l,.int 0 0]} }->
    (s₂.heap.IsListIter s.heap.objs.size l 0/\s₂.heap.IsList l items)->l≠s.heap.objs.size->Q (.ref s.heap.objs.size) s₂):wpAny (model prog w) A (pyIter (.ref l)) Q E s:=by
 have hlt:l<s.heap.objs.size:=by obtain⟨_,e,_⟩:=hl;exact aQ e
 exact wpAny_pyIter_list hl (h _ rfl ⟨⟨_,bh _ rfl,rfl,rfl⟩,hl.push _⟩ (bJ hlt))
theorem zh{prog:Program}{w:World}{A:Around}{bs:List Bool}{its:List Value}(e:its=bs.map Value.bool):
  TruthOf prog w A (λi v=>its.toArray[i]?=aa v) (λi=>bs.getD i false):=λi v s Q E hv hq=>by
 have hv':its[i]?=aa v:=by simpa using hv
 rw[e,aS]at hv'
 obtain⟨b,hb,rfl⟩:=lN.mp hv'
 have hg:bs.getD i false=b:=by rw[List.getD_eq_getElem?_getD,hb]<;>rfl
 have hq':Q (bs.getD i false) s:=hq
 rw[hg]at hq'
 exact wpAny_truthy_bool hq'
theorem any_range:∀bs:List Bool,(bA bs.length).any (λi=>bs.getD i false)=bs.any id
 |[]=>rfl
 |b::bs=>by
  rw[aF,Hs,d6,List.any_map,d6,<-any_range bs]
  all_goals rfl
theorem all_range:∀bs:List Bool,(bA bs.length).all (λi=>bs.getD i false)=bs.all id
 |[]=>rfl
 |b::bs=>by
  rw[aF,Hs,ji,Hq,ji,<-all_range bs]
  all_goals rfl
section
variable{X:Cx}
def Vy(K:af):List V->Hp->VK->Prop:=λvs H Q=>ex2 Q λ(a:Addr)(bs:List Bool) Q=>vs=[V.ref a]/\cJ K H a (bs.map V.bl)/\Q (.bl (bs.any id)) H
def Vx(K:af):List V->Hp->VK->Prop:=λvs H Q=>ex2 Q λ(a:Addr)(bs:List Bool) Q=>vs=[V.ref a]/\cJ K H a (bs.map V.bl)/\Q (.bl (bs.all id)) H
theorem RL(hc:X.calm=true):nM X (.builtin "any") (Vy X.K):=by
 intro pins s σ H vs us Q I r h
 obtain⟨a,bs,rfl,hs,q⟩:=h
 obtain⟨its,rv,hl,_⟩:=I.list hs
 rw[Vals.IV r]
 have hb:=rv.Vc
 refine call_any_walk (Gm hl.isList λs₂ e2 st hne=>?_)
 subst e2
 refine⟨_,_,_,_,_,_,_,rfl,wq (A:=X.A.in1) (I.ok.hd hc) _ a hne its.toArray,st,zh hb,λh' tk hk=>?_⟩
 refine⟨.bl _,H,I.kept λb o eo=>hk b o (λhmem=>?_) (aw _ eo),?_,q⟩
 ·rcases aG.mp hmem with e1|hmem
  ·exact absurd (e1▸aQ eo) (di _)
  ·cases hmem
 ·show Value.bool _=Value.bool _
  rw[<-any_range,hb,aO,ae]
theorem HR(hc:X.calm=true):nM X (.builtin "all") (Vx X.K):=by
 intro pins s σ H vs us Q I r h
 obtain⟨a,bs,rfl,hs,q⟩:=h
 obtain⟨its,rv,hl,_⟩:=I.list hs
 rw[Vals.IV r]
 have hb:=rv.Vc
 refine call_all_walk (Gm hl.isList λs₂ e2 st hne=>?_)
 subst e2
 refine⟨_,_,_,_,_,_,_,rfl,wq (A:=X.A.in1) (I.ok.hd hc) _ a hne its.toArray,st,zh hb,λh' tk hk=>?_⟩
 refine⟨.bl _,H,I.kept λb o eo=>hk b o (λhmem=>?_) (aw _ eo),?_,q⟩
 ·rcases aG.mp hmem with e1|hmem
  ·exact absurd (e1▸aQ eo) (di _)
  ·cases hmem
 ·show Value.bool _=Value.bool _
  rw[<-all_range,hb,aO,ae]
end
mutual
inductive Dp(K:af)(H:Hp):V->PyData->Prop
 |iD:Dp K H .iD .none
 |bl (b:Bool):Dp K H (.bl b) (.bool b)
 |int (i:Int):Dp K H (.int i) (.int i)
 |str (x:Str):Dp K H (.str x) (.str x)
 |lst {a:Addr} {xs:List V} {ds:List PyData}:cJ K H a xs->Ab K H xs ds->Dp K H (.ref a) (.list ds)
 |tup {a:Addr} {xs:List V} {ds:List PyData}:vb K H a xs->Ab K H xs ds->Dp K H (.ref a) (.tuple ds)
inductive Ab(K:af)(H:Hp):List V->List PyData->Prop
 |nil:Ab K H [] []
 |cons {v:V} {vs:List V} {d:PyData} {ds:List PyData}:Dp K H v d->Ab K H vs ds->Ab K H (v::vs) (d::ds)
end
section
variable{X:Cx}{pins:List (Addr×Obj)}{σ:St}{H:Hp}{s:Shared}
mutual
theorem Dp.reads(I:Inv X pins σ H s):∀(d:PyData)(v:V)(u:Value),Dp X.K H v d->RelV v u->∃as,Reads s.heap u d as
 |.none,_,_,h,r=>by
  cases h
  cases r
  exact⟨_,Reads.none⟩
 |.bool b,_,_,h,r=>by
  cases h
  cases r
  exact⟨_,Reads.bool b⟩
 |.int i,_,_,h,r=>by
  cases h
  obtain⟨t,rfl⟩:=r
  exact⟨_,Reads.int i t⟩
 |.str x,_,_,h,r=>by
  cases h
  obtain⟨t,rfl⟩:=r
  exact⟨_,Reads.str x t⟩
 |.list ds,_,_,h,r=>by
  cases h with
  |lst hs ha=>
   cases r
   obtain⟨its,rv,⟨o,n,ho,hc,_,hd⟩,_⟩:=I.list hs
   obtain⟨as,hr⟩:=Dp.readsAll I ds _ its ha rv
   exact⟨_,Reads.list ho hc hd hr⟩
 |.tuple ds,_,_,h,r=>by
  cases h with
  |tup hs ha=>
   cases r
   obtain⟨its,rv,⟨o,ho,hc,n,hd⟩,_⟩:=I.tuple hs
   obtain⟨as,hr⟩:=Dp.readsAll I ds _ its ha rv
   exact⟨_,Reads.tuple ho hc hd hr⟩
 |.dict _,_,_,h,_=>by cases h
theorem Dp.readsAll(I:Inv X pins σ H s):∀(ds:List PyData)(vs:List V)(us:List Value),Ab X.K H vs ds->Vals vs us->∃as,ReadsAll s.heap us ds as
 |[],_,_,h,r=>by
  cases h
  cases r
  exact⟨_,ReadsAll.nil⟩
 |d::ds,_,_,h,r=>by
  cases h with
  |cons h1 h2=>
   cases r with
   |cons r1 r2=>
    obtain⟨as,q1⟩:=Dp.reads I d _ _ h1 r1
    obtain⟨bs,q2⟩:=Dp.readsAll I ds _ _ h2 r2
    exact⟨_,ReadsAll.cons q1 q2⟩
end
end
section
variable{X:Cx}
def Uh(K:af):R2:=λx y H Q=>ex2 Q λd e Q=>Dp K H x d/\Dp K H y e/\xH d=true/\xH e=true/\Q (.bl (!jF d e)) H
theorem IJ(hu:X.A.units+64<cLine):vA X (compareOp .NotEq) (Uh X.K):=by
 intro pins s σ H x y v u Q I rx ry h
 obtain⟨d,e,hd,he,sd,se,q⟩:=h
 obtain⟨as,r1⟩:=Dp.reads I d x v hd rx
 obtain⟨bs,r2⟩:=Dp.reads I e y u he ry
 exact SeqAt.compareNe_shaped r1 r2 sd se hu ⟨.bl _,H,I,rfl,q⟩
end
end L2
namespace L2
open PySem PySem.Spec PyProof.Rows
abbrev M3(h:Heap)(c:Addr)(v:Option Value):Prop:=h.IsCell c v
def VH(scope sc:Scope):Scope:=
 {scope with names:=scope.names.map λ(n,k)=>if(k==.free&&sc.kind==.function&&sc.names.lookup n==aa .cell)then(n,.cell)else(n,k)}
def fg(cells:List (Str×Addr)):List (Str×NameKind)->List (Str×Addr)->List (Str×Addr)
 |[],acc=>acc
 |(n,k)::r,acc=>if k==.free then fg cells r ((n,(cells.lookup n).getD 0)::acc)else fg cells r acc
theorem wD(env:Env)(f:Str×NameKind->List (Str×Addr)->Sem (ForInStep (List (Str×Addr))))
  (hf:∀n k c,f (n,k) c=if k==.free then(do let a<-cellOf env n;pure (.yield ((n,a)::c)))else pure (.yield c)):
  ∀(names:List (Str×NameKind))(acc:List (Str×Addr)),(∀y∈names,y.2=.free->∃c,env.cells.lookup y.1=aa c)->forIn names acc f=pure (fg env.cells names acc)
 |[],acc,_=>by rw[Cy];rfl
 |(n,k)::r,acc,h=>by
  rw[oq,hf]
  have ih:=λacc=>wD env f hf r acc λy hy=>h y (ax _ hy)
  unfold fg
  by_cases hk:(k==NameKind.free)=true
  ·rw[if_pos hk,if_pos hk]
   obtain⟨c,hc⟩:=h (n,k) ay (by simpa using hk)
   have e:cellOf env n=pure c:=by unfold cellOf;rw[hc]
   rw[e]
   have e2:(env.cells.lookup n).getD 0=c:=by rw[hc];rfl
   rw[e2]
   exact ih _
  ·rw[if_neg hk,if_neg hk]
   exact ih _
theorem Ao{scope:Scope}{env:Env}(h:∀y∈scope.names,y.2=.free->∃c,env.cells.lookup y.1=aa c):closureFor scope env=pure (fg env.cells scope.names []):=by
 simp only[closureFor]
 rw[wD env _ (λn k c=>rfl) scope.names [] h]
 rfl
theorem mem_lookup{α:Type}:∀{l:List (Str×α)}{n:Str}{c:α},(n,c)∈l->∃c',l.lookup n=aa c'
 |(k,v)::r,n,c,h=>by
  rw[df]
  cases hb:n==k with
  |true=>exact⟨_,rfl⟩
  |false=>
   rcases aG.mp h with e|h
   ·cases e;simp at hb
   ·exact mem_lookup h
theorem mL{cells:List (Str×Addr)}:∀{names:List (Str×NameKind)}{acc:List (Str×Addr)}{n:Str}{c:Addr},(n,c)∈fg cells names acc->(n,c)∈acc\/((n,.free)∈names/\c=(cells.lookup n).getD 0)
 |[],_,_,_,h=>.inl h
 |(m,k)::r,acc,n,c,h=>by
  unfold fg at h
  split at h
  ·rename_i hk
   have hk:k=.free:=by simpa using hk
   rcases mL h with h|⟨h1,h2⟩
   ·rcases aG.mp h with e|h
    ·cases e;exact .inr ⟨hk▸ay,rfl⟩
    ·exact .inl h
   ·exact .inr ⟨ax _ h1,h2⟩
  ·rcases mL h with h|⟨h1,h2⟩
   ·exact .inl h
   ·exact .inr ⟨ax _ h1,h2⟩
theorem sY{cells:List (Str×Addr)}:∀{names:List (Str×NameKind)}{acc:List (Str×Addr)}{p:Str×Addr},p∈acc->p∈fg cells names acc
 |[],_,_,h=>h
 |(m,k)::r,acc,p,h=>by
  unfold fg
  split
  ·exact sY (ax _ h)
  ·exact sY h
theorem pG{cells:List (Str×Addr)}:∀{names:List (Str×NameKind)}{acc:List (Str×Addr)}{n:Str},(n,.free)∈names->(n,(cells.lookup n).getD 0)∈fg cells names acc
 |(m,k)::r,acc,n,h=>by
  unfold fg
  rcases aG.mp h with e|h
  ·cases e
   exact sY ay
  ·split
   ·exact pG h
   ·exact pG h
theorem qG:∀{names:List (Str×NameKind)}{h:Heap}{acc:List (Str×Addr)}{x:Str}{c:Addr},(x,c)∈cellsFrom h.objs.size names acc->
  (x,c)∈acc\/((x,.cell)∈names/\h.objs.size<=c/\M3 (pushCells h names) c none)
 |[],_,_,_,_,h=>.inl h
 |(n,k)::r,h,acc,x,c,hm=>by
  unfold cellsFrom at hm
  unfold pushCells
  split at hm
  ·rename_i hk
   rw[if_pos hk]
   have hk:k=.cell:=by simpa using hk
   rw[<-cu h {cls:=.type "cell",data:=.cell none}]at hm
   rcases qG hm with hm|⟨h1,h2,h3⟩
   ·rcases aG.mp hm with e|hm
    ·cases e
     exact .inr ⟨hk▸ay,ah _,_,pushCells_keeps r _ _ _ (bh _ rfl),rfl⟩
    ·exact .inl hm
   ·rw[cu]at h2
    exact .inr ⟨ax _ h1,qV h2,h3⟩
  ·rename_i hk
   rw[if_neg hk]
   rcases qG hm with hm|⟨h1,h2,h3⟩
   ·exact .inl hm
   ·exact .inr ⟨ax _ h1,h2,h3⟩
theorem uA:∀{names:List (Str×NameKind)}{n:Nat}{acc:List (Str×Addr)}{p:Str×Addr},p∈acc->p∈cellsFrom n names acc
 |[],_,_,_,h=>h
 |(m,k)::r,n,acc,p,h=>by
  unfold cellsFrom
  split
  ·exact uA (ax _ h)
  ·exact uA h
theorem xK:∀{names:List (Str×NameKind)}{n:Nat}{acc:List (Str×Addr)}{x:Str},(x,.cell)∈names->∃c,(x,c)∈cellsFrom n names acc
 |(m,k)::r,n,acc,x,h=>by
  unfold cellsFrom
  rcases aG.mp h with e|h
  ·cases e
   exact⟨n,uA ay⟩
  ·split
   ·exact xK h
   ·exact xK h
theorem xM:∀{names:List (Str×NameKind)}{h:Heap}{acc:List (Str×Addr)}{x y:Str}{c:Addr},(∀p∈acc,p.2<h.objs.size)->(∀x y c,(x,c)∈acc->(y,c)∈acc->x=y)->
  (x,c)∈cellsFrom h.objs.size names acc->(y,c)∈cellsFrom h.objs.size names acc->x=y
 |[],_,_,_,_,_,_,hi,h1,h2=>hi _ _ _ h1 h2
 |(n,k)::r,h,acc,x,y,c,hl,hi,h1,h2=>by
  unfold cellsFrom at h1 h2
  split at h1
  ·rename_i hk
   rw[if_pos hk]at h2
   rw[<-cu h {cls:=.type "cell",data:=.cell none}]at h1 h2
   refine xM (h:=h.push _) (λp hp=>?_) (λx y c a b=>?_) h1 h2
   ·rw[cu]
    rcases aG.mp hp with rfl|hp
    ·exact sq _
    ·exact zm (hl p hp)
   ·rcases aG.mp a with e|a<;>rcases aG.mp b with e'|b
    ·cases e;cases e';rfl
    ·cases e;exact absurd (hl _ b) (di _)
    ·cases e';exact absurd (hl _ a) (di _)
    ·exact hi _ _ _ a b
  ·rename_i hk
   rw[if_neg hk]at h2
   exact xM hl hi h1 h2
theorem Gz{M:Model}{A:Around}{E:Value->Shared->Prop}{s:Shared}{scope:Scope}{globals:Addr}{closure:List (Str×Addr)}{qual:Str}{func:Option Addr}{code:Value}{around:Env}{builtins:Addr}{Q:Env->Shared->Prop}
  (h:Q (newEnv scope s.heap.objs.size globals (cellsFrom (s.heap.objs.size+1) scope.names closure) qual func code (aa around) builtins)
    {s with heap:=pushCells (s.heap.push {cls:=.type "dict",data:=.dict #[]}) scope.names}):
  wpAny M A (newFunctionEnv scope globals closure [] qual func code (aa around) builtins) Q E s:=by
 simp only[newFunctionEnv,JD,if_true]
 refine wpAny_bind (wpAny_alloc ?_)
 refine wpAny_bind (wpAny_layCells _ (λn k c=>rfl) scope.names closure _ _ ?_)
 rw[show({s with heap:=s.heap.push {cls:=.type "dict",data:=.dict #[]} }:Shared).heap.objs.size=s.heap.objs.size+1 from cu ..]
 rw[Cy]
 exact wpAny_bind (wpAny_pure (wpAny_pure h))
theorem tF{sc:Scope}:∀{names:List (Str×NameKind)}{x:Str}{k:NameKind},
  (names.map λ(n,k)=>if(k==NameKind.free&&sc.kind==.function&&sc.names.lookup n==aa .cell)then(n,NameKind.cell)else(n,k)).lookup x=aa k->
  ∃k',names.lookup x=aa k'/\(k=k'\/(k'=.free/\k=.cell))
 |[],_,_,h=>by simp at h
 |(n,k₀)::r,x,k,h=>by
  have ih:=@tF sc r x k
  have h':bz x ((if(k₀==NameKind.free&&sc.kind==.function&&sc.names.lookup n==aa .cell)=true then(n,NameKind.cell)else(n,k₀))::(r.map _))=aa k:=h
  cases hx:x==n with
  |true=>
   simp only[df,hx]
   by_cases hc:(k₀==NameKind.free&&sc.kind==.function&&sc.names.lookup n==aa .cell)=true
   ·rw[if_pos hc]at h'
    simp only[df,hx]at h'
    cases h'
    simp only[ak,beq_iff_eq]at hc
    exact⟨k₀,rfl,.inr ⟨hc.1.1,rfl⟩⟩
   ·rw[if_neg hc]at h'
    simp only[df,hx]at h'
    cases h'
    exact⟨_,rfl,.inl rfl⟩
  |false=>
   simp only[df,hx]
   by_cases hc:(k₀==NameKind.free&&sc.kind==.function&&sc.names.lookup n==aa .cell)=true
   ·rw[if_pos hc]at h'
    simp only[df,hx]at h'
    exact ih h'
   ·rw[if_neg hc]at h'
    simp only[df,hx]at h'
    exact ih h'
structure FA(N:List Str)(sc scope:Scope)(own:List (Str×Nat)):Prop where
 kind:scope.kind=.function
 uniq:∀y∈scope.names,scope.names.lookup y.1=aa y.2
 ix:∀p∈own,N[p.2]?=aa p.1
 free:∀y∈scope.names,y.2=.free->sc.names.lookup y.1=aa .cell\/sc.names.lookup y.1=aa .free
 own:∀y∈scope.names,y.2=.local\/y.2=.cell->y.1∈own.map (·.1)\/y.1∉N
def wipe(σ:St):List Nat->St
 |[]=>σ
 |v::vs=>(wipe σ vs).set v none
theorem uu(σ:St):∀vs:List Nat,(wipe σ vs).length=σ.length
 |[]=>rfl
 |v::vs=>by unfold wipe;rw[List.length_set,uu σ vs]
theorem yr{σ:St}{i:Nat}{x:V}:∀{vs:List Nat},(wipe σ vs)[i]?=aa (aa x)->σ[i]?=aa (aa x)/\i∉vs
 |[],h=>⟨h,by simp⟩
 |v::vs,h=>by
  unfold wipe at h
  by_cases hi:v=i
  ·subst hi
   by_cases hv:v<(wipe σ vs).length
   ·rw[i6 hv]at h;cases h
   ·rw[gL (by simpa using hv)]at h;cases h
  ·rw[nN hi]at h
   obtain⟨h1,h2⟩:=yr h
   exact⟨h1,by simp only[aG,not_or];exact⟨λe=>hi e.symm,h2⟩⟩
abbrev Cx.D6(X:Cx)(s:Shared)(H:Hp)(scope:Scope)(cenv:Env)(fp:List Addr):Cx:={X with vq:=s,Te:=H,env:=cenv,outer:=X.stack,ex:=fp,fn:=λx=>scope.names.lookup x==aa .cell,pn:=[],xe:=λ_ _=>False}
section
variable{X:Cx}{pins:List (Addr×Obj)}{σ:St}{H:Hp}{s:Shared}
theorem FK{scope:Scope}{own:List (Str×Nat)}{fp:List Addr}(I:Inv X pins σ H s)(ok:FA X.N X.env.scope scope own)(hN:X.N.Nodup)(hfp:∀b∈fp,zj X pins H b/\b<s.heap.objs.size):
  Inv (X.D6 s H scope (compEnvC scope (cellsFrom (s.heap.objs.size+1) scope.names (fg X.env.cells scope.names [])) s.heap.objs.size X.env) fp) [] (wipe σ (own.map (·.2))) H {s with heap:=pushCells (s.heap.push {cls:=.type "dict",data:=.dict #[]}) scope.names}:=by
 have hfree:∀y∈scope.names,y.2=.free->∃c,X.env.cells.lookup y.1=aa c:=λy hy e=>by
  rcases ok.free y hy e with k|k
  ·exact I.ok.has _ (.inl k)
  ·exact I.ok.has _ (.inr k)
 generalize hcenv:compEnvC scope (cellsFrom (s.heap.objs.size+1) scope.names (fg X.env.cells scope.names [])) s.heap.objs.size X.env=cenv
 have kp:∀b o,s.heap.get? b=aa o->(pushCells (s.heap.push {cls:=.type "dict",data:=.dict #[]}) scope.names).get? b=aa o:=λb o e=>pushCells_keeps _ _ _ _ (aw _ e)
 have hL:cenv.locals=s.heap.objs.size:=by rw[<-hcenv];rfl
 have hcl:cenv.cells=cellsFrom (s.heap.objs.size+1) scope.names (fg X.env.cells scope.names []):=by rw[<-hcenv];rfl
 have hsc:cenv.scope=VH scope X.env.scope:=by rw[<-hcenv];rfl
 rw[<-cu s.heap {cls:=.type "dict",data:=.dict #[]}]at hcl
 have cm:∀{y c},(y,c)∈fg X.env.cells scope.names []->X.env.cells.lookup y=aa c/\c<s.heap.objs.size:=λ{y c} hm=>by
  rcases mL hm with hm|⟨h1,rfl⟩
  ·cases hm
  ·obtain⟨c,hc⟩:=hfree _ h1 rfl
   rw[hc]
   obtain⟨w,z⟩:=I.cell _ _ hc
   exact⟨rfl,z.lt⟩
 have mem:∀{y c},cenv.cells.lookup y=aa c->(X.env.cells.lookup y=aa c/\c<s.heap.objs.size)\/(s.heap.objs.size+1<=c/\M3 (pushCells (s.heap.push {cls:=.type "dict",data:=.dict #[]}) scope.names) c none):=λ{y c} e=>by
  rw[hcl]at e
  rcases qG (a9 e)with hm|⟨_,h2,h3⟩
  ·exact .inl (cm hm)
  ·rw[cu]at h2;exact .inr ⟨h2,h3⟩
 have look:∀{y},scope.names.lookup y=aa .free->∃c,cenv.cells.lookup y=aa c/\X.env.cells.lookup y=aa c:=λ{y} hl=>by
  have hy:(y,NameKind.free)∈scope.names:=a9 hl
  obtain⟨c',e'⟩:=mem_lookup (uA (names:=scope.names) (n:=(s.heap.push {cls:=.type "dict",data:=.dict #[]}).objs.size) (pG (cells:=X.env.cells) (acc:=[]) hy))
  rw[<-hcl]at e'
  refine⟨c',e',?_⟩
  rw[hcl]at e'
  rcases qG (a9 e')with hm|⟨h1,_,_⟩
  ·exact(cm hm).1
  ·have:=ok.uniq _ h1
   rw[hl]at this;cases this
 have okB:(X.D6 s H scope cenv fp).Ok:=by
  refine⟨I.ok.mod,by show cenv.scope.kind=_;rw[hsc];exact ok.kind,by show cenv.globals=_;rw[<-hcenv];exact I.ok.glob,by show cenv.builtins=_;rw[<-hcenv];exact I.ok.blt,by show s.heap.objs.size<=cenv.locals;rw[hL];exact ah _,
   λy z c e1 e2=>?_,λy hy=>?_,λy c z e=>?_,I.ok.hd,I.ok.frames,.inl rfl,λb hb=>⟨?_,λy c e z=>?_⟩,I.bs,aX I.ok.MX I.sz,λb o e hb=>?_,λb hb z=>?_,I.stack,I.z9⟩
  ·have e1:cenv.cells.lookup y=aa c:=e1
   have e2:cenv.cells.lookup z=aa c:=e2
   rw[hcl]at e1 e2
   refine xM (λp hp=>?_) (λy z c a b=>I.ok.inj y z c (cm a).1 (cm b).1) (a9 e1) (a9 e2)
   rw[cu]
   exact zm (cm (y:=p.1) (c:=p.2) hp).2
  ·show∃c,cenv.cells.lookup y=aa c
   have key:∀k,cenv.kindOf y=aa k->(k=.cell\/k=.free)->∃c,cenv.cells.lookup y=aa c:=λk hk hk'=>by
    unfold Env.kindOf at hk
    rw[hsc]at hk
    obtain⟨k',e,r⟩:=tF hk
    have:k'=.cell\/k'=.free:=by
     rcases r with rfl|⟨rfl,_⟩
     ·exact hk'
     ·exact .inr rfl
    rcases this with rfl|rfl
    ·obtain⟨c,hm⟩:=xK (n:=(s.heap.push {cls:=.type "dict",data:=.dict #[]}).objs.size) (acc:=fg X.env.cells scope.names []) (a9 e)
     obtain⟨c',e'⟩:=mem_lookup hm
     exact⟨c',by rw[hcl];exact e'⟩
    ·obtain⟨c,h1,_⟩:=look e
     exact⟨c,h1⟩
   rcases hy with hy|hy
   ·exact key _ hy (.inl rfl)
   ·exact key _ hy (.inr rfl)
  ·have z:(scope.names.lookup y==aa NameKind.cell)=true:=z
   have z:scope.names.lookup y=aa .cell:=by simpa using z
   have e:cenv.cells.lookup y=aa c:=e
   rw[hcl]at e
   rcases qG (a9 e)with hm|⟨_,h2,_⟩
   ·rcases mL hm with hm|⟨h1,_⟩
    ·cases hm
    ·have q:=ok.uniq _ h1
     rw[z]at q;cases q
   ·rw[cu]at h2
    exact qV h2
  ·show b≠cenv.locals
   rw[hL];exact bJ (hfp b hb).2
  ·have e:cenv.cells.lookup y=aa c:=e
   rcases mem e with ⟨h1,_⟩|⟨h1,_⟩
   ·exact(hfp b hb).1.2.2.2.2.1 y c h1 z
   ·have h2:s.heap.objs.size+1<=b:=by rw[<-z];exact h1
    exact absurd (aY (hfp b hb).2 (qV h2)) (di _)
  ·rcases(hfp b hb).1.2.2.2.1 with z|z
   ·exact I.ok.L7 b o e z
   ·exact absurd (aY (aQ e) (aX I.ok.MX z)) (di _)
  ·rcases aG.mp (I.Jo b z)with z|z
   ·exact(hfp b hb).1.2.1 z
   ·exact(hfp b hb).1.2.2.1 z
 refine⟨okB,rfl,I.bare,Un.kept kp,⟨λ_=>none,?_,λi y av e1 e2 e3=>?_⟩,λy c e=>?_,?_,λy c e=>?_,λp hp=>?_,I.dO.kept kp,by rw[uu];exact I.len⟩
 ·show Heap.Ns _ cenv.locals _
  rw[hL]
  exact Heap.Ns.keeps (Heap.Ns.new ..) λb o e=>pushCells_keeps _ _ _ _ e
 ·obtain⟨e2,hne⟩:=yr e2
  have hfr:scope.names.lookup y=aa .free/\(cenv.kindOf y=aa .cell\/cenv.kindOf y=aa .free):=by
   have key:∀k,cenv.scope.names.lookup y=aa k->k=.local\/k=.cell\/k=.free->scope.names.lookup y=aa .free/\(cenv.kindOf y=aa .cell\/cenv.kindOf y=aa .free):=λk hk hk'=>by
    have hk0:=hk
    rw[hsc]at hk
    obtain⟨k',e,r⟩:=tF hk
    have no:¬(k'=.local\/k'=.cell):=λhh=>by
     rcases ok.own _ (a9 e) hh with e'|e'
     ·obtain⟨p,hp,hpy⟩:=bB.mp e'
      have e3:=ok.ix p hp
      have:p.1=y:=hpy
      rw[this]at e3
      exact hne (bB.mpr ⟨p,hp,wO hN e3 e1⟩)
     ·exact e' (bY e1)
    rcases r with rfl|⟨rfl,rfl⟩
    ·rcases hk' with rfl|rfl|rfl
     ·exact absurd (.inl rfl) no
     ·exact absurd (.inr rfl) no
     ·exact⟨e,.inr hk0⟩
    ·exact⟨e,.inl hk0⟩
   have e3:Pq cenv.scope y:=e3
   rcases e3 with e3|e3|e3
   ·exact key _ e3 (.inl rfl)
   ·exact key _ e3 (.inr (.inl rfl))
   ·exact key _ e3 (.inr (.inr rfl))
  obtain⟨m,hn,hl⟩:=I.loc
  have hvis:Pq X.env.scope y:=(ok.free _ (a9 hfr.1) rfl).elim (λk=>.inr (.inl k)) (λk=>.inr (.inr k))
  obtain⟨w,r,q⟩:=hl i y av e1 e2 hvis
  refine⟨w,r,.inr ⟨hfr.2,?_⟩⟩
  obtain⟨c,h1,h2⟩:=look hfr.1
  rcases q with ⟨k,_⟩|⟨_,c',e',z⟩
  ·have k:X.env.scope.names.lookup y=aa .local:=k
   rcases ok.free _ (a9 hfr.1) rfl with k'|k'<;>rw[show X.env.scope.names.lookup y=_ from k']at k<;>cases k
  ·rw[h2]at e';cases e'
   exact⟨c,h1,z.keeps kp⟩
 ·have e:cenv.cells.lookup y=aa c:=e
  rcases mem e with ⟨h1,_⟩|⟨_,z⟩
  ·obtain⟨w,z⟩:=I.cell y c h1
   exact⟨w,z.keeps kp⟩
  ·exact⟨_,z⟩
 ·show H cenv.locals=none
  rw[hL];exact I.dO.fresh (ah _)
 ·have e:cenv.cells.lookup y=aa c:=e
  rcases mem e with ⟨h1,_⟩|⟨h1,_⟩
  ·exact I.mN y c h1
  ·exact I.dO.fresh (qV h1)
 ·exact absurd (show p∈([]:List (Addr×Obj))++[]from hp) (by simp)
theorem RI{E:Value->Shared->Prop}{D:Addr}{xs:List V}{y:V}{v:Value}{Q:Value->Shared->Prop}(I:Inv X pins σ H s)(hD:H D=aa (.lst xs))(hz:xs.length<sizeLine)(r:RelV y v)
  (h:∀s',Inv X pins σ (upd H D (.lst (xs++[y]))) s'->Q .none s'):wpAny (model X.prog X.w) X.A (call (.builtin "list.append") [.ref D,v]) Q E s:=by
 obtain⟨hz',its,n,ri,e⟩:=I.dO D _ hD
 have hl:=ri.length
 refine append_at (hsz:=by rw[aO];lia) e λh' sb ho'=>?_
 refine h {s with heap:=h'} (I.write (t':=s.toks) (by rw[hD];trivial) (.inl rfl) (λb u hb q=>(sb.2 b hb).trans q) ⟨_,ho'⟩ ⟨by rw[ai];exact hz,its++[v],n+1,ri.append (.cons r .nil),?_⟩)
 rw[ho']
 simp
def Tr(X:Cx)(ifs:List Expr)(t:TT):Prop:=
 ∀(pins:List (Addr×Obj))(s:Shared)(σ:St)(H:Hp)(Q:Bool->Hp->Prop),Inv X pins σ H s->t σ H Q->
  wpAny (model X.prog X.w) X.A (forIn ifs true λc r=>if r=true then do let ok<-isTrue c X.env (eval c X.env);pure (ForInStep.yield ok)else pure (ForInStep.yield r)) (TP X pins σ Q) X.xe s
def VV:TT:=λ_ H Q=>Q true H
theorem mB:Tr X [] VV:=λ_ _ _ H _ I h=>wpAny_tests_nil ⟨H,I,h⟩
theorem rC{c:Expr}{t:TT}(h:PT X c t):Tr X [c] t:=λpins s σ H Q I hw=>wpAny_tests_one (h pins s σ H Q I hw)
end
theorem MG{α:Type}{t:Sem α}{Q Q':α->Shared->Prop}{M:Model}{A:Around}{E:Value->Shared->Prop}{s:Shared}(h:wpAny M A t Q (λ_ _=>False) s)(hQ:∀a s,Q a s->Q' a s):wpAny M A t Q' E s:=wpAny_mono h hQ λ_ _ z=>cy z
theorem Ea{prog:Program}{w:World}{A:Around}{R:Result->Shared->Prop}{s:Shared}{elt target iter:Expr}{ifs:List Expr}{scope:Scope}{pos:Pos}{it acc:Value}{env:Env}(I:Nat->Shared->Prop)
  (turn:∀n s,I n s->wpAny (model prog w) A (pyNext it) (λr s₁=>match r with
    |none=>R (.ok .next) s₁
    |some v=>wpAny (model prog w) A (letOwnedTupleGo target it v) (λ_ s₁'=>wpAny (model prog w) A (assign target env v) (λ_ s₂=>
      wpAny (model prog w) A (forIn ifs true λc r=>if r=true then do let ok<-isTrue c env (eval c env);pure (ForInStep.yield ok)else pure (ForInStep.yield r)) (λok s₃=>
       if ok=true then wpAny (model prog w) A (eval elt env) (λx s₄=>
        wpAny (model prog w) A (call (.builtin "list.append") [acc,x]) (λ_ s₅=>∃m,m<n/\I m s₅) (notedBy (model prog w) A env λe s'=>R (.error e) s') s₄) (notedBy (model prog w) A env λe s'=>R (.error e) s') s₃
       else∃m,m<n/\I m s₃) (notedBy (model prog w) A env λe s'=>R (.error e) s') s₂) (notedBy (model prog w) A env λe s'=>R (.error e) s') s₁') (notedBy (model prog w) A env λe s'=>R (.error e) s') s₁) (notedBy (model prog w) A env λe s'=>R (.error e) s') s)
  (n:Nat)(h:I n s):
  codeAny (model prog w) A (.compLoop (.ListComp elt [⟨target,iter,ifs,0⟩] scope pos) 0 it acc env) R s:=by
 refine codeAny_loop rfl I (λn s hI=>?_) n h
 show wpAny _ A ((compTurn (.ListComp elt [⟨target,iter,ifs,0⟩] scope pos) 0 it acc env).onRaise (λx=>do noteFrame x env;theTreesLotGoes x)) _ _ s
 refine wpAny_noted ?_
 rw[compTurn_list]
 refine wpAny_bind (wpAny_standAt (wpAny_bind (wpAny_mono (turn n s hI) (λr s₁ h₁=>?_) λ_ _ h'=>h')))
 cases r with
 |none=>exact wpAny_pure h₁
 |some v=>
  refine wpAny_bind (wpAny_mono h₁ (λ_ s₁' h₁'=>?_) λ_ _ h'=>h')
  refine wpAny_bind (wpAny_mono h₁' (λ_ s₂ h₂=>wpAny_bind (wpAny_mono h₂ (λok s₃ h₃=>?_) λ_ _ h'=>h')) λ_ _ h'=>h')
  cases ok with
  |false=>exact wpAny_pure ⟨rfl,h₃⟩
  |true=>
   exact wpAny_bind (wpAny_bind (wpAny_mono h₃ (λx s₄ h₄=>wpAny_bind (wpAny_mono h₄ (λ_ s₅ h₅=>wpAny_pure (wpAny_pure ⟨rfl,h₅⟩)) λ_ _ h'=>h')) λ_ _ h'=>h'))
section
variable{X:Cx}
def UW(wi:TI)(g:TG)(tt:TT)(te:TE)(vs:List Nat):TE:=λσ H Q=>wi σ H (kQ Q λJ H1 Q=>∀D,H1 D=none->ex1 Q λ(W:Nat->Nat->Hp->Prop) Q=>(∃m,W 0 m (upd H1 D (.lst [])))/\∀i m H,W i m H->
 (J.stop i H/\Q (.ref D) H)\/(J.go i H/\∃Nx:Hp->Prop,(∀H',Nx H'->∃m',m'<m/\W (i+1) m' H')/\∀x H',J.RC i H x H'->g x (wipe σ vs) H' λσ2 H2=>wipe σ2 vs=wipe σ vs/\tt σ2 H2 λb H3=>
   if b=true then te σ2 H3 λy H4=>∃acc,H4 D=aa (.lst acc)/\acc.length<sizeLine/\Nx (upd H4 D (.lst (acc++[y])))else Nx H3))
theorem Ko{pins:List (Addr×Obj)}{s:Shared}{σ:St}{H:Hp}{Q:VK}{elt tg iter:Expr}{ifs:List Expr}{scope:Scope}{own:List (Str×Nat)}{pos pos':Pos}{wi:TI}{g:TG}{tt:TT}{te:TE}{use:Option (Value->Sem Unit)}{Qf:Value->Shared->Prop}
  (hc:X.calm=true)(hN:X.N.Nodup)(I:Inv X pins σ H s)(hi:PI X tg iter wi)(ok:FA X.N X.env.scope scope own)
  (hg:∀(s:Shared)(H:Hp)(C:Addr)(cl:List (Str×Addr))(fp:List Addr),PG (X.D6 s H scope (compEnvC scope cl C X.env) fp) tg g)(ht:∀(s:Shared)(H:Hp)(C:Addr)(cl:List (Str×Addr))(fp:List Addr),Tr (X.D6 s H scope (compEnvC scope cl C X.env) fp) ifs tt)
  (he:∀(s:Shared)(H:Hp)(C:Addr)(cl:List (Str×Addr))(fp:List Addr),PE (X.D6 s H scope (compEnvC scope cl C X.env) fp) elt te)(hs:∀x,foldedSetIterable iter X.env x=pure x)
  (h:UW wi g tt te (own.map (·.2)) σ H Q)
  (hRR:∀D C s' m H',Inv X pins σ H' s'->Q (.ref D) H'->s'.heap.Ns C m->zj X pins H' C->compPost (model X.prog X.w) X.A X.xe use Qf (.ref D) C (.ok .next) s'):
  wpAny (model X.prog X.w) X.A (comprehension (.ListComp elt [⟨tg,iter,ifs,0⟩] scope pos) scope X.env pos' (newList []) false (eval iter X.env) use) Qf X.xe s:=by
 have hfree:∀y∈scope.names,y.2=.free->∃c,X.env.cells.lookup y.1=aa c:=λy hy e=>by
  rcases ok.free y hy e with k|k
  ·exact I.ok.has _ (.inl k)
  ·exact I.ok.has _ (.inr k)
 refine wpAny_comprehension_free (use:=use) rfl hs (Ao hfree) ok.kind (λy hy e=>by rw[ok.uniq y hy,e])
  (fH (hi pins s σ H _ I h) λxv s1 hx=>fH hx λitv s2 h2=>?_)
 obtain⟨it,fp,tn,J,H2,e,I2,T,st2,f2,q⟩:=h2
 subst e
 refine wpAny_newObj_type (Gz ?_) (by show 0<=sizeLine;decide)
 generalize hD:s2.heap.objs.size=D
 have hDn:H2 D=none:=I2.dO.fresh (sQ hD)
 obtain⟨W,⟨m0,w0⟩,turn⟩:=q D hDn
 generalize hs3:({s2 with heap:=s2.heap.push {cls:=.type "list",data:=.seq ([]:List Value).toArray} }:Shared)=s3
 have I3:Inv X pins σ (upd H2 D (.lst [])) s3:=by
  rw[<-hs3]
  refine I2.laid (t':=s2.toks) (λb o e=>aw _ e) (sQ hD) ⟨bp _,[],0,.nil,?_⟩
  rw[<-hD]
  exact bh _ rfl
 have h3:s3.heap=s2.heap.push {cls:=.type "list",data:=.seq ([]:List Value).toArray}:=by rw[<-hs3]
 have sz:∀b∈fp,b<s2.heap.objs.size:=λb hb=>by
  obtain⟨o,e,_⟩:=T.obj _ _ st2 b hb
  exact aQ e
 have f3:∀b∈fp,zj X pins (upd H2 D (.lst [])) b/\b<s3.heap.objs.size:=λb hb=>by
  have hlt:=sz b hb
  refine⟨⟨?_,(f2 b hb).2⟩,by rw[h3,cu];exact zm hlt⟩
  rw[az (by rw[<-hD];exact bJ hlt)]
  exact(f2 b hb).1
 have st3:tn 0 s3.heap:=T.keep _ _ _ st2 λb _ o e=>by rw[h3];exact aw _ e
 have I4:=FK I3 ok hN f3
 have pg:=hg s3 (upd H2 D (.lst [])) s3.heap.objs.size (cellsFrom (s3.heap.objs.size+1) scope.names (fg X.env.cells scope.names [])) fp
 have pt:=ht s3 (upd H2 D (.lst [])) s3.heap.objs.size (cellsFrom (s3.heap.objs.size+1) scope.names (fg X.env.cells scope.names [])) fp
 have pe:=he s3 (upd H2 D (.lst [])) s3.heap.objs.size (cellsFrom (s3.heap.objs.size+1) scope.names (fg X.env.cells scope.names [])) fp
 show codeAny _ _ (.compStart (.ListComp elt [⟨tg,iter,ifs,0⟩] scope pos) 0 (.ref it) (.ref D) (compEnvC scope (cellsFrom (s3.heap.objs.size+1) scope.names (fg X.env.cells scope.names [])) s3.heap.objs.size X.env)) (compPost (model X.prog X.w) X.A X.xe use Qf (.ref D) s3.heap.objs.size) {s3 with heap:=pushCells (s3.heap.push {cls:=.type "dict",data:=.dict #[]}) scope.names}
 have nfp:∀b∈fp,(upd H2 D (.lst [])) b=none:=λb hb=>(f3 b hb).1.1
 generalize hce:compEnvC scope (cellsFrom (s3.heap.objs.size+1) scope.names (fg X.env.cells scope.names [])) s3.heap.objs.size X.env=ce at I4 pg pt pe⊢
 have cL:ce.locals=s3.heap.objs.size:=by subst hce;rfl
 generalize hH3:upd H2 D (.lst [])=H3 at I3 I4 pg pt pe w0 nfp f3
 generalize hs4:({s3 with heap:=pushCells (s3.heap.push {cls:=.type "dict",data:=.dict #[]}) scope.names}:Shared)=s4 at I4⊢
 have st4:tn 0 s4.heap:=T.keep _ _ _ st3 λb _ o e=>by rw[<-hs4];exact pushCells_keeps _ _ _ _ (aw _ e)
 have stat:∀{σ':St}{H':Hp}{s':Shared},Inv (X.D6 s3 H3 scope ce fp) [] σ' H' s'->(∀b∈fp,H' b=none)->∀b∈fp,zj (X.D6 s3 H3 scope ce fp) [] H' b:=λ{σ' H' s'} I' hn b hb=>
  ⟨hn b hb,(I'.ok.TX b hb).1,I'.ok.Ly b hb,.inl hb,λx c e=>(I'.ok.TX b hb).2 x c e,λp hp=>absurd (show p∈([]:List (Addr×Obj))++[]from hp) (by simp)⟩
 have loop:codeAny (model X.prog X.w) X.A (.compLoop (.ListComp elt [⟨tg,iter,ifs,0⟩] scope pos) 0 (.ref it) (.ref D) ce) (compPost (model X.prog X.w) X.A X.xe use Qf (.ref D) s3.heap.objs.size) s4:=by
  refine Ea (λn s'=>∃i H',Inv (X.D6 s3 H3 scope ce fp) [] (wipe σ (own.map (·.2))) H' s'/\tn i s'.heap/\(∀b∈fp,H' b=none)/\W i n H') ?_ m0 ⟨0,H3,I4,st4,nfp,w0⟩
  rintro n s5 ⟨i,H5,I5,st5,n5,w5⟩
  rcases turn i n H5 w5 with ⟨stop,qq⟩|⟨go,Nx,hNx,step⟩
  ·have td:=T.done (X.D6 s3 H3 scope ce fp) rfl rfl rfl hc i [] s5 _ H5 (λ_ _=>False) I5 (stat I5 n5) st5 stop
   refine MG td λr s6 ⟨hr,I6⟩=>?_
   subst hr
   have I7:Inv X pins σ H5 s6:=I3.JS (ch:=fp) I6.os I6.base I6.dO I6.bare λb hb=>⟨(f3 b hb).1.2.2.2.1,(f3 b hb).1.2.1,(f3 b hb).1.2.2.2.2.1,(f3 b hb).1.2.2.2.2.2⟩
   have nC:H5 s3.heap.objs.size=none:=by
    have z:H5 ce.locals=none:=I6.free
    rw[cL]at z
    exact z
   obtain⟨m,hn,_⟩:=I6.loc
   have hn:s6.heap.Ns ce.locals m:=hn
   rw[cL]at hn
   exact hRR D s3.heap.objs.size s6 m H5 I7 qq hn (I3.NS (ah _) nC)
  ·have ti:=T.item (X.D6 s3 H3 scope ce fp) rfl rfl rfl hc i [] s5 _ H5 (λ_ _=>False) I5 (stat I5 n5) st5 go
   refine MG ti λr s6 zz3=>?_
   obtain⟨u,hr,h6⟩:=zz3
   subst hr
   refine MG h6 λ_ s7 zz4=>?_
   obtain⟨x,H7,I7,r7,y7,st7,n7⟩:=zz4
   have I7':=I7.pinned (stat I7 n7) (T.obj _ _ st7)
   refine MG (pg _ s7 _ H7 x u _ I7' r7 (step x H7 y7)) λ_ s8 zz5=>?_
   obtain⟨σ8,H8,I8,hw8,q8⟩:=zz5
   refine MG (pt _ s8 σ8 H8 _ I8 q8) λb s9 zz6=>?_
   obtain⟨H9,I9,q9⟩:=zz6
   have fin:∀{s':Shared}{H':Hp},Inv (X.D6 s3 H3 scope ce fp) ([]++A5 fp s7.heap) σ8 H' s'->Nx H'->∃m,m<n/\∃i H',Inv (X.D6 s3 H3 scope ce fp) [] (wipe σ (own.map (·.2))) H' s'/\tn i s'.heap/\(∀b∈fp,H' b=none)/\W i m H':=λ{s' H'} I' nx=>by
    obtain⟨m',hm,w'⟩:=hNx H' nx
    have pin':∀b∈fp,∀o,s7.heap.get? b=aa o->s'.heap.get? b=aa o/\H' b=none:=λb hb o e=>
     let z:=I'.pin (b,o) (b7 _ (b7 _ (vI hb e)))
     ⟨z.1,z.2.1⟩
    have hl:(wipe σ (own.map (·.2))).length=σ8.length:=by rw[<-hw8,uu]
    refine⟨m',hm,i+1,H',(I'.xy (pins:=[])).weak hl (λj v e=>?_),T.keep _ _ _ st7 λb hb o e=>(pin' b hb o e).1,λb hb=>?_,w'⟩
    ·rw[<-hw8]at e
     exact(yr e).1
    ·obtain⟨o,e,_⟩:=T.obj _ _ st7 b hb
     exact(pin' b hb o e).2
   cases b with
   |false=>
    simp only[ft,if_false]at q9⊢
    exact fin I9 q9
   |true=>
    simp only[if_true]at q9⊢
    refine MG (pe _ s9 σ8 H9 _ I9 q9) λz s10 zz0=>?_
    obtain⟨yv,H10,I10,r10,acc,hD10,hz10,nx⟩:=zz0
    exact RI (X:=X.D6 s3 H3 scope ce fp) I10 hD10 hz10 r10 λs11 I11=>fin I11 nx
 exact codeAny_compStart_list loop (T.self X.A 0 _ _ _ st4 loop)
theorem pQ{elt tg iter:Expr}{ifs:List Expr}{scope:Scope}{own:List (Str×Nat)}{pos:Pos}{wi:TI}{g:TG}{tt:TT}{te:TE}(hc:X.calm=true)(hN:X.N.Nodup)(hi:PI X tg iter wi)(ok:FA X.N X.env.scope scope own)
  (hg:∀(s:Shared)(H:Hp)(C:Addr)(cl:List (Str×Addr))(fp:List Addr),PG (X.D6 s H scope (compEnvC scope cl C X.env) fp) tg g)(ht:∀(s:Shared)(H:Hp)(C:Addr)(cl:List (Str×Addr))(fp:List Addr),Tr (X.D6 s H scope (compEnvC scope cl C X.env) fp) ifs tt)
  (he:∀(s:Shared)(H:Hp)(C:Addr)(cl:List (Str×Addr))(fp:List Addr),PE (X.D6 s H scope (compEnvC scope cl C X.env) fp) elt te)(hs:∀x,foldedSetIterable iter X.env x=pure x:=by intro _;rfl):
  PE X (.ListComp elt [⟨tg,iter,ifs,0⟩] scope pos) (UW wi g tt te (own.map (·.2))):=by
 intro pins s σ H Q I h
 rw[eval_ListComp]
 refine Ko hc hN I hi ok hg ht he hs h λD C s' m H' I' q hn f=>⟨m,hn,λh'' sb=>?_⟩
 obtain⟨f0,f1,f2,f3,f4,f5⟩:=f
 exact⟨.ref D,H',I'.turned (t':=s'.toks) (λb o hb e=>(sb.2 b hb).trans e) f0 f1 f3 f4 f5,rfl,q⟩
theorem A7{i:Nat}{y:Str}{py:Pos}{elt tg iter:Expr}{ifs:List Expr}{scope:Scope}{own:List (Str×Nat)}{pos spos:Pos}{wi:TI}{g:TG}{tt:TT}{te:TE}(hc:X.calm=true)(hN:X.N.Nodup)(hy:X.N[i]?=aa y)(hyl:X.env.scope.names.lookup y=aa .local)
  (hsw:swapsWith (.ListComp elt [⟨tg,iter,ifs,0⟩] scope pos) (aa (.Name y py)) spos.line X.env=pure true)(hi:PI X tg iter wi)(ok:FA X.N X.env.scope scope own)
  (hg:∀(s:Shared)(H:Hp)(C:Addr)(cl:List (Str×Addr))(fp:List Addr),PG (X.D6 s H scope (compEnvC scope cl C X.env) fp) tg g)(ht:∀(s:Shared)(H:Hp)(C:Addr)(cl:List (Str×Addr))(fp:List Addr),Tr (X.D6 s H scope (compEnvC scope cl C X.env) fp) ifs tt)
  (he:∀(s:Shared)(H:Hp)(C:Addr)(cl:List (Str×Addr))(fp:List Addr),PE (X.D6 s H scope (compEnvC scope cl C X.env) fp) elt te)(hs:∀x,foldedSetIterable iter X.env x=pure x:=by intro _;rfl):
  PS X (.Assign [.Name y py] (.ListComp elt [⟨tg,iter,ifs,0⟩] scope pos) spos) (Us (UW wi g tt te (own.map (·.2))) (yQ i)):=by
 intro pins s σ H D I h
 rw[exec_Assign_Name_used _ _ _ _ hsw]
 refine wpAny_bind (wpAny_standAt (wpAny_bind ?_))
 show wpAny _ X.A (do let _<-comprehension (.ListComp elt [⟨tg,iter,ifs,0⟩] scope pos) scope X.env (firstIterPos [⟨tg,iter,ifs,0⟩] pos) (newList []) false (eval iter X.env) (aa (assign (.Name y py) X.env))) _ _ s
 have h:UW wi g tt te (own.map (·.2)) σ H (λx H1=>yQ i x σ H1 D.nx):=h
 refine wpAny_bind (fH (Ko (Qf:=λ_ s'=>SP X pins D .next s') hc hN I hi ok hg ht he hs h λL C s' m H' I' q hn f=>?_) λ_ s' hq=>wpAny_pure (wpAny_pure hq))
 show wpAny _ _ (assign (.Name y py) X.env (.ref L)) _ _ _
 refine wpAny_assign_Name (DK (v:=V.ref L) I' hN hy (.inl hyl) rfl (λs2 I2 zy=>?_) (.inr hyl))
 obtain⟨a,sb,ha⟩:=zy
 obtain⟨f0,f1,f2,f3,f4,f5⟩:=f
 have haC:C≠a:=by
  rcases ha with z|z
  ·rw[z];exact f1
  ·exact λe=>f4 y a z e.symm
 refine⟨m,hn.sameBut sb haC,λh3 sb3=>?_⟩
 exact⟨_,H',I2.turned (t':=s2.toks) (λb o hb e=>(sb3.2 b hb).trans e) f0 f1 f3 f4 f5,q⟩
theorem Fi{elt:Expr}{gs:List Comprehension}{scope:Scope}{pos py:Pos}{y:Str}{l:Nat}{env:Env}(hk:env.scope.kind=.function)(hy:env.scope.names.lookup y=aa .local)(hl:(py.line==pos.line)=true)
  (ha:(scope.names.any λ(n,k)=>n==y&&(k==.local||k==.cell))=false):swapsWith (.ListComp elt gs scope pos) (aa (.Name y py)) l env=pure true:=by
 have ky:env.kindOf y=aa .local:=hy
 have hb:env.blockKind=.function:=by unfold Env.blockKind;rw[hk];rfl
 unfold swapsWith
 have e1:(Expr.ListComp elt gs scope pos).pos=pos:=rfl
 have e2:(Expr.Name y py).pos=py:=rfl
 simp only[hb,ky,ha,e1,e2,hl]
 rfl
end
theorem N8{lo:Int}{n:Nat}{g:TG}{tt:TT}{te:TE}{vs:List Nat}{σ:St}{H1:Hp}{D:Addr}{Qd:Hp->Prop}(Pv:Nat->Hp->Prop)(h0:Pv 0 (upd H1 D (.lst [])))
  (hs:∀i H,i<n->Pv i H->g (.int (lo+i)) (wipe σ vs) H λσ2 H2=>wipe σ2 vs=wipe σ vs/\tt σ2 H2 λb H3=>
    if b=true then te σ2 H3 λy H4=>∃acc,H4 D=aa (.lst acc)/\acc.length<sizeLine/\Pv (i+1) (upd H4 D (.lst (acc++[y])))else Pv (i+1) H3)(hd:∀H,Pv n H->Qd H):
  ∃W:Nat->Nat->Hp->Prop,(∃m,W 0 m (upd H1 D (.lst [])))/\∀i m H,W i m H->
   ((Pn lo n).stop i H/\Qd H)\/((Pn lo n).go i H/\∃Nx:Hp->Prop,(∀H',Nx H'->∃m',m'<m/\W (i+1) m' H')/\∀x H',(Pn lo n).RC i H x H'->g x (wipe σ vs) H' λσ2 H2=>wipe σ2 vs=wipe σ vs/\tt σ2 H2 λb H3=>
     if b=true then te σ2 H3 λy H4=>∃acc,H4 D=aa (.lst acc)/\acc.length<sizeLine/\Nx (upd H4 D (.lst (acc++[y])))else Nx H3):=by
 refine⟨λi m H=>m=n-i/\i<=n/\Pv i H,⟨n,by simp,bp _,h0⟩,?_⟩
 rintro i m H ⟨rfl,hi,p⟩
 by_cases hlt:i<n
 ·refine .inr ⟨hlt,Pv (i+1),λH' p'=>⟨n-(i+1),by lia,rfl,hlt,p'⟩,λx H' y=>?_⟩
  obtain⟨e,y⟩:=y
  subst e y
  exact hs i _ hlt p
 ·have e:i=n:=by lia
  subst e
  exact .inl ⟨ah _,hd H p⟩
theorem jG{K:af}{a:Addr}{xs:List V}{g:TG}{tt:TT}{te:TE}{vs:List Nat}{σ:St}{H1:Hp}{D:Addr}{Qd:Hp->Prop}(Pv:Nat->Hp->Prop)(h0:Pv 0 (upd H1 D (.lst [])))(hl:∀i H,i<=xs.length->Pv i H->cJ K H a xs)
  (hs:∀i x H,xs[i]?=aa x->Pv i H->g x (wipe σ vs) H λσ2 H2=>wipe σ2 vs=wipe σ vs/\tt σ2 H2 λb H3=>
    if b=true then te σ2 H3 λy H4=>∃acc,H4 D=aa (.lst acc)/\acc.length<sizeLine/\Pv (i+1) (upd H4 D (.lst (acc++[y])))else Pv (i+1) H3)(hd:∀H,Pv xs.length H->Qd H):
  ∃W:Nat->Nat->Hp->Prop,(∃m,W 0 m (upd H1 D (.lst [])))/\∀i m H,W i m H->
   ((Rh K a).stop i H/\Qd H)\/((Rh K a).go i H/\∃Nx:Hp->Prop,(∀H',Nx H'->∃m',m'<m/\W (i+1) m' H')/\∀x H',(Rh K a).RC i H x H'->g x (wipe σ vs) H' λσ2 H2=>wipe σ2 vs=wipe σ vs/\tt σ2 H2 λb H3=>
     if b=true then te σ2 H3 λy H4=>∃acc,H4 D=aa (.lst acc)/\acc.length<sizeLine/\Nx (upd H4 D (.lst (acc++[y])))else Nx H3):=by
 refine⟨λi m H=>m=xs.length-i/\i<=xs.length/\Pv i H,⟨xs.length,by simp,bp _,h0⟩,?_⟩
 rintro i m H ⟨rfl,hi,p⟩
 have q:=hl i H hi p
 by_cases hlt:i<xs.length
 ·refine .inr ⟨⟨xs,xs[i],q,by simp[hlt]⟩,Pv (i+1),λH' p'=>⟨xs.length-(i+1),by omega,rfl,hlt,p'⟩,λx H' y=>?_⟩
  obtain⟨e,y⟩:=y
  subst e
  exact hs i x _ (y xs q) p
 ·have e:i=xs.length:=by lia
  subst e
  exact .inl ⟨⟨xs,q,ah _⟩,hd H p⟩
def TF(N:List Str)(sc scope:Scope)(own:List (Str×Nat)):Bool:=
 (match scope.kind with|.function=>true|_=>false)&&(scope.names.all λy=>decide (scope.names.lookup y.1=aa y.2))&&(own.all λp=>decide (N[p.2]?=aa p.1))&&
   (scope.names.all λy=>match y.2 with
     |.free=>(match sc.names.lookup y.1 with|some .cell=>true|some .free=>true|_=>false)
     |.local=>decide (y.1∈own.map (·.1))||decide (y.1∉N)
     |.cell=>decide (y.1∈own.map (·.1))||decide (y.1∉N)
     |_=>true)
theorem fz{N:List Str}{sc scope:Scope}{own:List (Str×Nat)}(h:TF N sc scope own=true):FA N sc scope own:=by
 unfold TF at h
 simp only[ak,gB,decide_eq_true_eq]at h
 obtain⟨⟨⟨h1,h2⟩,h3⟩,h4⟩:=h
 refine⟨?_,h2,h3,λy hy e=>?_,λy hy e=>?_⟩
 ·split at h1
  ·assumption
  ·cases h1
 ·have q:=h4 y hy
  simp only[e]at q
  split at q<;>first|exact .inl (by assumption)|exact .inr (by assumption)|cases q
 ·have q:=h4 y hy
  rcases e with e|e<;>(simp only[e,oo,decide_eq_true_eq]at q;exact q)
end L2
namespace L2
open PySem PySem.Spec PyProof.Rows
section
variable{prog:Program}{w:World}{A:Around}{R:Result->Shared->Prop}{s:Shared}{elt t0 i0 t1 i1:Expr}{ifs0 ifs1:List Expr}{scope:Scope}{pos:Pos}{it acc:Value}{env:Env}
end
section
variable{X:Cx}
end
end L2
namespace L2
open PySem PySem.Spec PyProof.Rows
section
variable{κ:Type}[DecidableEq κ]
def kb(kvs:List (κ×V))(k:κ):Option V:=(kvs.find? λkv=>decide (kv.1=k)).map (·.2)
def putK(kvs:List (κ×V))(k:κ)(v:V):List (κ×V):=
 if(kvs.any λkv=>decide (kv.1=k))=true then kvs.map (λkv=>if kv.1=k then(kv.1,v)else kv)else kvs++[(k,v)]
theorem jD{p:κ×V}{r:List (κ×V)}{k:κ}(e:p.1=k):kb (p::r) k=aa p.2:=by simp[kb,cF,e]
theorem jC{p:κ×V}{r:List (κ×V)}{k:κ}(e:¬p.1=k):kb (p::r) k=kb r k:=by simp[kb,cF,e]
theorem xB(k:κ):∀kvs:List (κ×V),(kvs.any λkv=>decide (kv.1=k))=(kb kvs k).isSome
 |[]=>rfl
 |p::r=>by
  rw[d6]
  by_cases e:p.1=k
  ·simp only[jD e,decide_eq_true e,Bool.true_or,JD]
  ·rw[jC e,decide_eq_false e,Bool.false_or];exact xB k r
theorem Hj(k j:κ)(y:V):∀kvs:List (κ×V),kb (kvs.map λkv=>if kv.1=k then(kv.1,y)else kv) j=(kb kvs j).map λx=>if j=k then y else x
 |[]=>rfl
 |p::r=>by
  have ih:=Hj k j y r
  rw[aU]
  by_cases h:p.1=k
  ·rw[if_pos h]
   by_cases e:p.1=j
   ·rw[jD (p:=(p.1,y)) e,jD e,nO,if_pos (e.symm.trans h)]
   ·rw[jC (p:=(p.1,y)) e,jC e,ih]
  ·rw[if_neg h]
   by_cases e:p.1=j
   ·rw[jD (p:=p) e,jD e,nO,if_neg (λz=>h (e.trans z))]
   ·rw[jC (p:=p) e,jC e,ih]
theorem DN(k j:κ)(y:V):∀kvs:List (κ×V),kb kvs k=none->kb (kvs++[(k,y)]) j=if j=k then aa y else kb kvs j
 |[],_=>by
  by_cases e:k=j
  ·rw[if_pos e.symm];exact jD (p:=(k,y)) e
  ·rw[if_neg (λz=>e z.symm)];exact jC (p:=(k,y)) e
 |p::r,hn=>by
  rw[j4]
  have hk:¬p.1=k:=λz=>by rw[jD z]at hn;cases hn
  rw[jC hk]at hn
  have ih:=DN k j y r hn
  by_cases e:p.1=j
  ·rw[jD e,jD e,if_neg (λz=>hk (e.trans z))]
  ·rw[jC e,jC e,ih]
theorem BJ(kvs:List (κ×V))(k j:κ)(y:V):kb (putK kvs k y) j=if j=k then aa y else kb kvs j:=by
 unfold putK
 by_cases a:(kvs.any λkv=>decide (kv.1=k))=true
 ·rw[if_pos a,Hj]
  rw[xB]at a
  by_cases e:j=k
  ·obtain⟨x,hx⟩:=kc.mp a
   rw[if_pos e,e,hx,nO,if_pos rfl]
  ·rw[if_neg e]
   cases kb kvs j with
   |none=>rfl
   |some x=>rw[nO,if_neg e]
 ·rw[if_neg a]
  refine DN k j y kvs ?_
  rw[xB]at a
  cases q:kb kvs k with
  |none=>rfl
  |some x=>rw[q]at a;exact(a rfl).elim
theorem pI(kvs:List (κ×V))(k:κ)(v:V):(putK kvs k v).length<=kvs.length+1:=by
 unfold putK
 split
 ·rw[ae];ac_rfl
 ·rw[ai,aF,fh];ac_rfl
theorem rf.xT{o:Option V}{u:Option Value}(r:rf o u):o.isSome=u.isSome:=by
 cases o with
 |none=>cases u with
  |none=>rfl
  |some _=>exact(show False from r).elim
 |some _=>cases u with
  |none=>exact(show False from r).elim
  |some _=>rfl
theorem KV.val{kvs:List (κ×V)}{vs:List (κ×Value)}(r:KV kvs vs)(k:κ):rf (kb kvs k) (valueAt vs k):=by
 unfold KV at r
 induction r with
 |nil=>exact True.intro
 |@cons p q ps qs h t ih=>
  obtain⟨h1,h2⟩:=h
  by_cases e:p.1=k
  ·have e':q.1=k:=h1.symm.trans e
   have b:valueAt (q::qs) k=aa q.2:=by simp[valueAt,cF,e']
   rw[jD e,b];exact h2
  ·have e':¬q.1=k:=λz=>e (h1.trans z)
   have b:valueAt (q::qs) k=valueAt qs k:=by simp[valueAt,cF,e']
   rw[jC e,b];exact ih
theorem KV.any{kvs:List (κ×V)}{vs:List (κ×Value)}(r:KV kvs vs)(k:κ):(kvs.any λkv=>decide (kv.1=k))=vs.any λkv=>decide (kv.1=k):=by
 unfold KV at r
 induction r with
 |nil=>rfl
 |cons h t ih=>rw[d6,d6,ih,h.1]
theorem KV.SA{kvs:List (κ×V)}{vs:List (κ×Value)}(r:KV kvs vs)(k:κ){y:V}{u:Value}(ry:RelV y u):
  KV (kvs.map λkv=>if kv.1=k then(kv.1,y)else kv) (vs.map λkv=>if kv.1=k then(kv.1,u)else kv):=by
 unfold KV at r⊢
 induction r with
 |nil=>exact .nil
 |@cons p q ps qs h t ih=>
  rw[aU,aU]
  refine .cons ?_ ih
  obtain⟨h1,h2⟩:=h
  by_cases e:p.1=k
  ·rw[if_pos e,if_pos (h1.symm.trans e)];exact⟨h1,ry⟩
  ·rw[if_neg e,if_neg (λz=>e (h1.trans z))];exact⟨h1,h2⟩
theorem KV.put{kvs:List (κ×V)}{vs:List (κ×Value)}(r:KV kvs vs)(k:κ){y:V}{u:Value}(ry:RelV y u):KV (putK kvs k y) (stored vs k u):=by
 unfold putK stored
 rw[r.any k]
 by_cases e:(vs.any λkv=>decide (kv.1=k))=true
 ·rw[if_pos e,if_pos e];exact r.SA k ry
 ·rw[if_neg e,if_neg e];exact Paired.snoc r ⟨rfl,ry⟩
theorem KV.length{kvs:List (κ×V)}{vs:List (κ×Value)}(r:KV kvs vs):kvs.length=vs.length:=gj r
end
theorem Kk{P:Program}{w:World}{k:Key}{u:Value}(r:RelV (kV k) u):(jH P w).is k u=true:=by
 cases k with
 |inl i=>obtain⟨t,e⟩:=(show∃t,u=Value.int i t from r);subst e;exact Gx P w i t
 |inr x=>obtain⟨t,e⟩:=(show∃t,u=Value.str x t from r);subst e;exact Gy P w x t
theorem Dh{P:Program}{w:World}:∀{ks:List Key}{us:List Value},Vals (ks.map kV) us->ItemsAre (jH P w) ks us
 |[],_,r=>by rw[yB]at r;cases r;exact .nil
 |k::ks,_,r=>by
  rw[aU]at r
  cases r with
  |cons h t=>exact .cons (Kk h) (Dh t)
abbrev KT(H:Hp):List (List Key×V)->List (List Key×Addr×Value)->Prop:=Paired λp q=>p.1=q.1/\H q.2.1=aa (.tup (p.1.map kV))/\RelV p.2 q.2.2
theorem KT.val{H:Hp}{kvs:List (List Key×V)}{xs:List (List Key×Addr×Value)}(r:KT H kvs xs)(k:List Key):rf (kb kvs k) ((atKey xs k).map (·.2)):=by
 induction r with
 |nil=>exact True.intro
 |@cons p q ps qs h t ih=>
  obtain⟨h1,_,h2⟩:=h
  by_cases e:p.1=k
  ·have e':q.1=k:=h1.symm.trans e
   have b:atKey (q::qs) k=aa q.2:=by simp[atKey,cF,e']
   rw[jD e,b];exact h2
  ·have e':¬q.1=k:=λz=>e (h1.trans z)
   have b:atKey (q::qs) k=atKey qs k:=by simp[atKey,cF,e']
   rw[jC e,b];exact ih
theorem KT.SA{H:Hp}{kvs:List (List Key×V)}{xs:List (List Key×Addr×Value)}(r:KT H kvs xs)(k:List Key){y:V}{u:Value}(ry:RelV y u):
  KT H (kvs.map λkv=>if kv.1=k then(kv.1,y)else kv) (xs.map (putAt k u)):=by
 induction r with
 |nil=>exact .nil
 |@cons p q ps qs h t ih=>
  rw[aU,aU]
  refine .cons ?_ ih
  obtain⟨h1,h2,h3⟩:=h
  unfold putAt
  by_cases e:p.1=k
  ·rw[if_pos e,if_pos (h1.symm.trans e)];exact⟨h1,h2,ry⟩
  ·rw[if_neg e,if_neg (λz=>e (h1.trans z))];exact⟨h1,h2,h3⟩
theorem KT.put{H:Hp}{kvs:List (List Key×V)}{xs:List (List Key×Addr×Value)}(r:KT H kvs xs)(k:List Key){b:Addr}{y:V}{u:Value}(hb:H b=aa (.tup (k.map kV)))(ry:RelV y u):
  KT H (putK kvs k y) (storedH xs k b u):=by
 have e:(kvs.any λkv=>decide (kv.1=k))=(atKey xs k).isSome:=by
  rw[xB,(r.val k).xT,Lb]
 unfold putK storedH
 rw[e]
 by_cases q:(atKey xs k).isSome=true
 ·rw[if_pos q,if_pos q];exact r.SA k ry
 ·rw[if_neg q,if_neg q];exact Paired.snoc r ⟨rfl,hb,ry⟩
theorem KT.keeps{H H':Hp}{kvs:List (List Key×V)}{xs:List (List Key×Addr×Value)}(r:KT H kvs xs)(ht:∀b ys,H b=aa (.tup ys)->H' b=aa (.tup ys)):KT H' kvs xs:=
 Paired.P8 r λ_ _ z=>⟨z.1,ht _ _ z.2.1,z.2.2⟩
section
variable{P:Program}{w:World}{H:Hp}{h:Heap}{a:Addr}
theorem Ru{u:HO}(ok:pV P w H h)(e:Rd H a u):gb P w H h a u:=e.ok ok
theorem JX{kvs:List (Key×V)}(ok:pV P w H h)(e:Rd H a (.dK kvs)):kvs.length<=sizeLine/\(a==sysModules)=false/\∃vs,KV kvs vs/\h.DictOf (jH P w) a vs:=
 show gb P w H h a (.dK kvs)from Ru ok e
theorem TN{kvs:List (Key×V)}(ok:pV P w H h)(e:H a=aa (.dK kvs)):kvs.length<=sizeLine/\(a==sysModules)=false/\∃vs,KV kvs vs/\h.DictOf (jH P w) a vs:=JX ok (.inl e)
theorem En{ks:List Key}(ok:pV P w H h)(e:H a=aa (.tup (ks.map kV))):(tupleKind (jH P w)).is h ks a:=by
 obtain⟨_,its,r,o,h1,h2,n,h3⟩:=(show gb P w H h a (.tup (ks.map kV))from ok a _ e)
 exact⟨o,its.toArray,n,h1,h2,h3,by simpa using Dh r⟩
theorem JY{kvs:List (List Key×V)}(ok:pV P w H h)(e:Rd H a (.dT kvs)):kvs.length<=sizeLine/\(a==sysModules)=false/\
  ∃xs,KT H kvs xs/\h.DictOfH (tupleKind (jH P w)) a xs:=by
 obtain⟨z,y,xs,r,o,es,ep,h1,h2,h3,h4,h5⟩:=(show gb P w H h a (.dT kvs)from Ru ok e)
 refine⟨z,y,xs,r,o,es,ep,h1,h2,h3,h4,λx hx=>?_,h5⟩
 have all:∀{l:List (List Key×V)}{m:List (List Key×Addr×Value)},KT H l m->∀x∈m,(tupleKind (jH P w)).is h x.1 x.2.1:=by
  intro l m q
  induction q with
  |nil=>intro x hx;exact nomatch hx
  |@cons p q ps qs hq t ih=>
   intro x hx
   rcases aG.mp hx with e|hx
   ·subst e
    exact En ok (by rw[<-hq.1];exact hq.2.1)
   ·exact ih x hx
 exact all r x hx
theorem TQ{kvs:List (List Key×V)}(ok:pV P w H h)(e:H a=aa (.dT kvs)):kvs.length<=sizeLine/\(a==sysModules)=false/\
 ∃xs,KT H kvs xs/\h.DictOfH (tupleKind (jH P w)) a xs:=JY ok (.inl e)
end
def uU(H:Hp)(a:Addr)(y:V)(r:Option V):Prop:=
 (∃kvs k,Rd H a (.dK kvs)/\y=kV k/\r=kb kvs k)\/∃kvs k b,Rd H a (.dT kvs)/\y=.ref b/\H b=aa (.tup (k.map kV))/\r=kb kvs k
def Aa(H:Hp)(a:Addr)(y v:V)(H':Hp):Prop:=
 (∃kvs k,H a=aa (.dK kvs)/\y=kV k/\kvs.length<sizeLine/\H'=upd H a (.dK (putK kvs k v)))\/
 ∃kvs k b,H a=aa (.dT kvs)/\y=.ref b/\H b=aa (.tup (k.map kV))/\kvs.length<sizeLine/\H'=upd H a (.dT (putK kvs k v))
theorem uU.k{H:Hp}{a:Addr}{kvs:List (Key×V)}{k:Key}(e:H a=aa (.dK kvs)):uU H a (kV k) (kb kvs k):=.inl ⟨kvs,k,.inl e,rfl,rfl⟩
theorem uU.t{H:Hp}{a b:Addr}{kvs:List (List Key×V)}{k:List Key}(e:H a=aa (.dT kvs))(eb:H b=aa (.tup (k.map kV))):uU H a (.ref b) (kb kvs k):=.inr ⟨kvs,k,b,.inl e,rfl,eb,rfl⟩
theorem Aa.k{H:Hp}{a:Addr}{kvs:List (Key×V)}{k:Key}{v:V}(e:H a=aa (.dK kvs))(hl:kvs.length<sizeLine):Aa H a (kV k) v (upd H a (.dK (putK kvs k v))):=.inl ⟨kvs,k,e,rfl,hl,rfl⟩
theorem Aa.t{H:Hp}{a b:Addr}{kvs:List (List Key×V)}{k:List Key}{v:V}(e:H a=aa (.dT kvs))(eb:H b=aa (.tup (k.map kV)))(hl:kvs.length<sizeLine):
 Aa H a (.ref b) v (upd H a (.dT (putK kvs k v))):=.inr ⟨kvs,k,b,e,rfl,eb,hl,rfl⟩
section
variable{X:Cx}{pins:List (Addr×Obj)}{σ:St}{H:Hp}{s:Shared}{a:Addr}{y v:V}{u r:Value}{o:Option V}{A:Around}{E:Value->Shared->Prop}
theorem Inv.big(I:Inv X pins σ H s):sysModules<s.heap.objs.size:=by
 have h:mainGlobals<s.heap.objs.size:=(I.mod.glob.keeps I.bk).lt
 exact Nat.lt_trans (by decide) h
theorem Lr{Q:Value->Shared->Prop}(hu:A.units+1<cLine)(I:Inv X pins σ H s)(g:uU H a y (aa v))(ry:RelV y u)(h:∀w' s',Inv X pins σ H s'->RelV v w'->Q w' s'):
  wpAny (model X.prog X.w) A (getItem (.ref a) u) Q E s:=by
 rcases g with ⟨kvs,k,e,ey,l⟩|⟨kvs,k,b,e,ey,eb,l⟩
 ·subst ey
  obtain⟨z,hd,vs,rel,dd⟩:=JX I.dO e
  obtain⟨w',hw,rw'⟩:=rf.some_of (v:=v) (o:=valueAt vs k) (by rw[l];exact rel.val k)
  exact wpAny_getItem_of (Kk ry) dd.mapOf hw (h w' _ (I.tok _) rw')
 ·subst ey
  cases(show u=Value.ref b from ry)
  obtain⟨z,hd,xs,rel,dd⟩:=JY I.dO e
  obtain⟨w',hw,rw'⟩:=rf.some_of (v:=v) (o:=(atKey xs k).map (·.2)) (by rw[l];exact rel.val k)
  obtain⟨p,hp,hp2⟩:=lN.mp hw
  refine wpAny_getItem_heap (tupleKind_room_in1 hu) (En I.dO eb) dd hp ?_
  rw[hp2]
  exact h w' _ (I.tok _) rw'
theorem PD{Q:Value->Shared->Prop}(hu:A.units+1<cLine)(I:Inv X pins σ H s)(g:uU H a y o)(ry:RelV y u)(h:∀s',Inv X pins σ H s'->Q (.bool (!o.isSome)) s'):
  wpAny (model X.prog X.w) A (compareOp .NotIn u (.ref a)) Q E s:=by
 rcases g with ⟨kvs,k,e,ey,l⟩|⟨kvs,k,b,e,ey,eb,l⟩
 ·subst ey
  obtain⟨z,hd,vs,rel,dd⟩:=JX I.dO e
  refine wpAny_notIn_of (Kk ry) hd dd.mapOf ?_
  rw[<-(rel.val k).xT,<-l]
  exact h _ (I.tok _)
 ·subst ey
  cases(show u=Value.ref b from ry)
  obtain⟨z,hd,xs,rel,dd⟩:=JY I.dO e
  refine wpAny_notIn_heap (tupleKind_room_in1 hu) (En I.dO eb) hd dd ?_
  have q:=(rel.val k).xT
  rw[Lb]at q
  rw[<-q,<-l]
  exact h _ (I.tok _)
theorem JT{h':Heap}{t':Nat}{ob:HO}(I:Inv X pins σ H s)(mu:Tp (H a))(hs:yE a s.heap h')(he:∃q,h'.get? a=aa q)(new:gb X.prog X.w (upd H a ob) h' a ob):
  Inv X pins σ (upd H a ob) {s with heap:=h',toks:=t'}:=
 I.write (x:=a) (e:=a) mu (.inl rfl) (λb q hb z=>(hs.2 b hb).trans z) he new
theorem RO{P:Program}{w:World}{H':Hp}{h':Heap}{kvs:List (Key×V)}{vs:List (Key×Value)}(z:kvs.length<=sizeLine)(hd:(a==sysModules)=false)(rel:KV kvs vs)(dd:h'.DictOf (jH P w) a vs):
 gb P w H' h' a (.dK kvs):=⟨z,hd,vs,rel,dd⟩
theorem Ls{H':Hp}{Q:Unit->Shared->Prop}(hu:A.units+1<cLine)(I:Inv X pins σ H s)(g:Aa H a y v H')(ry:RelV y u)(rv:RelV v r)(h:∀s',Inv X pins σ H' s'->Q () s'):
  wpAny (model X.prog X.w) A (setItem (.ref a) u r) Q E s:=by
 rcases g with ⟨kvs,k,e,ey,l,eH⟩|⟨kvs,k,b,e,ey,eb,l,eH⟩
 ·subst ey eH
  obtain⟨z,hd,vs,rel,dd⟩:=TN I.dO e
  have hz:vs.length<=sizeLine:=by rw[<-rel.length];exact z
  have hl:(putK kvs k v).length<=sizeLine:=by have:=pI kvs k v;lia
  refine wpAny_setItem_pairs (hsz:=hz) (Kk ry) dd λh' dd' hs=>h _ ?_
  have he:∃q,h'.get? a=aa q:=let⟨q,_,_,hq,_⟩:=dd';⟨q,hq⟩
  exact JT I (by rw[e];exact True.intro) hs he (RO hl hd (rel.put k rv) dd')
 ·subst ey eH
  cases(show u=Value.ref b from ry)
  obtain⟨z,hd,xs,rel,dd⟩:=TQ I.dO e
  have hz:xs.length<=sizeLine:=by rw[<-gj rel];exact z
  have hl:(putK kvs k v).length<=sizeLine:=by have:=pI kvs k v;lia
  refine wpAny_setItem_heap (hsz:=hz) (tupleKind_room_in1 hu) (En I.dO eb) dd λh' dd' hs=>h _ ?_
  obtain⟨q,es,ep,hq,h2,h3,h4,_,h5⟩:=dd'
  refine JT I (by rw[e];exact True.intro) hs ⟨q,hq⟩ ⟨hl,hd,_,(rel.put k eb rv).keeps λc ys ec=>?_,q,es,ep,hq,h2,h3,h4,h5⟩
  rw[az (eI ec e (λz=>nomatch z))]
  exact ec
end
section
variable{X:Cx}{pins:List (Addr×Obj)}{σ:St}{H:Hp}{s:Shared}{a:Addr}{kvs:List (Key×V)}{k:Key}{u:Value}{A:Around}{E:Value->Shared->Prop}
end
def Tq(i:Expr):Prop:=∀ov iv,subscripted i false ov iv=operate [ov,iv] (getItem ov iv)
theorem QY{prog:Program}{w:World}{A:Around}{E:Value->Shared->Prop}{s:Shared}{env:Env}{value slice:Expr}{pos:Pos}{T id:String}{Q:Value->Shared->Prop}
  (hl:typeLookup (.type T) "__getitem__"=pure (aa (.builtin id)))(hs:Tq slice)
  (h:wpAny (model prog w) A (eval value env) (λo s₁=>wpAny (model prog w) A (eval slice env) (λi s₂=>s₂.TypeIs o T/\wpAny (model prog w) A (getItem o i) Q E s₂) E s₁) E s):
  wpAny (model prog w) A (eval (.Subscript value slice pos) env) Q E s:=by
 refine Subscript_ (wpAny_mono h (λo s₁ h₁=>wpAny_mono h₁ (λi s₂ h₂=>?_) λ_ _ x=>x) λ_ _ x=>x)
 obtain⟨hT,h₂⟩:=h₂
 unfold subscriptTail
 refine wpAny_bind ?_
 rw[getitemInPython_of_ne hT.not_modules]
 refine wpAny_bind (wpAny_specialOf hT hl ?_)
 have fin:wpAny (model prog w) A (subscripted slice false o i) (λr s₃=>wpAny (model prog w) A (letTemporaryGo value o r>>=λ_=>pure r) Q E s₃) E s₂:=by
  rw[hs o i]
  exact wpAny_operating (wpAny_mono h₂ (λr s₃ h₃=>wpAny_bind (wpAny_letTemporaryGo (wpAny_pure h₃))) λ_ _ x=>x)
 first
  |exact wpAny_pure (wpAny_bind fin)
  |exact wpAny_bind (wpAny_pure (wpAny_bind fin))
  |exact wpAny_bind fin
theorem FU{X:Cx}{pins:List (Addr×Obj)}{σ:St}{H:Hp}{s:Shared}{a:Addr}{y:V}{o:Option V}(I:Inv X pins σ H s)(g:uU H a y o):s.TypeIs (.ref a) "dict":=by
 rcases g with ⟨kvs,k,e,_,_⟩|⟨kvs,k,b,e,_,_,_⟩
 ·obtain⟨_,_,vs,_,dd⟩:=JX I.dO e
  exact dd.typeIs
 ·obtain⟨_,_,xs,_,dd⟩:=JY I.dO e
  exact dd.typeIs
def Ut(td ty:TE):TE:=λσ H Q=>td σ H (kQ Q λx H1 Q=>ty σ H1 (kQ Q λy H2 Q=>ex2 Q λa v Q=>x=.ref a/\uU H2 a y (aa v)/\Q v H2))
def Q2(ty td:TE):TE:=λσ H Q=>ty σ H (kQ Q λy H1 Q=>td σ H1 (kQ Q λx H2 Q=>ex2 Q λa o Q=>x=.ref a/\uU H2 a y o/\Q (.bl (!o.isSome)) H2))
def Rv(td ty tv:TE):TS:=λD σ H=>tv σ H (kQ D λv H1 D=>td σ H1 (kQ D λx H2 D=>ty σ H2 (kQ D λy H3 D=>ex2 D λa H4 D=>x=.ref a/\Aa H3 a y v H4/\D.nx σ H4)))
section
variable{X:Cx}{o i e value:Expr}{pos pos' tpos:Pos}{td ty tv:TE}
theorem uJ(hu:X.A.units+1<cLine)(ho:PE X o td)(hi:PE X i ty)(hs:Tq i):PE X (.Subscript o i pos) (Ut td ty):=by
 intro pins s σ H Q I h
 refine QY PySem.F.slot_dict_getitem.lookup hs (fH (ho pins s σ H _ I h) λu s1 ⟨x,H1,I1,rx,q1⟩=>fH (hi pins s1 σ H1 _ I1 q1) λiv s2 zy=>?_)
 obtain⟨y,H2,I2,ry,a,v,ex,g,q2⟩:=zy
 subst ex
 obtain rfl:u=Value.ref a:=rx
 exact⟨FU I2 g,Lr hu I2 g ry λw' s3 I3 rw'=>⟨v,H2,I3,rw',q2⟩⟩
theorem Mo(hu:X.A.units+1<cLine)(hi:PE X i ty)(ho:PE X o td):PC X .NotIn i o (Q2 ty td):=by
 intro pins s σ H Q I h
 refine fH (hi pins s σ H _ I h) λiv s1 zy=>?_
 obtain⟨y,H1,I1,ry,q1⟩:=zy
 refine fH (ho pins s1 σ H1 _ I1 q1) λu s2 zz1=>?_
 obtain⟨x,H2,I2,rx,a,ov,ex,g,q2⟩:=zz1
 subst ex
 obtain rfl:u=Value.ref a:=rx
 exact PD hu I2 g ry λs3 I3=>⟨.bl (!ov.isSome),H2,I3,rfl,q2⟩
theorem w8(hu:X.A.units+1<cLine)(ho:PE X o td)(hi:PE X i ty)(hv:PE X value tv)(hs:swapsWith value (aa (.Subscript o i pos')) pos.line X.env=pure false):
  PS X (.Assign [.Subscript o i pos'] value pos) (Rv td ty tv):=by
 intro pins s σ H D I h
 refine wpAny_Assign_Subscript (fH (hv pins s σ H _ I h) λr s1 ⟨v,H1,I1,rv,q1⟩=>fH (ho pins s1 σ H1 _ I1 q1) λu s2 ⟨x,H2,I2,rx,q2⟩=>fH (hi pins s2 σ H2 _ I2 q2) λiv s3 zy=>?_) hs
 obtain⟨y,H3,I3,ry,a,H4,ex,g,q3⟩:=zy
 subst ex
 obtain rfl:u=Value.ref a:=rx
 exact Ls hu I3 g ry rv λs4 I4=>⟨σ,H4,I4,q3⟩
end
theorem NC{P:Program}{w:World}{H:Hp}(h:Heap)(hb:sysModules<h.objs.size):gb P w H (h.push {cls:=.type "dict",data:=.dict #[]}) h.objs.size (.dK []):=
 ⟨bp _,beq_eq_false_iff_ne.mpr (ra (bJ hb)),[],.nil,Heap.DictOf.new h⟩
theorem NF{P:Program}{w:World}{H:Hp}(h:Heap)(hb:sysModules<h.objs.size):gb P w H (h.push {cls:=.type "dict",data:=.dict #[]}) h.objs.size (.dT []):=
 ⟨bp _,beq_eq_false_iff_ne.mpr (ra (bJ hb)),[],.nil,_,#[],0,bh _ rfl,⟨rfl,rfl,rfl⟩,rfl,rfl,List.nodup_nil⟩
def S4:TE:=λ_ H Q=>∀p,H p=none->Q (.ref p) (upd H p (.dK []))
def S5:TE:=λ_ H Q=>∀p,H p=none->Q (.ref p) (upd H p (.dT []))
section
variable{X:Cx}{pos:Pos}
theorem Ot:PE X (.Dict [] [] pos) S4:=λpins s σ H Q I h=>
 wpAny_Dict_empty ⟨.ref s.heap.objs.size,_,I.laid (a:=s.heap.objs.size) (o:=.dK []) (t':=s.toks) (λ_ _ q=>aw _ q) (ah _) (NC s.heap I.big),rfl,h _ (I.dO.fresh (ah _))⟩
theorem GR:PE X (.Dict [] [] pos) S5:=λpins s σ H Q I h=>
 wpAny_Dict_empty ⟨.ref s.heap.objs.size,_,I.laid (a:=s.heap.objs.size) (o:=.dT []) (t':=s.toks) (λ_ _ q=>aw _ q) (ah _) (NF s.heap I.big),rfl,h _ (I.dO.fresh (ah _))⟩
end
structure M1(X:Cx)(o:Expr)(m:Str)(apos:Pos)(e:Expr)(cpos:Pos):Prop where
 base:attributeBase o m X.env (eval o X.env)=eval o X.env
 wH:((backTo cpos (starEach [e] X.env)).all (λx=>!x.1)&&(backToKw cpos (keywordEach [] X.env)).all (λx=>x.1.isSome)
  &&decide (([e]:List Expr).length+([]:List Keyword).length+(if([]:List Keyword).isEmpty then 0 else 1)<30))=true
 line:(apos.endLine==cpos.line)=true
 trees:backTo cpos (starEach [e] X.env)=[(false,eval e X.env)]
structure M2(X:Cx)(o:Expr)(m:Str)(apos:Pos)(e f:Expr)(cpos:Pos):Prop where
 base:attributeBase o m X.env (eval o X.env)=eval o X.env
 wH:((backTo cpos (starEach [e,f] X.env)).all (λx=>!x.1)&&(backToKw cpos (keywordEach [] X.env)).all (λx=>x.1.isSome)
  &&decide (([e,f]:List Expr).length+([]:List Keyword).length+(if([]:List Keyword).isEmpty then 0 else 1)<30))=true
 line:(apos.endLine==cpos.line)=true
 trees:backTo cpos (starEach [e,f] X.env)=[(false,eval e X.env),(false,eval f X.env)]
section
variable{X:Cx}{pins:List (Addr×Obj)}{σ:St}{H:Hp}{s:Shared}{a:Addr}{y d:V}{u r:Value}{o:Option V}{A:Around}{E:Value->Shared->Prop}
end
section
variable{X:Cx}{o e f:Expr}{apos cpos:Pos}{td ty tx:TE}
end
section
variable{X:Cx}{pins:List (Addr×Obj)}{σ:St}{H:Hp}{s:Shared}{a:Addr}{kvs:List (Key×V)}{A:Around}{E:Value->Shared->Prop}
end
section
variable{X:Cx}{pins:List (Addr×Obj)}{σ:St}{H:Hp}{s:Shared}{a:Addr}{y:V}{u:Value}{A:Around}{E:Value->Shared->Prop}
end
end L2
namespace L2
open PySem PySem.Spec PyProof.Rows
section
variable{prog:Program}{w:World}{A:Around}{E:Value->Shared->Prop}
end
section
variable{X:Cx}
end
end L2
namespace L2
open PySem PySem.Spec PyProof.Rows
theorem Ak:bootBuiltins "reversed"=aa (.type "reversed"):=by decide+kernel
section
variable{X:Cx}{pins:List (Addr×Obj)}{σ:St}{H:Hp}{s:Shared}{h':Heap}
theorem Inv.Rb{t':Nat}{ch:List Addr}(I:Inv X pins σ H s)(k:∀b o,b∉ch->s.heap.get? b=aa o->h'.get? b=aa o)(hf:∀b∈ch,zj X pins H b):Inv X pins σ H {s with heap:=h',toks:=t'}:=by
 have nit:∀b u,H b=aa u->b∉ch:=λb u e z=>by
  have q:=(hf b z).1
  rw[q]at e;cases e
 refine I.step (g':=s.gens) (d':=s.drawn) (ch:=ch) (λb hb=>⟨(hf b hb).2.2.2.1,(hf b hb).2.1,(hf b hb).2.2.2.2.1,(hf b hb).2.2.2.2.2⟩) (λb o _ _ hc e _=>k b o hc e) (λb o _ _ hc e _=>⟨o.slots,k b o hc e⟩)
  (λ_ _ _ _ n=>n) (λb o hc e=>⟨o,k b o hc e⟩) (λ_ _ e=>e) (λ_ _ _ e=>e) (λb ps e=>⟨#[],by rw[e];simp⟩) (λm hm=>?_) (λb u e=>?_) I.bare
 ·obtain⟨o,es,ep,ho,r⟩:=hm
  exact⟨o,es,ep,k _ o (λz=>(hf _ z).2.1 rfl) ho,r⟩
 ·refine(I.dO b u e).xq (λc v hc q=>k c v ?_ q) (λ_ q=>q) λ_ _ q=>q
  rcases hc with z|z
  ·rw[z];exact nit b u e
  ·exact nit c _ z
theorem Inv.ML{t':Nat}{ch:List Addr}{T:Addr}{ob:HO}(I:Inv X pins σ H s)(k:∀b o,b∉ch->s.heap.get? b=aa o->h'.get? b=aa o)(hf:∀b∈ch,zj X pins H b)(hT:s.heap.objs.size<=T)
  (new:gb X.prog X.w (upd H T ob) h' T ob):Inv X pins σ (upd H T ob) {s with heap:=h',toks:=t'}:=by
 have hn:H T=none:=I.dO.fresh hT
 have nit:∀b u,H b=aa u->b∉ch:=λb u e z=>by
  have q:=(hf b z).1
  rw[q]at e;cases e
 refine I.step (g':=s.gens) (d':=s.drawn) (ch:=ch) (λb hb=>⟨(hf b hb).2.2.2.1,(hf b hb).2.1,(hf b hb).2.2.2.2.1,(hf b hb).2.2.2.2.2⟩) (λb o _ _ hc e _=>k b o hc e) (λb o _ _ hc e _=>⟨o.slots,k b o hc e⟩)
  (λb o _ e n=>?_) (λb o hc e=>⟨o,k b o hc e⟩) (λb xs e=>?_) (λb o u e=>?_) (λb ps e=>⟨#[],?_⟩) (λm hm=>?_) (λb u e=>?_) I.bare
 ·rw[az (bJ (aY (aQ e) hT))];exact n
 ·rw[az (aA e hn)];exact e
 ·rw[az (aA e hn)];exact e
 ·rw[az (aA e hn),e];simp
 ·obtain⟨o,es,ep,ho,r⟩:=hm
  exact⟨o,es,ep,k _ o (λz=>(hf _ z).2.1 rfl) ho,r⟩
 ·by_cases hb:b=T
  ·subst hb
   rw[ag]at e
   cases e
   exact new
  ·rw[az hb]at e
   refine(I.dO b u e).xq (λc v hc q=>k c v ?_ q) (λc q=>by rw[az (aA q hn)];exact q) λc xs q=>by rw[az (aA q hn)];exact q
   rcases hc with z|z
   ·rw[z];exact nit b u e
   ·exact nit c _ z
end
section
variable{X:Cx}
theorem IP{tg:Expr}{pins:List (Addr×Obj)}{σ:St}{H:Hp}{s:Shared}{R:It->Hp->Prop}{J:It}{tn:Nat->Heap->Prop}{tk:Nat}(I:Inv X pins σ H s)(o:Obj)
  (T:Turn X.prog X.w X.K tg J [s.heap.objs.size] s.heap.objs.size tn)(st:tn 0 (s.heap.push o))(q:R J H):U7 X pins σ tg R (.ref s.heap.objs.size) {s with heap:=s.heap.push o,toks:=tk}:=by
 refine⟨s.heap.objs.size,[s.heap.objs.size],tn,J,H,rfl,I.kept λb ob e=>aw _ e,T,st,λb hb=>?_,q⟩
 have e:b=s.heap.objs.size:=by simpa using hb
 subst e
 exact I.NS (ah _) (I.dO.fresh (ah _))
end
section
variable{X:Cx}{tg:Expr}
end
def U0(K:af)(a:Addr)(n:Nat):It:=
 ⟨λi H=>i<n/\∃(xs:List V)(x:V),cJ K H a xs/\xs[n-1-i]?=aa x,λi H x H'=>H'=H/\∀xs,cJ K H a xs->xs[n-1-i]?=aa x,λi _=>n<=i⟩
theorem OY{P:Program}{w:World}{K:af}{tg:Expr}(a it:Addr)(n:Nat):Turn P w K tg (U0 K a n) [it] it (λi h=>i<=n/\h.IsRevIter it a ((n:Int)-1-(i:Nat)))where
 mem:=by simp
 obj:=λi h st b hb=>by
  have e:b=it:=by simpa using hb
  subst e
  obtain⟨_,o,e,c,d⟩:=st
  exact⟨o,e,λv z=>by rw[d]at z;cases z⟩
 keep:=λi h h' st k=>⟨st.1,st.2.at λo e=>k it (by simp) o e⟩
 item:=by
  intro X hP hw hK hc i pins s σ H E I hf st hg
  subst hP hw hK
  obtain⟨hin,xs,x,hq,hx⟩:=hg
  obtain⟨its,rv,p,hz⟩:=I.list hq
  obtain⟨u,hu,ru⟩:=rv.get hx
  obtain⟨f0,f1,f2,f3,f4,f5⟩:=hf it (by simp)
  obtain⟨_,hit⟩:=st
  have e1:(n:Int)-1-((i:Nat):Int)=((n-1-i:Nat):Int):=by lia
  rw[e1]at hit
  refine wpAny_pyNext_rev_item hit p.isList (x:=u) (by simpa using hu) λh' st' sb=>?_
  have e2:((n-1-i:Nat):Int)-1=(n:Int)-1-((i+1:Nat):Int):=by lia
  rw[e2]at st'
  have I1:Inv X pins σ H {s with heap:=h'}:=I.turned (t':=s.toks) (λb o hb e=>(sb.2 b hb).trans e) f0 f1 f3 f4 f5
  obtain⟨o,e,c,d⟩:=id st'
  exact⟨u,rfl,Ke (s:={s with heap:=h'}) e c d (by decide) ⟨x,H,I1,ru,⟨rfl,λys hy=>by rw[I.wM hy hq];exact hx⟩,⟨hin,st'⟩,λb hb=>(hf b hb).1⟩⟩
 done:=by
  intro X hP hw hK hc i pins s σ H E I hf st hg
  subst hP hw hK
  obtain⟨f0,f1,f2,f3,f4,f5⟩:=hf it (by simp)
  obtain⟨hin,hit⟩:=st
  have hge:n<=i:=hg
  have e1:(n:Int)-1-((i:Nat):Int)=-1:=by lia
  rw[e1]at hit
  exact wpAny_pyNext_rev_end (I.ok.hd hc) hit λh' eb=>⟨rfl,I.turned (t':=s.toks) (λb o hb e=>eb b o hb e) f0 f1 f3 f4 f5⟩
 self:=λA i s Q E st h=>wpAny_pyIter_revIter st.2 h
def Ve(K:af)(ta:TA):TI:=λσ H R=>ta σ H (kQ R λvs H1 R=>ex2 R λ(a:Addr)(xs:List V) R=>vs=[.ref a]/\cJ K H1 a xs/\R (U0 K a xs.length) H1)
section
variable{X:Cx}{tg:Expr}
theorem GS{e:Expr}{ta:TA}{p pos:Pos}(hg:Gl X "reversed")(hm:X.mg "reversed"=none)(ha:PA X [e] ta)(hs:starEach [e] X.env=[(false,eval e X.env)]:=by rfl):PI X tg (.Call (.Name "reversed" p) [e] [] pos) (Ve X.K ta):=by
 intro pins s σ H R I h
 refine Call_ (xX I hg hm Ak (iO (fH (ha pos pins s σ H _ I h) λus s1 zy=>?_) hs rfl))
 obtain⟨vs,H1,I1,r1,q1⟩:=zy
 obtain⟨a,xs,e,hq,q⟩:=q1
 subst e
 cases r1 with
 |cons r rr=>
  cases rr
  cases r
  obtain⟨its,rv,p',hz⟩:=I1.list hq
  have hl:=rv.length
  have e1:((its.toArray.size:Nat):Int)-1=(xs.length:Int)-1-((0:Nat):Int):=by simp only[aO];lia
  refine call_reversed_list p'.isList (wpAny_pyIter_revIter (l:=a) (i:=((its.toArray.size:Nat):Int)-1) ⟨_,bh _ rfl,rfl,rfl⟩ ?_)
  refine IP (tk:=s1.toks) I1 _ (OY a _ xs.length) ⟨bp _,?_⟩ q
  rw[<-e1]
  exact⟨_,bh _ rfl,rfl,rfl⟩
end
def UZ(x:Str):It:=⟨λi _=>i<x.cps.size,λi H v H'=>H'=H/\∃c,x.cps[i]?=aa c/\v=.str ⟨#[c]⟩,λi _=>x.cps.size<=i⟩
theorem Hf{P:Program}{w:World}{K:af}{tg:Expr}(it:Addr)(x:Str)(t:Tok)(ty:String)(hty:ty="str_ascii_iterator"\/ty="str_iterator"):
  Turn P w K tg (UZ x) [it] it (λi h=>h.IsStrIter it ty x t i)where
 mem:=by simp
 obj:=λi h st b hb=>by
  have e:b=it:=by simpa using hb
  subst e
  obtain⟨o,e,c,d⟩:=st
  exact⟨o,e,λv z=>by rw[d]at z;cases z⟩
 keep:=λi h h' st k=>let⟨o,ho,r⟩:=st;⟨o,k it (by simp) o ho,r⟩
 item:=by
  intro X hP hw hK hc i pins s σ H E I hf st hg
  subst hP hw hK
  obtain⟨f0,f1,f2,f3,f4,f5⟩:=hf it (by simp)
  have W:Walks X.prog X.w X.A it [it] [it] x.cps.size (SignAt x) (λi h=>h.IsStrIter it ty x t i):=by
   rcases hty with e|e
   ·rw[e];exact Walks.strAscii (I.ok.hd hc) it x t
   ·rw[e];exact Walks.strWide (I.ok.hd hc) it x t
  have hno:["enumerate","zip","dict_itemiterator","dict_reverseitemiterator","odict_iterator","itertools.zip_longest","itertools.pairwise"].contains ty=false:=by
   rcases hty with e|e
   ·rw[e];decide
   ·rw[e];decide
  refine W.item i s _ _ hg st λv h' tk hv st' kk=>?_
  obtain⟨c,u,hcx,rfl⟩:=hv
  have I1:Inv X pins σ H {s with heap:=h',toks:=tk}:=I.turned (λb o hb e=>kk b o (by simpa using hb) e) f0 f1 f3 f4 f5
  obtain⟨oi,e,cc,dd⟩:=id st'
  exact⟨_,rfl,Ke (s:={s with heap:=h',toks:=tk}) e cc dd hno ⟨.str ⟨#[c]⟩,H,I1,⟨u,rfl⟩,⟨rfl,c,hcx,rfl⟩,st',λb hb=>(hf b hb).1⟩⟩
 done:=by
  intro X hP hw hK hc i pins s σ H E I hf st hg
  subst hP hw hK
  obtain⟨f0,f1,f2,f3,f4,f5⟩:=hf it (by simp)
  have hx:x.cps[i]?=none:=Array.getElem?_eq_none hg
  rcases hty with e|e
  ·rw[e]at st
   exact wpAny_pyNext_ascii_end (I.ok.hd hc) st hx λh' eb=>⟨rfl,I.turned (t':=s.toks) (λb o hb e=>eb b o hb e) f0 f1 f3 f4 f5⟩
  ·rw[e]at st
   exact wpAny_pyNext_wide_end (I.ok.hd hc) st hx λh' eb=>⟨rfl,I.turned (t':=s.toks) (λb o hb e=>eb b o hb e) f0 f1 f3 f4 f5⟩
 self:=λA i s Q E st h=>by
  rcases hty with e|e
  ·rw[e]at st;exact wpAny_pyIter_striter_ascii st h
  ·rw[e]at st;exact wpAny_pyIter_striter_wide st h
def Vf(te:TE):TI:=λσ H R=>te σ H (kQ R λv H1 R=>ex1 R λx R=>v=.str x/\R (UZ x) H1)
theorem Ss{X:Cx}{tg e:Expr}{te:TE}(he:PE X e te):PI X tg e (Vf te):=by
 intro pins s σ H R I h
 refine fH (he pins s σ H _ I h) λv s1 zz2=>?_
 obtain⟨y,H1,I1,r1,x,ex,q⟩:=zz2
 subst ex
 obtain⟨t,rfl⟩:=r1
 cases ha:x.cps.all (·<128)
 ·exact wpAny_pyIter_wide ha (IP (tk:=s1.toks) I1 _ (Hf _ x t "str_iterator" (.inr rfl)) ⟨_,bh _ rfl,rfl,rfl⟩ q)
 ·exact wpAny_pyIter_ascii ha (IP (tk:=s1.toks) I1 _ (Hf _ x t "str_ascii_iterator" (.inl rfl)) ⟨_,bh _ rfl,rfl,rfl⟩ q)
section
variable{prog:Program}{w:World}{A:Around}{E:Value->Shared->Prop}{s:Shared}
end
section
variable{X:Cx}{pins:List (Addr×Obj)}{σ:St}{H:Hp}{s:Shared}{d:Addr}{o:Obj}
end
section
variable{P:Program}{w:World}{K:af}{tg:Expr}{d:Addr}{o:Obj}{es:Array DictEntry}{ep:Nat}
end
section
variable{X:Cx}{tg e:Expr}{td:TE}{apos cpos:Pos}
end
theorem Lm:bootBuiltins "zip"=aa (.type "zip"):=by decide+kernel
def U1(K:af)(a b:Addr):It:=
 ⟨λi H=>∃(xs ys:List V)(x y:V),cJ K H a xs/\cJ K H b ys/\xs[i]?=aa x/\ys[i]?=aa y,
   λi H v H'=>∃T x y,v=.ref T/\H T=none/\H'=upd H T (.tup [x,y])/\(∀xs,cJ K H a xs->xs[i]?=aa x)/\∀ys,cJ K H b ys->ys[i]?=aa y,
   λi H=>∃xs ys:List V,cJ K H a xs/\cJ K H b ys/\(xs.length<=i\/ys.length<=i)⟩
theorem OZ{P:Program}{w:World}{K:af}{elts:List Expr}{kk:Nat}{tpos:Pos}{a b z TI TO i1 i2:Addr}(D:ZipApart z TI TO i1 i2 a b):
  Turn P w K (.Tuple elts kk tpos) (U1 K a b) [z,TI,TO,i1,i2] z (λi h=>IsZip h z TI TO .none/\IsPair h TI (.ref i1) (.ref i2)/\(∃x y,IsPair h TO x y)/\h.IsListIter i1 a i/\h.IsListIter i2 b i)where
 mem:=by simp
 obj:=λi h st c hc=>by
  obtain⟨hz,hTI,⟨x,y,hTO⟩,⟨o1,e1,_,d1⟩,⟨o2,e2,_,d2⟩⟩:=st
  have e':c=z\/c=TI\/c=TO\/c=i1\/c=i2:=by simpa using hc
  rcases e' with q|q|q|q|q
  ·rw[q];exact⟨_,hz,λv q=>nomatch q⟩
  ·rw[q];exact⟨_,hTI,λv q=>nomatch q⟩
  ·rw[q];exact⟨_,hTO,λv q=>nomatch q⟩
  ·rw[q];exact⟨o1,e1,λv q=>by rw[d1]at q;cases q⟩
  ·rw[q];exact⟨o2,e2,λv q=>by rw[d2]at q;cases q⟩
 keep:=λi h h' st k=>by
  obtain⟨hz,hTI,⟨x,y,hTO⟩,h1,h2⟩:=st
  exact⟨k z (by simp) _ hz,k TI (by simp) _ hTI,⟨x,y,k TO (by simp) _ hTO⟩,h1.at λo q=>k i1 (by simp) o q,h2.at λo q=>k i2 (by simp) o q⟩
 item:=by
  intro X hP hw hK hc i pins s σ H E I hf st hg
  subst hP hw hK
  obtain⟨hz,hTI,⟨x0,y0,hTO⟩,h1,h2⟩:=st
  obtain⟨xs,ys,x,y,hqx,hqy,hx,hy⟩:=hg
  obtain⟨its,rv,p,_⟩:=I.list hqx
  obtain⟨its2,rv2,p2,_⟩:=I.list hqy
  obtain⟨u,hu,ru⟩:=rv.get hx
  obtain⟨u2,hu2,ru2⟩:=rv2.get hy
  have hzl:z<s.heap.objs.size:=aQ hz
  refine wpAny_pyNext_zip_item D hz hTI hTO h1 h2 p.isList p2.isList (x:=u) (y:=u2) (by simpa using hu) (by simpa using hu2) λh' z' TO' h1' h2' hT hsz hk=>?_
  refine⟨_,rfl,wpAny_letOwnedTupleGo_zip (s:={s with heap:=h'}) z' λh'' z'' sb=>?_⟩
  have hT2:h''.get? s.heap.objs.size=aa {cls:=.type "tuple",data:=.seq #[u,u2]}:=(sb.2 _ (zo hzl)).trans hT
  have new:gb X.prog X.w (upd H s.heap.objs.size (.tup [x,y])) h'' s.heap.objs.size (.tup [x,y]):=
   ⟨by show 2<=sizeLine;decide,[u,u2],.cons ru (.cons ru2 .nil),⟨_,hT2,rfl,_,rfl⟩⟩
  have I1:Inv X pins σ (upd H s.heap.objs.size (.tup [x,y])) {s with heap:=h''}:=
   I.ML (t':=s.toks) (ch:=[z,TI,TO,i1,i2]) (λc o hb q=>(sb.2 c (λq'=>hb (by simp[q']))).trans (hk c o (λq'=>hb (by simp[q'])) (λq'=>hb (by simp[q'])) (λq'=>hb (by simp[q'])) (λq'=>hb (by simp[q'])) q)) hf (ah _) new
  refine⟨.ref s.heap.objs.size,_,I1,rfl,⟨_,x,y,rfl,I.dO.fresh (ah _),rfl,λl hl=>by rw[I.wM hl hqx];exact hx,λl hl=>by rw[I.wM hl hqy];exact hy⟩,⟨z'',?_,⟨u,u2,?_⟩,?_,?_⟩,λc hcm=>?_⟩
  ·exact(sb.2 _ D.TIz).trans (hk _ _ D.TIz D.TITO D.TIi1 D.TIi2 hTI)
  ·exact(sb.2 _ D.TOz).trans TO'
  ·exact h1'.at λo q=>(sb.2 _ D.i1z).trans q
  ·exact h2'.at λo q=>(sb.2 _ D.i2z).trans q
  ·have hlt:c<s.heap.objs.size:=by
    have e':c=z\/c=TI\/c=TO\/c=i1\/c=i2:=by simpa using hcm
    rcases e' with q|q|q|q|q
    ·rw[q];exact hzl
    ·rw[q];exact aQ hTI
    ·rw[q];exact aQ hTO
    ·rw[q];obtain⟨_,e1,_⟩:=h1;exact aQ e1
    ·rw[q];obtain⟨_,e2,_⟩:=h2;exact aQ e2
   rw[az (bJ hlt)]
   exact(hf c hcm).1
 done:=by
  intro X hP hw hK hc i pins s σ H E I hf st hg
  subst hP hw hK
  obtain⟨hz,hTI,⟨x0,y0,hTO⟩,h1,h2⟩:=st
  obtain⟨xs,ys,hqx,hqy,hend⟩:=hg
  obtain⟨its,rv,p,_⟩:=I.list hqx
  obtain⟨its2,rv2,p2,_⟩:=I.list hqy
  have l1:=rv.length
  have l2:=rv2.length
  have he:its.toArray[i]?=none\/its2.toArray[i]?=none:=by
   rcases hend with q|q
   ·exact .inl (by simp;lia)
   ·exact .inr (by simp;lia)
  exact wpAny_pyNext_zip_end (I.ok.hd hc) D hz hTI hTO h1 h2 p.isList p2.isList he λh' hk=>⟨rfl,I.Rb (t':=s.toks) (ch:=[z,TI,TO,i1,i2]) (λc o hb q=>
   hk c o (λq'=>hb (by simp[q'])) (λq'=>hb (by simp[q'])) (λq'=>hb (by simp[q'])) (λq'=>hb (by simp[q'])) q) hf⟩
 self:=λA i s Q E st h=>wpAny_pyIter_zip st.1 h
def Vg(K:af)(ta:TA):TI:=λσ H R=>ta σ H (kQ R λvs H1 R=>ex4 R λa b xs ys R=>vs=[.ref a,.ref b]/\cJ K H1 a xs/\cJ K H1 b ys/\R (U1 K a b) H1)
theorem Su{X:Cx}{e e2:Expr}{ta:TA}{p pos tpos:Pos}{elts:List Expr}{kk:Nat}(hg:Gl X "zip")(hm:X.mg "zip"=none)(ha:PA X [e,e2] ta)
  (hs:starEach [e,e2] X.env=(false,eval e X.env)::starEach [e2] X.env:=by rfl)(hpl:(backTo pos (starEach [e2] X.env)).any (·.1)=false:=by rfl):
  PI X (.Tuple elts kk tpos) (.Call (.Name "zip" p) [e,e2] [] pos) (Vg X.K ta):=by
 intro pins s σ H R I h
 refine Call_ (xX I hg hm Lm (iO (fH (ha pos pins s σ H _ I h) λus s1 zy=>?_) hs hpl))
 obtain⟨vs,H1,I1,r1,q1⟩:=zy
 obtain⟨a,b,xs,ys,ex,hqx,hqy,q⟩:=q1
 subst ex
 cases r1 with
 |cons r rr=>
  cases rr with
  |cons r' rr=>
   cases rr
   cases r
   cases r'
   obtain⟨its,rv,p1,_⟩:=I1.list hqx
   obtain⟨its2,rv2,p2,_⟩:=I1.list hqy
   have la:a<s1.heap.objs.size:=p1.lt
   have lb:b<s1.heap.objs.size:=p2.lt
   refine call_zip_2 p1.isList p2.isList λh' hz hTI hTO h1 h2 hsz hk=>wpAny_pyIter_zip hz ?_
   have I2:Inv X pins σ H1 {s1 with heap:=h'}:=I1.kept (t':=s1.toks) hk
   refine⟨s1.heap.objs.size+4,[s1.heap.objs.size+4,s1.heap.objs.size+2,s1.heap.objs.size+3,s1.heap.objs.size,s1.heap.objs.size+1],_,_,H1,rfl,I2,OZ (PySem.W.ktu_apart s1.heap.objs.size a b la lb),⟨hz,hTI,⟨_,_,hTO⟩,h1,h2⟩,λc hcm=>?_,q⟩
   have e':c=s1.heap.objs.size+4\/c=s1.heap.objs.size+2\/c=s1.heap.objs.size+3\/c=s1.heap.objs.size\/c=s1.heap.objs.size+1:=by simpa using hcm
   have hle:s1.heap.objs.size<=c:=by
    rcases e' with z|z|z|z|z
    ·rw[z];exact j6 _ _
    ·rw[z];exact j6 _ _
    ·rw[z];exact j6 _ _
    ·rw[z];exact ah _
    ·rw[z];exact j6 _ _
   exact I1.NS hle (I1.dO.fresh hle)
end L2
section
namespace Bits
open PySem PyProof.Rows
end Bits
end
section
namespace TL
open PySem PySem.Builtin PySem.Builtin.Str PySem.StrLaws
abbrev tl(x:Str):List Nat:=x.cps.toList
theorem vH(x:Str):x.length=(tl x).length:=by simp[tl,Str.length]
theorem HX{x y:Str}(h:tl x=tl y):x=y:=Str.ext' (MZ.mp h)
theorem iI(x y:Str):tl (x++y)=tl x++tl y:=by
 show(x++y).cps.toList=_
 rw[Str.cps_append,Array.toList_append]
def pre(S l:List Nat):Bool:=l.take S.length==S
theorem GV{s c:Nat}(S r:List Nat)(h:c≠s):pre (s::S) (c::r)=false:=by
 cases hp:pre (s::S) (c::r)with
 |false=>rfl
 |true=>
  have e:(c::r).take (s::S).length=s::S:=eq_of_beq hp
  rw[aF,List.take_succ_cons]at e
  injection e with e1 e2
  exact absurd e1 h
theorem mx{s:Nat}{S p q:List Nat}(h:s∉p):∀i,i<p.length->pre (s::S) ((p++q).drop i)=false:=λi hi=>by
 have hlt:i<(p++q).length:=by rw[ai];lia
 have e:(p++q).drop i=(p++q)[i]::(p++q).drop (i+1):=bO hlt
 rw[e]
 refine GV _ _ λz=>h ?_
 have e1:(p++q)[i]=p[i]:=List.getElem_append_left hi
 rw[<-z,e1]
 exact O8 hi
def Gn(S:List Nat):List (List Nat)->List Nat
 |[]=>[]
 |[p]=>p
 |p::q::r=>p++(S++Gn S (q::r))
theorem K2(y:Str):∀parts:List Str,tl (Str.join y parts)=Gn (tl y) (parts.map tl)
 |[]=>rfl
 |[_]=>rfl
 |x::z::r=>by
  show tl (x++y++Str.join y (z::r))=tl x++(tl y++Gn (tl y) ((z::r).map tl))
  rw[iI,iI,K2 y (z::r),dm]
theorem join_eq(y:Str)(parts:List Str):zp y parts=Str.join y parts:=glued_eq_join y parts
def vK(n:Nat):List Nat:=(lV 10 n).map MN
theorem Jr(n:Nat):tl (cj (toString ((n:Nat):Int)))=vK n:=PySem.W.KIN.signs_num n
theorem vc:∀d:Nat,d<10->(FD d).toNat=48+d:=by decide
theorem Qe{n:Nat}(h:n<10):vK n=[48+n]:=by
 unfold vK
 rw[Ht h]
 show[(FD n).toNat]=_
 rw[vc n h]
theorem L8{n:Nat}(h:10<=n):vK n=vK (n/10)++[48+n%10]:=by
 have hm:n%10<10:=M5 n (by decide)
 have t:lV 10 (n/10)++lV 10 (n%10)=lV 10 (10*(n/10)+n%10):=Nat.toDigits_append_toDigits (by decide) (by lia) hm
 rw[Nat.div_add_mod]at t
 show(lV 10 n).map MN=_
 rw[<-t,aB,Ht hm]
 show(lV 10 (n/10)).map MN++[(FD (n%10)).toNat]=_
 rw[vc _ hm]<;>rfl
theorem GC(n:Nat):NumText.AllDigits (vK n):=by
 induction n using jj with
 |_ n ih=>
  by_cases h:n<10
  ·rw[Qe h]
   intro c hc
   rw[aK.mp hc]
   lia
  ·rw[L8 (by ac_rfl)]
   intro c hc
   rcases ck.mp hc with hc|hc
   ·exact ih (n/10) (by lia) c hc
   ·have hm:n%10<10:=M5 n (by decide)
    rw[aK.mp hc]
    lia
theorem Oi{n k:Nat}(hk:0<k)(h:n<10^k):(vK n).length<=k:=by
 have z:=PyProof.Rows.toString_length_le (v:=(n:Int)) (by ac_rfl) hk (by
  have e:((10:Int)^k)=((10^k:Nat):Int):=by
   first
    |exact(Int.natCast_pow 10 k).symm
    |simp
  rw[e]
  first|exact Int.ofNat_lt.mpr h|lia)
 rw[vH,Jr]at z
 exact z
end TL
end
namespace L2
open PySem PySem.Spec PyProof.Rows
theorem rT:∀{ys:List Str}{us:List Value},Vals (ys.map V.str) us->StrsAre us ys
 |[],_,.nil=>.nil
 |y::ys,_,.cons r t=>by
  obtain⟨k,rfl⟩:=r
  exact .cons y k (rT t)
section
variable{X:Cx}{pins:List (Addr×Obj)}{σ:St}{H:Hp}{s:Shared}{Q:VK}
end
section
variable{X:Cx}
theorem Qc:U4 X "str.join" (λx xs H Q=>∃a p,∃ys:List Str,x=.str a/\xs=[.ref p]/\(cJ X.K H p (ys.map V.str)\/vb X.K H p (ys.map V.str))/\
  (ys.map (·.length)).sum+ys.length*a.length<=16777216/\Q (.str (zp a ys)) H):=by
 intro pins s σ H x xs v us Q I rx rs h
 obtain⟨a,p,ys,rfl,rfl,hp,hz,h⟩:=h
 obtain⟨t,rfl⟩:=rx
 cases rs with
 |cons r1 rs=>
  cases rs
  cases r1
  rcases hp with hp|hp
  ·obtain⟨its,r,⟨o,n,ho,hc,_,hd⟩,_⟩:=I.list hp
   exact PyProof.Rows.join_list (items:=its.toArray) ⟨o,ho,hc,n,hd⟩ (by rw[K7];exact rT r) hz λt' k=>⟨.str _,H,I.tok k,⟨t',rfl⟩,h⟩
  ·obtain⟨its,r,ht,_⟩:=I.tuple hp
   exact PyProof.Rows.join_tuple (items:=its.toArray) ht (by rw[K7];exact rT r) hz λt' k=>⟨.str _,H,I.tok k,⟨t',rfl⟩,h⟩
end
section
variable{X:Cx}{o e:Expr}{to te:TE}
def Wc(r:V->List V->Hp->VK->Prop)(to te:TE):TE:=λσ H Q=>to σ H (kQ Q λx H1 Q=>(∃a,x=.str a)/\te σ H1 (kQ Q λy H2 Q=>r x [y] H2 Q))
theorem Ud{id:String}{name:Str}{apos pos:Pos}{r:V->List V->Hp->VK->Prop}(slot:Slot "str" name id)(ty:typeOf (.builtin id)=pure (.type "method_descriptor"))(rule:U4 X id r)(ho:PE X o to)(he:PE X e te)
  (hs:starEach [e] X.env=[(false,eval e X.env)]:=by rfl)(hbase:attributeBase o name X.env (eval o X.env)=eval o X.env:=by rfl)(hline:(apos.endLine==pos.line)=true:=by rfl):
  PE X (.Call (.Attribute o name apos) [e] [] pos) (Wc r to te):=by
 intro pins s σ H Q I h
 refine PySem.Call_method1 hbase hs hline (fH (ho pins s σ H _ I h) λv s1 zy=>?_)
 obtain⟨x,H1,I1,r1,q1⟩:=zy
 obtain⟨⟨a,rfl⟩,q1⟩:=q1
 obtain⟨t,rfl⟩:=_root_.id r1
 refine⟨"str",_,F.plainAttrs_str,slot,ty,typeIs_str _ _ _,(λ_ e=>nomatch e),FE rfl (HK (Lc ?_))⟩
 exact fH (he pins s1 σ H1 _ I1 q1) λu s2 zy=>by obtain⟨y,H2,I2,r2,q2⟩:=zy;exact MT (rule pins s2 σ H2 _ [y] _ [u] Q I2 r1 (.cons r2 .nil) q2)
theorem Qt{apos pos:Pos}(ho:PE X o to)(he:PE X e te)(hs:starEach [e] X.env=[(false,eval e X.env)]:=by rfl)(hbase:attributeBase o "join" X.env (eval o X.env)=eval o X.env:=by rfl)(hline:(apos.endLine==pos.line)=true:=by rfl):
  PE X (.Call (.Attribute o "join" apos) [e] [] pos) (Wc (λx xs H Q=>∃a p,∃ys:List Str,x=.str a/\xs=[.ref p]/\(cJ X.K H p (ys.map V.str)\/vb X.K H p (ys.map V.str))/\
   (ys.map (·.length)).sum+ys.length*a.length<=16777216/\Q (.str (zp a ys)) H) to te):=
 Ud F.slot_str_join F.type_str_join Qc ho he hs hbase hline
end
end L2
namespace L2
open PySem PySem.Spec PyProof.Rows
section
variable{X:Cx}
end
end L2
namespace Att
open PySem PySem.W PySem.Calls PyProof.Rows
section
variable{prog:Program}{w:World}{A:Around}{E:Value->Shared->Prop}{s:Shared}{K:Frag}
end
end Att
namespace L2
open PySem PySem.Spec PyProof.Rows
end L2
namespace L2
open PySem PySem.Spec PyProof.Rows
end L2
namespace L2
open PySem PySem.Spec PyProof.Rows
def inClass(s:Stmt)(j:Nat):Stmt:=match s with
 |.ClassDef _ _ _ body _ _ _ _ _ _ _=>body.getD j (.Pass ⟨0,0,0,0⟩)
 |_=>.Pass ⟨0,0,0,0⟩
def lF(s:Stmt):Arguments:=match s with
 |.FunctionDef _ a _ _ _ _ _ _ _ _=>a
 |_=>{posonlyargs:=[],args:=[],vararg:=none,kwonlyargs:=[],kw_defaults:=[],kwarg:=none,defaults:=[]}
def ig(s:Stmt):List Stmt:=match s with
 |.FunctionDef _ _ b _ _ _ _ _ _ _=>b
 |_=>[]
def aq(s:Stmt):Scope:=match s with
 |.FunctionDef _ _ _ _ _ _ sc _ _ _=>sc
 |_=>{kind:=.function,names:=[],isGenerator:=false,isCoroutine:=false}
abbrev E0:XK:=λ_ _ _=>False
structure K6(K:af)(x qual:Str)(st:Stmt)(f:Addr)(fd:FuncData):Prop where
 ex:∃(oc:Value)(od:Option Addr)(kV doc pm:Value)(an:Option Addr)(cdv ct:Value)(osl:Array (Option Value)),
  fd=i5 x qual (lF st) (ig st) (aq st) .none kV doc pm an cdv ct/\K.lookup f=aa ⟨oc,od,.func fd,osl⟩/\mH K cdv qual=true
 kp:cK K (.ref f)=true
section
variable{P:Program}{w:World}{K:af}{mg:Str->Option Value}{base:Heap}
theorem K6.binds{x qual:Str}{st:Stmt}{f:Addr}{fd:FuncData}{ps:List Str}(F:K6 K x qual st f fd)
  (h:∀(kV doc pm:Value)(an:Option Addr)(cdv ct:Value)(us:List Value),us.length=ps.length->bindArgs (i5 x qual (lF st) (ig st) (aq st) .none kV doc pm an cdv ct) ⟨us,[]⟩=pure (ps.zip us)):Binds K fd ps []:=by
 obtain⟨oc,od,kV,doc,pm,an,cdv,ct,osl,rfl,lk,hcd⟩:=F.ex
 exact .all (h kV doc pm an cdv ct)
theorem RS{x qual:Str}{st:Stmt}{f:Addr}{oc:Value}{od an:Option Addr}{osl:Array (Option Value)}{kV doc pm cdv ct:Value}(l:K.lookup f=aa ⟨oc,od,.func (i5 x qual (lF st) (ig st) (aq st) .none kV doc pm an cdv ct),osl⟩)
 (c:mH K cdv qual=true)(k:cK K (.ref f)=true):K6 K x qual st f (i5 x qual (lF st) (ig st) (aq st) .none kV doc pm an cdv ct):=⟨⟨oc,od,kV,doc,pm,an,cdv,ct,osl,rfl,l,c⟩,k⟩
end
theorem r9{A:Around}{k:Nat}(hr:iK k A):A.units+1<cLine:=eB (Nat.add_le_add_left (by decide:1<=64) _) hr.units
section
variable{X:Cx}
theorem pv(i:Nat){x:Str}{pos:Pos}(hN:X.N[i]?=aa x:=by rfl)(hv:Pq X.env.scope x:=by first|exact Or.inl rfl|exact Or.inr (Or.inl rfl)|exact Or.inr (Or.inr rfl))(hd:(x==("__debug__":Str))=false:=by decide)
 (hcd:(x==("__classdict__":Str))=false:=by decide):PE X (.Name x pos) (fN i):=IL hN hv hd hcd
end
theorem fM{A B:Prop}(h:B):if false=true then A else B:=by
 rw[if_neg bc]
 exact h
theorem eD{A B:Prop}(h:A):if true=true then A else B:=by
 rw[if_pos rfl]
 exact h
theorem zw{c A B:Prop}[Decidable c](h1:c->A)(h2:¬c->B):if c then A else B:=by
 by_cases h:c
 ·rw[if_pos h]
  exact h1 h
 ·rw[if_neg h]
  exact h2 h
def aJ(H H':Hp):Prop:=∀b o,H b=aa o->H' b=aa o
theorem aJ.refl(H:Hp):aJ H H:=λ_ _ h=>h
theorem aJ.trans{H H1 H2:Hp}(a:aJ H H1)(b:aJ H1 H2):aJ H H2:=λc o h=>b c o (a c o h)
theorem aJ.free{H H':Hp}(e:aJ H H'){l:Addr}(h:H' l=Option.none):H l=Option.none:=by
 cases q:H l with
 |none=>rfl
 |some o=>
  rw[e l o q]at h
  cases h
section
variable{κ:Type}[DecidableEq κ]
end
end L2
end
section
namespace L2
open PySem PySem.Spec PyProof.Rows
open PySem.W (WData Codec OpenSpec Well WellAll ReadsW ReadsAllW)
mutual
inductive Dw(K:af)(H:Hp):V->WData->Prop
 |iD:Dw K H .iD .none
 |bl (b:Bool):Dw K H (.bl b) (.bool b)
 |int (i:Int):Dw K H (.int i) (.int i)
 |str (x:Str):Dw K H (.str x) (.str x)
 |HD (b:Array UInt8):Dw K H (.HD b) (.bytes b.toList)
 |lst {a:Addr} {xs:List V} {ds:List WData}:cJ K H a xs->rZ K H xs ds->Dw K H (.ref a) (.list ds)
 |tup {a:Addr} {xs:List V} {ds:List WData}:vb K H a xs->rZ K H xs ds->Dw K H (.ref a) (.tuple ds)
inductive rZ(K:af)(H:Hp):List V->List WData->Prop
 |nil:rZ K H [] []
 |cons {v:V} {vs:List V} {d:WData} {ds:List WData}:Dw K H v d->rZ K H vs ds->rZ K H (v::vs) (d::ds)
end
theorem JZ{K:af}{H:Hp}:∀ns:List Int,rZ K H (ns.map V.int) (ns.map WData.int)
 |[]=>.nil
 |n::r=>.cons (.int n) (JZ r)
theorem Kg{K:af}{H:Hp}:∀(ns:List Int)(xs:List V),rZ K H xs (ns.map WData.int)->xs=ns.map V.int
 |[],xs,h=>by
  cases h
  rfl
 |n::r,xs,h=>by
  cases h with
  |cons h1 h2=>
   cases h1
   rw[Kg r _ h2]<;>rfl
section
variable{P:Program}{w:World}{K:af}{H:Hp}{h:Heap}{R:Lh}{cl:Str->Option Addr}
theorem SX{a:Addr}{xs:List V}(dO:pV P w H h)(KX:K.In h)(q:cJ K H a xs):∃(its:List Value)(o:Obj)(n:Nat),Vals xs its/\h.get? a=aa o/\o.cls=.type "list"/\o.data=.seq its.toArray n:=by
 rcases q with q|⟨o,its,n,e,hc,_,hd,_,hv⟩
 ·obtain⟨_,its,n,hv,e⟩:=(show gb P w H h a (.lst xs)from q.ok dO)
  exact⟨its,_,n,hv,e,rfl,rfl⟩
 ·exact⟨its.toList,o,n,hv,KX _ _ e,hc,by simp[hd]⟩
theorem SY{a:Addr}{xs:List V}(dO:pV P w H h)(KX:K.In h)(q:vb K H a xs):∃(its:List Value)(o:Obj)(n:Nat),Vals xs its/\h.get? a=aa o/\o.cls=.type "tuple"/\o.data=.seq its.toArray n:=by
 rcases q with q|⟨o,its,n,e,hc,hd,_,hv⟩
 ·obtain⟨_,its,hv,o,e,hc,n,hd⟩:=(show gb P w H h a (.tup xs)from q.ok dO)
  exact⟨its,o,n,hv,e,hc,hd⟩
 ·exact⟨its.toList,o,n,hv,KX _ _ e,hc,by simp[hd]⟩
mutual
theorem Dw.reads(dO:pV P w H h)(KX:K.In h):∀(d:WData)(v:V)(u:Value),Dw K H v d->RelV v u->∃as,ReadsW R cl h u d as
 |.none,_,_,x,r=>by
  cases x
  cases r
  exact⟨_,ReadsW.none⟩
 |.bool b,_,_,x,r=>by
  cases x
  cases r
  exact⟨_,ReadsW.bool b⟩
 |.int i,_,_,x,r=>by
  cases x
  obtain⟨t,rfl⟩:=r
  exact⟨_,ReadsW.int i t⟩
 |.str s,_,_,x,r=>by
  cases x
  obtain⟨t,rfl⟩:=r
  exact⟨_,ReadsW.str s t⟩
 |.bytes b,_,_,x,r=>by
  cases x
  obtain⟨t,rfl⟩:=r
  exact⟨_,ReadsW.bytes _ t⟩
 |.list ds,_,_,x,r=>by
  cases x with
  |lst hs ha=>
   cases r
   obtain⟨its,o,n,rv,ho,hc,hd⟩:=SX dO KX hs
   obtain⟨as,hr⟩:=Dw.readsAll dO KX ds _ its ha rv
   exact⟨_,ReadsW.list ho hc hd hr⟩
 |.tuple ds,_,_,x,r=>by
  cases x with
  |tup hs ha=>
   cases r
   obtain⟨its,o,n,rv,ho,hc,hd⟩:=SY dO KX hs
   obtain⟨as,hr⟩:=Dw.readsAll dO KX ds _ its ha rv
   exact⟨_,ReadsW.tuple ho hc hd hr⟩
 |.float _,_,_,x,_=>by cases x
 |.dict _,_,_,x,_=>by cases x
 |.bytearray _,_,_,x,_=>by cases x
 |.set _,_,_,x,_=>by cases x
 |.frozenset _,_,_,x,_=>by cases x
 |.obj _ _,_,_,x,_=>by cases x
theorem Dw.readsAll(dO:pV P w H h)(KX:K.In h):∀(ds:List WData)(vs:List V)(us:List Value),rZ K H vs ds->Vals vs us->∃as,ReadsAllW R cl h us ds as
 |[],_,_,x,r=>by
  cases x
  cases r
  exact⟨_,ReadsAllW.nil⟩
 |d::ds,_,_,x,r=>by
  cases x with
  |cons h1 h2=>
   cases r with
   |cons r1 r2=>
    obtain⟨as,q1⟩:=Dw.reads dO KX d _ _ h1 r1
    obtain⟨bs,q2⟩:=Dw.readsAll dO KX ds _ _ h2 r2
    exact⟨_,ReadsAllW.cons q1 q2⟩
end
end
mutual
def KH:WData->Bool
 |.none=>true
 |.bool _=>true
 |.int _=>true
 |.str _=>true
 |.bytes _=>true
 |.list xs=>zB xs
 |.tuple xs=>zB xs
 |_=>false
def zB:List WData->Bool
 |[]=>true
 |x::r=>KH x&&zB r
end
theorem GU{α:Type}{f:α->WData}(h:∀a,KH (f a)=true):∀l:List α,zB (l.map f)=true
 |[]=>rfl
 |x::r=>by
  show(KH (f x)&&zB (r.map f))=true
  rw[h x,GU h r]<;>rfl
theorem tK:∀(c:Codec)(a:c.denote),KH (c.enc a)=true
 |.unit,_=>rfl
 |.bool,_=>rfl
 |.int _ _,_=>rfl
 |.nat _ _,_=>rfl
 |.u8,_=>rfl
 |.bytes _ _,_=>rfl
 |.text _ _ _ _,_=>rfl
 |.list _ _ c,a=>GU (λx=>tK c x) a
 |.pair c d,a=>by
  show(KH (c.enc a.1)&&(KH (d.enc a.2)&&true))=true
  rw[tK c a.1,tK d a.2]<;>rfl
 |.triple c d e,a=>by
  show(KH (c.enc a.1)&&(KH (d.enc a.2.1)&&(KH (e.enc a.2.2)&&true)))=true
  rw[tK c a.1,tK d a.2.1,tK e a.2.2]<;>rfl
 |.option c,none=>rfl
 |.option c,aa x=>tK c x
theorem Dv:∀(cs:List Codec)(a:Af cs),zB (sv cs a)=true
 |[],_=>rfl
 |c::cs,a=>by
  show(KH (c.enc a.1)&&zB (sv cs a.2))=true
  rw[tK c a.1,Dv cs a.2]<;>rfl
theorem wg:∀{xs:List WData}{d:WData},d∈xs->d.weight<=sO xs
 |[],d,h=>absurd h (by simp)
 |x::r,d,h=>by
  show d.weight<=x.weight+1+sO r
  rcases aG.mp h with e|m
  ·rw[e]
   ac_rfl
  ·have z:=wg m
   lia
def toV:Value->V
 |.none=>.iD
 |.bool b=>.bl b
 |.int i _=>.int i
 |.str x _=>.str x
 |.bytes b _=>.HD b
 |.ref a=>.ref a
 |_=>.iD
def La(A:List Addr):Value->Prop
 |.none=>True
 |.bool _=>True
 |.int _ _=>True
 |.str _ _=>True
 |.bytes _ _=>True
 |.ref a=>a∈A
 |_=>False
theorem La.mono{A B:List Addr}(h:∀a∈A,a∈B):∀{u:Value},La A u->La B u:=λ{u} x=>by
 cases u with
 |ref a=>exact h a x
 |none=>trivial
 |bool b=>trivial
 |int i t=>trivial
 |str s t=>trivial
 |bytes b t=>trivial
 |_=>exact cy x
theorem OD{A:List Addr}{u:Value}(x:La A u):RelV (toV u) u:=by
 cases u with
 |ref a=>rfl
 |none=>rfl
 |bool b=>rfl
 |int i t=>exact⟨t,rfl⟩
 |str s t=>exact⟨t,rfl⟩
 |bytes b t=>exact⟨t,rfl⟩
 |_=>exact cy x
theorem qU{A:List Addr}:∀{vs:List Value},(∀u∈vs,La A u)->Vals (vs.map toV) vs
 |[],_=>.nil
 |u::r,h=>.cons (OD (h u (ay ..))) (qU λx hx=>h x (ax _ hx))
def rY(h:Heap)(A:List Addr)(a:Addr):Prop:=∃vs:List Value,vs.length<=sizeLine/\(∀u∈vs,La A u)/\
 (h.get? a=aa {cls:=.type "list",data:=.seq vs.toArray}\/h.get? a=aa {cls:=.type "tuple",data:=.seq vs.toArray})
theorem rY.mono{h:Heap}{A B:List Addr}{a:Addr}(k:∀a∈A,a∈B)(x:rY h A a):rY h B a:=by
 obtain⟨vs,h1,h2,h3⟩:=x
 exact⟨vs,h1,λu hu=>(h2 u hu).mono k,h3⟩
theorem pU{P:Params}{h:Heap}:∀{vs:List Value}{ds:List WData},WellAll P h vs ds->vs.length=ds.length
 |_,_,.nil=>rfl
 |_,_,.cons _ b=>by
  show _+1=_+1
  rw[pU b]
theorem DQ{P:Params}{h:Heap}{v:Value}{ds:List WData}(x:Well P h v (.list ds)):∃(a:Addr)(vs:List Value),v=.ref a/\h.get? a=aa {cls:=.type "list",data:=.seq vs.toArray}/\WellAll P h vs ds:=by
 cases x with
 |list ho hall=>exact⟨_,_,rfl,ho,hall⟩
theorem BK{P:Params}{h:Heap}{v:Value}{ds:List WData}(x:Well P h v (.tuple ds)):∃(a:Addr)(vs:List Value),v=.ref a/\h.get? a=aa {cls:=.type "tuple",data:=.seq vs.toArray}/\WellAll P h vs ds:=by
 cases x with
 |tuple ho hall=>exact⟨_,_,rfl,ho,hall⟩
theorem DP{P:Params}{h:Heap}{us:List Value}{d:WData}{ds:List WData}(x:WellAll P h us (d::ds)):∃(v:Value)(vs:List Value),us=v::vs/\Well P h v d/\WellAll P h vs ds:=by
 cases x with
 |cons a b=>exact⟨_,_,rfl,a,b⟩
theorem Kr{n:Nat}(h:n<=1048576):n<=sizeLine:=aX h (by decide)
section
variable{P:Params}{h:Heap}
mutual
theorem Nd:∀(d:WData)(v:Value),Well P h v d->KH d=true->d.weight<=1048576->∃A:List Addr,La A v/\∀a∈A,rY h A a
 |.none,_,x,_,_=>by
  cases x
  exact⟨[],trivial,λa m=>absurd m (by simp)⟩
 |.bool b,_,x,_,_=>by
  cases x
  exact⟨[],trivial,λa m=>absurd m (by simp)⟩
 |.int i,_,x,_,_=>by
  cases x
  exact⟨[],trivial,λa m=>absurd m (by simp)⟩
 |.str s,_,x,_,_=>by
  cases x
  exact⟨[],trivial,λa m=>absurd m (by simp)⟩
 |.bytes b,_,x,_,_=>by
  cases x
  exact⟨[],trivial,λa m=>absurd m (by simp)⟩
 |.list ds,_,x,p,z=>by
  obtain⟨a,vs,rfl,ho,hall⟩:=DQ x
  have z2:sO ds<=1048576:=z
  obtain⟨A,h1,h2⟩:=wx ds _ hall p λd hd=>aX (wg hd) z2
  have k:∀b∈A,b∈a::A:=λb hb=>ax _ hb
  refine⟨a::A,ay ..,λb hb=>?_⟩
  rcases aG.mp hb with e|m
  ·rw[e]
   exact⟨vs,Kr (by rw[pU hall];exact aX (zq ds) z2),λu hu=>(h1 u hu).mono k,.inl ho⟩
  ·exact(h2 b m).mono k
 |.tuple ds,_,x,p,z=>by
  obtain⟨a,vs,rfl,ho,hall⟩:=BK x
  have z2:sO ds<=1048576:=z
  obtain⟨A,h1,h2⟩:=wx ds _ hall p λd hd=>aX (wg hd) z2
  have k:∀b∈A,b∈a::A:=λb hb=>ax _ hb
  refine⟨a::A,ay ..,λb hb=>?_⟩
  rcases aG.mp hb with e|m
  ·rw[e]
   exact⟨vs,Kr (by rw[pU hall];exact aX (zq ds) z2),λu hu=>(h1 u hu).mono k,.inr ho⟩
  ·exact(h2 b m).mono k
 |.float _,_,_,p,_=>b0 (show false=true from p)
 |.dict _,_,_,p,_=>b0 (show false=true from p)
 |.bytearray _,_,_,p,_=>b0 (show false=true from p)
 |.set _,_,_,p,_=>b0 (show false=true from p)
 |.frozenset _,_,_,p,_=>b0 (show false=true from p)
 |.obj _ _,_,_,p,_=>b0 (show false=true from p)
theorem wx:∀(ds:List WData)(vs:List Value),WellAll P h vs ds->zB ds=true->(∀d∈ds,d.weight<=1048576)->∃A:List Addr,(∀u∈vs,La A u)/\∀a∈A,rY h A a
 |[],_,x,_,_=>by
  cases x
  exact⟨[],λu m=>absurd m (by simp),λa m=>absurd m (by simp)⟩
 |d::ds,_,x,p,z=>by
  obtain⟨v,vs,rfl,x1,x2⟩:=DP x
  have q:KH d=true/\zB ds=true:=ia.mp p
  obtain⟨A,a1,a2⟩:=Nd d v x1 q.1 (z d (ay ..))
  obtain⟨B,b1,b2⟩:=wx ds vs x2 q.2 λe he=>z e (ax _ he)
  have kA:∀b∈A,b∈A++B:=λb hb=>ck.mpr (.inl hb)
  have kB:∀b∈B,b∈A++B:=λb hb=>ck.mpr (.inr hb)
  refine⟨A++B,λu hu=>?_,λb hb=>?_⟩
  ·rcases aG.mp hu with e|m
   ·rw[e]
    exact a1.mono kA
   ·exact(b1 u m).mono kB
  ·rcases ck.mp hb with m|m
   ·exact(a2 b m).mono kA
   ·exact(b2 b m).mono kB
end
end
def PV(o:Obj):Option HO:=match o.data with
 |.seq vs _=>if(o.cls==Value.type "list")=true then aa (.B8 o (.lst (vs.toList.map toV)))else aa (.B8 o (.tup (vs.toList.map toV)))
 |_=>none
def qE(K:af)(h:Heap)(A:List Addr):Hp:=λb=>if b∈A then(if(K.lookup b).isNone=true then(h.get? b).bind PV else none)else none
def JC(H:Hp):Prop:=∀b,H b=none\/∃o u,H b=aa (.B8 o u)
theorem Gg(vs:List Value):PV {cls:=.type "list",data:=.seq vs.toArray}=aa (.B8 {cls:=.type "list",data:=.seq vs.toArray} (.lst (vs.map toV))):=by
 show(if(Value.type "list"==Value.type "list")=true then aa (HO.B8 {cls:=.type "list",data:=.seq vs.toArray} (.lst (vs.toArray.toList.map toV)))else aa (HO.B8 {cls:=.type "list",data:=.seq vs.toArray} (.tup (vs.toArray.toList.map toV))))=_
 rw[if_pos (beq_self_eq_true _)]
theorem Gh(vs:List Value):PV {cls:=.type "tuple",data:=.seq vs.toArray}=aa (.B8 {cls:=.type "tuple",data:=.seq vs.toArray} (.tup (vs.map toV))):=by
 show(if(Value.type "tuple"==Value.type "list")=true then aa (HO.B8 {cls:=.type "tuple",data:=.seq vs.toArray} (.lst (vs.toArray.toList.map toV)))else aa (HO.B8 {cls:=.type "tuple",data:=.seq vs.toArray} (.tup (vs.toArray.toList.map toV))))=_
 rw[if_neg (by decide)]
section
variable{P:Program}{w:World}{K:af}{h:Heap}{A:List Addr}
theorem zO{b:Addr}{o:Obj}(hb:b∈A)(hk:K.lookup b=none)(e:h.get? b=aa o):qE K h A b=PV o:=by
 unfold qE
 rw[if_pos hb,hk,if_pos (show(none:Option Obj).isNone=true from rfl),e]<;>rfl
theorem Qi{b:Addr}{u:HO}(q:qE K h A b=aa u):b∈A/\K.lookup b=none:=by
 unfold qE at q
 by_cases hb:b∈A
 ·rw[if_pos hb]at q
  cases hk:K.lookup b with
  |none=>exact⟨hb,rfl⟩
  |some o=>
   rw[hk,if_neg (by simp)]at q
   cases q
 ·rw[if_neg hb]at q
  cases q
theorem zP(ar:∀a∈A,rY h A a){b:Addr}{u:HO}(q:qE K h A b=aa u):K.lookup b=none/\∃vs:List Value,vs.length<=sizeLine/\(∀u∈vs,La A u)/\
  ((h.get? b=aa {cls:=.type "list",data:=.seq vs.toArray}/\u=.B8 {cls:=.type "list",data:=.seq vs.toArray} (.lst (vs.map toV)))\/
   (h.get? b=aa {cls:=.type "tuple",data:=.seq vs.toArray}/\u=.B8 {cls:=.type "tuple",data:=.seq vs.toArray} (.tup (vs.map toV)))):=by
 obtain⟨hb,hk⟩:=Qi q
 obtain⟨vs,h1,h2,h3⟩:=ar b hb
 refine⟨hk,vs,h1,h2,?_⟩
 rcases h3 with e|e
 ·rw[zO hb hk e,Gg]at q
  exact .inl ⟨e,(bq q).symm⟩
 ·rw[zO hb hk e,Gh]at q
  exact .inr ⟨e,(bq q).symm⟩
theorem Ll(ar:∀a∈A,rY h A a):JC (qE K h A):=λb=>by
 cases q:qE K h A b with
 |none=>exact .inl rfl
 |some u=>
  obtain⟨_,vs,_,_,⟨_,e⟩|⟨_,e⟩⟩:=zP ar q
  ·exact .inr ⟨_,_,by rw[e]⟩
  ·exact .inr ⟨_,_,by rw[e]⟩
theorem Pu(ar:∀a∈A,rY h A a):pV P w (qE K h A) h:=λb u q=>by
 obtain⟨_,vs,h1,h2,⟨e,rfl⟩|⟨e,rfl⟩⟩:=zP ar q
 ·exact⟨e,by rw[ae];exact h1,vs,_,qU h2,e⟩
 ·exact⟨e,by rw[ae];exact h1,vs,qU h2,_,e,rfl,_,rfl⟩
theorem z7{c c':Value}{vs us:List Value}(e:(aa {cls:=c,data:=.seq vs.toArray}:Option Obj)=aa {cls:=c',data:=.seq us.toArray}):c=c'/\vs=us:=by
 have e1:=bq e
 have e2:c=c':=congrArg Obj.cls e1
 have e3:Data.seq vs.toArray=Data.seq us.toArray:=congrArg Obj.data e1
 injection e3 with e4
 refine⟨e2,?_⟩
 have e5:=congrArg Array.toList e4
 simpa using e5
theorem Va(KX:K.In h)(ar:∀a∈A,rY h A a){a:Addr}{vs:List Value}(ha:a∈A)(e:h.get? a=aa {cls:=.type "list",data:=.seq vs.toArray}):(∀u∈vs,La A u)/\cJ K (qE K h A) a (vs.map toV):=by
 obtain⟨us,h1,h2,h3⟩:=ar a ha
 have hu:us=vs:=by
  rcases h3 with q|q
  ·rw[e]at q
   exact(z7 q).2.symm
  ·rw[e]at q
   exact absurd (JG (z7 q).1) (by decide)
 subst hu
 refine⟨h2,?_⟩
 cases hk:K.lookup a with
 |none=>exact .inl (.inr ⟨_,by rw[zO ha hk e,Gg]⟩)
 |some o=>
  have e2:=KX a o hk
  rw[e]at e2
  obtain rfl:=bq e2
  exact .inr ⟨_,us.toArray,_,hk,rfl,rfl,rfl,by rw[aO];exact h1,by simpa using qU h2⟩
theorem Vb(KX:K.In h)(ar:∀a∈A,rY h A a){a:Addr}{vs:List Value}(ha:a∈A)(e:h.get? a=aa {cls:=.type "tuple",data:=.seq vs.toArray}):(∀u∈vs,La A u)/\vb K (qE K h A) a (vs.map toV):=by
 obtain⟨us,h1,h2,h3⟩:=ar a ha
 have hu:us=vs:=by
  rcases h3 with q|q
  ·rw[e]at q
   exact absurd (JG (z7 q).1) (by decide)
  ·rw[e]at q
   exact(z7 q).2.symm
 subst hu
 refine⟨h2,?_⟩
 cases hk:K.lookup a with
 |none=>exact .inl (.inr ⟨_,by rw[zO ha hk e,Gh]⟩)
 |some o=>
  have e2:=KX a o hk
  rw[e]at e2
  obtain rfl:=bq e2
  exact .inr ⟨_,us.toArray,_,hk,rfl,rfl,by rw[aO];exact h1,by simpa using qU h2⟩
mutual
theorem RP{Pm:Params}(KX:K.In h)(ar:∀a∈A,rY h A a):∀(d:WData)(v:Value),Well Pm h v d->KH d=true->La A v->Dw K (qE K h A) (toV v) d
 |.none,_,x,_,_=>by
  cases x
  exact .iD
 |.bool b,_,x,_,_=>by
  cases x
  exact .bl b
 |.int i,_,x,_,_=>by
  cases x
  exact .int i
 |.str s,_,x,_,_=>by
  cases x
  exact .str s
 |.bytes b,_,x,_,_=>by
  cases x
  have z:=Dw.HD (K:=K) (H:=qE K h A) b.toArray
  exact z
 |.list ds,_,x,p,hu=>by
  obtain⟨a,vs,rfl,ho,hall⟩:=DQ x
  obtain⟨h2,hs⟩:=Va KX ar hu ho
  exact .lst hs (Ee KX ar ds _ hall p h2)
 |.tuple ds,_,x,p,hu=>by
  obtain⟨a,vs,rfl,ho,hall⟩:=BK x
  obtain⟨h2,hs⟩:=Vb KX ar hu ho
  exact .tup hs (Ee KX ar ds _ hall p h2)
 |.float _,_,_,p,_=>b0 (show false=true from p)
 |.dict _,_,_,p,_=>b0 (show false=true from p)
 |.bytearray _,_,_,p,_=>b0 (show false=true from p)
 |.set _,_,_,p,_=>b0 (show false=true from p)
 |.frozenset _,_,_,p,_=>b0 (show false=true from p)
 |.obj _ _,_,_,p,_=>b0 (show false=true from p)
theorem Ee{Pm:Params}(KX:K.In h)(ar:∀a∈A,rY h A a):∀(ds:List WData)(vs:List Value),WellAll Pm h vs ds->zB ds=true->(∀u∈vs,La A u)->rZ K (qE K h A) (vs.map toV) ds
 |[],_,x,_,_=>by
  cases x
  exact .nil
 |d::ds,_,x,p,hu=>by
  obtain⟨v,vs,rfl,x1,x2⟩:=DP x
  have q:KH d=true/\zB ds=true:=ia.mp p
  exact .cons (RP KX ar d v x1 q.1 (hu _ (ay ..))) (Ee KX ar ds vs x2 q.2 λu m=>hu u (ax _ m))
end
end
theorem AG{ds:List WData}(h:WData.layableAll ds=true):∀d∈ds,d.weight<=1048576:=λd hd=>
 (PySem.W.layableW_iff.mp (gB.mp h d hd)).2.2
theorem As:∀(cs:List Codec)(a:Af cs),(sv cs a).length=cs.length
 |[],_=>rfl
 |c::cs,a=>by
  show(sv cs a.2).length+1=cs.length+1
  rw[As cs a.2]
end L2
end
section
namespace L2
open PySem PySem.Spec PyProof.Rows
section
variable{P:Program}{w:World}{H H' H0:Hp}{h h' h0:Heap}{fs ch:List Addr}
theorem pV.chg(ok:pV P w H h)(c:Ex.DT fs ch h h')(hf:∀b∈fs,H b=none)(hc:∀b∈ch,H b=none):pV P w H h':=λa o e=>by
 have nn:∀b u,H b=aa u->b∉ch/\b∉fs:=λb u q=>⟨λz=>(by rw[hc b z]at q;cases q),λz=>(by rw[hf b z]at q;cases q)⟩
 refine(ok a o e).xq (λb u q r=>?_) (λ_ q=>q) λ_ _ q=>q
 rcases q with q|q
 ·subst q
  exact c.keep b u r (nn b o e).1 (nn b o e).2
 ·exact c.keep b u r (nn b _ q).1 (nn b _ q).2
def vd(H:Hp)(e:Addr):Hp:=λb=>if b=e then none else H b
theorem tq{e:Addr}:vd H e e=none:=by unfold vd;rw[if_pos rfl]
theorem oV{e b:Addr}(n:b≠e):vd H e b=H b:=by unfold vd;rw[if_neg n]
theorem wJ{e b:Addr}(n:H b=none):vd H e b=none:=by
 unfold vd
 split
 ·rfl
 ·exact n
theorem pV.vd{e:Addr}{φ:Heap->Prop}(ok:pV P w H h)(he:H e=aa (.ext φ)):pV P w (vd H e) h:=λa o q=>by
 by_cases z:a=e
 ·subst z
  rw[tq]at q
  cases q
 ·rw[oV z]at q
  refine(ok a o q).xq (λ_ _ _ r=>r) (λb r=>?_) λb xs r=>?_
  ·rw[oV (λy=>by subst y;rw[he]at r;cases r)]
   exact r
  ·rw[oV (λy=>by subst y;rw[he]at r;cases r)]
   exact r
end
def du(P:Program)(w:World):Jv:=λouter H s E e s'=>∃(ea T:Addr)(cls:Value)(dx:Option Addr)(H':Hp),e=.ref ea/\s'.os=s.os/\AllBare s'.gens/\Un (HZ outer) [] H H' s.heap s'.heap/\
 pV P w H' s'.heap/\Ex.Rec s'.heap ea cls dx T .none/\s.heap.objs.size<=ea/\s.heap.objs.size<=T/\H' ea=none/\H' T=none/\E cls dx H'
section
variable{P:Program}{w:World}{K:af}{mg:Str->Option Value}{base:Heap}{N:List Str}{qual:Str}{scope:Scope}{f:Addr}{cd:Value}{A:Around}{outer:List Env}{s0:Shared}{H0:Hp}{E:XK}
abbrev Nw(P:Program)(w:World)(K:af)(mg:Str->Option Value)(base:Heap)(N:List Str)(qual:Str)(scope:Scope)(f:Addr)(cd:Value)(A:Around)(outer:List Env)(s0:Shared)(H0:Hp)(E:XK):Cx:=
 Lq (du P w) P w K mg base N qual scope f cd A outer s0 H0 E
end
end L2
end
section
namespace L2
open PySem PySem.Spec PyProof.Rows
def FY(e C t:Addr)(d:Option Addr):HO:=.ext λh=>h.get? e=aa (Ex.jw C t d)
theorem NK{P:Program}{w:World}{H:Hp}{h:Heap}{e C t:Addr}{d:Option Addr}(q:h.get? e=aa (Ex.jw C t d)):gb P w H h e (FY e C t d):=
 ⟨q,⟨_,q⟩,λh1 h2 z k=>k _ z⟩
structure Nb(K:af)(C:Addr):Prop where
 sa:bU K (.ref C) "__setattr__"=aa (aa (.builtin "object.__setattr__"))
 ov:Ex.Eh K C=true
 hd:lA K C=true
def Ui(K:af)(ta tv:TE)(f:Str):TS:=λD σ H=>tv σ H (kQ D λy H1 D=>ta σ H1 (kQ D λx H2 D=>ex3 D λe C t D=>x=.ref e/\H2 e=aa (FY e C t none)/\Nb K C/\iq K C f/\
 ∀dx,H2 dx=none->D.nx σ (upd (upd H2 dx (.xd [(f,y)])) e (FY e C t (aa dx)))))
section
variable{X:Cx}{o value:Expr}{f:Str}{pos pos':Pos}{ta tv:TE}
theorem G7{pins:List (Addr×Obj)}{σ:St}{H:Hp}{s:Shared}{A:Around}{E:Value->Shared->Prop}{e C t:Addr}{y:V}{u:Value}{Q:Unit->Shared->Prop}(I:Inv X pins σ H s)(he:H e=aa (FY e C t none))
  (c:Nb X.K C)(n:iq X.K C f)(ry:RelV y u)(k:∀dx s',H dx=none->Inv X pins σ (upd (upd H dx (.xd [(f,y)])) e (FY e C t (aa dx))) s'->Q () s'):
  wpAny (model X.prog X.w) A (setAttr (.ref e) f u) Q E s:=by
 have hx:s.heap.get? e=aa (Ex.jw C t none):=(I.dO e _ he).1
 refine Ex.QN I.vh hx c.sa c.ov n.Rz c.hd λh' h1 h2 h3 tk=>k s.heap.objs.size _ (I.dO.fresh (ah _)) ?_
 have fr:=I.dO.fresh (ah s.heap.objs.size)
 have ned:s.heap.objs.size≠e:=(aA he fr).symm
 have nn:∀b,H b=none->b≠e:=λb z q=>by rw[q,he]at z;cases z
 have no:∀b u,H b=aa u->(∀φ,u≠.ext φ)->b≠e:=λb v z w q=>by subst q;rw[he]at z;cases z;exact w _ rfl
 have up:∀b,b≠e->b≠s.heap.objs.size->upd (upd H s.heap.objs.size (.xd [(f,y)])) e (FY e C t (aa s.heap.objs.size)) b=H b:=λb z w=>by rw[az z,az w]
 have nd:∀b v,H b=aa v->b≠s.heap.objs.size:=λb v z=>aA z fr
 refine I.un (H':=upd (upd H s.heap.objs.size (.xd [(f,y)])) e (FY e C t (aa s.heap.objs.size))) (h':=h') (t':=tk) ⟨λb v q z _ _=>h3 b v (nn b z) q,λb v q z _ _=>⟨v.slots,h3 b v (nn b z) q⟩,λb v q z _=>?_,λb v q _=>?_,λb xs q=>?_,λb ob v q=>?_,λb ps q=>⟨#[],?_⟩⟩ ?_
 ·rw[up b (nn b z) (bJ (aQ q))];exact z
 ·by_cases w:b=e
  ·subst w;exact⟨_,h1⟩
  ·exact⟨v,h3 b v w q⟩
 ·rw[up b (no b _ q (λ_ z=>by cases z)) (nd b _ q)];exact q
 ·rw[up b (no b _ q (λ_ z=>by cases z)) (nd b _ q)];exact q
 ·rw[up b (no b _ q (λ_ z=>by cases z)) (nd b _ q),q];simp
 ·intro b v q
  by_cases w:b=e
  ·subst w
   rw[ag]at q
   cases q
   exact NK h1
  ·rw[az w]at q
   by_cases w2:b=s.heap.objs.size
   ·subst w2
    rw[ag]at q
    cases q
    refine⟨_,h2,λg=>?_⟩
    by_cases z:g=f
    ·subst z
     rw[if_pos rfl]
     show rf (bz g [(g,y)]) _
     rw[df,beq_self_eq_true]
     exact ry
    ·rw[if_neg z]
     show rf (bz g [(f,y)]) _
     rw[df,beq_eq_false_iff_ne.mpr z]
     exact True.intro
   ·rw[az w2]at q
    refine(I.dO b v q).xq (λc' v' hc z=>?_) (λc' z=>?_) λc' xs z=>?_
    ·rcases hc with r|r
     ·exact h3 c' v' (by rw[r];exact w) z
     ·exact h3 c' v' (no c' _ r λ_ z=>by cases z) z
    ·rw[up c' (no c' _ z λ_ z=>by cases z) (nd c' _ z)];exact z
    ·rw[up c' (no c' _ z λ_ z=>by cases z) (nd c' _ z)];exact z
theorem Qw(ha:PE X o ta)(hv:PE X value tv)(hs:swapsWith value (aa (.Attribute o f pos')) pos.line X.env=pure false):PS X (.Assign [.Attribute o f pos'] value pos) (Ui X.K ta tv f):=by
 intro pins s σ H D I h
 refine plainObj_wpAny_Assign_Attribute (fH (hv pins s σ H _ I h) λu s1 ⟨y,H1,I1,ry,q⟩=>fH (ha pins s1 σ H1 _ I1 q) λov s2 zy=>?_) hs
 obtain⟨x,H2,I2,rx,e,C,t,ex,he,c,n,q2⟩:=zy
 subst ex
 obtain rfl:ov=Value.ref e:=rx
 exact G7 I2 he c n ry λdx s3 fd I3=>⟨σ,_,I3,q2 dx fd⟩
end
structure RE(K:af)(C:Addr)(m:Str)(f:Addr):Prop where
 ga:JJ K (.ref C) "__getattribute__"=aa (aa (.builtin "type.__getattribute__"))
 rd:PySem.W.readsIn K C (.type "type")=true
 at_:PySem.W.findCls K (.ref C) (.type "type") m=aa (.val (.ref f))
 kp:cK K (.ref f)=true
section
variable{X:Cx}{CX:Jv}{k:Nat}{f C:Addr}{fd:FuncData}{ps:List Str}{sp:Sp}{dvs:List V}{ds:List Value}{E:XK}{x m:Str}{p pos apos:Pos}{e o:Expr}{es:List Expr}{ta:TE}{t:TA}
theorem oj{pl:Sem Bool}(hg:Gl X x)(hm:X.mg x=aa (.ref C))(M:RE X.K C m f)(F:bw X.prog X.w X.K X.mg X.base CX k f fd ps sp)(hr:iK k X.A)(hb:Binds X.K fd ps ds)(hd:Vals dvs ds)(hx:Passes CX X E)(ha:PA X (e::es) t)
  (hdb:(x==("__debug__":Str))=false:=by decide)
  (hst:starEach (e::es) X.env=(false,eval e X.env)::starEach es X.env:=by rfl)(hpl:(backTo pos (starEach es X.env)).any (·.1)=false:=by rfl)
  (ht:eval (.Call (.Attribute (.Name x p) m apos) (e::es) [] pos) X.env=(do
    let ov<-eval (.Name x p) X.env
    standAt apos.atName
    let(f,first)<-holding [ov] (getMethod ov m pl)
    callWith pos f first (backTo pos (starEach (e::es) X.env)) (backToKw pos (keywordEach [] X.env))):=by rfl):
  PE X (.Call (.Attribute (.Name x p) m apos) (e::es) [] pos) (ze sp dvs E t):=by
 intro pins s σ H Q I h
 refine lP (pl:=pl) (og I hg hm ?_ hdb) ht
 refine PySem.W.method_cls I.vh M.ga (PySem.W.cls_value I.vh M.rd M.at_ rfl ?_)
 refine iP (first:=[]) (h₀:=X.base) I.ok.mod.Rn M.kp (fH (ha pos pins _ σ H _ (I.tok _) h) λus s2 ⟨vs,H2,I2,r,q2⟩=>⟨I2.vh,?_⟩) hst hpl
 exact EM F hr hb hd hx I2 r q2
end
structure K8(K:af)(C f:Addr):Prop where
 makes:Ex.wF K C=true
 init:bU K (.ref C) "__init__"=aa (aa (.ref f))
 fn:pA K (.ref f)=true
 kp:cK K (.ref C)=true
section
variable{X:Cx}{CX:Jv}{k:Nat}{f C:Addr}{fd:FuncData}{ps:List Str}{sp:Sp}{E:XK}{x m:Str}{p pos cpos:Pos}{e:Expr}{es:List Expr}{t:TA}
theorem Inv.T8{pins:List (Addr×Obj)}{σ:St}{H:Hp}{s:Shared}{us:List Value}(I:Inv X pins σ H s):Inv X pins σ (upd H (s.heap.objs.size+1) (FY (s.heap.objs.size+1) C s.heap.objs.size none))
  {s with heap:=(s.heap.push (Ex.x9 us)).push (Ex.jw C s.heap.objs.size none)}:=by
 refine I.laid (t':=s.toks) (λb u q=>aw _ (aw _ q)) (n6 _) (NK ?_)
 exact qx (by rw[cu]) rfl
def yo(C:Addr)(num:List V->Option Int)(n:Nat):Sp:=λvs H Q _=>ex4 Q λe t us i Q=>vs=.ref e::us/\us.length=n/\H e=aa (FY e C t none)/\num us=aa i/\
 ∀dx,H dx=none->Q .iD (upd (upd H dx (.xd [("number",.int i)])) e (FY e C t (aa dx)))
theorem DE{num:List V->Option Int}{n:Nat}{pins:List (Addr×Obj)}{σ:St}{H:Hp}{s:Shared}{Q:Value->Shared->Prop}{us:List Value}{vs:List V}(M:K8 X.K C f)(F:bw X.prog X.w X.K X.mg X.base CX k f fd ps (yo C num n))(hr:iK (k+1) X.A)(hb:Binds X.K fd ps [])
  (hx:Passes CX X E0)(I:Inv X pins σ H s)(r:Vals vs us)(hn:vs.length=n)(hz:us.length<=sizeLine){i:Int}(hi:num vs=aa i)
  (h:∀e t dx s',s.heap.objs.size<=e->H e=none->H dx=none->e≠dx->Inv X pins σ (upd (upd H dx (.xd [("number",.int i)])) e (FY e C t (aa dx))) s'->Q (.ref e) s'):
  wpAny (model X.prog X.w) X.A (call (.ref C) us) Q X.xe s:=by
 have I2:=Inv.T8 (C:=C) (us:=us) I
 have fe:H (s.heap.objs.size+1)=none:=I.dO.fresh (n6 _)
 have hq:yo C num n (V.ref (s.heap.objs.size+1)::vs) (upd H (s.heap.objs.size+1) (FY (s.heap.objs.size+1) C s.heap.objs.size none)) (λv H2=>v=.iD/\∃dx,H dx=none/\s.heap.objs.size+1≠dx/\H2=upd (upd H dx (.xd [("number",.int i)])) (s.heap.objs.size+1) (FY (s.heap.objs.size+1) C s.heap.objs.size (aa dx))) E0:=by
  refine⟨_,_,_,i,rfl,hn,ag,hi,λdx hd=>⟨rfl,dx,?_,?_,?_⟩⟩
  ·by_cases z:dx=s.heap.objs.size+1
   ·subst z;exact fe
   ·rw[az z]at hd;exact hd
  ·intro z;subst z;rw[ag]at hd;cases hd
  ·have nz:dx≠s.heap.objs.size+1:=by intro z;subst z;rw[ag]at hd;cases hd
   funext b
   by_cases w:b=s.heap.objs.size+1
   ·subst w;rw[ag,ag]
   ·rw[az w,az w]
    unfold upd
    split
    ·rfl
    ·rfl
 have r2:Vals (V.ref (s.heap.objs.size+1)::vs) (Value.ref (s.heap.objs.size+1)::us):=.cons rfl r
 have hl:(Value.ref (s.heap.objs.size+1)::us).length=ps.length:=by
  have e:=r2.length
  rw[F.len _ _ _ _ hq]at e
  exact e.symm
 have hb2:∀s':Shared,X.K.In s'.heap->BindsTo s' fd ⟨Value.ref (s.heap.objs.size+1)::us,[]⟩ (ps.zip (Value.ref (s.heap.objs.size+1)::us)):=λs' ki=>by
  have:=hb s' (Value.ref (s.heap.objs.size+1)::us) ki (by rw[aZ];exact hl)
  rw[aZ]at this
  exact this
 have KX:=I.vh
 have Y:Ex.xI (model X.prog X.w) s.heap C:=Ex.yO KX M.makes
 have li:gg (model X.prog X.w) s.heap (typeLookup (.ref C) "__init__") (aa (.ref f)):=sV KX M.init
 have lb:∀self,gg (model X.prog X.w) s.heap (bindSpecial (.ref f) self) (.ref f,[self]):=λself=>MV KX self (beq_iff_eq.mp M.fn)
 obtain⟨hh,g,d,tk,os⟩:=s
 refine wpAny_call (Ex.Si (f:=f) Y li lb hz
  (codeAny_mono (F.run _ X.stack _ _ ⟨Value.ref (hh.objs.size+1)::us,[]⟩ (Value.ref (hh.objs.size+1)::us) _ _ E0 (hr.make C us [])
  (I2.Eg.make C us []) (hb2 _ I2.vh) r2 hq) λr s' hq'=>?_))
 cases r with
 |error e=>exact hx pins σ _ _ e s' I2 hq'
 |ok fl=>
  cases fl with
  |ret u=>
   obtain⟨v,H',I3,rv,ev,dx,fd,ne,q3⟩:=I2.after hq'
   subst ev
   subst q3
   exact⟨rv,h (hh.objs.size+1) _ dx _ (n6 _) fe fd ne I3⟩
  |next=>exact cy hq'
  |brk=>exact cy hq'
  |cont=>exact cy hq'
end
section
variable{prog:Program}{w:World}{A:Around}{E:Value->Shared->Prop}{s:Shared}{env:Env}
theorem Dy{e:Expr}{pos:Pos}{Q:Flow->Shared->Prop}(hh:A.handled=none)
  (h:wpAny (model prog w) A (eval e env) (λv s1=>∃a C t d,v=.ref a/\s1.heap.get? a=aa (Ex.jw C t d)/\Ex.xI (model prog w) s1.heap C/\gg (model prog w) s1.heap (typeOf (.ref C)) (.type "type")/\E (.ref a) s1) E s):
  wpAny (model prog w) A (exec (.Raise (aa e) none pos) env) Q E s:=by
 show wpAny _ A (do standAt pos;raiseStmt env (aa (do let v<-eval e env;standAt pos;pure v)) none) Q E s
 refine wpAny_bind (wpAny_standAt ?_)
 unfold raiseStmt
 dsimp only
 refine wpAny_bind (wpAny_bind (wpAny_mono h (λv s1 h1=>wpAny_bind (wpAny_standAt (wpAny_pure ?_))) λ_ _ x=>x))
 obtain⟨a,C,t,d,rfl,ha,Y,hty,hE⟩:=h1
 obtain⟨hp,g,dr,tk,os⟩:=s1
 have L0:gg (model prog w) hp (typeOf (.ref a)) (.ref C):=(pz ha).andThen .now
 have L4:gg (model prog w) hp (isInstance (.ref a) (.type "BaseException")) true:=L0.andThen Y.TC
 have hnt:∀{Q':Bool->Shared->Prop},Q' false ⟨hp,g,dr,tk,os⟩->wpAny (model prog w) A (isType (.ref a)) Q' E ⟨hp,g,dr,tk,os⟩:=by
  intro Q' hq
  simp only[isType,loadHead]
  refine wpAny_bind (wpAny_loadPart ha ?_)
  exact wpAny_pure hq
 refine wpAny_bind (wpAny_pure ?_)
 dsimp only
 refine wpAny_bind (wpAny_holding ?_)
 unfold excFromValue isExcClass
 refine wpAny_bind (wpAny_bind (hnt ?_))
 simp only[ft,if_false]
 refine wpAny_pure ?_
 simp only[ft,if_false]
 refine wpAny_bind (L4.at ?_)
 simp only[if_true]
 refine wpAny_pure ?_
 refine wpAny_bind (hnt ?_)
 simp only[ft,if_false]
 unfold raisedInstance
 refine wpAny_bind (wpAny_bind (L0.at (wpAny_bind (hty.at ?_))))
 rw[if_pos (by decide)]
 refine wpAny_pure ?_
 unfold setFlight raiseNew
 have h1:(#[Value.ref t,.none,.none,.none,.bool false,.none]:Array Value)[1]?=aa Value.none:=rfl
 refine wpAny_bind (wpAny_bind (wpAny_field (x:=Value.none) ha rfl h1 ?_))
 rw[if_neg (by decide)]
 refine wpAny_pure (wpAny_bind (wpAny_handled ?_))
 rw[hh]
 first
  |exact wpAny_throw hE
  |exact wpAny_bind (wpAny_pure (wpAny_throw hE))
end
section
variable{X:Cx}{pins:List (Addr×Obj)}{σ:St}{H:Hp}{s:Shared}{e:Addr}{o:HO}
theorem Inv.Fm{φ:Heap->Prop}(I:Inv X pins σ H s)(h:H e=aa (.ext φ)):Inv X pins σ (vd H e) s:=by
 refine⟨I.ok,I.os,I.bare,⟨I.base.keep,I.base.slot,λb o q n x=>wJ (I.base.free b o q n x),I.base.there,λb xs q=>?_,λb o u q=>?_,λb ps q=>?_⟩,I.loc,I.cell,wJ I.free,λy c q=>wJ (I.mN y c q),λp hp=>?_,I.dO.vd h,I.len⟩
 ·have q2:=I.base.BF b xs q
  rw[oV (λz=>by subst z;rw[h]at q2;cases q2)]
  exact q2
 ·have q2:=I.base.zt b o u q
  rw[oV (λz=>by subst z;rw[h]at q2;cases q2)]
  exact q2
 ·obtain⟨more,q2⟩:=I.base.zI b ps q
  refine⟨more,?_⟩
  rw[oV (λz=>by subst z;rw[h]at q2;cases q2)]
  exact q2
 ·obtain⟨a1,a2,a3⟩:=I.pin p hp
  exact⟨a1,wJ a2,a3⟩
theorem Inv.chg{h':Heap}{L:Addr}{fs ch:List Addr}(I:Inv X pins σ H s)(c:Ex.DT fs ch s.heap h')(hf:∀b∈fs,b∈HZ X.stack)(hc:∀b∈ch,H b=none/\X.vq.heap.objs.size<=b/\b≠X.env.locals/\(∀x c,X.env.cells.lookup x=aa c->c≠b)/\∀p∈X.pn++pins,p.1≠b):
  Inv X pins σ H {s with heap:=h'}:=by
 refine I.JS (s':={s with heap:=h'}) (ch:=ch) rfl ⟨λb o q n m x=>c.keep b o q x λz=>m (hf b z),λb o q n m x=>c.slot b o q x,λb o q n x=>n,λb o q x=>c.there b o q,λ_ _ q=>q,λ_ _ _ q=>q,λb ps q=>⟨#[],by rw[q];simp⟩⟩
  (I.dO.chg c (λb z=>I.z9 b (hf b z)) λb z=>(hc b z).1) I.bare λb z=>⟨.inr (hc b z).2.1,(hc b z).2.2⟩
end
section
variable{X:Cx}{pins:List (Addr×Obj)}{σ:St}{H:Hp}{s:Shared}
theorem Inv.apart(I:Inv X pins σ H s){b:Addr}(hb:s.heap.objs.size<=b):X.vq.heap.objs.size<=b/\b≠X.env.locals/\(∀x c,X.env.cells.lookup x=aa c->c≠b)/\∀p∈X.pn++pins,p.1≠b:=by
 refine⟨aX I.sz hb,zo (aY I.lt hb),λy c q z=>?_,λp hp z=>?_⟩
 ·obtain⟨v,o,ho,_⟩:=I.cell y c q
  exact absurd (aY (aQ ho) (by rw[z];exact hb)) (di _)
 ·exact absurd (aY (aQ (I.pin p hp).1) (by rw[z];exact hb)) (di _)
end
def uq(E:XK)(C:Addr)(num:List V->Option Int)(n:Nat)(t:TA):TS:=λ_ σ H=>t σ H λvs H1=>vs.length=n/\∃i,num vs=aa i/\∀dx,H1 dx=none->E (.ref C) (aa dx) (upd H1 dx (.xd [("number",.int i)]))
def Jw(X:Cx)(E:XK):Prop:=∀(pins:List (Addr×Obj))(σ:St)(H:Hp)(s:Shared)(e:Addr)(cls:Value)(dx:Option Addr),Inv X pins σ H s->Ex.U5 s.heap e cls dx->X.vq.heap.objs.size<=e->e≠X.env.locals->
 (∀x c,X.env.cells.lookup x=aa c->c≠e)->H e=none->E cls dx H->X.xe (.ref e) s
theorem aP{P:Program}{w:World}{X:Cx}:Passes (du P w) X E0:=λ_ _ _ _ _ _ _ h=>by
 obtain⟨_,_,_,_,_,_,_,_,_,_,_,_,_,_,_,z⟩:=h
 exact z.elim
section
variable{X:Cx}{k:Nat}{f C:Addr}{fd:FuncData}{ps:List Str}{x:Str}{p pos cpos:Pos}{e:Expr}{es:List Expr}{t:TA}{num:List V->Option Int}{n:Nat}{E:XK}
theorem A8{pins:List (Addr×Obj)}{σ:St}{H:Hp}{s s':Shared}{i:Int}{e t dx:Addr}(fl:Jw X E)(I:Inv X pins σ H s)(le:s.heap.objs.size<=e)(fe:H e=none)(fd:H dx=none)(ne:e≠dx)
  (I2:Inv X pins σ (upd (upd H dx (.xd [("number",.int i)])) e (FY e C t (aa dx))) s')(M:K8 X.K C f)(ty:mI X.K (.ref C)=aa (.type "type"))
  (hE:E (.ref C) (aa dx) (upd H dx (.xd [("number",.int i)]))):
  ∃a C' t' d,(Value.ref e)=.ref a/\s'.heap.get? a=aa (Ex.jw C' t' d)/\Ex.xI (model X.prog X.w) s'.heap C'/\gg (model X.prog X.w) s'.heap (typeOf (.ref C')) (.type "type")/\X.xe (.ref a) s':=by
 have he:s'.heap.get? e=aa (Ex.jw C t (aa dx)):=(I2.dO e _ ag).1
 refine⟨e,C,t,aa dx,rfl,he,Ex.yO I2.vh M.makes,PySem.W.looks_typeIn I2.vh ty,?_⟩
 have hh:vd (upd (upd H dx (.xd [("number",.int i)])) e (FY e C t (aa dx))) e=upd H dx (.xd [("number",.int i)]):=by
  funext b
  by_cases z:b=e
  ·subst z
   rw[tq,az ne,fe]
  ·rw[oV z,az z]
 have I3:Inv X pins σ (upd H dx (.xd [("number",.int i)])) s':=by
  rw[<-hh]
  exact I2.Fm ag
 have ap:=I.apart le
 refine fl pins σ _ s' e _ _ I3 ⟨_,_,he,rfl,rfl,rfl,rfl⟩ ap.1 ap.2.1 ap.2.2.1 ?_ hE
 rw[az ne]
 exact fe
theorem w9(fl:Jw X E)(M:K8 X.K C f)(ty:mI X.K (.ref C)=aa (.type "type"))(F:bw X.prog X.w X.K X.mg X.base (du X.prog X.w) k f fd ps (yo C num n))(hr:iK (k+1) X.A)(hg:Gl X x)
  (hm:X.mg x=aa (.ref C))(hb:Binds X.K fd ps [])(ha:PA X (e::es) t)(hn:n<=1000)(hdb:(x==("__debug__":Str))=false:=by decide)
  (he:starEach (e::es) X.env=(false,eval e X.env)::starEach es X.env:=by rfl)(hpl:(backTo cpos (starEach es X.env)).any (·.1)=false:=by rfl):
  PS X (.Raise (aa (.Call (.Name x p) (e::es) [] cpos)) none pos) (uq E C num n t):=by
 intro pins s σ H D I h
 refine Dy hr.hd ?_
 refine wpAny_Call_Name_kw (og I hg hm ?_ hdb)
 refine iP (h₀:=X.base) I.ok.mod.Rn M.kp (fH (ha cpos pins s σ H _ I h) λus s1 ⟨vs,H1,I1,r,hl,i,hi,hE⟩=>⟨I1.vh,?_⟩) he hpl
 refine DE M F hr hb aP I1 r hl ?_ hi λe t dx s' le fe fd ne I2=>A8 fl I1 le fe fd ne I2 M ty (hE dx fd)
 show us.length<=sizeLine
 rw[<-r.length,hl,sizeLine_eq];lia
theorem iF(fl:Jw X E)(M:K8 X.K C f)(ty:mI X.K (.ref C)=aa (.type "type"))(F:bw X.prog X.w X.K X.mg X.base (du X.prog X.w) k f fd ps (yo C num 0))(hr:iK (k+1) X.A)(hg:Gl X x)
  (hm:X.mg x=aa (.ref C))(hb:Binds X.K fd ps [])(hdb:(x==("__debug__":Str))=false:=by decide):
  PS X (.Raise (aa (.Call (.Name x p) [] [] cpos)) none pos) (uq E C num 0 mq):=by
 intro pins s σ H D I h
 refine Dy hr.hd ?_
 refine wpAny_Call_Name_kw (og I hg hm ?_ hdb)
 obtain⟨hl,i,hi,hE⟩:=h
 refine nP I.vh M.kp (DE (us:=[]) (vs:=[]) M F hr hb aP I .nil rfl (bp _) hi λe t dx s' le fe fd ne I2=>A8 fl I le fe fd ne I2 M ty (hE dx fd))
end
section
variable{P:Program}{w:World}{K:af}{mg:Str->Option Value}{base:Heap}{N:List Str}{qual:Str}{scope:Scope}{g:Addr}{cd:Value}{A:Around}{outer:List Env}{s0:Shared}{H0:Hp}{E:XK}
def HG(X:Cx)(E:XK)(e:Value)(s:Shared):Prop:=∃ea cls dx H σ,e=.ref ea/\Inv X [] σ H s/\X.vq.heap.objs.size<=ea/\ea≠X.env.locals/\(∀x c,X.env.cells.lookup x=aa c->c≠ea)/\H ea=none/\E cls dx H/\
 (Ex.U5 s.heap ea cls dx\/∃T fl,Ex.Rec s.heap ea cls dx T fl/\(fl=.none\/fl=rawInt X.env.locals)/\X.vq.heap.objs.size<=T/\T≠X.env.locals/\(∀x c,X.env.cells.lookup x=aa c->c≠T)/\H T=none)
abbrev RN(P:Program)(w:World)(K:af)(mg:Str->Option Value)(base:Heap)(N:List Str)(qual:Str)(scope:Scope)(f:Addr)(cd:Value)(A:Around)(outer:List Env)(s0:Shared)(H0:Hp)(E:XK):Cx:=
 (Nw P w K mg base N qual scope f cd A outer s0 H0 E).uv (HG (Nw P w K mg base N qual scope f cd A outer s0 H0 E) E)
theorem iQ:Jw (RN P w K mg base N qual scope g cd A outer s0 H0 E) E:=λpins σ H s e cls dx I n h0 hl hc he hE=>
 ⟨e,cls,dx,H,σ,rfl,I.kK.zZ (pins':=[]) (λ_ z=>absurd z (by simp)),h0,hl,hc,he,hE,.inl n⟩
theorem eh:Passes (du P w) (RN P w K mg base N qual scope g cd A outer s0 H0 E) E:=by
 intro pins σ H s e s' I hx
 obtain⟨ea,T,cls,dx,H',rfl,os,bare,un,dO,R,fe,fT,ne,nT,hE⟩:=hx
 have I1:=I.kK
 have I2:=I1.JS os un dO bare (λb z=>absurd z (by simp))
 have a1:=I1.apart fe
 have a2:=I1.apart fT
 exact⟨ea,cls,dx,H',σ,rfl,I2.zZ (pins':=[]) (λ_ z=>absurd z (by simp)),a1.1,a1.2.1,a1.2.2.1,ne,hE,.inr ⟨T,.none,R,.inl rfl,a2.1,a2.2.1,a2.2.2.1,nT⟩⟩
theorem HG.Rq{X:Cx}{e:Value}{s:Shared}{Q:Unit->Shared->Prop}{E':Value->Shared->Prop}(xst:X.stack=X.env::X.outer)(xfr:X.env.frame=aa X.env.locals)(xpn:X.pn=[])(h:HG X E e s)
  (k:∀s' ea cls dx H T σ,e=.ref ea->Inv X [] σ H s'->X.vq.heap.objs.size<=ea->ea≠X.env.locals->(∀x c,X.env.cells.lookup x=aa c->c≠ea)->H ea=none->E cls dx H->
    Ex.Rec s'.heap ea cls dx T (rawInt X.env.locals)->X.vq.heap.objs.size<=T->T≠X.env.locals->(∀x c,X.env.cells.lookup x=aa c->c≠T)->H T=none->Q () s'):wpAny (model X.prog X.w) X.A (noteFrame e X.env) Q E' s:=by
 obtain⟨ea,cls,dx,H,σ,rfl,I,h0,hl,hc,he,hE,hh⟩:=h
 have fr:X.A.frames=aa (X.env::X.outer):=by rw[I.ok.frames,xst]
 have Pl:HZ X.stack=Ex.De (X.env::X.outer):=by rw[xst];rfl
 have st:s.heap.FunFrames X.base (X.env::X.outer):=by rw[<-xst];exact I.stack
 have np:∀b,∀p∈X.pn++[],p.1≠b:=λb p z=>by rw[xpn]at z;simp at z
 rcases hh with n|⟨T,fl,R,hf,t0,tl,tc,tn⟩
 ·refine Ex.Hm (L:=X.env.locals) fr st xfr n λh' T' c n' R'=>?_
  have a':=I.apart n'
  have J:Inv X [] σ H {s with heap:=h'}:=I.chg (L:=X.env.locals) (ch:=[ea]) c (λb z=>by rw[Pl];exact z) λb z=>by
   rw[aK.mp z];exact⟨he,h0,hl,hc,np _⟩
  exact k _ ea cls dx H T' σ rfl J h0 hl hc he hE R' a'.1 a'.2.1 a'.2.2.1 (I.dO.fresh n')
 ·rcases hf with rfl|rfl
  ·refine Ex.xE (L:=X.env.locals) fr st xfr R λh' T' c n' R'=>?_
   have a':=I.apart n'
   have J:Inv X [] σ H {s with heap:=h'}:=I.chg (L:=X.env.locals) (ch:=[ea,T]) c (λb z=>by rw[Pl];exact z) λb z=>by
    rcases aG.mp z with z|z
    ·rw[z];exact⟨he,h0,hl,hc,np _⟩
    ·rw[aK.mp z];exact⟨tn,t0,tl,tc,np _⟩
   exact k _ ea cls dx H T' σ rfl J h0 hl hc he hE R' a'.1 a'.2.1 a'.2.2.1 (I.dO.fresh n')
  ·exact Ex.Cv xfr R (k s ea cls dx H T σ rfl I h0 hl hc he hE R t0 tl tc tn)
theorem A3:PassesOwn (model P w) (RN P w K mg base N qual scope g cd A outer s0 H0 E).A (RN P w K mg base N qual scope g cd A outer s0 H0 E).env (RN P w K mg base N qual scope g cd A outer s0 H0 E).xe:=by
 intro e s' h
 refine HG.Rq (X:=Nw P w K mg base N qual scope g cd A outer s0 H0 E) rfl rfl rfl h ?_
 intro s1 ea cls dx H T σ ee I h0 hl hc he hE R t0 tl tc tn
 subst ee
 obtain⟨⟨o,vs,ho,r1,r2,hd,h1⟩,⟨p,ts,hp,hdp,h3⟩,ne⟩:=id R
 refine wpAny_bind (wpAny_field ho hd h1 ?_)
 rw[if_neg (by simp)]
 unfold setFlight
 show wpAny _ _ _ _ _ _
 refine wpAny_bind (wpAny_field ho hd h1 ?_)
 rw[if_pos (by simp)]
 have sz:3<ts.size:=(gE.mp h3).1
 have hd2:=pX hdp (·.setIfInBounds 3 (rawInt s0.heap.objs.size))
 have fp:=nt hd2
 refine wpAny_setField hp hdp sz ?_
 have c1:Ex.DT [] [T] s1.heap (s1.heap.update T (jm (·.setIfInBounds 3 (rawInt s0.heap.objs.size)))):=Ex.DT.one hp fp
 have J:Inv (Nw P w K mg base N qual scope g cd A outer s0 H0 E) [] σ H {s1 with heap:=s1.heap.update T (jm (·.setIfInBounds 3 (rawInt s0.heap.objs.size)))}:=I.chg (L:=s0.heap.objs.size) c1 (λb z=>absurd z (by simp)) λb z=>by
  rw[aK.mp z];exact⟨tn,t0,tl,tc,λp z=>absurd (show p∈([]:List (Addr×Obj))from z) (by simp)⟩
 refine⟨ea,cls,dx,H,σ,rfl,J,h0,hl,hc,he,hE,.inr ⟨T,rawInt s0.heap.objs.size,⟨⟨o,vs,?_,r1,r2,hd,h1⟩,⟨_,_,jl _ hp fp,hd2,?_⟩,ne⟩,.inr rfl,t0,tl,tc,tn⟩⟩
 ·rw[dS _ _ ne];exact ho
 ·simp[sz]
theorem HG.Sa{e:Value}{s:Shared}(h:HG (Nw P w K mg base N qual scope g cd A outer s0 H0 E) E e s):(Nw P w K mg base N qual scope g cd A outer s0 H0 E).xe e s:=by
 show wpAny _ _ (leaving _ e) _ _ _
 unfold leaving
 refine wpAny_bind (HG.Rq (X:=Nw P w K mg base N qual scope g cd A outer s0 H0 E) rfl rfl rfl h ?_)
 intro s1 ea cls dx H T σ ee I h0 hl hc he hE R t0 tl tc tn
 subst ee
 refine Ex.yt R λh' c R'=>?_
 have J:Inv (Nw P w K mg base N qual scope g cd A outer s0 H0 E) [] σ H {s1 with heap:=h'}:=I.chg (L:=s0.heap.objs.size) c (λb z=>absurd z (by simp)) λb z=>by
  rw[aK.mp z];exact⟨tn,t0,tl,tc,λp z=>absurd (show p∈([]:List (Addr×Obj))from z) (by simp)⟩
 exact⟨ea,T,cls,dx,H,rfl,J.os,J.bare,J.base,J.dO,R',h0,t0,he,tn,hE⟩
theorem DU.Wi{st:List Stmt}{t:TS}(h:DU (RN P w K mg base N qual scope g cd A outer s0 H0 E) st t):DU (Nw P w K mg base N qual scope g cd A outer s0 H0 E) st t:=λpins s σ H D I hw=>
 wpAny_mono (h pins s σ H D (I.uv _) hw) (λ_ _ q=>q.kK) λ_ _ z=>z.Sa
end
section
variable{P:Program}{w:World}{K:af}{mg:Str->Option Value}{base:Heap}
theorem K6.okN{x qual:Str}{st:Stmt}{f:Addr}{fd:FuncData}{N ps:List Str}{k:Nat}{sp:Sp}(F:K6 K x qual st f fd)(S:aH N ps (aq st))(len:∀vs H Q E,sp vs H Q E->vs.length=ps.length)
  (hbody:∀(cdv:Value)(A:Around)(outer:List Env)(s:Shared)(H:Hp)(vs:List V)(Q:VK)(E:XK),iK k (A.deeper (envOfC qual (aq st) s.heap.objs.size f cdv))->sp vs H Q E->
    ∃t,DU (Nw P w K mg base N qual (aq st) f cdv A outer s H E).Pj (ig st) t/\t {nx:=λ_ H'=>Q .iD H',rt:=Q} (start N vs) H):bw P w K mg base (du P w) (k+1) f fd ps sp:=by
 obtain⟨oc,od,kV,doc,pm,an,cdv,ct,osl,rfl,lk,hcd⟩:=F.ex
 refine NR lk hcd S len λA outer s H vs Q E hr hsp=>?_
 obtain⟨t,h,q⟩:=hbody cdv A outer s H vs Q E hr hsp
 exact⟨t,h.Pj,q⟩
theorem K6.qX{x qual:Str}{st:Stmt}{f:Addr}{fd:FuncData}{N ps:List Str}{k:Nat}{sp:Sp}(F:K6 K x qual st f fd)(S:aH N ps (aq st))(len:∀vs H Q E,sp vs H Q E->vs.length=ps.length)
  (hbody:∀(cdv:Value)(A:Around)(outer:List Env)(s:Shared)(H:Hp)(vs:List V)(Q:VK)(E:XK),iK k (A.deeper (envOfC qual (aq st) s.heap.objs.size f cdv))->sp vs H Q E->
    ∃t,DU (RN P w K mg base N qual (aq st) f cdv A outer s H E) (ig st) t/\t {nx:=λ_ H'=>Q .iD H',rt:=Q} (start N vs) H):bw P w K mg base (du P w) (k+1) f fd ps sp:=by
 obtain⟨oc,od,kV,doc,pm,an,cdv,ct,osl,rfl,lk,hcd⟩:=F.ex
 refine NR lk hcd S len λA outer s H vs Q E hr hsp=>?_
 obtain⟨t,h,q⟩:=hbody cdv A outer s H vs Q E hr hsp
 exact⟨t,h.Wi,q⟩
end
end L2
end
section
namespace L2
open PySem PySem.Spec PyProof.Rows
def Tg(e:Addr)(cls:Value)(dx:Option Addr):HO:=.ext λh=>∃o vs,h.get? e=aa o/\o.cls=cls/\o.dict=dx/\o.data=.fields vs
theorem NJ{P:Program}{w:World}{H:Hp}{h:Heap}{e:Addr}{cls:Value}{dx:Option Addr}(q:∃o vs,h.get? e=aa o/\o.cls=cls/\o.dict=dx/\o.data=.fields vs):gb P w H h e (Tg e cls dx):=by
 refine⟨q,?_,λh1 h2 zy k=>by obtain⟨o,vs,z,r⟩:=zy;exact⟨o,vs,k o z,r⟩⟩
 obtain⟨o,_,z,_⟩:=q
 exact⟨o,z⟩
structure FH(K:af)(C:Addr):Prop where
 ga:bU K (.ref C) "__getattribute__"=aa (aa (.builtin "BaseException.__getattribute__"))
 gx:bU K (.ref C) "__getattr__"=aa none
 bs:BY K (.ref C) (.type "BaseException")=aa true
 hd:lA K C=true
def Rw(K:af)(te:TE)(f:Str):TE:=λσ H Q=>te σ H (kQ Q λx H1 Q=>ex5 Q λe C d fs v Q=>x=.ref e/\H1 e=aa (Tg e (.ref C) (aa d))/\H1 d=aa (.xd fs)/\FH K C/\iq K C f/\fs.lookup f=aa v/\Q v H1)
section
variable{X:Cx}{e:Expr}{f:Str}{pos:Pos}{ta:TE}
theorem Qs(he:PE X e ta)(hb:attributeBase e f X.env (eval e X.env)=eval e X.env):PE X (.Attribute e f pos) (Rw X.K ta f):=by
 intro pins s σ H Q I h
 refine JO hb (fH (he pins s σ H _ I h) λu s1 zy=>?_)
 obtain⟨x,H1,I1,rx,a,C,d,fs,v,ex,ea,hd,g,n,l,q⟩:=zy
 subst ex
 obtain rfl:u=Value.ref a:=rx
 obtain⟨o,vs,z,zc,zd,zf⟩:=(I1.dO a _ ea).1
 obtain⟨mA,ns,rel⟩:=I1.dO d _ hd
 obtain⟨od,ho,hl⟩:=Dk ns
 obtain⟨u,hu,ru⟩:=rf.some_of (v:=v) (o:=mA f) (by rw[<-l];exact rel f)
 have J:PySem.W.InstAt s1.heap a o C (aa od):=by
  refine⟨z,zc,?_,?_⟩
  ·unfold PySem.W.notCls
   rw[zf]
  ·rw[zd]
   exact ho
 exact Ex.PR I1.vh J g.ga g.gx g.bs (HA g.hd n rfl (by rw[hl,hu])) (Dg ru) ⟨v,H1,I1.tok _,ru,q⟩
end
structure Ho(K:af)(C R:Addr):Prop where
 tup:PySem.W.instIn K (.ref R) (.type "tuple")=aa false
 typ:(Pd K R).isSome=true
 TC:BY K (.ref R) (.type "BaseException")=aa true
 sub:BY K (.ref C) (.ref R)=aa true
theorem PK{M:Model}{K:af}{C R e:Addr}{o:Obj}{A:Around}{E:Value->Shared->Prop}{s:Shared}{Q:Bool->Shared->Prop}(KX:K.In s.heap)(t:Ho K C R)(ho:s.heap.get? e=aa o)(hc:o.cls=.ref C)(q:Q true s):
  wpAny M A (excMatches (.ref e) (.ref R)) Q E s:=by
 obtain⟨hh,g,d,tk,os⟩:=s
 dsimp only at ho KX
 have L0:gg M hh (typeOf (.ref e)) (.ref C):=by
  have z:gg M hh (typeOf (.ref e)) o.cls:=(pz ho).andThen .now
  rw[hc]at z
  exact z
 have L1:=PySem.W.looks_instIn (M:=M) KX t.tup
 obtain⟨cd,hcd⟩:=kc.mp t.typ
 have L2:=HB (M:=M) KX t.TC
 have L3:=HB (M:=M) KX t.sub
 have hR:∃oc od sl,hh.get? R=aa ⟨oc,od,.cls cd,sl⟩:=by
  unfold Pd at hcd
  split at hcd
  ·rename_i oc od cd' sl hl
   cases hcd
   exact⟨oc,od,sl,KX _ _ hl⟩
  ·cases hcd
 obtain⟨oc,od,sl,hR⟩:=hR
 have hnt:∀{Q':Bool->Shared->Prop},Q' true ⟨hh,g,d,tk,os⟩->wpAny M A (isType (.ref R)) Q' E ⟨hh,g,d,tk,os⟩:=by
  intro Q' hq
  simp only[isType,loadHead]
  refine wpAny_bind (wpAny_loadPart hR ?_)
  exact wpAny_pure hq
 unfold excMatches
 refine wpAny_bind (L1.at ?_)
 rw[if_neg (by decide)]
 refine wpAny_bind (wpAny_pure ?_)
 dsimp only
 rw[oq]
 unfold isExcClass
 refine wpAny_bind (wpAny_bind (wpAny_bind (wpAny_bind (hnt ?_))))
 rw[if_pos rfl]
 refine L2.at ?_
 refine wpAny_pure ?_
 dsimp only
 rw[Cy]
 refine wpAny_pure (wpAny_bind (L0.at ?_))
 rw[oq]
 refine wpAny_bind (wpAny_bind (wpAny_bind (L3.at ?_)))
 rw[if_pos rfl]
 exact wpAny_pure (wpAny_pure (wpAny_pure q))
section
variable{X:Cx}{pins:List (Addr×Obj)}{σ:St}{H:Hp}{s:Shared}{e:Addr}{o:HO}
theorem Inv.OX(I:Inv X pins σ H s)(n:H e=none)(h0:X.vq.heap.objs.size<=e)(hl:e≠X.env.locals)(hc:∀x c,X.env.cells.lookup x=aa c->c≠e)(hp:∀p∈X.pn++pins,p.1≠e)
  (ok:gb X.prog X.w (upd H e o) s.heap e o):Inv X pins σ (upd H e o) s:=by
 have nb:∀b ob,X.vq.heap.get? b=aa ob->b≠e:=λb ob q=>bJ (aY (aQ q) h0)
 have ns:∀b u,H b=aa u->b≠e:=λb u q=>aA q n
 refine⟨I.ok,I.os,I.bare,⟨I.base.keep,I.base.slot,λb ob q z x=>?_,I.base.there,λb xs q=>?_,λb ob u q=>?_,λb ps q=>?_⟩,I.loc,I.cell,?_,λy c q=>?_,λp hq=>?_,λb u q=>?_,I.len⟩
 ·rw[az (nb b ob q)];exact I.base.free b ob q z x
 ·have z:=I.base.BF b xs q
  rw[az (ns _ _ z)];exact z
 ·have z:=I.base.zt b ob u q
  rw[az (ns _ _ z)];exact z
 ·obtain⟨m,z⟩:=I.base.zI b ps q
  exact⟨m,by rw[az (ns _ _ z)];exact z⟩
 ·rw[az hl.symm];exact I.free
 ·rw[az (hc y c q)];exact I.mN y c q
 ·obtain⟨a1,a2,a3⟩:=I.pin p hq
  exact⟨a1,by rw[az (hp p hq)];exact a2,a3⟩
 ·by_cases z:b=e
  ·subst z;rw[ag]at q;cases q;exact ok
  ·rw[az z]at q
   exact(I.dO b u q).xq (λ_ _ _ r=>r) (λc r=>by rw[az (ns _ _ r)];exact r) λc xs r=>by rw[az (ns _ _ r)];exact r
abbrev Cx.held(X:Cx)(e:Value)(E:Value->Shared->Prop):Cx:={X with A:=X.A.mark (aa e),calm:=false,xe:=E}
theorem Inv.held(I:Inv X pins σ H s)(v:Value)(E:Value->Shared->Prop):Inv (X.held v E) pins σ H s:=
 ⟨⟨I.ok.mod,I.ok.kind,I.ok.glob,I.ok.blt,I.ok.above,I.ok.inj,I.ok.has,I.ok.Tf,λz=>b0 z,I.ok.frames,I.ok.Pl,I.ok.TX,I.ok.bs,I.ok.MX,I.ok.L7,I.ok.Ly,I.ok.xS,I.ok.Rl⟩,I.os,I.bare,I.base,I.loc,I.cell,I.free,I.mN,I.pin,I.dO,I.len⟩
theorem Inv.Tc{v:Value}{E:Value->Shared->Prop}(ok:X.Ok)(I:Inv (X.held v E) pins σ H s):Inv X pins σ H s:=⟨ok,I.os,I.bare,I.base,I.loc,I.cell,I.free,I.mN,I.pin,I.dO,I.len⟩
end
def EX(K:af)(R:Addr)(f:Str)(Q:VK):XK:=λcls dx H=>∃C d i,cls=.ref C/\dx=aa d/\Ho K C R/\FH K C/\iq K C f/\H d=aa (.xd [(f,.int i)])/\∀l,H l=none->Q (.ref l) (upd H l (.lst [.int i]))
section
variable{X:Cx}{R:Addr}{x y n fl:Str}{p py pn pa pl cpos rpos rp2 hpos pos:Pos}{e:Expr}{es:List Expr}{t:TA}{i j:Nat}
def VU(X:Cx)(R:Addr)(fl:Str)(i:Nat)(t:TA):TS:=λD σ H=>ex5 D λf fd ps sp k D=>σ[i]?=aa (aa (.ref f))/\bw X.prog X.w X.K X.mg X.base (du X.prog X.w) k f fd ps sp/\iK k X.A/\cK X.K (.ref f)=true/\
 Binds X.K fd ps []/\t σ H (kQ D λvs H1 D=>sp vs H1 D.rt (EX X.K R fl D.rt))
theorem Sv(hN:X.N.Nodup)(hi:X.N[i]?=aa y)(hv:Pq X.env.scope y)(hj:X.N[j]?=aa n)(hn:X.env.scope.names.lookup n=aa .local)(hg:Gl X x)(hm:X.mg x=aa (.ref R))
  (ha:∀Ew,PA (X.uv Ew) (e::es) t)(xst:X.stack=X.env::X.outer:=by rfl)(xfr:X.env.frame=aa X.env.locals:=by rfl)
  (hyd:(y==("__debug__":Str))=false:=by decide)(hyc:(y==("__classdict__":Str))=false:=by decide)
  (hnd:(n==("__debug__":Str))=false:=by decide)(hnc:(n==("__classdict__":Str))=false:=by decide)(hxd:(x==("__debug__":Str))=false:=by decide)
  (he:starEach (e::es) X.env=(false,eval e X.env)::starEach es X.env:=by rfl)
  (hpl:(backTo cpos (starEach es X.env)).any (·.1)=false:=by rfl)(hba:attributeBase (.Name n pn) fl X.env (eval (.Name n pn) X.env)=eval (.Name n pn) X.env:=by rfl)(hse:starEach [Expr.Attribute (.Name n pn) fl pa] X.env=[(false,eval (Expr.Attribute (.Name n pn) fl pa) X.env)]:=by rfl):
  PS X (.Try [.Return (aa (.Call (.Name y py) (e::es) [] cpos)) rpos]
   [.ExceptHandler (aa (.Name x p)) (aa n) [.Return (aa (.List [.Attribute (.Name n pn) fl pa] pl)) rp2] hpos] [] [] pos) (VU X R fl i t):=by
 intro pins s σ H D I ⟨f,fd,ps,sp,k,hσ,F,hr,hk,hb,h⟩
 refine wpAny_Try_except ?_
 generalize hEw:(λe s₁=>wpAny (model X.prog X.w) X.A (noteFrame e X.env) (λ_ s₂=>wpAny (model X.prog X.w) X.A (setFlight e none) (λ_ s₃=>wpAny (model X.prog X.w) X.A (handleBy e X.env [.ExceptHandler (aa (.Name x p)) (aa n) [.Return (aa (.List [.Attribute (.Name n pn) fl pa] pl)) rp2] hpos]) (SP X pins D) X.xe s₃) X.xe s₂) X.xe s₁)=Ew
 have I':=I.uv Ew
 refine wpAny_execs_cons (wpAny_Return_some (wpAny_Call_Name_kw ?_))
 refine fH (IL (X:=X.uv Ew) (i:=i) hi hv hyd hyc pins s σ H (λv H1=>v=.ref f/\H1=H) I' ⟨_,hσ,rfl,rfl⟩) λu s1 zz0=>?_
 obtain⟨v,H1,I1,rv,ev,eH⟩:=zz0
 subst ev eH
 obtain rfl:u=Value.ref f:=rv
 refine iP (h₀:=X.base) I.ok.mod.Rn hk (fH (ha Ew cpos pins s1 σ _ _ I1 h) λus s2 ⟨vs,H2,I2,r,q⟩=>⟨I2.vh,?_⟩) he hpl
 have hl:(us++[]).length=ps.length:=by rw[aZ,<-r.length];exact F.len _ _ _ _ q
 have hb2:=hb s2 us I2.vh hl
 rw[aZ]at hb2
 refine wpAny_call (codeAny_mono (F.run X.A X.stack s2 H2 ⟨us,[]⟩ us vs D.rt _ hr I2.Eg hb2 r q) λr s' hq=>?_)
 cases r with
 |ok fl'=>
  cases fl' with
  |ret u=>
   obtain⟨v,H3,I3,rv,q3⟩:=I2.kK.after hq
   exact⟨v,σ,H3,I3,rv,q3⟩
  |next=>exact cy hq
  |brk=>exact cy hq
  |cont=>exact cy hq
 |error er=>
  show Ew er s'
  subst hEw
  obtain⟨ea,T,cls,dx,H',rfl,os,bare,un,dO,Rc,fe,fT,ne,nT,C,d,iv,rfl,rfl,hit,xg,na,hd,hq⟩:=hq
  have J2:=I2.kK
  have J3:=J2.JS os un dO bare (λb z=>absurd z (by simp))
  have Pl:HZ X.stack=Ex.De (X.env::X.outer):=by rw[xst];rfl
  refine Ex.xE (L:=X.env.locals) (by rw[J3.ok.frames,xst]) (by rw[<-xst];exact J3.stack) xfr Rc λh1 T' c1 n1 R1=>?_
  refine Ex.yt (s:={s' with heap:=h1}) R1 λh2 c2 R2=>?_
  have aE:=J2.apart fe
  have aT:=J2.apart fT
  have aT':=J3.apart n1
  have J5:Inv X pins σ H' {s' with heap:=h2}:=by
   refine J3.chg (L:=X.env.locals) (ch:=[ea,T,T']) ((c1.mono (λb z=>by rcases aG.mp z with z|z<;>simp_all) λb z=>z).trans (c2.mono (λb z=>by rw[aK.mp z];simp) (by simp))) (λb z=>by rw[Pl];exact z) λb z=>?_
   simp at z
   rcases z with rfl|rfl|rfl
   ·exact⟨ne,aE⟩
   ·exact⟨nT,aT⟩
   ·exact⟨J3.dO.fresh n1,aT'⟩
  obtain⟨oe,ve,hoe,ce,de,dte,_⟩:=R2.ob
  have J6:Inv X pins σ (upd H' ea (Tg ea (.ref C) (aa d))) {s' with heap:=h2}:=J5.OX ne aE.1 aE.2.1 aE.2.2.1 aE.2.2.2 (NJ ⟨oe,ve,hoe,ce,de,dte⟩)
  refine wpAny_handleBy_cons (codeAny_handlers_test ?_) (by intro q;cases q)
  have J7:=J6.held (.ref ea) (notedBy (model X.prog X.w) (X.A.mark (aa (Value.ref ea))) X.env (cameBackBy (model X.prog X.w) X.A X.env X.xe))
  refine og (X:=X.held (.ref ea) (notedBy (model X.prog X.w) (X.A.mark (aa (Value.ref ea))) X.env (cameBackBy (model X.prog X.w) X.A X.env X.xe))) J7 hg hm ?_ hxd
  refine PK J7.vh hit hoe ce ?_
  show codeAny _ _ _ _ _
  refine codeAny_handlers_suite_as ?_
  refine Ex.yt (s:={s' with heap:=h2}) R2 λh3 c3 R3=>?_
  have J8:Inv X pins σ H' {s' with heap:=h3}:=by
   refine Inv.chg (s:={s' with heap:=h2}) (h':=h3) (L:=X.env.locals) (fs:=[]) (ch:=[T']) J5 c3 (λb z=>absurd z (by simp)) λb z=>?_
   simp at z
   subst z
   exact⟨J3.dO.fresh n1,aT'⟩
  obtain⟨oe,ve,hoe,ce,de,dte,_⟩:=R3.ob
  have J9:Inv X pins σ (upd H' ea (Tg ea (.ref C) (aa d))) {s' with heap:=h3}:=J8.OX ne aE.1 aE.2.1 aE.2.2.1 aE.2.2.2 (NJ ⟨oe,ve,hoe,ce,de,dte⟩)
  have J10:=J9.held (.ref ea) (λ_ _=>False)
  refine xu (X:=X.held (.ref ea) (λ_ _=>False)) (i:=j) (v:=.ref ea) J10 hN hj (Or.inl hn) rfl (λs4 J11=>?_) (.inr hn)
  have ned:d≠ea:=λz=>by subst z;rw[hd]at ne;cases ne
  have body:DU (X.held (.ref ea) (λ_ _=>False)) [.Return (aa (.List [.Attribute (.Name n pn) fl pa] pl)) rp2] (OV (Uu (gJ (Rw X.K (fN j) fl) mq))):=
   au (a8 (d3 (ab (Qs (IL hj (Or.inl hn) hnd hnc) hba) aj hse)))
  have lj:j<σ.length:=by rw[I.len];exact(aD.mp hj).1
  refine wpAny_mono (body pins s4 (σ.set j (aa (.ref ea))) _ {nx:=λ_ _=>False,rt:=λv H2=>∃l,v=.ref l/\H' l=none/\l≠ea/\H2=upd (upd H' ea (Tg ea (.ref C) (aa d))) l (.lst [.int iv])} J11 ?_) (λfl' s5 q5=>?_) λ_ _ z=>z.elim
  ·refine⟨_,i6 lj,ea,C,d,[(fl,.int iv)],.int iv,rfl,ag,?_,xg,na,?_,?_,λl hl=>⟨l,rfl,?_,?_,rfl⟩⟩
   ·rw[az ned];exact hd
   ·rw[df,beq_self_eq_true]
   ·show 1<=sizeLine
    rw[sizeLine_eq];decide
   ·by_cases z:l=ea
    ·subst z;exact ne
    ·rw[az z]at hl;exact hl
   ·intro z;subst z;rw[ag]at hl;cases hl
  ·cases fl' with
   |next=>obtain⟨_,_,_,z⟩:=q5;exact z.elim
   |brk=>obtain⟨_,_,_,z⟩:=q5;exact z.elim
   |cont=>obtain⟨_,_,_,z⟩:=q5;exact z.elim
   |ret u=>
    obtain⟨v,σ6,H6,J12,rv,l,rfl,nl,nle,rfl⟩:=q5
    have J13:=J12.Tc I.ok
    have J14:=J13.Fm (φ:=λh=>∃o vs,h.get? ea=aa o/\o.cls=Value.ref C/\o.dict=aa d/\o.data=.fields vs) (by rw[az nle.symm,ag];rfl)
    have eH:vd (upd (upd H' ea (Tg ea (.ref C) (aa d))) l (.lst [.int iv])) ea=upd H' l (.lst [.int iv]):=by
     funext b
     by_cases z:b=ea
     ·subst z
      rw[tq,az nle.symm,ne]
     ·rw[oV z]
      by_cases z2:b=l
      ·subst z2;rw[ag,ag]
      ·rw[az z2,az z2,az z]
    rw[eH]at J14
    show wpAny _ _ _ _ _ _
    obtain⟨m,hns,hlo⟩:=id J14.loc
    refine wpAny_nameGoes (m:=m) hn hns (by rw[I.ok.kind];rfl) λh7 m7 hn7 hs7=>?_
    obtain⟨oL,_,_,hoL,_⟩:=id hns
    obtain⟨oL7,_,_,hoL7,_⟩:=id hn7
    have neL:∀b o,X.vq.heap.get? b=aa o->b≠X.env.locals:=λb o e=>bJ (aY (aQ e) I.ok.above)
    refine⟨.ref l,σ6.map λ_=>none,upd H' l (.lst [.int iv]),⟨J14.ok,J14.os,J14.bare,⟨λb o e n hb hx=>?_,λb o e n hb hx=>?_,J14.base.free,λb o e hx=>?_,J14.base.BF,J14.base.zt,J14.base.zI⟩,⟨m7,hn7,λk' z v' e1 e2 e3=>?_⟩,λy c e=>?_,J14.free,J14.mN,λp hp=>?_,λb u' q=>?_,by rw[ae];exact J14.len⟩,rv,hq l nl⟩
    ·exact(hs7.2 b (neL b o e)).trans (J14.base.keep b o e n hb hx)
    ·obtain⟨sl,e1⟩:=J14.base.slot b o e n hb hx
     exact⟨sl,(hs7.2 b (neL b o e)).trans e1⟩
    ·obtain⟨o',e1⟩:=J14.base.there b o e hx
     exact⟨o',(hs7.2 b (neL b o e)).trans e1⟩
    ·rw[aS]at e2
     cases hz:σ6[k']? with
     |none=>rw[hz]at e2;cases e2
     |some w'=>rw[hz]at e2;cases e2
    ·obtain⟨w',z⟩:=J14.cell y c e
     exact⟨w',z.sameBut hs7 (J14.Rj y c e)⟩
    ·obtain⟨e,n,ne',nf,d'⟩:=J14.pin p hp
     exact⟨(hs7.2 p.1 ne').trans e,n,ne',nf,d'⟩
    ·refine(J14.dO b u' q).xq (λc v' hc q'=>(hs7.2 c ?_).trans q') (λ_ q=>q) λ_ _ q=>q
     rintro rfl
     have fr:=J14.free
     rcases hc with hc|hc
     ·rw[hc]at fr
      rw[fr]at q;cases q
     ·rw[fr]at hc;cases hc
end
end L2
end
section
namespace L2
open PySem PySem.Spec PyProof.Rows
section
variable{X:Cx}{e:Expr}{es:List Expr}{te:TE}{pos:Pos}
def Q3(te:TE):TE:=λσ H Q=>te σ H (kQ Q λx H1 Q=>(ex1 Q λy Q=>x=.str y/\y.length<=sizeLine/\Q (.str y) H1)\/ex1 Q λ(i:Int) Q=>x=.int i/\i.natAbs.log2<1920/\Q (.str (toString i)) H1)
theorem IK(he:PE X e te):PE X (.FormattedValue e (-1) none pos) (Q3 te):=by
 intro pins s σ H Q I h
 refine wpAny_FormattedValue_plain (fH (he pins s σ H _ I h) λv s1 zy=>?_)
 obtain⟨x,H1,I1,r1,q⟩:=zy
 rcases q with ⟨y,rfl,hz,q⟩|⟨i,rfl,hz,q⟩
 ·obtain⟨t,rfl⟩:=r1
  exact wpAny_formatField_str ⟨.str y,H1,I1,⟨_,rfl⟩,q⟩ ⟨.str y,H1,I1.tok _,⟨_,rfl⟩,q⟩ hz
 ·obtain⟨t,rfl⟩:=r1
  exact wpAny_formatField_int hz ⟨.str (toString i),H1,I1.tok _,⟨_,rfl⟩,q⟩
def tJ:List TE->Str->TE
 |[],acc=>λ_ H Q=>acc.length<=sizeLine/\Q (.str acc) H
 |t::ts,acc=>λσ H Q=>t σ H λx H1=>∃y,x=.str y/\(acc++y).length<=sizeLine/\tJ ts (acc++y) σ H1 Q
def U6(X:Cx):List Expr->List TE->Prop
 |[],[]=>True
 |e::es,t::ts=>PE X e t/\U6 X es ts/\evalEach (e::es) X.env=eval e X.env::evalEach es X.env
 |_,_=>False
theorem Gp{pins:List (Addr×Obj)}{σ:St}{Q:VK}:∀{es:List Expr}{ts:List TE},U6 X es ts->∀(acc:Str)(H:Hp)(s:Shared),Inv X pins σ H s->tJ ts acc σ H Q->
  Joins (model X.prog X.w) X.A X.xe (evalEach es X.env) acc (λout s1=>out.length<=sizeLine/\EP X pins σ Q (.str out s1.toks) {s1 with toks:=s1.toks+1}) s
 |[],[],_,acc,H,s,I,h=>⟨h.1,.str acc,H,I.tok _,⟨_,rfl⟩,h.2⟩
 |e::es,t::ts,⟨h1,h2,h3⟩,acc,H,s,I,h=>by
  rw[h3]
  refine fH (h1 pins s σ H _ I h) λv s1 zz0=>?_
  obtain⟨x,H1,I1,r1,y,ex,hz,q⟩:=zz0
  subst ex
  obtain⟨tk,rfl⟩:=r1
  exact⟨y,tk,rfl,hz,Gp h2 (acc++y) H1 s1 I1 q⟩
 |[],_::_,h,_,_,_,_,_=>h.elim
 |_::_,[],h,_,_,_,_,_=>h.elim
theorem Du{v1 v2:Expr}{rest:List Expr}{ts:List TE}(h:U6 X (v1::v2::rest) ts):PE X (.JoinedStr (v1::v2::rest) pos) (tJ ts su):=λpins s σ H Q I hq=>
 wpAny_JoinedStr (Gp h su H s I hq)
end
section
variable{X:Cx}{a b c d:Expr}{ta tb tc td:TE}{pos:Pos}
def K0(r r' r'':R2)(ta tb tc td:TE):TE:=λσ H Q=>ta σ H (kQ Q λx H1 Q=>tb σ H1 (kQ Q λy H2 Q=>r x y H2 (kQ Q λz H3 Q=>ex1 Q λk Q=>z=.bl k/\
 (if k=true then tc σ H3 (kQ Q λu H4 Q=>r' y u H4 (kQ Q λz' H5 Q=>ex1 Q λk' Q=>z'=.bl k'/\(if k'=true then td σ H5 (kQ Q λw' H6 Q=>r'' u w' H6 Q)else Q (.bl false) H5)))else Q (.bl false) H3))))
theorem Mp{op op' op'':CmpOp}{r r' r'':R2}(ho:vA X (compareOp op) r)(ho':vA X (compareOp op') r')(ho'':vA X (compareOp op'') r'')(ha:PE X a ta)(hb:PE X b tb)(hc:PE X c tc)(hd:PE X d td)
  (hm:lastMarks [op,op',op''] [b,c,d]=false:=by with_unfolding_all rfl):PE X (.Compare a [op,op',op''] [b,c,d] pos) (K0 r r' r'' ta tb tc td):=by
 intro pins s σ H Q I h
 refine Compare_chain (fH (ha pins s σ H _ I h) λv s1 ⟨x,H1,I1,r1,q1⟩=>chain_link (fH (hb pins s1 σ H1 _ I1 q1) λu s2 ⟨y,H2,I2,r2,q2⟩=>
  fH (ho pins s2 σ H2 x y v u _ I2 r1 r2 q2) λd s3 ⟨z,H3,I3,r3,k,e,q3⟩=>?_)) hm
 subst e
 cases r3
 refine wpAny_truthy_bool ?_
 cases k with
 |false=>exact ite_ff ⟨.bl false,H3,I3,rfl,q3⟩
 |true=>
  refine ite_tt (chain_link (fH (hc pins s3 σ H3 _ I3 q3) λu' s4 ⟨y',H4,I4,r4,q4⟩=>fH (ho' pins s4 σ H4 y y' u u' _ I4 r2 r4 q4) λd' s5 zy=>?_))
  obtain⟨z',H5,I5,r5,k',e',q5⟩:=zy
  subst e'
  cases r5
  refine wpAny_truthy_bool ?_
  cases k' with
  |false=>exact ite_ff ⟨.bl false,H5,I5,rfl,q5⟩
  |true=>exact ite_tt (chain_last (fH (hd pins s5 σ H5 _ I5 q5) λw' s6 zy=>by obtain⟨z'',H6,I6,r6,q6⟩:=zy;exact ho'' pins s6 σ H6 y' z'' u' w' Q I6 r4 r6 q6))
theorem Mr{op op' op'':CmpOp}{r r' r'':R2}(ho:vA X (compareOp op) r)(ho':vA X (compareOp op') r')(ho'':vA X (compareOp op'') r'')(ha:PE X a ta)(hb:PE X b tb)(hc:PE X c tc)(hd:PE X d td)
  (hm:lastMarks [op,op',op''] [b,c,d]=false:=by with_unfolding_all rfl):PT X (.Compare a [op,op',op''] [b,c,d] pos) (DL (K0 r r' r'' ta tb tc td)):=by
 intro pins s σ H Q I h
 refine isTrue_chain (fH (ha pins s σ H _ I h) λv s1 ⟨x,H1,I1,r1,q1⟩=>test_link (fH (hb pins s1 σ H1 _ I1 q1) λu s2 ⟨y,H2,I2,r2,q2⟩=>
  fH (ho pins s2 σ H2 x y v u _ I2 r1 r2 q2) λd s3 ⟨z,H3,I3,r3,k,e,q3⟩=>?_)) hm
 subst e
 cases r3
 refine wpAny_truthy_bool ?_
 cases k with
 |false=>
  obtain⟨k',e',q'⟩:=q3
  cases e'
  exact ite_ff ⟨H3,I3,q'⟩
 |true=>
  refine ite_tt (test_link (fH (hc pins s3 σ H3 _ I3 q3) λu' s4 ⟨y',H4,I4,r4,q4⟩=>fH (ho' pins s4 σ H4 y y' u u' _ I4 r2 r4 q4) λd' s5 zy=>?_))
  obtain⟨z',H5,I5,r5,k',e',q5⟩:=zy
  subst e'
  cases r5
  refine wpAny_truthy_bool ?_
  cases k' with
  |false=>
   obtain⟨k2,e2,q'⟩:=q5
   cases e2
   exact ite_ff ⟨H5,I5,q'⟩
  |true=>
   refine ite_tt (test_last (fH (hd pins s5 σ H5 _ I5 q5) λw' s6 ⟨z2,H6,I6,r6,q6⟩=>fH (ho'' pins s6 σ H6 y' z2 u' w' _ I6 r4 r6 q6) λd2 s7 zy=>?_))
   obtain⟨z3,H7,I7,r7,k3,e3,q7⟩:=zy
   subst e3
   cases r7
   exact wpAny_truthy_bool ⟨H7,I7,q7⟩
end
section
variable{X:Cx}
def Ti(i j:Int):Prop:=0<j/\j<2^64
theorem Om:vA X (binaryOp .FloorDiv) (rI Ti λi j=>.int (i/j)):=Vv λi j _ _ _ _ _ hc q=>by
 have h1:(0:Int)<j:=hc.1
 have h2:j<2^64:=hc.2
 refine floordiv_int (by lia) (by rw[Int.fdiv_eq_ediv_of_nonneg i (by lia)];exact q) (.inl (PyProof.noPylong_of_log2 ?_))
 have h3:j.natAbs<2^64:=by omega
 have h4:j.natAbs≠0:=by lia
 have:=(Nat.log2_lt h4).mpr h3
 lia
end
structure pW(H:Hp)(as:List Addr)(ps:List (Int×Int)):Prop where
 pr:Paired (λ(a:Addr)(p:Int×Int)=>H a=aa (.tup [.int p.1,.int p.2])) as ps
theorem pW.nil{H:Hp}:pW H [] []:=⟨.nil⟩
theorem pW.cons{H:Hp}{a:Addr}{p:Int×Int}{as:List Addr}{ps:List (Int×Int)}(h:H a=aa (.tup [.int p.1,.int p.2]))(r:pW H as ps):pW H (a::as) (p::ps):=⟨.cons h r.pr⟩
theorem pW.same{H H':Hp}{as:List Addr}{ps:List (Int×Int)}(r:pW H as ps)(k:∀b xs,H b=aa (.tup xs)->H' b=aa (.tup xs)):pW H' as ps:=⟨Paired.P8 r.pr λa p q=>k a _ q⟩
theorem pW.length{H:Hp}{as:List Addr}{ps:List (Int×Int)}(r:pW H as ps):as.length=ps.length:=gj r.pr
theorem pW.append{H:Hp}{as bs:List Addr}{ps qs:List (Int×Int)}(r:pW H as ps)(t:pW H bs qs):pW H (as++bs) (ps++qs):=by
 obtain⟨r⟩:=r
 obtain⟨t⟩:=t
 induction r with
 |nil=>exact⟨t⟩
 |cons h _ ih=>exact⟨.cons h ih.pr⟩
theorem pW.get{H:Hp}:∀{as:List Addr}{ps:List (Int×Int)}{i:Nat}{p:Int×Int},pW H as ps->ps[i]?=aa p->∃a,as[i]?=aa a/\H a=aa (.tup [.int p.1,.int p.2])
 |[],_,_,_,⟨.nil⟩,e=>by simp at e
 |a::as,q::ps,0,p,⟨.cons h _⟩,e=>by
  simp at e;subst e;exact⟨a,rfl,h⟩
 |a::as,q::ps,i+1,p,⟨.cons _ t⟩,e=>by
  obtain⟨b,h1,h2⟩:=pW.get (H:=H) (as:=as) (ps:=ps) (i:=i) ⟨t⟩ (by simpa using e)
  exact⟨b,by simpa using h1,h2⟩
theorem pW.Ej{H:Hp}{as:List Addr}{ps:List (Int×Int)}{i:Nat}{a:Addr}(r:pW H as ps)(e:as[i]?=aa a):∃p,ps[i]?=aa p/\H a=aa (.tup [.int p.1,.int p.2]):=by
 have hi:i<ps.length:=by rw[<-r.length];exact(aD.mp e).1
 obtain⟨b,h1,h2⟩:=r.get (cC hi)
 rw[e]at h1
 cases h1
 exact⟨_,cC hi,h2⟩
abbrev pairD(p:Int×Int):PyData:=.tuple [.int p.1,.int p.2]
theorem Au(p q:Int×Int):jF (pairD p) (pairD q)=decide (p=q):=by
 obtain⟨a,b⟩:=p
 obtain⟨c,d⟩:=q
 by_cases h1:a=c
 ·by_cases h2:b=d
  ·subst h1 h2;simp[jF,kd]
  ·simp[jF,kd,h1,h2]
 ·simp[jF,kd,h1]
theorem ui(p:Int×Int):(pairD p).canLay0=true/\(pairD p).depth<=64:=by
 refine⟨rfl,?_⟩
 show(pairD p).depth<=64
 simp[Fv,sr]
section
variable{X:Cx}{pins:List (Addr×Obj)}{σ:St}{H:Hp}{s:Shared}
theorem yq{a:Addr}{p:Int×Int}(I:Inv X pins σ H s)(h:H a=aa (.tup [.int p.1,.int p.2])):∃bs,Reads s.heap (.ref a) (pairD p) bs:=
 Dp.reads I (pairD p) (.ref a) _ (.tup (.of h) (.cons (.int _) (.cons (.int _) .nil))) rfl
def Pg(h:Heap)(q:Int×Int)(u:Value):Bool:=match u with
 |.ref a=>match h.get? a with
  |some o=>(match o.data with
   |.seq #[.int x _,.int y _] _=>decide ((x,y)=q)
   |_=>false)
  |none=>false
 |_=>false
theorem NH{a:Addr}{p q:Int×Int}(I:Inv X pins σ H s)(h:H a=aa (.tup [.int p.1,.int p.2])):Pg s.heap q (.ref a)=decide (p=q):=by
 obtain⟨_,its,r,o,ho,_,n,hd⟩:=I.dO a _ h
 cases r with
 |cons r1 r2=>
  cases r2 with
  |cons r2 r3=>
   cases r3
   obtain⟨t,rfl⟩:=r1
   obtain⟨u,rfl⟩:=r2
   unfold Pg
   dsimp only
   rw[ho]
   dsimp only
   rw[hd]
   rfl
theorem D4{q:Int×Int}(I:Inv X pins σ H s):∀{as:List Addr}{ps:List (Int×Int)},pW H as ps->(as.map Value.ref).any (Pg s.heap q)=ps.any λp=>decide (p=q)
 |[],_,⟨.nil⟩=>rfl
 |a::as,p::ps,⟨.cons h r⟩=>by
  rw[aU,d6,d6,NH I h,D4 I ⟨r⟩]
theorem Et{A:Around}{q:Int×Int}{v:Value}{bs:List Addr}(I:Inv X pins σ H s)(hv:Reads s.heap v (pairD q) bs)(hu:A.units+65<cLine):∀{as:List Addr}{ps:List (Int×Int)},pW H as ps->∀u∈as.map Value.ref,Lf A.in1 s u v (Pg s.heap q u)
 |[],_,_=>λu hu=>by cases hu
 |a::as,p::ps,⟨.cons h r⟩=>λu hm=>by
  rcases aG.mp hm with rfl|hm
  ·rw[NH I h,<-Au]
   obtain⟨cs,hr⟩:=yq I h
   refine SeqAt.eqAt_reads _ _ _ _ _ _ _ _ hr hv (ui p).1 (ui q).1 ?_
   have h1:=(ui p).2
   have h2:min (pairD p).depth (pairD q).depth<=(pairD p).depth:=Nat.min_le_left _ _
   have h3:A.in1.units=A.units+1:=rfl
   lia
  ·exact Et I hv hu ⟨r⟩ u hm
end
theorem uM:∀{as:List Addr}{us:List Value},Vals (as.map V.ref) us->us=as.map Value.ref
 |[],_,.nil=>rfl
 |a::as,_,.cons r t=>by
  rw[show _=Value.ref a from r,uM t]
  rfl
theorem DO:∀as:List Addr,Vals (as.map V.ref) (as.map Value.ref)
 |[]=>.nil
 |a::as=>.cons rfl (DO as)
section
variable{X:Cx}
def Sz(K:af)(neg:Bool):R2:=λx y H Q=>ex5 Q λc l as ps q Q=>x=.ref c/\y=.ref l/\H c=aa (.tup [.int q.1,.int q.2])/\cJ K H l (as.map V.ref)/\pW H as ps/\Q (.bl (if neg then !decide (q∈ps)else decide (q∈ps))) H
theorem JM{q:Int×Int}(ps:List (Int×Int)):(ps.any λp=>decide (p=q))=decide (q∈ps):=by
 rw[g9,List.any_eq_true,decide_eq_true_iff]
 constructor
 ·rintro⟨p,hp,e⟩
  rw[<-of_decide_eq_true e];exact hp
 ·intro h
  exact⟨q,h,decide_eq_true rfl⟩
theorem II(hu:X.A.units+65<cLine):vA X (compareOp .In) (Sz X.K false):=by
 intro pins s σ H x y v u Q I rx ry h
 obtain⟨c,l,as,ps,q,rfl,rfl,hc,hl,hp,hq⟩:=h
 cases rx
 cases ry
 obtain⟨its,r,pl,hz⟩:=I.list hl
 obtain⟨bs,hv⟩:=yq I hc
 have e:=uM r
 subst e
 refine Pc (Pg s.heap q) pl.isList (λw hw=>Et I hv hu hp w (by simpa using hw)) ⟨.bl _,H,I,rfl,?_⟩
 rw[show(List.map Value.ref as).toArray.any (Pg s.heap q)=(as.map Value.ref).any (Pg s.heap q) by simp,D4 I hp,JM]
 exact hq
theorem Dr(hu:X.A.units+65<cLine):vA X (compareOp .NotIn) (Sz X.K true):=by
 intro pins s σ H x y v u Q I rx ry h
 obtain⟨c,l,as,ps,q,rfl,rfl,hc,hl,hp,hq⟩:=h
 cases rx
 cases ry
 obtain⟨its,r,pl,hz⟩:=I.list hl
 obtain⟨bs,hv⟩:=yq I hc
 have e:=uM r
 subst e
 refine SeqAt.notIn_listAt (Pg s.heap q) pl.isList (λw hw=>Et I hv hu hp w (by simpa using hw)) ⟨.bl _,H,I,rfl,?_⟩
 rw[show(List.map Value.ref as).toArray.any (Pg s.heap q)=(as.map Value.ref).any (Pg s.heap q) by simp,D4 I hp,JM]
 exact hq
end
def MY(p q:Int×Int):Prop:=p.1<q.1\/(p.1=q.1/\p.2<=q.2)
def Uk:Nat->Bool:=λ_=>false
section
variable{X:Cx}{pins:List (Addr×Obj)}{σ:St}{H:Hp}{s:Shared}
theorem P5{a:Addr}{p:Int×Int}(I:Inv X pins σ H s)(h:H a=aa (.tup [.int p.1,.int p.2])):j5 s.heap Uk (.ref a)=aa [Sum.inl p.1,Sum.inl p.2]:=by
 obtain⟨_,its,r,o,ho,hc,n,hd⟩:=I.dO a _ h
 cases r with
 |cons r1 r2=>
  cases r2 with
  |cons r2 r3=>
   cases r3
   obtain⟨t,rfl⟩:=r1
   obtain⟨u,rfl⟩:=r2
   unfold j5
   rw[if_pos (by unfold PyProof.Rows.G.isTupObj;dsimp only;rw[ho];dsimp only;rw[hc];rfl)]
   unfold PyProof.Rows.tupKey
   dsimp only
   rw[ho]
   dsimp only
   rw[hd]
   rfl
theorem Uz{as:List Addr}:∀{ps:List (Int×Int)}(I:Inv X pins σ H s),pW H as ps->∃fs,PyProof.Rows.TupsOf s.heap Uk (as.map Value.ref) fs:=by
 induction as with
 |nil=>intro ps I r;exact⟨[],.nil⟩
 |cons a as ih=>
  intro ps I r
  obtain⟨r⟩:=r
  cases r with
  |cons h t=>
   obtain⟨fs,q⟩:=ih I ⟨t⟩
   obtain⟨_,its,r,o,ho,hc,n,hd⟩:=I.dO a _ h
   cases r with
   |cons r1 r2=>
    obtain⟨tk,rfl⟩:=r1
    exact⟨_,.cons ⟨a,o,_,n,rfl,ho,hc,hd,rfl,λ_=>⟨_,_,rfl⟩,λz=>nomatch z⟩ q⟩
theorem Es{α β:Type}{f:α->β}{g:β->α}(hg:∀x,g (f x)=x){l:List β}{m:List α}(h:l.Perm (m.map f)):∃k:List α,l=k.map f/\k.Perm m:=by
 refine⟨l.map g,?_,?_⟩
 ·have hall:∀x∈l,f (g x)=x:=λx hx=>by
   obtain⟨y,_,e⟩:=bB.mp (h.mem_iff.mp hx)
   rw[<-e,hg]
  rw[dQ]
  conv=>lhs;rw[<-Ad l]
  exact bg λx hx=>(hall x hx).symm
 ·have:=h.map g
  rw[dQ,show g∘f=id from funext hg,Ad]at this
  exact this
def qT(H:Hp)(a:Addr):Int×Int:=match H a with
 |some (.tup [.int x,.int y])=>(x,y)
 |_=>(0,0)
theorem Fq{a:Addr}{p:Int×Int}(h:H a=aa (.tup [.int p.1,.int p.2])):qT H a=p:=by unfold qT;rw[h]
theorem pW.vals:∀{as:List Addr}{ps:List (Int×Int)},pW H as ps->ps=as.map (qT H)
 |[],_,⟨.nil⟩=>rfl
 |a::as,p::ps,⟨.cons h r⟩=>by rw[aU,Fq h,<-pW.vals ⟨r⟩]
theorem pW.Oj{as:List Addr}{ps:List (Int×Int)}(r:pW H as ps):∀{bs:List Addr},(∀b∈bs,b∈as)->pW H bs (bs.map (qT H))
 |[],_=>.nil
 |b::bs,h=>by
  refine .cons ?_ (pW.Oj r λc hc=>h c (ax _ hc))
  obtain⟨i,hi⟩:=u5 (h b ay)
  obtain⟨p,_,hp⟩:=r.Ej hi
  rw[Fq hp]
  exact hp
end
section
variable{X:Cx}
def OB(K:af):List V->Hp->VK->Prop:=λvs H Q=>ex3 Q λa as ps Q=>vs=[V.ref a]/\cJ K H a (as.map V.ref)/\pW H as ps/\
 ∀(bs:List Addr)(qs:List (Int×Int))(l:Addr),pW H bs qs->qs.Perm ps->qs.Pairwise MY->H l=none->Q (.ref l) (upd H l (.lst (bs.map V.ref)))
theorem vD:nM X (.builtin "sorted") (OB X.K):=by
 intro pins s σ H vs us Q I r h
 obtain⟨a,as,ps,rfl,hs,hp,q⟩:=h
 obtain⟨its,rv,hl,hz⟩:=I.list hs
 rw[Vals.IV r]
 have e:=uM rv
 subst e
 obtain⟨fs,ht⟩:=Uz I hp
 have hk:∀b∈as,j5 s.heap Uk (.ref b)=aa [Sum.inl (qT H b).1,Sum.inl (qT H b).2]:=λb hb=>by
  obtain⟨i,hi⟩:=u5 hb
  obtain⟨p,_,h2⟩:=hp.Ej hi
  rw[P5 I h2,Fq h2]
 have hz':(as.map Value.ref).length<=sizeLine:=by rw[ae];rw[ae]at hz;exact hz
 refine PyProof.Rows.G.sorted_tups hl.isList ht (λv hv=>?_) hz' λst' h1 h2 _=>?_
 ·obtain⟨b,hb,e⟩:=bB.mp hv
  subst e
  exact⟨_,hk b hb⟩
 ·have hperm:((arrOf st').toList).Perm ((as.map Value.ref).zip (as.map Value.ref)):=by
   have:=h1.toList
   rw[pairsOf_toList]at this
   exact this
  have hz2:(as.map Value.ref).zip (as.map Value.ref)=as.map λb=>(Value.ref b,Value.ref b):=by rw[List.zip_map',]
  rw[hz2]at hperm
  obtain⟨bs,eb,pb⟩:=Es (f:=λb:Addr=>(Value.ref b,Value.ref b)) (g:=λv=>match v.1 with|.ref b=>b|_=>0) (λ_=>rfl) hperm
  obtain⟨ep,he'⟩:=PyProof.Rows.sortedAll_at s.heap (as.map Value.ref) ((arrOf st').map (·.2))
  have eo:((arrOf st').map (·.2)).toList=bs.map Value.ref:=by
   rw[Array.toList_map,eb,dQ]
   rfl
  rw[show((arrOf st').map (·.2))=(bs.map Value.ref).toArray from MZ.mp (by rw[eo])]at he'⊢
  have hlb:bs.length=as.length:=pb.length_eq
  have hsub:∀b∈bs,b∈as:=λb hb=>pb.mem_iff.mp hb
  have hqs:(bs.map (qT H)).Perm ps:=by rw[hp.vals];exact pb.map _
  have hlen:(bs.map V.ref).length<=sizeLine:=by rw[ae,hlb];rw[ae]at hz;exact hz
  have hsz:(pairsOf (as.map Value.ref)).size=bs.length:=by rw[pairsOf_size,ae,hlb]
  have hsort:(bs.map (qT H)).Pairwise MY:=by
   rw[qw,List.pairwise_iff_getElem]
   intro i j hi hj hij
   have h3:=h2 i j (lU hij) (by rw[hsz];exact hj)
   have kk:∀k(hk':k<bs.length),KK (PyProof.Rows.G.tupKindC s.heap Uk) (arrOf st') k=[Sum.inl (qT H bs[k]).1,Sum.inl (qT H bs[k]).2]:=λk hk'=>by
    unfold KK
    have e1:(arrOf st')[k]?=aa (Value.ref bs[k],Value.ref bs[k]):=by
     rw[<-mv,eb,aS,cC hk']
     rfl
    rw[e1]
    dsimp only
    show(j5 s.heap Uk (.ref bs[k])).getD _=_
    rw[hk _ (hsub _ (O8 hk'))]
    rfl
   rw[kk i hi,kk j hj]at h3
   have h4:PyProof.Rows.lexLt PyProof.Rows.itemOrd [Sum.inl (qT H bs[j]).1,Sum.inl (qT H bs[j]).2] [Sum.inl (qT H bs[i]).1,Sum.inl (qT H bs[i]).2]=false:=h3
   rw[zL]at h4
   obtain⟨h5,h6⟩:=h4
   have h5':decide ((qT H bs[j]).1<(qT H bs[i]).1)=false:=h5
   have h5'':=of_decide_eq_false h5'
   rcases h6 with h6|h6
   ·have h6':decide ((qT H bs[i]).1<(qT H bs[j]).1)=true:=h6
    exact .inl (of_decide_eq_true h6')
   ·rw[zL]at h6
    have h7:decide ((qT H bs[j]).2<(qT H bs[i]).2)=false:=h6.1
    have h7':=of_decide_eq_false h7
    unfold MY
    lia
  exact⟨.ref _,upd H (s.heap.objs.size+1) (.lst (bs.map V.ref)),I.laid (t':=s.toks) (λ_ _=>PyProof.Rows.sortedAll_old) (n6 _) ⟨hlen,bs.map Value.ref,ep,DO bs,he'⟩,rfl,q bs _ _ (hp.Oj hsub) hqs hsort (I.dO.fresh (n6 _))⟩
end
end L2
end
section
namespace L2
open PySem PySem.Spec PyProof.Rows
structure To(K:af)(C:Addr):Prop where
 makes:u7 K C=true
 init:bU K (.ref C) "__init__"=aa (aa (.builtin "object.__init__"))
 kp:cK K (.ref C)=true
def S6(C:Addr):TE:=λ_ H Q=>∀x dx,H x=none->H dx=none->dx≠x->Q (.ref x) (upd (upd H dx (.own x)) x (.ins C dx []))
section
variable{X:Cx}{C:Addr}{x:Str}{p pos:Pos}
theorem mT(M:To X.K C)(hg:Gl X x)(hm:X.mg x=aa (.ref C))(hdb:(x==("__debug__":Str))=false:=by decide):PE X (.Call (.Name x p) [] [] pos) (S6 C):=by
 intro pins s σ H Q I h
 refine wpAny_Call_Name_kw (og I hg hm ?_ hdb)
 refine nP I.vh M.kp ?_
 show wpAny _ _ (call (.ref C) []) _ _ _
 have hq:=h (s.heap.objs.size+1) s.heap.objs.size (I.dO.fresh (n6 _)) (I.dO.fresh (ah _)) (bJ (sq _))
 have I2:=Inv.made (C:=C) I
 have KX:=I.vh
 obtain⟨hh,g,d,t,os⟩:=s
 have Y:=Lj (M:=model X.prog X.w) KX M.makes
 have e2:((hh.push cG).push (dD C hh.objs.size)).get? (hh.objs.size+1)=aa (dD C hh.objs.size):=qx (by rw[cu]) rfl
 refine wpAny_call (JH Y (sV KX M.init) (λself=>Hy (PySem.W.oi_bind self)) (.inr ⟨rfl,rfl⟩) ?_)
 have t1:gg (model X.prog X.w) ((hh.push cG).push (dD C hh.objs.size)) (typeOf (.ref (hh.objs.size+1))) (.ref C):=(pz e2).andThen .now
 have t2:gg (model X.prog X.w) ((hh.push cG).push (dD C hh.objs.size)) (isInstance (.ref (hh.objs.size+1)) (.type "object")) true:=t1.andThen (Y.top.keeps λb o e=>aw _ (aw _ e))
 refine codeAny_call_builtin PySem.W.oi_plain PySem.W.entry_oi (@PySem.W.check_slot (model X.prog X.w) _ _ _ "object.__init__" "object" "__init__" (.ref (hh.objs.size+1)) [] [] _ PySem.W.oi_kind PySem.W.oi_split t2 (PySem.W.oi_args (.ref (hh.objs.size+1))) ?_)
 rw[PySem.W.oi_run]
 exact wpAny_pure (And.intro rfl ⟨V.ref (hh.objs.size+1),_,I2,rfl,hq⟩)
end
section
variable{X:Cx}
theorem Lo:nM X (.type "range") (λxs H Q=>ex2 Q λ(i j:Int) Q=>xs=[.int i,.int j]/\∀p,H p=none->Q (.ref p) (upd H p (.Cn i j))):=by
 intro pins s σ H xs us Q I r h
 obtain⟨i,j,rfl,q⟩:=h
 obtain⟨t,u,rfl⟩:=Vals.Vi r
 refine call_range_2 ⟨.ref s.heap.objs.size,upd H s.heap.objs.size (.Cn i j),I.laid (t':=s.toks+1) (λb o e=>aw _ e) (ah _) ?_,rfl,q _ (I.dO.fresh (ah _))⟩
 exact⟨_,_,_,bh _ rfl⟩
def ups(lo:Int)(n:Nat):List Int:=(bA n).map λi=>lo+(i:Nat)
theorem Eb(hc:X.calm=true):nM X (.type "list") (λxs H Q=>∃p lo hi,xs=[.ref p]/\H p=aa (.Cn lo hi)/\(-(2^62)<=lo/\lo<2^62/\-(2^62)<=hi/\hi<2^62/\(hi-lo).toNat<=1000000)/\
  ∀l,H l=none->Q (.ref l) (upd H l (.lst ((ups lo (hi-lo).toNat).map V.int)))):=by
 intro pins s σ H xs us Q I r h
 obtain⟨p,lo,hi,rfl,hp,⟨h1,h2,h3,h4,h5⟩,q⟩:=h
 rw[Vals.IV r]
 obtain⟨t,u,v,e⟩:=I.dO p _ hp
 have hz:(hi-lo).toNat<=sizeLine:=by rw[sizeLine_eq];lia
 refine call_list_range (n:=(hi-lo).toNat) (I.ok.hd hc) e (small_one h1 h2 h3 h4) (by rw[rangeSize_one];split<;>lia) (by assumption) λh' tk acc' c' hk hS hacc=>?_
 refine⟨.ref s.heap.objs.size,_,I.laid (t':=tk) (o:=.lst ((ups lo (hi-lo).toNat).map V.int)) hk (ah _) ?_,rfl,q _ (I.dO.fresh (ah _))⟩
 refine⟨by rw[ae,ups,ae,jq];exact hz,acc'.toList,c',?_,hS⟩
 obtain⟨ez,ei⟩:=hacc
 have key:∀(k:Nat)(l:List Value)(m:Nat),l.length=k->(∀j v,l[j]?=aa v->∃t,v=Value.int (lo+(m+j:Nat)) t)->Vals (((br m k).map λi:Nat=>lo+(i:Int)).map V.int) l:=by
  intro k
  induction k with
  |zero=>
   intro l m hl _
   rw[bM.mp hl]
   exact .nil
  |succ k ih=>
   intro l m hl hv
   cases l with
   |nil=>simp at hl
   |cons x l=>
    obtain⟨t,ex⟩:=hv 0 x rfl
    rw[zK,aU,aU]
    refine .cons ⟨t,by rw[ex];rfl⟩ (ih l (m+1) (by simpa using hl) λj v hj=>?_)
    obtain⟨t',e'⟩:=hv (j+1) v hj
    exact⟨t',by rw[e'];congr 1;lia⟩
 unfold ups
 rw[List.range_eq_range']
 refine key _ _ 0 (by rw[eY,ez]) λj v hj=>?_
 obtain⟨t',e'⟩:=ei j v (by rw[<-mv];exact hj)
 exact⟨t',by rw[e',Nat.zero_add,Int.mul_one]⟩
end
set_option genInjectivity false in
set_option genSizeOf false in
set_option genSizeOfSpec false in
structure GF(K:af)(mg:Str->Option Value)(x:Str)(st:Stmt)(ps:List Str):Type where
 f:Addr
 fd:FuncData
 fn:K6 K x x st f fd
 mg:mg x=aa (.ref f)
 bi:Binds K fd ps []
set_option genInjectivity false in
set_option genSizeOf false in
set_option genSizeOfSpec false in
structure MF(K:af)(C:Addr)(m qual:Str)(st:Stmt)(ps:List Str):Type where
 f:Addr
 fd:FuncData
 fn:K6 K m qual st f fd
 me:Meth K C m f
 bi:Binds K fd ps []
theorem GF.kp{K:af}{mg:Str->Option Value}{x:Str}{st:Stmt}{ps:List Str}(g:GF K mg x st ps):cK K (.ref g.f)=true:=g.fn.kp
theorem aJ.upd{H:Hp}{p:Addr}{o:HO}(h:H p=none):aJ H (upd H p o):=λb u e=>by rw[az (aA e h)];exact e
theorem aJ.pC{H H1:Hp}{p:Addr}{o:HO}(s:aJ H H1)(h:H p=none):aJ H (L2.upd H1 p o):=λb u e=>by rw[az (aA e h)];exact s b u e
theorem aJ.Rt{H H':Hp}{as:List Addr}{ps:List (Int×Int)}(e:aJ H H')(r:pW H as ps):pW H' as ps:=r.same λb xs h=>e b _ h
theorem Kj{p A B:Prop}[Decidable p](hp:p)(h:if true=true then A else B):if decide p=true then A else B:=by rw[decide_eq_true hp];exact h
theorem Kh{p A B:Prop}[Decidable p](hp:¬p)(h:if false=true then A else B):if decide p=true then A else B:=by rw[decide_eq_false hp];exact h
end L2
end
section
namespace L2
open PySem PySem.Spec PyProof.Rows
theorem PL(l:Addr)(items:Array Value)(n:Nat)(b:Addr)(items2:Array Value)(n2:Nat)(dd:Option Addr)(sl:Array (Option Value))(hs0:¬(!items.isEmpty&&gH (items.size+items2.size))=true)(hs1:items.size<=sizeLine)(hs2:items.size+items2.size<=sizeLine+1):
  Meets (Builtin.«list.extend» ⟨[.ref l,.ref b],[]⟩) (λ_ R s=>s.heap.get? l=aa {cls:=.type "list",dict:=none,data:=.seq items n,slots:=#[]}/\s.heap.get? b=aa {cls:=.type "tuple",dict:=dd,data:=.seq items2 n2,slots:=sl}/\R (.ok (.ret Value.none)) {s with heap:=s.heap.update l (M7 λx=>x++items2),toks:=s.toks}):=
 .of_wp λprog w A R s h=>by
  obtain⟨hp,g,d,tk,os⟩:=s
  obtain⟨hl,hb,h⟩:=h
  have f4:=sub_tuple_list
  have f5:=sub_list_tuple
  have f2:=sub_tuple_tuple
  have f3:=sub_list_list
  have hz':(items++items2).size<=sizeLine+1:=by rw[Array.size_append];exact hs2
  wp_walk using(wpAny_updateSeq hl rfl (hz:=hs1) (_hz':=hz')),wpAny_loadPart' hl,wpAny_loadPart' hb
  exact⟨_,rfl,h⟩
section
variable{X:Cx}
def OA(K:af):V->List V->Hp->VK->Prop:=λx vs H Q=>ex4 Q λl b xs zs Q=>x=.ref l/\vs=[.ref b]/\H l=aa (.lst xs)/\vb K H b zs/\xs.length+zs.length<=sizeLine/\Q .iD (upd H l (.lst (xs++zs)))
theorem Ik:U3 X "list.extend" (OA X.K):=by
 intro pins s σ H x vs v us Q I rx rv h
 obtain⟨l,b,xs,zs,rfl,rfl,hH,hB,hz,q⟩:=h
 cases rx
 obtain⟨u,rfl,ru⟩:=rv.one
 cases ru
 obtain⟨z,its,n,r,hl,e⟩:=I.L6 hH
 obtain⟨its2,r2,⟨ob,e2,oc,n2,od⟩,z2⟩:=I.tuple hB
 have hl2:=r2.length
 obtain⟨cls,dd,data,sl⟩:=ob
 dsimp only at oc od
 subst oc od
 have hsz:its.toArray.size+its2.toArray.size<=sizeLine:=by rw[aO,aO];lia
 have hlong:¬(!its.toArray.isEmpty&&gH (its.toArray.size+its2.toArray.size))=true:=by
  rw[GA hsz,u1]
  exact bc
 refine call_meets eM ⟨_,e,rfl⟩ Pb (M6 _ _)
  (PL l its.toArray n b its2.toArray n2 dd sl hlong (by rw[aO];lia) (by ac_rfl)) ⟨e,e2,?_⟩
 refine⟨.iD,_,I.L5 (its':=its++its2) hH e (by simp) (r.append r2) ?_,rfl,q⟩
 rw[ai]
 assumption
end
end L2
end
section
namespace Bx
open PySem PySem.Spec PyProof.Rows L2
def top(i:Nat):Stmt:=ow.main.body.getD i (.Pass ⟨0,0,0,0⟩)
abbrev o6:Stmt:=inClass (top 1) 0
abbrev lJ:Stmt:=inClass (top 2) 0
abbrev l8:Stmt:=inClass (top 3) 0
abbrev jA:Stmt:=inClass (top 4) 0
abbrev qc:Stmt:=inClass (top 5) 0
abbrev jY:Stmt:=inClass (top 6) 0
abbrev nF:Stmt:=inClass (top 7) 0
abbrev lI:Stmt:=inClass (top 8) 0
abbrev o7:Stmt:=inClass (top 9) 0
abbrev l9:Stmt:=inClass (top 10) 0
abbrev yb:Stmt:=top 16
abbrev rF:Stmt:=inClass (top 17) 0
abbrev qa:Stmt:=inClass (top 17) 1
abbrev rG:Stmt:=inClass (top 17) 2
abbrev rE:Stmt:=inClass (top 17) 3
abbrev rH:Stmt:=inClass (top 17) 4
abbrev kq:Stmt:=inClass (top 17) 5
abbrev jT:Stmt:=inClass (top 17) 6
abbrev tR:Stmt:=inClass (top 19) 0
abbrev vU:Stmt:=top 20
abbrev ye:Stmt:=top 21
abbrev yf:Stmt:=top 22
abbrev tW:Stmt:=top 23
abbrev vY:Stmt:=top 24
abbrev vT:Stmt:=top 25
abbrev vX:Stmt:=top 26
abbrev o5:Stmt:=inClass (top 29) 0
abbrev tQ:Stmt:=inClass (top 29) 1
abbrev o4:Stmt:=inClass (top 29) 2
abbrev qb:Stmt:=inClass (top 29) 3
abbrev qf:Stmt:=inClass (top 30) 0
abbrev nJ:Stmt:=inClass (top 30) 1
abbrev rJ:Stmt:=inClass (top 30) 2
abbrev nG:Stmt:=inClass (top 30) 3
abbrev o8:Stmt:=inClass (top 30) 4
abbrev iW:Stmt:=inClass (top 31) 0
abbrev jV:Stmt:=inClass (top 31) 1
abbrev iV:Stmt:=inClass (top 31) 2
abbrev je:Stmt:=inClass (top 31) 3
abbrev jX:Stmt:=inClass (top 32) 0
abbrev l7:Stmt:=inClass (top 32) 1
abbrev jW:Stmt:=inClass (top 32) 2
abbrev kr:Stmt:=inClass (top 32) 3
abbrev yc:Stmt:=top 34
abbrev yd:Stmt:=top 35
abbrev tT:Stmt:=inClass (top 36) 0
abbrev tS:Stmt:=inClass (top 36) 1
abbrev vS:Stmt:=inClass (top 36) 2
abbrev kF:Stmt:=inClass (top 36) 3
abbrev aM:Stmt:=inClass (top 38) 0
abbrev dN:Stmt:=inClass (top 38) 1
abbrev jU:Stmt:=inClass (top 39) 0
abbrev gy:Stmt:=inClass (top 39) 1
abbrev fE:Stmt:=inClass (top 39) 2
abbrev jy:Stmt:=inClass (top 40) 0
abbrev fV:Stmt:=inClass (top 40) 1
abbrev fo:Stmt:=inClass (top 40) 2
abbrev qg:Stmt:=top 41
abbrev tV:Stmt:=top 42
abbrev mi:Stmt:=top 45
abbrev lK:Stmt:=top 46
abbrev qh:Stmt:=top 47
abbrev qm:Stmt:=top 48
abbrev ma:Stmt:=top 49
abbrev qj:Stmt:=top 50
abbrev fX:Stmt:=top 51
abbrev h8:Stmt:=top 52
abbrev kG:Stmt:=top 53
abbrev rL:Stmt:=top 54
abbrev mh:Stmt:=top 55
abbrev qk:Stmt:=top 56
abbrev qd:Stmt:=inClass (top 68) 0
abbrev ku:Stmt:=inClass (top 68) 1
abbrev qe:Stmt:=inClass (top 68) 2
abbrev j1:Stmt:=inClass (top 68) 3
abbrev kE:Stmt:=inClass (top 68) 4
abbrev j0:Stmt:=inClass (top 68) 5
abbrev kz:Stmt:=inClass (top 68) 6
abbrev jz:Stmt:=inClass (top 68) 7
abbrev jZ:Stmt:=inClass (top 68) 8
abbrev vV:Stmt:=top 69
abbrev tX:Stmt:=top 70
abbrev EN:Stmt:=top 72
abbrev Ja:Stmt:=top 73
abbrev IY:Stmt:=top 74
abbrev EW:Stmt:=top 75
abbrev ES:Stmt:=top 76
abbrev ET:Stmt:=top 77
abbrev E1:Stmt:=top 78
abbrev EV:Stmt:=top 79
abbrev EU:Stmt:=top 80
abbrev IX:Stmt:=top 81
abbrev IZ:Stmt:=top 82
abbrev Jb:Stmt:=top 83
abbrev Jc:Stmt:=top 84
abbrev tU:Stmt:=top 85
abbrev EO:Stmt:=top 86
abbrev EY:Stmt:=top 87
abbrev Bd:Stmt:=top 88
abbrev EZ:Stmt:=top 89
abbrev Jd:Stmt:=top 90
abbrev tY:Stmt:=top 91
abbrev o9:Stmt:=top 92
abbrev ql:Stmt:=top 93
abbrev rK:Stmt:=top 97
abbrev qi:Stmt:=top 98
abbrev uN:Stmt:=top 99
set_option genInjectivity false in
set_option genSizeOf false in
set_option genSizeOfSpec false in
structure CF(K:af)(mg:Str->Option Value)(x:Str)(fields:List Str):Type where
 C:Addr
 cl:Hn K C
 mg:mg x=aa (.ref C)
 no:∀f∈fields,iq K C f
set_option genInjectivity false in
set_option genSizeOf false in
set_option genSizeOfSpec false in
structure XF(K:af)(mg:Str->Option Value)(x:Str):Type where
 C:Addr
 xc:Nb K C
 mg:mg x=aa (.ref C)
 ty:mI K (.ref C)=aa (.type "type")
 no:iq K C "number"
 gt:FH K C
set_option genInjectivity false in
set_option genSizeOf false in
set_option genSizeOfSpec false in
structure Tx(K:af)(mg:Str->Option Value):Type where
 bx:XF K mg "Refusal"
 dG:MF K bx.C "__init__" "Refusal.__init__" o6 ["self","number"]
 lG:RE K bx.C "__init__" dG.f
 b6:XF K mg "OutOfRange"
 fK:MF K b6.C "__init__" "OutOfRange.__init__" lJ ["self"]
 tE:K8 K b6.C fK.f
 tp:Ho K b6.C bx.C
 d7:XF K mg "WrongNeed"
 iu:MF K d7.C "__init__" "WrongNeed.__init__" l8 ["self"]
 AF:K8 K d7.C iu.f
 AB:Ho K d7.C bx.C
 dB:XF K mg "TooManyNeeded"
 gr:MF K dB.C "__init__" "TooManyNeeded.__init__" jA ["self"]
 AE:K8 K dB.C gr.f
 AA:Ho K dB.C bx.C
 lE:XF K mg "NoPlan"
 mG:MF K lE.C "__init__" "NoPlan.__init__" qc ["self"]
 P0:K8 K lE.C mG.f
 PU:Ho K lE.C bx.C
 dE:XF K mg "NoSuchNumber"
 gQ:MF K dE.C "__init__" "NoSuchNumber.__init__" jY ["self"]
 Cb:K8 K dE.C gQ.f
 B9:Ho K dE.C bx.C
 gO:XF K mg "NotAPlan"
 j8:MF K gO.C "__init__" "NotAPlan.__init__" nF ["self"]
 LN:K8 K gO.C j8.f
 LH:Ho K gO.C bx.C
 fA:XF K mg "NotServing"
 i4:MF K fA.C "__init__" "NotServing.__init__" lI ["self"]
 Gq:K8 K fA.C i4.f
 Ge:Ho K fA.C bx.C
 js:XF K mg "TooLong"
 lB:MF K js.C "__init__" "TooLong.__init__" o7 ["self"]
 N0:K8 K js.C lB.f
 NU:Ho K js.C bx.C
 b8:XF K mg "WrongText"
 fv:MF K b8.C "__init__" "WrongText.__init__" l9 ["self","place"]
 ro:K8 K b8.C fv.f
 rl:Ho K b8.C bx.C
 Cu:∃t,mg "FIRST_LAYERS"=aa (.int 4 t)
 BH:∃t,mg "FEWEST_LAYERS"=aa (.int 2 t)
 Fn:∃t,mg "MOST_LAYERS"=aa (.int 24 t)
 Fo:∃t,mg "MOST_NEEDED"=aa (.int 12 t)
 clashes:GF K mg "clashes" yb ["span","other"]
 aL:CF K mg "Board" ["layers","needed"]
 oI:MF K aL.C "__init__" "Board.__init__" rF ["self"]
 mE:MF K aL.C "begin" "Board.begin" qa ["self","layers"]
 oJ:MF K aL.C "need" "Board.need" rG ["self","a","b"]
 oH:MF K aL.C "drop" "Board.drop" rE ["self","a","b"]
 oK:MF K aL.C "turn" "Board.turn" rH ["self"]
 fk:MF K aL.C "check_span" "Board.check_span" kq ["self","a","b"]
 eJ:MF K aL.C "first_clash" "Board.first_clash" jT ["self"]
 RY:Mk K aL.C oI.f
 aV:CF K mg "Part" ["first","last","parts"]
 i7:MF K aV.C "__init__" "Part.__init__" tR ["self","first","last","parts"]
 Di:Mk K aV.C i7.f
 dj:GF K mg "is_press" vU ["part"]
 kg:GF K mg "is_foil" ye ["part"]
 jL:GF K mg "text_of" yf ["part"]
 dJ:GF K mg "pieces_of" tW ["part"]
 lM:GF K mg "spans_of" vY ["part"]
 iw:GF K mg "depth_of" vT ["part"]
 mirrored:GF K mg "mirrored" vX ["part","layers"]
 BG:∃t,mg "DIVISOR"=aa (.int 1000000007 t)
 nB:CF K mg "Count" []
 qZ:MF K nB.C "single" "Count.single" o5 ["self"]
 xG:MF K nB.C "row" "Count.row" tQ ["self","part","behind"]
 qY:MF K nB.C "choice" "Count.choice" o4 ["self","ways"]
 sP:MF K nB.C "press" "Count.press" qb ["self","inside"]
 Ig:To K nB.C
 ie:CF K mg "Weight" ["weight"]
 mK:MF K ie.C "__init__" "Weight.__init__" qf ["self","weight"]
 p5:MF K ie.C "single" "Weight.single" nJ ["self"]
 vB:MF K ie.C "row" "Weight.row" rJ ["self","part","behind"]
 pZ:MF K ie.C "choice" "Weight.choice" nG ["self","ways"]
 rg:MF K ie.C "press" "Weight.press" o8 ["self","inside"]
 P2:Mk K ie.C mK.f
 dA:CF K mg "FewestPresses" []
 jo:MF K dA.C "single" "FewestPresses.single" iW ["self"]
 lp:MF K dA.C "row" "FewestPresses.row" jV ["self","part","behind"]
 jn:MF K dA.C "choice" "FewestPresses.choice" iV ["self","ways"]
 jP:MF K dA.C "press" "FewestPresses.press" je ["self","inside"]
 tu:To K dA.C
 gh:CF K mg "LeastDepth" []
 lu:MF K gh.C "single" "LeastDepth.single" jX ["self"]
 oN:MF K gh.C "row" "LeastDepth.row" l7 ["self","part","behind"]
 lq:MF K gh.C "choice" "LeastDepth.choice" jW ["self","ways"]
 lT:MF K gh.C "press" "LeastDepth.press" kr ["self","inside"]
 yS:To K gh.C
 ke:GF K mg "cuts_of" yc ["needed","a","b"]
 n8:GF K mg "ends_of" yd ["cuts","a","b","first"]
 bC:CF K mg "Ways" ["measure","needed","whole","rest"]
 gm:MF K bC.C "__init__" "Ways.__init__" tT ["self","measure","board"]
 qC:MF K bC.C "fill" "Ways.fill" tS ["self","a","b"]
 gu:MF K bC.C "row" "Ways.row" vS ["self","first","last","b"]
 dH:MF K bC.C "rows_behind" "Ways.rows_behind" kF ["self","last","b"]
 Gr:Mk K bC.C gm.f
 bN:CF K mg "FewestPressesChooser" []
 bf:MF K bN.C "end_of_part" "FewestPressesChooser.end_of_part" aM ["self","ways","ends","first","b"]
 b9:MF K bN.C "chooser_within" "FewestPressesChooser.chooser_within" dN ["self","ways","last","b"]
 sx:To K bN.C
 bL:CF K mg "DepthChooser" ["most"]
 fI:MF K bL.C "__init__" "DepthChooser.__init__" jU ["self","most"]
 dZ:MF K bL.C "end_of_part" "DepthChooser.end_of_part" gy ["self","ways","ends","first","b"]
 dg:MF K bL.C "chooser_within" "DepthChooser.chooser_within" fE ["self","ways","last","b"]
 vg:Mk K bL.C fI.f
 bo:CF K mg "NumberChooser" ["number"]
 fm:MF K bo.C "__init__" "NumberChooser.__init__" jy ["self","number"]
 dP:MF K bo.C "end_of_part" "NumberChooser.end_of_part" fV ["self","ways","ends","first","b"]
 cT:MF K bo.C "chooser_within" "NumberChooser.chooser_within" fo ["self","ways","last","b"]
 tw:Mk K bo.C fm.f
 bV:GF K mg "chosen_part" qg ["chooser","ways","a","b"]
 gq:GF K mg "number_of" tV ["part","ways"]
 Fp:∃t,mg "MOST_WEIGHT"=aa (.int 1000000 t)
 a7:GF K mg "value_of_plans" mi ["measure","board"]
 bZ:GF K mg "check_some_plan" lK ["board"]
 kP:GF K mg "count_plans" qh ["board"]
 k9:GF K mg "weigh_plans" qm ["board","weight"]
 iy:GF K mg "fewest_presses" ma ["board"]
 kU:GF K mg "least_depth" qj ["board"]
 cN:GF K mg "first_with_fewest_presses" fX ["board"]
 dI:GF K mg "first_with_least_depth" h8 ["board"]
 dM:GF K mg "plan_with_number" kG ["board","number"]
 iX:GF K mg "serves_all" rL ["board","plan"]
 eU:GF K mg "number_of_plan" mh ["board","plan"]
 kZ:GF K mg "plan_behind" qk ["board","plan"]
 Hh:∃t,mg "MOST_BYTES"=aa (.int 400 t)
 O0:∃t,mg "DEEPEST"=aa (.int 32 t)
 Jt:∃t,mg "BLANK"=aa (.int 32 t)
 vz:∃t,mg "PRESS_BEGINS"=aa (.int 40 t)
 Hi:∃t,mg "PRESS_ENDS"=aa (.int 41 t)
 O1:∃t,mg "ZERO"=aa (.int 48 t)
 RB:∃t,mg "NINE"=aa (.int 57 t)
 xA:∃t,mg "CORE_BEGINS"=aa (.int 91 t)
 Ju:∃t,mg "CORE_ENDS"=aa (.int 93 t)
 BI:∃t,mg "TEXT_ENDS"=aa (.int 256 t)
 aN:CF K mg "Reader" ["text","place","numbers"]
 mJ:MF K aN.C "__init__" "Reader.__init__" qd ["self","text"]
 bG:MF K aN.C "byte_here" "Reader.byte_here" ku ["self"]
 dz:MF K aN.C "take" "Reader.take" qe ["self","byte"]
 gR:MF K aN.C "read_whole" "Reader.read_whole" j1 ["self"]
 bS:MF K aN.C "read_part" "Reader.read_part" kE ["self","depth"]
 eP:MF K aN.C "read_press" "Reader.read_press" j0 ["self","depth"]
 ir:MF K aN.C "read_core" "Reader.read_core" kz ["self"]
 cO:MF K aN.C "read_number" "Reader.read_number" jz ["self"]
 eO:MF K aN.C "read_digit" "Reader.read_digit" jZ ["self"]
 P1:Mk K aN.C mJ.f
 iA:GF K mg "is_sound" vV ["part"]
 oC:GF K mg "read_plan" tX ["text","layers"]
 begin:GF K mg "begin" EN ["board","given"]
 need:GF K mg "need" Ja ["board","given"]
 drop:GF K mg "drop" IY ["board","given"]
 needs:GF K mg "needs" EW ["board","given"]
 clash:GF K mg "clash" ES ["board","given"]
 count:GF K mg "count" ET ["board","given"]
 weigh:GF K mg "weigh" E1 ["board","given"]
 least:GF K mg "least" EV ["board","given"]
 depth:GF K mg "depth" EU ["board","given"]
 best:GF K mg "best" IX ["board","given"]
 flat:GF K mg "flat" IZ ["board","given"]
 plan:GF K mg "plan" Jb ["board","given"]
 rank:GF K mg "rank" Jc ["board","given"]
 lZ:GF K mg "following" tU ["board","given"]
 check:GF K mg "check" EO ["board","given"]
 spans:GF K mg "spans" EY ["board","given"]
 mirror:GF K mg "mirror" Bd ["board","given"]
 steps:GF K mg "steps" EZ ["board","given"]
 turn:GF K mg "turn" Jd ["board","given"]
 cY:GF K mg "read_text" tY ["board","given"]
 fU:GF K mg "pairs_answer" o9 ["pairs"]
 cE:GF K mg "text_answer" ql ["part"]
 lY:GF K mg "answer_one" rK ["board","number","given"]
 kT:GF K mg "end_of_call" qi ["calls","place"]
 answers:GF K mg "answers" uN ["calls"]
 nQ:mg "len"=none
 Ai:mg "sorted"=none
 HN:mg "list"=none
 wz:mg "range"=none
 JP:mg "min"=none
 Ri:mg "max"=none
 Nl:mg "sum"=none
 Tz:mg "zip"=none
 Tu:mg "any"=none
 Nk:mg "all"=none
 Tw:mg "str"=none
 Tv:mg "ord"=none
 HP:mg "reversed"=none
 Fj:Addr
 Sg:mg "CALLS"=aa (.ref Fj)
 Fl:Addr
 Sh:mg "GIVEN"=aa (.ref Fl)
 Sy:∀H,vb K H Fl (([1,2,2,0,0,0,1,0,0,0,0,1,1,1,1,1,1,1,0]:List Int).map V.int)
 K1:Addr
 T7:mg "WITH_TEXT"=aa (.ref K1)
 Ue:∀H,vb K H K1 (([12,13,14,15,16,17]:List Int).map V.int)
 Sx:∀H,vb K H Fj ([begin.f,need.f,drop.f,needs.f,clash.f,count.f,weigh.f,least.f,depth.f,best.f,flat.f,plan.f,rank.f,lZ.f,check.f,spans.f,mirror.f,steps.f,turn.f].map V.ref)
end Bx
end
section
namespace Bx
open PySem PySem.Spec PyProof.Rows L2
section
variable{P:Program}{w:World}{K:af}{mg:Str->Option Value}{base:Heap}
def VM(K:af):Sp:=λvs H Q _=>ex4 Q λe C t i Q=>vs=[.ref e,.int i]/\H e=aa (FY e C t none)/\Nb K C/\iq K C "number"/\∀dx,H dx=none->Q .iD (upd (upd H dx (.xd [("number",.int i)])) e (FY e C t (aa dx)))
theorem zE:aH ["self","number"] ["self","number"] (aq o6):=⟨rfl,rfl,rfl,by decide+kernel,rfl,by decide+kernel,by decide+kernel⟩
theorem d5(T:Tx K mg):bw P w K mg base (du P w) 1 T.dG.f T.dG.fd ["self","number"] (VM K):=by
 refine T.dG.fn.okN zE (λvs H Q E h=>?_) (λcdv A outer s H vs Q E hr h=>?_)
 ·obtain⟨e,C,t,i,rfl,_⟩:=h
  rfl
 ·obtain⟨e,C,t,i,rfl,he,xc,no,k⟩:=h
  refine⟨_,au (Qw (pv 0) (pv 1) rfl),?_⟩
  exact⟨_,rfl,_,rfl,e,C,t,rfl,he,xc,no,k⟩
theorem wa:aH ["self"] ["self"] (aq lJ):=⟨rfl,rfl,rfl,by decide+kernel,rfl,by decide+kernel,by decide+kernel⟩
theorem km(T:Tx K mg):bw P w K mg base (du P w) 2 T.fK.f T.fK.fd ["self"] (yo T.b6.C (λ_=>aa (-1)) 0):=by
 refine T.fK.fn.okN wa (λvs H Q E h=>?_) (λcdv A outer s H vs Q E hr h=>?_)
 ·obtain⟨e,t,us,i,rfl,hl,_⟩:=h
  rw[aF,hl];rfl
 ·obtain⟨e,t,us,i,rfl,hl,he,hi,k⟩:=h
  obtain rfl:=bM.mp hl
  cases hi
  refine⟨_,au (cw (oj (dvs:=[]) (ds:=[]) rfl T.bx.mg T.lG (d5 T) hr T.dG.bi .nil aP (ab (pv 0) (ab (tI pk bj) aj)))),?_⟩
  exact⟨_,rfl,_,rfl,e,T.b6.C,t,_,rfl,he,T.b6.xc,T.b6.no,k⟩
theorem xh:aH ["self"] ["self"] (aq l8):=⟨rfl,rfl,rfl,by decide+kernel,rfl,by decide+kernel,by decide+kernel⟩
theorem pM(T:Tx K mg):bw P w K mg base (du P w) 2 T.iu.f T.iu.fd ["self"] (yo T.d7.C (λ_=>aa (-2)) 0):=by
 refine T.iu.fn.okN xh (λvs H Q E h=>?_) (λcdv A outer s H vs Q E hr h=>?_)
 ·obtain⟨e,t,us,i,rfl,hl,_⟩:=h
  rw[aF,hl];rfl
 ·obtain⟨e,t,us,i,rfl,hl,he,hi,k⟩:=h
  obtain rfl:=bM.mp hl
  cases hi
  refine⟨_,au (cw (oj (dvs:=[]) (ds:=[]) rfl T.bx.mg T.lG (d5 T) hr T.dG.bi .nil aP (ab (pv 0) (ab (tI pk bj) aj)))),?_⟩
  exact⟨_,rfl,_,rfl,e,T.d7.C,t,_,rfl,he,T.d7.xc,T.d7.no,k⟩
theorem sF:aH ["self"] ["self"] (aq jA):=⟨rfl,rfl,rfl,by decide+kernel,rfl,by decide+kernel,by decide+kernel⟩
theorem sy(T:Tx K mg):bw P w K mg base (du P w) 2 T.gr.f T.gr.fd ["self"] (yo T.dB.C (λ_=>aa (-3)) 0):=by
 refine T.gr.fn.okN sF (λvs H Q E h=>?_) (λcdv A outer s H vs Q E hr h=>?_)
 ·obtain⟨e,t,us,i,rfl,hl,_⟩:=h
  rw[aF,hl];rfl
 ·obtain⟨e,t,us,i,rfl,hl,he,hi,k⟩:=h
  obtain rfl:=bM.mp hl
  cases hi
  refine⟨_,au (cw (oj (dvs:=[]) (ds:=[]) rfl T.bx.mg T.lG (d5 T) hr T.dG.bi .nil aP (ab (pv 0) (ab (tI pk bj) aj)))),?_⟩
  exact⟨_,rfl,_,rfl,e,T.dB.C,t,_,rfl,he,T.dB.xc,T.dB.no,k⟩
theorem Bg:aH ["self"] ["self"] (aq qc):=⟨rfl,rfl,rfl,by decide+kernel,rfl,by decide+kernel,by decide+kernel⟩
theorem AO(T:Tx K mg):bw P w K mg base (du P w) 2 T.mG.f T.mG.fd ["self"] (yo T.lE.C (λ_=>aa (-4)) 0):=by
 refine T.mG.fn.okN Bg (λvs H Q E h=>?_) (λcdv A outer s H vs Q E hr h=>?_)
 ·obtain⟨e,t,us,i,rfl,hl,_⟩:=h
  rw[aF,hl];rfl
 ·obtain⟨e,t,us,i,rfl,hl,he,hi,k⟩:=h
  obtain rfl:=bM.mp hl
  cases hi
  refine⟨_,au (cw (oj (dvs:=[]) (ds:=[]) rfl T.bx.mg T.lG (d5 T) hr T.dG.bi .nil aP (ab (pv 0) (ab (tI pk bj) aj)))),?_⟩
  exact⟨_,rfl,_,rfl,e,T.lE.C,t,_,rfl,he,T.lE.xc,T.lE.no,k⟩
theorem ud:aH ["self"] ["self"] (aq jY):=⟨rfl,rfl,rfl,by decide+kernel,rfl,by decide+kernel,by decide+kernel⟩
theorem tH(T:Tx K mg):bw P w K mg base (du P w) 2 T.gQ.f T.gQ.fd ["self"] (yo T.dE.C (λ_=>aa (-5)) 0):=by
 refine T.gQ.fn.okN ud (λvs H Q E h=>?_) (λcdv A outer s H vs Q E hr h=>?_)
 ·obtain⟨e,t,us,i,rfl,hl,_⟩:=h
  rw[aF,hl];rfl
 ·obtain⟨e,t,us,i,rfl,hl,he,hi,k⟩:=h
  obtain rfl:=bM.mp hl
  cases hi
  refine⟨_,au (cw (oj (dvs:=[]) (ds:=[]) rfl T.bx.mg T.lG (d5 T) hr T.dG.bi .nil aP (ab (pv 0) (ab (tI pk bj) aj)))),?_⟩
  exact⟨_,rfl,_,rfl,e,T.dE.C,t,_,rfl,he,T.dE.xc,T.dE.no,k⟩
theorem yg:aH ["self"] ["self"] (aq nF):=⟨rfl,rfl,rfl,by decide+kernel,rfl,by decide+kernel,by decide+kernel⟩
theorem x4(T:Tx K mg):bw P w K mg base (du P w) 2 T.j8.f T.j8.fd ["self"] (yo T.gO.C (λ_=>aa (-6)) 0):=by
 refine T.j8.fn.okN yg (λvs H Q E h=>?_) (λcdv A outer s H vs Q E hr h=>?_)
 ·obtain⟨e,t,us,i,rfl,hl,_⟩:=h
  rw[aF,hl];rfl
 ·obtain⟨e,t,us,i,rfl,hl,he,hi,k⟩:=h
  obtain rfl:=bM.mp hl
  cases hi
  refine⟨_,au (cw (oj (dvs:=[]) (ds:=[]) rfl T.bx.mg T.lG (d5 T) hr T.dG.bi .nil aP (ab (pv 0) (ab (tI pk bj) aj)))),?_⟩
  exact⟨_,rfl,_,rfl,e,T.gO.C,t,_,rfl,he,T.gO.xc,T.gO.no,k⟩
theorem vZ:aH ["self"] ["self"] (aq lI):=⟨rfl,rfl,rfl,by decide+kernel,rfl,by decide+kernel,by decide+kernel⟩
theorem vL(T:Tx K mg):bw P w K mg base (du P w) 2 T.i4.f T.i4.fd ["self"] (yo T.fA.C (λ_=>aa (-7)) 0):=by
 refine T.i4.fn.okN vZ (λvs H Q E h=>?_) (λcdv A outer s H vs Q E hr h=>?_)
 ·obtain⟨e,t,us,i,rfl,hl,_⟩:=h
  rw[aF,hl];rfl
 ·obtain⟨e,t,us,i,rfl,hl,he,hi,k⟩:=h
  obtain rfl:=bM.mp hl
  cases hi
  refine⟨_,au (cw (oj (dvs:=[]) (ds:=[]) rfl T.bx.mg T.lG (d5 T) hr T.dG.bi .nil aP (ab (pv 0) (ab (tI pk bj) aj)))),?_⟩
  exact⟨_,rfl,_,rfl,e,T.fA.C,t,_,rfl,he,T.fA.xc,T.fA.no,k⟩
theorem zG:aH ["self"] ["self"] (aq o7):=⟨rfl,rfl,rfl,by decide+kernel,rfl,by decide+kernel,by decide+kernel⟩
theorem zA(T:Tx K mg):bw P w K mg base (du P w) 2 T.lB.f T.lB.fd ["self"] (yo T.js.C (λ_=>aa (-8)) 0):=by
 refine T.lB.fn.okN zG (λvs H Q E h=>?_) (λcdv A outer s H vs Q E hr h=>?_)
 ·obtain⟨e,t,us,i,rfl,hl,_⟩:=h
  rw[aF,hl];rfl
 ·obtain⟨e,t,us,i,rfl,hl,he,hi,k⟩:=h
  obtain rfl:=bM.mp hl
  cases hi
  refine⟨_,au (cw (oj (dvs:=[]) (ds:=[]) rfl T.bx.mg T.lG (d5 T) hr T.dG.bi .nil aP (ab (pv 0) (ab (tI pk bj) aj)))),?_⟩
  exact⟨_,rfl,_,rfl,e,T.js.C,t,_,rfl,he,T.js.xc,T.js.no,k⟩
def EA:List V->Option Int
 |[.int p]=>aa (-1000-p)
 |_=>none
theorem xi:aH ["self","place"] ["self","place"] (aq l9):=⟨rfl,rfl,rfl,by decide+kernel,rfl,by decide+kernel,by decide+kernel⟩
theorem jg(T:Tx K mg):bw P w K mg base (du P w) 2 T.fv.f T.fv.fd ["self","place"] (yo T.b8.C EA 1):=by
 refine T.fv.fn.okN xi (λvs H Q E h=>?_) (λcdv A outer s H vs Q E hr h=>?_)
 ·obtain⟨e,t,us,i,rfl,hl,_⟩:=h
  rw[aF,hl];rfl
 ·obtain⟨e,t,us,i,rfl,hl,he,hi,k⟩:=h
  obtain⟨p,rfl,rfl⟩:∃p,us=[.int p]/\i=-1000-p:=by
   unfold EA at hi
   split at hi
   ·cases hi;exact⟨_,rfl,rfl⟩
   ·cases hi
  refine⟨_,au (cw (oj (dvs:=[]) (ds:=[]) rfl T.bx.mg T.lG (d5 T) hr T.dG.bi .nil aP (ab (pv 0) (ab (cZ nE (tI pk bj) (pv 1)) aj)))),?_⟩
  exact⟨_,rfl,_,rfl,_,rfl,_,_,rfl,rfl,e,T.b8.C,t,_,rfl,he,T.b8.xc,T.b8.no,k⟩
def ER(K:af)(R:Addr)(n:Int)(H:Hp)(E:XK):Prop:=∀C d H',Ho K C R->FH K C->iq K C "number"->aJ H H'->H' d=aa (.xd [("number",.int n)])->E (.ref C) (aa d) H'
theorem ER.at{K:af}{R C:Addr}{n:Int}{H H1:Hp}{E:XK}(e:ER K R n H E)(hit:Ho K C R)(gt:FH K C)(no:iq K C "number")(s:aJ H H1):∀dx,H1 dx=none->E (.ref C) (aa dx) (upd H1 dx (.xd [("number",.int n)])):=
 λdx hd=>e C dx _ hit gt no (s.trans (aJ.upd hd)) ag
theorem ER.same{K:af}{R:Addr}{n:Int}{H H1:Hp}{E:XK}(e:ER K R n H E)(s:aJ H H1):ER K R n H1 E:=λC d H' a b c s' q=>e C d H' a b c (s.trans s') q
end
end Bx
end
section
namespace Bx
open PySem PySem.Spec PyProof.Rows L2
open Vbpcau (State Span)
theorem gX(f:Str)(v:V):pB f v []=[(f,v)]:=rfl
theorem jv(f:Str)(v u:V)(r:List (Str×V)):pB f v ((f,u)::r)=(f,v)::r:=by
 show(if f=f then _ else _)=_
 rw[if_pos rfl]
theorem dn{f g:Str}(v u:V)(r:List (Str×V))(h:¬g=f):pB f v ((g,u)::r)=(g,u)::pB f v r:=by
 show(if g=f then _ else _)=_
 rw[if_neg h]
theorem cn(f:Str)(v:V)(r:List (Str×V)):bz f ((f,v)::r)=aa v:=by rw[df,beq_self_eq_true]
theorem bE{f g:Str}(v:V)(r:List (Str×V))(h:¬f=g):bz f ((g,v)::r)=bz f r:=by rw[df,beq_eq_false_iff_ne.mpr h]
section
variable{X:Cx}
theorem cM{x:Str}{i:Int}{pos:Pos}(h:∃t,X.mg x=aa (.int i t))(hg:Gl X x)(hd:(x==("__debug__":Str))=false:=by decide):PE X (.Name x pos) (tC (.int i)):=by
 obtain⟨t,e⟩:=h
 exact zX hg e ⟨t,rfl⟩ hd
theorem NY{k:Nat}{A:Around}(hr:iK k A):A.units+65<cLine:=by have:=hr.un;lia
theorem RV{k:Nat}{A:Around}(hr:iK k A):A.units+64<cLine:=by have:=hr.un;lia
end
abbrev bQ(s:Span):Int×Int:=((s.1:Int),(s.2:Int))
abbrev UI(n:Int)(l:Addr):List (Str×V):=[("layers",.int n),("needed",.ref l)]
structure eZ(st:State):Prop where
 lo:2<=st.n
 hi:st.n<=24
 Fz:st.needs.Pairwise λs u=>s.1<u.1\/(s.1=u.1/\s.2<u.2)
 Cn:∀s∈st.needs,1<=s.1/\s.1<s.2/\s.2<=st.n
 wH:st.needs.length<=12
def qz(H:Hp)(l:Addr)(ns:List Span):Prop:=∃as,H l=aa (.lst (as.map V.ref))/\pW H as (ns.map bQ)
theorem qz.same{H H':Hp}{l:Addr}{ns:List Span}(h:qz H l ns)(s:aJ H H'):qz H' l ns:=by
 obtain⟨as,h1,h2⟩:=h
 exact⟨as,s _ _ h1,s.Rt h2⟩
def jb(C:Addr)(H:Hp)(b:Addr)(st:State):Prop:=∃dx l,H b=aa (.ins C dx (UI st.n l))/\qz H l st.needs
theorem jb.same{C:Addr}{H H':Hp}{b:Addr}{st:State}(h:jb C H b st)(s:aJ H H'):jb C H' b st:=by
 obtain⟨dx,l,h1,h2⟩:=h
 exact⟨dx,l,s _ _ h1,h2.same s⟩
def yy(C:Addr)(H H':Hp)(b:Addr)(st:State):Prop:=∃dx l,H' b=aa (.ins C dx (UI st.n l))/\H l=none/\qz H' l st.needs
theorem yy.at{C:Addr}{H H':Hp}{b:Addr}{st:State}(h:yy C H H' b st):jb C H' b st:=by
 obtain⟨dx,l,h1,_,h2⟩:=h
 exact⟨dx,l,h1,h2⟩
def sI(b:Addr)(H H':Hp):Prop:=∀a o,H a=aa o->a≠b->H' a=aa o
theorem sI.refl{b:Addr}{H:Hp}:sI b H H:=λ_ _ h _=>h
theorem sI.upd{b:Addr}{H H':Hp}{o:HO}(h:sI b H H'):sI b H (upd H' b o):=λa u e n=>by rw[az n];exact h a u e n
theorem sI.same{b:Addr}{H H1 H2:Hp}(h:sI b H H1)(s:aJ H1 H2):sI b H H2:=λa o e n=>s a o (h a o e n)
theorem sI.of{b:Addr}{H H1:Hp}(s:aJ H H1):sI b H H1:=λa o e _=>s a o e
section
variable{P:Program}{w:World}{K:af}{mg:Str->Option Value}{base:Heap}
def Hb(C:Addr):Sp:=λvs H Q _=>ex2 Q λb dx Q=>vs=[.ref b]/\H b=aa (.ins C dx [])/\∀H',jb C H' b ⟨4,[]⟩->sI b H H'->Q .iD H'
theorem Co:aH ["self"] ["self"] (aq rF):=⟨rfl,rfl,rfl,by decide+kernel,rfl,by decide+kernel,by decide+kernel⟩
theorem Cf(T:Tx K mg):bw P w K mg base (du P w) 1 T.oI.f T.oI.fd ["self"] (Hb T.aL.C):=by
 refine T.oI.fn.okN Co (λvs H Q E h=>?_) (λcdv A outer s H vs Q E hr h=>?_)
 ·obtain⟨b,dx,rfl,_⟩:=h
  rfl
 ·obtain⟨b,dx,rfl,hb,k⟩:=h
  refine⟨_,ao (hZ (pv 0) (cM T.Cu rfl) rfl) (au (hZ (pv 0) (d3 aj) rfl)),?_⟩
  refine⟨_,rfl,b,_,dx,_,rfl,hb,T.aL.cl,T.aL.no _ (by simp),(by show 0<1000;decide),?_⟩
  refine⟨bp _,λl hl=>?_⟩
  have hbl:b≠l:=aA ag hl
  refine⟨_,rfl,b,_,dx,_,rfl,(by rw[az hbl,ag]),T.aL.cl,T.aL.no _ (by simp),(by show 1<1000;decide),?_⟩
  refine k _ ⟨dx,l,?_,[],?_,.nil⟩ ?_
  ·rw[ag,gX,dn _ _ _ (by decide+kernel),gX];rfl
  ·rw[az hbl.symm,ag];rfl
  ·refine sI.upd λa o e n=>?_
   rw[az (aA e (by rw[az hbl.symm]at hl;exact hl)),az n];exact e
def QQ(T:Tx K mg):Sp:=λvs H Q E=>ex3 Q λb st m Q=>vs=[.ref b,.int m]/\jb T.aL.C H b st/\
 if 2<=m/\m<=24 then∀H',yy T.aL.C H H' b ⟨m.toNat,[]⟩->sI b H H'->Q .iD H' else ER K T.bx.C (-1) H E
theorem Be:aH ["self","layers"] ["self","layers"] (aq qa):=⟨rfl,rfl,rfl,by decide+kernel,rfl,by decide+kernel,by decide+kernel⟩
theorem AN(T:Tx K mg):bw P w K mg base (du P w) 4 T.mE.f T.mE.fd ["self","layers"] (QQ T):=by
 refine T.mE.fn.qX Be (λvs H Q E h=>?_) (λcdv A outer s H vs Q E hr h=>?_)
 ·obtain⟨b,st,m,rfl,_⟩:=h
  rfl
 ·obtain⟨b,st,m,rfl,⟨dx,l,hb,hl⟩,k⟩:=h
  refine⟨_,ao (gi (o3 (tL pO pO (cM T.BH rfl) (pv 1) (cM T.Fn rfl)))
    (au (iF iQ T.tE T.b6.ty (km T) (hr.mono (by decide)) rfl T.b6.mg T.fK.bi)) cH)
   (ao (hZ (pv 0) (pv 1) rfl) (au (hZ (pv 0) (d3 aj) rfl))),?_⟩
  refine⟨_,rfl,_,_,rfl,rfl,_,rfl,?_⟩
  have bad:¬(2<=m/\m<=24)->uq E T.b6.C (λ_=>aa (-1)) 0 mq {nx:=λ_ H'=>Q .iD H',rt:=Q} (start ["self","layers"] [.ref b,.int m]) H:=λhn=>by
   rw[if_neg hn]at k
   exact⟨rfl,_,rfl,k.at T.tp T.b6.gt T.b6.no (aJ.refl _)⟩
  refine zw (λh1=>?_) (λh1=>?_)
  ·have h1':=of_decide_eq_true h1
   refine⟨_,_,rfl,rfl,_,rfl,?_⟩
   by_cases h2:m<=24
   ·rw[decide_eq_true h2]
    refine fM ?_
    rw[if_pos ⟨h1',h2⟩]at k
    refine⟨_,rfl,_,rfl,b,_,dx,_,rfl,hb,T.aL.cl,T.aL.no _ (by simp),(by show 2<1000;decide),?_⟩
    refine⟨bp _,λl' hl'=>?_⟩
    have hbl:b≠l':=aA ag hl'
    refine⟨_,rfl,b,_,dx,_,rfl,(by rw[az hbl,ag]),T.aL.cl,T.aL.no _ (by simp),?_,?_⟩
    ·rw[jv];show 2<1000;decide
    ·refine k _ ⟨dx,l',?_,(by rw[az hbl.symm]at hl';exact hl'),[],?_,.nil⟩ ?_
     ·rw[ag,jv,dn _ _ _ (by decide+kernel),jv]
      have:((m.toNat:Nat):Int)=m:=kh (by lia)
      rw[this]
     ·rw[az hbl.symm,ag];rfl
     ·refine sI.upd λa o e n=>?_
      rw[az (aA e (by rw[az hbl.symm]at hl';exact hl')),az n];exact e
   ·rw[decide_eq_false h2]
    exact eD (bad λz=>h2 z.2)
  ·refine⟨_,rfl,?_⟩
   refine eD (bad λz=>h1 (decide_eq_true z.1))
end
end Bx
end
section
namespace Bx
open L2 (MY)
open Vbpcau
theorem zY{α:Type}{le:α->α->Prop}(anti:∀a b,le a b->le b a->a=b):∀{l m:List α},l.Perm m->l.Pairwise le->m.Pairwise le->l=m
 |[],m,h,_,_=>(List.perm_nil.mp h.symm).symm
 |a::l,[],h,_,_=>absurd (List.perm_nil.mp h) (by simp)
 |a::l,b::m,h,hl,hm=>by
  have ha:=cS.mp hl
  have hb:=cS.mp hm
  have e:a=b:=by
   rcases aG.mp (h.mem_iff.mp ay)with e|h1
   ·exact e
   ·rcases aG.mp (h.mem_iff.mpr ay)with e|h2
    ·exact e.symm
    ·exact anti a b (ha.1 b h2) (hb.1 a h1)
  subst e
  rw[zY anti ((List.perm_cons a).mp h) ha.2 hb.2]
theorem Gu(a b:Int×Int)(h1:MY a b)(h2:MY b a):a=b:=by
 obtain⟨a1,a2⟩:=a
 obtain⟨b1,b2⟩:=b
 unfold MY at h1 h2
 dsimp only at h1 h2
 have:a1=b1/\a2=b2:=by lia
 rw[this.1,this.2]
abbrev BS(s u:Span):Prop:=s.1<u.1\/(s.1=u.1/\s.2<u.2)
theorem mV(s:Span):∀ns:List Span,(putSpan s ns).Perm (s::ns)
 |[]=>sm _
 |u::r=>by
  unfold putSpan
  split
  ·exact sm _
  ·exact((mV s r).cons u).trans (List.Perm.swap s u r)
theorem z5(s:Span):∀{ns:List Span},ns.Pairwise BS->(∀u∈ns,s≠u)->(putSpan s ns).Pairwise BS
 |[],_,_=>by simp[putSpan]
 |u::r,h,hn=>by
  have h':=cS.mp h
  unfold putSpan
  split
  ·rename_i q
   have q':BS s u:=of_decide_eq_true q
   refine cS.mpr ⟨λx hx=>?_,h⟩
   rcases aG.mp hx with rfl|hx
   ·exact q'
   ·have:=h'.1 x hx
    unfold BS at*
    lia
  ·rename_i q
   have q':¬BS s u:=λz=>q (decide_eq_true z)
   have ne:s≠u:=hn u ay
   refine cS.mpr ⟨λx hx=>?_,z5 s h'.2 λx hx=>hn x (ax _ hx)⟩
   rcases aG.mp ((mV s r).mem_iff.mp hx)with rfl|hx
   ·have:¬(x.1=u.1/\x.2=u.2):=λz=>ne (CA z.1 z.2)
    unfold BS at*
    lia
   ·exact h'.1 x hx
theorem S0{ns:List Span}(h:ns.Pairwise BS):(ns.map bQ).Pairwise MY:=by
 rw[qw]
 refine h.imp λ{a b} q=>?_
 unfold BS at q
 unfold MY
 dsimp only
 lia
theorem Ji{ns:List Span}{s:Span}{qs:List (Int×Int)}(h:ns.Pairwise BS)(hn:s∉ns)(hp:qs.Perm (ns.map bQ++[bQ s]))(hs:qs.Pairwise MY):qs=(putSpan s ns).map bQ:=by
 refine zY Gu ?_ hs (S0 (z5 s h λu hu e=>hn (by rw[e];exact hu)))
 have h1:(ns.map bQ++[bQ s]).Perm (bQ s::ns.map bQ):=Cz _ _
 exact hp.trans (h1.trans (((mV s ns).map bQ).symm))
theorem i9:∀ns:List Span,(ns.foldr putSpan []).Perm ns
 |[]=>sm _
 |s::r=>(mV s _).trans ((i9 r).cons s)
def Ph(s u:Span):Prop:=s.1<u.1\/(s.1=u.1/\s.2<=u.2)
theorem Ow(s:Span):∀{ns:List Span},ns.Pairwise Ph->(putSpan s ns).Pairwise Ph
 |[],_=>by simp[putSpan]
 |u::r,h=>by
  have h':=cS.mp h
  unfold putSpan
  split
  ·rename_i q
   have q':BS s u:=of_decide_eq_true q
   refine cS.mpr ⟨λx hx=>?_,h⟩
   rcases aG.mp hx with rfl|hx
   ·unfold BS at q';unfold Ph;lia
   ·have:=h'.1 x hx
    unfold BS at q';unfold Ph at*
    lia
  ·rename_i q
   have q':¬BS s u:=λz=>q (decide_eq_true z)
   refine cS.mpr ⟨λx hx=>?_,Ow s h'.2⟩
   rcases aG.mp ((mV s r).mem_iff.mp hx)with rfl|hx
   ·unfold BS at q';unfold Ph;lia
   ·exact h'.1 x hx
theorem z6:∀ns:List Span,(ns.foldr putSpan []).Pairwise Ph
 |[]=>List.Pairwise.nil
 |s::r=>Ow s (z6 r)
theorem y9{ns:List Span}{qs:List (Int×Int)}(hp:qs.Perm (ns.map bQ))(hs:qs.Pairwise MY):qs=(ns.foldr putSpan []).map bQ:=by
 refine zY Gu (hp.trans ((i9 ns).map bQ).symm) hs ?_
 rw[qw]
 refine(z6 ns).imp λ{a b} q=>?_
 unfold Ph at q
 unfold MY
 dsimp only
 lia
theorem xJ{s u:Span}(h:bQ s=bQ u):s=u:=by
 obtain⟨a,b⟩:=s
 obtain⟨c,d⟩:=u
 injection h with h1 h2
 dsimp only at h1 h2
 rw[gA.mp h1,gA.mp h2]
theorem kX{s:Span}{ns:List Span}:bQ s∈ns.map bQ↔s∈ns:=by
 constructor
 ·intro h
  obtain⟨u,hu,e⟩:=bB.mp h
  rw[<-xJ e];exact hu
 ·exact λh=>oQ h
theorem yI{a b:Int}(h1:0<=a)(h2:0<=b):bQ (a.toNat,b.toNat)=(a,b):=by
 show((a.toNat:Int),(b.toNat:Int))=(a,b)
 rw[kh h1,kh h2]
theorem iC{b:Bool}{n:Int}{α:Type}(f:Unit->R α)(h:b=true):(must b n>>=f)=f ():=by
 unfold must;rw[if_pos h];rfl
theorem jI{b:Bool}{n:Int}{α:Type}(f:Unit->R α)(h:¬b=true):(must b n>>=f)=.error n:=by
 unfold must;rw[if_neg h];rfl
theorem Aq(st:State)(m:Int):does st (.begin_ m)=if 2<=m/\m<=24 then .ok (⟨m.toNat,[]⟩,[0])else .error (-1):=by
 show(must (decide (2<=m/\m<=24)) (-1)>>=λ_=>(pure ((⟨m.toNat,[]⟩:State),[0]):R (State×List Int)))=_
 by_cases h:2<=m/\m<=24
 ·rw[if_pos h,iC _ (decide_eq_true h)];rfl
 ·rw[if_neg h,jI _ (λz=>h (of_decide_eq_true z))]
theorem GB{b:Bool}(h:¬b=true):(!b)=true:=by cases b<;>simp_all
theorem xO(st:State)(a b:Int):does st (.need a b)=if 1<=a/\a<b/\b<=(st.n:Int)then(if(a.toNat,b.toNat)∈st.needs then .error (-2)else if st.needs.length<12 then
  .ok ({st with needs:=putSpan (a.toNat,b.toNat) st.needs},[(st.needs.length:Int)+1])else .error (-3))else .error (-1):=by
 show(spanOk st a b>>=λ_=>must (!st.needs.contains (a.toNat,b.toNat)) (-2)>>=λ_=>must (decide (st.needs.length<12)) (-3)>>=λ_=>pure ({st with needs:=putSpan (a.toNat,b.toNat) st.needs},[(st.needs.length:Int)+1]))=_
 unfold spanOk
 by_cases h:1<=a/\a<b/\b<=(st.n:Int)
 ·rw[if_pos h,iC _ (decide_eq_true h)]
  by_cases h2:(a.toNat,b.toNat)∈st.needs
  ·rw[if_pos h2,jI _ (by rw[gK.mpr h2];decide)]
  ·rw[if_neg h2,iC _ (GB λz=>h2 (gK.mp z))]
   by_cases h3:st.needs.length<12
   ·rw[if_pos h3,iC _ (decide_eq_true h3)];rfl
   ·rw[if_neg h3,jI _ (λz=>h3 (of_decide_eq_true z))]
 ·rw[if_neg h,jI _ (λz=>h (of_decide_eq_true z))]
theorem xN(st:State)(a b:Int):does st (.drop a b)=if 1<=a/\a<b/\b<=(st.n:Int)then(if(a.toNat,b.toNat)∈st.needs then
  .ok ({st with needs:=st.needs.filter λu=>u != (a.toNat,b.toNat)},[(st.needs.length:Int)-1])else .error (-2))else .error (-1):=by
 show(spanOk st a b>>=λ_=>must (st.needs.contains (a.toNat,b.toNat)) (-2)>>=λ_=>pure ({st with needs:=st.needs.filter λu=>u != (a.toNat,b.toNat)},[(st.needs.length:Int)-1]))=_
 unfold spanOk
 by_cases h:1<=a/\a<b/\b<=(st.n:Int)
 ·rw[if_pos h,iC _ (decide_eq_true h)]
  by_cases h2:(a.toNat,b.toNat)∈st.needs
  ·rw[if_pos h2,iC _ (gK.mpr h2)];rfl
  ·rw[if_neg h2,jI _ (λz=>h2 (gK.mp z))]
 ·rw[if_neg h,jI _ (λz=>h (of_decide_eq_true z))]
def turned(st:State):State:={st with needs:=(st.needs.map λu=>(st.n+1-u.2,st.n+1-u.1)).foldr putSpan []}
theorem CY(st:State):does st .turn=.ok (turned st,[0]):=rfl
theorem eZ.start:eZ r8:=⟨by decide,by decide,List.Pairwise.nil,λs h=>absurd (show s∈([]:List Span)from h) (by simp),by decide⟩
theorem eZ.begin_{m:Int}(h:2<=m/\m<=24):eZ ⟨m.toNat,[]⟩:=⟨by show 2<=m.toNat;lia,by show m.toNat<=24;lia,List.Pairwise.nil,λs h=>absurd (show s∈([]:List Span)from h) (by simp),by show 0<=12;decide⟩
theorem eZ.need{st:State}(k:eZ st){a b:Int}(h:1<=a/\a<b/\b<=(st.n:Int))(hn:(a.toNat,b.toNat)∉st.needs)(hl:st.needs.length<12):eZ {st with needs:=putSpan (a.toNat,b.toNat) st.needs}:=by
 refine⟨k.lo,k.hi,z5 _ k.Fz λu hu e=>hn (by rw[e];exact hu),λs hs=>?_,?_⟩
 ·rcases aG.mp ((mV _ _).mem_iff.mp hs)with e|hs
  ·subst e
   dsimp only
   omega
  ·exact k.Cn s hs
 ·show(putSpan _ st.needs).length<=12
  rw[(mV _ _).length_eq,aF];assumption
theorem eZ.drop{st:State}(k:eZ st)(p:Span->Bool):eZ {st with needs:=st.needs.filter p}:=
 ⟨k.lo,k.hi,k.Fz.filter _,λs hs=>k.Cn s (bu.mp hs).1,aX (bP _ _) k.wH⟩
theorem GW:∀{ns:List Span},ns.Nodup->(ns.foldr putSpan []).Pairwise BS
 |[],_=>List.Pairwise.nil
 |s::r,h=>by
  have h':=hG.mp h
  exact z5 s (GW h'.2) λu hu e=>h'.1 (by rw[e];exact(i9 r).mem_iff.mp hu)
theorem wQ{ns:List Span}(h:ns.Pairwise BS):ns.Nodup:=h.imp λ{a b} q e=>by
 subst e
 unfold BS at q
 lia
theorem Dl{α β:Type}{f:α->β}:∀{l:List α},l.Nodup->(∀x∈l,∀y∈l,f x=f y->x=y)->(l.map f).Nodup
 |[],_,_=>List.nodup_nil
 |a::l,h,hf=>by
  have h':=hG.mp h
  refine hG.mpr ⟨λhm=>?_,Dl h'.2 λx hx y hy=>hf x (ax _ hx) y (ax _ hy)⟩
  obtain⟨b,hb,e⟩:=bB.mp hm
  exact h'.1 (by rw[<-hf b (ax _ hb) a ay e];exact hb)
theorem eZ.turn{st:State}(k:eZ st):eZ (turned st):=by
 have hm:∀s,s∈(turned st).needs↔s∈st.needs.map λu=>(st.n+1-u.2,st.n+1-u.1):=λs=>(i9 _).mem_iff
 refine⟨k.lo,k.hi,GW (Dl (wQ k.Fz) λx hx y hy e=>?_),λs hs=>?_,?_⟩
 ·have h1:=k.Cn x hx
  have h2:=k.Cn y hy
  injection e with e1 e2
  exact CA (by lia) (by lia)
 ·obtain⟨u,hu,e⟩:=bB.mp ((hm s).mp hs)
  have h1:=k.Cn u hu
  subst e
  show 1<=st.n+1-u.2/\st.n+1-u.2<st.n+1-u.1/\st.n+1-u.1<=st.n
  omega
 ·show(List.foldr putSpan [] _).length<=12
  rw[(i9 _).length_eq,ae];exact k.wH
end Bx
end
section
namespace Bx
open PySem PySem.Spec PyProof.Rows L2
open Vbpcau (State Span does putSpan)
section
variable{P:Program}{w:World}{K:af}{mg:Str->Option Value}{base:Heap}
def Hd(T:Tx K mg):Sp:=λvs H Q E=>ex4 Q λb st x y Q=>vs=[.ref b,.int x,.int y]/\jb T.aL.C H b st/\
 if 1<=x/\x<y/\y<=(st.n:Int)then Q .iD H else ER K T.bx.C (-1) H E
theorem uX:aH ["self","a","b"] ["self","a","b"] (aq kq):=⟨rfl,rfl,rfl,by decide+kernel,rfl,by decide+kernel,by decide+kernel⟩
theorem nX(T:Tx K mg):bw P w K mg base (du P w) 4 T.fk.f T.fk.fd ["self","a","b"] (Hd T):=by
 refine T.fk.fn.qX uX (λvs H Q E h=>?_) (λcdv A outer s H vs Q E hr h=>?_)
 ·obtain⟨b,st,x,y,rfl,_⟩:=h
  rfl
 ·obtain⟨b,st,x,y,rfl,⟨dx,l,hb,hl⟩,k⟩:=h
  refine⟨_,au (gi (o3 (Mr pO sh pO bj (pv 1) (pv 2) (ba (pv 0) rfl)))
   (au (iF iQ T.tE T.b6.ty (km T) (hr.mono (by decide)) rfl T.b6.mg T.fK.bi)) cH),?_⟩
  have bad:¬(1<=x/\x<y/\y<=(st.n:Int))->uq E T.b6.C (λ_=>aa (-1)) 0 mq {nx:=λ_ H'=>Q .iD H',rt:=Q} (start ["self","a","b"] [.ref b,.int x,.int y]) H:=λhn=>by
   rw[if_neg hn]at k
   exact⟨rfl,_,rfl,k.at T.tp T.b6.gt T.b6.no (aJ.refl _)⟩
  refine⟨_,rfl,_,_,rfl,rfl,_,rfl,?_⟩
  refine zw (λh1=>?_) (λh1=>?_)
  ·have h1':=of_decide_eq_true h1
   refine⟨_,rfl,_,_,rfl,rfl,_,rfl,?_⟩
   refine zw (λh2=>?_) (λh2=>?_)
   ·have h2':=of_decide_eq_true h2
    refine⟨_,rfl,b,_,dx,_,_,rfl,hb,T.aL.cl,T.aL.no _ (by simp),cn _ _ _,_,_,rfl,rfl,_,rfl,?_⟩
    by_cases h3:y<=(st.n:Int)
    ·rw[decide_eq_true h3]
     refine fM ?_
     rw[if_pos ⟨h1',h2',h3⟩]at k
     exact k
    ·rw[decide_eq_false h3]
     exact eD (bad λz=>h3 z.2.2)
   ·refine⟨_,rfl,?_⟩
    exact eD (bad λz=>h2 (decide_eq_true z.2.1))
  ·refine⟨_,rfl,?_⟩
   exact eD (bad λz=>h1 (decide_eq_true z.1))
def SO(T:Tx K mg):Sp:=λvs H Q E=>ex4 Q λb st x y Q=>vs=[.ref b,.int x,.int y]/\jb T.aL.C H b st/\eZ st/\
 match does st (.need x y)with
 |.ok r=>∀H',yy T.aL.C H H' b r.1->sI b H H'->Q .iD H'
 |.error n=>ER K T.bx.C n H E
theorem dX(n:Int)(l:Addr):bz ("needed":Str) (UI n l)=aa (.ref l):=by rw[bE _ _ (by decide+kernel),cn]
theorem pJ(n:Int)(l:Addr){m:Str}(h1:¬m="layers")(h2:¬m="needed"):bz m (UI n l)=none:=by rw[bE _ _ h1,bE _ _ h2];rfl
theorem Cp:aH ["self","a","b"] ["self","a","b"] (aq rG):=⟨rfl,rfl,rfl,by decide+kernel,rfl,by decide+kernel,by decide+kernel⟩
theorem Cg(T:Tx K mg):bw P w K mg base (du P w) 5 T.oJ.f T.oJ.fd ["self","a","b"] (SO T):=by
 refine T.oJ.fn.qX Cp (λvs H Q E h=>?_) (λcdv A outer s H vs Q E hr h=>?_)
 ·obtain⟨b,st,x,y,rfl,_⟩:=h
  rfl
 ·obtain⟨b,st,x,y,rfl,⟨dx,l,hb,as,hl,hp⟩,so,k⟩:=h
  rw[xO]at k
  refine⟨_,ao (cw (cQ (dvs:=[]) (ds:=[]) (pv 0) T.aL.cl T.fk.me (nX T) hr T.fk.bi .nil eh (ab (pv 1) (ab (pv 2) aj))))
   (ao (gi (cI (II (NY hr)) (iE (ab (pv 1) (ab (pv 2) aj))) (ba (pv 0) rfl) rfl)
     (au (iF iQ T.AF T.d7.ty (pM T) (hr.mono (by decide)) rfl T.d7.mg T.iu.bi)) cH)
   (ao (gi (cI Oo (cg cP rfl T.nQ cz (ab (ba (pv 0) rfl) aj)) (cM T.Fo rfl) (eE _))
     (au (iF iQ T.AE T.dB.ty (sy T) (hr.mono (by decide)) rfl T.dB.mg T.gr.bi)) cH)
   (au (hZ (pv 0) (cg vD rfl T.Ai (by decide+kernel) (ab (cZ AZ (ba (pv 0) rfl) (d3 (ab (iE (ab (pv 1) (ab (pv 2) aj))) aj))) aj)) rfl)))),?_⟩
  refine⟨_,rfl,b,dx,_,rfl,hb,pJ _ _ (by decide+kernel) (by decide+kernel),_,rfl,_,rfl,b,st,x,y,rfl,⟨dx,l,hb,as,hl,hp⟩,?_⟩
  by_cases h1:1<=x/\x<y/\y<=(st.n:Int)
  ·rw[if_pos h1]at k⊢
   refine⟨_,rfl,_,rfl,(by show 2<=sizeLine;decide),λt ht=>?_⟩
   have s1:aJ H (upd H t (.tup [.int x,.int y])):=aJ.upd ht
   refine⟨_,rfl,b,_,dx,_,_,rfl,s1 _ _ hb,T.aL.cl,T.aL.no _ (by simp),dX _ _,t,l,as,_,(x,y),rfl,rfl,ag,cJ.of (s1 _ _ hl),s1.Rt hp,_,rfl,?_⟩
   have hc:(x,y)=bQ (x.toNat,y.toNat):=(yI (by lia) (by lia)).symm
   by_cases h2:(x.toNat,y.toNat)∈st.needs
   ·rw[if_pos h2]at k
    have:decide ((x,y)∈st.needs.map bQ)=true:=decide_eq_true (by rw[hc];exact kX.mpr h2)
    rw[show(if false=true then !decide ((x,y)∈st.needs.map bQ)else decide ((x,y)∈st.needs.map bQ))=true from this]
    exact eD ⟨rfl,_,rfl,k.at T.AB T.d7.gt T.d7.no s1⟩
   ·rw[if_neg h2]at k
    have:decide ((x,y)∈st.needs.map bQ)=false:=decide_eq_false (λz=>h2 (by rw[hc]at z;exact kX.mp z))
    rw[show(if false=true then !decide ((x,y)∈st.needs.map bQ)else decide ((x,y)∈st.needs.map bQ))=false from this]
    refine fM ?_
    refine⟨_,rfl,b,_,dx,_,_,rfl,s1 _ _ hb,T.aL.cl,T.aL.no _ (by simp),dX _ _,l,_,rfl,.inl (cJ.of (s1 _ _ hl)),_,_,rfl,rfl,_,rfl,?_⟩
    have hlen:(as.map V.ref).length=st.needs.length:=by rw[ae,hp.length,ae]
    by_cases h3:st.needs.length<12
    ·rw[if_pos h3]at k
     refine Kh (by rw[hlen];lia) ?_
     refine fM ?_
     refine⟨_,rfl,b,_,dx,_,_,rfl,s1 _ _ hb,T.aL.cl,T.aL.no _ (by simp),dX _ _,_,rfl,_,rfl,(by show 2<=sizeLine;decide),λt2 ht2=>?_⟩
     have s2:aJ H (upd (upd H t (.tup [.int x,.int y])) t2 (.tup [.int x,.int y])):=s1.trans (aJ.upd ht2)
     refine⟨(by show 1<=sizeLine;decide),λl1 hl1=>?_⟩
     have s3:aJ _ (upd (upd (upd H t (.tup [.int x,.int y])) t2 (.tup [.int x,.int y])) l1 (.lst [.ref t2])):=aJ.upd hl1
     have s3':=s2.trans s3
     refine⟨l,l1,_,_,rfl,rfl,s3' _ _ hl,ag,?_,λl2 hl2=>?_⟩
     ·rw[hlen];show st.needs.length+1<=sizeLine;rw[sizeLine_eq];lia
     have s4:=s3'.trans (aJ.upd (o:=.lst (as.map V.ref++[.ref t2])) hl2)
     refine⟨l2,as++[t2],st.needs.map bQ++[bQ (x.toNat,y.toNat)],rfl,?_,?_,λbs qs l3 hbs hperm hsort hl3=>?_⟩
     ·rw[aB];exact cJ.of ag
     ·refine(s4.Rt hp).append (.cons ?_ .nil)
      rw[<-hc]
      refine aJ.trans s3 (aJ.upd (o:=.lst (as.map V.ref++[.ref t2])) hl2) _ _ ag
     have s5:=s4.trans (aJ.upd (o:=.lst (bs.map V.ref)) hl3)
     refine⟨_,rfl,b,_,dx,_,rfl,s5 _ _ hb,T.aL.cl,T.aL.no _ (by simp),(by show 2<1000;decide),?_⟩
     have hbl:b≠l3:=aA (s4 _ _ hb) hl3
     have eq:=Ji so.Fz h2 hperm hsort
     refine k _ ⟨dx,l3,?_,s4.free hl3,bs,?_,?_⟩ (sI.upd (sI.of s5))
     ·rw[ag,dn _ _ _ (by decide+kernel),jv]
     ·rw[az hbl.symm,ag]
     ·show pW _ bs ((putSpan (x.toNat,y.toNat) st.needs).map bQ)
      rw[<-eq]
      refine hbs.same λc xs q=>?_
      rw[az (λz=>by rw[z]at q;rw[s4 _ _ hb]at q;cases q)]
      exact aJ.upd hl3 _ _ q
    ·rw[if_neg h3]at k
     refine Kj (by rw[hlen];lia) ?_
     exact eD ⟨rfl,_,rfl,k.at T.AA T.dB.gt T.dB.no s1⟩
  ·rw[if_neg h1]at k⊢
   exact k
theorem KS{H H1:Hp}{D:Addr}(s:aJ H H1)(h:H1 D=none):H D=none:=s.free h
def SI(T:Tx K mg):Sp:=λvs H Q E=>ex4 Q λb st x y Q=>vs=[.ref b,.int x,.int y]/\jb T.aL.C H b st/\eZ st/\
 match does st (.drop x y)with
 |.ok r=>∀H',yy T.aL.C H H' b r.1->sI b H H'->Q .iD H'
 |.error n=>ER K T.bx.C n H E
theorem qo:aH ["self","a","b","span"] ["self","a","b"] (aq rE):=⟨rfl,rfl,rfl,by decide+kernel,rfl,by decide+kernel,by decide+kernel⟩
theorem fB{as:List Addr}{i:Nat}{v:V}(h:(as.map V.ref)[i]?=aa v):∃a,as[i]?=aa a/\v=.ref a:=by
 rw[aS]at h
 cases e:as[i]? with
 |none=>rw[e]at h;cases h
 |some a=>rw[e]at h;exact⟨a,rfl,(bq h).symm⟩
theorem ints_get{ns:List Int}{i:Nat}{v:V}(h:(ns.map V.int)[i]?=aa v):∃n,ns[i]?=aa n/\v=.int n:=by
 rw[aS]at h
 cases e:ns[i]? with
 |none=>rw[e]at h;cases h
 |some a=>rw[e]at h;exact⟨a,rfl,(bq h).symm⟩
theorem take_snoc{α:Type}:∀{l:List α}{i:Nat}{x:α},l[i]?=aa x->l.take (i+1)=l.take i++[x]
 |[],i,x,h=>by simp at h
 |a::l,0,x,h=>by
  have e:a=x:=bq h
  subst e
  rfl
 |a::l,i+1,x,h=>by
  have ih:=take_snoc (l:=l) (i:=i) (x:=x) h
  show a::l.take (i+1)=a::l.take i++[x]
  rw[ih]
  rfl
theorem Ce(T:Tx K mg):bw P w K mg base (du P w) 5 T.oH.f T.oH.fd ["self","a","b"] (SI T):=by
 refine T.oH.fn.qX qo (λvs H Q E h=>?_) (λcdv A outer s H vs Q E hr h=>?_)
 ·obtain⟨b,st,x,y,rfl,_⟩:=h
  rfl
 ·obtain⟨b,st,x,y,rfl,⟨dx,l,hb,as,hl,hp⟩,so,k⟩:=h
  rw[xN]at k
  refine⟨_,ao (cw (cQ (dvs:=[]) (ds:=[]) (pv 0) T.aL.cl T.fk.me (nX T) hr T.fk.bi .nil eh (ab (pv 1) (ab (pv 2) aj))))
   (ao (gi (cI (Dr (NY hr)) (iE (ab (pv 1) (ab (pv 2) aj))) (ba (pv 0) rfl) rfl)
     (au (iF iQ T.AF T.d7.ty (pM T) (hr.mono (by decide)) rfl T.d7.mg T.iu.bi)) cH)
   (au (hZ (pv 0) (pQ (own:=[("span",3)]) rfl qo.nd (fJ (ba (pv 0) rfl)) (fz (by with_unfolding_all rfl)) (λ_ _ _ _ _=>cX (i:=3) qo.nd rfl (Or.inl rfl) (.inr rfl))
     (λ_ _ _ _ _=>rC (cI (r:=Uh K) (IJ (RV hr)) (pv 3) (iE (ab (pv 1) (ab (pv 2) aj))) (eE _))) (λ_ _ _ _ _=>pv 3)) rfl))),?_⟩
  refine⟨_,rfl,b,dx,_,rfl,hb,pJ _ _ (by decide+kernel) (by decide+kernel),_,rfl,_,rfl,b,st,x,y,rfl,⟨dx,l,hb,as,hl,hp⟩,?_⟩
  by_cases h1:1<=x/\x<y/\y<=(st.n:Int)
  ·rw[if_pos h1]at k⊢
   refine⟨_,rfl,_,rfl,(by show 2<=sizeLine;decide),λt ht=>?_⟩
   have s1:aJ H (upd H t (.tup [.int x,.int y])):=aJ.upd ht
   refine⟨_,rfl,b,_,dx,_,_,rfl,s1 _ _ hb,T.aL.cl,T.aL.no _ (by simp),dX _ _,t,l,as,_,(x,y),rfl,rfl,ag,cJ.of (s1 _ _ hl),s1.Rt hp,_,rfl,?_⟩
   have hc:(x,y)=bQ (x.toNat,y.toNat):=(yI (by lia) (by lia)).symm
   by_cases h2:(x.toNat,y.toNat)∈st.needs
   ·rw[if_pos h2]at k
    have:(!decide ((x,y)∈st.needs.map bQ))=false:=by rw[decide_eq_true (by rw[hc];exact kX.mpr h2)];rfl
    rw[show(if true=true then !decide ((x,y)∈st.needs.map bQ)else decide ((x,y)∈st.needs.map bQ))=false from this]
    refine fM ?_
    refine⟨_,rfl,b,_,dx,_,_,rfl,s1 _ _ hb,T.aL.cl,T.aL.no _ (by simp),dX _ _,l,rfl,⟨_,cJ.of (s1 _ _ hl)⟩,λD hD=>?_⟩
    have nlD:l≠D:=aA (s1 _ _ hl) hD
    have nbD:b≠D:=aA (s1 _ _ hb) hD
    refine jG (K:=K) (a:=l) (xs:=as.map V.ref) (λi H'=>aJ H H'/\∃bs,H' D=aa (.lst (bs.map V.ref))/\pW H bs (((st.needs.take i).filter λu=>u != (x.toNat,y.toNat)).map bQ)/\bs.length<=i)
     ⟨s1.trans (aJ.upd hD),[],ag,.nil,ah _⟩ (λi H' _ q=>cJ.of (q.1 _ _ hl)) (λi v H' hv q=>?_) (λH' q=>?_)
    ·obtain⟨a,ha,rfl⟩:=fB hv
     obtain⟨p,hp1,hp2⟩:=hp.Ej ha
     rw[aS]at hp1
     cases hu:st.needs[i]? with
     |none=>rw[hu]at hp1;cases hp1
     |some u=>
      rw[hu]at hp1
      cases hp1
      obtain⟨sH,bs,hb1,hb2,hb3⟩:=q
      refine⟨rfl,_,rfl,_,rfl,_,rfl,(by show 2<=sizeLine;decide),λt2 ht2=>?_⟩
      have s2:aJ H' (upd H' t2 (.tup [.int x,.int y])):=aJ.upd ht2
      refine⟨pairD (bQ u),pairD (x,y),.tup (.of (s2 _ _ (sH _ _ hp2))) (.cons (.int _) (.cons (.int _) .nil)),.tup (.of ag) (.cons (.int _) (.cons (.int _) .nil)),rfl,rfl,_,rfl,?_⟩
      rw[Au,take_snoc hu,cB,da,fQ]
      by_cases h3:u=(x.toNat,y.toNat)
      ·rw[decide_eq_true (by rw[hc,h3])]
       refine fM ⟨sH.trans s2,bs,s2 _ _ hb1,?_,Nat.le_succ_of_le hb3⟩
       rw[if_neg (by rw[h3];simp),aZ]
       exact hb2
      ·rw[decide_eq_false (λz=>h3 (xJ (by rw[z,hc])))]
       refine eD ⟨_,rfl,_,s2 _ _ hb1,?_,?_⟩
       ·rw[ae];exact eB hb3 (by
         have:=(aD.mp hu).1
         have:=so.wH
         rw[sizeLine_eq];lia)
       ·refine⟨(sH.trans s2).pC (KS s1 hD),bs++[a],?_,?_,?_⟩
        ·rw[ag,aB];rfl
        ·rw[if_pos (by simp[h3]),aB]
         exact hb2.append (.cons hp2 .nil)
        ·rw[ai];exact Ae hb3
    ·obtain⟨sH,bs,hb1,hb2,hb3⟩:=q
     rw[ae,hp.length,ae,bF]at hb2
     refine⟨_,rfl,b,_,dx,_,rfl,sH _ _ hb,T.aL.cl,T.aL.no _ (by simp),(by show 2<1000;decide),?_⟩
     refine k _ ⟨dx,D,?_,KS s1 hD,bs,?_,?_⟩ (sI.upd (sI.of sH))
     ·rw[ag,dn _ _ _ (by decide+kernel),jv]
     ·rw[az nbD.symm];exact hb1
     ·refine hb2.same λc xs q=>?_
      rw[az (λz=>by rw[z]at q;rw[hb]at q;cases q)]
      exact sH _ _ q
   ·rw[if_neg h2]at k
    have:(!decide ((x,y)∈st.needs.map bQ))=true:=by rw[decide_eq_false (λz=>h2 (by rw[hc]at z;exact kX.mp z))];rfl
    rw[show(if true=true then !decide ((x,y)∈st.needs.map bQ)else decide ((x,y)∈st.needs.map bQ))=true from this]
    exact eD ⟨rfl,_,rfl,k.at T.AB T.d7.gt T.d7.no s1⟩
  ·rw[if_neg h1]at k⊢
   exact k
end
end Bx
end
section
namespace Bx
open PySem PySem.Spec PyProof.Rows L2
open Vbpcau (State Span does putSpan crosses firstClash)
section
variable{P:Program}{w:World}{K:af}{mg:Str->Option Value}{base:Heap}
def SR(T:Tx K mg):Sp:=λvs H Q E=>ex2 Q λb st Q=>vs=[.ref b]/\jb T.aL.C H b st/\eZ st/\∀H',yy T.aL.C H H' b (turned st)->sI b H H'->Q .iD H'
theorem ka:aH ["self","over","a","b"] ["self"] (aq rH):=⟨rfl,rfl,rfl,by decide+kernel,rfl,by decide+kernel,by decide+kernel⟩
theorem Ci(T:Tx K mg):bw P w K mg base (du P w) 1 T.oK.f T.oK.fd ["self"] (SR T):=by
 refine T.oK.fn.okN ka (λvs H Q E h=>?_) (λcdv A outer s H vs Q E hr h=>?_)
 ·obtain⟨b,st,rfl,_⟩:=h
  rfl
 ·obtain⟨b,st,rfl,⟨dx,l,hb,as,hl,hp⟩,so,k⟩:=h
  refine⟨_,ao (bK (i:=1) ka.nd rfl (Or.inr rfl) (cZ gM (ba (pv 0) rfl) bj))
   (au (hZ (pv 0) (cg vD rfl T.Ai (by decide+kernel) (ab
     (pQ (g:=RU K 2 (F9 (yQ 2) (F9 (yQ 3) RT))) (own:=[("a",2),("b",3)]) rfl ka.nd (fJ (ba (pv 0) rfl)) (fz (by with_unfolding_all rfl))
       (λ_ _ _ _ _=>IM rfl (qN (cX (i:=2) ka.nd rfl (Or.inl rfl) (.inr rfl)) (qN (cX (i:=3) ka.nd rfl (Or.inl rfl) (.inr rfl)) EI)))
       (λ_ _ _ _ _=>mB) (λ_ _ _ _ _=>iE (ab (cZ nE (pv 1) (pv 3)) (ab (cZ nE (pv 1) (pv 2)) aj)))) aj)) rfl)),?_⟩
  refine⟨_,rfl,b,_,dx,_,_,rfl,hb,T.aL.cl,T.aL.no _ (by simp),cn _ _ _,_,_,rfl,rfl,?_⟩
  refine⟨_,rfl,b,_,dx,_,_,rfl,hb,T.aL.cl,T.aL.no _ (by simp),dX _ _,l,rfl,⟨_,cJ.of hl⟩,λD hD=>?_⟩
  have nbD:b≠D:=aA hb hD
  have hlen:as.length=st.needs.length:=by rw[hp.length,ae]
  refine jG (K:=K) (a:=l) (xs:=as.map V.ref) (λi H'=>aJ H H'/\∃bs,H' D=aa (.lst (bs.map V.ref))/\pW H' bs (((st.needs.take i).map λu=>(st.n+1-u.2,st.n+1-u.1)).map bQ))
   ⟨aJ.upd hD,[],ag,.nil⟩ (λi H' _ q=>cJ.of (q.1 _ _ hl)) (λi v H' hv q=>?_) (λH' q=>?_)
  ·obtain⟨a,ha,rfl⟩:=fB hv
   obtain⟨p,hp1,hp2⟩:=hp.Ej ha
   rw[aS]at hp1
   cases hu:st.needs[i]? with
   |none=>rw[hu]at hp1;cases hp1
   |some u=>
    rw[hu]at hp1
    cases hp1
    obtain⟨sH,bs,hb1,hb2⟩:=q
    have hi:i<st.needs.length:=(aD.mp hu).1
    have hr1:=so.Cn u (bY hu)
    refine⟨a,_,rfl,vb.of (sH _ _ hp2),rfl,_,_,rfl,_,_,rfl,rfl,rfl,?_⟩
    refine⟨_,rfl,_,rfl,_,_,rfl,rfl,_,rfl,_,rfl,_,_,rfl,rfl,(by show 2<=sizeLine;decide),λt ht=>?_⟩
    have s2:aJ H' (upd H' t (.tup [.int ((st.n:Int)+1-(u.2:Int)),.int ((st.n:Int)+1-(u.1:Int))])):=aJ.upd ht
    refine⟨_,s2 _ _ hb1,?_,?_⟩
    ·have e1:=hb2.length
     rw[ae,ae,bH]at e1
     rw[ae,e1,sizeLine_eq]
     have:=so.wH
     lia
    ·have nD:H D=none:=hD
     refine⟨(sH.trans s2).pC nD,bs++[t],?_,?_⟩
     ·rw[ag,aB];rfl
     ·have ntD:t≠D:=λz=>by rw[z,hb1]at ht;cases ht
      have kp:∀c xs,H' c=aa (.tup xs)->upd (upd H' t (.tup [.int ((st.n:Int)+1-(u.2:Int)),.int ((st.n:Int)+1-(u.1:Int))])) D (.lst (bs.map V.ref++[.ref t])) c=aa (.tup xs):=λc xs q=>by
       rw[az (λz=>by rw[z,hb1]at q;cases q)];exact s2 _ _ q
      rw[take_snoc hu,aB,aB]
      refine(hb2.same kp).append (.cons ?_ .nil)
      rw[az ntD,ag]
      show _=aa (HO.tup [V.int ((st.n+1-u.2:Nat):Int),V.int ((st.n+1-u.1:Nat):Int)])
      rw[show((st.n+1-u.2:Nat):Int)=(st.n:Int)+1-(u.2:Int) by lia,show((st.n+1-u.1:Nat):Int)=(st.n:Int)+1-(u.1:Int) by lia]
  ·obtain⟨sH,bs,hb1,hb2⟩:=q
   rw[ae,hlen,bF]at hb2
   refine⟨D,bs,_,rfl,cJ.of hb1,hb2,λcs qs l3 hcs hperm hsort hl3=>?_⟩
   have eq:=y9 hperm hsort
   have s5:=sH.trans (aJ.upd (o:=.lst (cs.map V.ref)) hl3)
   have hbl:b≠l3:=aA (sH _ _ hb) hl3
   refine⟨_,rfl,b,_,dx,_,rfl,s5 _ _ hb,T.aL.cl,T.aL.no _ (by simp),(by show 2<1000;decide),?_⟩
   refine k _ ⟨dx,l3,?_,sH.free hl3,cs,?_,?_⟩ (sI.upd (sI.of s5))
   ·rw[ag,dn _ _ _ (by decide+kernel),jv];rfl
   ·rw[az hbl.symm,ag]
   ·show pW _ cs (((st.needs.map λu=>(st.n+1-u.2,st.n+1-u.1)).foldr putSpan []).map bQ)
    rw[<-eq]
    refine hcs.same λc xs q=>?_
    rw[az (λz=>by rw[z,sH _ _ hb]at q;cases q)]
    exact aJ.upd hl3 _ _ q
def Mz:Sp:=λvs H Q _=>ex4 Q λ(s o:Addr)(p q:Int×Int) Q=>vs=[.ref s,.ref o]/\H s=aa (.tup [.int p.1,.int p.2])/\H o=aa (.tup [.int q.1,.int q.2])/\Q (.bl (decide (p.1<q.1/\q.1<=p.2/\p.2<q.2))) H
theorem Je:aH ["span","other"] ["span","other"] (aq yb):=⟨rfl,rfl,rfl,by decide+kernel,rfl,by decide+kernel,by decide+kernel⟩
theorem V1{x y:V}:Nf [x,y] 0=aa x:=gT (j:=0) rfl
theorem V2{x y:V}:Nf [x,y] 1=aa y:=gT (j:=1) rfl
theorem ID(T:Tx K mg):bw P w K mg base (du P w) 1 T.clashes.f T.clashes.fd ["span","other"] Mz:=by
 refine T.clashes.fn.okN Je (λvs H Q E h=>?_) (λcdv A outer s H vs Q E hr h=>?_)
 ·obtain⟨s,o,p,q,rfl,_⟩:=h
  rfl
 ·obtain⟨s,o,p,q,rfl,h1,h2,k⟩:=h
  refine⟨_,au (a8 (Mp sh pO sh (jN xU (pv 0) bj (λ_ _=>rfl)) (jN xU (pv 1) bj (λ_ _=>rfl)) (jN xU (pv 0) bj (λ_ _=>rfl)) (jN xU (pv 1) bj (λ_ _=>rfl)))),?_⟩
  refine⟨_,rfl,s,_,_,_,rfl,rfl,vb.of h1,V1,_,rfl,o,_,_,_,rfl,rfl,vb.of h2,V1,_,_,rfl,rfl,_,rfl,?_⟩
  refine zw (λc1=>?_) (λc1=>?_)
  ·refine⟨_,rfl,s,_,_,_,rfl,rfl,vb.of h1,V2,_,_,rfl,rfl,_,rfl,?_⟩
   refine zw (λc2=>?_) (λc2=>?_)
   ·refine⟨_,rfl,o,_,_,_,rfl,rfl,vb.of h2,V2,_,_,rfl,rfl,?_⟩
    show Q (V.bl (decide (p.2<q.2))) H
    rw[show decide (p.2<q.2)=decide (p.1<q.1/\q.1<=p.2/\p.2<q.2)from decide_eq_decide.mpr ⟨λz=>⟨of_decide_eq_true c1,of_decide_eq_true c2,z⟩,λz=>z.2.2⟩]
    exact k
   ·rw[show false=decide (p.1<q.1/\q.1<=p.2/\p.2<q.2)from(decide_eq_false λz=>c2 (decide_eq_true z.2.1)).symm]
    exact k
  ·rw[show false=decide (p.1<q.1/\q.1<=p.2/\p.2<q.2)from(decide_eq_false λz=>c1 (decide_eq_true z.1)).symm]
   exact k
theorem F4{s:Span}{pre r:List Span}(h:(pre++s::r).Pairwise BS):(pre++s::r).find? (crosses s)=r.find? (crosses s):=by
 have no:∀u,u.1<=s.1->crosses s u=false:=λu hu=>by
  unfold crosses
  exact decide_eq_false λz=>by lia
 have h1:∀u∈pre,u.1<=s.1:=λu hu=>by
  have:=(Jz.mp h).2.2 u hu s ay
  unfold BS at this
  lia
 rw[qt,lh.mpr (λu hu=>by rw[no u (h1 u hu)];decide),BP,cF,no s (ah _)]
theorem B7{ns:List Span}(h:ns.Pairwise BS){i:Nat}{s:Span}(hs:ns[i]?=aa s):firstClash (ns.drop i)=match ns.find? (crosses s)with
  |some u=>aa (s,u)
  |none=>firstClash (ns.drop (i+1)):=by
 have hi:=(aD.mp hs).1
 have e:ns.drop i=s::ns.drop (i+1):=by
  rw[bO hi]
  congr 1
  exact(aD.mp hs).2
 have e2:ns=ns.take i++s::ns.drop (i+1):=by rw[<-e,jk]
 rw[e]
 have h2:=h
 rw[e2]at h2
 have:=F4 h2
 rw[<-e2]at this
 rw[this]
 rfl
abbrev RK:Option (Span×Span)->List Int
 |some x=>[(x.1.1:Int),(x.1.2:Int),(x.2.1:Int),(x.2.2:Int)]
 |none=>[]
def Fb(T:Tx K mg):Sp:=λvs H Q _=>ex2 Q λb st Q=>vs=[.ref b]/\jb T.aL.C H b st/\eZ st/\∀l H',aJ H H'->H' l=aa (.lst ((RK (firstClash st.needs)).map V.int))->Q (.ref l) H'
theorem jB:aH ["self","span","other"] ["self"] (aq jT):=⟨rfl,rfl,rfl,by decide+kernel,rfl,by decide+kernel,by decide+kernel⟩
theorem mQ(T:Tx K mg):bw P w K mg base (du P w) 2 T.eJ.f T.eJ.fd ["self"] (Fb T):=by
 refine T.eJ.fn.okN jB (λvs H Q E h=>?_) (λcdv A outer s H vs Q E hr h=>?_)
 ·obtain⟨b,st,rfl,_⟩:=h
  rfl
 ·obtain⟨b,st,rfl,⟨dx,l,hb,as,hl,hp⟩,so,k⟩:=h
  refine⟨_,ao (p8 dw rfl (fJ (ba (pv 0) rfl)) (cX (i:=1) jB.nd rfl (Or.inl rfl))
    (au (p8 dw rfl (fJ (ba (pv 0) rfl)) (cX (i:=2) jB.nd rfl (Or.inl rfl))
      (au (gi (kn (bb (dvs:=[]) (ds:=[]) (ID T) hr rfl T.clashes.mg T.clashes.kp T.clashes.bi .nil aP (ab (pv 1) (ab (pv 2) aj))))
        (au (a8 (qL wC rfl T.HN (by decide+kernel) (ab (cZ Qp (pv 1) (pv 2)) aj)))) cH)))))
   (au (a8 (d3 aj))),?_⟩
  have hlen:as.length=st.needs.length:=by rw[hp.length,ae]
  refine⟨_,rfl,b,_,dx,_,_,rfl,hb,T.aL.cl,T.aL.no _ (by simp),dX _ _,l,rfl,⟨_,cJ.of hl⟩,oU (K:=K) (a:=l) (xs:=as.map V.ref)
   (λi σ H'=>H'=H/\(∃x y,σ=[aa (.ref b),x,y])/\firstClash st.needs=firstClash (st.needs.drop i)) ⟨rfl,⟨_,_,rfl⟩,rfl⟩ (λi σ H' _ q=>by rw[q.1];exact cJ.of hl) (λi v σ H' hv q=>?_) (λσ H' q=>?_)⟩
  ·obtain⟨rfl,⟨x,y,rfl⟩,fc⟩:=q
   obtain⟨a,ha,rfl⟩:=fB hv
   obtain⟨p,hp1,hp2⟩:=hp.Ej ha
   rw[aS]at hp1
   cases hu:st.needs[i]? with
   |none=>rw[hu]at hp1;cases hp1
   |some u=>
    rw[hu]at hp1
    cases hp1
    rw[B7 so.Fz hu]at fc
    refine⟨_,rfl,b,_,dx,_,_,rfl,hb,T.aL.cl,T.aL.no _ (by simp),dX _ _,l,rfl,⟨_,cJ.of hl⟩,oU (K:=K) (a:=l) (xs:=as.map V.ref)
     (λj σ H''=>H''=H'/\(∃y,σ=[aa (.ref b),aa (.ref a),y])/\(st.needs.take j).find? (crosses u)=none) ⟨rfl,⟨_,rfl⟩,rfl⟩ (λj σ H'' _ q=>by rw[q.1];exact cJ.of hl) (λj v σ H'' hv2 q=>?_) (λσ H'' q=>?_)⟩
    ·obtain⟨rfl,⟨y,rfl⟩,nf⟩:=q
     obtain⟨c,hc,rfl⟩:=fB hv2
     obtain⟨p2,hp3,hp4⟩:=hp.Ej hc
     rw[aS]at hp3
     cases hu2:st.needs[j]? with
     |none=>rw[hu2]at hp3;cases hp3
     |some u2=>
      rw[hu2]at hp3
      cases hp3
      refine⟨_,rfl,_,rfl,a,c,bQ u,bQ u2,rfl,hp2,hp4,_,rfl,?_⟩
      have hd:decide ((bQ u).1<(bQ u2).1/\(bQ u2).1<=(bQ u).2/\(bQ u).2<(bQ u2).2)=crosses u u2:=by
       unfold crosses
       exact decide_eq_decide.mpr (by dsimp only;simp)
      rw[hd]
      by_cases hx:crosses u u2=true
      ·rw[hx]
       refine eD ?_
       have hf:st.needs.find? (crosses u)=aa u2:=by
        have hj:=(aD.mp hu2).1
        rw[<-jk j st.needs,qt,nf,BP,bO hj,cF,(aD.mp hu2).2,hx]
       rw[hf]at fc
       refine⟨_,rfl,_,rfl,a,c,_,_,rfl,rfl,vb.of hp2,vb.of hp4,(by simp),(by show 4<=sizeLine;decide),λz=>by simp at z,λ_ t ht=>?_⟩
       refine⟨t,_,rfl,.inr (vb.of ag),λl2 hl2=>?_⟩
       refine k l2 _ ((aJ.upd ht).trans (aJ.upd hl2)) ?_
       rw[ag,fc];rfl
      ·rw[yz.mpr hx]
       refine fM ⟨rfl,⟨_,rfl⟩,?_⟩
       rw[take_snoc hu2,qt,nf,BP,cF,yz.mpr hx];rfl
    ·obtain⟨rfl,⟨y,rfl⟩,nf⟩:=q
     rw[ae,hlen,bF]at nf
     rw[nf]at fc
     exact⟨rfl,⟨_,_,rfl⟩,fc⟩
  ·obtain⟨rfl,⟨x,y,rfl⟩,fc⟩:=q
   rw[ae,hlen,O7]at fc
   refine⟨bp _,λl2 hl2=>?_⟩
   refine k l2 _ (aJ.upd hl2) ?_
   rw[ag,fc];rfl
end
end Bx
end
section
namespace Bx
open PySem PySem.Spec PyProof.Rows L2
open Vbpcau (Plan Plans Span)
open TL
abbrev pf(f z:Int)(l:Addr):List (Str×V):=[("first",.int f),("last",.int z),("parts",.ref l)]
theorem j9(f z:Int)(l:Addr):bz ("first":Str) (pf f z l)=aa (.int f):=cn _ _ _
theorem mz(f z:Int)(l:Addr):bz ("last":Str) (pf f z l)=aa (.int z):=by rw[bE _ _ (by decide+kernel),cn]
theorem mU(f z:Int)(l:Addr):bz ("parts":Str) (pf f z l)=aa (.ref l):=by rw[bE _ _ (by decide+kernel),bE _ _ (by decide+kernel),cn]
def lg:Plan->Nat
 |.foil k=>k
 |.core a _=>a
 |.press l=>l.layers.headD 0
def l5:Plan->Nat
 |.foil k=>k
 |.core _ b=>b
 |.press l=>l.layers.getLastD 0
def fS:Plan->Bool
 |.press _=>true
 |_=>false
def sub:Plan->Plans
 |.press l=>l
 |_=>.nil
mutual
def Nt:Plan->Prop
 |.foil k=>k<1000
 |.core a b=>a≠b/\a<1000/\b<1000
 |.press l=>l≠.nil/\Nu l
def Nu:Plans->Prop
 |.nil=>True
 |.cons p l=>Nt p/\Nu l
end
mutual
def fu(C:Addr)(H:Hp):Plan->Addr->Prop
 |.foil k,a=>∃dx l,H a=aa (.ins C dx (pf k k l))/\H l=aa (.lst [])
 |.core x y,a=>∃dx l,H a=aa (.ins C dx (pf x y l))/\H l=aa (.lst [])
 |.press ps,a=>∃dx l as,H a=aa (.ins C dx (pf (ps.layers.headD 0:Nat) (ps.layers.getLastD 0:Nat) l))/\H l=aa (.lst (as.map V.ref))/\gc C H ps as/\ps≠.nil
def gc(C:Addr)(H:Hp):Plans->List Addr->Prop
 |.nil,as=>as=[]
 |.cons p ps,as=>∃a r,as=a::r/\fu C H p a/\gc C H ps r
end
mutual
theorem fu.same{C:Addr}{H H':Hp}(s:aJ H H'):∀{p:Plan}{a:Addr},fu C H p a->fu C H' p a
 |.foil k,a,h=>by
  obtain⟨dx,l,h1,h2⟩:=h
  exact⟨dx,l,s _ _ h1,s _ _ h2⟩
 |.core x y,a,h=>by
  obtain⟨dx,l,h1,h2⟩:=h
  exact⟨dx,l,s _ _ h1,s _ _ h2⟩
 |.press ps,a,h=>by
  obtain⟨dx,l,as,h1,h2,h3,h4⟩:=h
  exact⟨dx,l,as,s _ _ h1,s _ _ h2,gc.same s h3,h4⟩
theorem gc.same{C:Addr}{H H':Hp}(s:aJ H H'):∀{ps:Plans}{as:List Addr},gc C H ps as->gc C H' ps as
 |.nil,as,h=>h
 |.cons p ps,as,h=>by
  obtain⟨a,r,e,h1,h2⟩:=h
  exact⟨a,r,e,fu.same s h1,gc.same s h2⟩
end
theorem fu.top{C:Addr}{H:Hp}:∀{p:Plan}{a:Addr},fu C H p a->∃dx l as,H a=aa (.ins C dx (pf (lg p) (l5 p) l))/\H l=aa (.lst (as.map V.ref))/\gc C H (sub p) as/\(fS p=true↔as≠[])
 |.foil k,a,h=>by
  obtain⟨dx,l,h1,h2⟩:=h
  exact⟨dx,l,[],h1,h2,rfl,by simp[fS]⟩
 |.core x y,a,h=>by
  obtain⟨dx,l,h1,h2⟩:=h
  exact⟨dx,l,[],h1,h2,rfl,by simp[fS]⟩
 |.press .nil,a,h=>by
  obtain⟨dx,l,as,h1,h2,h3,h4⟩:=h
  exact absurd rfl h4
 |.press (.cons p ps),a,h=>by
  obtain⟨dx,l,as,h1,h2,h3,h4⟩:=h
  refine⟨dx,l,as,h1,h2,h3,?_⟩
  obtain⟨a,r,e,_⟩:=h3
  simp[fS,e]
theorem gc.len{C:Addr}{H:Hp}:∀{ps:Plans}{as:List Addr},gc C H ps as->as.length=ps.list.length
 |.nil,as,h=>by rw[show as=[]from h];rfl
 |.cons p ps,as,h=>by
  obtain⟨a,r,rfl,_,h2⟩:=h
  show r.length+1=ps.list.length+1
  rw[gc.len h2]
theorem gc.get{C:Addr}{H:Hp}:∀{ps:Plans}{as:List Addr}{i:Nat}{a:Addr},gc C H ps as->as[i]?=aa a->∃p,ps.list[i]?=aa p/\fu C H p a
 |.nil,as,i,a,h,e=>by rw[show as=[]from h]at e;simp at e
 |.cons p ps,as,0,a,h,e=>by
  obtain⟨b,r,rfl,h1,_⟩:=h
  have:b=a:=by simpa using e
  subst this
  exact⟨p,rfl,h1⟩
 |.cons p ps,as,i+1,a,h,e=>by
  obtain⟨b,r,rfl,_,h2⟩:=h
  obtain⟨q,h3,h4⟩:=gc.get (i:=i) h2 (by simpa using e)
  exact⟨q,h3,h4⟩
section
variable{P:Program}{w:World}{K:af}{mg:Str->Option Value}{base:Heap}
def Jj(C:Addr):Sp:=λvs H Q _=>ex5 Q λa dx f z l Q=>vs=[.ref a,.int f,.int z,.ref l]/\H a=aa (.ins C dx [])/\Q .iD (upd H a (.ins C dx (pf f z l)))
theorem E3:aH ["self","first","last","parts"] ["self","first","last","parts"] (aq tR):=⟨rfl,rfl,rfl,by decide+kernel,rfl,by decide+kernel,by decide+kernel⟩
theorem jJ(T:Tx K mg):bw P w K mg base (du P w) 1 T.i7.f T.i7.fd ["self","first","last","parts"] (Jj T.aV.C):=by
 refine T.i7.fn.okN E3 (λvs H Q E h=>?_) (λcdv A outer s H vs Q E hr h=>?_)
 ·obtain⟨a,dx,f,z,l,rfl,_⟩:=h
  rfl
 ·obtain⟨a,dx,f,z,l,rfl,ha,k⟩:=h
  refine⟨_,ao (hZ (pv 0) (pv 1) rfl) (ao (hZ (pv 0) (pv 2) rfl) (au (hZ (pv 0) (pv 3) rfl))),?_⟩
  refine⟨_,rfl,_,rfl,a,_,dx,_,rfl,ha,T.aV.cl,T.aV.no _ (by simp),(by show 0<1000;decide),?_⟩
  refine⟨_,rfl,_,rfl,a,_,dx,_,rfl,ag,T.aV.cl,T.aV.no _ (by simp),(by show 1<1000;decide),?_⟩
  refine⟨_,rfl,_,rfl,a,_,dx,_,rfl,ag,T.aV.cl,T.aV.no _ (by simp),(by rw[gX,dn _ _ _ (by decide+kernel),gX];show 2<1000;decide),?_⟩
  rw[ik,ik,gX,dn _ _ _ (by decide+kernel),gX,dn _ _ _ (by decide+kernel),dn _ _ _ (by decide+kernel),gX]
  exact k
def DI(C:Addr):Sp:=λvs H Q _=>ex2 Q λa p Q=>vs=[.ref a]/\fu C H p a/\Q (.bl (fS p)) H
theorem G6:aH ["part"] ["part"] (aq vU):=⟨rfl,rfl,rfl,by decide+kernel,rfl,by decide+kernel,by decide+kernel⟩
theorem jt(T:Tx K mg):bw P w K mg base (du P w) 1 T.dj.f T.dj.fd ["part"] (DI T.aV.C):=by
 refine T.dj.fn.okN G6 (λvs H Q E h=>?_) (λcdv A outer s H vs Q E hr h=>?_)
 ·obtain⟨a,p,rfl,_⟩:=h
  rfl
 ·obtain⟨a,p,rfl,ha,k⟩:=h
  obtain⟨dx,l,as,h1,h2,h3,h4⟩:=ha.top
  refine⟨_,au (a8 (zV Dq (cg cP rfl T.nQ cz (ab (ba (pv 0) rfl) aj)) bj (eE _))),?_⟩
  refine⟨_,rfl,a,_,dx,_,_,rfl,h1,T.aV.cl,T.aV.no _ (by simp),mU _ _ _,l,_,rfl,.inl (cJ.of h2),_,_,rfl,rfl,?_⟩
  show Q (V.bl (decide ((0:Int)<((as.map V.ref).length:Nat)))) H
  rw[show decide ((0:Int)<((as.map V.ref).length:Nat))=fS p from ?_]
  ·exact k
  ·rw[g9,decide_eq_true_iff,h4,ae]
   cases as with
   |nil=>simp
   |cons _ _=>simp
def He(C:Addr):Sp:=λvs H Q _=>ex2 Q λa p Q=>vs=[.ref a]/\fu C H p a/\Nt p/\Q (.bl p.isFoil) H
theorem Jf:aH ["part"] ["part"] (aq ye):=⟨rfl,rfl,rfl,by decide+kernel,rfl,by decide+kernel,by decide+kernel⟩
theorem vN(T:Tx K mg):bw P w K mg base (du P w) 2 T.kg.f T.kg.fd ["part"] (He T.aV.C):=by
 refine T.kg.fn.okN Jf (λvs H Q E h=>?_) (λcdv A outer s H vs Q E hr h=>?_)
 ·obtain⟨a,p,rfl,_⟩:=h
  rfl
 ·obtain⟨a,p,rfl,ha,hc,k⟩:=h
  obtain⟨dx,l,as,h1,h2,h3,h4⟩:=ha.top
  refine⟨_,au (a8 (So (zV Dn (ba (pv 0) rfl) (ba (pv 0) rfl) (eE _)) (Sr (Sq (bb (dvs:=[]) (ds:=[]) (jt T) hr rfl T.dj.mg T.dj.kp T.dj.bi .nil aP (ab (pv 0) aj)))))),?_⟩
  refine⟨_,rfl,a,_,dx,_,_,rfl,h1,T.aV.cl,T.aV.no _ (by simp),j9 _ _ _,_,rfl,a,_,dx,_,_,rfl,h1,T.aV.cl,T.aV.no _ (by simp),mz _ _ _,rfl,_,rfl,?_⟩
  refine zw (λc=>?_) (λc=>?_)
  ·refine⟨_,rfl,a,p,rfl,ha,_,rfl,?_⟩
   have e:V.int (lg p:Nat)=V.int (l5 p:Nat):=of_decide_eq_true c
   rw[show(!fS p)=p.isFoil from ?_]
   ·exact k
   ·cases p with
    |foil k=>rfl
    |core x y=>
     injection e with e
     exact absurd (gA.mp e) hc.1
    |press l=>rfl
  ·rw[show false=p.isFoil from ?_]
   ·exact k
   ·cases p with
    |foil k=>exact absurd (decide_eq_true rfl) c
    |core x y=>rfl
    |press l=>rfl
def fF(p:Plan):Str:=⟨(p.shown.map (·.toNat)).toArray⟩
theorem uR(p:Plan):tl (fF p)=p.shown.map (·.toNat):=rfl
theorem AI(p:Plan):(fF p).length=p.shown.length:=by rw[vH,uR,ae]
theorem joined:∀l:Plans,l.shown.map (·.toNat)=Gn [32] (l.list.map λp=>p.shown.map (·.toNat))
 |.nil=>rfl
 |.cons p .nil=>rfl
 |.cons p (.cons q l)=>by
  show(p.shown++(32::Plans.shown (.cons q l))).map (·.toNat)=p.shown.map (·.toNat)++([32]++Gn [32] ((Plans.cons q l).list.map λp=>p.shown.map (·.toNat)))
  rw[aB,aU,joined (.cons q l)]
  rfl
theorem Fh:∀l:Plans,l≠.nil->(l.list.map λp=>p.shown.length).sum+l.list.length=l.shown.length+1
 |.nil,h=>absurd rfl h
 |.cons p .nil,_=>by
  show p.shown.length+0+(0+1)=p.shown.length+1
  rfl
 |.cons p (.cons q l),_=>by
  have ih:=Fh (.cons q l) (by simp)
  show p.shown.length+((Plans.cons q l).list.map λp=>p.shown.length).sum+((Plans.cons q l).list.length+1)=(p.shown++(32::Plans.shown (.cons q l))).length+1
  rw[ai,aF]
  lia
theorem Eu{p:Plan}:∀{l:Plans},p∈l.list->p.shown.length<=l.shown.length
 |.nil,h=>absurd (show p∈([]:List Plan)from h) (by simp)
 |.cons q .nil,h=>by
  have:p=q:=by simpa[Plans.list]using h
  rw[this];exact ah _
 |.cons q (.cons r l),h=>by
  show p.shown.length<=(q.shown++(32::Plans.shown (.cons r l))).length
  rw[ai,aF]
  rcases aG.mp h with e|h
  ·rw[e];ac_rfl
  ·have:=Eu (l:=.cons r l) h
   lia
theorem uB{p:Plan}:∀{l:Plans},Nu l->p∈l.list->Nt p
 |.nil,_,h=>absurd (show p∈([]:List Plan)from h) (by simp)
 |.cons q l,hc,h=>by
  rcases aG.mp h with e|h
  ·rw[e];exact hc.1
  ·exact uB hc.2 h
theorem kS{p:Plan}:∀{l:Plans},p∈l.list->p.depth<=l.depth
 |.nil,h=>absurd (show p∈([]:List Plan)from h) (by simp)
 |.cons q l,h=>by
  show p.depth<=max q.depth l.depth
  rcases aG.mp h with e|h
  ·rw[e];lia
  ·have:=kS h
   lia
theorem HV(n:Nat):(uz n).map (·.toNat)=vK n:=by
 unfold uz Vbpcau.text vK
 rw[dQ]
 have e:(toString n).toList=lV 10 n:=by simp[toString,Nat.repr]
 rw[e]
 refine bg λc hc=>?_
 have h1:c.toNat∈vK n:=oQ hc
 have h2:=GC n c.toNat h1
 show(zM c.toNat).toNat=c.toNat
 rw[wu]
 have h3:c.toNat<=57:=h2.2
 lia
theorem Jh(k:Nat):fF (.foil k)=cj (toString ((k:Nat):Int)):=HX (by rw[Jr,uR];exact HV k)
theorem Jq(k:Nat):tl (cj (toString ((k:Nat):Int)))=vK k:=Jr k
def xn(C:Addr)(n:Nat):Sp:=λvs H Q _=>ex2 Q λa p Q=>vs=[.ref a]/\fu C H p a/\Nt p/\p.depth<=n/\p.shown.length<=10000/\∀H',aJ H H'->Q (.str (fF p)) H'
theorem ml:aH ["part","first","last","inside","inner"] ["part"] (aq yf):=⟨rfl,rfl,rfl,by decide+kernel,rfl,by decide+kernel,by decide+kernel⟩
theorem ym{k:Nat}(h:k<2^100):(k:Int).natAbs.log2<1920:=by
 rw[Int.natAbs_natCast]
 by_cases z:k=0
 ·subst z;decide
 ·have:=(Nat.log2_lt z).mpr h
  lia
theorem d8(l:Plans):(Plan.press l).depth=l.depth+1:=rfl
theorem ME{l:List Plan}{i:Nat}{p:Plan}(h:l[i]?=aa p):((l.take (i+1)).map fF).map V.str=((l.take i).map fF).map V.str++[V.str (fF p)]:=by
 rw[take_snoc h,aB,aB];rfl
theorem AD(l:Plans):tl (zp " " (l.list.map fF))=l.shown.map (·.toNat):=by
 rw[join_eq,K2,joined,dQ]
 rfl
theorem rk{CX:Jv}{f:Addr}{fd:FuncData}{ps:List Str}{sp:Nat->Sp}{n c:Nat}(h:∀m,n=m+1->bw P w K mg base CX (m+1+c) f fd ps (sp m)):
  bw P w K mg base CX (n+c) f fd ps (λvs H Q E=>ex1 Q λm Q=>n=m+1/\sp m vs H Q E):=by
 refine⟨λvs H Q E ⟨m,e,q⟩=>(h m e).len vs H Q E q,λA outer s H args us vs Q E hr he hb hv zy=>?_⟩
 obtain⟨m,e,q⟩:=zy
 subst e
 exact(h m rfl).run A outer s H args us vs Q E hr he hb hv q
theorem sl(u v:Str):(u++v).length=u.length+v.length:=by rw[vH,vH,vH,iI,ai]
theorem Lu:("[":Str).length=1:=by decide+kernel
theorem NG:(" ":Str).length=1:=by decide+kernel
theorem TR:("]":Str).length=1:=by decide+kernel
theorem PF:("(":Str).length=1:=by decide+kernel
theorem TU:(")":Str).length=1:=by decide+kernel
theorem Pf:su.length=0:=rfl
theorem T4{x:Nat}(hx:x<1000):(cj (toString ((x:Nat):Int))).length<=3:=by rw[vH,Jq];exact Oi (by decide) (aY hx (by decide))
theorem oX{l:List Plan}{i:Nat}{p:Plan}(h:l[i]?=aa p):p∈l:=bY h
theorem xr(T:Tx K mg)(n:Nat)(ih:∀m,n=m+1->bw P w K mg base (du P w) (m+1+2) T.jL.f T.jL.fd ["part"] (xn T.aV.C m)):
  bw P w K mg base (du P w) (n+3) T.jL.f T.jL.fd ["part"] (xn T.aV.C n):=by
 have F:=rk ih
 refine T.jL.fn.okN ml (λvs H Q E h=>?_) (λcdv A outer s H vs Q E hr h=>?_)
 ·obtain⟨a,p,rfl,_⟩:=h
  rfl
 ·obtain⟨a,p,rfl,ha,hc,hd,hz,k⟩:=h
  obtain⟨dx,l,as,h1,h2,h3,h4⟩:=ha.top
  refine⟨_,ao (bK (i:=1) ml.nd rfl (Or.inl rfl) (ba (pv 0) rfl)) (ao (bK (i:=2) ml.nd rfl (Or.inl rfl) (ba (pv 0) rfl))
   (ao (gi (kn (bb (dvs:=[]) (ds:=[]) (jt T) (hr.mono (by ac_rfl)) rfl T.dj.mg T.dj.kp T.dj.bi .nil aP (ab (pv 0) aj)))
     (ao (bK (i:=3) ml.nd rfl (Or.inl rfl) (Qt x6 (pQ (te:=ze (λvs H Q E=>ex1 Q λm Q=>n=m+1/\xn T.aV.C m vs H Q E) [] E0 (gJ (fN 4) mq)) (own:=[("inner",4)]) rfl ml.nd (fJ (ba (pv 0) rfl)) (fz (by with_unfolding_all rfl))
        (λ_ _ _ _ _=>cX (i:=4) ml.nd rfl (Or.inl rfl) (.inr rfl)) (λ_ _ _ _ _=>mB)
        (λ_ _ _ _ _=>bb (dvs:=[]) (ds:=[]) F hr rfl T.jL.mg T.jL.kp T.jL.bi .nil aP (ab (pv 4) aj)))))
       (au (a8 (Du (ts:=[tC (.str "("),Q3 (fN 3),tC (.str ")")]) ⟨x6,⟨IK (pv 3),⟨x6,trivial,rfl⟩,rfl⟩,rfl⟩)))) cH)
   (ao (gi (kn (bb (dvs:=[]) (ds:=[]) (vN T) (hr.mono (by ac_rfl)) rfl T.kg.mg T.kg.kp T.kg.bi .nil aP (ab (pv 0) aj))) (au (a8 (qL D8 rfl T.Tw (by decide+kernel) (ab (pv 1) aj)))) cH)
   (au (a8 (Du (ts:=[tC (.str "["),Q3 (fN 1),tC (.str " "),Q3 (fN 2),tC (.str "]")]) ⟨x6,⟨IK (pv 1),⟨x6,⟨IK (pv 2),⟨x6,trivial,rfl⟩,rfl⟩,rfl⟩,rfl⟩,rfl⟩)))))),?_⟩
  refine⟨_,rfl,a,_,dx,_,_,rfl,h1,T.aV.cl,T.aV.no _ (by simp),j9 _ _ _,_,rfl,a,_,dx,_,_,rfl,h1,T.aV.cl,T.aV.no _ (by simp),mz _ _ _,_,rfl,a,p,rfl,ha,_,rfl,?_⟩
  cases p with
  |foil v=>
   refine fM ⟨_,rfl,a,_,rfl,ha,hc,_,rfl,eD ⟨_,rfl,_,rfl,ym (aY hc (by decide)),?_⟩⟩
   rw[show(cj (toString (((lg (.foil v):Nat)):Int)))=fF (.foil v)from(Jh v).symm]
   exact k H (aJ.refl _)
  |core x y=>
   obtain⟨hxy,hx,hy⟩:=hc
   refine fM ⟨_,rfl,a,_,rfl,ha,⟨hxy,hx,hy⟩,_,rfl,fM ?_⟩
   have lx:=T4 hx
   have ly:=T4 hy
   refine⟨_,rfl,?_,_,rfl,.inr ⟨_,rfl,ym (aY hx (by decide)),_,rfl,?_,_,rfl,?_,_,rfl,.inr ⟨_,rfl,ym (aY hy (by decide)),_,rfl,?_,_,rfl,?_,?_,?_⟩⟩⟩
   ·rw[sl,Pf,Lu,sizeLine_eq];decide
   ·rw[sl,sl,Pf,Lu,sizeLine_eq]
    have:(cj (toString ((lg (.core x y):Nat):Int))).length<=3:=lx
    lia
   ·rw[sl,sl,sl,Pf,Lu,NG,sizeLine_eq]
    have:(cj (toString ((lg (.core x y):Nat):Int))).length<=3:=lx
    lia
   ·rw[sl,sl,sl,sl,Pf,Lu,NG,sizeLine_eq]
    have:(cj (toString ((lg (.core x y):Nat):Int))).length<=3:=lx
    have:(cj (toString ((l5 (.core x y):Nat):Int))).length<=3:=ly
    lia
   ·rw[sl,sl,sl,sl,sl,Pf,Lu,NG,TR,sizeLine_eq]
    have:(cj (toString ((lg (.core x y):Nat):Int))).length<=3:=lx
    have:(cj (toString ((l5 (.core x y):Nat):Int))).length<=3:=ly
    lia
   ·rw[sl,sl,sl,sl,sl,Pf,Lu,NG,TR,sizeLine_eq]
    have:(cj (toString ((lg (.core x y):Nat):Int))).length<=3:=lx
    have:(cj (toString ((l5 (.core x y):Nat):Int))).length<=3:=ly
    lia
   ·rw[show su++("[":Str)++cj (toString ((lg (.core x y):Nat):Int))++(" ":Str)++cj (toString ((l5 (.core x y):Nat):Int))++("]":Str)=fF (.core x y)from ?_]
    ·exact k H (aJ.refl _)
    ·refine HX ?_
     rw[iI,iI,iI,iI,iI,uR]
     show tl su++tl ("[":Str)++tl (cj (toString ((x:Nat):Int)))++tl (" ":Str)++tl (cj (toString ((y:Nat):Int)))++tl ("]":Str)=(91::(uz x++(32::(uz y++[93])))).map (·.toNat)
     rw[Jq,Jq,aU,aB,aU,aB,HV,HV]
     show[]++[91]++vK x++[32]++vK y++[93]=91::(vK x++32::(vK y++[93]))
     simp
  |press q=>
   obtain⟨m,rfl⟩:∃m,n=m+1:=⟨n-1,by rw[d8]at hd;lia⟩
   have hne:q≠.nil:=hc.1
   have h3:gc T.aV.C H q as:=h3
   have hzq:q.shown.length+2<=10000:=by
    have:(Plan.press q).shown.length=q.shown.length+2:=by
     show(40::(q.shown++[41])).length=_
     rw[aF,ai];rfl
    lia
   have hsum:=Fh q hne
   have hcnt:as.length=q.list.length:=h3.len
   refine eD ⟨⟨_,rfl⟩,?_⟩
   refine⟨_,rfl,a,_,dx,_,_,rfl,h1,T.aV.cl,T.aV.no _ (by simp),mU _ _ _,l,rfl,⟨_,cJ.of h2⟩,λD hD=>?_⟩
   refine jG (K:=K) (a:=l) (xs:=as.map V.ref) (λi H'=>aJ H H'/\H' D=aa (.lst (((q.list.take i).map fF).map V.str)))
    ⟨aJ.upd hD,ag⟩ (λi H' _ z=>cJ.of (z.1 _ _ h2)) (λi v H' hv z=>?_) (λH' z=>?_)
   ·obtain⟨c,hcc,rfl⟩:=fB hv
    obtain⟨p,hp1,hp2⟩:=h3.get hcc
    obtain⟨sH,hDl⟩:=z
    have hm:=oX hp1
    refine⟨rfl,?_⟩
    refine⟨_,rfl,m,rfl,c,p,rfl,hp2.same sH,uB hc.2 hm,?_,aX (Eu hm) (by lia),λH2 s2=>?_⟩
    ·have:=kS hm
     rw[d8]at hd
     lia
    ·refine⟨_,s2 _ _ hDl,?_,?_,?_⟩
     ·rw[ae,ae,bH,sizeLine_eq];lia
     ·exact(sH.trans s2).pC hD
     ·rw[ag,ME hp1]
   ·obtain⟨sH,hDl⟩:=z
    rw[ae,hcnt,bF]at hDl
    have hsl:((q.list.map fF).map (·.length))=q.list.map λp=>p.shown.length:=by
     rw[dQ]
     exact bg λp _=>AI p
    refine⟨_,D,q.list.map fF,rfl,rfl,.inl (cJ.of hDl),?_,?_⟩
    ·rw[hsl,ae,NG];lia
    ·have hjl:(zp " " (q.list.map fF)).length=q.shown.length:=by rw[vH,AD,ae]
     refine⟨_,rfl,?_,_,rfl,.inl ⟨_,rfl,?_,_,rfl,?_,_,rfl,?_,?_,?_⟩⟩
     ·rw[sl,Pf,PF,sizeLine_eq];lia
     ·rw[hjl,sizeLine_eq];lia
     ·rw[sl,sl,Pf,PF,hjl,sizeLine_eq];lia
     ·rw[sl,sl,sl,Pf,PF,TU,hjl,sizeLine_eq];lia
     ·rw[sl,sl,sl,Pf,PF,TU,hjl,sizeLine_eq];lia
     ·rw[show su++("(":Str)++zp " " (q.list.map fF)++(")":Str)=fF (.press q)from ?_]
      ·exact k H' sH
      ·refine HX ?_
       rw[iI,iI,iI,uR,AD]
       show[]++[40]++q.shown.map (·.toNat)++[41]=(40::(q.shown++[41])).map (·.toNat)
       rw[aU,aB]
       simp
theorem IH(T:Tx K mg)(n:Nat):bw P w K mg base (du P w) (n+3) T.jL.f T.jL.fd ["part"] (xn T.aV.C n):=by
 induction n with
 |zero=>exact xr T 0 λm h=>by lia
 |succ n ih=>
  refine xr T (n+1) λm h=>?_
  obtain rfl:n=m:=by lia
  exact ih
end
end Bx
end
section
namespace L2
open PySem PySem.Spec PyProof.Rows
abbrev HI(J:It)(g:TG)(tt:TT)(te:TE)(vs:List Nat)(σ:St)(H1:Hp)(D:Addr)(Qd:Hp->Prop):Prop:=
 ∃W:Nat->Nat->Hp->Prop,(∃m,W 0 m (upd H1 D (.lst [])))/\∀i m H,W i m H->
  (J.stop i H/\Qd H)\/(J.go i H/\∃Nx:Hp->Prop,(∀H',Nx H'->∃m',m'<m/\W (i+1) m' H')/\∀x H',J.RC i H x H'->g x (wipe σ vs) H' λσ2 H2=>wipe σ2 vs=wipe σ vs/\tt σ2 H2 λb H3=>
    if b=true then te σ2 H3 λy H4=>∃acc,H4 D=aa (.lst acc)/\acc.length<sizeLine/\Nx (upd H4 D (.lst (acc++[y])))else Nx H3)
section
variable{K:af}{a b:Addr}{xs ys:List V}{g:TG}{tt:TT}{te:TE}{vs:List Nat}{σ:St}{H1:Hp}{D:Addr}{Qd:Hp->Prop}
theorem R7(Pv:Nat->Hp->Prop)(h0:Pv 0 (upd H1 D (.lst [])))(hl:∀i H,i<=xs.length->Pv i H->cJ K H a xs)
  (hs:∀i x H,xs.reverse[i]?=aa x->Pv i H->g x (wipe σ vs) H λσ2 H2=>wipe σ2 vs=wipe σ vs/\tt σ2 H2 λb H3=>
    if b=true then te σ2 H3 λy H4=>∃acc,H4 D=aa (.lst acc)/\acc.length<sizeLine/\Pv (i+1) (upd H4 D (.lst (acc++[y])))else Pv (i+1) H3)(hd:∀H,Pv xs.length H->Qd H):
  HI (U0 K a xs.length) g tt te vs σ H1 D Qd:=by
 refine⟨λi m H=>m=xs.length-i/\i<=xs.length/\Pv i H,⟨xs.length,by simp,bp _,h0⟩,?_⟩
 rintro i m H ⟨rfl,hi,p⟩
 have q:=hl i H hi p
 by_cases hlt:i<xs.length
 ·have hj:xs.length-1-i<xs.length:=by omega
  refine .inr ⟨⟨hlt,xs,xs[xs.length-1-i],q,by simp[hj]⟩,Pv (i+1),λH' p'=>⟨xs.length-(i+1),by lia,rfl,hlt,p'⟩,λx H' y=>?_⟩
  obtain⟨e,y⟩:=y
  subst e
  refine hs i x _ ?_ p
  rw[mF hlt]
  exact y xs q
 ·have e:i=xs.length:=by lia
  subst e
  exact .inl ⟨ah _,hd H p⟩
theorem R9(Pv:Nat->Hp->Prop)(hlen:xs.length=ys.length)(h0:Pv 0 (upd H1 D (.lst [])))(hl:∀i H,i<=xs.length->Pv i H->cJ K H a xs/\cJ K H b ys)
  (hs:∀i x y H T,xs[i]?=aa x->ys[i]?=aa y->Pv i H->H T=none->g (.ref T) (wipe σ vs) (upd H T (.tup [x,y])) λσ2 H2=>wipe σ2 vs=wipe σ vs/\tt σ2 H2 λb H3=>
    if b=true then te σ2 H3 λy H4=>∃acc,H4 D=aa (.lst acc)/\acc.length<sizeLine/\Pv (i+1) (upd H4 D (.lst (acc++[y])))else Pv (i+1) H3)(hd:∀H,Pv xs.length H->Qd H):
  HI (U1 K a b) g tt te vs σ H1 D Qd:=by
 refine⟨λi m H=>m=xs.length-i/\i<=xs.length/\Pv i H,⟨xs.length,by simp,bp _,h0⟩,?_⟩
 rintro i m H ⟨rfl,hi,p⟩
 have q:=hl i H hi p
 by_cases hlt:i<xs.length
 ·have hlt2:i<ys.length:=by lia
  refine .inr ⟨⟨xs,ys,xs[i],ys[i],q.1,q.2,by simp[hlt],by simp[hlt2]⟩,Pv (i+1),λH' p'=>⟨xs.length-(i+1),by lia,rfl,hlt,p'⟩,λx H' y=>?_⟩
  obtain⟨T,x,y,rfl,hT,rfl,hx,hy⟩:=y
  exact hs i x y H T (hx xs q.1) (hy ys q.2) p hT
 ·have e:i=xs.length:=by lia
  subst e
  exact .inl ⟨⟨xs,ys,q.1,q.2,.inl (ah _)⟩,hd H p⟩
theorem R8{x:Str}(Pv:Nat->Hp->Prop)(h0:Pv 0 (upd H1 D (.lst [])))
  (hs:∀i c H,x.cps.toList[i]?=aa c->Pv i H->g (.str ⟨#[c]⟩) (wipe σ vs) H λσ2 H2=>wipe σ2 vs=wipe σ vs/\tt σ2 H2 λb H3=>
    if b=true then te σ2 H3 λy H4=>∃acc,H4 D=aa (.lst acc)/\acc.length<sizeLine/\Pv (i+1) (upd H4 D (.lst (acc++[y])))else Pv (i+1) H3)(hd:∀H,Pv x.cps.toList.length H->Qd H):
  HI (UZ x) g tt te vs σ H1 D Qd:=by
 have hz:x.cps.toList.length=x.cps.size:=eY
 refine⟨λi m H=>m=x.cps.size-i/\i<=x.cps.size/\Pv i H,⟨x.cps.size,by simp,bp _,h0⟩,?_⟩
 rintro i m H ⟨rfl,hi,p⟩
 by_cases hlt:i<x.cps.size
 ·refine .inr ⟨hlt,Pv (i+1),λH' p'=>⟨x.cps.size-(i+1),by lia,rfl,hlt,p'⟩,λv H' y=>?_⟩
  obtain⟨rfl,c,hc,rfl⟩:=y
  exact hs i c H' (by rw[mv];exact hc) p
 ·have e:i=x.cps.size:=by lia
  subst e
  exact .inl ⟨ah _,hd H (by rw[hz];exact p)⟩
end
end L2
end
section
namespace Bx
open PySem PySem.Spec PyProof.Rows L2
open Vbpcau (Plan Plans Span)
open TL
section
variable{P:Program}{w:World}{K:af}{mg:Str->Option Value}{base:Heap}
def Ts(C:Addr)(H:Hp)(b:Addr)(x:Nat×Span):Prop:=∃q,fu C H q b/\lg q=x.2.1/\l5 q=x.2.2/\x.1=if fS q=true then 1 else 0
def Pa(C:Addr)(H:Hp)(bs:List Addr)(l:List (Nat×Span)):Prop:=Paired (Ts C H) bs l
theorem Pa.append{C:Addr}{H:Hp}:∀{bs cs:List Addr}{l m:List (Nat×Span)},Pa C H bs l->Pa C H cs m->Pa C H (bs++cs) (l++m)
 |_,_,_,_,.nil,t=>t
 |_,_,_,_,.cons h r,t=>.cons h (Pa.append r t)
theorem Pa.get{C:Addr}{H:Hp}:∀{bs:List Addr}{l:List (Nat×Span)}{i:Nat}{b:Addr},Pa C H bs l->bs[i]?=aa b->∃x,l[i]?=aa x/\Ts C H b x
 |_,_,_,_,.nil,e=>by simp at e
 |_,_,0,_,.cons h _,e=>by
  simp at e;subst e;exact⟨_,rfl,h⟩
 |_,_,i+1,_,.cons _ t,e=>by
  obtain⟨x,h1,h2⟩:=Pa.get (i:=i) t (by simpa using e)
  exact⟨x,by simpa using h1,h2⟩
theorem K4:∀l:Plans,l.work=l.list.flatMap Plan.work
 |.nil=>rfl
 |.cons p l=>by
  show p.work++l.work=(p::l.list).flatMap Plan.work
  rw[K4 l,bT]
theorem Dd{α β:Type}(f:α->List β){l:List α}{i:Nat}{x:α}(h:l[i]?=aa x):(l.take (i+1)).flatMap f=(l.take i).flatMap f++f x:=by
 rw[take_snoc h,dh];simp
theorem PM{α β:Type}(f:α->List β)(l:List α)(i:Nat):((l.take i).flatMap f).length<=(l.flatMap f).length:=by
 conv=>rhs;rw[<-jk i l,dh,ai]
 ac_rfl
theorem AK{α β:Type}(f:α->List β){l:List α}{x:α}(h:x∈l):(f x).length<=(l.flatMap f).length:=by
 obtain⟨a,b,rfl⟩:=List.append_of_mem h
 rw[dh,bT,ai,ai]
 lia
def Bu(C:Addr)(n:Nat):Sp:=λvs H Q _=>ex3 Q λa p G Q=>vs=[.ref a]/\fu C G p a/\aJ G H/\Nt p/\p.depth<=n/\p.work.length<=10000/\∀l bs H',aJ H H'->H l=none->H' l=aa (.lst (bs.map V.ref))->Pa C G bs p.work->Q (.ref l) H'
theorem rO:aH ["part","pieces","inner"] ["part"] (aq tW):=⟨rfl,rfl,rfl,by decide+kernel,rfl,by decide+kernel,by decide+kernel⟩
theorem DR{p:Plan}(h:p.isFoil=false):p.work=(sub p).list.flatMap Plan.work++[((if fS p=true then 1 else 0),(lg p,l5 p))]:=by
 cases p with
 |foil k=>cases h
 |core a b=>rfl
 |press l=>
  show l.work++_=_
  rw[K4];rfl
theorem um(T:Tx K mg)(n:Nat)(ih:∀m,n=m+1->bw P w K mg base (du P w) (m+1+2) T.dJ.f T.dJ.fd ["part"] (Bu T.aV.C m)):
  bw P w K mg base (du P w) (n+3) T.dJ.f T.dJ.fd ["part"] (Bu T.aV.C n):=by
 have F:=rk ih
 refine T.dJ.fn.okN rO (λvs H Q E h=>?_) (λcdv A outer s H vs Q E hr h=>?_)
 ·obtain⟨a,p,G,rfl,_⟩:=h
  rfl
 ·obtain⟨a,p,G,rfl,ha,sG,hc,hd,hz,k⟩:=h
  obtain⟨dx,l,as,h1,h2,h3,h4⟩:=ha.top
  refine⟨_,ao (bK (i:=1) rO.nd rfl (Or.inl rfl) (d3 aj))
   (ao (p8 dw rfl (fJ (ba (pv 0) rfl)) (cX (i:=2) rO.nd rfl (Or.inl rfl))
     (au (cw (vm cq eM hU uF (pv 1) (ab (bb (dvs:=[]) (ds:=[]) F hr rfl T.dJ.mg T.dJ.kp T.dJ.bi .nil aP (ab (pv 2) aj)) aj)))))
   (ao (gi (o3 (kn (bb (dvs:=[]) (ds:=[]) (vN T) (hr.mono (by ac_rfl)) rfl T.kg.mg T.kg.kp T.kg.bi .nil aP (ab (pv 0) aj))))
     (au (cw (vm cq fL hJ qK (pv 1) (ab (pv 0) aj)))) cH)
   (au (a8 (pv 1))))),?_⟩
  refine⟨bp _,λq hq=>?_⟩
  have s1:aJ H (upd H q (.lst [])):=aJ.upd hq
  have sG1:=sG.trans s1
  have hlen:as.length=(sub p).list.length:=h3.len
  have hsub:(((sub p).list).flatMap Plan.work).length<=p.work.length:=by
   cases p with
   |foil k=>exact bp _
   |core x y=>exact bp _
   |press l=>
    show _<=(l.work++_).length
    rw[K4,ai]
    exact j6 _ _
  refine⟨_,rfl,a,_,dx,_,_,rfl,sG1 _ _ h1,T.aV.cl,T.aV.no _ (by simp),mU _ _ _,l,rfl,⟨_,cJ.of (sG1 _ _ h2)⟩,oU (K:=K) (a:=l) (xs:=as.map V.ref)
   (λi σ H'=>(∃y,σ=[aa (.ref a),aa (.ref q),y])/\aJ H H'/\∃bs,H' q=aa (.lst (bs.map V.ref))/\Pa T.aV.C G bs (((sub p).list.take i).flatMap Plan.work)) ⟨⟨_,rfl⟩,s1,[],ag,.nil⟩
   (λi σ H' _ z=>cJ.of (sG.trans z.2.1 _ _ h2)) (λi v σ H' hv z=>?_) (λσ H' z=>?_)⟩
  ·obtain⟨⟨y,rfl⟩,sH,bs,hb1,hb2⟩:=z
   obtain⟨c,hcc,rfl⟩:=fB hv
   obtain⟨p',hp1,hp2⟩:=h3.get hcc
   have hm:=oX hp1
   obtain⟨ps,rfl⟩:∃ps,p=.press ps:=by
    cases p with
    |press ps=>exact⟨ps,rfl⟩
    |foil k=>exact absurd (show p'∈([]:List Plan)from hm) (by simp)
    |core x y=>exact absurd (show p'∈([]:List Plan)from hm) (by simp)
   obtain⟨m,rfl⟩:∃m,n=m+1:=⟨n-1,by rw[d8]at hd;lia⟩
   have hm':p'∈ps.list:=hm
   refine⟨_,rfl,.inl ⟨rfl,_,cJ.of hb1⟩,_,rfl,m,rfl,c,p',G,rfl,hp2,sG.trans sH,uB hc.2 hm',?_,?_,λl2 cs H2 s2 hn hl2 hp=>?_⟩
   ·have:=kS hm'
    rw[d8]at hd
    lia
   ·exact aX (AK Plan.work hm) (aX hsub hz)
   ·have e1:=gj hb2
    have e2:=gj hp
    have e3:=PM Plan.work (sub (.press ps)).list (i+1)
    rw[Dd Plan.work hp1,ai]at e3
    refine⟨q,l2,_,_,rfl,rfl,s2 _ _ hb1,hl2,?_,?_⟩
    ·rw[ae,ae,sizeLine_eq];lia
    ·refine⟨⟨_,rfl⟩,(sH.trans s2).pC hq,bs++cs,?_,?_⟩
     ·rw[ag,aB]
     ·rw[Dd Plan.work hp1]
      exact hb2.append hp
  ·obtain⟨⟨y,rfl⟩,sH,bs,hb1,hb2⟩:=z
   rw[ae,hlen,bF]at hb2
   refine⟨_,rfl,a,p,rfl,ha.same (sG.trans sH),hc,_,rfl,?_⟩
   cases hf:p.isFoil with
   |true=>
    refine fM ⟨_,rfl,k q bs H' sH hq hb1 ?_⟩
    cases p with
    |foil v=>exact hb2
    |core x y=>cases hf
    |press l=>cases hf
   |false=>
    have e1:=gj hb2
    rw[DR hf,ai]at hz
    refine eD ⟨_,rfl,.inl ⟨rfl,_,cJ.of hb1⟩,_,rfl,q,_,_,rfl,rfl,hb1,?_,_,rfl,?_⟩
    ·rw[ae,sizeLine_eq];lia
    ·refine k q (bs++[a]) _ (sH.pC hq) hq ?_ ?_
     ·rw[ag,aB];rfl
     ·rw[DR hf]
      exact hb2.append (.cons ⟨p,ha,rfl,rfl,rfl⟩ .nil)
theorem rA(T:Tx K mg)(n:Nat):bw P w K mg base (du P w) (n+3) T.dJ.f T.dJ.fd ["part"] (Bu T.aV.C n):=by
 induction n with
 |zero=>exact um T 0 λm h=>by lia
 |succ n ih=>
  refine um T (n+1) λm h=>?_
  obtain rfl:n=m:=by lia
  exact ih
def MD(C:Addr)(n:Nat):Sp:=λvs H Q _=>ex2 Q λa p Q=>vs=[.ref a]/\fu C H p a/\Nt p/\p.depth<=n/\p.work.length<=10000/\∀l H',aJ H H'->qz H' l ((p.work.map (·.2)).foldr fG [])->Q (.ref l) H'
theorem ug:aH ["part","piece"] ["part"] (aq vY):=⟨rfl,rfl,rfl,by decide+kernel,rfl,by decide+kernel,by decide+kernel⟩
theorem yY(T:Tx K mg)(n:Nat):bw P w K mg base (du P w) (n+4) T.lM.f T.lM.fd ["part"] (MD T.aV.C n):=by
 refine T.lM.fn.okN ug (λvs H Q E h=>?_) (λcdv A outer s H vs Q E hr h=>?_)
 ·obtain⟨a,p,rfl,_⟩:=h
  rfl
 ·obtain⟨a,p,rfl,ha,hc,hd,hz,k⟩:=h
  refine⟨_,au (a8 (cg vD rfl T.Ai (by decide+kernel) (ab
   (pQ (te:=S9 (gJ (BD K (fN 1) "first") (gJ (BD K (fN 1) "last") mq))) (own:=[("piece",1)]) rfl ug.nd
     (fJ (bb (dvs:=[]) (ds:=[]) (rA T n) hr rfl T.dJ.mg T.dJ.kp T.dJ.bi .nil aP (ab (pv 0) aj))) (fz (by with_unfolding_all rfl))
     (λ_ _ _ _ _=>cX (i:=1) ug.nd rfl (Or.inl rfl) (.inr rfl)) (λ_ _ _ _ _=>mB)
     (λ_ _ _ _ _=>iE (ab (ba (pv 1) rfl) (ab (ba (pv 1) rfl) aj)))) aj))),?_⟩
  refine⟨_,rfl,a,p,H,rfl,ha,aJ.refl _,hc,hd,hz,λl bs H1 s1 hn hl hp=>?_⟩
  refine⟨l,rfl,⟨_,cJ.of hl⟩,λD hD=>?_⟩
  have hlen:=gj hp
  refine jG (K:=K) (a:=l) (xs:=bs.map V.ref) (λi H'=>aJ H1 H'/\∃cs,H' D=aa (.lst (cs.map V.ref))/\pW H' cs (((p.work.take i).map (·.2)).map bQ))
   ⟨aJ.upd hD,[],ag,.nil⟩ (λi H' _ q=>cJ.of (q.1 _ _ hl)) (λi v H' hv q=>?_) (λH' q=>?_)
  ·obtain⟨b,hb,rfl⟩:=fB hv
   obtain⟨x,hx,⟨pc,hpc,hf,hla,hpr⟩⟩:=hp.get hb
   obtain⟨sH,cs,hc1,hc2⟩:=q
   obtain⟨dx,l',as,h1,h2,h3,h4⟩:=hpc.top
   have sA:=s1.trans sH
   refine⟨rfl,_,rfl,b,_,dx,_,_,rfl,sA _ _ h1,T.aV.cl,T.aV.no _ (by simp),j9 _ _ _,_,rfl,b,_,dx,_,_,rfl,sA _ _ h1,T.aV.cl,T.aV.no _ (by simp),mz _ _ _,(by show 2<=sizeLine;decide),λt ht=>?_⟩
   have s2:aJ H' (upd H' t (.tup [.int (lg pc:Nat),.int (l5 pc:Nat)])):=aJ.upd ht
   have e1:=hc2.length
   rw[ae,ae,bH]at e1
   have hi:=(aD.mp hx).1
   refine⟨_,s2 _ _ hc1,?_,(sH.trans s2).pC hD,cs++[t],?_,?_⟩
   ·rw[ae,e1,sizeLine_eq];lia
   ·rw[ag,aB];rfl
   ·have ntD:t≠D:=λz=>by rw[z,hc1]at ht;cases ht
    have kp:∀c xs,H' c=aa (.tup xs)->upd (upd H' t (.tup [.int (lg pc:Nat),.int (l5 pc:Nat)])) D (.lst (cs.map V.ref++[.ref t])) c=aa (.tup xs):=λc xs q=>by
     rw[az (λz=>by rw[z,hc1]at q;cases q)];exact s2 _ _ q
    rw[take_snoc hx,aB,aB]
    refine(hc2.same kp).append (.cons ?_ .nil)
    rw[az ntD,ag,hf,hla]
  ·obtain⟨sH,cs,hc1,hc2⟩:=q
   rw[ae,hlen,bF]at hc2
   refine⟨D,cs,_,rfl,cJ.of hc1,hc2,λds qs l3 hds hperm hsort hl3=>?_⟩
   refine k l3 _ ((s1.trans sH).trans (aJ.upd hl3)) ⟨ds,ag,?_⟩
   rw[<-y9 hperm hsort]
   exact hds.same λc xs q=>aJ.upd hl3 _ _ q
end
end Bx
end
section
namespace Bx
open PySem PySem.Spec PyProof.Rows L2
open Vbpcau (Plan Plans Span foilsOut)
open TL
section
variable{P:Program}{w:World}{K:af}{mg:Str->Option Value}{base:Heap}
theorem HW:∀{l:Plans}{m:Int},m∈l.list.map (λp=>(p.depth:Int))->(∀y∈l.list.map (λp=>(p.depth:Int)),y<=m)->m=(l.depth:Int):=by
 intro l m h1 h2
 have up:∀p∈l.list,p.depth<=l.depth:=λp hp=>kS hp
 have ex:l.list≠[]->∃p∈l.list,p.depth=l.depth:=by
  clear h1 h2 up m
  induction l using Plans.rec (motive_1:=λ_=>True)with
  |foil _=>trivial
  |core _ _=>trivial
  |press _ _=>trivial
  |nil=>intro h;exact absurd rfl h
  |cons p l _ ih=>
   intro _
   by_cases e:l.list=[]
   ·have:l=.nil:=by cases l with|nil=>rfl|cons q r=>cases e
    subst this
    exact⟨p,ay,by show p.depth=max p.depth 0;simp⟩
   ·obtain⟨q,hq,e2⟩:=ih e
    by_cases c:p.depth<=l.depth
    ·exact⟨q,ax _ hq,by show q.depth=max p.depth l.depth;lia⟩
    ·exact⟨p,ay,by show p.depth=max p.depth l.depth;lia⟩
 obtain⟨p,hp,e⟩:=bB.mp h1
 have ne:l.list≠[]:=λz=>by rw[z]at hp;simp at hp
 obtain⟨q,hq,e2⟩:=ex ne
 have h3:=h2 _ (oQ hq)
 have h4:=up p hp
 lia
def uP(C:Addr)(n:Nat):Sp:=λvs H Q _=>ex2 Q λa p Q=>vs=[.ref a]/\fu C H p a/\p.depth<=n/\p.work.length<=10000/\p.shown.length<=10000/\∀H',aJ H H'->Q (.int p.depth) H'
theorem ue:aH ["part","inner"] ["part"] (aq vT):=⟨rfl,rfl,rfl,by decide+kernel,rfl,by decide+kernel,by decide+kernel⟩
theorem Ep:∀l:Plans,l.list.length<=l.shown.length+1
 |.nil=>bp _
 |.cons p l=>by
  have:=Fh (.cons p l) (by simp)
  lia
theorem O3{p:Plan}{l:Plans}(h:p∈l.list):p.work.length<=(Plan.press l).work.length:=by
 show _<=(l.work++_).length
 rw[K4,ai]
 exact aX (AK Plan.work h) (j6 _ _)
theorem shown_le{p:Plan}{l:Plans}(h:p∈l.list):p.shown.length<=(Plan.press l).shown.length:=by
 show _<=(40::(l.shown++[41])).length
 rw[aF,ai]
 have:=Eu h
 lia
theorem Ks{l:Plans}:l.list.length<=(Plan.press l).shown.length:=by
 show _<=(40::(l.shown++[41])).length
 rw[aF,ai]
 have:=Ep l
 simp only[aF,fh]
 ac_rfl
theorem vt(T:Tx K mg)(n:Nat)(ih:∀m,n=m+1->bw P w K mg base (du P w) (m+1+1) T.iw.f T.iw.fd ["part"] (uP T.aV.C m)):
  bw P w K mg base (du P w) (n+2) T.iw.f T.iw.fd ["part"] (uP T.aV.C n):=by
 have F:=rk ih
 refine T.iw.fn.okN ue (λvs H Q E h=>?_) (λcdv A outer s H vs Q E hr h=>?_)
 ·obtain⟨a,p,rfl,_⟩:=h
  rfl
 ·obtain⟨a,p,rfl,ha,hd,hw,hz,k⟩:=h
  obtain⟨dx,l,as,h1,h2,h3,h4⟩:=ha.top
  refine⟨_,ao (gi (o3 (kn (bb (dvs:=[]) (ds:=[]) (jt T) (hr.mono (by ac_rfl)) rfl T.dj.mg T.dj.kp T.dj.bi .nil aP (ab (pv 0) aj)))) (au (a8 bj)) cH)
   (au (a8 (cZ gM bj (cg (RM rfl) rfl T.Ri (by decide+kernel) (ab
     (pQ (te:=ze (λvs H Q E=>ex1 Q λm Q=>n=m+1/\uP T.aV.C m vs H Q E) [] E0 (gJ (fN 1) mq)) (own:=[("inner",1)]) rfl ue.nd (fJ (ba (pv 0) rfl)) (fz (by with_unfolding_all rfl))
       (λ_ _ _ _ _=>cX (i:=1) ue.nd rfl (Or.inl rfl) (.inr rfl)) (λ_ _ _ _ _=>mB)
       (λ_ _ _ _ _=>bb (dvs:=[]) (ds:=[]) F hr rfl T.iw.mg T.iw.kp T.iw.bi .nil aP (ab (pv 1) aj))) aj))))),?_⟩
  refine⟨_,rfl,a,p,rfl,ha,_,rfl,?_⟩
  cases p with
  |foil v=>exact eD (k H (aJ.refl _))
  |core x y=>exact eD (k H (aJ.refl _))
  |press q=>
   obtain⟨m,rfl⟩:∃m,n=m+1:=⟨n-1,by rw[d8]at hd;lia⟩
   have h3:gc T.aV.C H q as:=h3
   have hcnt:as.length=q.list.length:=h3.len
   refine fM ?_
   refine⟨_,rfl,a,_,dx,_,_,rfl,h1,T.aV.cl,T.aV.no _ (by simp),mU _ _ _,l,rfl,⟨_,cJ.of h2⟩,λD hD=>?_⟩
   refine jG (K:=K) (a:=l) (xs:=as.map V.ref) (λi H'=>aJ H H'/\H' D=aa (.lst (((q.list.take i).map λp=>(p.depth:Int)).map V.int)))
    ⟨aJ.upd hD,ag⟩ (λi H' _ z=>cJ.of (z.1 _ _ h2)) (λi v H' hv z=>?_) (λH' z=>?_)
   ·obtain⟨c,hcc,rfl⟩:=fB hv
    obtain⟨p,hp1,hp2⟩:=h3.get hcc
    obtain⟨sH,hDl⟩:=z
    have hm:=oX hp1
    refine⟨rfl,?_⟩
    refine⟨_,rfl,m,rfl,c,p,rfl,hp2.same sH,?_,aX (O3 hm) hw,aX (shown_le hm) hz,λH2 s2=>?_⟩
    ·have:=kS hm
     rw[d8]at hd
     lia
    ·refine⟨_,s2 _ _ hDl,?_,?_,?_⟩
     ·have:=Ks (l:=q)
      rw[ae,ae,bH,sizeLine_eq];lia
     ·exact(sH.trans s2).pC hD
     ·rw[ag,take_snoc hp1,aB,aB];rfl
   ·obtain⟨sH,hDl⟩:=z
    rw[ae,hcnt,bF]at hDl
    refine⟨D,_,rfl,cJ.of hDl,?_,λv hv1 hv2=>?_⟩
    ·rw[ae,<-hcnt]
     have:as≠[]:=h4.mp rfl
     exact cx.mpr this
    ·refine⟨_,_,rfl,rfl,?_⟩
     rw[HW hv1 hv2]
     have:=k H' sH
     rw[d8]at this
     show Q (V.int (1+(q.depth:Int))) H'
     rw[show(1+(q.depth:Int))=((q.depth+1:Nat):Int) by lia]
     exact this
theorem GK(T:Tx K mg)(n:Nat):bw P w K mg base (du P w) (n+2) T.iw.f T.iw.fd ["part"] (uP T.aV.C n):=by
 induction n with
 |zero=>exact vt T 0 λm h=>by lia
 |succ n ih=>
  refine vt T (n+1) λm h=>?_
  obtain rfl:n=m:=by lia
  exact ih
mutual
theorem vJ(n:Nat):∀p:Plan,(p.mirror n).layers=(p.layers.map λk=>n+1-k).reverse
 |.foil k=>rfl
 |.core a b=>rfl
 |.press l=>by
  show(l.mirrorOn n .nil).layers=(l.layers.map λk=>n+1-k).reverse
  rw[yX n l .nil]
  show _++[]=_
  rw[aZ]
theorem yX(n:Nat):∀(l m:Plans),(l.mirrorOn n m).layers=(l.layers.map λk=>n+1-k).reverse++m.layers
 |.nil,m=>rfl
 |.cons p l,m=>by
  show(l.mirrorOn n (.cons (p.mirror n) m)).layers=((p.layers++l.layers).map λk=>n+1-k).reverse++m.layers
  rw[yX n l,aB,List.reverse_append,dm]
  show _++((p.mirror n).layers++m.layers)=_
  rw[vJ n p]
end
theorem xY(n:Nat):∀(l m:Plans),(l.mirrorOn n m).list=(l.list.map λp=>p.mirror n).reverse++m.list
 |.nil,m=>rfl
 |.cons p l,m=>by
  show(l.mirrorOn n (.cons (p.mirror n) m)).list=((p::l.list).map λp=>p.mirror n).reverse++m.list
  rw[xY n l,aU,List.reverse_cons,dm]
  rfl
theorem gc.of{C:Addr}{H:Hp}:∀{ps:Plans}{as:List Addr},as.length=ps.list.length->(∀(i:Nat)(p:Plan)(a:Addr),ps.list[i]?=aa p->as[i]?=aa a->fu C H p a)->gc C H ps as
 |.nil,as,h,_=>bM.mp h
 |.cons p ps,[],h,_=>by simp[Plans.list]at h
 |.cons p ps,a::as,h,k=>⟨a,as,rfl,k 0 p a rfl rfl,gc.of (by simpa[Plans.list]using h) λi q b h1 h2=>k (i+1) q b h1 h2⟩
theorem NW(f:Nat->Nat){l:List Nat}(h:l≠[]):((l.map f).reverse).headD 0=f (l.getLastD 0):=by
 obtain⟨x,m,rfl⟩:∃x m,l=m++[x]:=⟨l.getLast h,l.dropLast,(fP h).symm⟩
 simp
theorem N7(f:Nat->Nat){l:List Nat}(h:l≠[]):((l.map f).reverse).getLastD 0=f (l.headD 0):=by
 cases l with
 |nil=>exact absurd rfl h
 |cons x m=>simp
mutual
def full:Plan->Prop
 |.press l=>l.layers≠[]/\F8 l
 |_=>True
def F8:Plans->Prop
 |.nil=>True
 |.cons p l=>full p/\F8 l
end
theorem F7{p:Plan}:∀{l:Plans},F8 l->p∈l.list->full p
 |.nil,_,h=>absurd (show p∈([]:List Plan)from h) (by simp)
 |.cons q l,hc,h=>by
  rcases aG.mp h with e|h
  ·rw[e];exact hc.1
  ·exact F7 hc.2 h
theorem AH{p:Plan}{k:Nat}:∀{l:Plans},p∈l.list->k∈p.layers->k∈l.layers
 |.nil,h,_=>absurd (show p∈([]:List Plan)from h) (by simp)
 |.cons q l,h,hk=>by
  show k∈q.layers++l.layers
  rcases aG.mp h with e|h
  ·rw[<-e];exact jM _ hk
  ·exact b7 _ (AH h hk)
theorem LI{l:List Nat}(h:l≠[]):l.headD 0∈l:=by
 cases l with
 |nil=>exact absurd rfl h
 |cons x m=>simp
theorem LS{l:List Nat}(h:l≠[]):l.getLastD 0∈l:=by
 obtain⟨x,m,rfl⟩:∃x m,l=m++[x]:=⟨l.getLast h,l.dropLast,(fP h).symm⟩
 simp
def nw(H H':Hp):Hp:=λx=>match H x with
 |none=>H' x
 |some _=>none
theorem eG{H H':Hp}{x:Addr}{o:HO}:nw H H' x=aa o↔H x=none/\H' x=aa o:=by
 unfold nw
 cases e:H x with
 |none=>simp
 |some u=>simp
theorem uG{H H':Hp}:aJ (nw H H') H':=λb o e=>(eG.mp e).2
theorem KD{H H1 H2:Hp}(s:aJ H1 H2):aJ (nw H H1) (nw H H2):=λb o e=>eG.mpr ⟨(eG.mp e).1,s _ _ (eG.mp e).2⟩
theorem Sn{H H1 H2:Hp}(s:aJ H H1):aJ (nw H1 H2) (nw H H2):=λb o e=>eG.mpr ⟨s.free (eG.mp e).1,(eG.mp e).2⟩
theorem cA{H:Hp}{D x:Addr}{o:HO}:vd H D x=aa o↔x≠D/\H x=aa o:=by
 by_cases h:x=D
 ·subst h;simp[tq]
 ·rw[oV h];simp[h]
theorem wK{H:Hp}{D:Addr}:aJ (vd H D) H:=λb o e=>(cA.mp e).2
theorem Ek{H H':Hp}{D:Addr}(s:aJ H H'):aJ (vd H D) (vd H' D):=λb o e=>cA.mpr ⟨(cA.mp e).1,s _ _ (cA.mp e).2⟩
theorem Sm{H H1 H2:Hp}{D:Addr}{u:HO}(s:aJ H H1)(hD:H1 D=aa u):aJ (nw H1 H2) (vd (nw H H2) D):=λb o e=>
 cA.mpr ⟨λz=>(by have:=(eG.mp e).1;rw[z,hD]at this;cases this),Sn s _ _ e⟩
theorem El{H H2:Hp}{D:Addr}{o:HO}:aJ (vd (nw H H2) D) (vd (nw H (upd H2 D o)) D):=λb u e=>by
 obtain⟨h1,h2⟩:=cA.mp e
 refine cA.mpr ⟨h1,eG.mpr ⟨(eG.mp h2).1,?_⟩⟩
 rw[az h1];exact(eG.mp h2).2
def rQ(C:Addr)(n:Nat):Sp:=λvs H Q _=>ex4 Q λ(a:Addr)(p:Plan)(G:Hp)(N:Nat) Q=>vs=[.ref a,.int N]/\fu C G p a/\aJ G H/\full p/\Nt p/\p.depth<=n/\p.shown.length<=10000/\(∀k∈p.layers,k<=N)/\
 ∀b H',aJ H H'->fu C (nw H H') (p.mirror N) b->Q (.ref b) H'
theorem uf:aH ["part","layers","parts","inner"] ["part","layers"] (aq vX):=⟨rfl,rfl,rfl,by decide+kernel,rfl,by decide+kernel,by decide+kernel⟩
theorem PN{p:Plan}{N:Nat}(hf:full p):lg (p.mirror N)=N+1-l5 p/\l5 (p.mirror N)=N+1-lg p:=by
 cases p with
 |foil k=>exact⟨rfl,rfl⟩
 |core a b=>exact⟨rfl,rfl⟩
 |press l=>
  have e:(l.mirrorOn N .nil).layers=(l.layers.map λk=>N+1-k).reverse:=vJ N (.press l)
  refine⟨?_,?_⟩
  ·show(l.mirrorOn N .nil).layers.headD 0=_
   rw[e,NW _ hf.1];rfl
  ·show(l.mirrorOn N .nil).layers.getLastD 0=_
   rw[e,N7 _ hf.1];rfl
theorem RR{p:Plan}(hf:full p):lg p∈p.layers/\l5 p∈p.layers:=by
 cases p with
 |foil k=>exact⟨aK.mpr rfl,aK.mpr rfl⟩
 |core a b=>exact⟨ay,ax _ ay⟩
 |press l=>exact⟨LI hf.1,LS hf.1⟩
theorem Jp{p:Plan}{N:Nat}:(sub (p.mirror N)).list=((sub p).list.map λq=>q.mirror N).reverse:=by
 cases p with
 |foil k=>rfl
 |core a b=>rfl
 |press l=>
  show(l.mirrorOn N .nil).list=_
  rw[xY]
  show _++[]=_
  rw[aZ];rfl
theorem fu.make{C:Addr}{H:Hp}{p:Plan}{a dx l:Addr}{as:List Addr}(h1:H a=aa (.ins C dx (pf (lg p) (l5 p) l)))(h2:H l=aa (.lst (as.map V.ref)))(h3:gc C H (sub p) as)(h4:fS p=true->as≠[]):fu C H p a:=by
 cases p with
 |foil k=>
  have e:as=[]:=h3
  subst e
  exact⟨dx,l,h1,h2⟩
 |core x y=>
  have e:as=[]:=h3
  subst e
  exact⟨dx,l,h1,h2⟩
 |press q=>
  refine⟨dx,l,as,h1,h2,h3,λe=>?_⟩
  subst e
  exact h4 rfl h3
theorem vw(T:Tx K mg)(n:Nat)(ih:∀m,n=m+1->bw P w K mg base (du P w) (m+1+2) T.mirrored.f T.mirrored.fd ["part","layers"] (rQ T.aV.C m)):
  bw P w K mg base (du P w) (n+3) T.mirrored.f T.mirrored.fd ["part","layers"] (rQ T.aV.C n):=by
 have F:=rk ih
 refine T.mirrored.fn.okN uf (λvs H Q E h=>?_) (λcdv A outer s H vs Q E hr h=>?_)
 ·obtain⟨a,p,G,N,rfl,_⟩:=h
  rfl
 ·obtain⟨a,p,G,N,rfl,ha,sG,hf,hco,hd,hz,hk,k⟩:=h
  obtain⟨dx,l,as,h1,h2,h3,h4⟩:=ha.top
  refine⟨_,ao (A7 (i:=2) (te:=ze (λvs H Q E=>ex1 Q λm Q=>n=m+1/\rQ T.aV.C m vs H Q E) [] E0 (gJ (fN 3) (gJ (fN 1) mq))) (own:=[("inner",3)]) rfl uf.nd rfl rfl (Fi rfl rfl rfl rfl) (GS rfl T.HP (ab (ba (pv 0) rfl) aj)) (fz (by with_unfolding_all rfl))
    (λ_ _ _ _ _=>cX (i:=3) uf.nd rfl (Or.inl rfl) (.inr rfl)) (λ_ _ _ _ _=>mB)
    (λ_ _ _ _ _=>bb (dvs:=[]) (ds:=[]) F hr rfl T.mirrored.mg T.mirrored.kp T.mirrored.bi .nil aP (ab (pv 3) (ab (pv 1) aj))))
   (au (a8 (gW (dvs:=[]) (ds:=[]) (E:=E0) T.Di (jJ T) (hr.mono (by ac_rfl)) rfl T.aV.mg T.i7.bi .nil aP
     (ab (cZ nE (cZ gM (pv 1) bj) (ba (pv 0) rfl)) (ab (cZ nE (cZ gM (pv 1) bj) (ba (pv 0) rfl)) (ab (pv 2) aj)))))),?_⟩
  have hcnt:as.length=(sub p).list.length:=h3.len
  refine⟨_,rfl,a,_,dx,_,_,rfl,sG _ _ h1,T.aV.cl,T.aV.no _ (by simp),mU _ _ _,l,_,rfl,cJ.of (sG _ _ h2),λD hD=>?_⟩
  have hle:(sub p).list.length<=10000:=by
   cases p with
   |foil k=>exact bp _
   |core x y=>exact bp _
   |press q=>exact aX Ks hz
  have e2:=Jp (p:=p) (N:=N)
  refine R7 (K:=K) (a:=l) (xs:=as.map V.ref) (λi H'=>aJ H H'/\∃bs:List Addr,H' D=aa (.lst (bs.map V.ref))/\bs.length=i/\∀(j:Nat)(q:Plan)(b:Addr),(sub (p.mirror N)).list[j]?=aa q->bs[j]?=aa b->fu T.aV.C (vd (nw H H') D) q b)
   ⟨aJ.upd hD,[],ag,rfl,λj q b _ e=>by simp at e⟩ (λi H' _ z=>cJ.of (sG.trans z.1 _ _ h2)) (λi v H' hv z=>?_) (λH' z=>?_)
  ·obtain⟨sH,bs,hb1,hb2,hb3⟩:=z
   rw[<-O9]at hv
   obtain⟨c,hcc,rfl⟩:=fB hv
   have hi:i<as.length:=by have:=(aD.mp hcc).1;rwa[oO]at this
   rw[mF hi]at hcc
   obtain⟨p',hp1,hp2⟩:=h3.get hcc
   have hm:=oX hp1
   obtain⟨ps,rfl⟩:∃ps,p=.press ps:=by
    cases p with
    |press ps=>exact⟨ps,rfl⟩
    |foil k=>exact absurd (show p'∈([]:List Plan)from hm) (by simp)
    |core x y=>exact absurd (show p'∈([]:List Plan)from hm) (by simp)
   obtain⟨m,rfl⟩:∃m,n=m+1:=⟨n-1,by rw[d8]at hd;lia⟩
   have hm':p'∈ps.list:=hm
   refine⟨rfl,?_⟩
   refine⟨_,rfl,_,rfl,m,rfl,c,p',G,N,rfl,hp2,sG.trans sH,F7 hf.2 hm',uB hco.2 hm',?_,aX (shown_le hm') hz,λk hk'=>hk k (AH hm' hk'),λb H2 s2 hp=>?_⟩
   ·have:=kS hm'
    rw[d8]at hd
    lia
   ·refine⟨_,s2 _ _ hb1,?_,(sH.trans s2).pC hD,bs++[b],?_,?_,λj q c' hq hc'=>?_⟩
    ·rw[ae,hb2,sizeLine_eq];lia
    ·rw[ag,aB];rfl
    ·rw[ai,hb2];rfl
    ·refine fu.same El ?_
     by_cases hj:j<bs.length
     ·rw[dU hj]at hc'
      exact(hb3 j q c' hq hc').same (Ek (KD s2))
     ·rw[gG (by ac_rfl)]at hc'
      have ej:j=i:=by
       have:=(aD.mp hc').1
       simp at this
       lia
      subst ej
      rw[hb2,j7]at hc'
      have:b=c':=by simpa using hc'
      subst this
      have eq:q=p'.mirror N:=by
       rw[e2,<-O9,aS,mF (by rw[<-hcnt];exact hi),<-hcnt,hp1]at hq
       exact(bq hq).symm
      subst eq
      exact hp.same (Sm sH hb1)
  ·obtain⟨sH,bs,hb1,hb2,hb3⟩:=z
   rw[ae]at hb2
   have sA:=sG.trans sH
   refine⟨_,rfl,_,_,rfl,rfl,_,rfl,a,_,dx,_,_,rfl,sA _ _ h1,T.aV.cl,T.aV.no _ (by simp),mz _ _ _,_,_,rfl,rfl,_,rfl,_,_,rfl,rfl,_,rfl,a,_,dx,_,_,rfl,sA _ _ h1,T.aV.cl,T.aV.no _ (by simp),j9 _ _ _,_,_,rfl,rfl,_,rfl,?_⟩
   intro x dx' nx ndx ne
   refine⟨x,dx',_,_,D,rfl,ag,rfl,?_⟩
   rw[ik]
   have fi:=RR hf
   have k1:=hk _ fi.1
   have k2:=hk _ fi.2
   have fr:=PN (N:=N) hf
   have sX:aJ H' (upd (upd H' dx' (.own x)) x (.ins T.aV.C dx' (pf ((N:Int)+1-(l5 p:Nat)) ((N:Int)+1-(lg p:Nat)) D))):=(aJ.upd ndx).trans (aJ.upd (by rw[az ne.symm];exact nx))
   refine k x _ (sH.trans sX) ?_
   have nH:H x=none:=sH.free nx
   refine fu.make (dx:=dx') (l:=D) (as:=bs) ?_ ?_ (gc.of ?_ λj q b hq hb=>?_) λhp=>?_
   ·refine eG.mpr ⟨nH,?_⟩
    rw[ag,fr.1,fr.2]
    rw[show((N+1-l5 p:Nat):Int)=(N:Int)+1-(l5 p:Nat) by lia,show((N+1-lg p:Nat):Int)=(N:Int)+1-(lg p:Nat) by lia]
   ·exact eG.mpr ⟨hD,sX _ _ hb1⟩
   ·rw[hb2,hcnt,e2,oO,ae]
   ·exact(hb3 j q b hq hb).same (wK.trans (KD sX))
   ·have:fS p=true:=by cases p<;>first|rfl|cases hp
    intro z
    rw[z]at hb2
    have hne:=h4.mp this
    exact hne (bM.mp hb2.symm)
theorem GO(T:Tx K mg)(n:Nat):bw P w K mg base (du P w) (n+3) T.mirrored.f T.mirrored.fd ["part","layers"] (rQ T.aV.C n):=by
 induction n with
 |zero=>exact vw T 0 λm h=>by lia
 |succ n ih=>
  refine vw T (n+1) λm h=>?_
  obtain rfl:n=m:=by lia
  exact ih
end
end Bx
end
section
namespace Bx
open PySem PySem.Spec PyProof.Rows L2
def wN:List Int->Int
 |[]=>0
 |[x]=>x
 |x::y::r=>min x (wN (y::r))
theorem Gv:∀{l:List Int},l≠[]->wN l∈l
 |[],h=>absurd rfl h
 |[x],_=>aK.mpr rfl
 |x::y::r,_=>by
  show min x (wN (y::r))∈_
  have:=Gv (l:=y::r) (by simp)
  by_cases h:x<=wN (y::r)
  ·rw[Int.min_eq_left h];exact ay
  ·rw[Int.min_eq_right (by lia)];exact ax _ this
theorem Ku:∀{l:List Int}{x:Int},x∈l->wN l<=x
 |[],_,h=>absurd h (by simp)
 |[y],x,h=>by rw[aK.mp h];exact Int.le_refl _
 |z::y::r,x,h=>by
  show min z (wN (y::r))<=x
  rcases aG.mp h with e|h
  ·rw[e];exact Int.min_le_left _ _
  ·exact Int.le_trans (Int.min_le_right _ _) (Ku h)
theorem Ey{l:List Int}{m:Int}(h1:m∈l)(h2:∀y∈l,m<=y):m=wN l:=by
 have a:=Ku h1
 have b:=h2 _ (Gv (l:=l) (λz=>by rw[z]at h1;simp at h1))
 lia
section
variable(K:af)(C:Addr)(fs:List (Str×V))
def spS(one:Int):Sp:=λvs H Q _=>ex2 Q λm dx Q=>vs=[.ref m]/\H m=aa (.ins C dx fs)/\Q (.int one) H
def Uq(ok:Int->Int->Prop)(row:Int->Int->Int):Sp:=λvs H Q _=>ex4 Q λm dx x y Q=>vs=[.ref m,.int x,.int y]/\H m=aa (.ins C dx fs)/\ok x y/\Q (.int (row x y)) H
def Um(ok:List Int->Prop)(choice:List Int->Int):Sp:=λvs H Q _=>ex4 Q λm dx l ns Q=>vs=[.ref m,.ref l]/\H m=aa (.ins C dx fs)/\cJ K H l (ns.map V.int)/\ok ns/\Q (.int (choice ns)) H
def VL(ok:Int->Prop)(press:Int->Int):Sp:=λvs H Q _=>ex3 Q λm dx x Q=>vs=[.ref m,.int x]/\H m=aa (.ins C dx fs)/\ok x/\Q (.int (press x)) H
end
set_option genInjectivity false in
set_option genSizeOf false in
set_option genSizeOfSpec false in
structure UD(P:Program)(w:World)(K:af)(mg:Str->Option Value)(base:Heap)(C:Addr)(m:Str)(ps:List Str)(sp:Sp):Type where
 f:Addr
 fd:FuncData
 me:Meth K C m f
 bi:Binds K fd ps []
 ok:bw P w K mg base (du P w) 1 f fd ps sp
set_option genInjectivity false in
set_option genSizeOf false in
set_option genSizeOfSpec false in
structure yD(P:Program)(w:World)(K:af)(mg:Str->Option Value)(base:Heap):Type where
 C:Addr
 fs:List (Str×V)
 cl:Hn K C
 one:Int
 row:Int->Int->Int
 choice:List Int->Int
 press:Int->Int
 si:Int->Int->Prop
 D9:List Int->Prop
 IS:Int->Prop
 ms:UD P w K mg base C "single" ["self"] (spS C fs one)
 mr:UD P w K mg base C "row" ["self","part","behind"] (Uq C fs si row)
 mc:UD P w K mg base C "choice" ["self","ways"] (Um K C fs D9 choice)
 mp:UD P w K mg base C "press" ["self","inside"] (VL C fs IS press)
 ns:fs.lookup ("single":Str)=none
 nr:fs.lookup ("row":Str)=none
 nc:fs.lookup ("choice":Str)=none
 np:fs.lookup ("press":Str)=none
abbrev zJ:Int:=1000000007
section
variable{P:Program}{w:World}{K:af}{mg:Str->Option Value}{base:Heap}
theorem zD:aH ["self"] ["self"] (aq o5):=⟨rfl,rfl,rfl,by decide+kernel,rfl,by decide+kernel,by decide+kernel⟩
theorem E2:aH ["self","part","behind"] ["self","part","behind"] (aq tQ):=⟨rfl,rfl,rfl,by decide+kernel,rfl,by decide+kernel,by decide+kernel⟩
theorem zC:aH ["self","ways"] ["self","ways"] (aq o4):=⟨rfl,rfl,rfl,by decide+kernel,rfl,by decide+kernel,by decide+kernel⟩
theorem Bf:aH ["self","inside"] ["self","inside"] (aq qb):=⟨rfl,rfl,rfl,by decide+kernel,rfl,by decide+kernel,by decide+kernel⟩
theorem Bj:aH ["self","weight"] ["self","weight"] (aq qf):=⟨rfl,rfl,rfl,by decide+kernel,rfl,by decide+kernel,by decide+kernel⟩
theorem yi:aH ["self"] ["self"] (aq nJ):=⟨rfl,rfl,rfl,by decide+kernel,rfl,by decide+kernel,by decide+kernel⟩
theorem Cq:aH ["self","part","behind"] ["self","part","behind"] (aq rJ):=⟨rfl,rfl,rfl,by decide+kernel,rfl,by decide+kernel,by decide+kernel⟩
theorem yh:aH ["self","ways"] ["self","ways"] (aq nG):=⟨rfl,rfl,rfl,by decide+kernel,rfl,by decide+kernel,by decide+kernel⟩
theorem zH:aH ["self","inside"] ["self","inside"] (aq o8):=⟨rfl,rfl,rfl,by decide+kernel,rfl,by decide+kernel,by decide+kernel⟩
theorem qQ:aH ["self"] ["self"] (aq iW):=⟨rfl,rfl,rfl,by decide+kernel,rfl,by decide+kernel,by decide+kernel⟩
theorem ua:aH ["self","part","behind"] ["self","part","behind"] (aq jV):=⟨rfl,rfl,rfl,by decide+kernel,rfl,by decide+kernel,by decide+kernel⟩
theorem qP:aH ["self","ways"] ["self","ways"] (aq iV):=⟨rfl,rfl,rfl,by decide+kernel,rfl,by decide+kernel,by decide+kernel⟩
theorem rM:aH ["self","inside"] ["self","inside"] (aq je):=⟨rfl,rfl,rfl,by decide+kernel,rfl,by decide+kernel,by decide+kernel⟩
theorem uc:aH ["self"] ["self"] (aq jX):=⟨rfl,rfl,rfl,by decide+kernel,rfl,by decide+kernel,by decide+kernel⟩
theorem xf:aH ["self","part","behind"] ["self","part","behind"] (aq l7):=⟨rfl,rfl,rfl,by decide+kernel,rfl,by decide+kernel,by decide+kernel⟩
theorem ub:aH ["self","ways"] ["self","ways"] (aq jW):=⟨rfl,rfl,rfl,by decide+kernel,rfl,by decide+kernel,by decide+kernel⟩
theorem uY:aH ["self","inside"] ["self","inside"] (aq kr):=⟨rfl,rfl,rfl,by decide+kernel,rfl,by decide+kernel,by decide+kernel⟩
def eT(T:Tx K mg):yD P w K mg base where
 C:=T.nB.C
 fs:=[]
 cl:=T.nB.cl
 one:=1
 row:=λx y=>x*y
 choice:=λns=>ns.sum
 press:=λx=>x
 si:=K5
 D9:=λ_=>True
 IS:=λ_=>True
 ms:=⟨_,_,T.qZ.me,T.qZ.bi,T.qZ.fn.okN zD (λvs H Q E zz0=>by obtain⟨_,_,e,_⟩:=zz0;rw[e];rfl) λcdv A outer s H vs Q E hr zz1=>by
  obtain⟨m,dx,e,_,k⟩:=zz1
  subst e
  exact⟨_,au (a8 bj),k⟩⟩
 mr:=⟨_,_,T.xG.me,T.xG.bi,T.xG.fn.okN E2 (λvs H Q E zz2=>by obtain⟨_,_,_,_,e,_⟩:=zz2;rw[e];rfl) λcdv A outer s H vs Q E hr zz3=>by
  obtain⟨m,dx,x,y,e,_,o,k⟩:=zz3
  subst e
  exact⟨_,au (a8 (cZ A0 (pv 1) (pv 2))),_,rfl,_,rfl,_,_,rfl,rfl,o,k⟩⟩
 mc:=⟨_,_,T.qY.me,T.qY.bi,T.qY.fn.okN zC (λvs H Q E zz4=>by obtain⟨_,_,_,_,e,_⟩:=zz4;rw[e];rfl) λcdv A outer s H vs Q E hr zz5=>by
  obtain⟨m,dx,l,ns,e,_,hl,o,k⟩:=zz5
  subst e
  exact⟨_,au (a8 (cg (HU rfl) rfl T.Nl (by decide+kernel) (ab (pv 1) aj))),_,rfl,l,ns,rfl,hl,k⟩⟩
 mp:=⟨_,_,T.sP.me,T.sP.bi,T.sP.fn.okN Bf (λvs H Q E zz6=>by obtain⟨_,_,_,e,_⟩:=zz6;rw[e];rfl) λcdv A outer s H vs Q E hr zz0=>by
  obtain⟨m,dx,x,e,_,o,k⟩:=zz0
  subst e
  exact⟨_,au (a8 (pv 1)),_,rfl,k⟩⟩
 ns:=rfl
 nr:=rfl
 nc:=rfl
 np:=rfl
def qJ(T:Tx K mg)(v:Int):yD P w K mg base where
 C:=T.ie.C
 fs:=[("weight",.int v)]
 cl:=T.ie.cl
 one:=1
 row:=λx y=>x*y%zJ
 choice:=λns=>ns.sum%zJ
 press:=λx=>x*v%zJ
 si:=K5
 D9:=λ_=>True
 IS:=λx=>K5 x v
 ms:=⟨_,_,T.p5.me,T.p5.bi,T.p5.fn.okN yi (λvs H Q E zz1=>by obtain⟨_,_,e,_⟩:=zz1;rw[e];rfl) λcdv A outer s H vs Q E hr zz2=>by
  obtain⟨m,dx,e,_,k⟩:=zz2
  subst e
  exact⟨_,au (a8 bj),k⟩⟩
 mr:=⟨_,_,T.vB.me,T.vB.bi,T.vB.fn.okN Cq (λvs H Q E zz3=>by obtain⟨_,_,_,_,e,_⟩:=zz3;rw[e];rfl) λcdv A outer s H vs Q E hr zz4=>by
  obtain⟨m,dx,x,y,e,_,o,k⟩:=zz4
  subst e
  exact⟨_,au (a8 (cZ EH (cZ A0 (pv 1) (pv 2)) (cM T.BG rfl))),_,rfl,_,rfl,_,_,rfl,rfl,o,_,_,rfl,rfl,(by show(0:Int)<1000000007;decide),k⟩⟩
 mc:=⟨_,_,T.pZ.me,T.pZ.bi,T.pZ.fn.okN yh (λvs H Q E zz5=>by obtain⟨_,_,_,_,e,_⟩:=zz5;rw[e];rfl) λcdv A outer s H vs Q E hr zz6=>by
  obtain⟨m,dx,l,ns,e,_,hl,o,k⟩:=zz6
  subst e
  exact⟨_,au (a8 (cZ EH (cg (HU rfl) rfl T.Nl (by decide+kernel) (ab (pv 1) aj)) (cM T.BG rfl))),_,rfl,l,ns,rfl,hl,_,_,rfl,rfl,(by show(0:Int)<1000000007;decide),k⟩⟩
 mp:=⟨_,_,T.rg.me,T.rg.bi,T.rg.fn.okN zH (λvs H Q E zz0=>by obtain⟨_,_,_,e,_⟩:=zz0;rw[e];rfl) λcdv A outer s H vs Q E hr zz1=>by
  obtain⟨m,dx,x,e,hm,o,k⟩:=zz1
  subst e
  exact⟨_,au (a8 (cZ EH (cZ A0 (pv 1) (ba (pv 0) rfl)) (cM T.BG rfl))),_,rfl,_,rfl,m,_,dx,_,_,rfl,hm,T.ie.cl,T.ie.no _ (by simp),cn _ _ _,_,_,rfl,rfl,o,_,_,rfl,rfl,(by show(0:Int)<1000000007;decide),k⟩⟩
 ns:=by rw[bE _ _ (by decide+kernel)];rfl
 nr:=by rw[bE _ _ (by decide+kernel)];rfl
 nc:=by rw[bE _ _ (by decide+kernel)];rfl
 np:=by rw[bE _ _ (by decide+kernel)];rfl
def lQ(T:Tx K mg):yD P w K mg base where
 C:=T.dA.C
 fs:=[]
 cl:=T.dA.cl
 one:=0
 row:=λx y=>x+y
 choice:=wN
 press:=λx=>x+1
 si:=λ_ _=>True
 D9:=λns=>ns≠[]
 IS:=λ_=>True
 ms:=⟨_,_,T.jo.me,T.jo.bi,T.jo.fn.okN qQ (λvs H Q E zz2=>by obtain⟨_,_,e,_⟩:=zz2;rw[e];rfl) λcdv A outer s H vs Q E hr zz3=>by
  obtain⟨m,dx,e,_,k⟩:=zz3
  subst e
  exact⟨_,au (a8 bj),k⟩⟩
 mr:=⟨_,_,T.lp.me,T.lp.bi,T.lp.fn.okN ua (λvs H Q E zz4=>by obtain⟨_,_,_,_,e,_⟩:=zz4;rw[e];rfl) λcdv A outer s H vs Q E hr zz5=>by
  obtain⟨m,dx,x,y,e,_,o,k⟩:=zz5
  subst e
  exact⟨_,au (a8 (cZ gM (pv 1) (pv 2))),_,rfl,_,rfl,_,_,rfl,rfl,k⟩⟩
 mc:=⟨_,_,T.jn.me,T.jn.bi,T.jn.fn.okN qP (λvs H Q E zz6=>by obtain⟨_,_,_,_,e,_⟩:=zz6;rw[e];rfl) λcdv A outer s H vs Q E hr zz0=>by
  obtain⟨m,dx,l,ns,e,_,hl,o,k⟩:=zz0
  subst e
  exact⟨_,au (a8 (cg (HS rfl) rfl T.JP (by decide+kernel) (ab (pv 1) aj))),_,rfl,l,ns,rfl,hl,cx.mpr o,λv h1 h2=>by rw[Ey h1 h2];exact k⟩⟩
 mp:=⟨_,_,T.jP.me,T.jP.bi,T.jP.fn.okN rM (λvs H Q E zz1=>by obtain⟨_,_,_,e,_⟩:=zz1;rw[e];rfl) λcdv A outer s H vs Q E hr zz2=>by
  obtain⟨m,dx,x,e,_,o,k⟩:=zz2
  subst e
  exact⟨_,au (a8 (cZ gM (pv 1) bj)),_,rfl,_,_,rfl,rfl,k⟩⟩
 ns:=rfl
 nr:=rfl
 nc:=rfl
 np:=rfl
theorem PY(i j:Int):(if j>i then j else i)=max i j:=by
 by_cases h:j>i
 ·rw[if_pos h,Int.max_eq_right (by lia)]
 ·rw[if_neg h,Int.max_eq_left (by lia)]
def nU(T:Tx K mg):yD P w K mg base where
 C:=T.gh.C
 fs:=[]
 cl:=T.gh.cl
 one:=0
 row:=λx y=>max x y
 choice:=wN
 press:=λx=>x+1
 si:=λ_ _=>True
 D9:=λns=>ns≠[]
 IS:=λ_=>True
 ms:=⟨_,_,T.lu.me,T.lu.bi,T.lu.fn.okN uc (λvs H Q E zz3=>by obtain⟨_,_,e,_⟩:=zz3;rw[e];rfl) λcdv A outer s H vs Q E hr zz4=>by
  obtain⟨m,dx,e,_,k⟩:=zz4
  subst e
  exact⟨_,au (a8 bj),k⟩⟩
 mr:=⟨_,_,T.oN.me,T.oN.bi,T.oN.fn.okN xf (λvs H Q E zz5=>by obtain⟨_,_,_,_,e,_⟩:=zz5;rw[e];rfl) λcdv A outer s H vs Q E hr zz6=>by
  obtain⟨m,dx,x,y,e,_,o,k⟩:=zz6
  subst e
  exact⟨_,au (a8 (cg (Ln rfl) rfl T.Ri (by decide+kernel) (ab (pv 1) (ab (pv 2) aj)))),_,rfl,_,rfl,_,_,rfl,by rw[PY];exact k⟩⟩
 mc:=⟨_,_,T.lq.me,T.lq.bi,T.lq.fn.okN ub (λvs H Q E zz0=>by obtain⟨_,_,_,_,e,_⟩:=zz0;rw[e];rfl) λcdv A outer s H vs Q E hr zz1=>by
  obtain⟨m,dx,l,ns,e,_,hl,o,k⟩:=zz1
  subst e
  exact⟨_,au (a8 (cg (HS rfl) rfl T.JP (by decide+kernel) (ab (pv 1) aj))),_,rfl,l,ns,rfl,hl,cx.mpr o,λv h1 h2=>by rw[Ey h1 h2];exact k⟩⟩
 mp:=⟨_,_,T.lT.me,T.lT.bi,T.lT.fn.okN uY (λvs H Q E zz2=>by obtain⟨_,_,_,e,_⟩:=zz2;rw[e];rfl) λcdv A outer s H vs Q E hr zz3=>by
  obtain⟨m,dx,x,e,_,o,k⟩:=zz3
  subst e
  exact⟨_,au (a8 (cZ gM (pv 1) bj)),_,rfl,_,_,rfl,rfl,k⟩⟩
 ns:=rfl
 nr:=rfl
 nc:=rfl
 np:=rfl
def Ff(C:Addr):Sp:=λvs H Q _=>ex3 Q λm dx v Q=>vs=[.ref m,.int v]/\H m=aa (.ins C dx [])/\Q .iD (upd H m (.ins C dx [("weight",.int v)]))
theorem AR(T:Tx K mg):bw P w K mg base (du P w) 1 T.mK.f T.mK.fd ["self","weight"] (Ff T.ie.C):=by
 refine T.mK.fn.okN Bj (λvs H Q E zz4=>by obtain⟨_,_,_,e,_⟩:=zz4;rw[e];rfl) λcdv A outer s H vs Q E hr zz5=>?_
 obtain⟨m,dx,v,e,hm,k⟩:=zz5
 subst e
 exact⟨_,au (hZ (pv 0) (pv 1) rfl),_,rfl,_,rfl,m,_,dx,_,rfl,hm,T.ie.cl,T.ie.no _ (by simp),(by show 0<1000;decide),k⟩
end
end Bx
end
section
namespace Bx
open PySem PySem.Spec PyProof.Rows L2
open Vbpcau (State Span)
abbrev nI(l:List Nat):List V:=(l.map λk=>((k:Nat):Int)).map V.int
theorem x3{l:List Nat}{i:Nat}{v:V}(h:(nI l)[i]?=aa v):∃k,l[i]?=aa k/\v=.int (k:Nat):=by
 obtain⟨n,h1,rfl⟩:=ints_get h
 rw[aS]at h1
 cases e:l[i]? with
 |none=>rw[e]at h1;cases h1
 |some k=>rw[e]at h1;exact⟨k,rfl,by rw[<-bq h1]⟩
theorem jQ(l:List Nat):(nI l).length=l.length:=by rw[ae,ae]
theorem xZ(l m:List Nat):nI (l++m)=nI l++nI m:=by unfold nI;rw[aB,aB]
section
variable{P:Program}{w:World}{K:af}{mg:Str->Option Value}{base:Heap}
abbrev y2(a b:Nat)(s:Span):Bool:=decide (a<=s.1)&&decide (s.2<=b)&&decide (s≠(a,b))
abbrev yk(a b:Nat)(ns:List Span)(x:Int):Bool:=ns.any λs=>y2 a b s&&decide ((s.1:Int)<=x)&&decide (x<(s.2:Int))
theorem Ic(ns:List Span)(a b d:Nat):Bp.ib ns a b d=!yk a b ns (d:Int):=by
 unfold Bp.ib yk y2
 rw[List.not_any_eq_all_not]
 congr 1
 funext s
 congr 1
 rw[show decide ((s.1:Int)<=(d:Int))=decide (s.1<=d)from decide_eq_decide.mpr (by simp),show decide ((d:Int)<(s.2:Int))=decide (d<s.2)from decide_eq_decide.mpr (by simp)]
def SH:Sp:=λvs H Q _=>ex4 Q λl a b ns Q=>vs=[.ref l,.int (a:Nat),.int (b:Nat)]/\qz H l ns/\ns.length<=12/\(∀s∈ns,s.1<=24/\s.2<=24)/\(a<=24/\b<=24)/\∀r H',aJ H H'->H r=none->H' r=aa (.lst (nI (Bp.gn ns a b)))->Q (.ref r) H'
theorem kJ:aH ["needed","a","b","closed","c","d","layer"] ["needed","a","b"] (aq yc):=⟨rfl,rfl,rfl,by decide+kernel,rfl,by decide+kernel,by decide+kernel⟩
structure Na(kvs:List (Key×V))(a b:Nat)(ns:List Span)(m:Nat):Prop where
 is:∀x:Int,(kb kvs (.inl x)).isSome=yk a b ns x
 len:kvs.length<=m
theorem vM(T:Tx K mg):bw P w K mg base (du P w) 1 T.ke.f T.ke.fd ["needed","a","b"] SH:=by
 refine T.ke.fn.okN kJ (λvs H Q E zz0=>by obtain⟨_,_,_,_,e,_⟩:=zz0;rw[e];rfl) λcdv A outer s H vs Q E hr zz1=>?_
 obtain⟨l,a,b,ns,e,⟨as,hl,hp⟩,hn,hs24,hb,k⟩:=zz1
 subst e
 refine⟨_,ao (bK (i:=3) kJ.nd rfl (Or.inr rfl) Ot)
  (ao (p8 dw rfl (fJ (pv 0)) (IM rfl (qN (cX (i:=4) kJ.nd rfl (Or.inl rfl)) (qN (cX (i:=5) kJ.nd rfl (Or.inl rfl)) EI)))
    (au (gi (PW.pt (Ox (cI pO (pv 1) (pv 4) (eE _)) (Ox (cI pO (pv 5) (pv 2) (eE _)) (Qz (cI (IJ (RV hr)) (iE (ab (pv 4) (ab (pv 5) aj))) (iE (ab (pv 1) (ab (pv 2) aj))) (eE _))))))
      (au (p8 dw rfl (uK rfl T.wz (ab (pv 4) (ab (pv 5) aj))) (cX (i:=6) kJ.nd rfl (Or.inl rfl)) (au (w8 (r9 hr) (pv 3) (pv 6) Oq rfl)))) cH)))
  (au (a8 (pQ (own:=[("layer",6)]) rfl kJ.nd (uK rfl T.wz (ab (pv 1) (ab (pv 2) aj))) (fz (by with_unfolding_all rfl))
    (λ_ _ _ _ _=>cX (i:=6) kJ.nd rfl (Or.inl rfl) (.inr rfl)) (λ_ _ _ _ _=>rC (Sw (Mo (r9 hr) (pv 6) (pv 3)))) (λ_ _ _ _ _=>pv 6))))),?_⟩
 intro d hd
 have s1:aJ H (upd H d (.dK [])):=aJ.upd hd
 have hlen:as.length=ns.length:=by rw[hp.length,ae]
 refine⟨_,rfl,l,rfl,⟨_,cJ.of (s1 _ _ hl)⟩,oU (K:=K) (a:=l) (xs:=as.map V.ref)
  (λi σ H'=>(∃y4 y5 y6,σ=[aa (.ref l),aa (.int (a:Nat)),aa (.int (b:Nat)),aa (.ref d),y4,y5,y6])/\aJ H H'/\∃kvs,H' d=aa (.dK kvs)/\Na kvs a b (ns.take i) (24*i))
  ⟨⟨_,_,_,rfl⟩,s1,[],ag,⟨λx=>rfl,ah _⟩⟩ (λi σ H' _ z=>cJ.of (z.2.1 _ _ hl)) (λi v σ H' hv z=>?_) (λσ H' z=>?_)⟩
 ·obtain⟨⟨y4,y5,y6,rfl⟩,sH,kvs,hk1,hk2⟩:=z
  obtain⟨c,hcc,rfl⟩:=fB hv
  obtain⟨p,hp1,hp2⟩:=hp.Ej hcc
  rw[aS]at hp1
  cases hu:ns[i]? with
  |none=>rw[hu]at hp1;cases hp1
  |some u=>
   rw[hu]at hp1
   cases hp1
   have hi:i<ns.length:=(aD.mp hu).1
   have hu24:=hs24 u (bY hu)
   have e1:(bQ u).fst=((u.1:Nat):Int):=rfl
   have e2:(bQ u).snd=((u.2:Nat):Int):=rfl
   refine⟨c,_,rfl,vb.of (sH _ _ hp2),rfl,_,_,rfl,_,_,rfl,rfl,?_⟩
   have skip:∀H2,aJ H' H2->y2 a b u=false->aJ H H2/\∃kvs,H2 d=aa (.dK kvs)/\Na kvs a b (ns.take (i+1)) (24*(i+1)):=λH2 s2 hf=>by
    refine⟨sH.trans s2,kvs,s2 _ _ hk1,⟨λx=>?_,by have:=hk2.len;lia⟩⟩
    rw[hk2.is x,take_snoc hu]
    unfold yk
    rw[List.any_append,d6,Hr,hf]
    simp
   refine⟨_,rfl,_,rfl,_,_,rfl,rfl,_,rfl,?_⟩
   refine zw (λc1=>?_) (λc1=>?_)
   ·have c1':(a:Int)<=(u.1:Nat):=of_decide_eq_true c1
    refine⟨_,rfl,_,rfl,_,_,rfl,rfl,_,rfl,?_⟩
    refine zw (λc2=>?_) (λc2=>?_)
    ·have c2':((u.2:Nat):Int)<=(b:Nat):=of_decide_eq_true c2
     refine⟨_,rfl,_,rfl,(by show 2<=sizeLine;decide),λt ht=>?_⟩
     have s2:aJ H' (upd H' t (.tup [.int (u.1:Nat),.int (u.2:Nat)])):=aJ.upd ht
     refine⟨_,rfl,_,rfl,(by show 2<=sizeLine;decide),λt2 ht2=>?_⟩
     have s3:=s2.trans (aJ.upd (o:=.tup [.int (a:Nat),.int (b:Nat)]) ht2)
     refine⟨pairD (bQ u),pairD (bQ (a,b)),.tup (.of (aJ.upd ht2 _ _ ag)) (.cons (.int _) (.cons (.int _) .nil)),.tup (.of ag) (.cons (.int _) (.cons (.int _) .nil)),rfl,rfl,_,rfl,?_⟩
     rw[Au]
     by_cases c3:u=(a,b)
     ·rw[decide_eq_true (by rw[c3])]
      refine fM ⟨⟨_,_,_,rfl⟩,skip _ s3 ?_⟩
      unfold y2
      rw[decide_eq_false (p:=u≠(a,b)) (λz=>z c3)]
      simp
     ·rw[decide_eq_false (λz=>c3 (xJ z))]
      refine eD ?_
      have hsh:y2 a b u=true:=by
       unfold y2
       rw[decide_eq_true (by lia:a<=u.1),decide_eq_true (by lia:u.2<=b),decide_eq_true c3];rfl
      refine⟨_,rfl,_,rfl,_,_,rfl,⟨by ac_rfl,by lia,by ac_rfl,by lia⟩,xQ (lo:=(u.1:Nat)) (n:=(((u.2:Nat):Int)-(u.1:Nat)).toNat)
       (λj σ H2=>(∃y6,σ=[aa (.ref l),aa (.int (a:Nat)),aa (.int (b:Nat)),aa (.ref d),aa (.int (u.1:Nat)),aa (.int (u.2:Nat)),y6])/\aJ H H2/\∃kv2,H2 d=aa (.dK kv2)/\kv2.length<=24*i+j/\
         ∀x:Int,(kb kv2 (.inl x)).isSome=(yk a b (ns.take i) x||(decide (((u.1:Nat):Int)<=x)&&decide (x<(u.1:Nat)+j))))
       ⟨⟨_,rfl⟩,sH.trans s3,kvs,s3 _ _ hk1,hk2.len,λx=>?_⟩ (λj σ H2 hj z=>?_) (λσ H2 z=>?_)⟩
      ·rw[hk2.is x]
       by_cases q:((u.1:Nat):Int)<=x
       ·rw[decide_eq_false (by lia:¬(x<((u.1:Nat):Int)+((0:Nat):Int)))];simp
       ·rw[decide_eq_false q];simp
      ·obtain⟨⟨y6,rfl⟩,sH2,kv2,hv1,hv2,hv3⟩:=z
       have hj':(j:Int)<(u.2:Nat)-(u.1:Nat):=by lia
       refine⟨_,rfl,_,rfl,d,_,rfl,Aa.k (k:=Sum.inl (((u.1:Nat):Int)+j)) hv1 (by rw[sizeLine_eq];lia),?_⟩
       refine⟨⟨_,rfl⟩,sH2.pC hd,_,ag,?_,λx=>?_⟩
       ·have:=pI kv2 (Sum.inl (((u.1:Nat):Int)+j)) (.bl true)
        lia
       ·rw[BJ]
        by_cases q:x=((u.1:Nat):Int)+j
        ·rw[if_pos (by rw[q])]
         rw[decide_eq_true (by lia:((u.1:Nat):Int)<=x),decide_eq_true (by lia:x<((u.1:Nat):Int)+((j+1:Nat):Int))]
         simp
        ·rw[if_neg (λz=>q (yF z)),hv3 x]
         congr 2
         exact decide_eq_decide.mpr (by lia)
      ·obtain⟨⟨y6,rfl⟩,sH2,kv2,hv1,hv2,hv3⟩:=z
       refine⟨⟨_,_,_,rfl⟩,sH2,kv2,hv1,⟨λx=>?_,by lia⟩⟩
       rw[hv3 x,take_snoc hu]
       unfold yk
       rw[List.any_append,d6,Hr,hsh]
       by_cases q:((u.1:Nat):Int)<=x
       ·rw[decide_eq_true q,show decide (x<((u.1:Nat):Int)+((((u.2:Nat):Int)-(u.1:Nat)).toNat:Nat))=decide (x<((u.2:Nat):Int))from decide_eq_decide.mpr (by lia)]
        simp
       ·rw[decide_eq_false q];simp
    ·exact⟨⟨_,_,_,rfl⟩,skip _ (aJ.refl _) (by
      unfold y2
      rw[decide_eq_false (p:=u.2<=b) (λz=>c2 (decide_eq_true (by lia)))]
      simp)⟩
   ·exact⟨⟨_,_,_,rfl⟩,skip _ (aJ.refl _) (by
     unfold y2
     rw[decide_eq_false (p:=a<=u.1) (λz=>c1 (decide_eq_true (by lia)))]
     simp)⟩
 ·obtain⟨⟨y4,y5,y6,rfl⟩,sH,kvs,hk1,hk2⟩:=z
  rw[ae,hlen,bF]at hk2
  refine⟨_,rfl,_,rfl,_,_,rfl,⟨by ac_rfl,by lia,by ac_rfl,by lia⟩,λD hD=>?_⟩
  have ndD:d≠D:=aA hk1 hD
  refine N8 (lo:=(a:Nat)) (n:=(((b:Nat):Int)-(a:Nat)).toNat) (λj H2=>aJ H' H2/\H2 D=aa (.lst (nI (((bA j).map λi=>a+i).filter λd=>Bp.ib ns a b d))))
   ⟨aJ.upd hD,ag⟩ (λj H2 hj z=>?_) (λH2 z=>?_)
  ·obtain⟨sH2,hDl⟩:=z
   refine⟨rfl,_,rfl,_,rfl,d,_,rfl,uU.k (k:=Sum.inl (((a:Nat):Int)+j)) (sH2 _ _ hk1),_,rfl,?_⟩
   have hc:(!(kb kvs (Sum.inl (((a:Nat):Int)+j))).isSome)=Bp.ib ns a b (a+j):=by
    rw[hk2.is,Ic]
    congr 2
   have ef:(((bA (j+1)).map λi=>a+i).filter λd=>Bp.ib ns a b d)=(((bA j).map λi=>a+i).filter λd=>Bp.ib ns a b d)++if Bp.ib ns a b (a+j)=true then[a+j]else[]:=by
    rw[ot,aB,cB,aU,yB,da,fQ]
   rw[hc,ef]
   cases hcut:Bp.ib ns a b (a+j)with
   |false=>
    refine fM ⟨sH2,?_⟩
    rw[if_neg (by decide),aZ]
    exact hDl
   |true=>
    refine eD ⟨_,rfl,_,hDl,?_,sH2.pC hD,?_⟩
    ·rw[jQ]
     refine eB (bP _ _) ?_
     rw[ae,jq,sizeLine_eq];lia
    ·rw[ag,if_pos rfl,xZ]
     rfl
  ·obtain⟨sH2,hDl⟩:=z
   refine k D H2 (sH.trans sH2) (sH.free hD) ?_
   rw[hDl,show(((b:Nat):Int)-(a:Nat)).toNat=b-a by simp]
   rfl
def SJ:Sp:=λvs H Q _=>ex5 Q λl a b c cs Q=>vs=[.ref l,.int (a:Nat),.int (b:Nat),.int (c:Nat)]/\H l=aa (.lst (nI cs))/\cs.length<=1000/\∀r H',aJ H H'->H r=none->H' r=aa (.lst (nI (if c=a then cs else cs.filter (λd=>decide (c<d))++[b])))->Q (.ref r) H'
theorem wc:aH ["cuts","a","b","first","cut"] ["cuts","a","b","first"] (aq yd):=⟨rfl,rfl,rfl,by decide+kernel,rfl,by decide+kernel,by decide+kernel⟩
theorem AV(T:Tx K mg):bw P w K mg base (du P w) 1 T.n8.f T.n8.fd ["cuts","a","b","first"] SJ:=by
 refine T.n8.fn.okN wc (λvs H Q E zz2=>by obtain⟨_,_,_,_,_,e,_⟩:=zz2;rw[e];rfl) λcdv A outer s H vs Q E hr zz3=>?_
 obtain⟨l,a,b,c,cs,e,hl,hz,k⟩:=zz3
 subst e
 refine⟨_,ao (gi (cI Dn (pv 3) (pv 1) (eE _)) (au (a8 (qL wC rfl T.HN (by decide+kernel) (ab (pv 0) aj)))) cH)
  (au (a8 (cZ AZ (pQ (own:=[("cut",4)]) rfl wc.nd (fJ (pv 0)) (fz (by with_unfolding_all rfl))
    (λ_ _ _ _ _=>cX (i:=4) wc.nd rfl (Or.inl rfl) (.inr rfl)) (λ_ _ _ _ _=>rC (cI Dq (pv 4) (pv 3) (eE _))) (λ_ _ _ _ _=>pv 4)) (d3 (ab (pv 2) aj))))),?_⟩
 refine⟨_,rfl,_,rfl,rfl,_,rfl,?_⟩
 by_cases hca:c=a
 ·refine Kj (by rw[hca]) ?_
  refine eD ⟨_,rfl,l,_,rfl,.inl (cJ.of hl),λr hr'=>k r _ (aJ.upd hr') hr' ?_⟩
  rw[ag,if_pos hca]
 ·refine Kh (λz=>hca (by injection z with z;exact gA.mp z)) ?_
  refine fM ⟨_,rfl,l,rfl,⟨_,cJ.of hl⟩,λD hD=>?_⟩
  refine jG (K:=K) (a:=l) (xs:=nI cs) (λi H'=>aJ H H'/\H' D=aa (.lst (nI ((cs.take i).filter λd=>decide (c<d))))) ⟨aJ.upd hD,ag⟩ (λi H' _ z=>cJ.of (z.1 _ _ hl)) (λi v H' hv z=>?_) (λH' z=>?_)
  ·obtain⟨d,hd,rfl⟩:=x3 hv
   obtain⟨sH,hDl⟩:=z
   refine⟨rfl,_,rfl,_,rfl,_,_,rfl,rfl,_,rfl,?_⟩
   rw[take_snoc hd,cB,da,fQ,show decide (((c:Nat):Int)<((d:Nat):Int))=decide (c<d)from decide_eq_decide.mpr (by simp)]
   by_cases q:c<d
   ·rw[decide_eq_true q]
    refine eD ⟨_,rfl,_,hDl,?_,sH.pC hD,?_⟩
    ·rw[jQ]
     refine eB (bP _ _) ?_
     rw[bH,sizeLine_eq];lia
    ·rw[ag,if_pos rfl,xZ];rfl
   ·rw[decide_eq_false q]
    refine fM ⟨sH,?_⟩
    rw[if_neg (by decide),aZ];exact hDl
  ·obtain⟨sH,hDl⟩:=z
   rw[jQ,bF]at hDl
   refine⟨_,rfl,(by show 1<=sizeLine;decide),λl2 hl2=>?_⟩
   refine⟨D,l2,_,_,rfl,rfl,aJ.upd hl2 _ _ hDl,ag,?_,λr hr'=>?_⟩
   ·rw[jQ]
    have:=bP (λd=>decide (c<d)) cs
    show _+1<=sizeLine
    rw[sizeLine_eq];lia
   ·refine k r _ ((sH.trans (aJ.upd hl2)).trans (aJ.upd hr')) ((sH.trans (aJ.upd (o:=.lst [.int (b:Nat)]) hl2)).free hr') ?_
    rw[ag,if_neg hca,xZ];rfl
end
end Bx
end
section
namespace Bx
open PySem PySem.Spec PyProof.Rows L2
open Vbpcau (State Span)
abbrev Rf(m l dW dR:Addr):List (Str×V):=[("measure",.ref m),("needed",.ref l),("whole",.ref dW),("rest",.ref dR)]
theorem kL(m l dW dR:Addr):bz ("measure":Str) (Rf m l dW dR)=aa (.ref m):=cn _ _ _
theorem uT(m l dW dR:Addr):bz ("needed":Str) (Rf m l dW dR)=aa (.ref l):=by rw[bE _ _ (by decide+kernel),cn]
theorem pw(m l dW dR:Addr):bz ("whole":Str) (Rf m l dW dR)=aa (.ref dW):=by rw[bE _ _ (by decide+kernel),bE _ _ (by decide+kernel),cn]
theorem Fs(m l dW dR:Addr):bz ("rest":Str) (Rf m l dW dR)=aa (.ref dR):=by rw[bE _ _ (by decide+kernel),bE _ _ (by decide+kernel),bE _ _ (by decide+kernel),cn]
theorem yw(m l dW dR:Addr):bz ("row":Str) (Rf m l dW dR)=none:=by rw[bE _ _ (by decide+kernel),bE _ _ (by decide+kernel),bE _ _ (by decide+kernel),bE _ _ (by decide+kernel)];rfl
theorem yu(m l dW dR:Addr):bz ("rows_behind":Str) (Rf m l dW dR)=none:=by rw[bE _ _ (by decide+kernel),bE _ _ (by decide+kernel),bE _ _ (by decide+kernel),bE _ _ (by decide+kernel)];rfl
theorem Rg(m l dW dR:Addr):bz ("fill":Str) (Rf m l dW dR)=none:=by rw[bE _ _ (by decide+kernel),bE _ _ (by decide+kernel),bE _ _ (by decide+kernel),bE _ _ (by decide+kernel)];rfl
abbrev key(a b:Int):List Key:=[Sum.inl a,Sum.inl b]
theorem P6{a b c d:Int}(h:key a b=key c d):a=c/\b=d:=by
 injection h with h1 h2
 injection h2 with h2 _
 exact⟨yF h1,yF h2⟩
structure D0(C MC:Addr)(mfs:List (Str×V))(H:Hp)(x m l dW dR:Addr):Prop where
 ob:∃dx,H x=aa (.ins C dx (Rf m l dW dR))
 me:∃dxm,H m=aa (.ins MC dxm mfs)
theorem D0.same{C MC:Addr}{mfs:List (Str×V)}{H H':Hp}{x m l dW dR:Addr}(h:D0 C MC mfs H x m l dW dR)(s:aJ H H'):D0 C MC mfs H' x m l dW dR:=by
 obtain⟨⟨dx,h1⟩,⟨dxm,h2⟩⟩:=h
 exact⟨⟨dx,s _ _ h1⟩,⟨dxm,s _ _ h2⟩⟩
section
variable{P:Program}{w:World}{K:af}{mg:Str->Option Value}{base:Heap}
def UC(one:Int)(kR:List (List Key×V))(z b v:Int):Prop:=(z=b/\v=one)\/(z≠b/\kb kR (key (z+1) b)=aa (.int v))
def OP(T:Tx K mg)(μ:yD P w K mg base):Sp:=λvs H Q _=>ex9 Q λx m l dW dR kR z b v Q=>vs=[.ref x,.int z,.int b]/\D0 T.bC.C μ.C μ.fs H x m l dW dR/\H dR=aa (.dT kR)/\UC μ.one kR z b v/\∀H',aJ H H'->Q (.int v) H'
theorem u0:aH ["self","last","b"] ["self","last","b"] (aq kF):=⟨rfl,rfl,rfl,by decide+kernel,rfl,by decide+kernel,by decide+kernel⟩
theorem jR(T:Tx K mg)(μ:yD P w K mg base):bw P w K mg base (du P w) 2 T.dH.f T.dH.fd ["self","last","b"] (OP T μ):=by
 refine T.dH.fn.okN u0 (λvs H Q E zz0=>by obtain⟨_,_,_,_,_,_,_,_,_,e,_⟩:=zz0;rw[e];rfl) λcdv A outer s H vs Q E hr zz1=>?_
 obtain⟨x,m,l,dW,dR,kR,z,b,v,e,⟨⟨dx,hx⟩,⟨dxm,hm⟩⟩,hR,hb,k⟩:=zz1
 subst e
 refine⟨_,ao (gi (cI Dn (pv 1) (pv 2) (eE _)) (au (a8 (eu (dvs:=[]) (ds:=[]) (E:=E0) (ba (pv 0) rfl) μ.cl μ.ms.me μ.ms.ok hr μ.ms.bi .nil aP))) cH)
  (au (a8 (uJ (r9 hr) (ba (pv 0) rfl) (iE (ab (cZ gM (pv 1) bj) (ab (pv 2) aj))) (λ_ _=>rfl)))),?_⟩
 refine⟨_,rfl,_,rfl,rfl,_,rfl,?_⟩
 rcases hb with ⟨e,rfl⟩|⟨e,hv⟩
 ·rw[decide_eq_true (by rw[e])]
  refine eD ⟨_,rfl,x,_,dx,_,_,rfl,hx,T.bC.cl,T.bC.no _ (by simp),kL _ _ _ _,m,dxm,_,rfl,hm,μ.ns,m,dxm,rfl,hm,k H (aJ.refl _)⟩
 ·rw[decide_eq_false (λq=>e (by injection q))]
  refine fM ⟨_,rfl,x,_,dx,_,_,rfl,hx,T.bC.cl,T.bC.no _ (by simp),Fs _ _ _ _,_,rfl,_,_,rfl,rfl,_,rfl,(by show 2<=sizeLine;decide),λt ht=>?_⟩
  refine⟨dR,.int v,rfl,?_,k _ (aJ.upd ht)⟩
  rw[<-hv]
  exact uU.t (aJ.upd ht _ _ hR) ag
def Bv(T:Tx K mg)(μ:yD P w K mg base):Sp:=λvs H Q _=>ex12 Q λx m l dW dR kW kR f z b u v Q=>vs=[.ref x,.int f,.int z,.int b]/\D0 T.bC.C μ.C μ.fs H x m l dW dR/\H dW=aa (.dT kW)/\H dR=aa (.dT kR)/\kb kW (key f z)=aa (.int u)/\UC μ.one kR z b v/\μ.si u v/\
 ∀H',aJ H H'->Q (.int (μ.row u v)) H'
theorem G4:aH ["self","first","last","b"] ["self","first","last","b"] (aq vS):=⟨rfl,rfl,rfl,by decide+kernel,rfl,by decide+kernel,by decide+kernel⟩
theorem kY(T:Tx K mg)(μ:yD P w K mg base):bw P w K mg base (du P w) 3 T.gu.f T.gu.fd ["self","first","last","b"] (Bv T μ):=by
 refine T.gu.fn.okN G4 (λvs H Q E zz2=>by obtain⟨_,_,_,_,_,_,_,_,_,_,_,_,e,_⟩:=zz2;rw[e];rfl) λcdv A outer s H vs Q E hr zz3=>?_
 obtain⟨x,m,l,dW,dR,kW,kR,f,z,b,u,v,e,wy,hW,hR,hu,hb,ho,k⟩:=zz3
 subst e
 obtain⟨⟨dx,hx⟩,⟨dxm,hm⟩⟩:=id wy
 refine⟨_,au (a8 (cQ (dvs:=[]) (ds:=[]) (E:=E0) (ba (pv 0) rfl) μ.cl μ.mr.me μ.mr.ok (hr.mono (by decide)) μ.mr.bi .nil aP
  (ab (uJ (r9 hr) (ba (pv 0) rfl) (iE (ab (pv 1) (ab (pv 2) aj))) (λ_ _=>rfl))
    (ab (cQ (dvs:=[]) (ds:=[]) (E:=E0) (pv 0) T.bC.cl T.dH.me (jR T μ) hr T.dH.bi .nil aP (ab (pv 2) (ab (pv 3) aj))) aj)))),?_⟩
 refine⟨_,rfl,x,_,dx,_,_,rfl,hx,T.bC.cl,T.bC.no _ (by simp),kL _ _ _ _,m,dxm,_,rfl,hm,μ.nr,?_⟩
 refine⟨_,rfl,x,_,dx,_,_,rfl,hx,T.bC.cl,T.bC.no _ (by simp),pw _ _ _ _,_,rfl,_,rfl,(by show 2<=sizeLine;decide),λt ht=>?_⟩
 have s1:=aJ.upd (o:=.tup [.int f,.int z]) ht
 refine⟨dW,.int u,rfl,(by rw[<-hu];exact uU.t (s1 _ _ hW) ag),?_⟩
 refine⟨_,rfl,x,dx,_,rfl,s1 _ _ hx,yu _ _ _ _,_,rfl,_,rfl,x,m,l,dW,dR,kR,z,b,v,rfl,wy.same s1,s1 _ _ hR,hb,λH2 s2=>?_⟩
 exact⟨m,dxm,u,v,rfl,s2 _ _ (s1 _ _ hm),ho,k H2 (s1.trans s2)⟩
abbrev rowsOf(μ:yD P w K mg base)(ns:List Span)(W R:Nat->Nat->Int)(a b:Nat):List Int:=(Bp.gn ns a b).map λc=>μ.row (W a c) (R (c+1) b)
abbrev JQ(μ:yD P w K mg base)(ns:List Span)(W R:Nat->Nat->Int)(a b:Nat):List Int:=W a b::if(a,b)∈ns then[]else((Bp.gn ns a b).filter λc=>decide (a<c)).map λc=>μ.row (W a c) (R (c+1) b)
structure Sem(μ:yD P w K mg base)(ns:List Span)(n:Nat)(W R:Nat->Nat->Int):Prop where
 small:∀a b,1<=a->a<=b->b<=n->b<a+2->W a b=μ.one/\R a b=μ.one
 si:∀a b c,1<=a->a+2<=b->b<=n->c∈Bp.gn ns a b->μ.si (W a c) (R (c+1) b)
 Wg:∀a b,1<=a->a+2<=b->b<=n->μ.D9 (rowsOf μ ns W R a b)
 pr:∀a b,1<=a->a+2<=b->b<=n->μ.IS (μ.choice (rowsOf μ ns W R a b))
 wh:∀a b,1<=a->a+2<=b->b<=n->W a b=μ.press (μ.choice (rowsOf μ ns W R a b))
 Wh:∀a b,1<=a->a+2<=b->b<=n->μ.D9 (JQ μ ns W R a b)
 rs:∀a b,1<=a->a+2<=b->b<=n->R a b=μ.choice (JQ μ ns W R a b)
def iZ(u v:Addr)(H H':Hp):Prop:=∀z o,H z=aa o->z≠u->z≠v->H' z=aa o
theorem iZ.of{u v:Addr}{H H':Hp}(s:aJ H H'):iZ u v H H':=λz o e _ _=>s z o e
theorem iZ.trans{u v:Addr}{H H1 H2:Hp}(a:iZ u v H H1)(b:iZ u v H1 H2):iZ u v H H2:=λz o e n1 n2=>b z o (a z o e n1 n2) n1 n2
theorem iZ.UA{u v:Addr}{H:Hp}{o:HO}:iZ u v H (upd H u o):=λz p e n1 _=>by rw[az n1];exact e
theorem iZ.UB{u v:Addr}{H:Hp}{o:HO}:iZ u v H (upd H v o):=λz p e _ n2=>by rw[az n2];exact e
def Sub(kv:List (List Key×V))(F:Nat->Nat->Int)(a b:Nat):Prop:=∀c d:Nat,a<=c->c<=d->d<=b->d-c<b-a->kb kv (key c d)=aa (.int (F c d))
def SM(T:Tx K mg)(μ:yD P w K mg base)(ns:List Span)(n:Nat)(W R:Nat->Nat->Int):Sp:=λvs H Q _=>ex9 Q λ(x m l dW dR:Addr)(kW kR:List (List Key×V))(a b:Nat) Q=>vs=[.ref x,.int (a:Nat),.int (b:Nat)]/\D0 T.bC.C μ.C μ.fs H x m l dW dR/\qz H l ns/\
 H dW=aa (.dT kW)/\H dR=aa (.dT kR)/\dW≠dR/\kW.length<=999/\kR.length<=999/\1<=a/\a<=b/\b<=n/\Sub kW W a b/\Sub kR R a b/\
 ∀H',H' dW=aa (.dT (putK kW (key a b) (.int (W a b))))->H' dR=aa (.dT (putK kR (key a b) (.int (R a b))))->iZ dW dR H H'->Q .iD H'
theorem gY:aH ["self","a","b","cuts","rows","cut","behind","row"] ["self","a","b"] (aq tS):=⟨rfl,rfl,rfl,by decide+kernel,rfl,by decide+kernel,by decide+kernel⟩
theorem EB(T:Tx K mg)(μ:yD P w K mg base){ns:List Span}{n:Nat}{W R:Nat->Nat->Int}(S:Sem μ ns n W R)(hn:n<=24)(hfew:ns.length<=12)(hin:∀s∈ns,s.1<=24/\s.2<=24):
  bw P w K mg base (du P w) 4 T.qC.f T.qC.fd ["self","a","b"] (SM T μ ns n W R):=by
 refine T.qC.fn.okN gY (λvs H Q E zz4=>by obtain⟨_,_,_,_,_,_,_,_,_,e,_⟩:=zz4;rw[e];rfl) λcdv A outer s H vs Q E hr zz5=>?_
 obtain⟨x,m,l,dW,dR,kW,kR,a,b,e,wy,⟨as,hl,hp⟩,hW,hR,hd,zW,zR,ha,hab,hb,sW,sR,k⟩:=zz5
 subst e
 obtain⟨⟨dx,hx⟩,⟨dxm,hm⟩⟩:=id wy
 have xW:x≠dW:=eI hx hW (by intro z;cases z)
 have xR:x≠dR:=eI hx hR (by intro z;cases z)
 have mW:m≠dW:=eI hm hW (by intro z;cases z)
 have mR:m≠dR:=eI hm hR (by intro z;cases z)
 have lW:l≠dW:=eI hl hW (by intro z;cases z)
 have lR:l≠dR:=eI hl hR (by intro z;cases z)
 refine⟨_,ao (gi (cI sh (cZ nE (pv 2) (pv 1)) bj (eE _))
   (ao (w8 (r9 hr) (ba (pv 0) rfl) (iE (ab (pv 1) (ab (pv 2) aj))) (eu (dvs:=[]) (ds:=[]) (E:=E0) (ba (pv 0) rfl) μ.cl μ.ms.me μ.ms.ok (hr.mono (by decide)) μ.ms.bi .nil aP) rfl)
   (ao (w8 (r9 hr) (ba (pv 0) rfl) (iE (ab (pv 1) (ab (pv 2) aj))) (eu (dvs:=[]) (ds:=[]) (E:=E0) (ba (pv 0) rfl) μ.cl μ.ms.me μ.ms.ok (hr.mono (by decide)) μ.ms.bi .nil aP) rfl)
   (au Qx))) cH)
  (ao (bK (i:=3) gY.nd rfl (Or.inl rfl) (bb (dvs:=[]) (ds:=[]) (vM T) (hr.mono (by decide)) rfl T.ke.mg T.ke.kp T.ke.bi .nil aP (ab (ba (pv 0) rfl) (ab (pv 1) (ab (pv 2) aj)))))
  (ao (A7 (i:=4) (te:=BE T.bC.C "row" (Bv T μ) [] E0 (fN 0) (gJ (fN 1) (gJ (fN 5) (gJ (fN 2) mq)))) (own:=[("cut",5)]) rfl gY.nd rfl rfl (Fi rfl rfl rfl rfl) (fJ (pv 3)) (fz (by with_unfolding_all rfl))
    (λ_ _ _ _ _=>cX (i:=5) gY.nd rfl (Or.inl rfl) (.inr rfl)) (λ_ _ _ _ _=>mB)
    (λ_ _ _ _ _=>cQ (dvs:=[]) (ds:=[]) (E:=E0) (pv 0) T.bC.cl T.gu.me (kY T μ) hr T.gu.bi .nil aP (ab (pv 1) (ab (pv 5) (ab (pv 2) aj)))))
  (ao (w8 (r9 hr) (ba (pv 0) rfl) (iE (ab (pv 1) (ab (pv 2) aj)))
    (cQ (dvs:=[]) (ds:=[]) (E:=E0) (ba (pv 0) rfl) μ.cl μ.mp.me μ.mp.ok (hr.mono (by decide)) μ.mp.bi .nil aP (ab (cQ (dvs:=[]) (ds:=[]) (E:=E0) (ba (pv 0) rfl) μ.cl μ.mc.me μ.mc.ok (hr.mono (by decide)) μ.mc.bi .nil aP (ab (pv 4) aj)) aj)) rfl)
  (ao (bK (i:=6) gY.nd rfl (Or.inl rfl) (d3 (ab (uJ (r9 hr) (ba (pv 0) rfl) (iE (ab (pv 1) (ab (pv 2) aj))) (λ_ _=>rfl)) aj)))
  (ao (gi (cI (Dr (NY hr)) (iE (ab (pv 1) (ab (pv 2) aj))) (ba (pv 0) rfl) rfl)
    (au (cw (vm cq eM hU uF (pv 6) (ab
      (pQ (g:=RU K 2 (F9 (yQ 5) (F9 (yQ 7) RT))) (own:=[("cut",5),("row",7)]) rfl gY.nd (Su rfl T.Tz (ab (pv 3) (ab (pv 4) aj))) (fz (by with_unfolding_all rfl))
        (λ_ _ _ _ _=>IM rfl (qN (cX (i:=5) gY.nd rfl (Or.inl rfl) (.inr rfl)) (qN (cX (i:=7) gY.nd rfl (Or.inl rfl) (.inr rfl)) EI)))
        (λ_ _ _ _ _=>rC (cI Dq (pv 5) (pv 1) (eE _))) (λ_ _ _ _ _=>pv 7)) aj)))) cH)
  (au (w8 (r9 hr) (ba (pv 0) rfl) (iE (ab (pv 1) (ab (pv 2) aj))) (cQ (dvs:=[]) (ds:=[]) (E:=E0) (ba (pv 0) rfl) μ.cl μ.mc.me μ.mc.ok (hr.mono (by decide)) μ.mc.bi .nil aP (ab (pv 6) aj)) rfl))))))),?_⟩
 refine⟨_,rfl,_,rfl,_,_,rfl,rfl,_,_,rfl,rfl,_,rfl,?_⟩
 by_cases hsm:b<a+2
 ·rw[decide_eq_true (by lia:((b:Nat):Int)-(a:Nat)<2)]
  obtain⟨e1,e2⟩:=S.small a b ha hab hb hsm
  rw[e1,e2]at k
  refine eD ?_
  refine⟨_,rfl,x,_,dx,_,_,rfl,hx,T.bC.cl,T.bC.no _ (by simp),kL _ _ _ _,m,dxm,_,rfl,hm,μ.ns,m,dxm,rfl,hm,?_⟩
  refine⟨_,rfl,x,_,dx,_,_,rfl,hx,T.bC.cl,T.bC.no _ (by simp),pw _ _ _ _,_,rfl,_,rfl,(by show 2<=sizeLine;decide),λt ht=>?_⟩
  have s1:=aJ.upd (o:=.tup [.int (a:Nat),.int (b:Nat)]) ht
  refine⟨dW,_,rfl,Aa.t (k:=key a b) (s1 _ _ hW) ag (by rw[sizeLine_eq];lia),?_⟩
  generalize hH1:upd (upd H t (.tup [.int (a:Nat),.int (b:Nat)])) dW (.dT (putK kW (key a b) (.int μ.one)))=H1
  have k1:iZ dW dR H H1:=by rw[<-hH1];exact(iZ.of s1).trans iZ.UA
  have hW1:H1 dW=aa (.dT (putK kW (key a b) (.int μ.one))):=by rw[<-hH1,ag]
  have hR1:H1 dR=aa (.dT kR):=by rw[<-hH1,az hd.symm];exact s1 _ _ hR
  refine⟨_,rfl,x,_,dx,_,_,rfl,k1 _ _ hx xW xR,T.bC.cl,T.bC.no _ (by simp),kL _ _ _ _,m,dxm,_,rfl,k1 _ _ hm mW mR,μ.ns,m,dxm,rfl,k1 _ _ hm mW mR,?_⟩
  refine⟨_,rfl,x,_,dx,_,_,rfl,k1 _ _ hx xW xR,T.bC.cl,T.bC.no _ (by simp),Fs _ _ _ _,_,rfl,_,rfl,(by show 2<=sizeLine;decide),λt2 ht2=>?_⟩
  have s2:=aJ.upd (o:=.tup [.int (a:Nat),.int (b:Nat)]) ht2
  refine⟨dR,_,rfl,Aa.t (k:=key a b) (s2 _ _ hR1) ag (by rw[sizeLine_eq];lia),?_⟩
  exact k _ (by rw[az hd];exact s2 _ _ hW1) ag ((k1.trans (iZ.of s2)).trans iZ.UB)
 ·rw[decide_eq_false (by lia:¬((b:Nat):Int)-(a:Nat)<2)]
  have hab2:a+2<=b:=by ac_rfl
  refine fM ?_
  have hn24:a<=24/\b<=24:=by lia
  refine⟨_,rfl,x,_,dx,_,_,rfl,hx,T.bC.cl,T.bC.no _ (by simp),uT _ _ _ _,_,rfl,_,rfl,l,a,b,ns,rfl,⟨as,hl,hp⟩,hfew,hin,hn24,λr H1 s1 hrn hr1=>?_⟩
  generalize hcs:Bp.gn ns a b=cs at hr1
  have mem:∀c∈cs,a<=c/\c<b:=λc hc=>by rw[<-hcs]at hc;have:=Bp.d9.mp hc;exact⟨this.1,this.2.1⟩
  have hcl:cs.length<=24:=by
   rw[<-hcs]
   unfold Bp.gn
   refine aX (bP _ _) ?_
   rw[ae,jq];lia
  have rok:∀c∈cs,μ.si (W a c) (R (c+1) b):=λc hc=>S.si a b c ha hab2 hb (by rw[hcs];exact hc)
  refine⟨_,rfl,r,rfl,⟨_,cJ.of hr1⟩,λD hD=>?_⟩
  refine jG (K:=K) (a:=r) (xs:=nI cs) (λi H'=>aJ H1 H'/\H' D=aa (.lst (((cs.take i).map λc=>μ.row (W a c) (R (c+1) b)).map V.int))) ⟨aJ.upd hD,ag⟩ (λi H' _ z=>cJ.of (z.1 _ _ hr1)) (λi v H' hv z=>?_) (λH2 z=>?_)
  ·obtain⟨c,hc,rfl⟩:=x3 hv
   obtain⟨sH,hDl⟩:=z
   have hm':=bY hc
   obtain⟨c1,c2⟩:=mem c hm'
   have sA:=s1.trans sH
   have vW:kb kW (key (a:Nat) (c:Nat))=aa (.int (W a c)):=sW a c (ah _) c1 (by ac_rfl) (by omega)
   have vR:kb kR (key ((c:Nat)+1) (b:Nat))=aa (.int (R (c+1) b)):=sR (c+1) b (by ac_rfl) (by assumption) (ah _) (by omega)
   refine⟨rfl,_,rfl,x,dx,_,rfl,sA _ _ hx,yw _ _ _ _,_,rfl,_,rfl,_,rfl,x,m,l,dW,dR,kW,kR,_,_,_,_,_,rfl,wy.same sA,sA _ _ hW,sA _ _ hR,vW,.inr ⟨by lia,vR⟩,rok c hm',λH3 s3=>?_⟩
   refine⟨_,s3 _ _ hDl,?_,(sH.trans s3).pC hD,?_⟩
   ·rw[ae,ae,bH,sizeLine_eq];lia
   ·rw[ag,take_snoc hc,aB,aB];rfl
  ·obtain⟨sH2,hDl⟩:=z
   rw[jQ,bF]at hDl
   have sA:=s1.trans sH2
   have hrows:(cs.map λc=>μ.row (W a c) (R (c+1) b))=rowsOf μ ns W R a b:=by rw[<-hcs]
   rw[hrows]at hDl
   refine⟨_,rfl,x,_,dx,_,_,rfl,sA _ _ hx,T.bC.cl,T.bC.no _ (by simp),kL _ _ _ _,m,dxm,_,rfl,sA _ _ hm,μ.np,
    _,rfl,x,_,dx,_,_,rfl,sA _ _ hx,T.bC.cl,T.bC.no _ (by simp),kL _ _ _ _,m,dxm,_,rfl,sA _ _ hm,μ.nc,_,rfl,m,dxm,D,_,rfl,sA _ _ hm,cJ.of hDl,S.Wg a b ha hab2 hb,
    m,dxm,_,rfl,sA _ _ hm,S.pr a b ha hab2 hb,?_⟩
   rw[<-S.wh a b ha hab2 hb]
   refine⟨_,rfl,x,_,dx,_,_,rfl,sA _ _ hx,T.bC.cl,T.bC.no _ (by simp),pw _ _ _ _,_,rfl,_,rfl,(by show 2<=sizeLine;decide),λt ht=>?_⟩
   have s3:=aJ.upd (o:=.tup [.int (a:Nat),.int (b:Nat)]) ht
   refine⟨dW,_,rfl,Aa.t (k:=key a b) (s3 _ _ (sA _ _ hW)) ag (by rw[sizeLine_eq];lia),?_⟩
   have DW:D≠dW:=eI hDl (sA _ _ hW) (by intro z;cases z)
   have rW:r≠dW:=eI hr1 (s1 _ _ hW) (by intro z;cases z)
   generalize hH3:upd (upd H2 t (.tup [.int (a:Nat),.int (b:Nat)])) dW (.dT (putK kW (key a b) (.int (W a b))))=H3
   have k3:iZ dW dR H H3:=by rw[<-hH3];exact(iZ.of (sA.trans s3)).trans iZ.UA
   have hW3:H3 dW=aa (.dT (putK kW (key a b) (.int (W a b)))):=by rw[<-hH3,ag]
   have hR3:H3 dR=aa (.dT kR):=by rw[<-hH3,az hd.symm];exact s3 _ _ (sA _ _ hR)
   have hD3:H3 D=aa (.lst ((rowsOf μ ns W R a b).map V.int)):=by rw[<-hH3,az DW];exact s3 _ _ hDl
   have hr3:H3 r=aa (.lst (nI cs)):=by rw[<-hH3,az rW];exact s3 _ _ (sH2 _ _ hr1)
   have hx3:=k3 _ _ hx xW xR
   have hm3:=k3 _ _ hm mW mR
   have hl3:=k3 _ _ hl lW lR
   have hp3:pW H3 as (ns.map bQ):=hp.same λc xs q=>k3 _ _ q (eI q hW (by intro z;cases z)) (eI q hR (by intro z;cases z))
   clear hH3
   refine⟨_,rfl,x,_,dx,_,_,rfl,hx3,T.bC.cl,T.bC.no _ (by simp),pw _ _ _ _,_,rfl,_,rfl,(by show 2<=sizeLine;decide),λt4 ht4=>?_⟩
   have s4:=aJ.upd (o:=.tup [.int (a:Nat),.int (b:Nat)]) ht4
   refine⟨dW,.int (W a b),rfl,?_,?_⟩
   ·have:=uU.t (k:=key a b) (s4 _ _ hW3) (ag (o:=.tup [.int (a:Nat),.int (b:Nat)]))
    rw[BJ,if_pos rfl]at this
    exact this
   refine⟨(by show 1<=sizeLine;decide),λlb hlb=>?_⟩
   have s5:=s4.trans (aJ.upd (o:=.lst [.int (W a b)]) hlb)
   have hlb3:H3 lb=none:=s4.free hlb
   generalize hH5:upd (upd H3 t4 (.tup [.int (a:Nat),.int (b:Nat)])) lb (.lst [.int (W a b)])=H5 at s5
   have hlb5:H5 lb=aa (.lst [.int (W a b)]):=by rw[<-hH5,ag]
   clear hH5
   refine⟨_,rfl,_,rfl,(by show 2<=sizeLine;decide),λt6 ht6=>?_⟩
   have s6:=s5.trans (aJ.upd (o:=.tup [.int (a:Nat),.int (b:Nat)]) ht6)
   have hlb6:=aJ.upd (o:=.tup [.int (a:Nat),.int (b:Nat)]) ht6 _ _ hlb5
   refine⟨_,rfl,x,_,dx,_,_,rfl,s6 _ _ hx3,T.bC.cl,T.bC.no _ (by simp),uT _ _ _ _,t6,l,as,_,bQ (a,b),rfl,rfl,ag,cJ.of (s6 _ _ hl3),s6.Rt hp3,_,rfl,?_⟩
   have fin:∀(H7:Hp)(bs:List Int),aJ H3 H7\/(∀z o,H3 z=aa o->H7 z=aa o)->H7 lb=aa (.lst (bs.map V.int))->bs=JQ μ ns W R a b->
     ∀σ,(∃y3 y4 y5 y7,σ=[aa (.ref x),aa (.int (a:Nat)),aa (.int (b:Nat)),y3,y4,y5,aa (.ref lb),y7])->
     Rv (BD K (fN 0) "rest") (S9 (gJ (fN 1) (gJ (fN 2) mq))) (BE μ.C "choice" (Um K μ.C μ.fs μ.D9 μ.choice) [] E0 (BD K (fN 0) "measure") (gJ (fN 6) mq)) {nx:=λ_ H'=>Q .iD H',rt:=Q} σ H7:=by
    rintro H7 bs sk hlb7 hbs σ ⟨y3,y4,y5,y7,rfl⟩
    have s7:aJ H3 H7:=sk.elim id id
    subst hbs
    refine⟨_,rfl,x,_,dx,_,_,rfl,s7 _ _ hx3,T.bC.cl,T.bC.no _ (by simp),kL _ _ _ _,m,dxm,_,rfl,s7 _ _ hm3,μ.nc,_,rfl,m,dxm,lb,_,rfl,s7 _ _ hm3,cJ.of hlb7,S.Wh a b ha hab2 hb,?_⟩
    rw[<-S.rs a b ha hab2 hb]
    refine⟨_,rfl,x,_,dx,_,_,rfl,s7 _ _ hx3,T.bC.cl,T.bC.no _ (by simp),Fs _ _ _ _,_,rfl,_,rfl,(by show 2<=sizeLine;decide),λt8 ht8=>?_⟩
    have s8:=aJ.upd (o:=.tup [.int (a:Nat),.int (b:Nat)]) ht8
    refine⟨dR,_,rfl,Aa.t (k:=key a b) (s8 _ _ (s7 _ _ hR3)) ag (by rw[sizeLine_eq];lia),?_⟩
    exact k _ (by rw[az hd];exact s8 _ _ (s7 _ _ hW3)) ag ((k3.trans (iZ.of (s7.trans s8))).trans iZ.UB)
   by_cases hmem:(a,b)∈ns
   ·rw[show(if true=true then !decide (bQ (a,b)∈ns.map bQ)else decide (bQ (a,b)∈ns.map bQ))=false by rw[if_pos rfl,decide_eq_true (kX.mpr hmem)];rfl]
    refine fM (fin _ [W a b] (.inl s6) hlb6 ?_ _ ⟨_,_,_,_,rfl⟩)
    show _=W a b::(if(a,b)∈ns then[]else _)
    rw[if_pos hmem]
   ·rw[show(if true=true then !decide (bQ (a,b)∈ns.map bQ)else decide (bQ (a,b)∈ns.map bQ))=true by rw[if_pos rfl,decide_eq_false (λz=>hmem (kX.mp z))];rfl]
    refine eD ?_
    generalize hH6:upd H5 t6 (.tup [.int (a:Nat),.int (b:Nat)])=H6 at s6 hlb6
    clear hH6
    refine⟨_,rfl,.inl ⟨rfl,_,cJ.of hlb6⟩,_,rfl,_,rfl,r,D,_,_,rfl,cJ.of (s6 _ _ hr3),cJ.of (s6 _ _ hD3),λD2 hD2=>?_⟩
    have hlen:(nI cs).length=((rowsOf μ ns W R a b).map V.int).length:=by rw[jQ,ae,<-hrows,ae]
    refine R9 (K:=K) (a:=r) (b:=D) (xs:=nI cs) (ys:=(rowsOf μ ns W R a b).map V.int) (λi H'=>aJ H6 H'/\H' D2=aa (.lst ((((cs.take i).filter λc=>decide (a<c)).map λc=>μ.row (W a c) (R (c+1) b)).map V.int)))
     hlen ⟨aJ.upd hD2,ag⟩ (λi H' _ z=>⟨cJ.of (z.1 _ _ (s6 _ _ hr3)),cJ.of (z.1 _ _ (s6 _ _ hD3))⟩) (λi v u H' T' hv hu z hT'=>?_) (λH7 z=>?_)
    ·obtain⟨c,hc,rfl⟩:=x3 hv
     obtain⟨sH,hDl2⟩:=z
     obtain⟨ru,hru,rfl⟩:=ints_get hu
     have eru:ru=μ.row (W a c) (R (c+1) b):=by
      rw[<-hrows,aS,hc]at hru
      exact(bq hru).symm
     subst eru
     have sT:=aJ.upd (o:=.tup [.int (c:Nat),.int (μ.row (W a c) (R (c+1) b))]) hT'
     refine⟨T',_,rfl,vb.of ag,rfl,_,_,rfl,_,_,rfl,rfl,rfl,_,rfl,_,rfl,_,_,rfl,rfl,_,rfl,?_⟩
     rw[take_snoc hc,cB,da,fQ,show decide (((a:Nat):Int)<((c:Nat):Int))=decide (a<c)from decide_eq_decide.mpr (by simp)]
     by_cases q:a<c
     ·rw[decide_eq_true q]
      refine eD ⟨_,rfl,_,sT _ _ hDl2,?_,(sH.trans sT).pC hD2,?_⟩
      ·rw[ae,ae]
       refine eB (bP _ _) ?_
       rw[bH,sizeLine_eq];lia
      ·rw[ag,if_pos rfl,aB,aB];rfl
     ·rw[decide_eq_false q]
      refine fM ⟨sH.trans sT,?_⟩
      rw[if_neg (by decide),aZ];exact sT _ _ hDl2
    ·obtain⟨sH,hDl2⟩:=z
     rw[jQ,bF]at hDl2
     have hlb7:=sH _ _ hlb6
     have nlb:lb≠D2:=aA hlb6 hD2
     refine⟨lb,D2,_,_,rfl,rfl,hlb7,hDl2,?_,?_⟩
     ·rw[ae,ae]
      have:=bP (λc=>decide (a<c)) cs
      show 1+_<=sizeLine
      rw[sizeLine_eq];lia
     ·refine fin _ (W a b::((cs.filter λc=>decide (a<c)).map λc=>μ.row (W a c) (R (c+1) b))) (.inr λz o e=>?_) ?_ ?_ _ ⟨_,_,_,_,rfl⟩
      ·rw[az (aA e hlb3)];exact sH _ _ (s6 _ _ e)
      ·rw[ag];rfl
      ·show _=W a b::(if(a,b)∈ns then[]else _)
       rw[if_neg hmem,hcs]
end
end Bx
end
section
namespace Bx
open PySem PySem.Spec PyProof.Rows L2
open Vbpcau (State Span)
section
variable{P:Program}{w:World}{K:af}{mg:Str->Option Value}{base:Heap}
def AllIn(kv:List (List Key×V))(F:Nat->Nat->Int)(n:Nat):Prop:=∀a b:Nat,1<=a->a<=b->b<=n->kb kv (key a b)=aa (.int (F a b))
def eQ(T:Tx K mg)(μ:yD P w K mg base)(ns:List Span)(n:Nat)(W R:Nat->Nat->Int)(H:Hp)(x:Addr):Prop:=∃m l dW dR kW kR,D0 T.bC.C μ.C μ.fs H x m l dW dR/\qz H l ns/\H dW=aa (.dT kW)/\H dR=aa (.dT kR)/\AllIn kW W n/\AllIn kR R n
theorem eQ.same{T:Tx K mg}{μ:yD P w K mg base}{ns:List Span}{n:Nat}{W R:Nat->Nat->Int}{H H':Hp}{x:Addr}(h:eQ T μ ns n W R H x)(s:aJ H H'):eQ T μ ns n W R H' x:=by
 obtain⟨m,l,dW,dR,kW,kR,h1,h2,h3,h4,h5,h6⟩:=h
 exact⟨m,l,dW,dR,kW,kR,h1.same s,h2.same s,s _ _ h3,s _ _ h4,h5,h6⟩
def we(T:Tx K mg)(μ:yD P w K mg base)(ns:List Span)(n:Nat)(W R:Nat->Nat->Int):Sp:=λvs H Q _=>ex5 Q λx dx m dxm b Q=>vs=[.ref x,.ref m,.ref b]/\H x=aa (.ins T.bC.C dx [])/\H m=aa (.ins μ.C dxm μ.fs)/\x≠m/\x≠b/\jb T.aL.C H b ⟨n,ns⟩/\
 ∀H',eQ T μ ns n W R H' x->sI x H H'->Q .iD H'
theorem rN:aH ["self","measure","board","size","a"] ["self","measure","board"] (aq tT):=⟨rfl,rfl,rfl,by decide+kernel,rfl,by decide+kernel,by decide+kernel⟩
structure Done(kv:List (List Key×V))(F:Nat->Nat->Int)(n i j:Nat):Prop where
 is:∀c d:Nat,1<=c->c<=d->d<=n->(d-c<i\/(d-c=i/\c<=j))->kb kv (key c d)=aa (.int (F c d))
 len:kv.length<=24*i+j
theorem Done.put{kv:List (List Key×V)}{F:Nat->Nat->Int}{n i j:Nat}(h:Done kv F n i j):Done (putK kv (key ((1+j:Nat):Int) ((1+j+i:Nat):Int)) (.int (F (1+j) (1+j+i)))) F n i (j+1):=by
 refine⟨λc d h1 h2 h3 h4=>?_,?_⟩
 ·rw[BJ]
  by_cases q:c=1+j/\d=1+j+i
  ·obtain⟨rfl,rfl⟩:=q
   rw[if_pos rfl]
  ·rw[if_neg (λz=>q (by have:=P6 z;omega))]
   exact h.is c d h1 h2 h3 (by lia)
 ·have:=pI kv (key ((1+j:Nat):Int) ((1+j+i:Nat):Int)) (.int (F (1+j) (1+j+i)))
  have:=h.len
  lia
theorem lH(T:Tx K mg)(μ:yD P w K mg base){ns:List Span}{n:Nat}{W R:Nat->Nat->Int}(S:Sem μ ns n W R)(hn:n<=24)(hfew:ns.length<=12)(hin:∀s∈ns,s.1<=24/\s.2<=24):
  bw P w K mg base (du P w) 5 T.gm.f T.gm.fd ["self","measure","board"] (we T μ ns n W R):=by
 refine T.gm.fn.okN rN (λvs H Q E zz0=>by obtain⟨_,_,_,_,_,e,_⟩:=zz0;rw[e];rfl) λcdv A outer s H vs Q E hr zz1=>?_
 obtain⟨x,dx,m,dxm,b,e,hx,hm,xm,xb,⟨dxb,l,hb,as,hl,hp⟩,k⟩:=zz1
 subst e
 refine⟨_,ao (hZ (pv 0) (pv 1) rfl) (ao (hZ (pv 0) (ba (pv 2) rfl) rfl) (ao (hZ (pv 0) GR rfl) (ao (hZ (pv 0) GR rfl)
  (au (p8 dw rfl (uK rfl T.wz (ab bj (ab (cZ gM (ba (pv 2) rfl) bj) aj))) (cX (i:=3) rN.nd rfl (Or.inl rfl))
    (au (p8 dw rfl (uK rfl T.wz (ab bj (ab (cZ gM (cZ nE (ba (pv 2) rfl) (pv 3)) bj) aj))) (cX (i:=4) rN.nd rfl (Or.inl rfl))
      (au (cw (cQ (dvs:=[]) (ds:=[]) (E:=E0) (pv 0) T.bC.cl T.qC.me (EB T μ S hn hfew hin) hr T.qC.bi .nil aP (ab (pv 4) (ab (cZ nE (cZ gM (pv 4) (pv 3)) bj) aj))))))))))))
  ,?_⟩
 have xl:x≠l:=eI hx hl (by intro z;cases z)
 have en:({n:=n,needs:=ns}:State).n=n:=rfl
 refine⟨_,rfl,_,rfl,x,_,dx,_,rfl,hx,T.bC.cl,T.bC.no _ (by simp),(by show 0<1000;decide),?_⟩
 have b1:sI x H (upd H x (.ins T.bC.C dx (pB ("measure":Str) (.ref m) []))):=sI.upd sI.refl
 refine⟨_,rfl,b,_,dxb,_,_,rfl,b1 _ _ hb xb.symm,T.aL.cl,T.aL.no _ (by simp),dX _ _,_,rfl,x,_,dx,_,rfl,ag,T.bC.cl,T.bC.no _ (by simp),(by show 1<1000;decide),?_⟩
 rw[ik,gX,dn _ _ _ (by decide+kernel),gX]
 refine λdW hdW=>?_
 have xW:x≠dW:=aA ag hdW
 refine⟨_,rfl,x,_,dx,_,rfl,(by rw[az xW,ag]),T.bC.cl,T.bC.no _ (by simp),(by show 2<1000;decide),?_⟩
 rw[dn _ _ _ (by decide+kernel),dn _ _ _ (by decide+kernel),gX]
 refine λdR hdR=>?_
 have xR:x≠dR:=aA ag hdR
 have WR:dW≠dR:=aA (by rw[az xW.symm,ag]) hdR
 refine⟨_,rfl,x,_,dx,_,rfl,(by rw[az xR,ag]),T.bC.cl,T.bC.no _ (by simp),(by show 3<1000;decide),?_⟩
 rw[dn _ _ _ (by decide+kernel),dn _ _ _ (by decide+kernel),dn _ _ _ (by decide+kernel),gX]
 have nW:H dW=none:=by rw[az xW.symm]at hdW;exact hdW
 have nR:H dR=none:=by rw[az xR.symm,az WR.symm,az xR.symm]at hdR;exact hdR
 generalize hH1:upd (upd (upd (upd (upd H x (.ins T.bC.C dx [("measure",.ref m),("needed",.ref l)])) dW (.dT [])) x (.ins T.bC.C dx [("measure",.ref m),("needed",.ref l),("whole",.ref dW)])) dR (.dT [])) x (.ins T.bC.C dx [("measure",.ref m),("needed",.ref l),("whole",.ref dW),("rest",.ref dR)])=H1
 have hx1:H1 x=aa (.ins T.bC.C dx (Rf m l dW dR)):=by rw[<-hH1,ag]
 have hW1:H1 dW=aa (.dT []):=by rw[<-hH1,az xW.symm,az WR,az xW.symm,ag]
 have hR1:H1 dR=aa (.dT []):=by rw[<-hH1,az xR.symm,ag]
 have bt:sI x H H1:=λa o e n=>by
  rw[<-hH1,az n,az (aA e nR),az n,az (aA e nW),az n];exact e
 clear hH1 hdW hdR b1
 have hm1:=bt _ _ hm xm.symm
 have hb1:=bt _ _ hb xb.symm
 have hl1:=bt _ _ hl xl.symm
 have hp1:pW H1 as (ns.map bQ):=hp.same λc xs q=>bt _ _ q (eI q hx (by intro z;cases z))
 have mW:m≠dW:=eI hm1 hW1 (by intro z;cases z)
 have mR:m≠dR:=eI hm1 hR1 (by intro z;cases z)
 have bW:b≠dW:=eI hb1 hW1 (by intro z;cases z)
 have bR:b≠dR:=eI hb1 hR1 (by intro z;cases z)
 have lW:l≠dW:=eI hl1 hW1 (by intro z;cases z)
 have lR:l≠dR:=eI hl1 hR1 (by intro z;cases z)
 have pK:∀{H2:Hp},iZ dW dR H1 H2->pW H2 as (ns.map bQ):=λk2=>hp1.same λc xs q=>k2 _ _ q (eI q hW1 (by intro z;cases z)) (eI q hR1 (by intro z;cases z))
 refine⟨_,rfl,b,_,dxb,_,_,rfl,hb1,T.aL.cl,T.aL.no _ (by simp),cn _ _ _,_,_,rfl,rfl,_,_,rfl,⟨by ac_rfl,by decide,by ac_rfl,by lia⟩,xQ (lo:=1) (n:=(((n:Nat):Int)+1-1).toNat)
  (λi σ H2=>(∃y3 y4,σ=[aa (.ref x),aa (.ref m),aa (.ref b),y3,y4])/\iZ dW dR H1 H2/\∃kW kR,H2 dW=aa (.dT kW)/\H2 dR=aa (.dT kR)/\Done kW W n i 0/\Done kR R n i 0)
  ⟨⟨_,_,rfl⟩,iZ.of (aJ.refl _),[],[],hW1,hR1,⟨λc d _ _ _ h=>by lia,ah _⟩,⟨λc d _ _ _ h=>by lia,ah _⟩⟩ (λi σ H2 hi z=>?_) (λσ H2 z=>?_)⟩
 ·obtain⟨⟨y3,y4,rfl⟩,k2,kW,kR,hW2,hR2,dnW,dnR⟩:=z
  refine⟨_,rfl,b,_,dxb,_,_,rfl,k2 _ _ hb1 bW bR,T.aL.cl,T.aL.no _ (by simp),cn _ _ _,_,rfl,_,_,rfl,rfl,_,_,rfl,rfl,_,_,rfl,⟨by ac_rfl,by decide,by lia,by lia⟩,xQ (lo:=1) (n:=(((n:Nat):Int)-(1+(i:Nat))+2-1).toNat)
   (λj σ H3=>(∃y4,σ=[aa (.ref x),aa (.ref m),aa (.ref b),aa (.int (1+(i:Nat))),y4])/\iZ dW dR H1 H3/\∃kW kR,H3 dW=aa (.dT kW)/\H3 dR=aa (.dT kR)/\Done kW W n i j/\Done kR R n i j)
   ⟨⟨_,rfl⟩,k2,kW,kR,hW2,hR2,dnW,dnR⟩ (λj σ H3 hj z=>?_) (λσ H3 z=>?_)⟩
  ·obtain⟨⟨y4,rfl⟩,k3,kW3,kR3,hW3,hR3,dW3,dR3⟩:=z
   have ej:(1:Int)+(j:Nat)=((1+j:Nat):Int):=by rfl
   have ei:(1:Int)+(j:Nat)+(1+(i:Nat))-1=((1+j+i:Nat):Int):=by lia
   refine⟨_,rfl,x,dx,_,rfl,k3 _ _ hx1 xW xR,Rg _ _ _ _,_,rfl,_,rfl,_,rfl,_,_,rfl,rfl,_,_,rfl,rfl,?_⟩
   refine⟨x,m,l,dW,dR,kW3,kR3,1+j,1+j+i,(by rw[<-ej,<-ei];rfl),⟨⟨dx,k3 _ _ hx1 xW xR⟩,⟨dxm,k3 _ _ hm1 mW mR⟩⟩,⟨as,k3 _ _ hl1 lW lR,pK k3⟩,hW3,hR3,WR,?_,?_,by ac_rfl,by ac_rfl,by lia,λc d h1 h2 h3 h4=>dW3.is c d (by lia) h2 (by lia) (.inl (by lia)),λc d h1 h2 h3 h4=>dR3.is c d (by lia) h2 (by lia) (.inl (by lia)),λH4 e1 e2 k4=>?_⟩
   ·have:=dW3.len;lia
   ·have:=dR3.len;lia
   ·exact⟨⟨_,rfl⟩,k3.trans k4,_,_,e1,e2,dW3.put,dR3.put⟩
  ·obtain⟨⟨y4,rfl⟩,k3,kW3,kR3,hW3,hR3,dW3,dR3⟩:=z
   refine⟨⟨_,_,rfl⟩,k3,kW3,kR3,hW3,hR3,⟨λc d h1 h2 h3 h4=>dW3.is c d h1 h2 h3 (by lia),?_⟩,⟨λc d h1 h2 h3 h4=>dR3.is c d h1 h2 h3 (by lia),?_⟩⟩
   ·have:=dW3.len;lia
   ·have:=dR3.len;lia
 ·obtain⟨⟨y3,y4,rfl⟩,k2,kW,kR,hW2,hR2,dnW,dnR⟩:=z
  refine k _ ⟨m,l,dW,dR,kW,kR,⟨⟨dx,k2 _ _ hx1 xW xR⟩,⟨dxm,k2 _ _ hm1 mW mR⟩⟩,⟨as,k2 _ _ hl1 lW lR,pK k2⟩,hW2,hR2,λa b h1 h2 h3=>dnW.is a b h1 h2 h3 (by lia),λa b h1 h2 h3=>dnR.is a b h1 h2 h3 (by lia)⟩ λa o e n=>?_
  exact k2 _ _ (bt _ _ e n) (aA e nW) (aA e nR)
end
end Bx
end
section
namespace Bx
open PySem PySem.Spec PyProof.Rows L2
open Vbpcau (State Span Alg counting pressing nesting tabOf partOf sumOver lessOf withBoth)
section
variable{P:Program}{w:World}{K:af}{mg:Str->Option Value}{base:Heap}
theorem Sem.of{α:Type}{A:Alg α}{ns:List Span}{n:Nat}(μ:yD P w K mg base)(v:α->Int)(ok:List α->Prop)(L:Bp.Laws2 A)(WF:Bp.WF ns)(hone:v A.one=μ.one)
  (hboth:∀a b c,1<=a->a+2<=b->b<=n->c∈Bp.gn ns a b->v (A.both (partOf A (tabOf A ns n) a c) (Bp.restOf A ns (tabOf A ns n) (c+1) b))=μ.row (v (partOf A (tabOf A ns n) a c)) (v (Bp.restOf A ns (tabOf A ns n) (c+1) b))/\μ.si (v (partOf A (tabOf A ns n) a c)) (v (Bp.restOf A ns (tabOf A ns n) (c+1) b)))
  (hsum:∀l,ok l->v (sumOver A l)=μ.choice (l.map v)/\μ.D9 (l.map v))
  (hpress:∀l,ok l->v (A.press (sumOver A l))=μ.press (v (sumOver A l))/\μ.IS (v (sumOver A l)))
  (hok1:∀a b,1<=a->a+2<=b->b<=n->ok ((Bp.gn ns a b).map λd=>A.both (partOf A (tabOf A ns n) a d) (Bp.restOf A ns (tabOf A ns n) (d+1) b)))
  (hok2:∀a b,1<=a->a+2<=b->b<=n->ok ((tabOf A ns n).of A a b::(if(a,b)∈ns then[]else((Bp.gn ns a b).filter λd=>decide (a<d)).map λd=>A.both (partOf A (tabOf A ns n) a d) (Bp.restOf A ns (tabOf A ns n) (d+1) b)))):
  Sem μ ns n (λa b=>v (partOf A (tabOf A ns n) a b)) (λa b=>v (Bp.restOf A ns (tabOf A ns n) a b)):=by
 have er:∀a b,1<=a->a+2<=b->b<=n->rowsOf μ ns (λa b=>v (partOf A (tabOf A ns n) a b)) (λa b=>v (Bp.restOf A ns (tabOf A ns n) a b)) a b=((Bp.gn ns a b).map λd=>A.both (partOf A (tabOf A ns n) a d) (Bp.restOf A ns (tabOf A ns n) (d+1) b)).map v:=λa b h1 h2 h3=>by
  rw[dQ]
  refine bg λc hc=>?_
  exact(hboth a b c h1 h2 h3 hc).1.symm
 have ep:∀a b,a+2<=b->partOf A (tabOf A ns n) a b=(tabOf A ns n).of A a b:=λa b h=>by
  unfold partOf;rw[if_neg (by lia)]
 have eb:∀a b,1<=a->a+2<=b->b<=n->JQ μ ns (λa b=>v (partOf A (tabOf A ns n) a b)) (λa b=>v (Bp.restOf A ns (tabOf A ns n) a b)) a b=((tabOf A ns n).of A a b::(if(a,b)∈ns then[]else((Bp.gn ns a b).filter λd=>decide (a<d)).map λd=>A.both (partOf A (tabOf A ns n) a d) (Bp.restOf A ns (tabOf A ns n) (d+1) b))).map v:=λa b h1 h2 h3=>by
  rw[aU]
  show v (partOf A (tabOf A ns n) a b)::_=_
  rw[ep a b h2]
  congr 1
  by_cases q:(a,b)∈ns
  ·rw[if_pos q,if_pos q];rfl
  ·rw[if_neg q,if_neg q,dQ]
   refine bg λc hc=>?_
   exact(hboth a b c h1 h2 h3 (bu.mp hc).1).1.symm
 refine⟨λa b h1 h2 h3 h4=>?_,λa b c h1 h2 h3 hc=>(hboth a b c h1 h2 h3 hc).2,λa b h1 h2 h3=>?_,λa b h1 h2 h3=>?_,λa b h1 h2 h3=>?_,λa b h1 h2 h3=>?_,λa b h1 h2 h3=>?_⟩
 ·by_cases e:a=b
  ·subst e
   refine⟨?_,?_⟩
   ·show v (partOf A (tabOf A ns n) a a)=_
    unfold partOf
    rw[if_pos rfl,hone]
   ·show v (Bp.restOf A ns (tabOf A ns n) a a)=_
    rw[Bp.tM L WF _ h1,hone]
  ·obtain rfl:b=a+1:=by lia
   refine⟨?_,?_⟩
   ·show v (partOf A (tabOf A ns n) a (a+1))=_
    unfold partOf
    rw[if_neg (by assumption),Bp.pL,hone]
   ·show v (Bp.restOf A ns (tabOf A ns n) a (a+1))=_
    rw[Bp.yZ L WF _ h1,hone]
 ·rw[er a b h1 h2 h3];exact(hsum _ (hok1 a b h1 h2 h3)).2
 ·rw[er a b h1 h2 h3,<-(hsum _ (hok1 a b h1 h2 h3)).1];exact(hpress _ (hok1 a b h1 h2 h3)).2
 ·rw[er a b h1 h2 h3,<-(hsum _ (hok1 a b h1 h2 h3)).1,<-(hpress _ (hok1 a b h1 h2 h3)).1,<-Bp.xx L.toLaws WF h1 h2 h3,<-ep a b h2]
 ·rw[eb a b h1 h2 h3];exact(hsum _ (hok2 a b h1 h2 h3)).2
 ·rw[eb a b h1 h2 h3,<-(hsum _ (hok2 a b h1 h2 h3)).1,<-Bp.pR L WF _ h1 (by ac_rfl)]
theorem Bz:∀l:List Nat,((l.sum:Nat):Int)=(l.map λk=>((k:Nat):Int)).sum
 |[]=>rfl
 |x::l=>by rw[eX,aU,eX,<-Bz l];rfl
abbrev uo(ns:List Span)(n:Nat):wk Nat:=tabOf (counting 1) ns n
abbrev cW(ns:List Span)(n:Nat)(a b:Nat):Int:=((partOf (counting 1) (uo ns n) a b:Nat):Int)
abbrev cR(ns:List Span)(n:Nat)(a b:Nat):Int:=((Bp.restOf (counting 1) ns (uo ns n) a b:Nat):Int)
theorem KG{ns:List Span}(W:Bp.WF ns){n a b:Nat}(hn:n<=24)(h1:1<=a)(h2:a<=b)(h3:b<=n):partOf (counting 1) (uo ns n) a b<2^60:=
 eB (Bp.T5 W hn (b-a) a b rfl h1 h2 h3).1 (Bp.LZ _ (by lia))
theorem Ih:∀m,m<24->Bp.LY m<2^60:=by decide+kernel
theorem KO{ns:List Span}(W:Bp.WF ns){n a b:Nat}(hn:n<=24)(h1:1<=a)(h2:a<=b)(h3:b<=n):Bp.restOf (counting 1) ns (uo ns n) a b<2^60:=
 eB (Bp.T5 W hn (b-a) a b rfl h1 h2 h3).2 (Ih _ (by lia))
theorem yj(T:Tx K mg){ns:List Span}{n:Nat}(W:Bp.WF ns)(hn:n<=24):Sem (eT (P:=P) (w:=w) (base:=base) T) ns n (cW ns n) (cR ns n):=by
 refine Sem.of (A:=counting 1) (eT T) (λk=>((k:Nat):Int)) (λ_=>True) (Bp.iB 1) W rfl (λa b c h1 h2 h3 hc=>?_) (λl _=>⟨?_,trivial⟩) (λl _=>⟨?_,trivial⟩) (λ_ _ _ _ _=>trivial) (λ_ _ _ _ _=>trivial)
 ·have hm:=Bp.d9.mp hc
  refine⟨?_,.inl ?_⟩
  ·show((_*_:Nat):Int)=_*_
   exact oM _ _
  ·have:=KG W hn h1 hm.1 (by lia:c<=n)
   refine⟨by ac_rfl,?_⟩
   have:((partOf (counting 1) (tabOf (counting 1) ns n) a c:Nat):Int)<2^60:=by exact_mod_cast this
   lia
 ·rw[Bp.nk];exact Bz l
 ·show((1*_:Nat):Int)=_
  rw[K9];rfl
abbrev wW(v:Nat)(ns:List Span)(n:Nat)(a b:Nat):Int:=((partOf (counting v) (tabOf (counting v) ns n) a b:Nat):Int)%zJ
abbrev wR(v:Nat)(ns:List Span)(n:Nat)(a b:Nat):Int:=((Bp.restOf (counting v) ns (tabOf (counting v) ns n) a b:Nat):Int)%zJ
theorem KZ:∀l:List Nat,((l.sum:Nat):Int)%zJ=(l.map λk=>((k:Nat):Int)%zJ).sum%zJ
 |[]=>rfl
 |x::l=>by
  rw[eX,aU,eX,uw,Int.add_emod,KZ l,<-Int.add_emod,Int.emod_add_emod]
theorem Jg(T:Tx K mg){ns:List Span}{n v:Nat}(W:Bp.WF ns)(hv:v<=1000000):Sem (qJ (P:=P) (w:=w) (base:=base) T (v:Nat)) ns n (wW v ns n) (wR v ns n):=by
 have dp:(0:Int)<zJ:=by decide
 have lo:∀x:Int,0<=x%zJ:=λx=>Int.emod_nonneg _ (by decide)
 have hi:∀x:Int,x%zJ<zJ:=λx=>Int.emod_lt_of_pos _ dp
 refine Sem.of (A:=counting v) (qJ T (v:Nat)) (λk=>((k:Nat):Int)%zJ) (λ_=>True) (Bp.iB v) W rfl (λa b c h1 h2 h3 hc=>⟨?_,.inl ⟨?_,?_⟩⟩) (λl _=>⟨?_,trivial⟩) (λl _=>⟨?_,.inr ⟨?_,?_⟩⟩) (λ_ _ _ _ _=>trivial) (λ_ _ _ _ _=>trivial)
 ·show((_*_:Nat):Int)%zJ=(_%zJ)*(_%zJ)%zJ
  rw[oM,<-HH]
 ·have:=lo (partOf (counting v) (tabOf (counting v) ns n) a c:Nat)
  show-(2^64)<((partOf (counting v) (tabOf (counting v) ns n) a c:Nat):Int)%zJ
  ac_rfl
 ·have:=hi (partOf (counting v) (tabOf (counting v) ns n) a c:Nat)
  show((partOf (counting v) (tabOf (counting v) ns n) a c:Nat):Int)%zJ<2^64
  have e:zJ=1000000007:=rfl
  lia
 ·rw[Bp.nk];exact KZ l
 ·show((v*_:Nat):Int)%zJ=((_%zJ)*(v:Nat))%zJ
  rw[oM,Int.mul_comm,HH]
  conv=>rhs;rw[HH,Int.emod_emod]
 ·ac_rfl
 ·lia
abbrev nV(x:Option Nat):Int:=((x.getD 0:Nat):Int)
theorem min_cons(x:Int):∀{l:List Int},l≠[]->wN (x::l)=min x (wN l)
 |[],h=>absurd rfl h
 |_::_,_=>rfl
theorem uQ{A:Alg (Option Nat)}(L:Bp.Laws2 A)(he:A.either=lessOf)(hn:A.none=none):∀l:List (Option Nat),l≠[]->(∀x∈l,x.isSome=true)->(sumOver A l).isSome=true/\nV (sumOver A l)=wN (l.map nV)
 |[],h,_=>absurd rfl h
 |[x],_,hx=>by
  rw[Bp.iY L]
  have e:sumOver A ([]:List (Option Nat))=none:=hn
  rw[e,he]
  have:=hx x ay
  cases x with
  |none=>cases this
  |some k=>exact⟨rfl,rfl⟩
 |x::y::l,_,hx=>by
  rw[Bp.iY L,he]
  obtain⟨i1,i2⟩:=uQ L he hn (y::l) (by simp) λz hz=>hx z (ax _ hz)
  have:=hx x ay
  rw[aU,min_cons _ (by simp),<-i2]
  cases x with
  |none=>cases this
  |some k=>
   cases e:sumOver A (y::l)with
   |none=>rw[e]at i1;cases i1
   |some j=>
    refine⟨rfl,?_⟩
    show((min k j:Nat):Int)=min (k:Int) (j:Int)
    omega
abbrev fW(A:Alg (Option Nat))(ns:List Span)(n:Nat)(a b:Nat):Int:=nV (partOf A (tabOf A ns n) a b)
abbrev fR(A:Alg (Option Nat))(ns:List Span)(n:Nat)(a b:Nat):Int:=nV (Bp.restOf A ns (tabOf A ns n) a b)
theorem oB{A:Alg (Option Nat)}(L:Bp.Laws2 A)(S:Bp.va A){ns:List Span}{n a b:Nat}(W:Bp.WF ns)(N:Bp.d4 ns)(h1:1<=a)(h2:a<=b)(h3:b<=n):(partOf A (tabOf A ns n) a b).isSome=true:=by
 unfold partOf
 by_cases e:a=b
 ·rw[if_pos e];exact S.one
 ·rw[if_neg e];exact(Bp.all_some L S W N _ a b rfl h1 h3).1 (by lia)
theorem oE{A:Alg (Option Nat)}(L:Bp.Laws2 A)(S:Bp.va A){ns:List Span}{n a b:Nat}(W:Bp.WF ns)(N:Bp.d4 ns)(h1:1<=a)(h2:a<=b)(h3:b<=n):(Bp.restOf A ns (tabOf A ns n) a b).isSome=true:=
 (Bp.all_some L S W N _ a b rfl h1 h3).2 h2
theorem DC{A:Alg (Option Nat)}(L:Bp.Laws2 A)(S:Bp.va A){ns:List Span}{n:Nat}(W:Bp.WF ns)(N:Bp.d4 ns){a b:Nat}(h1:1<=a)(h2:a+2<=b)(h3:b<=n){l:List Nat}(hl:∀d∈l,d∈Bp.gn ns a b):
  ∀x∈l.map (λd=>A.both (partOf A (tabOf A ns n) a d) (Bp.restOf A ns (tabOf A ns n) (d+1) b)),x.isSome=true:=λx hx=>by
 obtain⟨d,hd,rfl⟩:=bB.mp hx
 have hm:=Bp.d9.mp (hl d hd)
 exact S.both _ _ (oB L S W N h1 hm.1 (by lia)) (oE L S W N (by ac_rfl) (by lia) h3)
theorem GH{A:Alg (Option Nat)}(L:Bp.Laws2 A)(S:Bp.va A){ns:List Span}{n:Nat}(W:Bp.WF ns)(N:Bp.d4 ns)(a b:Nat)(h1:1<=a)(h2:a+2<=b)(h3:b<=n):
  ((Bp.gn ns a b).map λd=>A.both (partOf A (tabOf A ns n) a d) (Bp.restOf A ns (tabOf A ns n) (d+1) b))≠[]/\∀x∈(Bp.gn ns a b).map (λd=>A.both (partOf A (tabOf A ns n) a d) (Bp.restOf A ns (tabOf A ns n) (d+1) b)),x.isSome=true:=by
 refine⟨λz=>?_,DC L S W N h1 h2 h3 λd h=>h⟩
 obtain⟨d,hd⟩:=Bp.Bs W N (show a<b by ac_rfl)
 rw[oP]at z
 rw[z]at hd
 simp at hd
theorem GI{A:Alg (Option Nat)}(L:Bp.Laws2 A)(S:Bp.va A){ns:List Span}{n:Nat}(W:Bp.WF ns)(N:Bp.d4 ns)(a b:Nat)(h1:1<=a)(h2:a+2<=b)(h3:b<=n):
  ((tabOf A ns n).of A a b::(if(a,b)∈ns then[]else((Bp.gn ns a b).filter λd=>decide (a<d)).map λd=>A.both (partOf A (tabOf A ns n) a d) (Bp.restOf A ns (tabOf A ns n) (d+1) b)))≠[]/\
    ∀x∈(tabOf A ns n).of A a b::(if(a,b)∈ns then[]else((Bp.gn ns a b).filter λd=>decide (a<d)).map λd=>A.both (partOf A (tabOf A ns n) a d) (Bp.restOf A ns (tabOf A ns n) (d+1) b)),x.isSome=true:=by
 refine⟨by simp,λx hx=>?_⟩
 rcases aG.mp hx with e|hx
 ·rw[e];exact(Bp.all_some L S W N _ a b rfl h1 h3).1 (by ac_rfl)
 ·by_cases q:(a,b)∈ns
  ·rw[if_pos q]at hx;simp at hx
  ·rw[if_neg q]at hx
   exact DC L S W N h1 h2 h3 (λd h=>(bu.mp h).1) x hx
theorem A6{x:Option Nat}(h:x.isSome=true):nV (x.map λn=>n+1)=nV x+1:=by
 cases x with
 |none=>cases h
 |some k=>rfl
theorem KQ(T:Tx K mg){ns:List Span}{n:Nat}(W:Bp.WF ns)(N:Bp.d4 ns):Sem (lQ (P:=P) (w:=w) (base:=base) T) ns n (fW pressing ns n) (fR pressing ns n):=by
 have L:=Bp.eR
 have S:=Bp.iH
 refine Sem.of (A:=pressing) (lQ T) nV (λl=>l≠[]/\∀x∈l,x.isSome=true) L W rfl (λa b c h1 h2 h3 hc=>⟨?_,trivial⟩) (λl hl=>⟨(uQ L rfl rfl l hl.1 hl.2).2,λz=>hl.1 (oP.mp z)⟩) (λl hl=>⟨A6 (uQ L rfl rfl l hl.1 hl.2).1,trivial⟩) (GH L S W N) (GI L S W N)
 have hm:=Bp.d9.mp hc
 have e1:=oB L S W N (n:=n) h1 hm.1 (by lia)
 have e2:=oE L S W N (n:=n) (a:=c+1) (b:=b) (by ac_rfl) (by lia) h3
 show nV (withBoth _ _ _)=nV _+nV _
 cases q1:partOf pressing (tabOf pressing ns n) a c with
 |none=>rw[q1]at e1;cases e1
 |some x=>
  cases q2:Bp.restOf pressing ns (tabOf pressing ns n) (c+1) b with
  |none=>rw[q2]at e2;cases e2
  |some y=>exact uw _ _
theorem KP(T:Tx K mg){ns:List Span}{n:Nat}(W:Bp.WF ns)(N:Bp.d4 ns):Sem (nU (P:=P) (w:=w) (base:=base) T) ns n (fW nesting ns n) (fR nesting ns n):=by
 have L:=Bp.i8
 have S:=Bp.mD
 refine Sem.of (A:=nesting) (nU T) nV (λl=>l≠[]/\∀x∈l,x.isSome=true) L W rfl (λa b c h1 h2 h3 hc=>⟨?_,trivial⟩) (λl hl=>⟨(uQ L rfl rfl l hl.1 hl.2).2,λz=>hl.1 (oP.mp z)⟩) (λl hl=>⟨A6 (uQ L rfl rfl l hl.1 hl.2).1,trivial⟩) (GH L S W N) (GI L S W N)
 have hm:=Bp.d9.mp hc
 have e1:=oB L S W N (n:=n) h1 hm.1 (by lia)
 have e2:=oE L S W N (n:=n) (a:=c+1) (b:=b) (by ac_rfl) (by lia) h3
 show nV (withBoth _ _ _)=max (nV _) (nV _)
 cases q1:partOf nesting (tabOf nesting ns n) a c with
 |none=>rw[q1]at e1;cases e1
 |some x=>
  cases q2:Bp.restOf nesting ns (tabOf nesting ns n) (c+1) b with
  |none=>rw[q2]at e2;cases e2
  |some y=>
   show((max x y:Nat):Int)=max (x:Int) (y:Int)
   omega
end
end Bx
end
section
namespace Bx
open PySem PySem.Spec PyProof.Rows L2
open Vbpcau (State Span Plan Plans)
def VY:HO->Prop
 |.ins _ _ fs=>fs.length=1
 |.zg _=>True
 |_=>False
def Keeps(X:Addr->Prop)(H H':Hp):Prop:=∀z o,H z=aa o->¬X z->H' z=aa o
def kM(H H':Hp):Prop:=∀z o,H z=aa o->¬VY o->H' z=aa o
theorem Keeps.of{X:Addr->Prop}{H H':Hp}(s:aJ H H'):Keeps X H H':=λz o e _=>s z o e
theorem Keeps.trans{X:Addr->Prop}{H H1 H2:Hp}(a:Keeps X H H1)(b:Keeps X H1 H2):Keeps X H H2:=λz o e n=>b z o (a z o e n) n
theorem kM.of{H H':Hp}(s:aJ H H'):kM H H':=λz o e _=>s z o e
theorem kM.trans{H H1 H2:Hp}(a:kM H H1)(b:kM H1 H2):kM H H2:=λz o e n=>b z o (a z o e n) n
mutual
theorem fu.keep{C:Addr}{H H':Hp}(s:kM H H'):∀{p:Plan}{a:Addr},fu C H p a->fu C H' p a
 |.foil k,a,h=>by
  obtain⟨dx,l,h1,h2⟩:=h
  exact⟨dx,l,s _ _ h1 (by intro z;cases z),s _ _ h2 (λz=>z)⟩
 |.core x y,a,h=>by
  obtain⟨dx,l,h1,h2⟩:=h
  exact⟨dx,l,s _ _ h1 (by intro z;cases z),s _ _ h2 (λz=>z)⟩
 |.press ps,a,h=>by
  obtain⟨dx,l,as,h1,h2,h3,h4⟩:=h
  exact⟨dx,l,as,s _ _ h1 (by intro z;cases z),s _ _ h2 (λz=>z),gc.keep s h3,h4⟩
theorem gc.keep{C:Addr}{H H':Hp}(s:kM H H'):∀{ps:Plans}{as:List Addr},gc C H ps as->gc C H' ps as
 |.nil,as,h=>h
 |.cons p ps,as,h=>by
  obtain⟨a,r,e,h1,h2⟩:=h
  exact⟨a,r,e,fu.keep s h1,gc.keep s h2⟩
end
theorem qz.keep{H H':Hp}{l:Addr}{ns:List Span}(h:qz H l ns)(s:kM H H'):qz H' l ns:=by
 obtain⟨as,h1,h2⟩:=h
 exact⟨as,s _ _ h1 (λz=>z),h2.same λc xs q=>s _ _ q (λz=>z)⟩
theorem jb.keep{C:Addr}{H H':Hp}{b:Addr}{st:State}(h:jb C H b st)(s:kM H H'):jb C H' b st:=by
 obtain⟨dx,l,h1,h2⟩:=h
 exact⟨dx,l,s _ _ h1 (by intro z;cases z),h2.keep s⟩
theorem Qg{H H1 H2:Hp}{D:Addr}(s:kM H1 H2):kM (vd (nw H H1) D) (vd (nw H H2) D):=λb o e n=>by
 obtain⟨h1,h2⟩:=cA.mp e
 exact cA.mpr ⟨h1,eG.mpr ⟨(eG.mp h2).1,s _ _ (eG.mp h2).2 n⟩⟩
section
variable{P:Program}{w:World}{K:af}{mg:Str->Option Value}{base:Heap}
theorem eQ.keep{T:Tx K mg}{μ:yD P w K mg base}{ns:List Span}{n:Nat}{W R:Nat->Nat->Int}{H H':Hp}{x:Addr}(h:eQ T μ ns n W R H x)(s:kM H H')(hf:μ.fs.length≠1):eQ T μ ns n W R H' x:=by
 obtain⟨m,l,dW,dR,kW,kR,⟨⟨dx,h1⟩,⟨dxm,h2⟩⟩,h3,h4,h5,h6,h7⟩:=h
 exact⟨m,l,dW,dR,kW,kR,⟨⟨dx,s _ _ h1 (by intro z;cases z)⟩,⟨dxm,s _ _ h2 hf⟩⟩,h3.keep s,s _ _ h4 (λz=>z),s _ _ h5 (λz=>z),h6,h7⟩
section
variable{S:Type}(ns:List Span)(eo:S->Nat->Nat->Nat->Nat->S->Prop)(wi:S->Nat->Nat->S->S->Prop)
mutual
inductive pD:S->Nat->Nat->Plan->Prop
 |foil (σ:S) (a:Nat):pD σ a a (.foil a)
 |core (σ:S) (a:Nat):pD σ a (a+1) (.core a (a+1))
 |press (σ:S) (a b:Nat) (l:Plans):a+2<=b->lX σ a b a l->pD σ a b (.press l)
inductive lX:S->Nat->Nat->Nat->Plans->Prop
 |nil (σ:S) (a b:Nat):lX σ a b (b+1) .nil
 |cons (σ σ1 σ2 τ:S) (a b f d:Nat) (p:Plan) (l:Plans):f<=b->d∈Bp.ends ns a b f->eo σ a b f d σ1->wi σ1 b d σ2 τ->pD τ f d p->lX σ2 a b (d+1) l->lX σ a b f (.cons p l)
end
end
mutual
def fit:Plan->Prop
 |.foil k=>k<100
 |.core a b=>a≠b/\a<100/\b<100
 |.press l=>2<=l.list.length/\fits l
def fits:Plans->Prop
 |.nil=>True
 |.cons p l=>fit p/\fits l
end
section
variable{S:Type}{ns:List Span}{eo:S->Nat->Nat->Nat->Nat->S->Prop}{wi:S->Nat->Nat->S->S->Prop}
mutual
theorem pD.layers:∀{p:Plan}{σ:S}{a b:Nat},pD ns eo wi σ a b p->p.layers=br a (b+1-a)/\a<=b/\(b<100->fit p)
 |.foil k,σ,a,b,h=>by
  cases h
  refine⟨?_,ah _,λh=>h⟩
  rw[show k+1-k=1 by simp];rfl
 |.core x y,σ,a,b,h=>by
  cases h
  refine⟨?_,by ac_rfl,λh=>⟨by ac_rfl,by ac_rfl,h⟩⟩
  rw[show x+1+1-x=2 by lia];rfl
 |.press l,σ,a,b,h=>by
  cases h with
  |press _ _ _ _ h1 h2=>
   obtain⟨e1,e2⟩:=lX.layers h2 (by ac_rfl) (by lia)
   refine⟨e1,by lia,λhb=>⟨?_,e2 hb⟩⟩
   cases h2 with
   |nil=>lia
   |cons _ σ1 σ2 τ _ _ _ d p l' hf hd g1 g2 g3 g4=>
    have hm:=Bp.dC hd (ah _)
    have hd2:=hm.2.2.2 rfl
    cases g4 with
    |nil=>omega
    |cons _ _ _ _ _ _ _ d' p' l'' _ _ _ _ _ _=>
     show 2<=l''.list.length+1+1
     ac_rfl
theorem lX.layers:∀{l:Plans}{σ:S}{a b f:Nat},lX ns eo wi σ a b f l->a<=f->f<=b+1->l.layers=br f (b+1-f)/\(b<100->fits l)
 |.nil,σ,a,b,f,h,h1,h2=>by
  cases h
  rw[j7]
  exact⟨rfl,λ_=>trivial⟩
 |.cons p l,σ,a,b,f,h,h1,h2=>by
  cases h with
  |cons _ σ1 σ2 τ _ _ _ d _ _ hf hd g1 g2 g3 g4=>
   obtain⟨e1,e2,e3⟩:=pD.layers g3
   have hm:=Bp.dC hd h1
   obtain⟨e4,e5⟩:=lX.layers g4 (by lia) (by lia)
   refine⟨?_,λhb=>⟨e3 (by lia),e5 hb⟩⟩
   show p.layers++l.layers=_
   have e6:br (d+1) (b+1-(d+1))=br (f+(d+1-f)) (b+1-(d+1)):=by congr 1;lia
   rw[e1,e4,e6,u6]
   congr 1
   lia
end
end
section
variable(Wy:Hp->Addr->Prop)(ns:List Span)(n:Nat){S:Type}(At:Addr->S->Hp->Prop)(Tb:Hp->Prop)(X:Addr->Addr->Prop)
def KU(eo:S->Nat->Nat->Nat->Nat->S->Prop):Sp:=λvs H Q _=>ex9 Q λ(c:Addr)(σ σ1:S)(x e:Addr)(a b f d:Nat) Q=>vs=[.ref c,.ref x,.ref e,.int f,.int b]/\At c σ H/\Tb H/\Wy H x/\H e=aa (.lst (nI (Bp.ends ns a b f)))/\
 (1<=a/\a+2<=b/\b<=n/\a<=f/\f<=b)/\d∈Bp.ends ns a b f/\eo σ a b f d σ1/\∀H',At c σ1 H'->Tb H'->Keeps (X c) H H'->Q (.int d) H'
def QU(wi:S->Nat->Nat->S->S->Prop):Sp:=λvs H Q _=>ex9 Q λ(c:Addr)(σ σ1 τ:S)(x:Addr)(a b f d:Nat) Q=>vs=[.ref c,.ref x,.int d,.int b]/\At c σ H/\Tb H/\Wy H x/\
 (1<=a/\a+2<=b/\b<=n/\a<=f/\f<=b)/\d∈Bp.ends ns a b f/\wi σ b d σ1 τ/\∀c' H',At c' τ H'->At c σ1 H'->Tb H'->Keeps (X c) H H'->(∀z,X c' z->X c z\/H z=none)->(∀H2,Keeps (X c') H' H2->At c σ1 H2)->Q (.ref c') H'
end
set_option genInjectivity false in
set_option genSizeOf false in
set_option genSizeOfSpec false in
structure ChsD:Type 1 where
 S:Type
 C:Addr
 At:Addr->S->Hp->Prop
 Tb:Hp->Prop
 X:Addr->Addr->Prop
 eo:S->Nat->Nat->Nat->Nat->S->Prop
 wi:S->Nat->Nat->S->S->Prop
set_option genInjectivity false in
set_option genSizeOf false in
set_option genSizeOfSpec false in
structure RD(P:Program)(w:World)(K:af)(mg:Str->Option Value)(base:Heap)(Wy:Hp->Addr->Prop)(ns:List Span)(n:Nat)(J:ChsD):Type where
 cl:Hn K J.C
 ob:∀{c σ H},J.At c σ H->∃dx fs,H c=aa (.ins J.C dx fs)/\fs.lookup ("end_of_part":Str)=none/\fs.lookup ("chooser_within":Str)=none
 same:∀{c σ H H'},J.At c σ H->aJ H H'->J.At c σ H'
 zi:∀{H H'},J.Tb H->aJ H H'->J.Tb H'
 Pw:∀{c σ H D xs o},J.At c σ H->H D=aa (.lst xs)->J.At c σ (upd H D o)
 Ra:∀{H D xs o},J.Tb H->H D=aa (.lst xs)->J.Tb (upd H D o)
 xt:∀{c σ H z},J.At c σ H->J.Tb H->J.X c z->∃o,H z=aa o
 xo:∀{c σ H z o},J.At c σ H->J.Tb H->J.X c z->H z=aa o->VY o
 fe:Addr
 TY:FuncData
 UP:Meth K J.C "end_of_part" fe
 UJ:Binds K TY ["self","ways","ends","first","b"] []
 UT:bw P w K mg base (du P w) 8 fe TY ["self","ways","ends","first","b"] (KU Wy ns n J.At J.Tb J.X J.eo)
 fi:Addr
 TZ:FuncData
 UQ:Meth K J.C "chooser_within" fi
 UK:Binds K TZ ["self","ways","last","b"] []
 UU:bw P w K mg base (du P w) 8 fi TZ ["self","ways","last","b"] (QU Wy ns n J.At J.Tb J.X J.wi)
theorem RD.Kl{Wy:Hp->Addr->Prop}{ns:List Span}{n:Nat}{J:ChsD}(Ch:RD P w K mg base Wy ns n J){c:Addr}{σ:J.S}{H H':Hp}(ha:J.At c σ H)(ht:J.Tb H)(k:Keeps (J.X c) H H'):kM H H':=λz o e no=>k z o e λx=>no (Ch.xo ha ht x e)
def uj(J:ChsD)(Wy:Hp->Addr->Prop)(ns:List Span)(n:Nat)(pc:Addr)(dep:Nat):Sp:=λvs H Q _=>ex6 Q λ(c:Addr)(σ:J.S)(x:Addr)(a b:Nat)(p:Plan) Q=>vs=[.ref c,.ref x,.int a,.int b]/\J.At c σ H/\J.Tb H/\Wy H x/\
 (1<=a/\a<=b/\b<=n/\b-a<=dep)/\pD ns J.eo J.wi σ a b p/\∀q H',Keeps (J.X c) H H'->J.Tb H'->fu pc (nw H H') p q->Q (.ref q) H'
theorem iG:aH ["chooser","ways","a","b","cuts","parts","first","last"] ["chooser","ways","a","b"] (aq qg):=⟨rfl,rfl,rfl,by decide+kernel,rfl,by decide+kernel,by decide+kernel⟩
theorem J0{ns:List Span}{a b f:Nat}(h:f<=b):(if f=a then Bp.gn ns a b else(Bp.gn ns a b).filter (λd=>decide (f<d))++[b])=Bp.ends ns a b f:=by
 unfold Bp.ends
 by_cases e:f=a
 ·rw[if_pos e,if_pos e]
 ·rw[if_neg e,if_neg e,if_pos h]
theorem Ap{ns:List Span}{a b:Nat}:(Bp.gn ns a b).length<=b-a:=by
 unfold Bp.gn
 refine aX (bP _ _) ?_
 rw[ae,jq];exact ah _
def cat:List Plan->Plans->Plans
 |[],l=>l
 |p::ps,l=>.cons p (cat ps l)
theorem Al:∀(d:List Plan)(l:Plans),(cat d l).list=d++l.list
 |[],l=>rfl
 |p::ps,l=>by show p::(cat ps l).list=_;rw[Al ps l];rfl
theorem Am:∀(d:List Plan)(p:Plan)(l:Plans),cat d (.cons p l)=cat (d++[p]) l
 |[],p,l=>rfl
 |q::ps,p,l=>by show Plans.cons q _=Plans.cons q _;rw[Am ps p l];rfl
theorem qS{T:Tx K mg}{μ:yD P w K mg base}{ns:List Span}{n:Nat}{W R:Nat->Nat->Int}{J:ChsD}(Ch:RD P w K mg base (eQ T μ ns n W R) ns n J)(hfs:μ.fs.length≠1)(hn:n<=24)(hfew:ns.length<=12)(hin:∀s∈ns,s.1<=24/\s.2<=24)(dep:Nat)
  (ih:∀m,dep=m+1->bw P w K mg base (du P w) (m+1+8) T.bV.f T.bV.fd ["chooser","ways","a","b"] (uj J (eQ T μ ns n W R) ns n T.aV.C m)):
  bw P w K mg base (du P w) (dep+9) T.bV.f T.bV.fd ["chooser","ways","a","b"] (uj J (eQ T μ ns n W R) ns n T.aV.C dep):=by
 have F:=rk ih
 refine T.bV.fn.okN iG (λvs H Q E zz0=>by obtain⟨_,_,_,_,_,_,e,_⟩:=zz0;rw[e];rfl) λcdv A outer s H vs Q E hr zz1=>?_
 obtain⟨c,σ,x,a,b,p,e,hc,ht,wy,⟨h1,h2,h3,hdep⟩,hp,k⟩:=zz1
 subst e
 refine⟨_,ao (gi (cI sh (cZ nE (pv 3) (pv 2)) bj (eE _))
   (au (a8 (gW (dvs:=[]) (ds:=[]) (E:=E0) T.Di (jJ T) (hr.mono (by simp)) rfl T.aV.mg T.i7.bi .nil aP (ab (pv 2) (ab (pv 3) (ab (d3 aj) aj)))))) cH)
  (ao (bK (i:=4) iG.nd rfl (Or.inl rfl) (bb (dvs:=[]) (ds:=[]) (vM T) (hr.mono (by simp)) rfl T.ke.mg T.ke.kp T.ke.bi .nil aP (ab (ba (pv 1) rfl) (ab (pv 2) (ab (pv 3) aj)))))
  (ao (bK (i:=5) iG.nd rfl (Or.inl rfl) (d3 aj))
  (ao (bK (i:=6) iG.nd rfl (Or.inl rfl) (pv 2))
  (ao (xa dw (cI pO (pv 6) (pv 3) (eE _))
    (ao (bK (i:=7) iG.nd rfl (Or.inl rfl) (cQ (dvs:=[]) (ds:=[]) (E:=E0) (pv 0) Ch.cl Ch.UP Ch.UT (hr.mono (by ac_rfl)) Ch.UJ .nil aP
      (ab (pv 1) (ab (bb (dvs:=[]) (ds:=[]) (AV T) (hr.mono (by simp)) rfl T.n8.mg T.n8.kp T.n8.bi .nil aP (ab (pv 4) (ab (pv 2) (ab (pv 3) (ab (pv 6) aj))))) (ab (pv 6) (ab (pv 3) aj))))))
    (ao (cw (vm cq fL hJ qK (pv 5) (ab
      (bb (dvs:=[]) (ds:=[]) F hr rfl T.bV.mg T.bV.kp T.bV.bi .nil aP (ab (cQ (dvs:=[]) (ds:=[]) (E:=E0) (pv 0) Ch.cl Ch.UQ Ch.UU (hr.mono (by ac_rfl)) Ch.UK .nil aP (ab (pv 1) (ab (pv 7) (ab (pv 3) aj)))) (ab (pv 1) (ab (pv 6) (ab (pv 7) aj))))) aj)))
    (au (bK (i:=6) iG.nd rfl (Or.inl rfl) (cZ gM (pv 7) bj))))))
  (au (a8 (gW (dvs:=[]) (ds:=[]) (E:=E0) T.Di (jJ T) (hr.mono (by simp)) rfl T.aV.mg T.i7.bi .nil aP (ab (pv 2) (ab (pv 3) (ab (pv 5) aj)))))))))),?_⟩
 refine⟨_,rfl,_,rfl,_,_,rfl,rfl,_,_,rfl,rfl,_,rfl,?_⟩
 have mk:∀(H1:Hp)(D:Addr)(as:List Addr)(q dx:Addr),Keeps (J.X c) H H1->J.Tb H1->H1 D=aa (.lst (as.map V.ref))->H D=none->gc T.aV.C (nw H H1) (sub p) as->(fS p=true->as≠[])->lg p=a->l5 p=b->H1 q=none->H q=none->H1 dx=none->dx≠q->
   Q (.ref q) (upd (upd H1 dx (.own q)) q (.ins T.aV.C dx (pf a b D))):=λH1 D as q dx kp tb hD nD hps hne e1 e2 nq nqH ndx ne=>by
  have sX:aJ H1 (upd (upd H1 dx (.own q)) q (.ins T.aV.C dx (pf a b D))):=(aJ.upd ndx).trans (aJ.upd (by rw[az ne.symm];exact nq))
  refine k q _ (kp.trans (Keeps.of sX)) (Ch.zi tb sX) (fu.make (dx:=dx) (l:=D) (as:=as) ?_ ?_ (hps.same (KD sX)) hne)
  ·rw[e1,e2];exact eG.mpr ⟨nqH,ag⟩
  ·exact eG.mpr ⟨nD,sX _ _ hD⟩
 by_cases hsm:b<a+2
 ·refine Kj (by lia:((b:Nat):Int)-(a:Nat)<2) ?_
  refine eD ⟨_,rfl,_,rfl,bp _,λD hD q dx nq ndx ne=>?_⟩
  refine⟨q,dx,_,_,D,rfl,ag,rfl,?_⟩
  rw[ik]
  have sD:aJ H (upd H D (.lst [])):=aJ.upd hD
  have lay:=hp.layers
  have hsub:sub p=.nil/\fS p=false/\lg p=a/\l5 p=b:=by
   cases hp with
   |foil=>exact⟨rfl,rfl,rfl,rfl⟩
   |core=>exact⟨rfl,rfl,rfl,rfl⟩
   |press _ _ _ l g1 g2=>lia
  refine mk _ D [] q dx (Keeps.of sD) (Ch.zi ht sD) ag hD ?_ (λz=>?_) hsub.2.2.1 hsub.2.2.2 nq (sD.free nq) ndx ne
  ·rw[hsub.1];rfl
  ·rw[hsub.2.1]at z;cases z
 ·refine Kh (by lia:¬((b:Nat):Int)-(a:Nat)<2) ?_
  refine fM ?_
  obtain⟨L,rfl,hL⟩:∃L,p=.press L/\lX ns J.eo J.wi σ a b a L:=by
   cases hp with
   |foil=>omega
   |core=>ac_rfl
   |press _ _ _ l g1 g2=>exact⟨l,rfl,g2⟩
  obtain⟨m,l,dW,dR,kW,kR,⟨⟨dx,hx⟩,⟨dxm,hm⟩⟩,hl,hW,hR,aW,aR⟩:=id wy
  obtain⟨md,rfl⟩:∃md,dep=md+1:=⟨dep-1,by lia⟩
  refine⟨_,rfl,x,_,dx,_,_,rfl,hx,T.bC.cl,T.bC.no _ (by simp),uT _ _ _ _,_,rfl,_,rfl,l,a,b,ns,rfl,hl,hfew,hin,⟨by lia,by lia⟩,λq H1 s1 nqH hq1=>?_⟩
  refine⟨bp _,λD hD=>?_⟩
  have s2:=s1.trans (aJ.upd (o:=.lst []) hD)
  have nD:H D=none:=s1.free hD
  have hq2:=aJ.upd (o:=.lst []) hD _ _ hq1
  have qD:q≠D:=aA hq1 hD
  refine⟨_,rfl,xD (λst H'=>∃(σ':J.S)(f:Nat)(done:List Plan)(rest:Plans)(as:List Addr)(y:Option V),st=[aa (.ref c),aa (.ref x),aa (.int a),aa (.int b),aa (.ref q),aa (.ref D),aa (.int (f:Nat)),y]/\J.At c σ' H'/\J.Tb H'/\Keeps (J.X c) H H'/\
    H' q=aa (.lst (nI (Bp.gn ns a b)))/\H' D=aa (.lst (as.map V.ref))/\as.length=done.length/\(∀(i:Nat)(p:Plan)(z:Addr),done[i]?=aa p->as[i]?=aa z->fu T.aV.C (vd (nw H H') D) p z)/\lX ns J.eo J.wi σ' a b f rest/\L=cat done rest/\a<=f/\f<=b+1/\done.length<=f)
   (λst _=>match st with|[_,_,_,_,_,_,aa (.int f),_]=>(b+1-f.toNat)|_=>0) ⟨σ,a,[],L,[],_,rfl,Ch.same hc s2,Ch.zi ht s2,Keeps.of s2,hq2,ag,rfl,λi p z e=>by simp at e,hL,rfl,ah _,by ac_rfl,bp _⟩ (λst H' z=>?_) ?_⟩
  ·obtain⟨σ',f,done,rest,as,y,rfl,hcA,htA,kA,hq,hDl,hlen,hpts,hrest,hcat,haf,hfb,hdl⟩:=z
   refine⟨_,rfl,_,rfl,_,_,rfl,rfl,_,rfl,?_⟩
   have kO:=Ch.Kl hc ht kA
   by_cases hf:f<=b
   ·refine Kj (by lia:((f:Nat):Int)<=(b:Nat)) ?_
    refine eD ?_
    cases hrest with
    |nil=>omega
    |cons _ σ1 σ2 τ _ _ _ d p' l' _ hd ge gw gp gl=>
     have hmd:=Bp.dC hd haf
     have wyA:=wy.keep kO hfs
     obtain⟨dxc,fsc,hoc,n1,n2⟩:=Ch.ob hcA
     refine⟨_,rfl,c,dxc,fsc,rfl,hoc,n1,_,rfl,_,rfl,_,rfl,_,rfl,_,rfl,q,a,b,f,_,rfl,hq,?_,λe H2 s3 neH he=>?_⟩
     ·have:=Ap (ns:=ns) (a:=a) (b:=b)
      lia
     rw[J0 hf]at he
     refine⟨_,rfl,_,rfl,c,σ',σ1,x,e,a,b,f,d,rfl,Ch.same hcA s3,Ch.zi htA s3,wyA.same s3,he,⟨h1,by ac_rfl,h3,haf,hf⟩,hd,ge,λH3 hcB htB kB=>?_⟩
     have kB':=Ch.Kl (Ch.same hcA s3) (Ch.zi htA s3) kB
     have kO3:kM H' H3:=(kM.of s3).trans kB'
     obtain⟨dxc2,fsc2,hoc2,n3,n4⟩:=Ch.ob hcB
     have wyB:=wyA.keep kO3 hfs
     refine⟨_,rfl,.inl ⟨rfl,_,cJ.of (kO3 _ _ hDl (λz=>z))⟩,_,rfl,c,dxc2,fsc2,rfl,hoc2,n4,_,rfl,_,rfl,_,rfl,c,σ1,σ2,τ,x,a,b,f,d,rfl,hcB,htB,wyB,⟨h1,by ac_rfl,h3,haf,hf⟩,hd,gw,λc' H4 hcI hcC htC kC xC aC=>?_⟩
     have kC':=Ch.Kl hcB htB kC
     have kO4:kM H' H4:=kO3.trans kC'
     have wyC:=wyB.keep kC' hfs
     have dlt:d<b\/a<f:=by
      by_cases q:f=a
      ·exact .inl (hmd.2.2.2 q)
      ·exact .inr (by lia)
     refine⟨_,rfl,_,rfl,_,rfl,md,rfl,c',τ,x,f,d,p',rfl,hcI,htC,wyC,⟨by lia,by lia,by lia,by lia⟩,gp,λz H5 kD htD hpt=>?_⟩
     have kD':=Ch.Kl hcI htC kD
     have kO5:kM H' H5:=kO4.trans kD'
     have hDl5:=kO5 _ _ hDl (λz=>z)
     have nD4:∃u,H4 D=aa u:=⟨_,kO4 _ _ hDl (λz=>z)⟩
     obtain⟨u4,hu4⟩:=nD4
     have hcD:J.At c σ2 H5:=aC H5 kD
     have kAll:Keeps (J.X c) H H5:=λz o e nx=>kD _ _ ((kA.trans ((Keeps.of s3).trans (kB.trans kC))) _ _ e nx) λzx=>by
      rcases xC z zx with q|q
      ·exact nx q
      ·have:=(kA.trans ((Keeps.of s3).trans kB)) _ _ e nx
       rw[q]at this;cases this
     have nH4:∀b,H4 b=none->H b=none:=λb hb=>by
      cases e:H b with
      |none=>rfl
      |some o=>
       by_cases zx:J.X c b
       ·obtain⟨o',q⟩:=Ch.xt hcC htC zx
        rw[q]at hb;cases hb
       ·have:=(kA.trans ((Keeps.of s3).trans (kB.trans kC))) _ _ e zx
        rw[hb]at this;cases this
     have sN:aJ (nw H4 H5) (vd (nw H H5) D):=λb o e=>by
      obtain⟨e1,e2⟩:=eG.mp e
      exact cA.mpr ⟨λz=>(by rw[z,hu4]at e1;cases e1),eG.mpr ⟨nH4 b e1,e2⟩⟩
     have zl:done.length<=100:=by lia
     refine⟨D,_,_,rfl,rfl,hDl5,?_,?_⟩
     ·rw[ae,sizeLine_eq];lia
     refine⟨_,rfl,_,_,rfl,rfl,⟨σ2,d+1,done++[p'],l',as++[z],_,rfl,Ch.Pw hcD hDl5,Ch.Ra htD hDl5,λb o e nx=>?_,?_,?_,?_,λi p v hi hv=>?_,gl,?_,by lia,by lia,?_⟩,?_⟩
     ·rw[az (aA e nD)];exact kAll _ _ e nx
     ·rw[az qD];exact kO5 _ _ hq (λz=>z)
     ·rw[ag,aB];rfl
     ·rw[ai,ai,hlen];rfl
     ·refine fu.same El ?_
      by_cases hj:i<done.length
      ·rw[dU hj]at hi
       rw[dU (by lia)]at hv
       exact(hpts i p v hi hv).keep (Qg kO5)
      ·rw[gG (by lia)]at hi hv
       have ej:i=done.length:=by
        have:=(aD.mp hi).1
        simp at this
        lia
       subst ej
       rw[j7]at hi
       rw[hlen,j7]at hv
       have e1:p'=p:=by simpa using hi
       have e2:z=v:=by simpa using hv
       subst e1 e2
       exact hpt.same sN
     ·rw[hcat,Am]
     ·rw[ai];show _+1<=_;lia
     ·show b+1-(((d:Nat):Int)+1).toNat<b+1-((f:Nat):Int).toNat
      lia
   ·refine Kh (by lia:¬((f:Nat):Int)<=(b:Nat)) ?_
    refine fM ?_
    have hfe:f=b+1:=by lia
    have hnil:rest=.nil:=by
     cases hrest with
     |nil=>rfl
     |cons _ _ _ _ _ _ _ _ _ _ g=>ac_rfl
    subst hnil
    have eL:L.list=done:=by rw[hcat,Al];exact aZ _
    obtain⟨lay,_,hft⟩:=(pD.press σ a b L (by ac_rfl) hL).layers
    have lay':L.layers=br a (b+1-a):=lay
    have hft2:=(hft (by lia)).1
    refine⟨_,rfl,_,rfl,_,rfl,λv dx' nv ndx ne=>?_⟩
    refine⟨v,dx',_,_,D,rfl,ag,rfl,?_⟩
    rw[ik]
    have nvH:H v=none:=by
     cases e:H v with
     |none=>rfl
     |some o=>
      by_cases zx:J.X c v
      ·obtain⟨o',q⟩:=Ch.xt hcA htA zx
       rw[q]at nv;cases nv
      ·have:=kA _ _ e zx
       rw[nv]at this;cases this
    refine mk H' D as v dx' kA htA hDl nD (gc.of (by rw[hlen];show _=L.list.length;rw[eL]) λi p z hi hz=>(hpts i p z (by rw[<-eL];exact hi) hz).same wK) (λ_ z=>?_) ?_ ?_ nv nvH ndx ne
    ·rw[z]at hlen
     rw[eL,<-hlen]at hft2
     simp at hft2
    ·show L.layers.headD 0=a
     rw[lay',Bp.qH (by lia)]
    ·show L.layers.getLastD 0=b
     rw[lay',Bp.qI (by lia)];lia
  ·exact λ_ _ _ _ h zy=>by obtain⟨_,e1,_,e2,_,_,e3,e4,_,e5,q⟩:=zy;exact⟨_,e1,_,e2,_,_,e3,e4,_,e5,h _ _ q⟩
theorem oY{T:Tx K mg}{μ:yD P w K mg base}{ns:List Span}{n:Nat}{W R:Nat->Nat->Int}{J:ChsD}(Ch:RD P w K mg base (eQ T μ ns n W R) ns n J)(hfs:μ.fs.length≠1)(hn:n<=24)(hfew:ns.length<=12)(hin:∀s∈ns,s.1<=24/\s.2<=24)(dep:Nat):
  bw P w K mg base (du P w) (dep+9) T.bV.f T.bV.fd ["chooser","ways","a","b"] (uj J (eQ T μ ns n W R) ns n T.aV.C dep):=by
 induction dep with
 |zero=>exact qS Ch hfs hn hfew hin 0 λm h=>by lia
 |succ n ih=>
  refine qS Ch hfs hn hfew hin (n+1) λm h=>?_
  obtain rfl:n=m:=by lia
  exact ih
end
end Bx
end
section
namespace Bx
open PySem PySem.Spec PyProof.Rows L2
open Vbpcau (State Span Plan Plans Alg counting tabOf partOf choose)
section
variable{P:Program}{w:World}{K:af}{mg:Str->Option Value}{base:Heap}
def Rx(μ:yD P w K mg base)(R:Nat->Nat->Int)(z b:Nat):Int:=if z=b then μ.one else R (z+1) b
theorem RX{C C' dx dx':Addr}{fs fs':List (Str×V)}(h:fs.length≠fs'.length):HO.ins C dx fs≠HO.ins C' dx' fs':=λz=>by
 injection z with _ _ z
 exact h (congrArg i3 z)
theorem eQ.V3{T:Tx K mg}{μ:yD P w K mg base}{ns:List Span}{n:Nat}{W R:Nat->Nat->Int}{H:Hp}{x:Addr}(h:eQ T μ ns n W R H x){z b:Nat}(h2:z<=b)(h3:b<=n):
  ∃m l dW dR kR,D0 T.bC.C μ.C μ.fs H x m l dW dR/\H dR=aa (.dT kR)/\UC μ.one kR z b (Rx μ R z b):=by
 obtain⟨m,l,dW,dR,kW,kR,a1,a2,a3,a4,a5,a6⟩:=h
 refine⟨m,l,dW,dR,kR,a1,a4,?_⟩
 unfold Rx
 by_cases e:z=b
 ·rw[if_pos e];exact .inl ⟨by rw[e],rfl⟩
 ·rw[if_neg e];exact .inr ⟨by lia,a6 (z+1) b (by ac_rfl) (by lia) h3⟩
theorem eQ.row{T:Tx K mg}{μ:yD P w K mg base}{ns:List Span}{n:Nat}{W R:Nat->Nat->Int}{H:Hp}{x:Addr}(h:eQ T μ ns n W R H x){f z b:Nat}(h0:1<=f)(h1:f<=z)(h2:z<=b)(h3:b<=n):
  ∃m l dW dR kW kR,D0 T.bC.C μ.C μ.fs H x m l dW dR/\H dW=aa (.dT kW)/\H dR=aa (.dT kR)/\kb kW (key f z)=aa (.int (W f z))/\UC μ.one kR z b (Rx μ R z b):=by
 obtain⟨m,l,dW,dR,kW,kR,a1,a2,a3,a4,a5,a6⟩:=h
 refine⟨m,l,dW,dR,kW,kR,a1,a3,a4,a5 f z h0 h1 (by lia),?_⟩
 unfold Rx
 by_cases e:z=b
 ·rw[if_pos e];exact .inl ⟨by rw[e],rfl⟩
 ·rw[if_neg e];exact .inr ⟨by lia,a6 (z+1) b (by ac_rfl) (by lia) h3⟩
abbrev DD(ns:List Span)(n d b:Nat):Nat:=Bp.restOf (counting 1) ns (uo ns n) (d+1) b
abbrev wt(ns:List Span)(n f b z:Nat):Nat:=partOf (counting 1) (uo ns n) f z*DD ns n z b
theorem Ag(T:Tx K mg){ns:List Span}{n z b:Nat}:Rx (eT (P:=P) (w:=w) (base:=base) T) (cR ns n) z b=((DD ns n z b:Nat):Int):=by
 unfold Rx
 by_cases e:z=b
 ·subst e
  rw[if_pos rfl]
  show(1:Int)=((Bp.restOf (counting 1) ns (uo ns n) (z+1) z:Nat):Int)
  rw[Bp.iU];rfl
 ·rw[if_neg e]
theorem ya(T:Tx K mg){ns:List Span}{n f z b:Nat}:(eT (P:=P) (w:=w) (base:=base) T).row (cW ns n f z) (Rx (eT (P:=P) (w:=w) (base:=base) T) (cR ns n) z b)=((wt ns n f b z:Nat):Int):=by
 rw[Ag]
 show((_:Nat):Int)*((_:Nat):Int)=_
 rw[<-oM]
theorem tO(T:Tx K mg){ns:List Span}(WF:Bp.WF ns){n f z:Nat}(hn:n<=24)(h1:1<=f)(h2:f<=z)(h3:z<=n)(y:Int):(eT (P:=P) (w:=w) (base:=base) T).si (cW ns n f z) y:=by
 have h:=KG WF hn h1 h2 h3
 have h':cW ns n f z<2^60:=by show((partOf (counting 1) (uo ns n) f z:Nat):Int)<2^60;exact_mod_cast h
 have h0:0<=cW ns n f z:=by show 0<=((partOf (counting 1) (uo ns n) f z:Nat):Int);lia
 exact .inl ⟨by lia,by lia⟩
def numAt(C:Addr)(c:Addr)(k:Nat)(H:Hp):Prop:=∃dx,H c=aa (.ins C dx [("number",.int (k:Nat))])
def Kw(ns:List Span)(n:Nat):Nat->Nat->Nat->Nat->Nat->Nat->Prop:=λk a b f d k1=>choose (Bp.iJ ns (uo ns n) a b f) k=aa (d,k1)
def Kx(ns:List Span)(n:Nat):Nat->Nat->Nat->Nat->Nat->Prop:=λk b d k1 t=>0<DD ns n d b/\k1=k%DD ns n d b/\t=k/DD ns n d b
def Sl:Addr->Addr->Prop:=λc z=>z=c
theorem sE:aH ["self","number"] ["self","number"] (aq jy):=⟨rfl,rfl,rfl,by decide+kernel,rfl,by decide+kernel,by decide+kernel⟩
def MB(C:Addr):Sp:=λvs H Q _=>ex3 Q λm dx v Q=>vs=[.ref m,.int v]/\H m=aa (.ins C dx [])/\Q .iD (upd H m (.ins C dx [("number",.int v)]))
theorem lS(T:Tx K mg):bw P w K mg base (du P w) 1 T.fm.f T.fm.fd ["self","number"] (MB T.bo.C):=by
 refine T.fm.fn.okN sE (λvs H Q E zz0=>by obtain⟨_,_,_,e,_⟩:=zz0;rw[e];rfl) λcdv A outer s H vs Q E hr zz1=>?_
 obtain⟨m,dx,v,e,hm,k⟩:=zz1
 subst e
 exact⟨_,au (hZ (pv 0) (pv 1) rfl),_,rfl,_,rfl,m,_,dx,_,rfl,hm,T.bo.cl,T.bo.no _ (by simp),(by show 0<1000;decide),k⟩
theorem fb:aH ["self","ways","last","b","behind","within"] ["self","ways","last","b"] (aq fo):=⟨rfl,rfl,rfl,by decide+kernel,rfl,by decide+kernel,by decide+kernel⟩
theorem Ml(T:Tx K mg){ns:List Span}{n:Nat}(WF:Bp.WF ns)(hn:n<=24):bw P w K mg base (du P w) 8 T.cT.f T.cT.fd ["self","ways","last","b"]
  (QU (eQ T (eT (P:=P) (w:=w) (base:=base) T) ns n (cW ns n) (cR ns n)) ns n (numAt T.bo.C) (λ_=>True) Sl (Kx ns n)):=by
 refine T.cT.fn.okN fb (λvs H Q E zz2=>by obtain⟨_,_,_,_,_,_,_,_,_,e,_⟩:=zz2;rw[e];rfl) λcdv A outer s H vs Q E hr zz3=>?_
 obtain⟨c,σ,σ1,τ,x,a,b,f,d,e,⟨dx,hc⟩,_,wy,⟨h1,h2,h3,h4,h5⟩,hd,⟨g0,g1,g2⟩,k⟩:=zz3
 subst e
 refine⟨_,ao (bK (i:=4) fb.nd rfl (Or.inl rfl) (cQ (dvs:=[]) (ds:=[]) (E:=E0) (pv 1) T.bC.cl T.dH.me (jR T (eT (P:=P) (w:=w) (base:=base) T)) (hr.mono (by decide)) T.dH.bi .nil aP (ab (pv 2) (ab (pv 3) aj))))
  (ao (bK (i:=5) fb.nd rfl (Or.inl rfl) (gW (dvs:=[]) (ds:=[]) (E:=E0) T.tw (lS T) (hr.mono (by decide)) rfl T.bo.mg T.fm.bi .nil aP (ab (cZ Om (ba (pv 0) rfl) (pv 4)) aj)))
  (ao (hZ (pv 0) (cZ EH (ba (pv 0) rfl) (pv 4)) rfl)
  (au (a8 (pv 5))))),?_⟩
 have hmd:=Bp.dC hd h4
 obtain⟨mm,l,dW,dR,kW,kR,⟨⟨dxx,hx⟩,_⟩,_⟩:=id wy
 obtain⟨m',l',dW',dR',kR',b1,b2,b3⟩:=wy.V3 hmd.2.1 h3
 refine⟨_,rfl,x,dxx,_,rfl,hx,yu _ _ _ _,_,rfl,_,rfl,x,m',l',dW',dR',kR',_,_,_,rfl,b1,b2,b3,λH1 s1=>?_⟩
 rw[Ag]
 have pos:(0:Int)<((DD ns n d b:Nat):Int):=by lia
 have small:((DD ns n d b:Nat):Int)<2^64:=by
  by_cases e:d=b
  ·rw[e,show DD ns n b b=1 from Bp.iU _ _];decide
  ·have:=KO WF hn (a:=d+1) (b:=b) (by ac_rfl) (by lia) h3
   have:((DD ns n d b:Nat):Int)<2^60:=by exact_mod_cast this
   lia
 refine⟨_,rfl,c,_,dx,_,_,rfl,s1 _ _ hc,T.bo.cl,T.bo.no _ (by simp),cn _ _ _,_,rfl,_,_,rfl,rfl,⟨pos,small⟩,λv dv nv ndv ne=>?_⟩
 refine⟨v,dv,_,rfl,ag,rfl,?_⟩
 rw[ik]
 have sX:aJ H1 (upd (upd H1 dv (.own v)) v (.ins T.bo.C dv [("number",.int (((σ:Nat):Int)/((DD ns n d b:Nat):Int)))])):=(aJ.upd ndv).trans (aJ.upd (by rw[az ne.symm];exact nv))
 have s2:=s1.trans sX
 have cv:c≠v:=aA (s1 _ _ hc) nv
 refine⟨_,rfl,c,_,dx,_,_,rfl,s2 _ _ hc,T.bo.cl,T.bo.no _ (by simp),cn _ _ _,_,rfl,_,_,rfl,rfl,pos,?_⟩
 refine⟨_,rfl,c,_,dx,_,rfl,s2 _ _ hc,T.bo.cl,T.bo.no _ (by simp),(by show 1<1000;decide),?_⟩
 refine⟨_,rfl,k v _ ⟨dv,?_⟩ ⟨dx,?_⟩ trivial (λz o e n=>?_) (λz e=>.inr ?_) (λH2 k2=>⟨dx,?_⟩)⟩
 ·rw[az cv.symm,ag,g2,Int.natCast_ediv]
 ·rw[ag,jv,g1,Ac]
 ·rw[az n];exact s2 _ _ e
 ·have:z=v:=e
  rw[this];exact s1.free nv
 ·refine k2 _ _ ?_ (λz=>cv z)
  rw[ag,jv,g1,Ac]
theorem cV:aH ["self","ways","ends","first","b","place","passed"] ["self","ways","ends","first","b"] (aq fV):=⟨rfl,rfl,rfl,by decide+kernel,rfl,by decide+kernel,by decide+kernel⟩
theorem FV{α:Type}{l:List α}{i:Nat}{z:α}(h:l[i]?=aa z):l.drop i=z::l.drop (i+1):=by
 obtain⟨hi,e⟩:=aD.mp h
 rw[bO hi,e]
theorem IG(T:Tx K mg){ns:List Span}{n:Nat}(WF:Bp.WF ns)(hn:n<=24):bw P w K mg base (du P w) 8 T.dP.f T.dP.fd ["self","ways","ends","first","b"]
  (KU (eQ T (eT (P:=P) (w:=w) (base:=base) T) ns n (cW ns n) (cR ns n)) ns n (numAt T.bo.C) (λ_=>True) Sl (Kw ns n)):=by
 refine T.dP.fn.okN cV (λvs H Q E zz4=>by obtain⟨_,_,_,_,_,_,_,_,_,e,_⟩:=zz4;rw[e];rfl) λcdv A outer s H vs Q E hr zz5=>?_
 obtain⟨c,σ,σ1,x,e,a,b,f,d,ee,⟨dx,hc⟩,_,wy,he,⟨h1,h2,h3,h4,h5⟩,hd,g,k⟩:=zz5
 subst ee
 have g:choose (Bp.iJ ns (uo ns n) a b f) σ=aa (d,σ1):=g
 unfold Bp.iJ at g
 generalize hL:Bp.ends ns a b f=L at he g hd
 have mem:∀z∈L,f<=z/\z<=b:=λz hz=>by rw[<-hL]at hz;have:=Bp.dC hz h4;exact⟨this.1,this.2.1⟩
 have g:choose (L.map λz=>(z,wt ns n f b z)) σ=aa (d,σ1):=g
 refine⟨_,ao (bK (i:=5) cV.nd rfl (Or.inl rfl) bj)
  (ao (bK (i:=6) cV.nd rfl (Or.inl rfl) (cQ (dvs:=[]) (ds:=[]) (E:=E0) (pv 1) T.bC.cl T.gu.me (kY T (eT (P:=P) (w:=w) (base:=base) T)) (hr.mono (by decide)) T.gu.bi .nil aP (ab (pv 3) (ab (jN ij (pv 2) (pv 5) (λ_ _=>rfl)) (ab (pv 4) aj)))))
  (ao (xa dw (cI Oo (ba (pv 0) rfl) (pv 6) (eE _))
    (ao (x8 (pv 0) (pv 6) RW)
    (ao (IU (i:=5) cV.nd rfl (Or.inl rfl) bj Ib)
    (au (bK (i:=6) cV.nd rfl (Or.inl rfl) (cQ (dvs:=[]) (ds:=[]) (E:=E0) (pv 1) T.bC.cl T.gu.me (kY T (eT (P:=P) (w:=w) (base:=base) T)) (hr.mono (by decide)) T.gu.bi .nil aP (ab (pv 3) (ab (jN ij (pv 2) (pv 5) (λ_ _=>rfl)) (ab (pv 4) aj)))))))))
  (au (a8 (jN ij (pv 2) (pv 5) (λ_ _=>rfl)))))),?_⟩
 obtain⟨z0,L',rfl⟩:∃z0 L',L=z0::L':=by
  cases L with
  |nil=>cases g
  |cons z0 L'=>exact⟨z0,L',rfl⟩
 obtain⟨mm,l,dW,dR,kW,kR,⟨⟨dxx,hx⟩,_⟩,_⟩:=id wy
 have wyB:∀{H':Hp},sI c H H'->eQ T (eT (P:=P) (w:=w) (base:=base) T) ns n (cW ns n) (cR ns n) H' x:=λbt=>wy.keep (λz o ez no=>bt z o ez (λq=>by subst q;rw[hc]at ez;cases ez;exact no rfl)) (by intro z;cases z)
 have xc:x≠c:=eI hx hc (RX (by show 4≠1;decide))
 have ec:e≠c:=eI he hc (by intro z;cases z)
 obtain⟨m0,m1⟩:=mem z0 ay
 obtain⟨m',l',dW',dR',kW',kR',b1,b2,b3,b4,b5⟩:=wy.row (by lia) m0 m1 h3
 refine⟨_,rfl,x,dxx,_,rfl,hx,yw _ _ _ _,_,rfl,_,rfl,_,rfl,e,_,_,_,rfl,rfl,cJ.of he,gT (j:=0) (v:=.int (z0:Nat)) rfl,_,rfl,x,m',l',dW',dR',kW',kR',_,_,_,_,_,rfl,b1,b2,b3,b4,b5,tO T WF hn (by lia) m0 (by lia) _,λH1 s1=>?_⟩
 rw[ya]
 refine xD (λst H'=>∃(i k' z:Nat),st=[aa (.ref c),aa (.ref x),aa (.ref e),aa (.int f),aa (.int b),aa (.int (i:Nat)),aa (.int (wt ns n f b z:Nat))]/\numAt T.bo.C c k' H'/\sI c H H'/\(z0::L')[i]?=aa z/\choose (((z0::L').drop i).map λz=>(z,wt ns n f b z)) k'=aa (d,σ1))
  (λst _=>match st with|[_,_,_,_,_,aa (.int i),_]=>((z0::L').length-i.toNat)|_=>0) ⟨0,σ,z0,rfl,⟨dx,s1 _ _ hc⟩,sI.of s1,rfl,g⟩ (λst H' z=>?_) ?_
 ·obtain⟨i,k',z,rfl,⟨dx',hc'⟩,bt,hz,gk⟩:=z
  have hil:i<(z0::L').length:=(aD.mp hz).1
  refine⟨_,rfl,c,_,dx',_,_,rfl,hc',T.bo.cl,T.bo.no _ (by simp),cn _ _ _,_,rfl,_,_,rfl,rfl,_,rfl,?_⟩
  rw[FV hz,aU]at gk
  have gk:(if k'<wt ns n f b z then aa (z,k')else choose (((z0::L').drop (i+1)).map λz=>(z,wt ns n f b z)) (k'-wt ns n f b z))=aa (d,σ1):=gk
  by_cases q:k'<wt ns n f b z
  ·rw[if_pos q]at gk
   have e1:z=d/\k'=σ1:=by injection gk with gk;exact pE gk
   refine Kh (by lia:¬((wt ns n f b z:Nat):Int)<=(k':Nat)) ?_
   refine fM ⟨_,rfl,_,rfl,e,_,_,_,rfl,rfl,cJ.of (bt _ _ he ec),gT (j:=i) (v:=.int (z:Nat)) ?_,?_⟩
   ·rw[aS,aS,hz];rfl
   ·rw[e1.1]
    exact k _ ⟨dx',by rw[hc',e1.2]⟩ trivial (λy o ey n=>bt _ _ ey n)
  ·rw[if_neg q]at gk
   refine Kj (by omega:((wt ns n f b z:Nat):Int)<=(k':Nat)) ?_
   obtain⟨z2,hz2⟩:∃z2,(z0::L')[i+1]?=aa z2:=by
    cases ez:(z0::L')[i+1]? with
    |some z2=>exact⟨z2,rfl⟩
    |none=>
     rw[sL (List.getElem?_eq_none_iff.mp ez)]at gk
     cases gk
   have hmz:=mem z2 (bY hz2)
   refine eD ⟨_,rfl,c,_,dx',_,_,rfl,hc',T.bo.cl,T.bo.no _ (by simp),cn _ _ _,_,rfl,_,_,rfl,rfl,dx',_,hc',(by show 1<1000;decide),?_⟩
   rw[jv]
   have bt2:sI c H (upd H' c (.ins T.bo.C dx' [("number",.int (((k':Nat):Int)-((wt ns n f b z:Nat):Int)))])):=bt.upd
   refine⟨_,rfl,_,_,rfl,rfl,?_⟩
   obtain⟨m2,l2,dW2,dR2,kW2,kR2,b1,b2,b3,b4,b5⟩:=(wyB bt2).row (f:=f) (by lia) hmz.1 hmz.2 h3
   refine⟨_,rfl,x,dxx,_,rfl,bt2 _ _ hx xc,yw _ _ _ _,_,rfl,_,rfl,_,rfl,e,_,_,_,rfl,rfl,cJ.of (bt2 _ _ he ec),gT (j:=i+1) (v:=.int (z2:Nat)) (by rw[aS,aS,hz2];rfl),_,rfl,x,m2,l2,dW2,dR2,kW2,kR2,_,_,_,_,_,rfl,b1,b2,b3,b4,b5,tO T WF hn (by lia) hmz.1 (by lia) _,λH3 s3=>?_⟩
   rw[ya]
   refine⟨⟨i+1,k'-wt ns n f b z,z2,rfl,⟨dx',s3 _ _ ?_⟩,bt2.same s3,hz2,gk⟩,?_⟩
   ·rw[ag]
    congr 4
    rw[BV (by ac_rfl)]
   ·show(z0::L').length-(((i:Nat):Int)+1).toNat<(z0::L').length-((i:Nat):Int).toNat
    lia
 ·exact λ_ _ _ _ h zy=>by obtain⟨_,e0,_,_,_,_,_,e1,e2,e3,e4,e5,_,e6,_,_,e7,e8,_,e9,q⟩:=zy;exact⟨_,e0,_,_,_,_,_,e1,e2,e3,e4,e5,_,e6,_,_,e7,e8,_,e9,h _ _ q⟩
def dNum(T:Tx K mg)(ns:List Span)(n:Nat):ChsD where
 S:=Nat
 C:=T.bo.C
 At:=numAt T.bo.C
 Tb:=λ_=>True
 X:=Sl
 eo:=Kw ns n
 wi:=Kx ns n
def TK(T:Tx K mg){ns:List Span}{n:Nat}(WF:Bp.WF ns)(hn:n<=24):RD P w K mg base (eQ T (eT (P:=P) (w:=w) (base:=base) T) ns n (cW ns n) (cR ns n)) ns n (dNum T ns n)where
 cl:=T.bo.cl
 ob:=λ⟨dx,h⟩=>⟨dx,_,h,by rw[bE _ _ (by decide+kernel)];rfl,by rw[bE _ _ (by decide+kernel)];rfl⟩
 same:=λ⟨dx,h⟩ s=>⟨dx,s _ _ h⟩
 zi:=λ_ _=>trivial
 Pw:=λ⟨dx,h⟩ hD=>⟨dx,by rw[az (eI h hD (by intro z;cases z))];exact h⟩
 Ra:=λ_ _=>trivial
 xt:=λ{c σ H z} h _ hz=>by
  obtain⟨dx,h⟩:=h
  have hz:z=c:=hz
  subst hz
  exact⟨_,h⟩
 xo:=λ⟨dx,h⟩ _ z e=>by
  rw[show _=_ from z,h]at e
  cases e
  rfl
 fe:=_
 TY:=_
 UP:=T.dP.me
 UJ:=T.dP.bi
 UT:=IG T WF hn
 fi:=_
 TZ:=_
 UQ:=T.cT.me
 UK:=T.cT.bi
 UU:=Ml T WF hn
theorem yK:∀{l:List (Nat×Nat)}{k:Nat},k<(l.map (·.2)).sum->∃d j,choose l k=aa (d,j)
 |[],k,h=>by simp at h
 |(e,v)::l,k,h=>by
  rw[aU,eX]at h
  have h:k<v+(l.map (·.2)).sum:=h
  by_cases q:k<v
  ·exact⟨e,k,by show(if k<v then _ else _)=_;rw[if_pos q]⟩
  ·obtain⟨d,j,g⟩:=yK (l:=l) (k:=k-v) (by lia)
   exact⟨d,j,by show(if k<v then _ else _)=_;rw[if_neg q];exact g⟩
theorem Hk{ns:List Span}(t:wk Nat)(a b c:Nat):((Bp.iJ ns t a b c).map (·.2)).sum=gD (counting 1) ((Bp.ends ns a b c).map λd=>Bp.jd (counting 1) ns t b c d):=by
 rw[Bp.nk]
 unfold Bp.iJ
 rw[dQ]
 rfl
theorem xP{ns:List Span}{a b:Nat}(h:a<=b):Bp.ends ns a b (b+1)=[]:=by
 unfold Bp.ends
 rw[if_neg (by lia),if_neg (by ac_rfl)]
theorem DA{α:Type}{A:Alg α}{ns:List Span}(L:Bp.Laws A)(WF:Bp.WF ns)(t:wk α){a b c n d:Nat}{s:Bool}(h:Bp.At ns a b c n s)(hab:a+2<=b)(hd:d∈Bp.ends ns a b c)(hdb:d<b):
  Bp.restOf A ns t (d+1) b=gD A ((Bp.ends ns a b (d+1)).map λe=>Bp.jd A ns t b (d+1) e):=by
 rw[<-h.next t hab hd,Bp.KR L WF t (h.starts hab hd) hab (by assumption)]
theorem Ds{α:Type}{A:Alg α}{ns:List Span}(L:Bp.Laws A)(WF:Bp.WF ns){n a b:Nat}(h1:1<=a)(h2:a+2<=b)(h3:b<=n):
  partOf A (tabOf A ns n) a b=A.press (gD A ((Bp.ends ns a b a).map λe=>Bp.jd A ns (tabOf A ns n) b a e)):=by
 unfold partOf
 rw[if_neg (by lia),Bp.xx L WF h1 h2 h3]
 unfold Bp.ends
 rw[if_pos rfl]
 rfl
theorem AM{ns:List Span}{n:Nat}(WF:Bp.WF ns):∀f,(∀a b k,1<=a->a<b->b<=n->3*(b-a)<=f->k<partOf (counting 1) (uo ns n) a b->pD ns (Kw ns n) (Kx ns n) k a b (Bp.Sk ns (uo ns n) f a b k))/\
  (∀a b c m s k,1<=a->a+2<=b->b<=n->Bp.At ns a b c m s->(c=a->3*(b-a)<=f+1)->(a<c->3*(b+1-c)<=f+2)->(c<=b->k<((Bp.iJ ns (uo ns n) a b c).map (·.2)).sum)->lX ns (Kw ns n) (Kx ns n) k a b c (Bp.mP ns (uo ns n) f a b c k))
 |0=>by
  refine⟨λa b k h1 h2 h3 h4=>by lia,λa b c m s k h1 h2 h3 hat g1 g2 hk=>?_⟩
  have hc:c=b+1:=by rcases hat with h|h<;>lia
  subst hc
  rw[Bp.mP]
  exact .nil _ _ _
 |f+1=>by
  obtain⟨i1,i2⟩:=AM WF f
  refine⟨λa b k h1 h2 h3 h4 hk=>?_,λa b c m s k h1 h2 h3 hat g1 g2 hk=>?_⟩
  ·rw[Bp.Sk]
   by_cases e:b=a+1
   ·rw[if_pos e,e]
    exact .core _ _
   ·rw[if_neg e]
    refine .press _ _ _ _ (by lia) (i2 a b a 0 false k h1 (by lia) h3 (.inl ⟨rfl,rfl,rfl⟩) (λ_=>by assumption) (λ_=>by lia) λ_=>?_)
    rw[Hk]
    rw[Ds (Bp.my 1) WF h1 (by lia) h3]at hk
    have hk:k<1*_:=hk
    rw[K9]at hk
    exact hk
  ·have hac:a<=c:=by rcases hat with h|h<;>lia
   have hcb:c<=b+1:=by rcases hat with h|h<;>lia
   rw[Bp.mP]
   by_cases e:c=b+1
   ·subst e
    have e1:Bp.iJ ns (uo ns n) a b (b+1)=[]:=by
     unfold Bp.iJ
     rw[xP (by lia)];rfl
    rw[e1]
    exact .nil _ _ _
   ·obtain⟨d,j,g⟩:=yK (hk (by lia))
    rw[g]
    obtain⟨v,hv,hj⟩:=Bp.vC g
    unfold Bp.iJ at hv
    obtain⟨d',hd,hq⟩:=bB.mp hv
    obtain⟨rfl,rfl⟩:=pE hq
    have hm:=Bp.dC hd hac
    have hj:j<partOf (counting 1) (uo ns n) c d'*DD ns n d' b:=hj
    have pos:0<DD ns n d' b:=by
     rcases Nat.eq_zero_or_pos (DD ns n d' b)with z|z
     ·rw[z]at hj;lia
     ·exact z
    refine .cons k j (j%DD ns n d' b) (j/DD ns n d' b) a b c d' _ _ (by lia) hd g ⟨pos,rfl,rfl⟩ ?_ ?_
    ·by_cases ec:c=d'
     ·rw[if_pos ec,<-ec]
      exact .foil _ _
     ·rw[if_neg ec]
      refine i1 c d' _ (by lia) (by lia) (by lia) ?_ (Nat.div_lt_of_lt_mul (by rw[Nat.mul_comm];exact hj))
      by_cases eca:c=a
      ·have:=g1 eca;have:=hm.2.2.2 eca;lia
      ·have:=g2 (by lia);omega
    ·refine i2 a b (d'+1) _ _ _ h1 h2 h3 (hat.starts h2 hd) (λz=>by lia) (λ_=>?_) λhle=>?_
     ·by_cases eca:c=a
      ·have:=g1 eca;lia
      ·have:=g2 (by lia);lia
     ·rw[Hk,<-DA (Bp.my 1) WF _ hat h2 hd (by assumption)]
      exact M5 _ pos
end
end Bx
end
section
namespace Bx
open PySem PySem.Spec PyProof.Rows L2
open Vbpcau (State Span Plan Plans Alg nesting tabOf partOf atMost withBoth)
section
variable{P:Program}{w:World}{K:af}{mg:Str->Option Value}{base:Heap}
abbrev tN(ns:List Span)(n:Nat):wk (Option Nat):=tabOf nesting ns n
def Nz(C:Addr)(c:Addr)(k:Nat)(H:Hp):Prop:=∃dx,H c=aa (.ins C dx [("most",.int (k:Nat))])
abbrev low(ns:List Span)(n m b f z:Nat):Bool:=atMost (partOf nesting (tN ns n) f z) m&&atMost (Bp.restOf nesting ns (tN ns n) (z+1) b) m
def CQ(ns:List Span)(n:Nat):Nat->Nat->Nat->Nat->Nat->Nat->Prop:=λm a b f d m1=>1<=m/\m1=m/\(Bp.ends ns a b f).find? (λz=>low ns n (m-1) b f z)=aa d
def CS:Nat->Nat->Nat->Nat->Nat->Prop:=λm b d m1 t=>1<=m/\m1=m/\t=m-1
theorem tZ:aH ["self","most"] ["self","most"] (aq jU):=⟨rfl,rfl,rfl,by decide+kernel,rfl,by decide+kernel,by decide+kernel⟩
def MA(C:Addr):Sp:=λvs H Q _=>ex3 Q λm dx v Q=>vs=[.ref m,.int v]/\H m=aa (.ins C dx [])/\Q .iD (upd H m (.ins C dx [("most",.int v)]))
theorem mS(T:Tx K mg):bw P w K mg base (du P w) 1 T.fI.f T.fI.fd ["self","most"] (MA T.bL.C):=by
 refine T.fI.fn.okN tZ (λvs H Q E zz0=>by obtain⟨_,_,_,e,_⟩:=zz0;rw[e];rfl) λcdv A outer s H vs Q E hr zz1=>?_
 obtain⟨m,dx,v,e,hm,k⟩:=zz1
 subst e
 exact⟨_,au (hZ (pv 0) (pv 1) rfl),_,rfl,_,rfl,m,_,dx,_,rfl,hm,T.bL.cl,T.bL.no _ (by simp),(by show 0<1000;decide),k⟩
theorem mj:aH ["self","ways","last","b"] ["self","ways","last","b"] (aq fE):=⟨rfl,rfl,rfl,by decide+kernel,rfl,by decide+kernel,by decide+kernel⟩
theorem Mi(T:Tx K mg){ns:List Span}{n:Nat}:bw P w K mg base (du P w) 8 T.dg.f T.dg.fd ["self","ways","last","b"]
  (QU (eQ T (nU (P:=P) (w:=w) (base:=base) T) ns n (fW nesting ns n) (fR nesting ns n)) ns n (Nz T.bL.C) (λ_=>True) (λ_ _=>False) CS):=by
 refine T.dg.fn.okN mj (λvs H Q E zz2=>by obtain⟨_,_,_,_,_,_,_,_,_,e,_⟩:=zz2;rw[e];rfl) λcdv A outer s H vs Q E hr zz3=>?_
 obtain⟨c,σ,σ1,τ,x,a,b,f,d,e,⟨dx,hc⟩,_,wy,_,hd,⟨g0,g1,g2⟩,k⟩:=zz3
 subst e
 refine⟨_,au (a8 (gW (dvs:=[]) (ds:=[]) (E:=E0) T.vg (mS T) (hr.mono (by decide)) rfl T.bL.mg T.fI.bi .nil aP (ab (cZ nE (ba (pv 0) rfl) bj) aj))),?_⟩
 refine⟨_,rfl,c,_,dx,_,_,rfl,hc,T.bL.cl,T.bL.no _ (by simp),cn _ _ _,_,_,rfl,rfl,λv dv nv ndv ne=>?_⟩
 refine⟨v,dv,_,rfl,ag,rfl,?_⟩
 rw[ik]
 have sX:aJ H (upd (upd H dv (.own v)) v (.ins T.bL.C dv [("most",.int (((σ:Nat):Int)-1))])):=(aJ.upd ndv).trans (aJ.upd (by rw[az ne.symm];exact nv))
 refine k v _ ⟨dv,?_⟩ ⟨dx,?_⟩ trivial (Keeps.of sX) (λz e=>.inl e) (λH2 k2=>⟨dx,k2 _ _ ?_ (λz=>z)⟩)
 ·rw[ag,g2,BV g0];rfl
 ·rw[g1];exact sX _ _ hc
 ·rw[g1];exact sX _ _ hc
theorem P7{ns:List Span}(WF:Bp.WF ns)(N:Bp.d4 ns)(T:Tx K mg){n m b f z:Nat}(h1:1<=f)(h2:f<=z)(h3:z<=b)(h4:b<=n)(hm:1<=m):
  decide ((nU (P:=P) (w:=w) (base:=base) T).row (fW nesting ns n f z) (Rx (nU (P:=P) (w:=w) (base:=base) T) (fR nesting ns n) z b)<(m:Nat))=low ns n (m-1) b f z:=by
 have L:=Bp.i8
 have S:=Bp.mD
 have e1:=oB L S WF N (n:=n) h1 h2 (by lia)
 have e2:(Bp.restOf nesting ns (tN ns n) (z+1) b).isSome=true/\Rx (nU (P:=P) (w:=w) (base:=base) T) (fR nesting ns n) z b=nV (Bp.restOf nesting ns (tN ns n) (z+1) b):=by
  unfold Rx
  by_cases q:z=b
  ·subst q
   rw[if_pos rfl,Bp.iU];exact⟨rfl,rfl⟩
  ·rw[if_neg q]
   exact⟨oE L S WF N (by ac_rfl) (by lia) h4,rfl⟩
 rw[e2.2]
 have e2:=e2.1
 show decide (max (nV (partOf nesting (tN ns n) f z)) (nV (Bp.restOf nesting ns (tN ns n) (z+1) b))<(m:Nat))=low ns n (m-1) b f z
 unfold low
 cases q1:partOf nesting (tN ns n) f z with
 |none=>rw[q1]at e1;cases e1
 |some x=>
  cases q2:Bp.restOf nesting ns (tN ns n) (z+1) b with
  |none=>rw[q2]at e2;cases e2
  |some y=>
   show decide (max (x:Int) (y:Int)<(m:Nat))=(decide (x<=m-1)&&decide (y<=m-1))
   rw[<-Bool.decide_and]
   exact decide_eq_decide.mpr (by omega)
theorem yM(ns:List Span)(a b:Nat):(Bp.gn ns a b).Pairwise (·<·):=by
 unfold Bp.gn
 refine List.Pairwise.filter _ ?_
 rw[qw]
 exact List.Pairwise.imp (λh=>by lia) List.pairwise_lt_range
theorem yN(ns:List Span)(a b c:Nat):(Bp.ends ns a b c).Pairwise (·<·):=by
 unfold Bp.ends
 by_cases e:c=a
 ·rw[if_pos e];exact yM ns a b
 ·rw[if_neg e]
  by_cases h:c<=b
  ·rw[if_pos h,Jz]
   refine⟨(yM ns a b).filter _,List.pairwise_singleton _ _,λx hx y hy=>?_⟩
   rw[aK.mp hy]
   exact(Bp.d9.mp (bu.mp hx).1).2.1
  ·rw[if_neg h];exact List.Pairwise.nil
theorem F5{p:Nat->Bool}{d:Nat}:∀{l:List Nat},l.Pairwise (·<·)->l.find? p=aa d->d∈l/\p d=true/\∀y∈l,p y=true->d<=y
 |[],_,h=>by cases h
 |x::l,hs,h=>by
  rw[cF]at h
  rw[cS]at hs
  cases q:p x with
  |true=>
   rw[q]at h
   have:x=d:=by simpa using h
   subst this
   refine⟨ay,q,λy hy _=>?_⟩
   rcases aG.mp hy with e|hy
   ·rw[e];exact ah _
   ·exact lU (hs.1 y hy)
  |false=>
   rw[q]at h
   obtain⟨h1,h2,h3⟩:=F5 hs.2 h
   refine⟨ax _ h1,h2,λy hy hp=>?_⟩
   rcases aG.mp hy with e|hy
   ·rw[e,q]at hp;cases hp
   ·exact h3 y hy hp
theorem FW{ns:List Span}{a b c:Nat}:(Bp.ends ns a b c).length<=b-a+1:=by
 have:=Ap (ns:=ns) (a:=a) (b:=b)
 unfold Bp.ends
 by_cases e:c=a
 ·rw[if_pos e];ac_rfl
 ·rw[if_neg e]
  by_cases h:c<=b
  ·rw[if_pos h,ai]
   have:=bP (λd=>decide (c<d)) (Bp.gn ns a b)
   simp only[aF,fh]
   lia
  ·rw[if_neg h];exact bp _
theorem fY:aH ["self","ways","ends","first","b","last"] ["self","ways","ends","first","b"] (aq gy):=⟨rfl,rfl,rfl,by decide+kernel,rfl,by decide+kernel,by decide+kernel⟩
theorem IE(T:Tx K mg){ns:List Span}{n:Nat}(WF:Bp.WF ns)(N:Bp.d4 ns)(hn:n<=24):bw P w K mg base (du P w) 8 T.dZ.f T.dZ.fd ["self","ways","ends","first","b"]
  (KU (eQ T (nU (P:=P) (w:=w) (base:=base) T) ns n (fW nesting ns n) (fR nesting ns n)) ns n (Nz T.bL.C) (λ_=>True) (λ_ _=>False) (CQ ns n)):=by
 refine T.dZ.fn.okN fY (λvs H Q E zz4=>by obtain⟨_,_,_,_,_,_,_,_,_,e,_⟩:=zz4;rw[e];rfl) λcdv A outer s H vs Q E hr zz5=>?_
 obtain⟨c,σ,σ1,x,e,a,b,f,d,ee,⟨dx,hc⟩,_,wy,he,⟨h1,h2,h3,h4,h5⟩,hd,⟨g0,g1,g2⟩,k⟩:=zz5
 subst ee
 refine⟨_,au (a8 (cg (HS rfl) rfl T.JP (by decide+kernel) (ab
  (pQ (te:=fN 5) (tt:=DL (S7 (Pk λi j=>.bl (decide (i<j))) (BE T.bC.C "row" (Bv T (nU (P:=P) (w:=w) (base:=base) T)) [] E0 (fN 1) (gJ (fN 3) (gJ (fN 5) (gJ (fN 4) mq)))) (BD K (fN 0) "most"))) (own:=[("last",5)]) rfl fY.nd (fJ (pv 2)) (fz (by with_unfolding_all rfl))
    (λ_ _ _ _ _=>cX (i:=5) fY.nd rfl (Or.inl rfl) (.inr rfl))
    (λ_ _ _ _ _=>rC (cI sh (cQ (dvs:=[]) (ds:=[]) (E:=E0) (pv 1) T.bC.cl T.gu.me (kY T (nU T)) (hr.mono (by decide)) T.gu.bi .nil aP (ab (pv 3) (ab (pv 5) (ab (pv 4) aj)))) (ba (pv 0) rfl) (eE _)))
    (λ_ _ _ _ _=>pv 5)) aj))),?_⟩
 obtain⟨mm,l,dW,dR,kW,kR,⟨⟨dxx,hx⟩,_⟩,_⟩:=id wy
 have Fz:=yN ns a b f
 have hlen:=FW (ns:=ns) (a:=a) (b:=b) (c:=f)
 have mem:∀z∈Bp.ends ns a b f,f<=z/\z<=b:=λz hz=>by have:=Bp.dC hz h4;exact⟨this.1,this.2.1⟩
 generalize hL:Bp.ends ns a b f=L at he g2 hd Fz hlen mem
 refine⟨_,rfl,e,rfl,⟨_,cJ.of he⟩,λD hD=>?_⟩
 refine jG (K:=K) (a:=e) (xs:=nI L) (λi H'=>aJ H H'/\H' D=aa (.lst (nI ((L.take i).filter λz=>low ns n (σ-1) b f z)))) ⟨aJ.upd hD,ag⟩ (λi H' _ z=>cJ.of (z.1 _ _ he)) (λi v H' hv zz=>?_) (λH' z=>?_)
 ·obtain⟨z,hz,rfl⟩:=x3 hv
  obtain⟨sH,hDl⟩:=zz
  have hm:=mem z (bY hz)
  obtain⟨m',l',dW',dR',kW',kR',b1,b2,b3,b4,b5⟩:=(wy.same sH).row (f:=f) (by lia) hm.1 hm.2 h3
  refine⟨rfl,_,rfl,x,dxx,_,rfl,sH _ _ hx,yw _ _ _ _,_,rfl,_,rfl,_,rfl,x,m',l',dW',dR',kW',kR',_,_,_,_,_,rfl,b1,b2,b3,b4,b5,trivial,λH2 s2=>?_⟩
  refine⟨_,rfl,c,_,dx,_,_,rfl,s2 _ _ (sH _ _ hc),T.bL.cl,T.bL.no _ (by simp),cn _ _ _,_,_,rfl,rfl,_,rfl,?_⟩
  rw[P7 WF N T (by lia) hm.1 hm.2 h3 g0,take_snoc hz,cB,da,fQ]
  cases hq:low ns n (σ-1) b f z with
  |true=>
   refine eD ⟨_,rfl,_,s2 _ _ hDl,?_,(sH.trans s2).pC hD,?_⟩
   ·rw[jQ]
    refine eB (bP _ _) ?_
    rw[bH,sizeLine_eq];lia
   ·rw[ag,if_pos rfl,xZ];rfl
  |false=>
   refine fM ⟨sH.trans s2,?_⟩
   rw[if_neg (by decide),aZ];exact s2 _ _ hDl
 ·obtain⟨sH,hDl⟩:=z
  rw[jQ,bF]at hDl
  obtain⟨q1,q2,q3⟩:=F5 Fz g2
  have hmem:d∈L.filter λz=>low ns n (σ-1) b f z:=bu.mpr ⟨q1,q2⟩
  refine⟨D,_,rfl,cJ.of hDl,?_,λv hv1 hv2=>?_⟩
  ·rw[ae];exact cx.mpr (λz=>by rw[z]at hmem;simp at hmem)
  ·obtain⟨y,hy,rfl⟩:=bB.mp hv1
   have:=q3 y (bu.mp hy).1 (bu.mp hy).2
   have h9:=hv2 (d:Nat) (oQ hmem)
   have:y=d:=by lia
   subst this
   exact k _ ⟨dx,by rw[g1];exact sH _ _ hc⟩ trivial (Keeps.of sH)
def dDep(T:Tx K mg)(ns:List Span)(n:Nat):ChsD where
 S:=Nat
 C:=T.bL.C
 At:=Nz T.bL.C
 Tb:=λ_=>True
 X:=λ_ _=>False
 eo:=CQ ns n
 wi:=CS
def TH(T:Tx K mg){ns:List Span}{n:Nat}(WF:Bp.WF ns)(N:Bp.d4 ns)(hn:n<=24):RD P w K mg base (eQ T (nU (P:=P) (w:=w) (base:=base) T) ns n (fW nesting ns n) (fR nesting ns n)) ns n (dDep T ns n)where
 cl:=T.bL.cl
 ob:=λ⟨dx,h⟩=>⟨dx,_,h,by rw[bE _ _ (by decide+kernel)];rfl,by rw[bE _ _ (by decide+kernel)];rfl⟩
 same:=λ⟨dx,h⟩ s=>⟨dx,s _ _ h⟩
 zi:=λ_ _=>trivial
 Pw:=λ⟨dx,h⟩ hD=>⟨dx,by rw[az (eI h hD (by intro z;cases z))];exact h⟩
 Ra:=λ_ _=>trivial
 xt:=λ_ _ z=>z.elim
 xo:=λ_ _ z _=>z.elim
 fe:=_
 TY:=_
 UP:=T.dZ.me
 UJ:=T.dZ.bi
 UT:=IE T WF N hn
 fi:=_
 TZ:=_
 UQ:=T.dg.me
 UK:=T.dg.bi
 UU:=Mi T
theorem QZ{l:List (Option Nat)}{m:Nat}:atMost (gD nesting l) m=true->∃x∈l,atMost x m=true:=by
 induction l with
 |nil=>intro h;cases h
 |cons x l ih=>
  intro h
  rw[Bp.iY Bp.i8]at h
  have h:atMost (Vbpcau.lessOf x (gD nesting l)) m=true:=h
  cases q:gD nesting l with
  |none=>
   rw[q]at h
   cases x with
   |none=>cases h
   |some k=>exact⟨_,ay,h⟩
  |some j=>
   rw[q]at h ih
   cases x with
   |none=>
    obtain⟨y,hy,g⟩:=ih h
    exact⟨y,ax _ hy,g⟩
   |some k=>
    have h:decide (min k j<=m)=true:=h
    have h:=of_decide_eq_true h
    by_cases c:k<=m
    ·exact⟨_,ay,decide_eq_true c⟩
    ·obtain⟨y,hy,g⟩:=ih (decide_eq_true (by lia))
     exact⟨y,ax _ hy,g⟩
theorem Sf{x y:Option Nat}{m:Nat}(h:atMost (nesting.both x y) m=true):(atMost x m&&atMost y m)=true:=by
 cases x with
 |none=>cases y<;>cases h
 |some a=>
  cases y with
  |none=>cases h
  |some b=>
   have h:decide (max a b<=m)=true:=h
   have h:=of_decide_eq_true h
   show(decide (a<=m)&&decide (b<=m))=true
   rw[decide_eq_true (by lia:a<=m),decide_eq_true (by lia:b<=m)];rfl
theorem NQ{ns:List Span}{n m a b c:Nat}(h:atMost (gD nesting ((Bp.ends ns a b c).map λe=>Bp.jd nesting ns (tN ns n) b c e)) m=true):∃d,(Bp.ends ns a b c).find? (λz=>low ns n m b c z)=aa d:=by
 obtain⟨x,hx,g⟩:=QZ h
 obtain⟨e,he,rfl⟩:=bB.mp hx
 cases q:(Bp.ends ns a b c).find? (λz=>low ns n m b c z)with
 |some d=>exact⟨d,rfl⟩
 |none=>
  have:=lh.mp q e he
  exact absurd (Sf g) this
theorem uE{ns:List Span}{n:Nat}(WF:Bp.WF ns):∀f,(∀a b m,1<=a->a<b->b<=n->3*(b-a)<=f->atMost (partOf nesting (tN ns n) a b) m=true->pD ns (CQ ns n) CS m a b (Bp.vE ns (tN ns n) f m a b))/\
  (∀a b c i s m,1<=a->a+2<=b->b<=n->1<=m->Bp.At ns a b c i s->(c=a->3*(b-a)<=f+1)->(a<c->3*(b+1-c)<=f+2)->
    (c<=b->atMost (gD nesting ((Bp.ends ns a b c).map λe=>Bp.jd nesting ns (tN ns n) b c e)) (m-1)=true)->lX ns (CQ ns n) CS m a b c (Bp.mM ns (tN ns n) f (m-1) a b c))
 |0=>by
  refine⟨λa b k h1 h2 h3 h4=>by lia,λa b c i s m h1 h2 h3 hm hat g1 g2 hk=>?_⟩
  have hc:c=b+1:=by rcases hat with h|h<;>lia
  subst hc
  rw[Bp.mM]
  exact .nil _ _ _
 |f+1=>by
  obtain⟨i1,i2⟩:=uE WF f
  refine⟨λa b m h1 h2 h3 h4 hk=>?_,λa b c i s m h1 h2 h3 hm hat g1 g2 hk=>?_⟩
  ·rw[Bp.vE]
   by_cases e:b=a+1
   ·rw[if_pos e,e]
    exact .core _ _
   ·rw[if_neg e]
    rw[Ds Bp.rp WF h1 (by lia) h3]at hk
    generalize hs:gD nesting ((Bp.ends ns a b a).map λe=>Bp.jd nesting ns (tN ns n) b a e)=v at hk
    cases v with
    |none=>cases hk
    |some y=>
     have hk:decide (y+1<=m)=true:=hk
     have hk:=of_decide_eq_true hk
     refine .press _ _ _ _ (by lia) (i2 a b a 0 false m h1 (by lia) h3 (by lia) (.inl ⟨rfl,rfl,rfl⟩) (λ_=>by assumption) (λ_=>by lia) λ_=>?_)
     rw[hs]
     exact decide_eq_true (by lia)
  ·have hac:a<=c:=by rcases hat with h|h<;>lia
   have hcb:c<=b+1:=by rcases hat with h|h<;>lia
   rw[Bp.mM]
   by_cases e:c=b+1
   ·subst e
    rw[xP (by lia)]
    exact .nil _ _ _
   ·obtain⟨d,g⟩:=NQ (hk (by lia))
    have g':(Bp.ends ns a b c).find? (λd=>atMost (partOf nesting (tN ns n) c d) (m-1)&&atMost (Bp.restOf nesting ns (tN ns n) (d+1) b) (m-1))=aa d:=g
    rw[g']
    have hd:=gZ g
    have hlow:=List.find?_some g
    have hlow:(atMost (partOf nesting (tN ns n) c d) (m-1)&&atMost (Bp.restOf nesting ns (tN ns n) (d+1) b) (m-1))=true:=hlow
    rw[ak]at hlow
    have hmm:=Bp.dC hd hac
    refine .cons m m m (m-1) a b c d _ _ (by lia) hd ⟨hm,rfl,g⟩ ⟨hm,rfl,rfl⟩ ?_ ?_
    ·by_cases ec:c=d
     ·rw[if_pos ec,<-ec]
      exact .foil _ _
     ·rw[if_neg ec]
      refine i1 c d _ (by lia) (by lia) (by lia) ?_ hlow.1
      by_cases eca:c=a
      ·have:=g1 eca;have:=hmm.2.2.2 eca;lia
      ·have:=g2 (by lia);omega
    ·refine i2 a b (d+1) _ _ _ h1 h2 h3 hm (hat.starts h2 hd) (λz=>by lia) (λ_=>?_) λhle=>?_
     ·by_cases eca:c=a
      ·have:=g1 eca;lia
      ·have:=g2 (by lia);lia
     ·rw[<-DA Bp.rp WF _ hat h2 hd (by assumption)]
      exact hlow.2
end
end Bx
end
section
namespace Bx
open PySem PySem.Spec PyProof.Rows L2
open Vbpcau (State Span Plan Plans Alg counting tabOf partOf weightBefore)
section
variable{P:Program}{w:World}{K:af}{mg:Str->Option Value}{base:Heap}
theorem Ax(p:Plan):lg p=p.span.1/\l5 p=p.span.2:=by
 cases p with
 |foil k=>exact⟨rfl,rfl⟩
 |core a b=>exact⟨rfl,rfl⟩
 |press l=>exact⟨rfl,rfl⟩
theorem Aj{d:Nat}(g:Nat->Nat):∀{l:List Nat},l.Pairwise (·<·)->d∈l->weightBefore d (l.map λz=>(z,g z))=((l.filter λz=>decide (z<d)).map g).sum
 |[],_,h=>absurd h (by simp)
 |x::l,hs,h=>by
  rw[cS]at hs
  rw[aU,da]
  show(if x=d then 0 else g x+weightBefore d (l.map λz=>(z,g z)))=_
  by_cases e:x=d
  ·rw[if_pos e,decide_eq_false (by lia:¬x<d),if_neg (by decide)]
   rw[lO.mpr (λy hy=>by have:=hs.1 y hy;simp;lia)]
   rfl
  ·rw[if_neg e]
   have hd:d∈l:=(aG.mp h).resolve_left (λz=>e z.symm)
   rw[decide_eq_true (hs.1 d hd),if_pos rfl,aU,eX,Aj g hs.2 hd]
def Tj(ns:List Span)(p:Plan)(c d:Nat):Prop:=c<=d/\if c=d then p=.foil c else Bp.Good ns p c d
def wd(T:Tx K mg)(ns:List Span)(n:Nat)(dep:Nat):Sp:=λvs H Q _=>ex5 Q λ(a0 x:Addr)(p:Plan)(c d:Nat) Q=>vs=[.ref a0,.ref x]/\fu T.aV.C H p a0/\eQ T (eT (P:=P) (w:=w) (base:=base) T) ns n (cW ns n) (cR ns n) H x/\
 p.depth<=dep/\p.shown.length<=10000/\(1<=c/\d<=n)/\Tj ns p c d/\∀H',aJ H H'->Q (.int (Bp.numOf ns (uo ns n) p c d:Nat)) H'
theorem eV:aH ["part","ways","a","b","cuts","number","inner","ends","last"] ["part","ways"] (aq tV):=⟨rfl,rfl,rfl,by decide+kernel,rfl,by decide+kernel,by decide+kernel⟩
theorem uk(T:Tx K mg){ns:List Span}{n:Nat}(WF:Bp.WF ns)(hn:n<=24)(hfew:ns.length<=12)(hin:∀s∈ns,s.1<=24/\s.2<=24)(dep:Nat)
  (ih:∀m,dep=m+1->bw P w K mg base (du P w) (m+1+5) T.gq.f T.gq.fd ["part","ways"] (wd (P:=P) (w:=w) (base:=base) T ns n m)):
  bw P w K mg base (du P w) (dep+6) T.gq.f T.gq.fd ["part","ways"] (wd (P:=P) (w:=w) (base:=base) T ns n dep):=by
 have F:=rk ih
 refine T.gq.fn.okN eV (λvs H Q E zz0=>by obtain⟨_,_,_,_,_,e,_⟩:=zz0;rw[e];rfl) λcdv A outer s H vs Q E hr zz1=>?_
 obtain⟨a0,x,p,a,b,e,ha,wy,hdep,hz,⟨h1,h3⟩,⟨hab,hg⟩,k⟩:=zz1
 subst e
 obtain⟨dx,l,as,q1,q2,q3,q4⟩:=ha.top
 obtain⟨mm,l0,dW,dR,kW,kR,⟨⟨dxx,hx⟩,_⟩,hl0,_⟩:=id wy
 refine⟨_,ao (gi (o3 (kn (bb (dvs:=[]) (ds:=[]) (jt T) (hr.mono (by simp)) rfl T.dj.mg T.dj.kp T.dj.bi .nil aP (ab (pv 0) aj)))) (au (a8 bj)) cH)
  (ao (bK (i:=2) eV.nd rfl (Or.inl rfl) (ba (pv 0) rfl))
  (ao (bK (i:=3) eV.nd rfl (Or.inr rfl) (ba (pv 0) rfl))
  (ao (bK (i:=4) eV.nd rfl (Or.inl rfl) (bb (dvs:=[]) (ds:=[]) (vM T) (hr.mono (by simp)) rfl T.ke.mg T.ke.kp T.ke.bi .nil aP (ab (ba (pv 1) rfl) (ab (pv 2) (ab (pv 3) aj)))))
  (ao (bK (i:=5) eV.nd rfl (Or.inl rfl) bj)
  (ao (p8 dw rfl (fJ (ba (pv 0) rfl)) (cX (i:=6) eV.nd rfl (Or.inr rfl))
    (ao (bK (i:=7) eV.nd rfl (Or.inl rfl) (bb (dvs:=[]) (ds:=[]) (AV T) (hr.mono (by simp)) rfl T.n8.mg T.n8.kp T.n8.bi .nil aP (ab (pv 4) (ab (pv 2) (ab (pv 3) (ab (ba (pv 6) rfl) aj))))))
    (ao (IU (i:=5) eV.nd rfl (Or.inl rfl) (cg (HU rfl) rfl T.Nl (by decide+kernel) (ab
      (pQ (te:=BE T.bC.C "row" (Bv T (eT (P:=P) (w:=w) (base:=base) T)) [] E0 (fN 1) (gJ (BD K (fN 6) "first") (gJ (fN 8) (gJ (fN 3) mq)))) (tt:=DL (S7 (Pk λi j=>.bl (decide (i<j))) (fN 8) (BD K (fN 6) "last"))) (own:=[("last",8)]) rfl eV.nd (fJ (pv 7)) (fz (by with_unfolding_all rfl))
        (λ_ _ _ _ _=>cX (i:=8) eV.nd rfl (Or.inl rfl) (.inr rfl))
        (λ_ _ _ _ _=>rC (cI sh (pv 8) (ba (pv 6) rfl) (eE _)))
        (λ_ _ _ _ _=>cQ (dvs:=[]) (ds:=[]) (E:=E0) (pv 1) T.bC.cl T.gu.me (kY T (eT T)) (hr.mono (by simp)) T.gu.bi .nil aP (ab (ba (pv 6) rfl) (ab (pv 8) (ab (pv 3) aj))))) aj)) Ib)
    (au (IU (i:=5) eV.nd rfl (Or.inl rfl) (cZ A0
      (bb (dvs:=[]) (ds:=[]) F hr rfl T.gq.mg T.gq.kp T.gq.bi .nil aP (ab (pv 6) (ab (pv 1) aj)))
      (cQ (dvs:=[]) (ds:=[]) (E:=E0) (pv 1) T.bC.cl T.dH.me (jR T (eT T)) (hr.mono (by ac_rfl)) T.dH.bi .nil aP (ab (ba (pv 6) rfl) (ab (pv 3) aj)))) Ib)))))
  (au (a8 (pv 5)))))))),?_⟩
 refine⟨_,rfl,a0,p,rfl,ha,_,rfl,?_⟩
 cases p with
 |foil v=>exact eD (k H (aJ.refl _))
 |core y z=>exact eD (k H (aJ.refl _))
 |press L=>
  have hab2:a+2<=b/\Bp.il ns L a b a:=by
   by_cases e:a=b
   ·rw[if_pos e]at hg;cases hg
   ·rw[if_neg e,Bp.Good]at hg;exact hg
  obtain⟨hab2,hgf⟩:=hab2
  have lay:=Bp.oa L a b a (ah _) (by ac_rfl) hgf
  have ef:lg (.press L)=a:=by show L.layers.headD 0=a;rw[lay,Bp.qH (by omega)]
  have el:l5 (.press L)=b:=by show L.layers.getLastD 0=b;rw[lay,Bp.qI (by omega)];lia
  rw[ef,el]at q1
  obtain⟨md,rfl⟩:∃md,dep=md+1:=⟨dep-1,by rw[d8]at hdep;lia⟩
  have q3:gc T.aV.C H L as:=q3
  have hcnt:as.length=L.list.length:=q3.len
  refine fM ?_
  refine⟨_,rfl,a0,_,dx,_,_,rfl,q1,T.aV.cl,T.aV.no _ (by simp),j9 _ _ _,?_⟩
  refine⟨_,rfl,a0,_,dx,_,_,rfl,q1,T.aV.cl,T.aV.no _ (by simp),mz _ _ _,?_⟩
  refine⟨_,rfl,x,_,dxx,_,_,rfl,hx,T.bC.cl,T.bC.no _ (by simp),uT _ _ _ _,_,rfl,_,rfl,l0,a,b,ns,rfl,hl0,hfew,hin,⟨by lia,by lia⟩,λq H1 s1 nqH hq1=>?_⟩
  have eN:Bp.numOf ns (uo ns n) (.press L) a b=Bp.iR ns (uo ns n) L a b a:=by rw[Bp.numOf]
  rw[eN]at k
  refine⟨_,rfl,a0,_,dx,_,_,rfl,s1 _ _ q1,T.aV.cl,T.aV.no _ (by simp),mU _ _ _,l,rfl,⟨_,cJ.of (s1 _ _ q2)⟩,oU (K:=K) (a:=l) (xs:=as.map V.ref)
   (λi st H'=>(∃(num c:Nat)(rest:Plans)(y6 y7 y8:Option V),st=[aa (.ref a0),aa (.ref x),aa (.int a),aa (.int b),aa (.ref q),aa (.int (num:Nat)),y6,y7,y8]/\rest.list=L.list.drop i/\Bp.il ns rest a b c/\a<=c/\c<=b+1/\num+Bp.iR ns (uo ns n) rest a b c=Bp.iR ns (uo ns n) L a b a)/\aJ H1 H')
   ⟨⟨0,a,L,_,_,_,rfl,rfl,hgf,ah _,by ac_rfl,by simp⟩,aJ.refl _⟩ (λi st H' _ z=>cJ.of (z.2 _ _ (s1 _ _ q2))) (λi v st H' hv z=>?_) (λst H' z=>?_)⟩
  ·obtain⟨⟨num,c,rest,y6,y7,y8,rfl,hrl,hgr,hac,hcb,htot⟩,sH⟩:=z
   obtain⟨z,hcc,rfl⟩:=fB hv
   obtain⟨p',hp1,hp2⟩:=q3.get hcc
   rw[FV hp1]at hrl
   obtain⟨rest',rfl,hrl'⟩:∃rest',rest=.cons p' rest'/\rest'.list=L.list.drop (i+1):=by
    cases rest with
    |nil=>cases hrl
    |cons p2 r2=>
     obtain⟨e1,e2⟩:=fO hrl
     exact⟨r2,by rw[e1],e2⟩
   rw[Bp.il]at hgr
   obtain⟨d,hd,hpg,hgr'⟩:=hgr
   have hm:=Bp.dC hd hac
   obtain⟨es,_⟩:=Bp.Df hm.1 hpg
   have hmem:=oX hp1
   obtain⟨fs1,fs2⟩:=Ax p'
   rw[es]at fs1 fs2
   have fs1:lg p'=c:=fs1
   have fs2:l5 p'=d:=fs2
   obtain⟨dx2,l2,as2,t1,t2,t3,t4⟩:=hp2.top
   rw[fs1,fs2]at t1
   have sA:=s1.trans sH
   have en:Bp.iR ns (uo ns n) (.cons p' rest') a b c=weightBefore d (Bp.iJ ns (uo ns n) a b c)+(Bp.numOf ns (uo ns n) p' c d*DD ns n d b+Bp.iR ns (uo ns n) rest' a b (d+1)):=by
    rw[Bp.iR,es]
   have hcb2:c<=b:=by lia
   refine⟨_,rfl,_,rfl,_,rfl,_,rfl,z,_,dx2,_,_,rfl,sA _ _ t1,T.aV.cl,T.aV.no _ (by simp),j9 _ _ _,q,a,b,c,_,rfl,sH _ _ hq1,?_,λe H2 s2 neH he=>?_⟩
   ·have:=Ap (ns:=ns) (a:=a) (b:=b)
    lia
   rw[J0 hcb2]at he
   have s12:=sA.trans s2
   refine⟨_,rfl,_,rfl,e,rfl,⟨_,cJ.of he⟩,λD hD=>?_⟩
   have Fz:=yN ns a b c
   have hlen:=FW (ns:=ns) (a:=a) (b:=b) (c:=c)
   have mem:∀z∈Bp.ends ns a b c,c<=z/\z<=b:=λz hz=>by have:=Bp.dC hz hac;exact⟨this.1,this.2.1⟩
   have ew:weightBefore d (Bp.iJ ns (uo ns n) a b c)=(((Bp.ends ns a b c).filter λz=>decide (z<d)).map λz=>wt ns n c b z).sum:=Aj (λz=>wt ns n c b z) Fz hd
   generalize hL:Bp.ends ns a b c=E' at he hd Fz hlen mem ew
   refine jG (K:=K) (a:=e) (xs:=nI E') (λj H'=>aJ H2 H'/\H' D=aa (.lst (nI (((E'.take j).filter λz=>decide (z<d)).map λz=>wt ns n c b z)))) ⟨aJ.upd hD,ag⟩ (λj H' _ z=>cJ.of (z.1 _ _ he)) (λj v H3 hv2 zz=>?_) (λH3 zz=>?_)
   ·obtain⟨y,hy,rfl⟩:=x3 hv2
    obtain⟨sH3,hDl⟩:=zz
    have hmy:=mem y (bY hy)
    have s13:=s12.trans sH3
    obtain⟨m',l',dW',dR',kW',kR',b1,b2,b3,b4,b5⟩:=(wy.same s13).row (f:=c) (by lia) hmy.1 hmy.2 h3
    refine⟨rfl,_,rfl,_,rfl,z,_,dx2,_,_,rfl,s13 _ _ t1,T.aV.cl,T.aV.no _ (by simp),mz _ _ _,_,_,rfl,rfl,_,rfl,?_⟩
    rw[take_snoc hy,cB,da,fQ,show decide (((y:Nat):Int)<((d:Nat):Int))=decide (y<d)from decide_eq_decide.mpr (by simp)]
    by_cases qq:y<d
    ·rw[decide_eq_true qq]
     refine eD ⟨_,rfl,x,dxx,_,rfl,s13 _ _ hx,yw _ _ _ _,_,rfl,z,_,dx2,_,_,rfl,s13 _ _ t1,T.aV.cl,T.aV.no _ (by simp),j9 _ _ _,_,rfl,_,rfl,x,m',l',dW',dR',kW',kR',_,_,_,_,_,rfl,b1,b2,b3,b4,b5,tO T WF hn (by lia) hmy.1 (by lia) _,λH4 s4=>?_⟩
     rw[ya]
     refine⟨_,s4 _ _ hDl,?_,(sH3.trans s4).pC hD,?_⟩
     ·rw[jQ,ae]
      refine eB (bP _ _) ?_
      rw[bH,sizeLine_eq];omega
     ·rw[ag,if_pos rfl,aB,xZ];rfl
    ·rw[decide_eq_false qq]
     refine fM ⟨sH3,?_⟩
     rw[if_neg (by decide),aZ];exact hDl
   ·obtain⟨sH3,hDl⟩:=zz
    rw[jQ,bF]at hDl
    have s13:=s12.trans sH3
    refine⟨D,_,rfl,cJ.of hDl,_,_,rfl,rfl,?_⟩
    rw[<-Bz,<-ew]
    have hz':p'.shown.length<=10000:=aX (shown_le hmem) hz
    refine⟨_,rfl,_,rfl,_,rfl,md,rfl,z,x,p',c,d,rfl,hp2.same s13,wy.same s13,?_,hz',⟨by lia,by lia⟩,⟨hm.1,hpg⟩,λH5 s5=>?_⟩
    ·have:=kS hmem
     rw[d8]at hdep
     lia
    have s15:=s13.trans s5
    obtain⟨m',l',dW',dR',kR',b1,b2,b3⟩:=(wy.same s15).V3 hm.2.1 h3
    refine⟨_,rfl,x,dxx,_,rfl,s15 _ _ hx,yu _ _ _ _,_,rfl,z,_,dx2,_,_,rfl,s15 _ _ t1,T.aV.cl,T.aV.no _ (by simp),mz _ _ _,_,rfl,x,m',l',dW',dR',kR',_,_,_,rfl,b1,b2,b3,λH6 s6=>?_⟩
    rw[Ag]
    have small:((DD ns n d b:Nat):Int)<2^64:=by
     by_cases e:d=b
     ·rw[e,show DD ns n b b=1 from Bp.iU _ _];decide
     ·have:=KO WF hn (a:=d+1) (b:=b) (by ac_rfl) (by lia) h3
      have:((DD ns n d b:Nat):Int)<2^60:=by exact_mod_cast this
      lia
    refine⟨_,_,rfl,rfl,.inr ⟨by lia,small⟩,_,_,rfl,rfl,⟨num+weightBefore d (Bp.iJ ns (uo ns n) a b c)+Bp.numOf ns (uo ns n) p' c d*DD ns n d b,d+1,rest',aa (.ref z),aa (.ref e),y8,?_,hrl',hgr',by lia,by lia,?_⟩,(sH.trans s2).trans (sH3.trans (s5.trans s6))⟩
    ·rw[uw,uw,oM]
     rfl
    ·rw[en]at htot
     lia
  ·obtain⟨⟨num,c,rest,y6,y7,y8,rfl,hrl,hgr,hac,hcb,htot⟩,sH⟩:=z
   rw[ae,hcnt,O7]at hrl
   have:rest=.nil:=by
    cases rest with
    |nil=>rfl
    |cons p2 r2=>cases hrl
   subst this
   have en:Bp.iR ns (uo ns n) .nil a b c=0:=by rw[Bp.iR]
   rw[en]at htot
   have htot:num=Bp.iR ns (uo ns n) L a b a:=by assumption
   rw[<-htot]at k
   exact⟨_,rfl,k H' (s1.trans sH)⟩
theorem ED(T:Tx K mg){ns:List Span}{n:Nat}(WF:Bp.WF ns)(hn:n<=24)(hfew:ns.length<=12)(hin:∀s∈ns,s.1<=24/\s.2<=24)(dep:Nat):
  bw P w K mg base (du P w) (dep+6) T.gq.f T.gq.fd ["part","ways"] (wd (P:=P) (w:=w) (base:=base) T ns n dep):=by
 induction dep with
 |zero=>exact uk T WF hn hfew hin 0 λm h=>by lia
 |succ n ih=>
  refine uk T WF hn hfew hin (n+1) λm h=>?_
  obtain rfl:n=m:=by lia
  exact ih
end
end Bx
end
section
namespace Bx
open PySem PySem.Spec PyProof.Rows L2
open Vbpcau (State Span Plan Plans planOf decimal)
theorem Ec:∀k,k<100->(decimal k).length<=2:=by decide+kernel
mutual
theorem Kb:∀{p:Plan},fit p->Nt p
 |.foil k,h=>by have h:k<100:=h;show k<1000;lia
 |.core a b,h=>by
  obtain⟨h1,h2,h3⟩:=h
  exact⟨h1,by lia,by lia⟩
 |.press l,h=>⟨λz=>by
   have:=h.1
   rw[z]at this
   exact absurd this (by show¬2<=0;decide),F6 h.2⟩
theorem F6:∀{l:Plans},fits l->Nu l
 |.nil,_=>trivial
 |.cons p l,h=>⟨Kb h.1,F6 h.2⟩
end
mutual
theorem HY:∀{p:Plan},fit p->full p/\p.shown.length+4<=10*p.layers.length/\p.depth+1<=p.layers.length/\p.work.length+1<=2*p.layers.length
 |.foil k,h=>by
  have:=Ec k h
  refine⟨trivial,?_,ah _,by show 0+1<=2*1;decide⟩
  show(decimal k).length+4<=10*1
  lia
 |.core a b,h=>by
  obtain⟨_,h2,h3⟩:=h
  have e1:=Ec a h2
  have e2:=Ec b h3
  refine⟨trivial,?_,by show 0+1<=2;lia,by show 1+1<=2*2;lia⟩
  show(91::(decimal a++(32::(decimal b++[93])))).length+4<=10*2
  simp only[aF,ai,fh]
  lia
 |.press l,h=>by
  obtain⟨f1,f2,f3,f4,f5⟩:=Kc h.2
  have hl:=h.1
  refine⟨⟨λz=>?_,f1⟩,?_,?_,?_⟩
  ·rw[z]at f5;have f5:l.list.length<=0:=f5;lia
  ·show(40::(l.shown++[41])).length+4<=10*l.layers.length
   simp only[aF,ai,fh]
   lia
  ·show l.depth+1+1<=l.layers.length
   lia
  ·show(l.work++[_]).length+1<=2*l.layers.length
   simp only[aF,ai,fh]
   lia
theorem Kc:∀{l:Plans},fits l->F8 l/\(l.list.length=0\/l.shown.length+3*l.list.length+1<=10*l.layers.length)/\l.depth+l.list.length<=l.layers.length/\l.work.length+l.list.length<=2*l.layers.length/\l.list.length<=l.layers.length
 |.nil,_=>⟨trivial,.inl rfl,by show 0+0<=0;lia,by show 0+0<=0;lia,ah _⟩
 |.cons p .nil,h=>by
  obtain⟨e1,e2,e3,e4⟩:=HY h.1
  have el:(Plans.cons p .nil).layers=p.layers++[]:=rfl
  rw[aZ]at el
  refine⟨⟨e1,trivial⟩,?_,?_,?_,?_⟩
  ·refine .inr ?_
   show p.shown.length+3*1+1<=_
   rw[el];lia
  ·show max p.depth 0+1<=_
   rw[el];lia
  ·show(p.work++[]).length+1<=_
   rw[aZ,el];lia
  ·show 1<=_
   rw[el];lia
 |.cons p (.cons q l),h=>by
  obtain⟨e1,e2,e3,e4⟩:=HY h.1
  obtain⟨f1,f2,f3,f4,f5⟩:=Kc (l:=.cons q l) h.2
  have el:(Plans.cons p (.cons q l)).layers.length=p.layers.length+(Plans.cons q l).layers.length:=ai
  have en:(Plans.cons p (.cons q l)).list.length=(Plans.cons q l).list.length+1:=rfl
  rw[el,en]
  refine⟨⟨e1,f1⟩,?_,?_,?_,?_⟩
  ·refine .inr ?_
   show(p.shown++(32::Plans.shown (.cons q l))).length+_+1<=_
   have eq:(Plans.cons q l).list.length=l.list.length+1:=rfl
   rw[ai,aF];lia
  ·show max p.depth (Plans.cons q l).depth+_<=_
   lia
  ·show(p.work++(Plans.cons q l).work).length+_<=_
   rw[ai];lia
  ·lia
end
mutual
theorem DH:∀{p:Plan},p.sound=true->(∀k∈p.layers,k<100)->fit p
 |.foil k,_,h=>h k (aK.mpr rfl)
 |.core a b,h,hk=>by
  have h:(b==a+1)=true:=h
  have h:b=a+1:=by simpa using h
  exact⟨by lia,hk a ay,hk b (ax _ ay)⟩
 |.press l,h,hk=>by
  rw[Plan.sound,ak,ak,ak,ak]at h
  exact⟨of_decide_eq_true h.1,Bt h.2.2.2.2 hk⟩
theorem Bt:∀{l:Plans},l.sound=true->(∀k∈l.layers,k<100)->fits l
 |.nil,_,_=>trivial
 |.cons p l,h,hk=>by
  rw[Plans.sound,ak]at h
  exact⟨DH h.1 λk z=>hk k (jM _ z),Bt h.2 λk z=>hk k (b7 _ z)⟩
end
structure kj(n:Nat)(p:Plan):Prop where
 fit:fit p
 lay:p.layers=br 1 n
theorem kj.of{n:Nat}{p:Plan}(hn:n<=24)(h:planOf n p=true):kj n p:=by
 unfold planOf at h
 rw[ak,ak]at h
 have hl:=of_decide_eq_true h.2.2
 have e:(bA n).map (λi=>i+1)=br 1 n:=by
  rw[kN]
  exact bg λi _=>zk _ _
 rw[e]at hl
 refine⟨DH h.2.1 λk hk=>?_,hl⟩
 rw[hl,yC]at hk
 lia
theorem kj.bounds{n:Nat}{p:Plan}(h:kj n p)(hn:n<=24):Nt p/\full p/\p.shown.length<=240/\p.depth<=24/\p.work.length<=48:=by
 obtain⟨f1,f2,f3,f4⟩:=HY h.fit
 have e:p.layers.length=n:=by rw[h.lay,cp]
 rw[e]at f2 f3 f4
 exact⟨Kb h.fit,f1,by lia,by lia,by lia⟩
end Bx
end
section
namespace Bx
open PySem PySem.Spec PyProof.Rows L2
open Vbpcau (State Span Plan Plans Alg counting pressing nesting tabOf partOf whole firstClash crosses countOf)
theorem eZ.wf{st:State}(h:eZ st):Bp.WF st.needs:=λs hs=>(h.Cn s hs).2.1
theorem eZ.zu{st:State}(h:eZ st):∀s∈st.needs,s.1<=24/\s.2<=24:=λs hs=>by
 have:=h.Cn s hs
 have:=h.hi
 lia
theorem oT:∀{ns:List Span},ns.Pairwise BS->firstClash ns=none->Bp.d4 ns
 |[],_,_=>λs hs=>absurd hs (by simp)
 |x::r,hs,h=>by
  rw[cS]at hs
  have h:(match r.find? (crosses x)with|some u=>aa (x,u)|none=>firstClash r)=none:=h
  cases q:r.find? (crosses x)with
  |some u=>rw[q]at h;cases h
  |none=>
   rw[q]at h
   have ih:=oT hs.2 h
   have hf:=lh.mp q
   have no:∀s u:Span,u.1<=s.1->crosses s u=false:=λs u hu=>by
    unfold crosses
    exact decide_eq_false λz=>by lia
   intro s hs' u hu
   rcases aG.mp hs' with e1|e1
   ·rcases aG.mp hu with e2|e2
    ·rw[e1,e2];exact no _ _ (ah _)
    ·rw[e1];exact yz.mpr (hf u e2)
   ·rcases aG.mp hu with e2|e2
    ·rw[e2]
     have:=hs.1 s e1
     unfold BS at this
     exact no _ _ (by lia)
    ·exact ih s e1 u e2
theorem CM:∀{ns:List Span}{x:Span×Span},firstClash ns=aa x->x.1∈ns/\x.2∈ns/\crosses x.1 x.2=true
 |[],x,h=>by cases h
 |y::r,x,h=>by
  have h:(match r.find? (crosses y)with|some u=>aa (y,u)|none=>firstClash r)=aa x:=h
  cases q:r.find? (crosses y)with
  |some u=>
   rw[q]at h
   have h:(y,u)=x:=bq h
   subst h
   exact⟨ay,ax _ (gZ q),List.find?_some q⟩
  |none=>
   rw[q]at h
   obtain⟨h1,h2,h3⟩:=CM (ns:=r) h
   exact⟨ax _ h1,ax _ h2,h3⟩
theorem gv{α:Type}{A:Alg α}{ns:List Span}{n:Nat}(h:2<=n):partOf A (tabOf A ns n) 1 n=whole A ns n:=by
 unfold partOf whole
 rw[if_neg (by ac_rfl)]
theorem pq{α:Type}{A:Alg α}(L:Bp.Jx A){st:State}(so:eZ st){x:Span×Span}(h:firstClash st.needs=aa x):whole A st.needs st.n=A.none:=by
 obtain⟨h1,h2,h3⟩:=CM h
 have r1:=so.Cn _ h1
 have r2:=so.Cn _ h2
 exact Bp.HQ L h1 h2 h3 _ 1 st.n rfl (ah _) (ah _) r1.1 r2.2.2
theorem rX{A:Alg (Option Nat)}(L:Bp.Laws2 A)(S:Bp.va A){st:State}(so:eZ st)(h:firstClash st.needs=none):∃k,whole A st.needs st.n=aa k:=by
 have:=(Bp.all_some L S so.wf (oT so.Fz h) _ 1 st.n rfl (ah _) (ah _)).1 (by have:=so.lo;assumption)
 exact kc.mp this
section
variable{P:Program}{w:World}{K:af}{mg:Str->Option Value}{base:Heap}
def qR(T:Tx K mg)(μ:yD P w K mg base)(ns:List Span)(n:Nat)(W:Nat->Nat->Int):Sp:=λvs H Q _=>ex3 Q λm dxm b Q=>vs=[.ref m,.ref b]/\H m=aa (.ins μ.C dxm μ.fs)/\jb T.aL.C H b ⟨n,ns⟩/\∀H',aJ H H'->Q (.int (W 1 n)) H'
theorem pT:aH ["measure","board","ways"] ["measure","board"] (aq mi):=⟨rfl,rfl,rfl,by decide+kernel,rfl,by decide+kernel,by decide+kernel⟩
theorem oF{H H':Hp}{x dx:Addr}{o:HO}(nx:H x=none)(ndx:H dx=none)(ne:dx≠x)(bt:sI x (upd (upd H dx (.own x)) x o) H'):aJ H H':=λa u e=>by
 refine bt a u ?_ (aA e nx)
 rw[az (aA e nx),az (aA e ndx)];exact e
theorem wX(T:Tx K mg)(μ:yD P w K mg base){ns:List Span}{n:Nat}{W R:Nat->Nat->Int}(S:Sem μ ns n W R)(hn0:1<=n)(hn:n<=24)(hfew:ns.length<=12)(hin:∀s∈ns,s.1<=24/\s.2<=24):
  bw P w K mg base (du P w) 8 T.a7.f T.a7.fd ["measure","board"] (qR T μ ns n W):=by
 refine T.a7.fn.okN pT (λvs H Q E zz0=>by obtain⟨_,_,_,e,_⟩:=zz0;rw[e];rfl) λcdv A outer s H vs Q E hr zz1=>?_
 obtain⟨m,dxm,b,e,hm,hb,k⟩:=zz1
 subst e
 refine⟨_,ao (bK (i:=2) pT.nd rfl (Or.inl rfl) (gW (dvs:=[]) (ds:=[]) (E:=E0) T.Gr (lH T μ S hn hfew hin) (hr.mono (by decide)) rfl T.bC.mg T.gm.bi .nil aP (ab (pv 0) (ab (pv 1) aj))))
  (au (a8 (uJ (r9 hr) (ba (pv 2) rfl) (iE (ab bj (ab (ba (pv 1) rfl) aj))) (λ_ _=>rfl)))),?_⟩
 obtain⟨dxb,l,hb1,hb2⟩:=id hb
 refine⟨_,rfl,_,rfl,λx dx nx ndx ne=>?_⟩
 have sX:aJ H (upd (upd H dx (.own x)) x (.ins T.bC.C dx [])):=(aJ.upd ndx).trans (aJ.upd (by rw[az ne.symm];exact nx))
 refine⟨x,dx,m,dxm,b,rfl,ag,sX _ _ hm,(aA hm nx).symm,(aA hb1 nx).symm,hb.same sX,λH1 wy bt=>⟨rfl,?_⟩⟩
 have s1:=oF nx ndx ne bt
 obtain⟨m',l',dW,dR,kW,kR,⟨⟨dxx,hx⟩,_⟩,_,hW,_,aW,_⟩:=wy
 refine⟨_,rfl,x,_,dxx,_,_,rfl,hx,T.bC.cl,T.bC.no _ (by simp),pw _ _ _ _,_,rfl,b,_,dxb,_,_,rfl,s1 _ _ hb1,T.aL.cl,T.aL.no _ (by simp),cn _ _ _,(by show 2<=sizeLine;decide),λt ht=>?_⟩
 refine⟨dW,.int (W 1 n),rfl,?_,k _ (s1.trans (aJ.upd ht))⟩
 rw[<-aW 1 n (ah _) hn0 (ah _)]
 exact uU.t (aJ.upd ht _ _ hW) ag
def Hc(T:Tx K mg):Sp:=λvs H Q E=>ex2 Q λb st Q=>vs=[.ref b]/\jb T.aL.C H b st/\eZ st/\match firstClash st.needs with
 |none=>∀H',aJ H H'->Q .iD H'
 |some _=>ER K T.bx.C (-4) H E
theorem wb:aH ["board"] ["board"] (aq lK):=⟨rfl,rfl,rfl,by decide+kernel,rfl,by decide+kernel,by decide+kernel⟩
theorem iT(T:Tx K mg):bw P w K mg base (du P w) 5 T.bZ.f T.bZ.fd ["board"] (Hc T):=by
 refine T.bZ.fn.qX wb (λvs H Q E zz2=>by obtain⟨_,_,e,_⟩:=zz2;rw[e];rfl) λcdv A outer s H vs Q E hr zz3=>?_
 obtain⟨b,st,e,hb,so,k⟩:=zz3
 subst e
 obtain⟨dxb,l,hb1,hb2⟩:=id hb
 refine⟨_,au (gi (cI Dq (cg cP rfl T.nQ cz (ab (eu (dvs:=[]) (ds:=[]) (E:=E0) (pv 0) T.aL.cl T.eJ.me (mQ T) (hr.mono (by decide)) T.eJ.bi .nil aP) aj)) bj (eE _))
  (au (iF iQ T.P0 T.lE.ty (AO T) (hr.mono (by decide)) rfl T.lE.mg T.mG.bi)) cH),?_⟩
 refine⟨_,rfl,b,dxb,_,rfl,hb1,pJ _ _ (by decide+kernel) (by decide+kernel),b,st,rfl,hb,so,λl1 H1 s1 hl1=>?_⟩
 refine⟨l1,_,rfl,.inl (cJ.of hl1),_,_,rfl,rfl,_,rfl,?_⟩
 rw[ae]
 cases q:firstClash st.needs with
 |none=>
  rw[q]at k
  exact fM (k _ s1)
 |some x=>
  rw[q]at k
  exact eD ⟨rfl,_,rfl,k.at T.PU T.lE.gt T.lE.no s1⟩
theorem iM{H:Hp}{C x dx:Addr}(nx:H x=none)(ndx:H dx=none)(ne:dx≠x){fs:List (Str×V)}:aJ H (upd (upd H dx (.own x)) x (.ins C dx fs)):=(aJ.upd ndx).trans (aJ.upd (by rw[az ne.symm];exact nx))
def QR(T:Tx K mg):Sp:=λvs H Q _=>ex2 Q λb st Q=>vs=[.ref b]/\jb T.aL.C H b st/\eZ st/\∀H',aJ H H'->Q (.int (countOf st:Nat)) H'
theorem Bk:aH ["board"] ["board"] (aq qh):=⟨rfl,rfl,rfl,by decide+kernel,rfl,by decide+kernel,by decide+kernel⟩
theorem zT{f:Addr}{fd:FuncData}{ps:List Str}{k:Nat}{sp:Sp}{ι:Type}(g:ι->Sp)(cases':∀vs H Q E,sp vs H Q E->∃i,g i vs H Q E/\bw P w K mg base (du P w) k f fd ps (g i)):bw P w K mg base (du P w) k f fd ps sp:=by
 refine⟨λvs H Q E q=>?_,λA outer s H args us vs Q E hr he hb hv q=>?_⟩
 ·obtain⟨i,h1,h2⟩:=cases' vs H Q E q
  exact h2.len vs H Q E h1
 ·obtain⟨i,h1,h2⟩:=cases' vs H Q E q
  exact h2.run A outer s H args us vs Q E hr he hb hv h1
def SS(T:Tx K mg):Sp:=λvs H Q E=>ex1 Q λ(x:State) Q=>eZ x/\qR T (eT (P:=P) (w:=w) (base:=base) T) x.needs x.n (cW x.needs x.n) vs H Q E
theorem Qk(T:Tx K mg):bw P w K mg base (du P w) 8 T.a7.f T.a7.fd ["measure","board"] (SS (P:=P) (w:=w) (base:=base) T):=by
 have each:∀x:State,eZ x->bw P w K mg base (du P w) 8 T.a7.f T.a7.fd ["measure","board"] (qR T (eT (P:=P) (w:=w) (base:=base) T) x.needs x.n (cW x.needs x.n)):=λx hx=>by
  have h:=yj (P:=P) (w:=w) (base:=base) T hx.wf hx.hi
  exact wX T (eT (P:=P) (w:=w) (base:=base) T) h (aX (by decide) hx.lo) hx.hi hx.wH hx.zu
 refine zT (λx:State=>qR T (eT (P:=P) (w:=w) (base:=base) T) x.needs x.n (cW x.needs x.n)) ?_
 intro vs H Q E h
 obtain⟨x,hx,q⟩:=h
 exact⟨x,q,each x hx⟩
def SW(T:Tx K mg):Sp:=λvs H Q E=>ex1 Q λ(x:State×Nat) Q=>(eZ x.1/\x.2<=1000000)/\qR T (qJ (P:=P) (w:=w) (base:=base) T (x.2:Nat)) x.1.needs x.1.n (wW x.2 x.1.needs x.1.n) vs H Q E
theorem Qn(T:Tx K mg):bw P w K mg base (du P w) 8 T.a7.f T.a7.fd ["measure","board"] (SW (P:=P) (w:=w) (base:=base) T):=by
 have each:∀x:State×Nat,(eZ x.1/\x.2<=1000000)->bw P w K mg base (du P w) 8 T.a7.f T.a7.fd ["measure","board"] (qR T (qJ (P:=P) (w:=w) (base:=base) T (x.2:Nat)) x.1.needs x.1.n (wW x.2 x.1.needs x.1.n)):=λx hx=>by
  have h:=Jg (P:=P) (w:=w) (base:=base) T (n:=x.1.n) hx.1.wf hx.2
  exact wX T (qJ (P:=P) (w:=w) (base:=base) T (x.2:Nat)) h (aX (by decide) hx.1.lo) hx.1.hi hx.1.wH hx.1.zu
 refine zT (λx:State×Nat=>qR T (qJ (P:=P) (w:=w) (base:=base) T (x.2:Nat)) x.1.needs x.1.n (wW x.2 x.1.needs x.1.n)) ?_
 intro vs H Q E h
 obtain⟨x,hx,q⟩:=h
 exact⟨x,q,each x hx⟩
def SV(T:Tx K mg):Sp:=λvs H Q E=>ex1 Q λ(x:State) Q=>(eZ x/\firstClash x.needs=none)/\qR T (lQ (P:=P) (w:=w) (base:=base) T) x.needs x.n (fW pressing x.needs x.n) vs H Q E
theorem Qm(T:Tx K mg):bw P w K mg base (du P w) 8 T.a7.f T.a7.fd ["measure","board"] (SV (P:=P) (w:=w) (base:=base) T):=by
 have each:∀x:State,(eZ x/\firstClash x.needs=none)->bw P w K mg base (du P w) 8 T.a7.f T.a7.fd ["measure","board"] (qR T (lQ (P:=P) (w:=w) (base:=base) T) x.needs x.n (fW pressing x.needs x.n)):=λx hx=>by
  have h:=KQ (P:=P) (w:=w) (base:=base) T (n:=x.n) hx.1.wf (oT hx.1.Fz hx.2)
  exact wX T (lQ (P:=P) (w:=w) (base:=base) T) h (aX (by decide) hx.1.lo) hx.1.hi hx.1.wH hx.1.zu
 refine zT (λx:State=>qR T (lQ (P:=P) (w:=w) (base:=base) T) x.needs x.n (fW pressing x.needs x.n)) ?_
 intro vs H Q E h
 obtain⟨x,hx,q⟩:=h
 exact⟨x,q,each x hx⟩
def SU(T:Tx K mg):Sp:=λvs H Q E=>ex1 Q λ(x:State) Q=>(eZ x/\firstClash x.needs=none)/\qR T (nU (P:=P) (w:=w) (base:=base) T) x.needs x.n (fW nesting x.needs x.n) vs H Q E
theorem Ql(T:Tx K mg):bw P w K mg base (du P w) 8 T.a7.f T.a7.fd ["measure","board"] (SU (P:=P) (w:=w) (base:=base) T):=by
 have each:∀x:State,(eZ x/\firstClash x.needs=none)->bw P w K mg base (du P w) 8 T.a7.f T.a7.fd ["measure","board"] (qR T (nU (P:=P) (w:=w) (base:=base) T) x.needs x.n (fW nesting x.needs x.n)):=λx hx=>by
  have h:=KP (P:=P) (w:=w) (base:=base) T (n:=x.n) hx.1.wf (oT hx.1.Fz hx.2)
  exact wX T (nU (P:=P) (w:=w) (base:=base) T) h (aX (by decide) hx.1.lo) hx.1.hi hx.1.wH hx.1.zu
 refine zT (λx:State=>qR T (nU (P:=P) (w:=w) (base:=base) T) x.needs x.n (fW nesting x.needs x.n)) ?_
 intro vs H Q E h
 obtain⟨x,hx,q⟩:=h
 exact⟨x,q,each x hx⟩
theorem AS(T:Tx K mg):bw P w K mg base (du P w) 10 T.kP.f T.kP.fd ["board"] (QR T):=by
 refine T.kP.fn.okN Bk (λvs H Q E zz4=>by obtain⟨_,_,e,_⟩:=zz4;rw[e];rfl) λcdv A outer s H vs Q E hr zz5=>?_
 obtain⟨b,st,e,hb,so,k⟩:=zz5
 subst e
 refine⟨_,au (a8 (bb (dvs:=[]) (ds:=[]) (Qk T) (hr.mono (by decide)) rfl T.a7.mg T.a7.kp T.a7.bi .nil aP (ab (mT T.Ig rfl T.nB.mg) (ab (pv 0) aj)))),?_⟩
 refine λx dx nx ndx ne=>⟨_,rfl,st,so,x,dx,b,rfl,ag,hb.same (iM nx ndx ne),λH1 s1=>?_⟩
 show Q (.int ((partOf (counting 1) (uo st.needs st.n) 1 st.n:Nat):Int)) H1
 rw[gv so.lo]
 exact k _ ((iM nx ndx ne).trans s1)
def QW(T:Tx K mg):Sp:=λvs H Q E=>ex3 Q λb st v Q=>vs=[.ref b,.int v]/\jb T.aL.C H b st/\eZ st/\if 0<=v/\v<=1000000 then∀H',aJ H H'->Q (.int ((whole (counting v.toNat) st.needs st.n%Fy:Nat):Int)) H' else ER K T.bx.C (-1) H E
theorem Bo:aH ["board","weight"] ["board","weight"] (aq qm):=⟨rfl,rfl,rfl,by decide+kernel,rfl,by decide+kernel,by decide+kernel⟩
theorem AY(T:Tx K mg):bw P w K mg base (du P w) 10 T.k9.f T.k9.fd ["board","weight"] (QW T):=by
 refine T.k9.fn.qX Bo (λvs H Q E zz6=>by obtain⟨_,_,_,e,_⟩:=zz6;rw[e];rfl) λcdv A outer s H vs Q E hr zz0=>?_
 obtain⟨b,st,v,e,hb,so,k⟩:=zz0
 subst e
 refine⟨_,ao (gi (o3 (tL pO pO bj (pv 1) (cM T.Fp rfl)))
   (au (iF iQ T.tE T.b6.ty (km T) (hr.mono (by decide)) rfl T.b6.mg T.fK.bi)) cH)
  (au (a8 (bb (dvs:=[]) (ds:=[]) (Qn T) (hr.mono (by decide)) rfl T.a7.mg T.a7.kp T.a7.bi .nil aP
    (ab (gW (dvs:=[]) (ds:=[]) (E:=E0) T.P2 (AR T) (hr.mono (by decide)) rfl T.ie.mg T.mK.bi .nil aP (ab (pv 1) aj)) (ab (pv 0) aj))))),?_⟩
 have bad:¬(0<=v/\v<=1000000)->uq E T.b6.C (λ_=>aa (-1)) 0 mq {nx:=λ_ H'=>Q .iD H',rt:=Q} (start ["board","weight"] [.ref b,.int v]) H:=λhn=>by
  rw[if_neg hn]at k
  exact⟨rfl,_,rfl,k.at T.tp T.b6.gt T.b6.no (aJ.refl _)⟩
 refine⟨_,rfl,_,_,rfl,rfl,_,rfl,?_⟩
 refine zw (λh1=>?_) (λh1=>?_)
 ·have h1':=of_decide_eq_true h1
  refine⟨_,_,rfl,rfl,_,rfl,?_⟩
  by_cases h2:v<=1000000
  ·rw[decide_eq_true h2]
   refine fM ?_
   rw[if_pos ⟨h1',h2⟩]at k
   refine⟨_,rfl,λx dx nx ndx ne=>?_⟩
   refine⟨x,dx,v,rfl,ag,rfl,?_⟩
   rw[ik]
   have ev:((v.toNat:Nat):Int)=v:=kh h1'
   refine⟨_,rfl,(st,v.toNat),⟨so,(by show v.toNat<=1000000;lia)⟩,x,dx,b,rfl,(by rw[ag];show aa (HO.ins T.ie.C dx [("weight",.int v)])=aa (HO.ins T.ie.C dx [("weight",.int ((v.toNat:Nat):Int))]);rw[ev]),hb.same (iM nx ndx ne),λH1 s1=>?_⟩
   show Q (.int (((partOf (counting v.toNat) (tabOf (counting v.toNat) st.needs st.n) 1 st.n:Nat):Int)%zJ)) H1
   rw[gv so.lo]
   have:=k _ ((iM nx ndx ne).trans s1)
   rw[Ac]at this
   exact this
  ·rw[decide_eq_false h2]
   exact eD (bad λz=>h2 z.2)
 ·refine⟨_,rfl,?_⟩
  exact eD (bad λz=>h1 (decide_eq_true z.1))
def KW(T:Tx K mg)(A:Alg (Option Nat)):Sp:=λvs H Q E=>ex2 Q λb st Q=>vs=[.ref b]/\jb T.aL.C H b st/\eZ st/\match whole A st.needs st.n with
 |some k=>∀H',aJ H H'->Q (.int (k:Nat)) H'
 |none=>ER K T.bx.C (-4) H E
theorem xj:aH ["board"] ["board"] (aq ma):=⟨rfl,rfl,rfl,by decide+kernel,rfl,by decide+kernel,by decide+kernel⟩
theorem Bm:aH ["board"] ["board"] (aq qj):=⟨rfl,rfl,rfl,by decide+kernel,rfl,by decide+kernel,by decide+kernel⟩
theorem wV(T:Tx K mg):bw P w K mg base (du P w) 10 T.iy.f T.iy.fd ["board"] (KW T pressing):=by
 refine T.iy.fn.qX xj (λvs H Q E zz1=>by obtain⟨_,_,e,_⟩:=zz1;rw[e];rfl) λcdv A outer s H vs Q E hr zz2=>?_
 obtain⟨b,st,e,hb,so,k⟩:=zz2
 subst e
 refine⟨_,ao (cw (bb (dvs:=[]) (ds:=[]) (iT T) (hr.mono (by decide)) rfl T.bZ.mg T.bZ.kp T.bZ.bi .nil eh (ab (pv 0) aj)))
  (au (a8 (bb (dvs:=[]) (ds:=[]) (Qm T) (hr.mono (by decide)) rfl T.a7.mg T.a7.kp T.a7.bi .nil aP (ab (mT T.tu rfl T.dA.mg) (ab (pv 0) aj))))),?_⟩
 refine⟨_,rfl,b,st,rfl,hb,so,?_⟩
 cases q:firstClash st.needs with
 |some x=>
  rw[pq Bp.oW so q]at k
  exact k
 |none=>
  obtain⟨v,hv⟩:=rX Bp.eR Bp.iH so q
  rw[hv]at k
  refine λH1 s1 x dx nx ndx ne=>⟨_,rfl,st,⟨so,q⟩,x,dx,b,rfl,ag,(hb.same s1).same (iM nx ndx ne),λH2 s2=>?_⟩
  show Q (.int (nV (partOf pressing (tabOf pressing st.needs st.n) 1 st.n))) H2
  rw[gv so.lo,hv]
  exact k _ ((s1.trans (iM nx ndx ne)).trans s2)
theorem AW(T:Tx K mg):bw P w K mg base (du P w) 10 T.kU.f T.kU.fd ["board"] (KW T nesting):=by
 refine T.kU.fn.qX Bm (λvs H Q E zz3=>by obtain⟨_,_,e,_⟩:=zz3;rw[e];rfl) λcdv A outer s H vs Q E hr zz4=>?_
 obtain⟨b,st,e,hb,so,k⟩:=zz4
 subst e
 refine⟨_,ao (cw (bb (dvs:=[]) (ds:=[]) (iT T) (hr.mono (by decide)) rfl T.bZ.mg T.bZ.kp T.bZ.bi .nil eh (ab (pv 0) aj)))
  (au (a8 (bb (dvs:=[]) (ds:=[]) (Ql T) (hr.mono (by decide)) rfl T.a7.mg T.a7.kp T.a7.bi .nil aP (ab (mT T.yS rfl T.gh.mg) (ab (pv 0) aj))))),?_⟩
 refine⟨_,rfl,b,st,rfl,hb,so,?_⟩
 cases q:firstClash st.needs with
 |some x=>
  rw[pq Bp.vi so q]at k
  exact k
 |none=>
  obtain⟨v,hv⟩:=rX Bp.i8 Bp.mD so q
  rw[hv]at k
  refine λH1 s1 x dx nx ndx ne=>⟨_,rfl,st,⟨so,q⟩,x,dx,b,rfl,ag,(hb.same s1).same (iM nx ndx ne),λH2 s2=>?_⟩
  show Q (.int (nV (partOf nesting (tabOf nesting st.needs st.n) 1 st.n))) H2
  rw[gv so.lo,hv]
  exact k _ ((s1.trans (iM nx ndx ne)).trans s2)
end
end Bx
end
section
namespace Bx
open PySem PySem.Spec PyProof.Rows L2
open Vbpcau (State Span Plan Plans Alg counting pressing nesting tabOf partOf whole firstClash countOf planOf serves pick firstFlat rankOf)
section
variable{P:Program}{w:World}{K:af}{mg:Str->Option Value}{base:Heap}
theorem T1{f:Addr}{fd:FuncData}{ps:List Str}{k:Nat}{p:Prop}{g:p->Sp}(h:∀hp,bw P w K mg base (du P w) k f fd ps (g hp))(hl:∀vs H Q E,(∃hp,g hp vs H Q E)->vs.length=ps.length):bw P w K mg base (du P w) k f fd ps (λvs H Q E=>ex1 Q λhp Q=>g hp vs H Q E):=
 ⟨hl,λA outer s H args us vs Q E hr he hb hv ⟨hp,q⟩=>(h hp).run A outer s H args us vs Q E hr he hb hv q⟩
theorem Ei{f:Addr}{fd:FuncData}{ps:List Str}{k:Nat}{p:Prop}{g:p->Sp}(h:∀hp,bw P w K mg base (du P w) k f fd ps (g hp)):bw P w K mg base (du P w) k f fd ps (λvs H Q E=>ex1 Q λhp Q=>g hp vs H Q E):=
 T1 h λvs H Q E ⟨hp,q⟩=>(h hp).len vs H Q E q
theorem kj.Ub{S:Type}{ns:List Span}{eo:S->Nat->Nat->Nat->Nat->S->Prop}{wi:S->Nat->Nat->S->S->Prop}{σ:S}{n:Nat}{p:Plan}(hn:n<=24)(h:pD ns eo wi σ 1 n p):kj n p:=by
 obtain⟨h1,h2,h3⟩:=h.layers
 exact⟨h3 (by lia),by rw[h1];congr 1⟩
def SN(T:Tx K mg):Sp:=λvs H Q E=>ex2 Q λb st Q=>vs=[.ref b]/\jb T.aL.C H b st/\eZ st/\match whole nesting st.needs st.n with
 |some m=>∀q H',aJ H H'->fu T.aV.C H' (firstFlat st.needs (tabOf nesting st.needs st.n) (3*st.n) m 1 st.n) q->kj st.n (firstFlat st.needs (tabOf nesting st.needs st.n) (3*st.n) m 1 st.n)->Q (.ref q) H'
 |none=>ER K T.bx.C (-4) H E
theorem jO:aH ["board","ways"] ["board"] (aq h8):=⟨rfl,rfl,rfl,by decide+kernel,rfl,by decide+kernel,by decide+kernel⟩
theorem EC(T:Tx K mg):bw P w K mg base (du P w) 36 T.dI.f T.dI.fd ["board"] (SN T):=by
 refine T.dI.fn.qX jO (λvs H Q E zz0=>by obtain⟨_,_,e,_⟩:=zz0;rw[e];rfl) λcdv A outer s H vs Q E hr zz1=>?_
 obtain⟨b,st,e,hb,so,k⟩:=zz1
 subst e
 have fW':bw P w K mg base (du P w) 5 T.gm.f T.gm.fd ["self","measure","board"] (λvs H Q E=>∃hc:Bp.d4 st.needs,we T (nU (P:=P) (w:=w) (base:=base) T) st.needs st.n (fW nesting st.needs st.n) (fR nesting st.needs st.n) vs H Q E):=
  Ei λhc=>lH T _ (KP T (n:=st.n) so.wf hc) so.hi so.wH so.zu
 have fC:bw P w K mg base (du P w) 33 T.bV.f T.bV.fd ["chooser","ways","a","b"] (λvs H Q E=>∃hc:Bp.d4 st.needs,uj (dDep T st.needs st.n) (eQ T (nU (P:=P) (w:=w) (base:=base) T) st.needs st.n (fW nesting st.needs st.n) (fR nesting st.needs st.n)) st.needs st.n T.aV.C 24 vs H Q E):=
  Ei λhc=>oY (TH (P:=P) (w:=w) (base:=base) T so.wf hc so.hi) (by intro z;cases z) so.hi so.wH so.zu 24
 refine⟨_,ao (cw (bb (dvs:=[]) (ds:=[]) (iT T) (hr.mono (by decide)) rfl T.bZ.mg T.bZ.kp T.bZ.bi .nil eh (ab (pv 0) aj)))
  (ao (bK (i:=1) jO.nd rfl (Or.inl rfl) (gW (dvs:=[]) (ds:=[]) (E:=E0) T.Gr fW' (hr.mono (by decide)) rfl T.bC.mg T.gm.bi .nil aP (ab (mT T.yS rfl T.gh.mg) (ab (pv 0) aj))))
  (au (a8 (bb (dvs:=[]) (ds:=[]) (E:=E0) fC (hr.mono (by decide)) rfl T.bV.mg T.bV.kp T.bV.bi .nil aP
    (ab (gW (dvs:=[]) (ds:=[]) (E:=E0) T.vg (mS T) (hr.mono (by decide)) rfl T.bL.mg T.fI.bi .nil aP (ab (uJ (r9 hr) (ba (pv 1) rfl) (iE (ab bj (ab (ba (pv 0) rfl) aj))) (λ_ _=>rfl)) aj))
      (ab (pv 1) (ab bj (ab (ba (pv 0) rfl) aj)))))))),?_⟩
 obtain⟨dxb,l,hb1,hb2⟩:=id hb
 refine⟨_,rfl,b,st,rfl,hb,so,?_⟩
 cases q:firstClash st.needs with
 |some x=>
  rw[pq Bp.vi so q]at k
  exact k
 |none=>
  have hc:=oT so.Fz q
  obtain⟨m,hm⟩:=rX Bp.i8 Bp.mD so q
  rw[hm]at k
  refine λH1 s1 y dy ny ndy ne=>⟨_,rfl,λx dx nx ndx ne'=>?_⟩
  have s2:=s1.trans (iM (C:=T.gh.C) (fs:=[]) ny ndy ne)
  have s3:=iM (C:=T.bC.C) (fs:=[]) nx ndx ne'
  have yx:y≠x:=aA ag nx
  refine⟨hc,x,dx,y,dy,b,rfl,ag,s3 _ _ ag,yx.symm,(aA (s2 _ _ hb1) nx).symm,(hb.same s2).same s3,λH3 wy bt=>⟨rfl,?_⟩⟩
  have s4:=s2.trans (oF nx ndx ne' bt)
  obtain⟨m',l',dW,dR,kW,kR,⟨⟨dxx,hx⟩,_⟩,_,hW,_,aW,_⟩:=id wy
  refine⟨_,rfl,x,_,dxx,_,_,rfl,hx,T.bC.cl,T.bC.no _ (by simp),pw _ _ _ _,_,rfl,b,_,dxb,_,_,rfl,s4 _ _ hb1,T.aL.cl,T.aL.no _ (by simp),cn _ _ _,(by show 2<=sizeLine;decide),λt ht=>?_⟩
  have s5:=aJ.upd (o:=.tup [.int 1,.int (st.n:Nat)]) ht
  refine⟨dW,.int (m:Nat),rfl,?_,?_⟩
  ·have:=aW 1 st.n (ah _) (by have:=so.lo;ac_rfl) (ah _)
   have e2:fW nesting st.needs st.n 1 st.n=((m:Nat):Int):=by
    show nV (partOf nesting (tabOf nesting st.needs st.n) 1 st.n)=_
    rw[gv so.lo,hm];rfl
   rw[e2]at this
   rw[<-this]
   exact uU.t (s5 _ _ hW) ag
  refine λc dc nc ndc nec=>⟨c,dc,_,rfl,ag,rfl,?_⟩
  rw[ik]
  have s6:=s5.trans (iM (C:=T.bL.C) (fs:=[("most",.int (m:Nat))]) nc ndc nec)
  refine⟨_,rfl,_,rfl,b,_,dxb,_,_,rfl,s6 _ _ (s4 _ _ hb1),T.aL.cl,T.aL.no _ (by simp),cn _ _ _,hc,c,m,x,1,st.n,firstFlat st.needs (tabOf nesting st.needs st.n) (3*st.n) m 1 st.n,rfl,⟨dc,ag⟩,trivial,wy.same s6,⟨ah _,by have:=so.lo;ac_rfl,ah _,by have:=so.hi;omega⟩,?_,λq H5 kp _ hpt=>?_⟩
  ·have:=so.lo
   rw[(Bp.zS so.wf (tabOf nesting st.needs st.n) (3*st.n)).1 m 1 st.n (by assumption)]
   refine(uE so.wf (3*st.n)).1 1 st.n m (ah _) (by assumption) (ah _) (by lia) ?_
   rw[gv so.lo,hm]
   exact decide_eq_true (ah m)
  ·have s7:aJ H H5:=λz o e=>kp _ _ ((s4.trans s6) _ _ e) (λz=>z)
   refine k q H5 s7 (hpt.same uG) (kj.Ub (ns:=st.needs) (eo:=CQ st.needs st.n) (wi:=CS) (σ:=m) so.hi ?_)
   have:=so.lo
   rw[(Bp.zS so.wf (tabOf nesting st.needs st.n) (3*st.n)).1 m 1 st.n (by assumption)]
   refine(uE so.wf (3*st.n)).1 1 st.n m (ah _) (by assumption) (ah _) (by lia) ?_
   rw[gv so.lo,hm]
   exact decide_eq_true (ah m)
def OQ(T:Tx K mg):Sp:=λvs H Q E=>ex3 Q λb st k Q=>vs=[.ref b,.int k]/\jb T.aL.C H b st/\eZ st/\if 0<=k/\k<(countOf st:Nat)then
 ∀q H',aJ H H'->fu T.aV.C H' (pick st.needs (tabOf (counting 1) st.needs st.n) (3*st.n) 1 st.n k.toNat) q->kj st.n (pick st.needs (tabOf (counting 1) st.needs st.n) (3*st.n) 1 st.n k.toNat)->Q (.ref q) H' else ER K T.bx.C (-5) H E
theorem nZ:aH ["board","number","ways"] ["board","number"] (aq kG):=⟨rfl,rfl,rfl,by decide+kernel,rfl,by decide+kernel,by decide+kernel⟩
theorem nY(T:Tx K mg):bw P w K mg base (du P w) 36 T.dM.f T.dM.fd ["board","number"] (OQ T):=by
 refine T.dM.fn.qX nZ (λvs H Q E zz2=>by obtain⟨_,_,_,e,_⟩:=zz2;rw[e];rfl) λcdv A outer s H vs Q E hr zz3=>?_
 obtain⟨b,st,v,e,hb,so,k⟩:=zz3
 subst e
 have fW':=lH T (eT (P:=P) (w:=w) (base:=base) T) (yj T (n:=st.n) so.wf so.hi) so.hi so.wH so.zu
 have fC:=oY (TK (P:=P) (w:=w) (base:=base) T (n:=st.n) so.wf so.hi) (by intro z;cases z) so.hi so.wH so.zu 24
 refine⟨_,ao (bK (i:=2) nZ.nd rfl (Or.inl rfl) (gW (dvs:=[]) (ds:=[]) (E:=E0) T.Gr fW' (hr.mono (by decide)) rfl T.bC.mg T.gm.bi .nil aP (ab (mT T.Ig rfl T.nB.mg) (ab (pv 0) aj))))
  (ao (gi (o3 (tL pO sh bj (pv 1) (uJ (r9 hr) (ba (pv 2) rfl) (iE (ab bj (ab (ba (pv 0) rfl) aj))) (λ_ _=>rfl))))
    (au (iF iQ T.Cb T.dE.ty (tH T) (hr.mono (by decide)) rfl T.dE.mg T.gQ.bi)) cH)
  (au (a8 (bb (dvs:=[]) (ds:=[]) (E:=E0) fC (hr.mono (by decide)) rfl T.bV.mg T.bV.kp T.bV.bi .nil aP
    (ab (gW (dvs:=[]) (ds:=[]) (E:=E0) T.tw (lS T) (hr.mono (by decide)) rfl T.bo.mg T.fm.bi .nil aP (ab (pv 1) aj))
      (ab (pv 2) (ab bj (ab (ba (pv 0) rfl) aj)))))))),?_⟩
 obtain⟨dxb,l,hb1,hb2⟩:=id hb
 refine λy dy ny ndy ne=>⟨_,rfl,λx dx nx ndx ne'=>?_⟩
 have s2:=iM (C:=T.nB.C) (fs:=[]) ny ndy ne
 have s3:=iM (C:=T.bC.C) (fs:=[]) nx ndx ne'
 have yx:y≠x:=aA ag nx
 refine⟨x,dx,y,dy,b,rfl,ag,s3 _ _ ag,yx.symm,(aA (s2 _ _ hb1) nx).symm,(hb.same s2).same s3,λH3 wy bt=>⟨rfl,?_⟩⟩
 have s4:=s2.trans (oF nx ndx ne' bt)
 have bad:∀{H':Hp}{σ:L2.St},aJ H H'->¬(0<=v/\v<(countOf st:Nat))->uq E T.dE.C (λ_=>aa (-5)) 0 mq {nx:=λ_ H'=>Q .iD H',rt:=Q} σ H':=λs' hn=>by
  rw[if_neg hn]at k
  exact⟨rfl,_,rfl,k.at T.B9 T.dE.gt T.dE.no s'⟩
 have hcnt:cW st.needs st.n 1 st.n=((countOf st:Nat):Int):=by
  show((partOf (counting 1) (uo st.needs st.n) 1 st.n:Nat):Int)=_
  rw[gv so.lo];rfl
 obtain⟨m',l',dW,dR,kW,kR,⟨⟨dxx,hx⟩,_⟩,_,hW,_,aW,_⟩:=id wy
 refine⟨_,rfl,_,_,rfl,rfl,_,rfl,?_⟩
 refine zw (λh1=>?_) (λh1=>?_)
 ·have h1':=of_decide_eq_true h1
  refine⟨_,rfl,x,_,dxx,_,_,rfl,hx,T.bC.cl,T.bC.no _ (by simp),pw _ _ _ _,_,rfl,b,_,dxb,_,_,rfl,s4 _ _ hb1,T.aL.cl,T.aL.no _ (by simp),cn _ _ _,(by show 2<=sizeLine;decide),λt ht=>?_⟩
  have s5:=aJ.upd (o:=.tup [.int 1,.int (st.n:Nat)]) ht
  refine⟨dW,.int (countOf st:Nat),rfl,?_,?_⟩
  ·have:=aW 1 st.n (ah _) (by have:=so.lo;ac_rfl) (ah _)
   rw[hcnt]at this
   rw[<-this]
   exact uU.t (s5 _ _ hW) ag
  refine⟨_,_,rfl,rfl,_,rfl,?_⟩
  by_cases h2:v<(countOf st:Nat)
  ·rw[decide_eq_true h2]
   refine fM ?_
   rw[if_pos ⟨h1',h2⟩]at k
   refine⟨_,rfl,λc dc nc ndc nec=>⟨c,dc,_,rfl,ag,rfl,?_⟩⟩
   rw[ik]
   have ev:((v.toNat:Nat):Int)=v:=kh h1'
   have s6:=s5.trans (iM (C:=T.bo.C) (fs:=[("number",.int v)]) nc ndc nec)
   have hlt:v.toNat<partOf (counting 1) (uo st.needs st.n) 1 st.n:=by
    rw[gv so.lo]
    have:(v.toNat:Int)<((countOf st:Nat):Int):=by lia
    exact_mod_cast this
   have lo:=so.lo
   have hpr:=(AM (n:=st.n) so.wf (3*st.n)).1 1 st.n v.toNat (ah _) (by assumption) (ah _) (by lia) hlt
   rw[<-(Bp.EJ so.wf (tabOf (counting 1) st.needs st.n) (3*st.n)).1 1 st.n v.toNat (by assumption)]at hpr
   refine⟨_,rfl,_,rfl,b,_,dxb,_,_,rfl,s6 _ _ (s4 _ _ hb1),T.aL.cl,T.aL.no _ (by simp),cn _ _ _,c,v.toNat,x,1,st.n,_,rfl,⟨dc,(by rw[ag,ev])⟩,trivial,wy.same s6,⟨ah _,by ac_rfl,ah _,by have:=so.hi;lia⟩,hpr,λq H5 kp _ hpt=>?_⟩
   have s7:aJ H H5:=λz o e=>kp _ _ ((s4.trans s6) _ _ e) (λz=>aA ((s4.trans s5) _ _ e) nc z)
   exact k q H5 s7 (hpt.same uG) (kj.Ub so.hi hpr)
  ·rw[decide_eq_false h2]
   exact eD (bad (s4.trans s5) λz=>h2 z.2)
 ·refine⟨_,rfl,?_⟩
  exact eD (bad s4 λz=>h1 (decide_eq_true z.1))
end
end Bx
end
section
namespace Bx
open PySem PySem.Spec PyProof.Rows L2
open Vbpcau (State Span Plan Plans Alg counting pressing nesting tabOf partOf whole firstClash countOf planOf serves pick rankOf)
mutual
theorem rR:∀p:Plan,p.spans.Perm (p.work.map (·.2))
 |.foil k=>List.Perm.nil
 |.core a b=>sm _
 |.press l=>by
  show((l.layers.headD 0,l.layers.getLastD 0)::l.spans).Perm ((l.work++[((1:Nat),(l.layers.headD 0,l.layers.getLastD 0))]).map λ(x:Nat×Span)=>x.2)
  rw[aB]
  exact((zb l).cons _).trans (Cz _ _).symm
theorem zb:∀l:Plans,l.spans.Perm (l.work.map (·.2))
 |.nil=>List.Perm.nil
 |.cons p l=>by
  show(p.spans++l.spans).Perm ((p.work++l.work).map λ(x:Nat×Span)=>x.2)
  rw[aB]
  exact(rR p).append (zb l)
end
theorem yp(p:Plan):p.spans.length=p.work.length:=by rw[(rR p).length_eq,ae]
theorem N9(a b:Span)(h1:Ph a b)(h2:Ph b a):a=b:=by
 unfold Ph at h1 h2
 apply CA<;>lia
theorem Jm(p:Plan):(p.work.map (·.2)).foldr fG []=p.spans.foldr fG []:=
 zY N9 ((i9 _).trans ((rR p).symm.trans (i9 _).symm)) (z6 _) (z6 _)
theorem Od{s:Span}(p:Plan):s∈(p.work.map (·.2)).foldr fG []↔s∈p.spans:=by
 rw[(i9 _).mem_iff,(rR p).mem_iff]
section
variable{P:Program}{w:World}{K:af}{mg:Str->Option Value}{base:Heap}
def OT(T:Tx K mg):Sp:=λvs H Q _=>ex4 Q λb st a p Q=>vs=[.ref b,.ref a]/\jb T.aL.C H b st/\eZ st/\fu T.aV.C H p a/\kj st.n p/\∀H',aJ H H'->Q (.bl (serves st.needs p)) H'
theorem mC:aH ["board","plan","spans","span"] ["board","plan"] (aq rL):=⟨rfl,rfl,rfl,by decide+kernel,rfl,by decide+kernel,by decide+kernel⟩
theorem vk(T:Tx K mg):bw P w K mg base (du P w) 30 T.iX.f T.iX.fd ["board","plan"] (OT T):=by
 refine T.iX.fn.okN mC (λvs H Q E zz0=>by obtain⟨_,_,_,_,e,_⟩:=zz0;rw[e];rfl) λcdv A outer s H vs Q E hr zz1=>?_
 obtain⟨b,st,a,p,e,hb,so,ha,po,k⟩:=zz1
 subst e
 obtain⟨b1,b2,b3,b4,b5⟩:=po.bounds so.hi
 refine⟨_,ao (bK (i:=2) mC.nd rfl (Or.inr rfl) (bb (dvs:=[]) (ds:=[]) (yY T 24) (hr.mono (by decide)) rfl T.lM.mg T.lM.kp T.lM.bi .nil aP (ab (pv 1) aj)))
  (au (a8 (cg (HR rfl) rfl T.Nk (by decide+kernel) (ab
    (pQ (te:=S7 (Sz K false) (fN 3) (fN 2)) (own:=[("span",3)]) rfl mC.nd (fJ (ba (pv 0) rfl)) (fz (by with_unfolding_all rfl))
      (λ_ _ _ _ _=>cX (i:=3) mC.nd rfl (Or.inl rfl) (.inr rfl)) (λ_ _ _ _ _=>mB)
      (λ_ _ _ _ _=>zV (II (NY hr)) (pv 3) (pv 2) rfl)) aj)))),?_⟩
 refine⟨_,rfl,a,p,rfl,ha,b1,b4,by lia,λl1 H1 s1 hl1=>?_⟩
 obtain⟨dxb,l,hb1,⟨as,hl,hp⟩⟩:=hb.same s1
 obtain⟨cs,hc1,hc2⟩:=hl1
 have hlen:as.length=st.needs.length:=by rw[hp.length,ae]
 refine⟨_,rfl,b,_,dxb,_,_,rfl,hb1,T.aL.cl,T.aL.no _ (by simp),dX _ _,l,rfl,⟨_,cJ.of hl⟩,λD hD=>?_⟩
 refine jG (K:=K) (a:=l) (xs:=as.map V.ref) (λi H'=>aJ H1 H'/\H' D=aa (.lst (((st.needs.take i).map λs=>p.spans.contains s).map V.bl))) ⟨aJ.upd hD,ag⟩ (λi H' _ z=>cJ.of (z.1 _ _ hl)) (λi v H' hv z=>?_) (λH' z=>?_)
 ·obtain⟨sH,hDl⟩:=z
  obtain⟨c,hcc,rfl⟩:=fB hv
  obtain⟨q,hq1,hq2⟩:=hp.Ej hcc
  rw[aS]at hq1
  cases hu:st.needs[i]? with
  |none=>rw[hu]at hq1;cases hq1
  |some u=>
   rw[hu]at hq1
   cases hq1
   have hi:=(aD.mp hu).1
   have fw:=so.wH
   refine⟨rfl,_,rfl,_,rfl,c,l1,cs,_,bQ u,rfl,rfl,sH _ _ hq2,cJ.of (sH _ _ hc1),sH.Rt hc2,?_⟩
   rw[show(if false=true then !decide (bQ u∈((p.work.map (·.2)).foldr fG []).map bQ)else decide (bQ u∈((p.work.map (·.2)).foldr fG []).map bQ))=p.spans.contains u from ?_]
   ·refine⟨_,hDl,?_,sH.pC hD,?_⟩
    ·rw[ae,ae,bH,sizeLine_eq];lia
    ·rw[ag,take_snoc hu,aB,aB];rfl
   ·rw[if_neg (by decide),g9,decide_eq_true_iff,kX,Od,gK]
 ·obtain⟨sH,hDl⟩:=z
  rw[ae,hlen,bF]at hDl
  refine⟨D,_,rfl,cJ.of hDl,?_⟩
  rw[Hq]
  exact k _ (s1.trans sH)
def OR(T:Tx K mg):Sp:=λvs H Q E=>ex4 Q λb st a p Q=>vs=[.ref b,.ref a]/\jb T.aL.C H b st/\eZ st/\fu T.aV.C H p a/\planOf st.n p=true/\
 if serves st.needs p=true then∀H',aJ H H'->Q (.int (rankOf st.needs (tabOf (counting 1) st.needs st.n) p:Nat)) H' else ER K T.bx.C (-7) H E
theorem xk:aH ["board","plan"] ["board","plan"] (aq mh):=⟨rfl,rfl,rfl,by decide+kernel,rfl,by decide+kernel,by decide+kernel⟩
theorem pN(T:Tx K mg):bw P w K mg base (du P w) 36 T.eU.f T.eU.fd ["board","plan"] (OR T):=by
 refine T.eU.fn.qX xk (λvs H Q E zz2=>by obtain⟨_,_,_,_,e,_⟩:=zz2;rw[e];rfl) λcdv A outer s H vs Q E hr zz3=>?_
 obtain⟨b,st,a,p,e,hb,so,ha,hpl,k⟩:=zz3
 subst e
 have po:=kj.of so.hi hpl
 obtain⟨b1,b2,b3,b4,b5⟩:=po.bounds so.hi
 have fW':=lH T (eT (P:=P) (w:=w) (base:=base) T) (yj T (n:=st.n) so.wf so.hi) so.hi so.wH so.zu
 refine⟨_,ao (gi (o3 (kn (bb (dvs:=[]) (ds:=[]) (E:=E0) (vk T) (hr.mono (by decide)) rfl T.iX.mg T.iX.kp T.iX.bi .nil aP (ab (pv 0) (ab (pv 1) aj)))))
   (au (iF iQ T.Gq T.fA.ty (vL T) (hr.mono (by decide)) rfl T.fA.mg T.i4.bi)) cH)
  (au (a8 (bb (dvs:=[]) (ds:=[]) (E:=E0) (ED T (n:=st.n) so.wf so.hi so.wH so.zu 24) (hr.mono (by decide)) rfl T.gq.mg T.gq.kp T.gq.bi .nil aP
    (ab (pv 1) (ab (gW (dvs:=[]) (ds:=[]) (E:=E0) T.Gr fW' (hr.mono (by decide)) rfl T.bC.mg T.gm.bi .nil aP (ab (mT T.Ig rfl T.nB.mg) (ab (pv 0) aj))) aj))))),?_⟩
 refine⟨_,rfl,_,rfl,b,st,a,p,rfl,hb,so,ha,po,λH1 s1=>⟨_,rfl,?_⟩⟩
 cases hs:serves st.needs p with
 |false=>
  rw[hs,if_neg (by decide)]at k
  exact eD ⟨rfl,_,rfl,k.at T.Ge T.fA.gt T.fA.no s1⟩
 |true=>
  rw[hs,if_pos rfl]at k
  obtain⟨dxb,l,hb1,hb2⟩:=hb.same s1
  refine fM ⟨_,rfl,λy dy ny ndy ne=>⟨_,rfl,λx dx nx ndx ne'=>?_⟩⟩
  have s2:=iM (C:=T.nB.C) (fs:=[]) ny ndy ne
  have s3:=iM (C:=T.bC.C) (fs:=[]) nx ndx ne'
  have yx:y≠x:=aA ag nx
  refine⟨x,dx,y,dy,b,rfl,ag,s3 _ _ ag,yx.symm,(aA (s2 _ _ hb1) nx).symm,((hb.same s1).same s2).same s3,λH3 wy bt=>⟨rfl,?_⟩⟩
  have s4:=s1.trans (s2.trans (oF nx ndx ne' bt))
  have gd:=Bp.LG so.wf so.lo (λs hs'=>⟨(so.Cn s hs').1,(so.Cn s hs').2.2⟩) hpl hs
  have lo:=so.lo
  rw[Bp.KL so.wf _ p 1 st.n (by assumption) gd]at k
  exact⟨a,x,p,1,st.n,rfl,ha.same s4,wy,b4,by lia,⟨ah _,ah _⟩,⟨by ac_rfl,by rw[if_neg (by ac_rfl)];exact gd⟩,λH5 s5=>k _ (s4.trans s5)⟩
def E9(T:Tx K mg):Sp:=λvs H Q E=>ex4 Q λb st a p Q=>vs=[.ref b,.ref a]/\jb T.aL.C H b st/\eZ st/\fu T.aV.C H p a/\planOf st.n p=true/\
 if serves st.needs p=true then(if rankOf st.needs (tabOf (counting 1) st.needs st.n) p+1<countOf st then
  ∀q H',aJ H H'->fu T.aV.C H' (pick st.needs (tabOf (counting 1) st.needs st.n) (3*st.n) 1 st.n (rankOf st.needs (tabOf (counting 1) st.needs st.n) p+1)) q->kj st.n (pick st.needs (tabOf (counting 1) st.needs st.n) (3*st.n) 1 st.n (rankOf st.needs (tabOf (counting 1) st.needs st.n) p+1))->Q (.ref q) H'
  else ER K T.bx.C (-5) H E)else ER K T.bx.C (-7) H E
theorem Bn:aH ["board","plan"] ["board","plan"] (aq qk):=⟨rfl,rfl,rfl,by decide+kernel,rfl,by decide+kernel,by decide+kernel⟩
theorem AX(T:Tx K mg):bw P w K mg base (du P w) 38 T.kZ.f T.kZ.fd ["board","plan"] (E9 T):=by
 refine T.kZ.fn.qX Bn (λvs H Q E zz4=>by obtain⟨_,_,_,_,e,_⟩:=zz4;rw[e];rfl) λcdv A outer s H vs Q E hr zz5=>?_
 obtain⟨b,st,a,p,e,hb,so,ha,hpl,k⟩:=zz5
 subst e
 refine⟨_,au (a8 (bb (dvs:=[]) (ds:=[]) (nY T) (hr.mono (by decide)) rfl T.dM.mg T.dM.kp T.dM.bi .nil eh
  (ab (pv 0) (ab (cZ gM (bb (dvs:=[]) (ds:=[]) (pN T) (hr.mono (by decide)) rfl T.eU.mg T.eU.kp T.eU.bi .nil eh (ab (pv 0) (ab (pv 1) aj))) bj) aj)))),?_⟩
 refine⟨_,rfl,_,rfl,_,rfl,b,st,a,p,rfl,hb,so,ha,hpl,?_⟩
 by_cases hs:serves st.needs p=true
 ·rw[if_pos hs]at k⊢
  refine λH1 s1=>⟨_,_,rfl,rfl,b,st,_,rfl,hb.same s1,so,?_⟩
  by_cases hk:rankOf st.needs (tabOf (counting 1) st.needs st.n) p+1<countOf st
  ·rw[if_pos hk]at k
   rw[if_pos ⟨by ac_rfl,by lia⟩]
   exact λq H2 s2 hq po=>k q H2 (s1.trans s2) hq po
  ·rw[if_neg hk]at k
   rw[if_neg (λz=>hk (by omega))]
   exact k.same s1
 ·rw[if_neg hs]at k⊢
  exact k
end
end Bx
end
section
namespace Bx
open Vbpcau (Plan Plans Bytes Got readNumber readByte readCore readPart readParts digit DEEP)
def here(bs:Bytes)(p:Nat):Nat:=match bs[p]? with
 |some c=>c.toNat
 |none=>256
theorem dY{bs:Bytes}{p:Nat}{c:UInt8}{r:Bytes}(h:bs.drop p=c::r):here bs p=c.toNat/\bs.drop (p+1)=r/\p<bs.length:=by
 have hp:p<bs.length:=by
  rcases Nat.lt_or_ge p bs.length with q|q
  ·exact q
  ·rw[sL q]at h;cases h
 rw[bO hp]at h
 obtain⟨h1,h2⟩:=fO h
 refine⟨?_,h2,hp⟩
 unfold here
 rw[cC hp,h1]
theorem Gf{bs:Bytes}{p:Nat}(h:bs.drop p=[]):here bs p=256/\bs.length<=p:=by
 have:=List.drop_eq_nil_iff.mp h
 refine⟨?_,this⟩
 unfold here
 rw[gL this]
theorem RA(c:UInt8):c.toNat<256:=c.toNat_lt
theorem Hg{c:UInt8}{k:Nat}(hk:k<256):c.toNat=k↔c=zM k:=by
 constructor
 ·intro h
  rw[<-h,UInt8.ofNat_toNat]
 ·intro h
  rw[h,wu]
  exact Nat.mod_eq_of_lt hk
theorem oz{c:UInt8}:digit c=true↔48<=c.toNat/\c.toNat<=57:=by
 unfold digit
 rw[ak,decide_eq_true_iff,decide_eq_true_iff,HC,HC]
 exact Iff.rfl
def pS(k d p:Nat)(t:Bytes):Got Plans:=match t with
 |41::r=>.ok (.nil,p+1,r)
 |32::r=>readParts k d (p+1) r
 |_=>.error p
theorem l6{α:Type}{x y:α}{p q:Nat}{t u:Bytes}(h:(.ok (x,p,t):Got α)=.ok (y,q,u)):x=y/\p=q/\t=u:=by
 injection h with h
 obtain⟨h1,h⟩:=pE h
 obtain⟨h2,h3⟩:=pE h
 exact⟨h1,h2,h3⟩
theorem vP(k d p:Nat)(t:Bytes):readParts (k+1) d p t=match readPart k d p t with
  |.error e=>.error e
  |.ok (x,p,t)=>match pS k d p t with
   |.error e=>.error e
   |.ok (l,p,t)=>.ok (.cons x l,p,t):=by
 rw[readParts]
 cases readPart k d p t with
 |error e=>rfl
 |ok v=>
  obtain⟨x,p2,t2⟩:=v
  cases t2 with
  |nil=>rfl
  |cons c r=>
   by_cases h1:c=41
   ·subst h1;rfl
   ·by_cases h2:c=32
    ·subst h2;rfl
    ·have e1:pS k d p2 (c::r)=.error p2:=by
      unfold pS
      split
      ·rename_i h;exact absurd (fO h).1 h1
      ·rename_i h;exact absurd (fO h).1 h2
      ·rfl
     dsimp only
     rw[e1]
     split
     ·rename_i h;exact absurd (fO h).1 h1
     ·rename_i h;exact absurd (fO h).1 h2
     ·rfl
def MO(p:Nat)(t:Bytes)(p':Nat)(t':Bytes):Prop:=∃m,1<=m/\m<=t.length/\p'=p+m/\t'=t.drop m
theorem MO.trans{p p1 p2:Nat}{t t1 t2:Bytes}(a:MO p t p1 t1)(b:MO p1 t1 p2 t2):MO p t p2 t2:=by
 obtain⟨m,h1,h2,rfl,rfl⟩:=a
 obtain⟨n,g1,g2,rfl,rfl⟩:=b
 rw[iL]at g2
 exact⟨m+n,by lia,by lia,by lia,by rw[List.drop_drop]⟩
theorem rj{p:Nat}{c:UInt8}{r:Bytes}:MO p (c::r) (p+1) r:=⟨1,ah _,by simp,rfl,rfl⟩
theorem Ky{p:Nat}{c:UInt8}{r:Bytes}(h:¬(digit c=true/\c≠48)):readNumber p (c::r)=.error p:=by
 show(if digit c=true/\c≠48 then _ else(.error p:Got Nat))=_
 rw[if_neg h]
theorem Kz{p:Nat}{c:UInt8}(h:digit c=true/\c≠48):readNumber p [c]=.ok (c.toNat-48,p+1,[]):=by
 show(if digit c=true/\c≠48 then(.ok (c.toNat-48,p+1,[]):Got Nat)else .error p)=_
 rw[if_pos h]
theorem KA{p:Nat}{c d:UInt8}{q:Bytes}(h:digit c=true/\c≠48)(hd:¬digit d=true):readNumber p (c::d::q)=.ok (c.toNat-48,p+1,d::q):=by
 rw[readNumber,if_pos h]
 show(if digit d=true then _ else _)=_
 rw[if_neg hd]
theorem KC{p:Nat}{c d:UInt8}{q:Bytes}(h:digit c=true/\c≠48)(hd:digit d=true):readNumber p (c::d::q)=.ok ((c.toNat-48)*10+(d.toNat-48),p+2,q):=by
 rw[readNumber,if_pos h]
 show(if digit d=true then _ else _)=_
 rw[if_pos hd]
theorem uC{p p' k:Nat}{t t':Bytes}(h:readNumber p t=.ok (k,p',t')):MO p t p' t'/\k<100:=by
 cases t with
 |nil=>cases h
 |cons c r=>
  by_cases hc:digit c=true/\c≠48
  ·have hd:=oz.mp hc.1
   cases r with
   |nil=>
    rw[Kz hc]at h
    obtain⟨h1,rfl,rfl⟩:=l6 h
    exact⟨rj,by omega⟩
   |cons d q=>
    by_cases hq:digit d=true
    ·have hd2:=oz.mp hq
     rw[KC hc hq]at h
     obtain⟨h1,rfl,rfl⟩:=l6 h
     exact⟨⟨2,by decide,by simp,rfl,rfl⟩,by omega⟩
    ·rw[KA hc hq]at h
     obtain⟨h1,rfl,rfl⟩:=l6 h
     exact⟨rj,by lia⟩
  ·rw[Ky hc]at h;cases h
theorem FZ{b:UInt8}{p p':Nat}{t t':Bytes}(h:readByte b p t=.ok ((),p',t')):MO p t p' t':=by
 cases t with
 |nil=>cases h
 |cons c r=>
  have h:(if c=b then .ok ((),p+1,r)else .error p)=(.ok ((),p',t'):Got Unit):=h
  by_cases q:c=b
  ·rw[if_pos q]at h
   obtain⟨_,rfl,rfl⟩:=l6 h
   exact rj
  ·rw[if_neg q]at h;cases h
theorem F0{p p':Nat}{t t':Bytes}{x:Plan}(h:readCore p t=.ok (x,p',t')):MO p t p' t'/\∃a b,x=.core a b/\a<100/\b<100:=by
 unfold readCore at h
 cases e1:readNumber p t with
 |error e=>rw[e1]at h;cases h
 |ok v1=>
  obtain⟨a,p1,t1⟩:=v1
  rw[e1]at h
  dsimp only at h
  cases e2:readByte 32 p1 t1 with
  |error e=>rw[e2]at h;cases h
  |ok v2=>
   obtain⟨u,p2,t2⟩:=v2
   rw[e2]at h
   dsimp only at h
   cases e3:readNumber p2 t2 with
   |error e=>rw[e3]at h;cases h
   |ok v3=>
    obtain⟨b,p3,t3⟩:=v3
    rw[e3]at h
    dsimp only at h
    cases e4:readByte 93 p3 t3 with
    |error e=>rw[e4]at h;cases h
    |ok v4=>
     obtain⟨u2,p4,t4⟩:=v4
     rw[e4]at h
     dsimp only at h
     obtain⟨h1,rfl,rfl⟩:=l6 h
     obtain⟨f1,k1⟩:=uC e1
     obtain⟨f3,k3⟩:=uC e3
     exact⟨((f1.trans (FZ e2)).trans f3).trans (FZ e4),a,b,h1.symm,k1,k3⟩
theorem x5(k d p:Nat)(r:Bytes):readPart (k+1) d p (91::r)=readCore (p+1) r:=by rw[readPart]
theorem vO(k d p:Nat)(r:Bytes):readPart (k+1) d p (40::r)=if d=0 then .error p else(match readParts k (d-1) (p+1) r with
  |.error e=>.error e
  |.ok (l,p,t)=>.ok (.press l,p,t)):=by
 rw[readPart]
 rfl
theorem A2(k d p:Nat)(t:Bytes)(h1:∀r,t≠91::r)(h2:∀r,t≠40::r):readPart (k+1) d p t=match readNumber p t with
  |.error e=>.error e
  |.ok (n,p,t)=>.ok (.foil n,p,t):=by
 rw[readPart]
 ·rfl
 ·exact λr z=>h1 r z
 ·exact λr z=>h2 r z
mutual
def read:Plan->Prop
 |.foil k=>k<100
 |.core a b=>a<100/\b<100
 |.press l=>l≠.nil/\reads l
def reads:Plans->Prop
 |.nil=>True
 |.cons p l=>read p/\reads l
end
theorem wG:∀(k:Nat),(∀d p t x p' t',readPart k d p t=.ok (x,p',t')->MO p t p' t'/\read x)/\(∀d p t l p' t',readParts k d p t=.ok (l,p',t')->MO p t p' t'/\reads l/\l≠.nil)
 |0=>by
  refine⟨λd p t x p' t' h=>?_,λd p t l p' t' h=>?_⟩
  ·rw[readPart]at h;cases h
  ·rw[readParts]at h;cases h
 |k+1=>by
  obtain⟨i1,i2⟩:=wG k
  refine⟨λd p t x p' t' h=>?_,λd p t l p' t' h=>?_⟩
  ·by_cases c1:∃r,t=91::r
   ·obtain⟨r,rfl⟩:=c1
    rw[x5]at h
    obtain⟨f,a,b,rfl,h1,h2⟩:=F0 h
    exact⟨rj.trans f,h1,h2⟩
   ·by_cases c2:∃r,t=40::r
    ·obtain⟨r,rfl⟩:=c2
     rw[vO]at h
     by_cases hd:d=0
     ·rw[if_pos hd]at h;cases h
     ·rw[if_neg hd]at h
      cases e:readParts k (d-1) (p+1) r with
      |error e'=>rw[e]at h;cases h
      |ok v=>
       obtain⟨l,p1,t1⟩:=v
       rw[e]at h
       obtain⟨rfl,rfl,rfl⟩:=l6 h
       obtain⟨f,h1,h2⟩:=i2 _ _ _ _ _ _ e
       exact⟨rj.trans f,h2,h1⟩
    ·rw[A2 k d p t (λr z=>c1 ⟨r,z⟩) (λr z=>c2 ⟨r,z⟩)]at h
     cases e:readNumber p t with
     |error e'=>rw[e]at h;cases h
     |ok v=>
      obtain⟨n,p1,t1⟩:=v
      rw[e]at h
      obtain⟨rfl,rfl,rfl⟩:=l6 h
      exact⟨(uC e).1,(uC e).2⟩
  ·rw[vP]at h
   cases e:readPart k d p t with
   |error e'=>rw[e]at h;cases h
   |ok v=>
    obtain⟨x,p1,t1⟩:=v
    rw[e]at h
    dsimp only at h
    obtain⟨f1,rx⟩:=i1 _ _ _ _ _ _ e
    cases e2:pS k d p1 t1 with
    |error e'=>rw[e2]at h;cases h
    |ok v2=>
     obtain⟨l2,p2,t2⟩:=v2
     rw[e2]at h
     obtain⟨rfl,rfl,rfl⟩:=l6 h
     unfold pS at e2
     split at e2
     ·obtain⟨rfl,rfl,rfl⟩:=l6 e2
      exact⟨f1.trans rj,⟨rx,trivial⟩,by simp⟩
     ·obtain⟨f2,h1,h2⟩:=i2 _ _ _ _ _ _ e2
      exact⟨f1.trans (rj.trans f2),⟨rx,h1⟩,by simp⟩
     ·cases e2
mutual
theorem uL:∀{p:Plan},read p->full p/\p.layers≠[]
 |.foil k,_=>⟨trivial,by show[k]≠[];simp⟩
 |.core a b,_=>⟨trivial,by show[a,b]≠[];simp⟩
 |.press l,h=>by
  obtain⟨h1,h2⟩:=Ba h.2
  have:=h2 h.1
  exact⟨⟨this,h1⟩,this⟩
theorem Ba:∀{l:Plans},reads l->F8 l/\(l≠.nil->l.layers≠[])
 |.nil,_=>⟨trivial,λz=>absurd rfl z⟩
 |.cons p l,h=>by
  obtain⟨h1,h2⟩:=uL h.1
  refine⟨⟨h1,(Ba h.2).1⟩,λ_ z=>?_⟩
  have z:p.layers++l.layers=[]:=z
  exact h2 (sJ.mp z).1
end
end Bx
end
section
namespace Bx
open PySem PySem.Spec PyProof.Rows L2
open Vbpcau (Plan Plans Bytes readNumber readByte readCore readPart readParts digit)
abbrev GY(t:Addr)(p:Nat)(nl:Addr):List (Str×V):=[("text",.ref t),("place",.int (p:Nat)),("numbers",.ref nl)]
theorem KN(t:Addr)(p:Nat)(nl:Addr):bz ("text":Str) (GY t p nl)=aa (.ref t):=cn _ _ _
theorem mX(t:Addr)(p:Nat)(nl:Addr):bz ("place":Str) (GY t p nl)=aa (.int (p:Nat)):=by rw[bE _ _ (by decide+kernel),cn]
theorem A9(t:Addr)(p:Nat)(nl:Addr):bz ("numbers":Str) (GY t p nl)=aa (.ref nl):=by rw[bE _ _ (by decide+kernel),bE _ _ (by decide+kernel),cn]
theorem cU{m:Str}(t:Addr)(p:Nat)(nl:Addr)(h1:¬m="text")(h2:¬m="place")(h3:¬m="numbers"):bz m (GY t p nl)=none:=by rw[bE _ _ h1,bE _ _ h2,bE _ _ h3];rfl
abbrev bI(bs:Bytes):List V:=(bs.map λc=>(c.toNat:Int)).map V.int
theorem Nj(bs:Bytes):(bI bs).length=bs.length:=by rw[ae,ae]
structure jc(C r t nl:Addr)(bs:Bytes)(p:Nat)(ns:List Nat)(H:Hp):Prop where
 ob:∃dx,H r=aa (.ins C dx (GY t p nl))
 tx:H t=aa (.lst (bI bs))
 nm:H nl=aa (.lst (nI ns))
 tn:t≠nl
 l1:ns.length<=p
 l2:p<=bs.length
 l3:bs.length<=400
def Cm(r nl:Addr):Addr->Prop:=λz=>z=r\/z=nl
theorem jc.same{C r t nl:Addr}{bs:Bytes}{p:Nat}{ns:List Nat}{H H':Hp}(h:jc C r t nl bs p ns H)(s:aJ H H'):jc C r t nl bs p ns H':=by
 obtain⟨⟨dx,h1⟩,h2,h3,h4,h5,h6,h7⟩:=h
 exact⟨⟨dx,s _ _ h1⟩,s _ _ h2,s _ _ h3,h4,h5,h6,h7⟩
theorem jc.rt{C r t nl:Addr}{bs:Bytes}{p:Nat}{ns:List Nat}{H:Hp}(h:jc C r t nl bs p ns H):r≠t:=by
 obtain⟨dx,h1⟩:=h.ob
 exact eI h1 h.tx (by intro z;cases z)
theorem jc.rn{C r t nl:Addr}{bs:Bytes}{p:Nat}{ns:List Nat}{H:Hp}(h:jc C r t nl bs p ns H):r≠nl:=by
 obtain⟨dx,h1⟩:=h.ob
 exact eI h1 h.nm (by intro z;cases z)
theorem jc.step{C r t nl dx:Addr}{bs:Bytes}{p:Nat}{ns:List Nat}{H:Hp}(h:jc C r t nl bs p ns H)(hp:p<bs.length):jc C r t nl bs (p+1) ns (upd H r (.ins C dx (GY t (p+1) nl))):=
 ⟨⟨dx,ag⟩,by rw[az h.rt.symm];exact h.tx,by rw[az h.rn.symm];exact h.nm,h.tn,by have:=h.l1;ac_rfl,hp,h.l3⟩
theorem jc.push{C r t nl:Addr}{bs:Bytes}{p:Nat}{ns:List Nat}{H:Hp}(h:jc C r t nl bs p ns H)(k:Nat)(hk:ns.length<p):jc C r t nl bs p (ns++[k]) (upd H nl (.lst (nI (ns++[k])))):=by
 obtain⟨⟨dx,h1⟩,h2,h3,h4,h5,h6,h7⟩:=id h
 exact⟨⟨dx,by rw[az h.rn];exact h1⟩,by rw[az h4];exact h2,ag,h4,by rw[ai];show _+1<=_;assumption,h6,h7⟩
theorem Km{r nl:Addr}{H:Hp}{o:HO}:Keeps (Cm r nl) H (upd H r o):=λz u e n=>by rw[az (λq=>n (.inl q))];exact e
theorem P4{r nl:Addr}{H:Hp}{o:HO}:Keeps (Cm r nl) H (upd H nl o):=λz u e n=>by rw[az (λq=>n (.inr q))];exact e
def Ft(K:af)(R:Addr)(n:Int)(X:Addr->Prop)(H:Hp)(E:XK):Prop:=∀C d H',Ho K C R->FH K C->iq K C "number"->Keeps X H H'->H' d=aa (.xd [("number",.int n)])->E (.ref C) (aa d) H'
theorem Ft.at{K:af}{R C:Addr}{n:Int}{X:Addr->Prop}{H H1:Hp}{E:XK}(e:Ft K R n X H E)(hit:Ho K C R)(gt:FH K C)(no:iq K C "number")(s:Keeps X H H1):∀dx,H1 dx=none->E (.ref C) (aa dx) (upd H1 dx (.xd [("number",.int n)])):=
 λdx hd=>e C dx _ hit gt no (s.trans (Keeps.of (aJ.upd hd))) ag
theorem Ft.keep{K:af}{R:Addr}{n:Int}{X:Addr->Prop}{H H1:Hp}{E:XK}(e:Ft K R n X H E)(s:Keeps X H H1):Ft K R n X H1 E:=λC d H' a b c s' q=>e C d H' a b c (s.trans s') q
section
variable{P:Program}{w:World}{K:af}{mg:Str->Option Value}{base:Heap}
def OS(T:Tx K mg):Sp:=λvs H Q _=>ex3 Q λr dx t Q=>vs=[.ref r,.ref t]/\H r=aa (.ins T.aN.C dx [])/\r≠t/\∀nl,H nl=none->Q .iD (upd (upd H nl (.lst [])) r (.ins T.aN.C dx (GY t 0 nl)))
theorem Bh:aH ["self","text"] ["self","text"] (aq qd):=⟨rfl,rfl,rfl,by decide+kernel,rfl,by decide+kernel,by decide+kernel⟩
theorem AQ(T:Tx K mg):bw P w K mg base (du P w) 1 T.mJ.f T.mJ.fd ["self","text"] (OS T):=by
 refine T.mJ.fn.okN Bh (λvs H Q E zz0=>by obtain⟨_,_,_,e,_⟩:=zz0;rw[e];rfl) λcdv A outer s H vs Q E hr zz1=>?_
 obtain⟨r,dx,t,e,hm,_,k⟩:=zz1
 subst e
 refine⟨_,ao (hZ (pv 0) (pv 1) rfl) (ao (hZ (pv 0) bj rfl) (au (hZ (pv 0) (d3 aj) rfl))),?_⟩
 refine⟨_,rfl,_,rfl,r,_,dx,_,rfl,hm,T.aN.cl,T.aN.no _ (by simp),(by show 0<1000;decide),?_⟩
 refine⟨_,rfl,r,_,dx,_,rfl,ag,T.aN.cl,T.aN.no _ (by simp),(by show 1<1000;decide),?_⟩
 rw[ik,gX,dn _ _ _ (by decide+kernel),gX]
 refine⟨bp _,λnl hnl=>?_⟩
 have hrn:r≠nl:=aA ag hnl
 refine⟨_,rfl,r,_,dx,_,rfl,(by rw[az hrn,ag]),T.aN.cl,T.aN.no _ (by simp),(by show 2<1000;decide),?_⟩
 rw[dn _ _ _ (by decide+kernel),dn _ _ _ (by decide+kernel),gX]
 have nH:H nl=none:=by rw[az hrn.symm]at hnl;exact hnl
 have:=k nl nH
 have e:upd (upd (upd H r (.ins T.aN.C dx [("text",.ref t),("place",.int 0)])) nl (.lst [])) r (.ins T.aN.C dx [("text",.ref t),("place",.int 0),("numbers",.ref nl)])=upd (upd H nl (.lst [])) r (.ins T.aN.C dx (GY t 0 nl)):=by
  funext z
  by_cases h1:z=r
  ·rw[h1,ag,ag];rfl
  ·rw[az h1,az h1]
   by_cases h2:z=nl
   ·rw[h2,ag,ag]
   ·rw[az h2,az h2,az h1]
 exact e▸this
def SE(T:Tx K mg):Sp:=λvs H Q _=>ex6 Q λr t nl bs p ns Q=>vs=[.ref r]/\jc T.aN.C r t nl bs p ns H/\Q (.int (here bs p:Nat)) H
theorem uZ:aH ["self"] ["self"] (aq ku):=⟨rfl,rfl,rfl,by decide+kernel,rfl,by decide+kernel,by decide+kernel⟩
theorem iS(T:Tx K mg):bw P w K mg base (du P w) 1 T.bG.f T.bG.fd ["self"] (SE T):=by
 refine T.bG.fn.okN uZ (λvs H Q E zz2=>by obtain⟨_,_,_,_,_,_,e,_⟩:=zz2;rw[e];rfl) λcdv A outer s H vs Q E hr zz3=>?_
 obtain⟨r,t,nl,bs,p,ns,e,⟨⟨dx,h1⟩,h2,h3,h4,h5,h6,h7⟩,k⟩:=zz3
 subst e
 refine⟨_,au (a8 (qM (cI sh (ba (pv 0) rfl) (cg cP rfl T.nQ cz (ab (ba (pv 0) rfl) aj)) (eE _)) (jN ij (ba (pv 0) rfl) (ba (pv 0) rfl) (λ_ _=>rfl)) (cM T.BI rfl))),?_⟩
 refine⟨_,rfl,r,_,dx,_,_,rfl,h1,T.aN.cl,T.aN.no _ (by simp),mX _ _ _,_,rfl,r,_,dx,_,_,rfl,h1,T.aN.cl,T.aN.no _ (by simp),KN _ _ _,t,_,rfl,.inl (cJ.of h2),_,_,rfl,rfl,_,rfl,?_⟩
 rw[Nj]
 by_cases q:p<bs.length
 ·refine Kj (by lia:((p:Nat):Int)<((bs.length:Nat):Int)) ?_
  refine eD ⟨_,rfl,r,_,dx,_,_,rfl,h1,T.aN.cl,T.aN.no _ (by simp),KN _ _ _,_,rfl,r,_,dx,_,_,rfl,h1,T.aN.cl,T.aN.no _ (by simp),mX _ _ _,t,_,_,_,rfl,rfl,cJ.of h2,gT (j:=p) (v:=.int (here bs p:Nat)) ?_,k⟩
  rw[aS,aS,cC q]
  unfold here
  rw[cC q];rfl
 ·refine Kh (by lia:¬((p:Nat):Int)<((bs.length:Nat):Int)) ?_
  refine fM ?_
  have:here bs p=256:=by unfold here;rw[gL (by ac_rfl)]
  rw[this]at k
  exact k
def SQ(T:Tx K mg):Sp:=λvs H Q E=>ex7 Q λ(r t nl:Addr)(bs:Bytes)(p:Nat)(ns:List Nat)(c:Nat) Q=>vs=[.ref r,.int c]/\jc T.aN.C r t nl bs p ns H/\c<256/\
 if here bs p=c then∀H',jc T.aN.C r t nl bs (p+1) ns H'->Keeps (Cm r nl) H H'->Q .iD H' else Ft K T.bx.C (-1000-(p:Nat)) (Cm r nl) H E
theorem Bi:aH ["self","byte"] ["self","byte"] (aq qe):=⟨rfl,rfl,rfl,by decide+kernel,rfl,by decide+kernel,by decide+kernel⟩
theorem rm{bs:Bytes}{p:Nat}(h:here bs p<256):p<bs.length:=by
 rcases Nat.lt_or_ge p bs.length with q|q
 ·exact q
 ·unfold here at h;rw[gL q]at h;exact absurd h (by decide)
theorem uH(T:Tx K mg):bw P w K mg base (du P w) 4 T.dz.f T.dz.fd ["self","byte"] (SQ T):=by
 refine T.dz.fn.qX Bi (λvs H Q E zz4=>by obtain⟨_,_,_,_,_,_,_,e,_⟩:=zz4;rw[e];rfl) λcdv A outer s H vs Q E hr zz5=>?_
 obtain⟨r,t,nl,bs,p,ns,c,e,rd,hc,k⟩:=zz5
 subst e
 obtain⟨dx,h1⟩:=rd.ob
 refine⟨_,ao (gi (cI Rr (eu (dvs:=[]) (ds:=[]) (E:=E0) (pv 0) T.aN.cl T.bG.me (iS T) (hr.mono (by decide)) T.bG.bi .nil aP) (pv 1) (eE _))
   (au (w9 iQ T.ro T.b8.ty (jg T) (hr.mono (by decide)) rfl T.b8.mg T.fv.bi (ab (ba (pv 0) rfl) aj) (by decide))) cH)
  (au (x8 (pv 0) bj NZ)),?_⟩
 refine⟨_,rfl,r,dx,_,rfl,h1,cU _ _ _ (by decide+kernel) (by decide+kernel) (by decide+kernel),r,t,nl,bs,p,ns,rfl,rd,_,rfl,rfl,_,rfl,?_⟩
 by_cases q:here bs p=c
 ·rw[if_pos q]at k
  rw[show(!decide (V.int (here bs p:Nat)=V.int (c:Nat)))=false by rw[q,decide_eq_true rfl];rfl]
  have hp:p<bs.length:=rm (by lia)
  refine fM ⟨_,rfl,r,_,dx,_,_,rfl,h1,T.aN.cl,T.aN.no _ (by simp),mX _ _ _,_,_,rfl,rfl,dx,_,h1,(by show 3<1000;decide),?_⟩
  rw[dn _ _ _ (by decide+kernel),jv]
  exact k _ (rd.step hp) Km
 ·rw[if_neg q]at k
  rw[show(!decide (V.int (here bs p:Nat)=V.int (c:Nat)))=true by rw[decide_eq_false (λz=>q (by injection z with z;exact gA.mp z))];rfl]
  exact eD ⟨_,rfl,r,_,dx,_,_,rfl,h1,T.aN.cl,T.aN.no _ (by simp),mX _ _ _,rfl,_,rfl,k.at T.rl T.b8.gt T.b8.no (Keeps.of (aJ.refl _))⟩
def QS(T:Tx K mg):Sp:=λvs H Q _=>ex6 Q λ(r t nl:Addr)(bs:Bytes)(p:Nat)(ns:List Nat) Q=>vs=[.ref r]/\jc T.aN.C r t nl bs p ns H/\p<bs.length/\∀H',jc T.aN.C r t nl bs (p+1) ns H'->Keeps (Cm r nl) H H'->Q (.int ((here bs p:Nat)-48)) H'
theorem mY:aH ["self","digit"] ["self"] (aq jZ):=⟨rfl,rfl,rfl,by decide+kernel,rfl,by decide+kernel,by decide+kernel⟩
theorem vj(T:Tx K mg):bw P w K mg base (du P w) 2 T.eO.f T.eO.fd ["self"] (QS T):=by
 refine T.eO.fn.okN mY (λvs H Q E zz6=>by obtain⟨_,_,_,_,_,_,e,_⟩:=zz6;rw[e];rfl) λcdv A outer s H vs Q E hr zz0=>?_
 obtain⟨r,t,nl,bs,p,ns,e,rd,hp,k⟩:=zz0
 subst e
 obtain⟨dx,h1⟩:=rd.ob
 refine⟨_,ao (bK (i:=1) mY.nd rfl (Or.inl rfl) (cZ nE (eu (dvs:=[]) (ds:=[]) (E:=E0) (pv 0) T.aN.cl T.bG.me (iS T) (hr.mono (by decide)) T.bG.bi .nil aP) (cM T.O1 rfl)))
  (ao (x8 (pv 0) bj NZ) (au (a8 (pv 1)))),?_⟩
 refine⟨_,rfl,r,dx,_,rfl,h1,cU _ _ _ (by decide+kernel) (by decide+kernel) (by decide+kernel),r,t,nl,bs,p,ns,rfl,rd,_,_,rfl,rfl,?_⟩
 refine⟨_,rfl,r,_,dx,_,_,rfl,h1,T.aN.cl,T.aN.no _ (by simp),mX _ _ _,_,_,rfl,rfl,dx,_,h1,(by show 3<1000;decide),?_⟩
 rw[dn _ _ _ (by decide+kernel),jv]
 exact⟨_,rfl,k _ (rd.step hp) Km⟩
def Uo(T:Tx K mg):Sp:=λvs H Q E=>ex6 Q λ(r t nl:Addr)(bs:Bytes)(p:Nat)(ns:List Nat) Q=>vs=[.ref r]/\jc T.aN.C r t nl bs p ns H/\match readNumber p (bs.drop p)with
 |.ok (k,p',_)=>∀H',jc T.aN.C r t nl bs p' (ns++[k]) H'->Keeps (Cm r nl) H H'->Q (.int (k:Nat)) H'
 |.error e=>Ft K T.bx.C (-1000-(e:Nat)) (Cm r nl) H E
theorem jf:aH ["self","number"] ["self"] (aq jz):=⟨rfl,rfl,rfl,by decide+kernel,rfl,by decide+kernel,by decide+kernel⟩
theorem V4{c:UInt8}:c≠48↔c.toNat≠48:=by
 rw[Ne,Ne,Hg (k:=48) (by decide)];rfl
theorem oZ(T:Tx K mg):bw P w K mg base (du P w) 5 T.cO.f T.cO.fd ["self"] (Uo T):=by
 refine T.cO.fn.qX jf (λvs H Q E zz1=>by obtain⟨_,_,_,_,_,_,e,_⟩:=zz1;rw[e];rfl) λcdv A outer s H vs Q E hr zz2=>?_
 obtain⟨r,t,nl,bs,p,ns,e,rd,k⟩:=zz2
 subst e
 obtain⟨dx,h1⟩:=rd.ob
 refine⟨_,ao (gi (o3 (tL sh pO (cM T.O1 rfl) (eu (dvs:=[]) (ds:=[]) (E:=E0) (pv 0) T.aN.cl T.bG.me (iS T) (hr.mono (by decide)) T.bG.bi .nil aP) (cM T.RB rfl)))
   (au (w9 iQ T.ro T.b8.ty (jg T) (hr.mono (by decide)) rfl T.b8.mg T.fv.bi (ab (ba (pv 0) rfl) aj) (by decide))) cH)
  (ao (bK (i:=1) jf.nd rfl (Or.inl rfl) (eu (dvs:=[]) (ds:=[]) (E:=E0) (pv 0) T.aN.cl T.eO.me (vj T) (hr.mono (by decide)) T.eO.bi .nil aP))
  (ao (gi (tL pO pO (cM T.O1 rfl) (eu (dvs:=[]) (ds:=[]) (E:=E0) (pv 0) T.aN.cl T.bG.me (iS T) (hr.mono (by decide)) T.bG.bi .nil aP) (cM T.RB rfl))
    (au (bK (i:=1) jf.nd rfl (Or.inl rfl) (cZ gM (cZ A0 (pv 1) bj) (eu (dvs:=[]) (ds:=[]) (E:=E0) (pv 0) T.aN.cl T.eO.me (vj T) (hr.mono (by decide)) T.eO.bi .nil aP)))) cH)
  (ao (cw (vm cq fL hJ qK (ba (pv 0) rfl) (ab (pv 1) aj)))
  (au (a8 (pv 1)))))),?_⟩
 have no1:bz ("byte_here":Str) (GY t p nl)=none:=cU _ _ _ (by decide+kernel) (by decide+kernel) (by decide+kernel)
 have bad:¬(48<here bs p/\here bs p<=57)->uq E T.b8.C EA 1 (gJ (BD K (fN 0) "place") mq) {nx:=λ_ H'=>Q .iD H',rt:=Q} (start ["self","number"] [.ref r]) H:=λhn=>by
  have e1:readNumber p (bs.drop p)=.error p:=by
   cases q:bs.drop p with
   |nil=>rfl
   |cons c r'=>
    obtain⟨e1,_,_⟩:=dY q
    refine Ky λz=>hn ?_
    have h2:=oz.mp z.1
    have h3:=V4.mp z.2
    rw[e1];lia
  rw[e1]at k
  exact⟨_,rfl,r,_,dx,_,_,rfl,h1,T.aN.cl,T.aN.no _ (by simp),mX _ _ _,rfl,_,rfl,k.at T.rl T.b8.gt T.b8.no (Keeps.of (aJ.refl _))⟩
 refine⟨_,rfl,r,dx,_,rfl,h1,no1,r,t,nl,bs,p,ns,rfl,rd,_,_,rfl,rfl,_,rfl,?_⟩
 refine zw (λg1=>?_) (λg1=>?_)
 ·have g1':(48:Int)<(here bs p:Nat):=of_decide_eq_true g1
  refine⟨_,_,rfl,rfl,_,rfl,?_⟩
  by_cases g2:here bs p<=57
  ·rw[decide_eq_true (by lia:((here bs p:Nat):Int)<=57)]
   refine fM ?_
   have hp:p<bs.length:=rm (by lia)
   obtain⟨c,r',hdr⟩:∃c r',bs.drop p=c::r':=⟨_,_,bO hp⟩
   obtain⟨e1,e2,_⟩:=dY hdr
   have hc:digit c=true/\c≠48:=⟨oz.mpr (by lia),V4.mpr (by lia)⟩
   rw[hdr]at k
   refine⟨_,rfl,r,dx,_,rfl,h1,cU _ _ _ (by decide+kernel) (by decide+kernel) (by decide+kernel),r,t,nl,bs,p,ns,rfl,rd,hp,λH1 rd1 k1=>?_⟩
   obtain⟨dx1,h11⟩:=rd1.ob
   have fin:∀(H2:Hp)(p2 v:Nat),jc T.aN.C r t nl bs p2 ns H2->Keeps (Cm r nl) H H2->ns.length<p2->(∀H',jc T.aN.C r t nl bs p2 (ns++[v]) H'->Keeps (Cm r nl) H H'->Q (.int (v:Nat)) H')->
     S8 (OU (VQ K "list" EK (BD K (fN 0) "numbers") (gJ (fN 1) mq))) (OV (fN 1)) {nx:=λ_ H'=>Q .iD H',rt:=Q} [aa (.ref r),aa (.int (v:Nat))] H2:=λH2 p2 v rd2 k2 hl kk=>by
    obtain⟨dx2,h22⟩:=rd2.ob
    refine⟨_,rfl,r,_,dx2,_,_,rfl,h22,T.aN.cl,T.aN.no _ (by simp),A9 _ _ _,.inl ⟨rfl,_,cJ.of rd2.nm⟩,_,rfl,nl,_,_,rfl,rfl,rd2.nm,?_,_,rfl,?_⟩
    ·have:=rd2.l1
     have:=rd2.l2
     have:=rd2.l3
     rw[jQ,sizeLine_eq];lia
    ·have:=rd2.push v hl
     rw[xZ]at this
     exact kk _ this (k2.trans P4)
   have hl:=rd.l1
   have no2:bz ("byte_here":Str) (GY t (p+1) nl)=none:=cU _ _ _ (by decide+kernel) (by decide+kernel) (by decide+kernel)
   have v1:((here bs p:Nat):Int)-48=((c.toNat-48:Nat):Int):=by lia
   rw[v1]
   have one:¬(48<=here bs (p+1)/\here bs (p+1)<=57)->S8 (OU (VQ K "list" EK (BD K (fN 0) "numbers") (gJ (fN 1) mq))) (OV (fN 1)) {nx:=λ_ H'=>Q .iD H',rt:=Q} [aa (.ref r),aa (.int (c.toNat-48:Nat))] H1:=λhn=>by
    refine fin H1 (p+1) (c.toNat-48) rd1 k1 (by ac_rfl) ?_
    cases q:r' with
    |nil=>rw[q,Kz hc]at k;exact k
    |cons d q'=>
     rw[q]at k e2
     have hd:¬digit d=true:=λz=>hn (by have:=oz.mp z;rw[(dY e2).1];exact this)
     rw[KA hc hd]at k;exact k
   refine⟨_,rfl,r,dx1,_,rfl,h11,no2,r,t,nl,bs,p+1,ns,rfl,rd1,_,_,rfl,rfl,_,rfl,?_⟩
   refine zw (λg3=>?_) (λg3=>?_)
   ·have g3':(48:Int)<=(here bs (p+1):Nat):=of_decide_eq_true g3
    refine⟨_,_,rfl,rfl,_,rfl,?_⟩
    by_cases g4:here bs (p+1)<=57
    ·refine Kj (by lia:((here bs (p+1):Nat):Int)<=57) ?_
     have hp1:p+1<bs.length:=rm (by lia)
     obtain⟨d,q',hdr2⟩:∃d q',bs.drop (p+1)=d::q':=⟨_,_,bO hp1⟩
     obtain⟨e3,e4,_⟩:=dY hdr2
     have hd:digit d=true:=oz.mpr (by lia)
     rw[e2]at hdr2
     rw[hdr2,KC hc hd]at k
     refine eD ⟨_,rfl,_,_,rfl,rfl,.inr (by decide),_,rfl,r,dx1,_,rfl,h11,cU _ _ _ (by decide+kernel) (by decide+kernel) (by decide+kernel),r,t,nl,bs,p+1,ns,rfl,rd1,hp1,λH2 rd2 k2=>⟨_,_,rfl,rfl,?_⟩⟩
     have v2:((c.toNat-48:Nat):Int)*10+(((here bs (p+1):Nat):Int)-48)=(((c.toNat-48)*10+(d.toNat-48):Nat):Int):=by lia
     have f:=fin H2 (p+2) _ rd2 (k1.trans k2) (by lia) k
     rw[<-v2]at f
     exact f
    ·refine Kh (by lia:¬((here bs (p+1):Nat):Int)<=57) ?_
     exact fM (one λz=>g4 z.2)
   ·refine⟨_,rfl,?_⟩
    exact fM (one λz=>g3 (decide_eq_true (by lia)))
  ·rw[decide_eq_false (by lia:¬((here bs p:Nat):Int)<=57)]
   exact eD (bad λz=>g2 z.2)
 ·refine⟨_,rfl,?_⟩
  exact eD (bad λz=>g1 (decide_eq_true (by lia)))
end
end Bx
end
section
namespace Bx
open PySem PySem.Spec PyProof.Rows L2
open Vbpcau (Plan Plans Bytes Got readNumber readByte readCore readPart readParts digit)
theorem tj{bs t':Bytes}{p p':Nat}(hp:p<=bs.length)(h:MO p (bs.drop p) p' t'):t'=bs.drop p'/\p<p'/\p'<=bs.length:=by
 obtain⟨m,h1,h2,rfl,rfl⟩:=h
 rw[iL]at h2
 exact⟨by rw[List.drop_drop],by lia,by lia⟩
theorem JR{bs:Bytes}{p:Nat}(b:UInt8):readByte b p (bs.drop p)=if here bs p=b.toNat then .ok ((),p+1,bs.drop (p+1))else .error p:=by
 cases q:bs.drop p with
 |nil=>
  rw[(Gf q).1,if_neg (by have:=RA b;ac_rfl)];rfl
 |cons c r=>
  obtain⟨e1,e2,_⟩:=dY q
  rw[e1,e2]
  show(if c=b then _ else _)=_
  by_cases h:c=b
  ·rw[if_pos h,if_pos (by rw[h])]
  ·rw[if_neg h,if_neg (λz=>h (UInt8.toNat_inj.mp z))]
theorem mO:∀l:Plans,l.layers=l.list.flatMap Plan.layers
 |.nil=>rfl
 |.cons p l=>by
  show p.layers++l.layers=(p::l.list).flatMap Plan.layers
  rw[mO l,bT]
theorem NV{l m:List Nat}(h:l≠[]):(l++m).headD 0=l.headD 0:=by
 cases l with
 |nil=>exact absurd rfl h
 |cons x r=>rfl
theorem N6{l m:List Nat}(h:m≠[]):(l++m).getLastD 0=m.getLastD 0:=by
 obtain⟨x,r,rfl⟩:∃x r,m=r++[x]:=⟨m.getLast h,m.dropLast,(fP h).symm⟩
 rw[<-dm];simp
theorem Ef{l:Plans}{p q:Plan}{m n:List Plan}(h1:l.list=p::m)(h2:l.list=n++[q])(g1:p.layers≠[])(g2:q.layers≠[]):l.layers.headD 0=lg p/\l.layers.getLastD 0=l5 q:=by
 refine⟨?_,?_⟩
 ·rw[mO,h1,bT,NV g1,(Ax p).1];rfl
 ·rw[mO,h2,dh,N6 (by simpa using g2),(Ax q).2]
  rw[bT,gC,aZ];rfl
theorem GD{X:Addr->Prop}{H H1 H2:Hp}(hX:∀z,X z->∃o,H z=aa o)(k:Keeps X H1 H2):aJ (nw H H1) (nw H H2):=λb o e=>by
 obtain⟨e1,e2⟩:=eG.mp e
 refine eG.mpr ⟨e1,k _ _ e2 λz=>?_⟩
 obtain⟨o',q⟩:=hX b z
 rw[e1]at q;cases q
theorem jc.xt{C r t nl:Addr}{bs:Bytes}{p:Nat}{ns:List Nat}{H:Hp}(h:jc C r t nl bs p ns H):∀z,Cm r nl z->∃o,H z=aa o:=λz hz=>by
 obtain⟨dx,h1⟩:=h.ob
 rcases hz with e|e
 ·exact⟨_,by rw[e];exact h1⟩
 ·exact⟨_,by rw[e];exact h.nm⟩
theorem mx{X:Addr->Prop}{H H1:Hp}{z:Addr}(k:Keeps X H H1)(hX:∀z,X z->∃o,H1 z=aa o)(h:H1 z=none):H z=none:=by
 cases e:H z with
 |none=>rfl
 |some o=>
  by_cases x:X z
  ·obtain⟨o',q⟩:=hX z x
   rw[h]at q;cases q
  ·have:=k _ _ e x
   rw[h]at this;cases this
section
variable{P:Program}{w:World}{K:af}{mg:Str->Option Value}{base:Heap}
def Cw(T:Tx K mg)(r t nl:Addr)(bs:Bytes)(ns:List Nat)(H:Hp)(Q:VK)(E:XK):Got Plan->Prop
 |.ok (x,p',_)=>∀q H',jc T.aN.C r t nl bs p' (ns++x.layers) H'->Keeps (Cm r nl) H H'->fu T.aV.C (nw H H') x q->Q (.ref q) H'
 |.error e=>Ft K T.bx.C (-1000-(e:Nat)) (Cm r nl) H E
def SG(T:Tx K mg):Sp:=λvs H Q E=>ex7 Q λ(r t nl:Addr)(bs:Bytes)(p:Nat)(ns:List Nat)(r':Bytes) Q=>vs=[.ref r]/\jc T.aN.C r t nl bs p ns H/\bs.drop p=91::r'/\Cw T r t nl bs ns H Q E (readCore (p+1) r')
theorem j2:aH ["self","first","last"] ["self"] (aq kz):=⟨rfl,rfl,rfl,by decide+kernel,rfl,by decide+kernel,by decide+kernel⟩
theorem Kp{C:Addr}{H H1:Hp}{X:Addr->Prop}{x:Plan}{D q dx:Addr}{f z:Nat}(hs:sub x=.nil)(hi:fS x=false)(h1:lg x=f)(h2:l5 x=z)(fD:H D=none)(fq:H q=none)(hD:H1 D=none)(hq:upd H1 D (.lst []) q=none)(hdx:upd H1 D (.lst []) dx=none)(ne:dx≠q):
  fu C (nw H (upd (upd (upd H1 D (.lst [])) dx (.own q)) q (.ins C dx (pf f z D)))) x q:=by
 have sX:aJ (upd H1 D (.lst [])) (upd (upd (upd H1 D (.lst [])) dx (.own q)) q (.ins C dx (pf f z D))):=iM hq hdx ne
 refine fu.make (dx:=dx) (l:=D) (as:=[]) ?_ ?_ ?_ (λz=>by rw[hi]at z;cases z)
 ·rw[h1,h2];exact eG.mpr ⟨fq,ag⟩
 ·exact eG.mpr ⟨fD,sX _ _ ag⟩
 ·rw[hs];rfl
theorem EE(T:Tx K mg):bw P w K mg base (du P w) 7 T.ir.f T.ir.fd ["self"] (SG T):=by
 refine T.ir.fn.qX j2 (λvs H Q E zz0=>by obtain⟨_,_,_,_,_,_,_,e,_⟩:=zz0;rw[e];rfl) λcdv A outer s H vs Q E hr zz1=>?_
 obtain⟨r,t,nl,bs,p,ns,r',e,rd,hdr,k⟩:=zz1
 subst e
 refine⟨_,ao (cw (cQ (dvs:=[]) (ds:=[]) (pv 0) T.aN.cl T.dz.me (uH T) (hr.mono (by decide)) T.dz.bi .nil eh (ab (cM T.xA rfl) aj)))
  (ao (bK (i:=1) j2.nd rfl (Or.inl rfl) (eu (dvs:=[]) (ds:=[]) (pv 0) T.aN.cl T.cO.me (oZ T) (hr.mono (by decide)) T.cO.bi .nil eh))
  (ao (cw (cQ (dvs:=[]) (ds:=[]) (pv 0) T.aN.cl T.dz.me (uH T) (hr.mono (by decide)) T.dz.bi .nil eh (ab (cM T.Jt rfl) aj)))
  (ao (bK (i:=2) j2.nd rfl (Or.inl rfl) (eu (dvs:=[]) (ds:=[]) (pv 0) T.aN.cl T.cO.me (oZ T) (hr.mono (by decide)) T.cO.bi .nil eh))
  (ao (cw (cQ (dvs:=[]) (ds:=[]) (pv 0) T.aN.cl T.dz.me (uH T) (hr.mono (by decide)) T.dz.bi .nil eh (ab (cM T.Ju rfl) aj)))
  (au (a8 (gW (dvs:=[]) (ds:=[]) (E:=E0) T.Di (jJ T) (hr.mono (by decide)) rfl T.aV.mg T.i7.bi .nil aP (ab (pv 1) (ab (pv 2) (ab (d3 aj) aj))))))))))
  ,?_⟩
 obtain⟨dx,h1⟩:=rd.ob
 have no:∀{m:Str}(p:Nat),¬m="text"->¬m="place"->¬m="numbers"->bz m (GY t p nl)=none:=λp a b c=>cU _ _ _ a b c
 obtain⟨hh,hr',_⟩:=dY hdr
 refine⟨_,rfl,r,dx,_,rfl,h1,no _ (by decide+kernel) (by decide+kernel) (by decide+kernel),r,t,nl,bs,p,ns,91,rfl,rd,by decide,?_⟩
 rw[if_pos (by rw[hh];rfl)]
 intro H1 rd1 k1
 obtain⟨dx1,h11⟩:=rd1.ob
 unfold readCore at k
 rw[<-hr']at k
 refine⟨_,rfl,r,dx1,_,rfl,h11,no _ (by decide+kernel) (by decide+kernel) (by decide+kernel),r,t,nl,bs,p+1,ns,rfl,rd1,?_⟩
 cases q1:readNumber (p+1) (bs.drop (p+1))with
 |error e=>rw[q1]at k;exact Ft.keep k k1
 |ok v1=>
  obtain⟨a,p2,t2⟩:=v1
  rw[q1]at k
  dsimp only at k⊢
  intro H2 rd2 k2
  obtain⟨f2,_⟩:=uC q1
  obtain⟨rfl,_,_⟩:=tj rd1.l2 f2
  obtain⟨dx2,h22⟩:=rd2.ob
  refine⟨_,rfl,r,dx2,_,rfl,h22,no _ (by decide+kernel) (by decide+kernel) (by decide+kernel),r,t,nl,bs,p2,_,32,rfl,rd2,by decide,?_⟩
  rw[JR]at k
  by_cases g2:here bs p2=32
  ·rw[if_pos g2]
   rw[if_pos (by rw[g2];rfl)]at k
   dsimp only at k
   intro H3 rd3 k3
   obtain⟨dx3,h33⟩:=rd3.ob
   refine⟨_,rfl,r,dx3,_,rfl,h33,no _ (by decide+kernel) (by decide+kernel) (by decide+kernel),r,t,nl,bs,p2+1,_,rfl,rd3,?_⟩
   cases q3:readNumber (p2+1) (bs.drop (p2+1))with
   |error e=>rw[q3]at k;exact Ft.keep k ((k1.trans k2).trans k3)
   |ok v3=>
    obtain⟨b,p4,t4⟩:=v3
    rw[q3]at k
    dsimp only at k⊢
    intro H4 rd4 k4
    obtain⟨f4,_⟩:=uC q3
    obtain⟨rfl,_,_⟩:=tj rd3.l2 f4
    obtain⟨dx4,h44⟩:=rd4.ob
    refine⟨_,rfl,r,dx4,_,rfl,h44,no _ (by decide+kernel) (by decide+kernel) (by decide+kernel),r,t,nl,bs,p4,_,93,rfl,rd4,by decide,?_⟩
    rw[JR]at k
    have kk:=((k1.trans k2).trans k3).trans k4
    by_cases g4:here bs p4=93
    ·rw[if_pos g4]
     rw[if_pos (by rw[g4];rfl)]at k
     dsimp only at k
     intro H5 rd5 k5
     have kA:=kk.trans k5
     refine⟨_,rfl,_,rfl,bp _,λD hD q dq nq ndq ne=>?_⟩
     refine⟨q,dq,_,_,D,rfl,ag,rfl,?_⟩
     rw[ik]
     have sD:=aJ.upd (o:=.lst []) hD
     have sX:=sD.trans (iM (C:=T.aV.C) (fs:=pf (a:Nat) (b:Nat) D) nq ndq ne)
     refine k q _ ?_ (kA.trans (Keeps.of sX)) (Kp (X:=Cm r nl) rfl rfl rfl rfl (mx kA rd5.xt hD) (mx kA rd5.xt (sD.free nq)) hD nq ndq ne)
     have:=rd5.same sX
     rw[dm]at this
     exact this
    ·rw[if_neg g4]
     rw[if_neg (show¬here bs p4=UInt8.toNat 93 from g4)]at k
     exact Ft.keep k kk
  ·rw[if_neg g2]
   rw[if_neg (show¬here bs p2=UInt8.toNat 32 from g2)]at k
   exact Ft.keep k (k1.trans k2)
end
end Bx
end
section
namespace Bx
open PySem PySem.Spec PyProof.Rows L2
open Vbpcau (Plan Plans Bytes Got readNumber readByte readCore readPart readParts digit)
theorem jc.VW{C r t nl D:Addr}{bs:Bytes}{p:Nat}{ns:List Nat}{H:Hp}{o:HO}(h:jc C r t nl bs p ns H)(h1:r≠D)(h2:t≠D)(h3:nl≠D):jc C r t nl bs p ns (upd H D o):=by
 obtain⟨⟨dx,g1⟩,g2,g3,g4,g5,g6,g7⟩:=h
 exact⟨⟨dx,by rw[az h1];exact g1⟩,by rw[az h2];exact g2,by rw[az h3];exact g3,g4,g5,g6,g7⟩
def left(bs:Bytes)(r:Addr)(H:Hp):Nat:=match H r with
 |some (.ins _ _ [_,(_,.int p),_])=>bs.length-p.toNat
 |_=>0
theorem Kq{C r t nl dx:Addr}{bs:Bytes}{p:Nat}{H:Hp}(h:H r=aa (.ins C dx (GY t p nl))):left bs r H=bs.length-p:=by
 unfold left
 rw[h]
 show bs.length-((p:Nat):Int).toNat=_
 rfl
theorem LD(d:List Plan)(x:Plan):(d++[x]).flatMap Plan.layers=d.flatMap Plan.layers++x.layers:=by
 rw[dh,bT,gC,aZ]
section
variable{P:Program}{w:World}{K:af}{mg:Str->Option Value}{base:Heap}
def KJ:Got Plans->Got Plan
 |.error e=>.error e
 |.ok (l,p,t)=>.ok (.press l,p,t)
def An(done:List Plan):Got Plans->Got Plans
 |.error e=>.error e
 |.ok (l,p,t)=>.ok (cat done l,p,t)
theorem Dt(k d p:Nat)(t:Bytes):readParts (k+1) d p t=match readPart k d p t with
  |.error e=>.error e
  |.ok (x,p,t)=>An [x] (pS k d p t):=by
 rw[vP]
 cases readPart k d p t with
 |error e=>rfl
 |ok v=>
  obtain⟨x,p2,t2⟩:=v
  dsimp only
  cases pS k d p2 t2 with
  |error e=>rfl
  |ok v2=>obtain⟨l,p3,t3⟩:=v2;rfl
theorem FL(done:List Plan)(x:Plan)(g:Got Plans):An done (An [x] g)=An (done++[x]) g:=by
 cases g with
 |error e=>rfl
 |ok v=>
  obtain⟨l,p,t⟩:=v
  show Except.ok (cat done (.cons x l),p,t)=Except.ok (cat (done++[x]) l,p,t)
  rw[Am]
theorem OF{k d p:Nat}{r:Bytes}:pS k d p (41::r)=.ok (.nil,p+1,r):=rfl
theorem IW{k d p:Nat}{r:Bytes}:pS k d p (32::r)=readParts k d (p+1) r:=rfl
theorem OE{k d p:Nat}{t:Bytes}(h1:∀r,t≠41::r)(h2:∀r,t≠32::r):pS k d p t=.error p:=by
 unfold pS
 split
 ·exact absurd rfl (h1 _)
 ·exact absurd rfl (h2 _)
 ·rfl
def Fd(T:Tx K mg)(d:Nat):Sp:=λvs H Q E=>ex7 Q λ(r t nl:Addr)(bs:Bytes)(p:Nat)(ns:List Nat)(k:Nat) Q=>vs=[.ref r,.int (32-d:Nat)]/\d<=32/\jc T.aN.C r t nl bs p ns H/\2*(bs.length-p)+1<=k/\Cw T r t nl bs ns H Q E (readPart k d p (bs.drop p))
def KY(T:Tx K mg)(d:Nat):Sp:=λvs H Q E=>ex8 Q λ(r t nl:Addr)(bs:Bytes)(p:Nat)(ns:List Nat)(r':Bytes)(k:Nat) Q=>vs=[.ref r,.int (32-d:Nat)]/\d<=32/\jc T.aN.C r t nl bs p ns H/\bs.drop p=40::r'/\2*r'.length+2<=k/\
 Cw T r t nl bs ns H Q E (if d=0 then .error p else KJ (readParts k (d-1) (p+1) r'))
theorem mZ:aH ["self","depth","parts"] ["self","depth"] (aq j0):=⟨rfl,rfl,rfl,by decide+kernel,rfl,by decide+kernel,by decide+kernel⟩
theorem j3:aH ["self","depth","byte","layer"] ["self","depth"] (aq kE):=⟨rfl,rfl,rfl,by decide+kernel,rfl,by decide+kernel,by decide+kernel⟩
theorem Bw(T:Tx K mg)(d:Nat)(ih:∀m,d=m+1->bw P w K mg base (du P w) (2*m+9) T.bS.f T.bS.fd ["self","depth"] (Fd T m)):
  bw P w K mg base (du P w) (2*d+8) T.eP.f T.eP.fd ["self","depth"] (KY T d):=by
 have F:bw P w K mg base (du P w) (2*d+7) T.bS.f T.bS.fd ["self","depth"] (λvs H Q E=>ex1 Q λm Q=>d=m+1/\Fd T m vs H Q E):=by
  refine⟨λvs H Q E ⟨m,e,q⟩=>(ih m e).len vs H Q E q,λA outer s H args us vs Q E hr he hb hv zy=>?_⟩
  obtain⟨m,e,q⟩:=zy
  subst e
  exact(ih m rfl).run A outer s H args us vs Q E (hr.mono (by ac_rfl)) he hb hv q
 refine T.eP.fn.qX mZ (λvs H Q E zz0=>by obtain⟨_,_,_,_,_,_,_,_,e,_⟩:=zz0;rw[e];rfl) λcdv A outer s H vs Q E hr zz1=>?_
 obtain⟨r,t,nl,bs,p,ns,r',k0,e,hd,rd,hdr,hk,kk⟩:=zz1
 subst e
 obtain⟨dx,h1⟩:=rd.ob
 refine⟨_,ao (gi (cI Oo (pv 1) (cM T.O0 rfl) (eE _))
   (au (w9 iQ T.ro T.b8.ty (jg T) (hr.mono (by simp)) rfl T.b8.mg T.fv.bi (ab (ba (pv 0) rfl) aj) (by decide))) cH)
  (ao (cw (cQ (dvs:=[]) (ds:=[]) (pv 0) T.aN.cl T.dz.me (uH T) (hr.mono (by ac_rfl)) T.dz.bi .nil eh (ab (cM T.vz rfl) aj)))
  (ao (bK (i:=2) mZ.nd rfl (Or.inl rfl) (d3 (ab (cQ (dvs:=[]) (ds:=[]) (pv 0) T.aN.cl T.bS.me F hr T.bS.bi .nil eh (ab (cZ gM (pv 1) bj) aj)) aj)))
  (ao (xa A3 (cI Dn (eu (dvs:=[]) (ds:=[]) (E:=E0) (pv 0) T.aN.cl T.bG.me (iS T) (hr.mono (by simp)) T.bG.bi .nil aP) (cM T.Jt rfl) (eE _))
    (ao (cw (cQ (dvs:=[]) (ds:=[]) (pv 0) T.aN.cl T.dz.me (uH T) (hr.mono (by ac_rfl)) T.dz.bi .nil eh (ab (cM T.Jt rfl) aj)))
    (au (cw (vm cq fL hJ qK (pv 2) (ab (cQ (dvs:=[]) (ds:=[]) (pv 0) T.aN.cl T.bS.me F hr T.bS.bi .nil eh (ab (cZ gM (pv 1) bj) aj)) aj))))))
  (ao (cw (cQ (dvs:=[]) (ds:=[]) (pv 0) T.aN.cl T.dz.me (uH T) (hr.mono (by ac_rfl)) T.dz.bi .nil eh (ab (cM T.Hi rfl) aj)))
  (au (a8 (gW (dvs:=[]) (ds:=[]) (E:=E0) T.Di (jJ T) (hr.mono (by simp)) rfl T.aV.mg T.i7.bi .nil aP
    (ab (ba (jN ij (pv 2) bj (λ_ _=>rfl)) rfl) (ab (ba (jN ij (pv 2) (tI pk bj) (λ_ _=>rfl)) rfl) (ab (pv 2) aj)))))))))),?_⟩
 have no:∀{m:Str}(p:Nat),¬m="text"->¬m="place"->¬m="numbers"->bz m (GY t p nl)=none:=λp a b c=>cU _ _ _ a b c
 obtain⟨hh,hr',hpl⟩:=dY hdr
 refine⟨_,rfl,_,_,rfl,rfl,_,rfl,?_⟩
 by_cases d0:d=0
 ·rw[if_pos d0]at kk
  refine Kj (by lia:(32:Int)<=(32-d:Nat)) ?_
  exact eD ⟨_,rfl,r,_,dx,_,_,rfl,h1,T.aN.cl,T.aN.no _ (by simp),mX _ _ _,rfl,_,rfl,Ft.at kk T.rl T.b8.gt T.b8.no (Keeps.of (aJ.refl _))⟩
 ·rw[if_neg d0]at kk
  refine Kh (by lia:¬(32:Int)<=(32-d:Nat)) ?_
  obtain⟨m,rfl⟩:∃m,d=m+1:=⟨d-1,by lia⟩
  have ed:((32-(m+1):Nat):Int)+1=((32-m:Nat):Int):=by lia
  rw[Nat.add_sub_cancel]at kk
  refine fM ⟨_,rfl,r,dx,_,rfl,h1,no _ (by decide+kernel) (by decide+kernel) (by decide+kernel),r,t,nl,bs,p,ns,40,rfl,rd,by decide,?_⟩
  rw[if_pos (by rw[hh];rfl)]
  intro H1 rd1 k1
  obtain⟨dx1,h11⟩:=rd1.ob
  obtain⟨k,rfl⟩:∃k,k0=k+1:=⟨k0-1,by lia⟩
  have lr:r'.length=bs.length-(p+1):=by rw[<-hr',iL]
  rw[Dt,<-hr']at kk
  refine⟨_,rfl,r,dx1,_,rfl,h11,no _ (by decide+kernel) (by decide+kernel) (by decide+kernel),_,rfl,_,_,rfl,rfl,m,rfl,r,t,nl,bs,p+1,ns,k,(by rw[<-ed];rfl),by ac_rfl,rd1,by lia,?_⟩
  cases q1:readPart k m (p+1) (bs.drop (p+1))with
  |error e=>rw[q1]at kk;exact Ft.keep kk k1
  |ok v1=>
   obtain⟨x,p2,t2⟩:=v1
   rw[q1]at kk
   dsimp only at kk
   obtain⟨f1,rx⟩:=(wG k).1 _ _ _ _ _ _ q1
   obtain⟨rfl,lt1,le1⟩:=tj rd1.l2 f1
   intro q H2 rd2 k2 hpt
   refine⟨(by show 1<=sizeLine;decide),λD hD=>?_⟩
   have sD:=aJ.upd (o:=.lst [.ref q]) hD
   have kA:=k1.trans k2
   have nDH:H D=none:=mx kA rd2.xt hD
   have nDH1:H1 D=none:=mx k2 rd2.xt hD
   have xt:=rd.xt
   have pt0:fu T.aV.C (vd (nw H (upd H2 D (.lst [.ref q]))) D) x q:=by
    refine hpt.same λb o e=>?_
    obtain⟨e1,e2⟩:=eG.mp e
    have nb:b≠D:=aA e2 hD
    exact cA.mpr ⟨nb,eG.mpr ⟨mx k1 rd1.xt e1,sD _ _ e2⟩⟩
   have rD:r≠D:=by
    obtain⟨dx2,h22⟩:=rd2.ob
    exact aA h22 hD
   have tD:t≠D:=aA rd2.tx hD
   have nlD:nl≠D:=aA rd2.nm hD
   have XD:¬Cm r nl D:=λz=>z.elim (λz=>rD z.symm) (λz=>nlD z.symm)
   have hns:=rd.l1
   refine xD (λst H'=>∃(p1:Nat)(done:List Plan)(as:List Addr)(k1:Nat),st=[aa (.ref r),aa (.int (32-(m+1):Nat)),aa (.ref D)]/\jc T.aN.C r t nl bs p1 (ns++done.flatMap Plan.layers) H'/\Keeps (Cm r nl) H H'/\H' D=aa (.lst (as.map V.ref))/\as.length=done.length/\done.length<=p1/\done≠[]/\(∀y∈done,read y)/\
     (∀(i:Nat)(y:Plan)(z:Addr),done[i]?=aa y->as[i]?=aa z->fu T.aV.C (vd (nw H H') D) y z)/\2*(bs.length-p1)<=k1/\Cw T r t nl bs ns H Q E (KJ (An done (pS k1 m p1 (bs.drop p1)))))
    (λ_ H'=>left bs r H') ⟨p2,[x],[q],k,rfl,?_,kA.trans (Keeps.of sD),ag,rfl,(by show 1<=p2;lia),by simp,λy hy=>by rw[aK.mp hy];exact rx,λi y z hi hz=>?_,by lia,kk⟩ (λst H' z=>?_) ?_
   ·rw[bT,gC,aZ]
    exact rd2.same sD
   ·cases i with
    |zero=>
     have e1:x=y:=by simpa using hi
     have e2:q=z:=by simpa using hz
     subst e1 e2
     exact pt0
    |succ i=>simp at hi
   ·obtain⟨p1,done,as,k1,rfl,rd',kH,hDl,hlen,hdl,hne,hrd,hpts,hfu,kk'⟩:=z
    obtain⟨dx',h'⟩:=rd'.ob
    refine⟨_,rfl,r,dx',_,rfl,h',no _ (by decide+kernel) (by decide+kernel) (by decide+kernel),r,t,nl,bs,p1,_,rfl,rd',rfl,_,rfl,?_⟩
    have l2':=rd'.l2
    have l3':=rd'.l3
    by_cases g1:here bs p1=32
    ·refine Kj (by rw[g1];rfl) ?_
     have hp1:p1<bs.length:=rm (by lia)
     obtain⟨c,r2,hdr2⟩:∃c r2,bs.drop p1=c::r2:=⟨_,_,bO hp1⟩
     have hc:c=32:=(Hg (by decide)).mp ((dY hdr2).1.symm.trans g1)
     subst hc
     obtain⟨_,er2,_⟩:=dY hdr2
     obtain⟨k2',rfl⟩:∃k2',k1=k2'+1:=⟨k1-1,by lia⟩
     rw[hdr2,IW,Dt,<-er2]at kk'
     refine eD ⟨_,rfl,r,dx',_,rfl,h',no _ (by decide+kernel) (by decide+kernel) (by decide+kernel),r,t,nl,bs,p1,_,32,rfl,rd',by decide,?_⟩
     rw[if_pos g1]
     intro H4 rd4 k4
     obtain⟨dx4,h44⟩:=rd4.ob
     have hD4:=k4 _ _ hDl XD
     refine⟨_,rfl,.inl ⟨rfl,_,cJ.of hD4⟩,_,rfl,r,dx4,_,rfl,h44,no _ (by decide+kernel) (by decide+kernel) (by decide+kernel),_,rfl,_,_,rfl,rfl,m,rfl,r,t,nl,bs,p1+1,_,k2',(by rw[<-ed];rfl),by ac_rfl,rd4,by lia,?_⟩
     have kH4:=kH.trans k4
     cases q2:readPart k2' m (p1+1) (bs.drop (p1+1))with
     |error e=>rw[q2]at kk';exact Ft.keep kk' kH4
     |ok v2=>
      obtain⟨x',p3,t3⟩:=v2
      rw[q2]at kk'
      dsimp only at kk'
      rw[FL]at kk'
      obtain⟨f3,rx'⟩:=(wG k2').1 _ _ _ _ _ _ q2
      obtain⟨rfl,lt3,le3⟩:=tj rd4.l2 f3
      intro q' H5 rd5 k5 hpt'
      have hD5:=k5 _ _ hD4 XD
      have kH5:=kH4.trans k5
      obtain⟨dx5,h55⟩:=rd5.ob
      refine⟨D,_,_,rfl,rfl,hD5,?_,⟨p3,done++[x'],as++[q'],k2',rfl,?_,λb o e nx=>?_,?_,?_,?_,?_,λy hy=>?_,λi y z hi hz=>?_,by lia,kk'⟩,?_⟩
      ·rw[ae,sizeLine_eq];lia
      ·rw[LD,<-dm]
       exact rd5.VW rD tD nlD
      ·rw[az (aA e nDH)];exact kH5 _ _ e nx
      ·rw[ag,aB];rfl
      ·rw[ai,ai,hlen];rfl
      ·rw[ai];show _+1<=_;lia
      ·simp
      ·rcases ck.mp hy with z|z
       ·exact hrd y z
       ·rw[aK.mp z];exact rx'
      ·refine fu.same El ?_
       by_cases hj:i<done.length
       ·rw[dU hj]at hi
        rw[dU (by lia)]at hz
        exact(hpts i y z hi hz).same (Ek (GD xt (k4.trans k5)))
       ·rw[gG (by lia)]at hi hz
        have ej:i=done.length:=by
         have:=(aD.mp hi).1
         simp at this
         lia
        subst ej
        rw[j7]at hi
        rw[hlen,j7]at hz
        have e1:x'=y:=by simpa using hi
        have e2:q'=z:=by simpa using hz
        subst e1 e2
        refine hpt'.same λb o e=>?_
        obtain⟨e1,e2⟩:=eG.mp e
        exact cA.mpr ⟨λz=>(by rw[z,hD4]at e1;cases e1),eG.mpr ⟨mx kH4 rd4.xt e1,e2⟩⟩
      ·have e6:upd H5 D (.lst (as.map V.ref++[.ref q'])) r=aa (.ins T.aN.C dx5 (GY t p3 nl)):=by rw[az rD];exact h55
       show left bs r _<left bs r H'
       rw[Kq e6,Kq h']
       lia
    ·refine Kh (λz=>g1 (by injection z with z;exact gA.mp z)) ?_
     refine fM ⟨_,rfl,r,dx',_,rfl,h',no _ (by decide+kernel) (by decide+kernel) (by decide+kernel),r,t,nl,bs,p1,_,41,rfl,rd',by decide,?_⟩
     by_cases g2:here bs p1=41
     ·rw[if_pos g2]
      have hp1:p1<bs.length:=rm (by lia)
      obtain⟨c,r2,hdr2⟩:∃c r2,bs.drop p1=c::r2:=⟨_,_,bO hp1⟩
      have hc:c=41:=(Hg (by decide)).mp ((dY hdr2).1.symm.trans g2)
      subst hc
      rw[hdr2,OF]at kk'
      have kk':Cw T r t nl bs ns H Q E (.ok (.press (cat done .nil),p1+1,r2)):=kk'
      intro H4 rd4 k4
      have hD4:=k4 _ _ hDl XD
      have kH4:=kH.trans k4
      have eL:(cat done .nil).list=done:=by rw[Al];exact aZ _
      have sub4:aJ (vd (nw H H') D) (vd (nw H H4) D):=Ek (GD xt k4)
      have top:∀{i:Nat}{y:Plan},done[i]?=aa y->∃z dxz lz,as[i]?=aa z/\H4 z=aa (.ins T.aV.C dxz (pf (lg y) (l5 y) lz)):=λ{i y} hi=>by
       have hil:=(aD.mp hi).1
       obtain⟨z,hz⟩:∃z,as[i]?=aa z:=⟨_,cC (by lia)⟩
       obtain⟨dxz,lz,as',t1,_⟩:=((hpts i y z hi hz).same sub4).top
       exact⟨z,dxz,lz,hz,uG _ _ (wK _ _ t1)⟩
      obtain⟨x0,m0,e0⟩:∃x0 m0,done=x0::m0:=by
       cases done with
       |nil=>exact absurd rfl hne
       |cons x0 m0=>exact⟨x0,m0,rfl⟩
      obtain⟨xz,n0,en⟩:∃xz n0,done=n0++[xz]:=⟨done.getLast hne,done.dropLast,(fP hne).symm⟩
      obtain⟨z0,dz0,lz0,hz0,ht0⟩:=top (i:=0) (y:=x0) (by rw[e0];rfl)
      obtain⟨zz,dzz,lzz,hzz,htz⟩:=top (i:=n0.length) (y:=xz) (by rw[en];simp)
      obtain⟨ez1,ez2⟩:=Ef (l:=cat done .nil) (p:=x0) (q:=xz) (m:=m0) (n:=n0) (by rw[eL];exact e0) (by rw[eL];exact en) (uL (hrd x0 (by rw[e0];exact ay))).2 (uL (hrd xz (by rw[en];simp))).2
      obtain⟨as',eas⟩:∃as',as=as'++[zz]:=by
       have hl2:as.length=n0.length+1:=by rw[hlen,en,ai];rfl
       have hne2:as≠[]:=λz=>by rw[z]at hl2;simp at hl2
       refine⟨as.dropLast,?_⟩
       have h3:=fP hne2
       have h4:as.getLast hne2=zz:=by
        rw[List.getLast_eq_getElem]
        have:=(aD.mp hzz).2
        have e5:as.length-1=n0.length:=by lia
        simp only[e5]
        exact this
       rw[h4]at h3
       exact h3.symm
      refine⟨_,rfl,D,_,_,_,rfl,rfl,cJ.of hD4,gT (j:=0) (v:=.ref z0) (by rw[aS,hz0];rfl),z0,_,dz0,_,_,rfl,ht0,T.aV.cl,T.aV.no _ (by simp),j9 _ _ _,?_⟩
      refine⟨_,rfl,_,rfl,D,_,_,_,rfl,rfl,cJ.of hD4,(by rw[eas,aB];exact Ng _ _),zz,_,dzz,_,_,rfl,htz,T.aV.cl,T.aV.no _ (by simp),mz _ _ _,_,rfl,λv dv nv ndv ne=>?_⟩
      refine⟨v,dv,_,_,D,rfl,ag,rfl,?_⟩
      rw[ik]
      have sX:=iM (C:=T.aV.C) (fs:=pf (lg x0:Nat) (l5 xz:Nat) D) nv ndv ne
      refine kk' v _ ?_ (kH4.trans (Keeps.of sX)) (fu.make (p:=.press (cat done .nil)) (dx:=dv) (l:=D) (as:=as) ?_ ?_ ?_ (λ_ z=>?_))
      ·show jc _ _ _ _ _ _ (ns++(cat done .nil).layers) _
       rw[mO,eL]
       exact rd4.same sX
      ·refine eG.mpr ⟨mx kH4 rd4.xt nv,?_⟩
       rw[ag]
       show aa (HO.ins T.aV.C dv (pf (lg x0:Nat) (l5 xz:Nat) D))=aa (HO.ins T.aV.C dv (pf ((cat done .nil).layers.headD 0:Nat) ((cat done .nil).layers.getLastD 0:Nat) D))
       rw[ez1,ez2]
      ·exact eG.mpr ⟨nDH,sX _ _ hD4⟩
      ·show gc T.aV.C _ (cat done .nil) as
       exact gc.of (by rw[eL,hlen]) λi y z hi hz=>(((hpts i y z (by rw[<-eL];exact hi) hz).same sub4).same wK).same (KD sX)
      ·rw[z]at hlen
       exact hne (bM.mp hlen.symm)
     ·rw[if_neg g2]
      rw[OE (λr2 z=>g2 (dY z).1) (λr2 z=>g1 (dY z).1)]at kk'
      exact Ft.keep kk' kH
   ·exact λ_ _ _ _ h zy=>by obtain⟨_,e0,_,_,_,e1,e2,e3,_,_,_,_,_,_,e4,e5,e6,_,e7,q⟩:=zy;exact⟨_,e0,_,_,_,e1,e2,e3,_,_,_,_,_,_,e4,e5,e6,_,e7,h _ _ q⟩
theorem DJ(T:Tx K mg)(d:Nat)(F:bw P w K mg base (du P w) (2*d+8) T.eP.f T.eP.fd ["self","depth"] (KY T d)):
  bw P w K mg base (du P w) (2*d+9) T.bS.f T.bS.fd ["self","depth"] (Fd T d):=by
 refine T.bS.fn.qX j3 (λvs H Q E zz2=>by obtain⟨_,_,_,_,_,_,_,e,_⟩:=zz2;rw[e];rfl) λcdv A outer s H vs Q E hr zz3=>?_
 obtain⟨r,t,nl,bs,p,ns,k0,e,hd,rd,hk,kk⟩:=zz3
 subst e
 obtain⟨dx,h1⟩:=rd.ob
 refine⟨_,ao (bK (i:=2) j3.nd rfl (Or.inl rfl) (eu (dvs:=[]) (ds:=[]) (E:=E0) (pv 0) T.aN.cl T.bG.me (iS T) (hr.mono (by simp)) T.bG.bi .nil aP))
  (ao (gi (cI Dn (pv 2) (cM T.vz rfl) (eE _)) (au (a8 (cQ (dvs:=[]) (ds:=[]) (pv 0) T.aN.cl T.eP.me F hr T.eP.bi .nil eh (ab (pv 1) aj)))) cH)
  (ao (gi (cI Dn (pv 2) (cM T.xA rfl) (eE _)) (au (a8 (eu (dvs:=[]) (ds:=[]) (pv 0) T.aN.cl T.ir.me (EE T) (hr.mono (by ac_rfl)) T.ir.bi .nil eh))) cH)
  (ao (bK (i:=3) j3.nd rfl (Or.inl rfl) (eu (dvs:=[]) (ds:=[]) (pv 0) T.aN.cl T.cO.me (oZ T) (hr.mono (by ac_rfl)) T.cO.bi .nil eh))
  (au (a8 (gW (dvs:=[]) (ds:=[]) (E:=E0) T.Di (jJ T) (hr.mono (by simp)) rfl T.aV.mg T.i7.bi .nil aP (ab (pv 3) (ab (pv 3) (ab (d3 aj) aj))))))))),?_⟩
 have no:∀{m:Str}(p:Nat),¬m="text"->¬m="place"->¬m="numbers"->bz m (GY t p nl)=none:=λp a b c=>cU _ _ _ a b c
 obtain⟨k,rfl⟩:∃k,k0=k+1:=⟨k0-1,by lia⟩
 refine⟨_,rfl,r,dx,_,rfl,h1,no _ (by decide+kernel) (by decide+kernel) (by decide+kernel),r,t,nl,bs,p,ns,rfl,rd,?_⟩
 refine⟨_,rfl,rfl,_,rfl,?_⟩
 by_cases g1:here bs p=40
 ·refine Kj (by rw[g1];rfl) ?_
  have hp:p<bs.length:=rm (by lia)
  obtain⟨c,r',hdr⟩:∃c r',bs.drop p=c::r':=⟨_,_,bO hp⟩
  have hc:c=40:=(Hg (by decide)).mp ((dY hdr).1.symm.trans g1)
  subst hc
  rw[hdr,vO]at kk
  have lr:r'.length=bs.length-(p+1):=by rw[<-(dY hdr).2.1,iL]
  exact eD ⟨_,rfl,r,dx,_,rfl,h1,no _ (by decide+kernel) (by decide+kernel) (by decide+kernel),_,rfl,r,t,nl,bs,p,ns,r',k,rfl,hd,rd,hdr,by lia,kk⟩
 ·refine Kh (λz=>g1 (by injection z with z;exact gA.mp z)) ?_
  refine fM ⟨_,rfl,rfl,_,rfl,?_⟩
  by_cases g2:here bs p=91
  ·refine Kj (by rw[g2];rfl) ?_
   have hp:p<bs.length:=rm (by lia)
   obtain⟨c,r',hdr⟩:∃c r',bs.drop p=c::r':=⟨_,_,bO hp⟩
   have hc:c=91:=(Hg (by decide)).mp ((dY hdr).1.symm.trans g2)
   subst hc
   rw[hdr,x5]at kk
   exact eD ⟨_,rfl,r,dx,_,rfl,h1,no _ (by decide+kernel) (by decide+kernel) (by decide+kernel),r,t,nl,bs,p,ns,r',rfl,rd,hdr,kk⟩
  ·refine Kh (λz=>g2 (by injection z with z;exact gA.mp z)) ?_
   rw[A2 k d p _ (λr' z=>g2 (dY z).1) (λr' z=>g1 (dY z).1)]at kk
   refine fM ⟨_,rfl,r,dx,_,rfl,h1,no _ (by decide+kernel) (by decide+kernel) (by decide+kernel),r,t,nl,bs,p,ns,rfl,rd,?_⟩
   cases q1:readNumber p (bs.drop p)with
   |error e=>rw[q1]at kk;exact kk
   |ok v1=>
    obtain⟨a,p2,t2⟩:=v1
    rw[q1]at kk
    dsimp only at kk⊢
    intro H5 rd5 kA
    refine⟨_,rfl,_,rfl,bp _,λD hD q dq nq ndq ne=>?_⟩
    refine⟨q,dq,_,_,D,rfl,ag,rfl,?_⟩
    rw[ik]
    have sD:=aJ.upd (o:=.lst []) hD
    have sX:=sD.trans (iM (C:=T.aV.C) (fs:=pf (a:Nat) (a:Nat) D) nq ndq ne)
    exact kk q _ (rd5.same sX) (kA.trans (Keeps.of sX)) (Kp (X:=Cm r nl) rfl rfl rfl rfl (mx kA rd5.xt hD) (mx kA rd5.xt (sD.free nq)) hD nq ndq ne)
end
end Bx
end
section
namespace Bx
open PySem PySem.Spec PyProof.Rows L2
open Vbpcau (Plan Plans Bytes Got readPart foilsOut inRow planOf State Span)
mutual
def yn:Plan->Bool
 |.foil _=>true
 |.core _ _=>true
 |.press l=>decide (2<=l.list.length)&&(foilsOut l.list&&(l.list.any (λp=>!p.isFoil)&&G9 l))
def G9:Plans->Bool
 |.nil=>true
 |.cons p l=>yn p&&G9 l
end
theorem Ha:∀l:Plans,G9 l=l.list.all yn
 |.nil=>rfl
 |.cons p l=>by
  show(yn p&&G9 l)=(p::l.list).all yn
  rw[Ha l,ji]
theorem DB:∀(m c:Nat),inRow (br c m)=true
 |0,_=>rfl
 |1,_=>rfl
 |m+2,c=>by
  show(c+1==c+1&&inRow (br (c+1) (m+1)))=true
  rw[DB (m+1) (c+1)];simp
mutual
theorem DG:∀(p:Plan)(c m:Nat),p.layers=br c m->p.sound=yn p
 |.foil k,_,_,_=>rfl
 |.core a b,c,m,h=>by
  have h:[a,b]=br c m:=h
  have hm:m=2:=by
   have:=congrArg i3 h
   rw[cp]at this
   exact this.symm
  subst hm
  have h:[a,b]=[c,c+1]:=h
  have e1:a=c:=by injection h
  have e2:b=c+1:=by injection h with _ h;injection h
  show(b==a+1)=true
  rw[e1,e2];simp
 |.press l,c,m,h=>by
  have h:l.layers=br c m:=h
  show(decide (2<=l.list.length)&&(l.list.any (λp=>!p.isFoil)&&(foilsOut l.list&&(inRow l.layers&&l.sound))))=(decide (2<=l.list.length)&&(foilsOut l.list&&(l.list.any (λp=>!p.isFoil)&&G9 l)))
  rw[h,DB,Br l c m h]
  cases decide (2<=l.list.length)<;>cases l.list.any (λp=>!p.isFoil)<;>cases foilsOut l.list<;>rfl
theorem Br:∀(l:Plans)(c m:Nat),l.layers=br c m->l.sound=G9 l
 |.nil,_,_,_=>rfl
 |.cons p l,c,m,h=>by
  have h:p.layers++l.layers=br c m:=h
  obtain⟨h1,h2,_⟩:=Bp.uO h.symm
  show(p.sound&&l.sound)=(yn p&&G9 l)
  rw[DG p _ _ h1,Br l _ _ h2]
end
mutual
theorem GZ:∀{p:Plan}{c m:Nat},read p->p.layers=br c m->Nt p
 |.foil k,_,_,h,_=>by have h:k<100:=h;show k<1000;lia
 |.core a b,c,m,h,hl=>by
  obtain⟨h1,h2⟩:=h
  have hl:[a,b]=br c m:=hl
  have hm:m=2:=by
   have:=congrArg i3 hl
   rw[cp]at this
   exact this.symm
  subst hm
  have hl:[a,b]=[c,c+1]:=hl
  have e1:a=c:=by injection hl
  have e2:b=c+1:=by injection hl with _ hl;injection hl
  exact⟨by lia,by lia,by lia⟩
 |.press l,c,m,h,hl=>⟨h.1,Dz h.2 (show l.layers=br c m from hl)⟩
theorem Dz:∀{l:Plans}{c m:Nat},reads l->l.layers=br c m->Nu l
 |.nil,_,_,_,_=>trivial
 |.cons p l,c,m,h,hl=>by
  have hl:p.layers++l.layers=br c m:=hl
  obtain⟨h1,h2,_⟩:=Bp.uO hl.symm
  exact⟨GZ h.1 h1,Dz h.2 h2⟩
end
theorem CO:∀(k:Nat),(∀d p t x p' t',readPart k d p t=.ok (x,p',t')->x.depth<=d)/\(∀d p t l p' t',yG k d p t=.ok (l,p',t')->l.depth<=d)
 |0=>by
  refine⟨λd p t x p' t' h=>?_,λd p t l p' t' h=>?_⟩
  ·rw[readPart]at h;cases h
  ·rw[yG]at h;cases h
 |k+1=>by
  obtain⟨i1,i2⟩:=CO k
  refine⟨λd p t x p' t' h=>?_,λd p t l p' t' h=>?_⟩
  ·by_cases c1:∃r,t=91::r
   ·obtain⟨r,rfl⟩:=c1
    rw[x5]at h
    obtain⟨f,a,b,rfl,h1,h2⟩:=F0 h
    exact bp _
   ·by_cases c2:∃r,t=40::r
    ·obtain⟨r,rfl⟩:=c2
     rw[vO]at h
     by_cases hd:d=0
     ·rw[if_pos hd]at h;cases h
     ·rw[if_neg hd]at h
      cases e:yG k (d-1) (p+1) r with
      |error e'=>rw[e]at h;cases h
      |ok v=>
       obtain⟨l,p1,t1⟩:=v
       rw[e]at h
       obtain⟨rfl,rfl,rfl⟩:=l6 h
       have:=i2 _ _ _ _ _ _ e
       show l.depth+1<=d
       lia
    ·rw[A2 k d p t (λr z=>c1 ⟨r,z⟩) (λr z=>c2 ⟨r,z⟩)]at h
     cases e:Vbpcau.readNumber p t with
     |error e'=>rw[e]at h;cases h
     |ok v=>
      obtain⟨n,p1,t1⟩:=v
      rw[e]at h
      obtain⟨rfl,rfl,rfl⟩:=l6 h
      exact bp _
  ·rw[vP]at h
   cases e:readPart k d p t with
   |error e'=>rw[e]at h;cases h
   |ok v=>
    obtain⟨x,p1,t1⟩:=v
    rw[e]at h
    dsimp only at h
    have hx:=i1 _ _ _ _ _ _ e
    cases e2:pS k d p1 t1 with
    |error e'=>rw[e2]at h;cases h
    |ok v2=>
     obtain⟨l2,p2,t2⟩:=v2
     rw[e2]at h
     obtain⟨rfl,rfl,rfl⟩:=l6 h
     unfold pS at e2
     split at e2
     ·obtain⟨rfl,rfl,rfl⟩:=l6 e2
      show max x.depth 0<=d
      lia
     ·have:=i2 _ _ _ _ _ _ e2
      show max x.depth l2.depth<=d
      lia
     ·cases e2
theorem yV:∀{l:Plans},reads l->l.list.length<=l.layers.length
 |.nil,_=>ah _
 |.cons p l,h=>by
  have h1:=(uL h.1).2
  have h2:=yV h.2
  show l.list.length+1<=(p.layers++l.layers).length
  rw[ai]
  have:0<p.layers.length:=cx.mpr h1
  lia
theorem G0{p:Plan}:∀{l:Plans},reads l->p∈l.list->read p
 |.nil,_,h=>absurd (show p∈([]:List Plan)from h) (by simp)
 |.cons q l,hc,h=>by
  rcases aG.mp h with e|h
  ·rw[e];exact hc.1
  ·exact G0 hc.2 h
theorem LW{p:Plan}{l:Plans}(h:p∈l.list):p.layers.length<=l.layers.length:=by
 rw[mO];exact AK Plan.layers h
theorem Ul{n:Nat}(h:2<=n):HT.Bc n 0 (aa 1)=1/\HT.Bc n n (aa (-1))=n-1:=by
 unfold HT.Bc
 constructor
 ·simp;lia
 ·simp;lia
theorem PB{xs:List V}(h:2<=xs.length):B6 xs (aa 1) (aa (-1))=(xs.drop 1).dropLast:=by
 unfold B6
 rw[(Ul h).1,(Ul h).2,List.dropLast_eq_take,iL]
theorem Kt{α β:Type}(f:α->β)(l:List α):((l.map f).drop 1).dropLast=((l.drop 1).dropLast).map f:=by
 rw[<-List.map_drop,List.map_dropLast]
theorem RH{α:Type}(f:α->Bool)(l:List α):(l.map f).any id=l.any f:=by rw[List.any_map];rfl
theorem Nc{α:Type}(f:α->Bool)(l:List α):(l.map f).all id=l.all f:=by rw[Hq];rfl
theorem Qr(l:List Plan):((l.drop 1).dropLast).any Plan.isFoil=!foilsOut l:=by
 unfold foilsOut
 rw[List.any_eq_not_all_not]
theorem Pr(l:List Plan):l.all Plan.isFoil=!(l.any λp=>!p.isFoil):=by
 rw[List.all_eq_not_any_not]
section
variable{P:Program}{w:World}{K:af}{mg:Str->Option Value}{base:Heap}
theorem EF(T:Tx K mg)(d:Nat):bw P w K mg base (du P w) (2*d+9) T.bS.f T.bS.fd ["self","depth"] (Fd T d):=by
 induction d with
 |zero=>exact DJ T 0 (Bw T 0 λm h=>by lia)
 |succ n ih=>
  refine DJ T (n+1) (Bw T (n+1) λm h=>?_)
  obtain rfl:n=m:=by lia
  exact ih
def QX(T:Tx K mg):Sp:=λvs H Q E=>ex4 Q λ(r t nl:Addr)(bs:Bytes) Q=>vs=[.ref r]/\jc T.aN.C r t nl bs 0 [] H/\match g8 bs with
 |.ok x=>∀q H' p',jc T.aN.C r t nl bs p' x.layers H'->Keeps (Cm r nl) H H'->fu T.aV.C (nw H H') x q->read x->x.depth<=32->Q (.ref q) H'
 |.error e=>Ft K T.bx.C (-1000-(e:Nat)) (Cm r nl) H E
theorem ng:aH ["self","part"] ["self"] (aq j1):=⟨rfl,rfl,rfl,by decide+kernel,rfl,by decide+kernel,by decide+kernel⟩
theorem Ck(T:Tx K mg):bw P w K mg base (du P w) 75 T.gR.f T.gR.fd ["self"] (QX T):=by
 refine T.gR.fn.qX ng (λvs H Q E zz0=>by obtain⟨_,_,_,_,e,_⟩:=zz0;rw[e];rfl) λcdv A outer s H vs Q E hr zz1=>?_
 obtain⟨r,t,nl,bs,e,rd,k⟩:=zz1
 subst e
 obtain⟨dx,h1⟩:=rd.ob
 refine⟨_,ao (bK (i:=1) ng.nd rfl (Or.inl rfl) (cQ (dvs:=[]) (ds:=[]) (pv 0) T.aN.cl T.bS.me (EF T 32) (hr.mono (by decide)) T.bS.bi .nil eh (ab bj aj)))
  (ao (gi (cI Rr (eu (dvs:=[]) (ds:=[]) (E:=E0) (pv 0) T.aN.cl T.bG.me (iS T) (hr.mono (by decide)) T.bG.bi .nil aP) (cM T.BI rfl) (eE _))
    (au (w9 iQ T.ro T.b8.ty (jg T) (hr.mono (by decide)) rfl T.b8.mg T.fv.bi (ab (ba (pv 0) rfl) aj) (by decide))) cH)
  (au (a8 (pv 1)))),?_⟩
 have no:∀{m:Str}(p:Nat),¬m="text"->¬m="place"->¬m="numbers"->bz m (GY t p nl)=none:=λp a b c=>cU _ _ _ a b c
 refine⟨_,rfl,r,dx,_,rfl,h1,no _ (by decide+kernel) (by decide+kernel) (by decide+kernel),r,t,nl,bs,0,[],2*bs.length+2,rfl,ah _,rd,by ac_rfl,?_⟩
 unfold g8 Vbpcau.DEEP at k
 show Cw T r t nl bs [] H _ _ (readPart (2*bs.length+2) 32 0 bs)
 cases q1:readPart (2*bs.length+2) 32 0 bs with
 |error e=>rw[q1]at k;exact k
 |ok v=>
  obtain⟨x,p',t'⟩:=v
  rw[q1]at k
  dsimp only at k
  obtain⟨f1,rx⟩:=(wG _).1 _ _ _ _ _ _ q1
  have hdx:=(CO _).1 _ _ _ _ _ _ q1
  have f1':MO 0 (bs.drop 0) p' t':=f1
  obtain⟨rfl,_,_⟩:=tj (bp _) f1'
  intro q H1 rd1 k1 hpt
  rw[BN]at rd1
  obtain⟨dx1,h11⟩:=rd1.ob
  refine⟨_,rfl,r,dx1,_,rfl,h11,no _ (by decide+kernel) (by decide+kernel) (by decide+kernel),r,t,nl,bs,p',_,rfl,rd1,rfl,_,rfl,?_⟩
  cases q2:bs.drop p' with
  |nil=>
   rw[q2]at k
   have k:∀q H' p',jc T.aN.C r t nl bs p' x.layers H'->Keeps (Cm r nl) H H'->fu T.aV.C (nw H H') x q->read x->x.depth<=32->Q (.ref q) H':=k
   rw[(Gf q2).1]
   rw[show(!decide (V.int ((256:Nat):Int)=V.int 256))=false from rfl]
   exact fM ⟨_,rfl,k q H1 p' rd1 k1 hpt rx hdx⟩
  |cons c r2=>
   rw[q2]at k
   have k:Ft K T.bx.C (-1000-(p':Nat)) (Cm r nl) H E:=k
   rw[show(!decide (V.int ((here bs p':Nat):Int)=V.int 256))=true by
    rw[decide_eq_false (λz=>by
     injection z with z
     have:=RA c
     rw[(dY q2).1]at z
     lia)];rfl]
   exact eD ⟨_,rfl,r,_,dx1,_,_,rfl,h11,T.aN.cl,T.aN.no _ (by simp),mX _ _ _,rfl,_,rfl,k.at T.rl T.b8.gt T.b8.no k1⟩
def z8(C:Addr)(n:Nat):Sp:=λvs H Q _=>ex2 Q λa p Q=>vs=[.ref a]/\fu C H p a/\Nt p/\read p/\p.depth<=n/\p.layers.length<=1000/\∀H',aJ H H'->Q (.bl (yn p)) H'
theorem nh:aH ["part","foils","inner"] ["part"] (aq vV):=⟨rfl,rfl,rfl,by decide+kernel,rfl,by decide+kernel,by decide+kernel⟩
theorem vv(T:Tx K mg)(n:Nat)(ih:∀m,n=m+1->bw P w K mg base (du P w) (m+1+2) T.iA.f T.iA.fd ["part"] (z8 T.aV.C m)):
  bw P w K mg base (du P w) (n+3) T.iA.f T.iA.fd ["part"] (z8 T.aV.C n):=by
 have F:=rk ih
 refine T.iA.fn.okN nh (λvs H Q E zz2=>by obtain⟨_,_,e,_⟩:=zz2;rw[e];rfl) λcdv A outer s H vs Q E hr zz3=>?_
 obtain⟨a,p,e,ha,hc,hrd,hd,hz,k⟩:=zz3
 subst e
 obtain⟨dx,l,as,h1,h2,h3,h4⟩:=ha.top
 refine⟨_,ao (gi (o3 (kn (bb (dvs:=[]) (ds:=[]) (jt T) (hr.mono (by ac_rfl)) rfl T.dj.mg T.dj.kp T.dj.bi .nil aP (ab (pv 0) aj)))) (au (a8 Oq)) cH)
  (ao (A7 (i:=1) (te:=ze (He T.aV.C) [] E0 (gJ (fN 2) mq)) (own:=[("inner",2)]) rfl nh.nd rfl rfl (Fi rfl rfl rfl rfl) (fJ (ba (pv 0) rfl)) (fz (by with_unfolding_all rfl))
    (λ_ _ _ _ _=>cX (i:=2) nh.nd rfl (Or.inl rfl) (.inr rfl)) (λ_ _ _ _ _=>mB)
    (λ_ _ _ _ _=>bb (dvs:=[]) (ds:=[]) (vN T) (hr.mono (by ac_rfl)) rfl T.kg.mg T.kg.kp T.kg.bi .nil aP (ab (pv 2) aj)))
  (ao (gi (PW.pt (Oy (cI sh (cg cP rfl T.nQ cz (ab (pv 1) aj)) bj (eE _))
    (Oy (kn (cg (RL rfl) rfl T.Tu (by decide+kernel) (ab (A4 E7 (pv 1) (w6 bj) (w6 (tI pk bj))) aj)))
    (Oz (kn (cg (HR rfl) rfl T.Nk (by decide+kernel) (ab (pv 1) aj))))))) (au (a8 Oq)) cH)
  (au (a8 (cg (HR rfl) rfl T.Nk (by decide+kernel) (ab
    (pQ (te:=ze (λvs H Q E=>ex1 Q λm Q=>n=m+1/\z8 T.aV.C m vs H Q E) [] E0 (gJ (fN 2) mq)) (own:=[("inner",2)]) rfl nh.nd (fJ (ba (pv 0) rfl)) (fz (by with_unfolding_all rfl))
      (λ_ _ _ _ _=>cX (i:=2) nh.nd rfl (Or.inl rfl) (.inr rfl)) (λ_ _ _ _ _=>mB)
      (λ_ _ _ _ _=>bb (dvs:=[]) (ds:=[]) F hr rfl T.iA.mg T.iA.kp T.iA.bi .nil aP (ab (pv 2) aj))) aj)))))),?_⟩
 refine⟨_,rfl,a,p,rfl,ha,_,rfl,?_⟩
 cases p with
 |foil v=>exact eD (k H (aJ.refl _))
 |core x y=>exact eD (k H (aJ.refl _))
 |press q=>
  obtain⟨m,rfl⟩:∃m,n=m+1:=⟨n-1,by rw[d8]at hd;lia⟩
  have h3:gc T.aV.C H q as:=h3
  have hcnt:as.length=q.list.length:=h3.len
  have hz':q.layers.length<=1000:=hz
  have hql:q.list.length<=1000:=aX (yV hrd.2) hz'
  refine fM ?_
  refine⟨_,rfl,a,_,dx,_,_,rfl,h1,T.aV.cl,T.aV.no _ (by simp),mU _ _ _,l,rfl,⟨_,cJ.of h2⟩,λD hD=>?_⟩
  refine jG (K:=K) (a:=l) (xs:=as.map V.ref) (λi H'=>aJ H H'/\H' D=aa (.lst (((q.list.take i).map Plan.isFoil).map V.bl)))
   ⟨aJ.upd hD,ag⟩ (λi H' _ z=>cJ.of (z.1 _ _ h2)) (λi v H' hv z=>?_) (λH1 z=>?_)
  ·obtain⟨c,hcc,rfl⟩:=fB hv
   obtain⟨p',hp1,hp2⟩:=h3.get hcc
   obtain⟨sH,hDl⟩:=z
   refine⟨rfl,_,rfl,c,p',rfl,hp2.same sH,uB hc.2 (oX hp1),_,hDl,?_,sH.pC hD,?_⟩
   ·rw[ae,ae,bH,sizeLine_eq];lia
   ·rw[ag,take_snoc hp1,aB,aB];rfl
  ·obtain⟨sH,hDl⟩:=z
   rw[ae,hcnt,bF]at hDl
   refine⟨_,rfl,D,_,rfl,.inl (cJ.of hDl),_,_,rfl,rfl,_,rfl,?_⟩
   rw[ae,ae]
   have eS:yn (.press q)=(decide (2<=q.list.length)&&(foilsOut q.list&&(q.list.any (λp=>!p.isFoil)&&G9 q))):=rfl
   have ret:∀{H':Hp},aJ H H'->yn (.press q)=false->Q (.bl false) H':=λs' e'=>by
    have:=k _ s'
    rw[e']at this
    exact this
   by_cases hl:q.list.length<2
   ·refine Kj (by lia:((q.list.length:Nat):Int)<2) ?_
    refine eD (eD (ret sH ?_))
    rw[eS,decide_eq_false (by ac_rfl:¬2<=q.list.length)];rfl
   ·refine Kh (by lia:¬((q.list.length:Nat):Int)<2) ?_
    rw[decide_eq_true (by ac_rfl:2<=q.list.length)]at eS
    refine fM ⟨_,rfl,_,rfl,_,rfl,_,rfl,D,_,rfl,cJ.of hDl,λD2 hD2=>?_⟩
    rw[PB (by rw[ae,ae];ac_rfl),Kt,Kt]
    have s2:=aJ.upd (o:=.lst ((((q.list.drop 1).dropLast).map Plan.isFoil).map V.bl)) hD2
    refine⟨D2,_,rfl,cJ.of ag,_,rfl,?_⟩
    rw[RH,Qr]
    cases ho:foilsOut q.list with
    |false=>
     refine eD (eD (ret (sH.trans s2) ?_))
     rw[eS,ho];rfl
    |true=>
     refine fM ⟨_,rfl,D,_,rfl,cJ.of (s2 _ _ hDl),_,rfl,?_⟩
     rw[Nc,Pr]
     cases hy:q.list.any (λp=>!p.isFoil)with
     |false=>
      refine eD (ret (sH.trans s2) ?_)
      rw[eS,ho,hy];rfl
     |true=>
      have s3:=sH.trans s2
      refine fM ⟨_,rfl,a,_,dx,_,_,rfl,s3 _ _ h1,T.aV.cl,T.aV.no _ (by simp),mU _ _ _,l,rfl,⟨_,cJ.of (s3 _ _ h2)⟩,λD3 hD3=>?_⟩
      generalize upd H1 D2 (.lst ((((q.list.drop 1).dropLast).map Plan.isFoil).map V.bl))=H3 at s2 s3 hD3
      refine jG (K:=K) (a:=l) (xs:=as.map V.ref) (λi H'=>aJ H3 H'/\H' D3=aa (.lst (((q.list.take i).map yn).map V.bl)))
       ⟨aJ.upd hD3,ag⟩ (λi H' _ z=>cJ.of (z.1 _ _ (s3 _ _ h2))) (λi v H' hv z=>?_) (λH4 z=>?_)
      ·obtain⟨c,hcc,rfl⟩:=fB hv
       obtain⟨p',hp1,hp2⟩:=h3.get hcc
       obtain⟨sH4,hDl4⟩:=z
       have hm:=oX hp1
       refine⟨rfl,_,rfl,m,rfl,c,p',rfl,(hp2.same s3).same sH4,uB hc.2 hm,G0 hrd.2 hm,?_,aX (LW hm) hz',λH5 s5=>⟨_,s5 _ _ hDl4,?_,(sH4.trans s5).pC hD3,?_⟩⟩
       ·have:=kS hm
        rw[d8]at hd
        lia
       ·rw[ae,ae,bH,sizeLine_eq];omega
       ·rw[ag,take_snoc hp1,aB,aB];rfl
      ·obtain⟨sH4,hDl4⟩:=z
       rw[ae,hcnt,bF]at hDl4
       refine⟨D3,_,rfl,cJ.of hDl4,?_⟩
       rw[Nc,<-Ha]
       have:=k _ (s3.trans sH4)
       rw[eS,ho,hy]at this
       exact this
theorem GN(T:Tx K mg)(n:Nat):bw P w K mg base (du P w) (n+3) T.iA.f T.iA.fd ["part"] (z8 T.aV.C n):=by
 induction n with
 |zero=>exact vv T 0 λm h=>by lia
 |succ n ih=>
  refine vv T (n+1) λm h=>?_
  obtain rfl:n=m:=by lia
  exact ih
end
end Bx
end
section
namespace Bx
open PySem PySem.Spec PyProof.Rows L2
open Vbpcau (Plan Plans Bytes Got planOf State Span)
abbrev Gj(l:List Int):PyData:=.list (l.map PyData.int)
theorem FX:∀a b:List Int,jF (Gj a) (Gj b)=decide (a=b)
 |[],[]=>by simp[jF,kd]
 |[],y::b=>by simp[jF,kd]
 |x::a,[]=>by simp[jF,kd]
 |x::a,y::b=>by
  have ih:=FX a b
  simp only[jF,kd,aU]at ih⊢
  rw[ih]
  by_cases h:x=y
  ·subst h;simp
  ·simp[h]
theorem lay_ints:∀l:List Int,Le (l.map PyData.int)=true
 |[]=>rfl
 |x::l=>by
  show(PyData.canLay0 (.int x)&&Le (l.map PyData.int))=true
  rw[lay_ints l];rfl
theorem CN:∀l:List Int,sr (l.map PyData.int)<=1
 |[]=>by simp[sr]
 |x::l=>by
  have:=CN l
  simp only[aU,sr,Fv]
  assumption
theorem shaped_ints(l:List Int):xH (Gj l)=true:=by
 unfold xH
 rw[ak]
 refine⟨lay_ints l,decide_eq_true ?_⟩
 have:=CN l
 simp only[Fv]
 lia
theorem Ed{K:af}{H:Hp}:∀l:List Int,Ab K H (l.map V.int) (l.map PyData.int)
 |[]=>.nil
 |x::l=>.cons (.int x) (Ed l)
theorem MM(n:Nat):ups 1 n=((bA n).map λi=>i+1).map λk=>((k:Nat):Int):=by
 unfold ups
 rw[dQ]
 refine bg λi _=>?_
 show(1:Int)+(i:Nat)=((i+1:Nat):Int)
 lia
theorem cast_inj{a b:List Nat}(h:a.map (λk=>((k:Nat):Int))=b.map λk=>((k:Nat):Int)):a=b:=by
 have:Function.Injective (λk:Nat=>((k:Nat):Int)):=λx y h=>gA.mp h
 exact List.map_inj_right (λx y h=>gA.mp h)|>.mp h
theorem IQ{n:Nat}{x:Plan}(hn:2<=n):planOf n x=(decide (x.layers=(bA n).map λi=>i+1)&&yn x):=by
 unfold planOf
 by_cases h:x.layers=(bA n).map λi=>i+1
 ·have e:(bA n).map (λi=>i+1)=br 1 n:=by
   rw[kN]
   exact bg λi _=>zk _ _
  have hf:x.isFoil=false:=by
   cases x with
   |foil k=>
    have:=congrArg i3 h
    rw[ae,jq]at this
    have:1=n:=this
    lia
   |core a b=>rfl
   |press l=>rfl
  rw[hf,DG x 1 n (h.trans e),decide_eq_true h,Bool.and_true]
  simp
 ·rw[decide_eq_false h]
  simp
section
variable{P:Program}{w:World}{K:af}{mg:Str->Option Value}{base:Heap}
def Jk(T:Tx K mg):Sp:=λvs H Q E=>ex3 Q λ(t:Addr)(n:Nat)(bs:Bytes) Q=>vs=[.ref t,.int (n:Nat)]/\H t=aa (.lst (bI bs))/\(2<=n/\n<=24)/\
 if bs.length<=400 then(match g8 bs with
  |.error e=>ER K T.bx.C (-1000-(e:Nat)) H E
  |.ok x=>if planOf n x=true then∀q H',aJ H H'->fu T.aV.C H' x q->Q (.ref q) H' else ER K T.bx.C (-6) H E)
 else ER K T.bx.C (-8) H E
theorem rP:aH ["text","layers","reader","part"] ["text","layers"] (aq tX):=⟨rfl,rfl,rfl,by decide+kernel,rfl,by decide+kernel,by decide+kernel⟩
theorem EG(T:Tx K mg):bw P w K mg base (du P w) 78 T.oC.f T.oC.fd ["text","layers"] (Jk T):=by
 refine T.oC.fn.qX rP (λvs H Q E zz0=>by obtain⟨_,_,_,e,_⟩:=zz0;rw[e];rfl) λcdv A outer s H vs Q E hr zz1=>?_
 obtain⟨t,n,bs,e,ht,⟨hn1,hn2⟩,k⟩:=zz1
 subst e
 refine⟨_,ao (gi (cI Dq (cg cP rfl T.nQ cz (ab (pv 0) aj)) (cM T.Hh rfl) (eE _))
   (au (iF iQ T.N0 T.js.ty (zA T) (hr.mono (by decide)) rfl T.js.mg T.lB.bi)) cH)
  (ao (bK (i:=2) rP.nd rfl (Or.inl rfl) (gW (dvs:=[]) (ds:=[]) (E:=E0) T.P1 (AQ T) (hr.mono (by decide)) rfl T.aN.mg T.mJ.bi .nil aP (ab (pv 0) aj)))
  (ao (bK (i:=3) rP.nd rfl (Or.inl rfl) (eu (dvs:=[]) (ds:=[]) (pv 2) T.aN.cl T.gR.me (Ck T) (hr.mono (by decide)) T.gR.bi .nil eh))
  (ao (gi (PW.pt (Oy (cI (IJ (RV hr)) (ba (pv 2) rfl) (qL (Eb rfl) rfl T.HN (by decide+kernel) (ab (qL Lo rfl T.wz (by decide+kernel) (ab bj (ab (cZ gM (pv 1) bj) aj))) aj)) (eE _))
     (Oz (o3 (kn (bb (dvs:=[]) (ds:=[]) (E:=E0) (GN T 32) (hr.mono (by decide)) rfl T.iA.mg T.iA.kp T.iA.bi .nil aP (ab (pv 3) aj)))))))
    (au (iF iQ T.LN T.gO.ty (x4 T) (hr.mono (by decide)) rfl T.gO.mg T.j8.bi)) cH)
  (au (a8 (pv 3)))))),?_⟩
 refine⟨_,rfl,t,_,rfl,.inl (cJ.of ht),_,_,rfl,rfl,_,rfl,?_⟩
 rw[Nj]
 by_cases hlen:bs.length<=400
 ·rw[if_pos hlen]at k
  refine Kh (by lia:¬(400:Int)<((bs.length:Nat):Int)) ?_
  refine fM ⟨_,rfl,λr dx nr ndx ne=>?_⟩
  have rt:r≠t:=(aA ht nr).symm
  refine⟨r,dx,t,rfl,ag,rt,λnl hnl=>⟨rfl,?_⟩⟩
  have rnl:r≠nl:=aA ag hnl
  have sM:=iM (C:=T.aN.C) (fs:=[]) nr ndx ne
  have nnl:H nl=none:=sM.free hnl
  generalize hH1:upd (upd (upd (upd H dx (.own r)) r (.ins T.aN.C dx [])) nl (.lst [])) r (.ins T.aN.C dx (GY t 0 nl))=H1
  have s1:aJ H H1:=λz o e=>by
   rw[<-hH1,az (aA e nr),az (aA e nnl)]
   exact sM _ _ e
  have rd1:jc T.aN.C r t nl bs 0 [] H1:=⟨⟨dx,by rw[<-hH1,ag]⟩,s1 _ _ ht,by rw[<-hH1,az rnl.symm,ag];rfl,aA ht nnl,ah _,bp _,hlen⟩
  clear hH1
  obtain⟨dx1,h11⟩:=rd1.ob
  have back:∀{H':Hp},Keeps (Cm r nl) H1 H'->aJ H H':=λkp z o e=>kp _ _ (s1 _ _ e) λx=>x.elim (λx=>aA e nr x) (λx=>aA e nnl x)
  refine⟨_,rfl,r,dx1,_,rfl,h11,cU _ _ _ (by decide+kernel) (by decide+kernel) (by decide+kernel),r,t,nl,bs,rfl,rd1,?_⟩
  cases q1:g8 bs with
  |error e=>
   rw[q1]at k
   have k:ER K T.bx.C (-1000-(e:Nat)) H E:=k
   exact λC d H' a b c kp hd=>k C d H' a b c (back kp) hd
  |ok x=>
   rw[q1]at k
   dsimp only at k⊢
   intro q H2 p' rd2 k2 hpt hrx hdx
   have s2:=back k2
   obtain⟨dx2,h22⟩:=rd2.ob
   refine⟨_,rfl,r,_,dx2,_,_,rfl,h22,T.aN.cl,T.aN.no _ (by simp),A9 _ _ _,_,rfl,_,_,rfl,rfl,_,_,rfl,λpr hpr=>?_⟩
   have s3:=aJ.upd (o:=.Cn 1 ((n:Nat)+1)) hpr
   refine⟨pr,_,_,rfl,ag,⟨by ac_rfl,by decide,by ac_rfl,by lia,by lia⟩,λl hl=>?_⟩
   have en:(((n:Nat):Int)+1-1).toNat=n:=by simp
   rw[en]
   have s4:=s3.trans (aJ.upd (o:=.lst ((ups 1 n).map V.int)) hl)
   have hpt4:fu T.aV.C (upd (upd H2 pr (.Cn 1 ((n:Nat)+1))) l (.lst ((ups 1 n).map V.int))) x q:=(hpt.same uG).same s4
   refine⟨Gj (x.layers.map λk=>((k:Nat):Int)),Gj (ups 1 n),.lst (cJ.of (s4 _ _ rd2.nm)) (Ed _),.lst (cJ.of ag) (Ed _),shaped_ints _,shaped_ints _,_,rfl,?_⟩
   rw[FX]
   rw[MM]at s4 hpt4⊢
   rw[IQ hn1]at k
   have bad:(decide (x.layers=(bA n).map λi=>i+1)&&yn x)=false->∀{H':Hp}{σ:L2.St},aJ H H'->uq E T.gO.C (λ_=>aa (-6)) 0 mq {nx:=OV (fN 3) {nx:=λ_ H'=>Q .iD H',rt:=Q},rt:=Q} σ H':=λhb H' σ s'=>by
    rw[hb,if_neg (by decide)]at k
    exact⟨rfl,_,rfl,k.at T.LH T.gO.gt T.gO.no s'⟩
   by_cases hl1:x.layers=(bA n).map λi=>i+1
   ·rw[hl1,decide_eq_true rfl]
    refine fM ⟨_,rfl,q,x,rfl,hpt4,?_,hrx,hdx,?_,λH5 s5=>⟨_,rfl,?_⟩⟩
    ·refine GZ (c:=1) (m:=n) hrx ?_
     rw[hl1,kN]
     exact bg λi _=>zk _ _
    ·rw[hl1,ae,jq];lia
    ·rw[hl1,decide_eq_true rfl,Bool.true_and]at k
     cases hs:yn x with
     |true=>
      rw[hs,if_pos rfl]at k
      exact fM ⟨_,rfl,k q H5 ((s2.trans s4).trans s5) (hpt4.same s5)⟩
     |false=>
      exact eD (bad (by rw[hs,u1]) ((s2.trans s4).trans s5))
   ·rw[decide_eq_false (λz=>hl1 (cast_inj z))]
    exact eD (eD (bad (by rw[decide_eq_false hl1];rfl) (s2.trans s4)))
 ·rw[if_neg hlen]at k
  refine Kj (by lia:(400:Int)<((bs.length:Nat):Int)) ?_
  exact eD ⟨rfl,_,rfl,k.at T.NU T.js.gt T.js.no (aJ.refl _)⟩
end
end Bx
end
section
namespace Bx
open PySem PySem.Spec PyProof.Rows L2
open Vbpcau (Plan Plans Bytes planOf State Span pairs told)
open TL
section
variable{P:Program}{w:World}{K:af}{mg:Str->Option Value}{base:Heap}
def Fe(T:Tx K mg):Sp:=λvs H Q _=>ex3 Q λa p n Q=>vs=[.ref a]/\fu T.aV.C H p a/\kj n p/\n<=24/\∀l H',H l=none->aJ H H'->H' l=aa (.lst ((told p.shown).map V.int))->Q (.ref l) H'
theorem lL:aH ["part","text","sign"] ["part"] (aq ql):=⟨rfl,rfl,rfl,by decide+kernel,rfl,by decide+kernel,by decide+kernel⟩
theorem Mv{p:Plan}{i c:Nat}(h:(fF p).cps.toList[i]?=aa c):(p.shown.map λc=>(c.toNat:Int))[i]?=aa (c:Int):=by
 have e:(fF p).cps.toList=p.shown.map (·.toNat):=rfl
 rw[e,aS]at h
 rw[aS]
 cases q:p.shown[i]? with
 |none=>rw[q]at h;cases h
 |some b=>rw[q]at h;rw[<-bq h];rfl
theorem ju(T:Tx K mg):bw P w K mg base (du P w) 30 T.cE.f T.cE.fd ["part"] (Fe T):=by
 refine T.cE.fn.okN lL (λvs H Q E zz0=>by obtain⟨_,_,_,e,_⟩:=zz0;rw[e];rfl) λcdv A outer s H vs Q E hr zz1=>?_
 obtain⟨a,p,n,e,ha,po,hn,k⟩:=zz1
 subst e
 obtain⟨b1,b2,b3,b4,b5⟩:=po.bounds hn
 refine⟨_,ao (bK (i:=1) lL.nd rfl (Or.inl rfl) (bb (dvs:=[]) (ds:=[]) (IH T 24) (hr.mono (by decide)) rfl T.jL.mg T.jL.kp T.jL.bi .nil aP (ab (pv 0) aj)))
  (au (a8 (cZ AZ (d3 (ab (cg D7 rfl T.nQ cz (ab (pv 1) aj)) aj))
    (pQ (own:=[("sign",2)]) rfl lL.nd (Ss (pv 1)) (fz (by with_unfolding_all rfl))
      (λ_ _ _ _ _=>cX (i:=2) lL.nd rfl (Or.inl rfl) (.inr rfl)) (λ_ _ _ _ _=>mB)
      (λ_ _ _ _ _=>cg Nq rfl T.Tv (by decide+kernel) (ab (pv 2) aj)))))),?_⟩
 have zs:(fF p).length=p.shown.length:=AI p
 refine⟨_,rfl,a,p,rfl,ha,b1,b4,by lia,λH1 s1=>?_⟩
 refine⟨_,rfl,fF p,rfl,(by rw[zs,sizeLine_eq];lia),(by show 1<=sizeLine;decide),λl1 hl1=>?_⟩
 have s2:=aJ.upd (o:=.lst [.int ((fF p).length:Nat)]) hl1
 have hl2:upd H1 l1 (.lst [.int ((fF p).length:Nat)]) l1=aa (.lst [.int ((fF p).length:Nat)]):=ag
 generalize upd H1 l1 (.lst [.int ((fF p).length:Nat)])=H2 at s2 hl2
 refine⟨_,rfl,fF p,rfl,λD hD=>?_⟩
 refine R8 (λi H'=>aJ H2 H'/\H' D=aa (.lst (((p.shown.take i).map λc=>(c.toNat:Int)).map V.int))) ⟨aJ.upd hD,ag⟩ (λi c H' hc z=>?_) (λH' z=>?_)
 ·obtain⟨sH,hDl⟩:=z
  have hg:=Mv hc
  rw[aS]at hg
  cases q:p.shown[i]? with
  |none=>rw[q]at hg;cases hg
  |some b=>
   rw[q]at hg
   have hg:(b.toNat:Int)=(c:Int):=bq hg
   refine⟨rfl,_,rfl,_,rfl,rfl,_,hDl,?_,sH.pC hD,?_⟩
   ·rw[ae,ae,bH,sizeLine_eq];lia
   ·rw[ag,take_snoc q,aB,aB]
    show aa (HO.lst (_++[V.int ((c:Nat):Int)]))=aa (HO.lst (_++[V.int (b.toNat:Int)]))
    rw[hg]
 ·obtain⟨sH,hDl⟩:=z
  have e1:(fF p).cps.toList.length=p.shown.length:=by
   show(p.shown.map (·.toNat)).length=_
   rw[ae]
  rw[e1,bF]at hDl
  refine⟨l1,D,_,_,rfl,rfl,sH _ _ hl2,hDl,?_,λr hr'=>?_⟩
  ·rw[ae,ae];show 1+_<=_;rw[sizeLine_eq];lia
  ·refine k r _ (((s1.trans s2).trans sH).free hr') (((s1.trans s2).trans sH).trans (aJ.upd hr')) ?_
   rw[ag,zs]
   rfl
def QV(T:Tx K mg):Sp:=λvs H Q _=>ex2 Q λl ns Q=>vs=[.ref l]/\qz H l ns/\ns.length<=1000/\∀r H',H r=none->aJ H H'->H' r=aa (.lst ((pairs ns).map V.int))->Q (.ref r) H'
theorem nL:aH ["pairs","answer","pair"] ["pairs"] (aq o9):=⟨rfl,rfl,rfl,by decide+kernel,rfl,by decide+kernel,by decide+kernel⟩
theorem uD(ns:List Span):(ns.flatMap λx=>[(x.1:Int),(x.2:Int)]).length=2*ns.length:=by
 induction ns with
 |nil=>rfl
 |cons x r ih=>rw[bT,ai,ih];show 2+_=_;rw[aF];lia
theorem sf(T:Tx K mg):bw P w K mg base (du P w) 2 T.fU.f T.fU.fd ["pairs"] (QV T):=by
 refine T.fU.fn.okN nL (λvs H Q E zz2=>by obtain⟨_,_,e,_⟩:=zz2;rw[e];rfl) λcdv A outer s H vs Q E hr zz3=>?_
 obtain⟨l,ns,e,⟨as,hl,hp⟩,hz,k⟩:=zz3
 subst e
 have hlen:as.length=ns.length:=by rw[hp.length,ae]
 refine⟨_,ao (bK (i:=1) nL.nd rfl (Or.inl rfl) (d3 (ab (cg cP rfl T.nQ cz (ab (pv 0) aj)) aj)))
  (ao (p8 dw rfl (fJ (pv 0)) (cX (i:=2) nL.nd rfl (Or.inl rfl))
    (au (cw (vm cq eM hU Ik (pv 1) (ab (pv 2) aj)))))
  (au (a8 (pv 1)))),?_⟩
 refine⟨_,rfl,l,_,rfl,.inl (cJ.of hl),(by show 1<=sizeLine;decide),λr hr'=>?_⟩
 have s1:=aJ.upd (o:=.lst [.int ((as.map V.ref).length:Nat)]) hr'
 refine⟨_,rfl,l,rfl,⟨_,cJ.of (s1 _ _ hl)⟩,oU (K:=K) (a:=l) (xs:=as.map V.ref)
  (λi σ H'=>(∃y,σ=[aa (.ref l),aa (.ref r),y])/\aJ H H'/\H' r=aa (.lst (((ns.length:Int)::(ns.take i).flatMap λx=>[(x.1:Int),(x.2:Int)]).map V.int)))
  ⟨⟨_,rfl⟩,s1,(by rw[ag,ae,hlen];rfl)⟩ (λi σ H' _ z=>cJ.of (z.2.1 _ _ hl)) (λi v σ H' hv z=>?_) (λσ H' z=>?_)⟩
 ·obtain⟨⟨y,rfl⟩,sH,hrl⟩:=z
  obtain⟨c,hcc,rfl⟩:=fB hv
  obtain⟨q,hq1,hq2⟩:=hp.Ej hcc
  rw[aS]at hq1
  cases hu:ns[i]? with
  |none=>rw[hu]at hq1;cases hq1
  |some u=>
   rw[hu]at hq1
   cases hq1
   have hi:=(aD.mp hu).1
   refine⟨_,rfl,.inl ⟨rfl,_,cJ.of hrl⟩,_,rfl,r,c,_,_,rfl,rfl,hrl,vb.of (sH _ _ hq2),?_,⟨_,rfl⟩,sH.pC hr',?_⟩
   ·rw[ae,aF,uD,bH]
    show _+2<=_
    rw[sizeLine_eq];lia
   ·rw[ag,take_snoc hu,dh,bT,gC,aZ]
    show aa (HO.lst (_++[V.int _,V.int _]))=_
    rw[<-j4,aB]
    rfl
 ·obtain⟨⟨y,rfl⟩,sH,hrl⟩:=z
  rw[ae,hlen,bF]at hrl
  exact⟨_,rfl,k r _ hr' sH hrl⟩
abbrev Wj(bs:Bytes):List V:=.int (bs.length:Int)::bI bs
def Jl(T:Tx K mg):Sp:=λvs H Q E=>ex4 Q λ(b g:Addr)(st:State)(bs:Bytes) Q=>vs=[.ref b,.ref g]/\jb T.aL.C H b st/\eZ st/\H g=aa (.lst (Wj bs))/\
 if bs.length<=400 then(match g8 bs with
  |.error e=>ER K T.bx.C (-1000-(e:Nat)) H E
  |.ok x=>if planOf st.n x=true then∀q H',aJ H H'->fu T.aV.C H' x q->Q (.ref q) H' else ER K T.bx.C (-6) H E)
 else ER K T.bx.C (-8) H E
theorem E6:aH ["board","given"] ["board","given"] (aq tY):=⟨rfl,rfl,rfl,by decide+kernel,rfl,by decide+kernel,by decide+kernel⟩
theorem Nv(x:V)(xs:List V):B6 (x::xs) (aa 1) none=xs:=by
 unfold B6 HT.Bc
 have e1:(x::xs).length=xs.length+1:=rfl
 simp only[e1]
 have e2:min (1:Int).toNat (xs.length+1)=1:=by simp
 simp
theorem jK(T:Tx K mg):bw P w K mg base (du P w) 80 T.cY.f T.cY.fd ["board","given"] (Jl T):=by
 refine T.cY.fn.qX E6 (λvs H Q E zz4=>by obtain⟨_,_,_,_,e,_⟩:=zz4;rw[e];rfl) λcdv A outer s H vs Q E hr zz5=>?_
 obtain⟨b,g,st,bs,e,hb,so,hg,k⟩:=zz5
 subst e
 obtain⟨dxb,l,hb1,hb2⟩:=id hb
 refine⟨_,au (a8 (bb (dvs:=[]) (ds:=[]) (EG T) (hr.mono (by decide)) rfl T.oC.mg T.oC.kp T.oC.bi .nil eh (ab (A4 E7 (pv 1) (w6 bj) Qv) (ab (ba (pv 0) rfl) aj)))),?_⟩
 refine⟨_,rfl,_,rfl,g,_,rfl,cJ.of hg,λt ht=>?_⟩
 rw[Nv]
 have s1:=aJ.upd (o:=.lst (bI bs)) ht
 refine⟨_,rfl,b,_,dxb,_,_,rfl,s1 _ _ hb1,T.aL.cl,T.aL.no _ (by simp),cn _ _ _,t,st.n,bs,rfl,ag,⟨so.lo,so.hi⟩,?_⟩
 by_cases hlen:bs.length<=400
 ·rw[if_pos hlen]at k⊢
  cases q1:g8 bs with
  |error e=>rw[q1]at k;exact ER.same k s1
  |ok x=>
   rw[q1]at k
   dsimp only at k⊢
   by_cases hp:planOf st.n x=true
   ·rw[if_pos hp]at k⊢
    exact λq H' s2 hq=>k q H' (s1.trans s2) hq
   ·rw[if_neg hp]at k⊢
    exact k.same s1
 ·rw[if_neg hlen]at k⊢
  exact k.same s1
end
end Bx
end
section
namespace Bx
open PySem PySem.Spec PySem.Calls PyProof.Rows L2
open Vbpcau (State Span)
set_option genInjectivity false in
set_option genSizeOf false in
set_option genSizeOfSpec false in
structure r0 where
 tb:Addr
 pos:Pos
 q:Str
def FQ(c:Addr)(q:Str):HO:=.ext λh=>h.CodeRec (.ref c) q
def TB(B:r0)(H:Hp):Prop:=∃ps,H B.tb=aa (.zg ps)/\(ps=#[]\/∃c,ps=#[rawInt B.pos.line,rawInt B.pos.col,.ref c]/\H c=aa (FQ c B.q))
theorem TB.keep{B:r0}{H H':Hp}(h:TB B H)(k1:∀z ps,H z=aa (.zg ps)->H' z=aa (.zg ps))(k2:∀z φ,H z=aa (.ext φ)->H' z=aa (.ext φ)):TB B H':=by
 obtain⟨ps,h1,h2⟩:=h
 refine⟨ps,k1 _ _ h1,?_⟩
 rcases h2 with h2|⟨c,h2,h3⟩
 ·exact .inl h2
 ·exact .inr ⟨c,h2,k2 _ _ h3⟩
theorem TB.same{B:r0}{H H':Hp}(h:TB B H)(s:aJ H H'):TB B H':=h.keep (λ_ _ e=>s _ _ e) λ_ _ e=>s _ _ e
theorem TB.but{B:r0}{H H':Hp}{b C dx:Addr}{fs:List (Str×V)}(h:TB B H)(hb:H b=aa (.ins C dx fs))(k:sI b H H'):TB B H':=
 h.keep (λz ps e=>k _ _ e (eI e hb (by intro z;cases z))) λz φ e=>k _ _ e (eI e hb (by intro z;cases z))
theorem TB.upd{B:r0}{H:Hp}{D:Addr}{xs:List V}{o:HO}(h:TB B H)(hD:H D=aa (.lst xs)):TB B (upd H D o):=
 h.keep (λz ps e=>by rw[az (eI e hD (by intro z;cases z))];exact e) λz φ e=>by rw[az (eI e hD (by intro z;cases z))];exact e
abbrev bX(b tb:Addr):Addr->Prop:=λz=>z=b\/z=tb
end Bx
end
section
namespace Bx
open PySem PySem.Spec PyProof.Rows L2
open Vbpcau (State Span Plan Plans Bytes Call R does planIn served planOf serves must pairs told countOf whole counting pressing nesting tabOf rankOf pick firstFlat firstClash)
section
variable{P:Program}{w:World}{K:af}{mg:Str->Option Value}{base:Heap}
def O4(C b:Addr)(H H':Hp)(st':State):Prop:=jb C H' b st'/\∀D xs st,H D=aa (.lst xs)->jb C (vd H D) b st->jb C (vd H' D) b st'
theorem O4.same{C b:Addr}{H H':Hp}{st:State}(hb:jb C H b st)(s:aJ H H'):O4 C b H H' st:=by
 refine⟨hb.same s,λD xs st2 hD h=>?_⟩
 obtain⟨dx,l,h1,as,h2,h3⟩:=hb
 obtain⟨dx2,l2,g1,as2,g2,g3⟩:=h
 have e1:=(cA.mp g1).2
 rw[h1]at e1
 have e2:l=l2:=by
  injection e1 with e1
  injection e1 with _ _ e1
  injection e1 with _ e1
  injection e1 with e1 _
  injection e1 with _ e1
  injection e1
 subst e2
 have nl:l≠D:=(cA.mp g2).1
 refine⟨dx,l,cA.mpr ⟨(cA.mp g1).1,s _ _ h1⟩,as,cA.mpr ⟨nl,s _ _ h2⟩,h3.same λc xs' q=>cA.mpr ⟨λz=>?_,s _ _ q⟩⟩
 rw[z,hD]at q;cases q
theorem O4.of{C b:Addr}{H H1 H':Hp}{st':State}(h:yy C H H1 b st')(bt:sI b H H1)(s:aJ H1 H'):O4 C b H H' st':=by
 obtain⟨dx,l,h1,h2,as,h3,h4⟩:=h
 refine⟨⟨dx,l,s _ _ h1,as,s _ _ h3,s.Rt h4⟩,λD xs st2 hD h=>?_⟩
 obtain⟨dx2,l2,g1,_⟩:=h
 have bD:b≠D:=(cA.mp g1).1
 have hD':=s _ _ (bt _ _ hD bD.symm)
 refine⟨dx,l,cA.mpr ⟨bD,s _ _ h1⟩,as,cA.mpr ⟨(aA hD h2).symm,s _ _ h3⟩,h4.same λc xs' q=>cA.mpr ⟨λz=>?_,s _ _ q⟩⟩
 have q':=s _ _ q
 rw[z,hD']at q';cases q'
def dk(T:Tx K mg)(B:r0)(b:Addr)(H:Hp)(Q:VK)(E:XK):R (State×List Int)->Prop
 |.ok r=>∀l H',H l=none->Keeps (bX b B.tb) H H'->TB B H'->O4 T.aL.C b H H' r.1->H' l=aa (.lst (r.2.map V.int))->Q (.ref l) H'
 |.error n=>ER K T.bx.C n H E
def gz(T:Tx K mg)(B:r0)(C:Call):Sp:=λvs H Q E=>ex3 Q λb g st Q=>vs=[.ref b,.ref g]/\jb T.aL.C H b st/\eZ st/\H g=aa (.lst (((Bp.toks C).drop 1).map V.int))/\TB B H/\dk T B b H Q E (does st C)
theorem dk.same{T:Tx K mg}{B:r0}{b:Addr}{H:Hp}{Q:VK}{E:XK}{st:State}{ans:List Int}(h:dk T B b H Q E (.ok (st,ans)))(hb:jb T.aL.C H b st)(tb:TB B H){l:Addr}{H':Hp}(nl:H l=none)(s:aJ H H')(hl:H' l=aa (.lst (ans.map V.int))):Q (.ref l) H':=
 h l H' nl (Keeps.of s) (tb.same s) (O4.same hb s) hl
theorem dk.but{T:Tx K mg}{B:r0}{b:Addr}{H:Hp}{Q:VK}{E:XK}{st st':State}{ans:List Int}(h:dk T B b H Q E (.ok (st',ans)))(hb:jb T.aL.C H b st)(tb:TB B H){H1 H':Hp}(k:sI b H H1)(hb1:yy T.aL.C H H1 b st'){l:Addr}(nl:H1 l=none)(s:aJ H1 H')(hl:H' l=aa (.lst (ans.map V.int))):Q (.ref l) H':=by
 obtain⟨dxb,lb,h1,_⟩:=hb
 have nlH:H l=none:=by
  cases e:H l with
  |none=>rfl
  |some o=>
   by_cases q:l=b
   ·obtain⟨dx1,l1,h2,_⟩:=hb1.at
    rw[q,h2]at nl;cases nl
   ·have:=k _ _ e q
    rw[nl]at this;cases this
 refine h l H' nlH (λz o e n=>s _ _ (k _ _ e λq=>n (.inl q))) ((tb.but h1 k).same s) (O4.of hb1 k s) hl
theorem mw{Q:VK}{H:Hp}(i:Int)(k:∀l H',H l=none->aJ H H'->H' l=aa (.lst ([i].map V.int))->Q (.ref l) H'):1<=sizeLine/\∀p,H p=none->Q (.ref p) (upd H p (.lst [.int i])):=
 ⟨by decide,λp hp=>k p _ hp (aJ.upd hp) ag⟩
theorem OH:aH ["board","given"] ["board","given"] (aq EN):=⟨rfl,rfl,rfl,by decide+kernel,rfl,by decide+kernel,by decide+kernel⟩
theorem QJ:aH ["board","given"] ["board","given"] (aq Ja):=⟨rfl,rfl,rfl,by decide+kernel,rfl,by decide+kernel,by decide+kernel⟩
theorem QH:aH ["board","given"] ["board","given"] (aq IY):=⟨rfl,rfl,rfl,by decide+kernel,rfl,by decide+kernel,by decide+kernel⟩
theorem QM:aH ["board","given"] ["board","given"] (aq Jd):=⟨rfl,rfl,rfl,by decide+kernel,rfl,by decide+kernel,by decide+kernel⟩
theorem Iq(T:Tx K mg)(B:r0)(m:Int):bw P w K mg base (du P w) 90 T.begin.f T.begin.fd ["board","given"] (gz T B (.begin_ m)):=by
 refine T.begin.fn.qX OH (λvs H Q E zz0=>by obtain⟨_,_,_,e,_⟩:=zz0;rw[e];rfl) λcdv A outer s H vs Q E hr zz1=>?_
 obtain⟨b,g,st,e,hb,so,hg,tb,k⟩:=zz1
 subst e
 obtain⟨dxb,l,hb1,hb2⟩:=id hb
 refine⟨_,ao (cw (cQ (dvs:=[]) (ds:=[]) (pv 0) T.aL.cl T.mE.me (AN T) (hr.mono (by decide)) T.mE.bi .nil eh (ab (jN ij (pv 1) bj (λ_ _=>rfl)) aj)))
  (au (a8 (d3 (ab bj aj)))),?_⟩
 refine⟨_,rfl,b,dxb,_,rfl,hb1,pJ _ _ (by decide+kernel) (by decide+kernel),_,rfl,g,_,_,_,rfl,rfl,cJ.of hg,gT (j:=0) (v:=.int m) rfl,b,st,m,rfl,hb,?_⟩
 rw[Aq]at k
 by_cases h:2<=m/\m<=24
 ·rw[if_pos h]at k⊢
  exact λH1 hb' bt=>mw 0 λl H' nl s' hl=>dk.but k hb tb bt hb' nl s' hl
 ·rw[if_neg h]at k⊢
  exact k
theorem Mh(T:Tx K mg)(B:r0):bw P w K mg base (du P w) 90 T.turn.f T.turn.fd ["board","given"] (gz T B .turn):=by
 refine T.turn.fn.qX QM (λvs H Q E zz2=>by obtain⟨_,_,_,e,_⟩:=zz2;rw[e];rfl) λcdv A outer s H vs Q E hr zz3=>?_
 obtain⟨b,g,st,e,hb,so,hg,tb,k⟩:=zz3
 subst e
 obtain⟨dxb,l,hb1,hb2⟩:=id hb
 refine⟨_,ao (cw (eu (dvs:=[]) (ds:=[]) (E:=E0) (pv 0) T.aL.cl T.oK.me (Ci T) (hr.mono (by decide)) T.oK.bi .nil aP))
  (au (a8 (d3 (ab bj aj)))),?_⟩
 rw[CY]at k
 refine⟨_,rfl,b,dxb,_,rfl,hb1,pJ _ _ (by decide+kernel) (by decide+kernel),b,st,rfl,hb,so,λH1 hb' bt=>?_⟩
 exact mw 0 λl H' nl s' hl=>dk.but k hb tb bt hb' nl s' hl
theorem Qy(s:Span):∀ns:List Span,(fG s ns).length=ns.length+1:=λns=>by rw[(mV s ns).length_eq];rfl
theorem Av{s:Span}:∀{ns:List Span},ns.Nodup->s∈ns->(ns.filter λu=>u != s).length+1=ns.length
 |[],_,h=>absurd h (by simp)
 |x::r,hn,h=>by
  rw[hG]at hn
  rw[da]
  by_cases e:x=s
  ·subst e
   rw[if_neg (by simp),List.filter_eq_self.mpr (λu hu=>by simp;intro z;rw[z]at hu;exact hn.1 hu)]
   rfl
  ·have hs:s∈r:=(aG.mp h).resolve_left (λz=>e z.symm)
   rw[if_pos (by simp[e])]
   show(List.filter _ r).length+1+1=r.length+1
   rw[Av hn.2 hs]
theorem Of{st:State}{x y:Int}{r:State×List Int}(h:does st (.need x y)=.ok r):r.2=[(r.1.needs.length:Int)]:=by
 rw[xO]at h
 by_cases c1:1<=x/\x<y/\y<=(st.n:Int)
 ·rw[if_pos c1]at h
  by_cases c2:(x.toNat,y.toNat)∈st.needs
  ·rw[if_pos c2]at h;cases h
  ·rw[if_neg c2]at h
   by_cases c3:st.needs.length<12
   ·rw[if_pos c3]at h
    injection h with h
    subst h
    show[(st.needs.length:Int)+1]=[((fG _ _).length:Int)]
    rw[Qy];rfl
   ·rw[if_neg c3]at h;cases h
 ·rw[if_neg c1]at h;cases h
theorem ND{st:State}(so:eZ st){x y:Int}{r:State×List Int}(h:does st (.drop x y)=.ok r):r.2=[(r.1.needs.length:Int)]:=by
 rw[xN]at h
 by_cases c1:1<=x/\x<y/\y<=(st.n:Int)
 ·rw[if_pos c1]at h
  by_cases c2:(x.toNat,y.toNat)∈st.needs
  ·rw[if_pos c2]at h
   injection h with h
   subst h
   have:=Av (wQ so.Fz) c2
   show[(st.needs.length:Int)-1]=[((List.filter _ _).length:Int)]
   congr 1
   lia
  ·rw[if_neg c2]at h;cases h
 ·rw[if_neg c1]at h;cases h
theorem Md(T:Tx K mg)(B:r0)(x y:Int):bw P w K mg base (du P w) 90 T.need.f T.need.fd ["board","given"] (gz T B (.need x y)):=by
 refine T.need.fn.qX QJ (λvs H Q E zz4=>by obtain⟨_,_,_,e,_⟩:=zz4;rw[e];rfl) λcdv A outer s H vs Q E hr zz5=>?_
 obtain⟨b,g,st,e,hb,so,hg,tb,k⟩:=zz5
 subst e
 obtain⟨dxb,l,hb1,hb2⟩:=id hb
 refine⟨_,ao (cw (cQ (dvs:=[]) (ds:=[]) (pv 0) T.aL.cl T.oJ.me (Cg T) (hr.mono (by decide)) T.oJ.bi .nil eh (ab (jN ij (pv 1) bj (λ_ _=>rfl)) (ab (jN ij (pv 1) bj (λ_ _=>rfl)) aj))))
  (au (a8 (d3 (ab (cg cP rfl T.nQ cz (ab (ba (pv 0) rfl) aj)) aj)))),?_⟩
 refine⟨_,rfl,b,dxb,_,rfl,hb1,pJ _ _ (by decide+kernel) (by decide+kernel),_,rfl,g,_,_,_,rfl,rfl,cJ.of hg,gT (j:=0) (v:=.int x) rfl,_,rfl,g,_,_,_,rfl,rfl,cJ.of hg,gT (j:=1) (v:=.int y) rfl,b,st,x,y,rfl,hb,so,?_⟩
 cases h:does st (.need x y)with
 |error n=>rw[h]at k;exact k
 |ok r=>
  rw[h]at k
  have hl:=Of h
  obtain⟨st',ans⟩:=r
  dsimp only at hl
  subst hl
  intro H1 hb' bt
  obtain⟨dx1,l1,h11,as,hl1,hp1⟩:=hb'.at
  have hlen:(as.map V.ref).length=st'.needs.length:=by rw[ae,hp1.length,ae]
  refine⟨_,rfl,b,_,dx1,_,_,rfl,h11,T.aL.cl,T.aL.no _ (by simp),dX _ _,l1,_,rfl,.inl (cJ.of hl1),?_⟩
  rw[hlen]
  exact mw _ λl H' nl s' hl=>dk.but k hb tb bt hb' nl s' hl
theorem Mb(T:Tx K mg)(B:r0)(x y:Int):bw P w K mg base (du P w) 90 T.drop.f T.drop.fd ["board","given"] (gz T B (.drop x y)):=by
 refine T.drop.fn.qX QH (λvs H Q E zz6=>by obtain⟨_,_,_,e,_⟩:=zz6;rw[e];rfl) λcdv A outer s H vs Q E hr zz0=>?_
 obtain⟨b,g,st,e,hb,so,hg,tb,k⟩:=zz0
 subst e
 obtain⟨dxb,l,hb1,hb2⟩:=id hb
 refine⟨_,ao (cw (cQ (dvs:=[]) (ds:=[]) (pv 0) T.aL.cl T.oH.me (Ce T) (hr.mono (by decide)) T.oH.bi .nil eh (ab (jN ij (pv 1) bj (λ_ _=>rfl)) (ab (jN ij (pv 1) bj (λ_ _=>rfl)) aj))))
  (au (a8 (d3 (ab (cg cP rfl T.nQ cz (ab (ba (pv 0) rfl) aj)) aj)))),?_⟩
 refine⟨_,rfl,b,dxb,_,rfl,hb1,pJ _ _ (by decide+kernel) (by decide+kernel),_,rfl,g,_,_,_,rfl,rfl,cJ.of hg,gT (j:=0) (v:=.int x) rfl,_,rfl,g,_,_,_,rfl,rfl,cJ.of hg,gT (j:=1) (v:=.int y) rfl,b,st,x,y,rfl,hb,so,?_⟩
 cases h:does st (.drop x y)with
 |error n=>rw[h]at k;exact k
 |ok r=>
  rw[h]at k
  have hl:=ND so h
  obtain⟨st',ans⟩:=r
  dsimp only at hl
  subst hl
  intro H1 hb' bt
  obtain⟨dx1,l1,h11,as,hl1,hp1⟩:=hb'.at
  have hlen:(as.map V.ref).length=st'.needs.length:=by rw[ae,hp1.length,ae]
  refine⟨_,rfl,b,_,dx1,_,_,rfl,h11,T.aL.cl,T.aL.no _ (by simp),dX _ _,l1,_,rfl,.inl (cJ.of hl1),?_⟩
  rw[hlen]
  exact mw _ λl H' nl s' hl=>dk.but k hb tb bt hb' nl s' hl
theorem OL:aH ["board","given"] ["board","given"] (aq EW):=⟨rfl,rfl,rfl,by decide+kernel,rfl,by decide+kernel,by decide+kernel⟩
theorem G5:aH ["board","given","found"] ["board","given"] (aq ES):=⟨rfl,rfl,rfl,by decide+kernel,rfl,by decide+kernel,by decide+kernel⟩
theorem Iz(T:Tx K mg)(B:r0):bw P w K mg base (du P w) 90 T.needs.f T.needs.fd ["board","given"] (gz T B .needs):=by
 refine T.needs.fn.qX OL (λvs H Q E zz1=>by obtain⟨_,_,_,e,_⟩:=zz1;rw[e];rfl) λcdv A outer s H vs Q E hr zz2=>?_
 obtain⟨b,g,st,e,hb,so,hg,tb,k⟩:=zz2
 subst e
 obtain⟨dxb,l,hb1,hb2⟩:=id hb
 have k:dk T B b H Q E (.ok (st,(st.n:Int)::pairs st.needs)):=k
 refine⟨_,au (a8 (cZ AZ (d3 (ab (ba (pv 0) rfl) aj)) (bb (dvs:=[]) (ds:=[]) (E:=E0) (sf T) (hr.mono (by decide)) rfl T.fU.mg T.fU.kp T.fU.bi .nil aP (ab (ba (pv 0) rfl) aj)))),?_⟩
 refine⟨_,rfl,b,_,dxb,_,_,rfl,hb1,T.aL.cl,T.aL.no _ (by simp),cn _ _ _,(by show 1<=sizeLine;decide),λl1 hl1=>?_⟩
 have s1:=aJ.upd (o:=.lst [.int (st.n:Nat)]) hl1
 have fw:=so.wH
 refine⟨_,rfl,b,_,dxb,_,_,rfl,s1 _ _ hb1,T.aL.cl,T.aL.no _ (by simp),dX _ _,l,st.needs,rfl,hb2.same s1,by lia,λr H2 _ s2 hr2=>?_⟩
 refine⟨l1,r,_,_,rfl,rfl,s2 _ _ ag,hr2,?_,λq hq=>dk.same k hb tb ((s1.trans s2).free hq) ((s1.trans s2).trans (aJ.upd hq)) (by rw[ag];rfl)⟩
 rw[ae]
 show 1+((st.needs.length:Int)::st.needs.flatMap λx=>[(x.1:Int),(x.2:Int)]).length<=_
 rw[aF,uD,sizeLine_eq];lia
theorem Iu(T:Tx K mg)(B:r0):bw P w K mg base (du P w) 90 T.clash.f T.clash.fd ["board","given"] (gz T B .clash):=by
 refine T.clash.fn.qX G5 (λvs H Q E zz3=>by obtain⟨_,_,_,e,_⟩:=zz3;rw[e];rfl) λcdv A outer s H vs Q E hr zz4=>?_
 obtain⟨b,g,st,e,hb,so,hg,tb,k⟩:=zz4
 subst e
 obtain⟨dxb,l,hb1,hb2⟩:=id hb
 have k:dk T B b H Q E (.ok (st,match firstClash st.needs with
  |some x=>[1,(x.1.1:Int),(x.1.2:Int),(x.2.1:Int),(x.2.2:Int)]
  |none=>[0])):=k
 refine⟨_,ao (bK (i:=2) G5.nd rfl (Or.inl rfl) (eu (dvs:=[]) (ds:=[]) (E:=E0) (pv 0) T.aL.cl T.eJ.me (mQ T) (hr.mono (by decide)) T.eJ.bi .nil aP))
  (au (a8 (qM (cI Dq (cg cP rfl T.nQ cz (ab (pv 2) aj)) bj (eE _)) (cZ AZ (d3 (ab bj aj)) (pv 2)) (d3 (ab bj aj))))),?_⟩
 refine⟨_,rfl,b,dxb,_,rfl,hb1,pJ _ _ (by decide+kernel) (by decide+kernel),b,st,rfl,hb,so,λl1 H1 s1 hl1=>?_⟩
 refine⟨_,rfl,l1,_,rfl,.inl (cJ.of hl1),_,_,rfl,rfl,_,rfl,?_⟩
 rw[ae]
 cases q:firstClash st.needs with
 |none=>
  rw[q]at k
  exact fM (mw 0 λr H' nl s' hl=>dk.same k hb tb (s1.free nl) (s1.trans s') hl)
 |some x=>
  rw[q]at k hl1
  refine eD ⟨(by show 1<=sizeLine;decide),λl2 hl2=>?_⟩
  have s2:=aJ.upd (o:=.lst [.int 1]) hl2
  exact⟨_,rfl,l2,l1,_,_,rfl,rfl,ag,s2 _ _ hl1,(by show 5<=sizeLine;decide),λr hr'=>dk.same k hb tb ((s1.trans s2).free hr') ((s1.trans s2).trans (aJ.upd hr')) (by rw[ag];rfl)⟩
theorem OI:aH ["board","given"] ["board","given"] (aq ET):=⟨rfl,rfl,rfl,by decide+kernel,rfl,by decide+kernel,by decide+kernel⟩
theorem ON:aH ["board","given"] ["board","given"] (aq E1):=⟨rfl,rfl,rfl,by decide+kernel,rfl,by decide+kernel,by decide+kernel⟩
theorem OK:aH ["board","given"] ["board","given"] (aq EV):=⟨rfl,rfl,rfl,by decide+kernel,rfl,by decide+kernel,by decide+kernel⟩
theorem OJ:aH ["board","given"] ["board","given"] (aq EU):=⟨rfl,rfl,rfl,by decide+kernel,rfl,by decide+kernel,by decide+kernel⟩
theorem Iv(T:Tx K mg)(B:r0):bw P w K mg base (du P w) 90 T.count.f T.count.fd ["board","given"] (gz T B .count):=by
 refine T.count.fn.qX OI (λvs H Q E zz5=>by obtain⟨_,_,_,e,_⟩:=zz5;rw[e];rfl) λcdv A outer s H vs Q E hr zz6=>?_
 obtain⟨b,g,st,e,hb,so,hg,tb,k⟩:=zz6
 subst e
 have k:dk T B b H Q E (.ok (st,[(countOf st:Int)])):=k
 refine⟨_,au (a8 (d3 (ab (bb (dvs:=[]) (ds:=[]) (E:=E0) (AS T) (hr.mono (by decide)) rfl T.kP.mg T.kP.kp T.kP.bi .nil aP (ab (pv 0) aj)) aj))),?_⟩
 exact⟨_,rfl,b,st,rfl,hb,so,λH1 s1=>mw _ λr H' nl s' hl=>dk.same k hb tb (s1.free nl) (s1.trans s') hl⟩
theorem Ar(st:State)(v:Int):does st (.weigh v)=if 0<=v/\v<=1000000 then .ok (st,[((whole (counting v.toNat) st.needs st.n%Fy:Nat):Int)])else .error (-1):=by
 show(must (BR v 0 1000000) (-1)>>=λ_=>pure (st,[((whole (counting v.toNat) st.needs st.n%Fy:Nat):Int)]))=_
 by_cases h:0<=v/\v<=1000000
 ·rw[iC _ (by unfold BR;exact decide_eq_true h),if_pos h];rfl
 ·rw[jI _ (by unfold BR;rw[decide_eq_true_iff];exact h),if_neg h]
theorem IC(T:Tx K mg)(B:r0)(v:Int):bw P w K mg base (du P w) 90 T.weigh.f T.weigh.fd ["board","given"] (gz T B (.weigh v)):=by
 refine T.weigh.fn.qX ON (λvs H Q E zz0=>by obtain⟨_,_,_,e,_⟩:=zz0;rw[e];rfl) λcdv A outer s H vs Q E hr zz1=>?_
 obtain⟨b,g,st,e,hb,so,hg,tb,k⟩:=zz1
 subst e
 rw[Ar]at k
 refine⟨_,au (a8 (d3 (ab (bb (dvs:=[]) (ds:=[]) (AY T) (hr.mono (by decide)) rfl T.k9.mg T.k9.kp T.k9.bi .nil eh (ab (pv 0) (ab (jN ij (pv 1) bj (λ_ _=>rfl)) aj))) aj))),?_⟩
 refine⟨_,rfl,_,rfl,g,_,_,_,rfl,rfl,cJ.of hg,gT (j:=0) (v:=.int v) rfl,b,st,v,rfl,hb,so,?_⟩
 by_cases h:0<=v/\v<=1000000
 ·rw[if_pos h]at k⊢
  exact λH1 s1=>mw _ λr H' nl s' hl=>dk.same k hb tb (s1.free nl) (s1.trans s') hl
 ·rw[if_neg h]at k⊢
  exact k
theorem Iy(T:Tx K mg)(B:r0):bw P w K mg base (du P w) 90 T.least.f T.least.fd ["board","given"] (gz T B .least):=by
 refine T.least.fn.qX OK (λvs H Q E zz2=>by obtain⟨_,_,_,e,_⟩:=zz2;rw[e];rfl) λcdv A outer s H vs Q E hr zz3=>?_
 obtain⟨b,g,st,e,hb,so,hg,tb,k⟩:=zz3
 subst e
 have k:dk T B b H Q E (match whole pressing st.needs st.n with
  |some k=>.ok (st,[(k:Int)])
  |none=>.error (-4)):=k
 refine⟨_,au (a8 (d3 (ab (bb (dvs:=[]) (ds:=[]) (wV T) (hr.mono (by decide)) rfl T.iy.mg T.iy.kp T.iy.bi .nil eh (ab (pv 0) aj)) aj))),?_⟩
 refine⟨_,rfl,b,st,rfl,hb,so,?_⟩
 cases q:whole pressing st.needs st.n with
 |none=>rw[q]at k;exact k
 |some v=>
  rw[q]at k
  exact λH1 s1=>mw _ λr H' nl s' hl=>dk.same k hb tb (s1.free nl) (s1.trans s') hl
theorem Iw(T:Tx K mg)(B:r0):bw P w K mg base (du P w) 90 T.depth.f T.depth.fd ["board","given"] (gz T B .depth):=by
 refine T.depth.fn.qX OJ (λvs H Q E zz4=>by obtain⟨_,_,_,e,_⟩:=zz4;rw[e];rfl) λcdv A outer s H vs Q E hr zz5=>?_
 obtain⟨b,g,st,e,hb,so,hg,tb,k⟩:=zz5
 subst e
 have k:dk T B b H Q E (match whole nesting st.needs st.n with
  |some k=>.ok (st,[(k:Int)])
  |none=>.error (-4)):=k
 refine⟨_,au (a8 (d3 (ab (bb (dvs:=[]) (ds:=[]) (AW T) (hr.mono (by decide)) rfl T.kU.mg T.kU.kp T.kU.bi .nil eh (ab (pv 0) aj)) aj))),?_⟩
 refine⟨_,rfl,b,st,rfl,hb,so,?_⟩
 cases q:whole nesting st.needs st.n with
 |none=>rw[q]at k;exact k
 |some v=>
  rw[q]at k
  exact λH1 s1=>mw _ λr H' nl s' hl=>dk.same k hb tb (s1.free nl) (s1.trans s') hl
theorem QI:aH ["board","given"] ["board","given"] (aq IZ):=⟨rfl,rfl,rfl,by decide+kernel,rfl,by decide+kernel,by decide+kernel⟩
theorem QK:aH ["board","given"] ["board","given"] (aq Jb):=⟨rfl,rfl,rfl,by decide+kernel,rfl,by decide+kernel,by decide+kernel⟩
theorem Mc(T:Tx K mg)(B:r0):bw P w K mg base (du P w) 90 T.flat.f T.flat.fd ["board","given"] (gz T B .flat):=by
 refine T.flat.fn.qX QI (λvs H Q E zz6=>by obtain⟨_,_,_,e,_⟩:=zz6;rw[e];rfl) λcdv A outer s H vs Q E hr zz0=>?_
 obtain⟨b,g,st,e,hb,so,hg,tb,k⟩:=zz0
 subst e
 have k:dk T B b H Q E (match whole nesting st.needs st.n with
  |some m=>.ok (st,told (firstFlat st.needs (tabOf nesting st.needs st.n) (3*st.n) m 1 st.n).shown)
  |none=>.error (-4)):=k
 refine⟨_,au (a8 (bb (dvs:=[]) (ds:=[]) (E:=E0) (ju T) (hr.mono (by decide)) rfl T.cE.mg T.cE.kp T.cE.bi .nil aP (ab (bb (dvs:=[]) (ds:=[]) (EC T) (hr.mono (by decide)) rfl T.dI.mg T.dI.kp T.dI.bi .nil eh (ab (pv 0) aj)) aj))),?_⟩
 refine⟨_,rfl,b,st,rfl,hb,so,?_⟩
 cases q:whole nesting st.needs st.n with
 |none=>rw[q]at k;exact k
 |some v=>
  rw[q]at k
  exact λz H1 s1 hz po=>⟨z,_,st.n,rfl,hz,po,so.hi,λr H' nl s' hl=>dk.same k hb tb (s1.free nl) (s1.trans s') hl⟩
theorem CV(st:State)(v:Int):does st (.plan v)=if 0<=v/\v<(countOf st:Nat)then .ok (st,told (pick st.needs (tabOf (counting 1) st.needs st.n) (3*st.n) 1 st.n v.toNat).shown)else .error (-5):=by
 show(must (decide (0<=v/\v<(countOf st:Int))) (-5)>>=λ_=>pure (st,told (pick st.needs (tabOf (counting 1) st.needs st.n) (3*st.n) 1 st.n v.toNat).shown))=_
 by_cases h:0<=v/\v<(countOf st:Nat)
 ·rw[iC _ (decide_eq_true h),if_pos h];rfl
 ·rw[jI _ (by rw[decide_eq_true_iff];exact h),if_neg h]
theorem Mf(T:Tx K mg)(B:r0)(v:Int):bw P w K mg base (du P w) 90 T.plan.f T.plan.fd ["board","given"] (gz T B (.plan v)):=by
 refine T.plan.fn.qX QK (λvs H Q E zz1=>by obtain⟨_,_,_,e,_⟩:=zz1;rw[e];rfl) λcdv A outer s H vs Q E hr zz2=>?_
 obtain⟨b,g,st,e,hb,so,hg,tb,k⟩:=zz2
 subst e
 rw[CV]at k
 refine⟨_,au (a8 (bb (dvs:=[]) (ds:=[]) (E:=E0) (ju T) (hr.mono (by decide)) rfl T.cE.mg T.cE.kp T.cE.bi .nil aP (ab (bb (dvs:=[]) (ds:=[]) (nY T) (hr.mono (by decide)) rfl T.dM.mg T.dM.kp T.dM.bi .nil eh (ab (pv 0) (ab (jN ij (pv 1) bj (λ_ _=>rfl)) aj))) aj))),?_⟩
 refine⟨_,rfl,_,rfl,g,_,_,_,rfl,rfl,cJ.of hg,gT (j:=0) (v:=.int v) rfl,b,st,v,rfl,hb,so,?_⟩
 by_cases h:0<=v/\v<(countOf st:Nat)
 ·rw[if_pos h]at k⊢
  exact λz H1 s1 hz po=>⟨z,_,st.n,rfl,hz,po,so.hi,λr H' nl s' hl=>dk.same k hb tb (s1.free nl) (s1.trans s') hl⟩
 ·rw[if_neg h]at k⊢
  exact k
end
end Bx
end
section
namespace Bx
open PySem PySem.Spec PyProof.Rows L2
open Vbpcau (State Span Plan Plans Bytes Call R does planIn served planOf serves must pairs told countOf whole counting pressing nesting tabOf rankOf pick)
theorem Dx{α:Type}(st:State)(t:Bytes)(f:Plan->R α):(planIn st t>>=f)=if t.length<=400 then(match g8 t with
  |.error p=>.error (-1000-(p:Int))
  |.ok x=>if planOf st.n x=true then f x else .error (-6))else .error (-8):=by
 unfold planIn
 by_cases h:t.length<=400
 ·rw[if_pos h,show decide (t.length<=Vbpcau.LONG)=true from decide_eq_true h]
  rw[iC _ rfl]
  cases q:g8 t with
  |error p=>rfl
  |ok x=>
   show((if planOf st.n x=true then Except.ok x else Except.error (-6))>>=f)=_
   by_cases h2:planOf st.n x=true
   ·rw[if_pos h2];show f x=_;dsimp only;rw[if_pos h2]
   ·rw[if_neg h2];show Except.error (-6)=_;dsimp only;rw[if_neg h2]
 ·rw[if_neg h,show decide (t.length<=Vbpcau.LONG)=false from decide_eq_false h]
  rw[jI _ (by decide)];rfl
theorem CW(st:State)(t:Bytes):does st (.rank t)=(planIn st t>>=λp=>if serves st.needs p=true then .ok (st,[(rankOf st.needs (tabOf (counting 1) st.needs st.n) p:Int)])else .error (-7)):=by
 show(served st t>>=λp=>pure (st,[(rankOf st.needs (tabOf (counting 1) st.needs st.n) p:Int)]))=_
 unfold served
 cases planIn st t with
 |error n=>rfl
 |ok p=>
  show((must (serves st.needs p) (-7)>>=λ_=>pure p)>>=λp=>pure (st,[(rankOf st.needs (tabOf (counting 1) st.needs st.n) p:Int)]))=_
  by_cases h:serves st.needs p=true
  ·rw[iC _ h];show _=(if _ then _ else _);rw[if_pos h];rfl
  ·rw[jI _ h];show _=(if _ then _ else _);rw[if_neg h];rfl
theorem CU(st:State)(t:Bytes):does st (.next t)=(planIn st t>>=λp=>if serves st.needs p=true then(if rankOf st.needs (tabOf (counting 1) st.needs st.n) p+1<countOf st then
  .ok (st,told (pick st.needs (tabOf (counting 1) st.needs st.n) (3*st.n) 1 st.n (rankOf st.needs (tabOf (counting 1) st.needs st.n) p+1)).shown)else .error (-5))else .error (-7)):=by
 show(served st t>>=λp=>must (decide (rankOf st.needs (tabOf (counting 1) st.needs st.n) p+1<countOf st)) (-5)>>=λ_=>pure (st,told (pick st.needs (tabOf (counting 1) st.needs st.n) (3*st.n) 1 st.n (rankOf st.needs (tabOf (counting 1) st.needs st.n) p+1)).shown))=_
 unfold served
 cases planIn st t with
 |error n=>rfl
 |ok p=>
  show((must (serves st.needs p) (-7)>>=λ_=>pure p)>>=λp=>must (decide (rankOf st.needs (tabOf (counting 1) st.needs st.n) p+1<countOf st)) (-5)>>=λ_=>pure (st,told (pick st.needs (tabOf (counting 1) st.needs st.n) (3*st.n) 1 st.n (rankOf st.needs (tabOf (counting 1) st.needs st.n) p+1)).shown))=_
  by_cases h:serves st.needs p=true
  ·rw[iC _ h]
   show(must (decide (rankOf st.needs (tabOf (counting 1) st.needs st.n) p+1<countOf st)) (-5)>>=λ_=>_)=(if _ then _ else _)
   rw[if_pos h]
   by_cases h2:rankOf st.needs (tabOf (counting 1) st.needs st.n) p+1<countOf st
   ·rw[iC _ (decide_eq_true h2),if_pos h2];rfl
   ·rw[jI _ (by rw[decide_eq_true_iff];exact h2),if_neg h2]
  ·rw[jI _ h];show _=(if _ then _ else _);rw[if_neg h];rfl
section
variable{P:Program}{w:World}{K:af}{mg:Str->Option Value}{base:Heap}
theorem qO{T:Tx K mg}{B:r0}{b:Addr}{H:Hp}{Q:VK}{E:XK}{st:State}{t:Bytes}{f:Plan->R (State×List Int)}{PQ:Plan->Prop}(k:dk T B b H Q E (planIn st t>>=f))(h:∀x,planOf st.n x=true->dk T B b H Q E (f x)->PQ x):
  if t.length<=400 then(match g8 t with
   |.error e=>ER K T.bx.C (-1000-(e:Nat)) H E
   |.ok x=>if planOf st.n x=true then PQ x else ER K T.bx.C (-6) H E)
  else ER K T.bx.C (-8) H E:=by
 rw[Dx]at k
 by_cases h1:t.length<=400
 ·rw[if_pos h1]at k⊢
  cases q:g8 t with
  |error e=>rw[q]at k;exact k
  |ok x=>
   rw[q]at k
   dsimp only at k⊢
   by_cases h2:planOf st.n x=true
   ·rw[if_pos h2]at k⊢
    exact h x h2 k
   ·rw[if_neg h2]at k⊢
    exact k
 ·rw[if_neg h1]at k⊢
  exact k
theorem QL:aH ["board","given"] ["board","given"] (aq Jc):=⟨rfl,rfl,rfl,by decide+kernel,rfl,by decide+kernel,by decide+kernel⟩
theorem E5:aH ["board","given"] ["board","given"] (aq tU):=⟨rfl,rfl,rfl,by decide+kernel,rfl,by decide+kernel,by decide+kernel⟩
theorem Mg(T:Tx K mg)(B:r0)(t:Bytes):bw P w K mg base (du P w) 90 T.rank.f T.rank.fd ["board","given"] (gz T B (.rank t)):=by
 refine T.rank.fn.qX QL (λvs H Q E zz0=>by obtain⟨_,_,_,e,_⟩:=zz0;rw[e];rfl) λcdv A outer s H vs Q E hr zz1=>?_
 obtain⟨b,g,st,e,hb,so,hg,tb,k⟩:=zz1
 subst e
 rw[CW]at k
 refine⟨_,au (a8 (d3 (ab (bb (dvs:=[]) (ds:=[]) (pN T) (hr.mono (by decide)) rfl T.eU.mg T.eU.kp T.eU.bi .nil eh (ab (pv 0) (ab (bb (dvs:=[]) (ds:=[]) (jK T) (hr.mono (by decide)) rfl T.cY.mg T.cY.kp T.cY.bi .nil eh (ab (pv 0) (ab (pv 1) aj))) aj))) aj))),?_⟩
 refine⟨_,rfl,_,rfl,_,rfl,b,g,st,t,rfl,hb,so,hg,qO k λx hx kx q H1 s1 hq=>?_⟩
 refine⟨b,st,q,x,rfl,hb.same s1,so,hq,hx,?_⟩
 by_cases h:serves st.needs x=true
 ·rw[if_pos h]at kx⊢
  exact λH2 s2=>mw _ λr H' nl s' hl=>dk.same kx hb tb ((s1.trans s2).free nl) ((s1.trans s2).trans s') hl
 ·rw[if_neg h]at kx⊢
  exact ER.same kx s1
theorem Me(T:Tx K mg)(B:r0)(t:Bytes):bw P w K mg base (du P w) 90 T.lZ.f T.lZ.fd ["board","given"] (gz T B (.next t)):=by
 refine T.lZ.fn.qX E5 (λvs H Q E zz2=>by obtain⟨_,_,_,e,_⟩:=zz2;rw[e];rfl) λcdv A outer s H vs Q E hr zz3=>?_
 obtain⟨b,g,st,e,hb,so,hg,tb,k⟩:=zz3
 subst e
 rw[CU]at k
 refine⟨_,au (a8 (bb (dvs:=[]) (ds:=[]) (E:=E0) (ju T) (hr.mono (by decide)) rfl T.cE.mg T.cE.kp T.cE.bi .nil aP (ab
  (bb (dvs:=[]) (ds:=[]) (AX T) (hr.mono (by decide)) rfl T.kZ.mg T.kZ.kp T.kZ.bi .nil eh (ab (pv 0) (ab (bb (dvs:=[]) (ds:=[]) (jK T) (hr.mono (by decide)) rfl T.cY.mg T.cY.kp T.cY.bi .nil eh (ab (pv 0) (ab (pv 1) aj))) aj))) aj))),?_⟩
 refine⟨_,rfl,_,rfl,_,rfl,b,g,st,t,rfl,hb,so,hg,qO k λx hx kx q H1 s1 hq=>?_⟩
 refine⟨b,st,q,x,rfl,hb.same s1,so,hq,hx,?_⟩
 by_cases h:serves st.needs x=true
 ·rw[if_pos h]at kx⊢
  by_cases h2:rankOf st.needs (tabOf (counting 1) st.needs st.n) x+1<countOf st
  ·rw[if_pos h2]at kx⊢
   exact λz H2 s2 hz po=>⟨z,_,st.n,rfl,hz,po,so.hi,λr H' nl s' hl=>dk.same kx hb tb ((s1.trans s2).free nl) ((s1.trans s2).trans s') hl⟩
  ·rw[if_neg h2]at kx⊢
   exact ER.same kx s1
 ·rw[if_neg h]at kx⊢
  exact ER.same kx s1
theorem OM:aH ["board","given"] ["board","given"] (aq EY):=⟨rfl,rfl,rfl,by decide+kernel,rfl,by decide+kernel,by decide+kernel⟩
theorem Mu:aH ["board","given"] ["board","given"] (aq Bd):=⟨rfl,rfl,rfl,by decide+kernel,rfl,by decide+kernel,by decide+kernel⟩
theorem IA(T:Tx K mg)(B:r0)(t:Bytes):bw P w K mg base (du P w) 90 T.spans.f T.spans.fd ["board","given"] (gz T B (.spans t)):=by
 refine T.spans.fn.qX OM (λvs H Q E zz4=>by obtain⟨_,_,_,e,_⟩:=zz4;rw[e];rfl) λcdv A outer s H vs Q E hr zz5=>?_
 obtain⟨b,g,st,e,hb,so,hg,tb,k⟩:=zz5
 subst e
 have k:dk T B b H Q E (planIn st t>>=λp=>.ok (st,pairs (p.spans.foldr fG []))):=k
 refine⟨_,au (a8 (bb (dvs:=[]) (ds:=[]) (E:=E0) (sf T) (hr.mono (by decide)) rfl T.fU.mg T.fU.kp T.fU.bi .nil aP (ab
  (bb (dvs:=[]) (ds:=[]) (E:=E0) (yY T 24) (hr.mono (by decide)) rfl T.lM.mg T.lM.kp T.lM.bi .nil aP (ab (bb (dvs:=[]) (ds:=[]) (jK T) (hr.mono (by decide)) rfl T.cY.mg T.cY.kp T.cY.bi .nil eh (ab (pv 0) (ab (pv 1) aj))) aj)) aj))),?_⟩
 refine⟨_,rfl,_,rfl,b,g,st,t,rfl,hb,so,hg,qO k λx hx kx q H1 s1 hq=>?_⟩
 obtain⟨b1,b2,b3,b4,b5⟩:=(kj.of so.hi hx).bounds so.hi
 refine⟨q,x,rfl,hq,b1,b4,by lia,λl H2 s2 hl=>?_⟩
 rw[Jm]at hl
 refine⟨l,_,rfl,hl,?_,λr H3 nl s3 hr3=>dk.same kx hb tb ((s1.trans s2).free nl) ((s1.trans s2).trans s3) hr3⟩
 rw[(i9 _).length_eq,yp];lia
mutual
theorem Kv{n:Nat}(hn:n<100):∀{p:Plan},fit p->(∀k∈p.layers,1<=k/\k<=n)->fit (p.mirror n)
 |.foil k,h,hk=>by
  have:=hk k (aK.mpr rfl)
  show n+1-k<100
  omega
 |.core a b,h,hk=>by
  have h1:=hk a ay
  have h2:=hk b (ax _ ay)
  obtain⟨h3,_,_⟩:=h
  exact⟨by omega,by lia,by lia⟩
 |.press l,h,hk=>by
  refine⟨?_,Gw hn h.2 hk trivial⟩
  have e:(l.mirrorOn n .nil).list.length=l.list.length:=by
   rw[xY,ai,oO,ae];rfl
  rw[e];exact h.1
theorem Gw{n:Nat}(hn:n<100):∀{l m:Plans},fits l->(∀k∈l.layers,1<=k/\k<=n)->fits m->fits (l.mirrorOn n m)
 |.nil,m,_,_,hm=>hm
 |.cons p l,m,h,hk,hm=>by
  show fits (l.mirrorOn n (.cons (p.mirror n) m))
  exact Gw hn h.2 (λk z=>hk k (b7 _ z)) ⟨Kv hn h.1 λk z=>hk k (jM _ z),hm⟩
end
theorem Ms(n:Nat):((br 1 n).map λk=>n+1-k).reverse=br 1 n:=by
 refine List.ext_getElem? λi=>?_
 by_cases h:i<n
 ·rw[mF (by rw[ae,cp];exact h),aS,ae,cp,Jy (by omega),Jy h]
  show aa (n+1-(1+1*(n-1-i)))=aa (1+1*i)
  congr 1
  lia
 ·rw[gL (by rw[oO,ae,cp];ac_rfl),gL (by rw[cp];ac_rfl)]
theorem kj.mirror{n:Nat}{p:Plan}(hn:n<=24)(h:kj n p):kj n (p.mirror n):=by
 refine⟨Kv (by lia) h.fit λk hk=>?_,?_⟩
 ·rw[h.lay,yC]at hk
  lia
 ·rw[vJ,h.lay,Ms]
theorem GJ(T:Tx K mg)(B:r0)(t:Bytes):bw P w K mg base (du P w) 90 T.mirror.f T.mirror.fd ["board","given"] (gz T B (.mirror t)):=by
 refine T.mirror.fn.qX Mu (λvs H Q E zz6=>by obtain⟨_,_,_,e,_⟩:=zz6;rw[e];rfl) λcdv A outer s H vs Q E hr zz0=>?_
 obtain⟨b,g,st,e,hb,so,hg,tb,k⟩:=zz0
 subst e
 obtain⟨dxb,l,hb1,hb2⟩:=id hb
 have k:dk T B b H Q E (planIn st t>>=λp=>.ok (st,told (p.mirror st.n).shown)):=k
 refine⟨_,au (a8 (bb (dvs:=[]) (ds:=[]) (E:=E0) (ju T) (hr.mono (by decide)) rfl T.cE.mg T.cE.kp T.cE.bi .nil aP (ab
  (bb (dvs:=[]) (ds:=[]) (E:=E0) (GO T 24) (hr.mono (by decide)) rfl T.mirrored.mg T.mirrored.kp T.mirrored.bi .nil aP (ab (bb (dvs:=[]) (ds:=[]) (jK T) (hr.mono (by decide)) rfl T.cY.mg T.cY.kp T.cY.bi .nil eh (ab (pv 0) (ab (pv 1) aj))) (ab (ba (pv 0) rfl) aj))) aj))),?_⟩
 refine⟨_,rfl,_,rfl,b,g,st,t,rfl,hb,so,hg,qO k λx hx kx q H1 s1 hq=>?_⟩
 have po:=kj.of so.hi hx
 obtain⟨b1,b2,b3,b4,b5⟩:=po.bounds so.hi
 refine⟨_,rfl,b,_,dxb,_,_,rfl,s1 _ _ hb1,T.aL.cl,T.aL.no _ (by simp),cn _ _ _,q,x,H1,st.n,rfl,hq,aJ.refl _,b2,b1,b4,by lia,λk hk=>?_,λz H2 s2 hz=>?_⟩
 ·rw[po.lay,yC]at hk
  lia
 ·exact⟨z,_,st.n,rfl,hz.same uG,po.mirror so.hi,so.hi,λr H' nl s' hl=>dk.same kx hb tb ((s1.trans s2).free nl) ((s1.trans s2).trans s') hl⟩
theorem ite_int{c:Bool}{σ:L2.St}{H:Hp}{Q:VK}(h:Q (.int (if c=true then 1 else 0)) H):if c=true then tC (.int 1) σ H Q else tC (.int 0) σ H Q:=by
 cases c with
 |true=>exact h
 |false=>exact h
mutual
theorem rB:∀p:Plan,(p.work.filter λx=>x.1==1).length=p.presses
 |.foil k=>rfl
 |.core a b=>rfl
 |.press l=>by
  show((l.work++[((1:Nat),_)]).filter λ(x:Nat×Span)=>x.1==1).length=l.presses+1
  rw[cB,ai,vp l];rfl
theorem vp:∀l:Plans,(l.work.filter λx=>x.1==1).length=l.presses
 |.nil=>rfl
 |.cons p l=>by
  show((p.work++l.work).filter λ(x:Nat×Span)=>x.1==1).length=p.presses+l.presses
  rw[cB,ai,rB p,vp l]
end
theorem IT(p:Plan):p.presses<=p.work.length:=by rw[<-rB];exact bP _ _
theorem pd:aH ["board","given","read","served","pieces","presses","piece"] ["board","given"] (aq EO):=⟨rfl,rfl,rfl,by decide+kernel,rfl,by decide+kernel,by decide+kernel⟩
theorem uh:aH ["board","given","pieces","answer","piece","needed"] ["board","given"] (aq EZ):=⟨rfl,rfl,rfl,by decide+kernel,rfl,by decide+kernel,by decide+kernel⟩
theorem Ir(T:Tx K mg)(B:r0)(t:Bytes):bw P w K mg base (du P w) 90 T.check.f T.check.fd ["board","given"] (gz T B (.check t)):=by
 refine T.check.fn.qX pd (λvs H Q E zz1=>by obtain⟨_,_,_,e,_⟩:=zz1;rw[e];rfl) λcdv A outer s H vs Q E hr zz2=>?_
 obtain⟨b,g,st,e,hb,so,hg,tb,k⟩:=zz2
 subst e
 have k:dk T B b H Q E (planIn st t>>=λp=>.ok (st,[if serves st.needs p=true then 1 else 0,(p.presses:Int),(p.depth:Int),((p.spans.length-p.presses:Nat):Int)])):=k
 refine⟨_,ao (bK (i:=2) pd.nd rfl (Or.inl rfl) (bb (dvs:=[]) (ds:=[]) (jK T) (hr.mono (by decide)) rfl T.cY.mg T.cY.kp T.cY.bi .nil eh (ab (pv 0) (ab (pv 1) aj))))
  (ao (bK (i:=3) pd.nd rfl (Or.inl rfl) (qM (kn (bb (dvs:=[]) (ds:=[]) (E:=E0) (vk T) (hr.mono (by decide)) rfl T.iX.mg T.iX.kp T.iX.bi .nil aP (ab (pv 0) (ab (pv 2) aj)))) bj bj))
  (ao (bK (i:=4) pd.nd rfl (Or.inl rfl) (bb (dvs:=[]) (ds:=[]) (E:=E0) (rA T 24) (hr.mono (by decide)) rfl T.dJ.mg T.dJ.kp T.dJ.bi .nil aP (ab (pv 2) aj)))
  (ao (bK (i:=5) pd.nd rfl (Or.inl rfl) (cg cP rfl T.nQ cz (ab
    (pQ (te:=fN 6) (tt:=DL (ze (DI T.aV.C) [] E0 (gJ (fN 6) mq))) (own:=[("piece",6)]) rfl pd.nd (fJ (pv 4)) (fz (by with_unfolding_all rfl))
      (λ_ _ _ _ _=>cX (i:=6) pd.nd rfl (Or.inl rfl) (.inr rfl))
      (λ_ _ _ _ _=>rC (kn (bb (dvs:=[]) (ds:=[]) (E:=E0) (jt T) (hr.mono (by decide)) rfl T.dj.mg T.dj.kp T.dj.bi .nil aP (ab (pv 6) aj))))
      (λ_ _ _ _ _=>pv 6)) aj)))
  (au (a8 (d3 (ab (pv 3) (ab (pv 5) (ab (bb (dvs:=[]) (ds:=[]) (E:=E0) (GK T 24) (hr.mono (by decide)) rfl T.iw.mg T.iw.kp T.iw.bi .nil aP (ab (pv 2) aj))
    (ab (cZ nE (cg cP rfl T.nQ cz (ab (pv 4) aj)) (pv 5)) aj)))))))))),?_⟩
 refine⟨_,rfl,_,rfl,b,g,st,t,rfl,hb,so,hg,qO k λx hx kx q H1 s1 hq=>?_⟩
 have po:=kj.of so.hi hx
 obtain⟨b1,b2,b3,b4,b5⟩:=po.bounds so.hi
 refine⟨_,rfl,_,rfl,b,st,q,x,rfl,hb.same s1,so,hq,po,λH2 s2=>⟨_,rfl,?_⟩⟩
 refine ite_int ?_
 have hq2:=hq.same s2
 refine⟨_,rfl,q,x,H2,rfl,hq2,aJ.refl _,b1,b4,by lia,λl bs H3 s3 nl hl hp=>?_⟩
 have hlen:=gj hp
 refine⟨_,rfl,l,rfl,⟨_,cJ.of hl⟩,λD hD=>?_⟩
 refine jG (K:=K) (a:=l) (xs:=bs.map V.ref) (λi H'=>aJ H3 H'/\∃acc:List V,H' D=aa (.lst acc)/\acc.length=((x.work.take i).filter λx=>x.1==1).length) ⟨aJ.upd hD,[],ag,rfl⟩ (λi H' _ z=>cJ.of (z.1 _ _ hl)) (λi v H' hv z=>?_) (λH4 z=>?_)
 ·obtain⟨c,hcc,rfl⟩:=fB hv
  obtain⟨sH,acc,hD1,hD2⟩:=z
  obtain⟨pc,hpc,⟨y,hy,hf,hla,hpr⟩⟩:=hp.get hcc
  refine⟨rfl,_,rfl,c,y,rfl,(hy.same s3).same sH,_,rfl,?_⟩
  have hi:=(aD.mp hpc).1
  rw[take_snoc hpc,cB,ai,da,fQ]
  cases hyp:fS y with
  |true=>
   rw[hyp,if_pos rfl]at hpr
   rw[show(pc.1==1)=true by rw[hpr];rfl]
   refine eD ⟨_,rfl,acc,hD1,?_,sH.pC hD,_,ag,?_⟩
   ·have:=bP (λx:Nat×Span=>x.1==1) (x.work.take i)
    rw[bH]at this
    rw[hD2,sizeLine_eq];lia
   ·rw[ai,hD2,if_pos rfl];rfl
  |false=>
   rw[hyp,if_neg (by decide)]at hpr
   rw[show(pc.1==1)=false by rw[hpr];rfl]
   refine fM ⟨sH,acc,hD1,?_⟩
   rw[hD2,if_neg (by decide)];rfl
 ·obtain⟨sH,acc,hD1,hD2⟩:=z
  rw[ae,hlen,bF,rB]at hD2
  refine⟨D,_,rfl,.inl (cJ.of hD1),?_⟩
  rw[hD2]
  refine⟨_,rfl,_,rfl,_,rfl,q,x,rfl,(hq2.same s3).same sH,b4,by lia,by lia,λH5 s5=>?_⟩
  have s35:=s3.trans (sH.trans s5)
  refine⟨_,rfl,l,_,rfl,.inl (cJ.of (s5 _ _ (sH _ _ hl))),_,rfl,_,_,rfl,rfl,(by show 4<=sizeLine;decide),λr hr'=>?_⟩
  refine dk.same kx hb tb (((s1.trans s2).trans s35).free hr') (((s1.trans s2).trans s35).trans (aJ.upd hr')) ?_
  rw[ag,ae,hlen,yp]
  have:=IT x
  show aa (HO.lst [V.int _,V.int _,V.int _,V.int (((x.work.length:Nat):Int)-((x.presses:Nat):Int))])=aa (HO.lst [V.int _,V.int _,V.int _,V.int ((x.work.length-x.presses:Nat):Int)])
  rw[BV this]
theorem Dc{st:State}(l:List (Nat×Span)):(l.flatMap λx=>[(x.1:Int),(x.2.1:Int),(x.2.2:Int),if st.needs.contains x.2=true then 1 else 0]).length=4*l.length:=by
 induction l with
 |nil=>rfl
 |cons x r ih=>rw[bT,ai,ih];show 4+_=_;rw[aF];lia
theorem IB(T:Tx K mg)(B:r0)(t:Bytes):bw P w K mg base (du P w) 90 T.steps.f T.steps.fd ["board","given"] (gz T B (.steps t)):=by
 refine T.steps.fn.qX uh (λvs H Q E zz3=>by obtain⟨_,_,_,e,_⟩:=zz3;rw[e];rfl) λcdv A outer s H vs Q E hr zz4=>?_
 obtain⟨b,g,st,e,hb,so,hg,tb,k⟩:=zz4
 subst e
 have k:dk T B b H Q E (planIn st t>>=λp=>.ok (st,(p.work.length:Int)::p.work.flatMap λx=>[(x.1:Int),(x.2.1:Int),(x.2.2:Int),if st.needs.contains x.2=true then 1 else 0])):=k
 refine⟨_,ao (bK (i:=2) uh.nd rfl (Or.inl rfl) (bb (dvs:=[]) (ds:=[]) (E:=E0) (rA T 24) (hr.mono (by decide)) rfl T.dJ.mg T.dJ.kp T.dJ.bi .nil aP (ab (bb (dvs:=[]) (ds:=[]) (jK T) (hr.mono (by decide)) rfl T.cY.mg T.cY.kp T.cY.bi .nil eh (ab (pv 0) (ab (pv 1) aj))) aj)))
  (ao (bK (i:=3) uh.nd rfl (Or.inl rfl) (d3 (ab (cg cP rfl T.nQ cz (ab (pv 2) aj)) aj)))
  (ao (p8 A3 rfl (fJ (pv 2)) (cX (i:=4) uh.nd rfl (Or.inl rfl))
    (ao (bK (i:=5) uh.nd rfl (Or.inl rfl) (zV (II (NY hr)) (iE (ab (ba (pv 4) rfl) (ab (ba (pv 4) rfl) aj))) (ba (pv 0) rfl) rfl))
    (au (cw (vm cq eM hU uF (pv 3) (ab
      (d3 (ab (qM (kn (bb (dvs:=[]) (ds:=[]) (E:=E0) (jt T) (hr.mono (by decide)) rfl T.dj.mg T.dj.kp T.dj.bi .nil aP (ab (pv 4) aj))) bj bj)
        (ab (ba (pv 4) rfl) (ab (ba (pv 4) rfl) (ab (qM (kn (pv 5)) bj bj) aj))))) aj))))))
  (au (a8 (pv 3))))),?_⟩
 refine⟨_,rfl,_,rfl,b,g,st,t,rfl,hb,so,hg,qO k λx hx kx q H1 s1 hq=>?_⟩
 have po:=kj.of so.hi hx
 obtain⟨b1,b2,b3,b4,b5⟩:=po.bounds so.hi
 refine⟨q,x,H1,rfl,hq,aJ.refl _,b1,b4,by lia,λl bs H3 s3 nl hl hp=>?_⟩
 have hlen:=gj hp
 refine⟨_,rfl,l,_,rfl,.inl (cJ.of hl),(by show 1<=sizeLine;decide),λr hr'=>?_⟩
 have s13:=s1.trans s3
 have s4:=aJ.upd (o:=.lst [.int ((bs.map V.ref).length:Nat)]) hr'
 refine⟨_,rfl,l,rfl,⟨_,cJ.of (s4 _ _ hl)⟩,oU (K:=K) (a:=l) (xs:=bs.map V.ref)
  (λi σ H'=>(∃y4 y5,σ=[aa (.ref b),aa (.ref g),aa (.ref l),aa (.ref r),y4,y5])/\aJ H3 H'/\H' r=aa (.lst (((x.work.length:Int)::(x.work.take i).flatMap λx=>[(x.1:Int),(x.2.1:Int),(x.2.2:Int),if st.needs.contains x.2=true then 1 else 0]).map V.int)))
  ⟨⟨_,_,rfl⟩,s4,(by rw[ag,ae,hlen];rfl)⟩ (λi σ H' _ z=>cJ.of (z.2.1 _ _ hl)) (λi v σ H' hv z=>?_) (λσ H' z=>?_)⟩
 ·obtain⟨⟨y4,y5,rfl⟩,sH,hrl⟩:=z
  obtain⟨c,hcc,rfl⟩:=fB hv
  obtain⟨pc,hpc,⟨y,hy,hf,hla,hpr⟩⟩:=hp.get hcc
  have hi:=(aD.mp hpc).1
  have s1H:=s3.trans sH
  have hyH:=hy.same s1H
  obtain⟨dxy,ly,asy,t1,_⟩:=hyH.top
  rw[hf,hla]at t1
  obtain⟨dxb,lb,hb1,⟨as,hlb,hpb⟩⟩:=hb.same (s13.trans sH)
  refine⟨_,rfl,c,_,dxy,_,_,rfl,t1,T.aV.cl,T.aV.no _ (by simp),j9 _ _ _,_,rfl,c,_,dxy,_,_,rfl,t1,T.aV.cl,T.aV.no _ (by simp),mz _ _ _,(by show 2<=sizeLine;decide),λtt htt=>?_⟩
  have s5:=aJ.upd (o:=.tup [.int (pc.2.1:Nat),.int (pc.2.2:Nat)]) htt
  refine⟨_,rfl,b,_,dxb,_,_,rfl,s5 _ _ hb1,T.aL.cl,T.aL.no _ (by simp),dX _ _,tt,lb,as,_,bQ pc.2,rfl,rfl,ag,cJ.of (s5 _ _ hlb),s5.Rt hpb,?_⟩
  rw[show(if false=true then !decide (bQ pc.2∈st.needs.map bQ)else decide (bQ pc.2∈st.needs.map bQ))=st.needs.contains pc.2 by
   rw[if_neg (by decide),g9,decide_eq_true_iff,kX,gK]]
  have hrl5:=s5 _ _ hrl
  refine⟨_,rfl,.inl ⟨rfl,_,cJ.of hrl5⟩,_,rfl,c,y,rfl,hyH.same s5,_,rfl,?_⟩
  refine ite_int ?_
  refine⟨_,rfl,c,_,dxy,_,_,rfl,s5 _ _ t1,T.aV.cl,T.aV.no _ (by simp),j9 _ _ _,_,rfl,c,_,dxy,_,_,rfl,s5 _ _ t1,T.aV.cl,T.aV.no _ (by simp),mz _ _ _,_,rfl,_,rfl,?_⟩
  refine ite_int ?_
  refine⟨(by show 4<=sizeLine;decide),λl2 hl2=>?_⟩
  have s6:=aJ.upd (o:=.lst [.int (if fS y=true then 1 else 0),.int (pc.2.1:Nat),.int (pc.2.2:Nat),.int (if st.needs.contains pc.2=true then 1 else 0)]) hl2
  refine⟨r,l2,_,_,rfl,rfl,s6 _ _ hrl5,ag,?_,⟨_,_,rfl⟩,((sH.trans s5).trans s6).pC hr',?_⟩
  ·rw[ae,aF,Dc,bH]
   show _+4<=_
   rw[sizeLine_eq];lia
  ·rw[ag,take_snoc hpc,dh,bT,gC,aZ,<-j4,aB]
   have e1:((pc.1:Nat):Int)=(if fS y=true then 1 else 0):=by
    rw[hpr]
    cases fS y<;>rfl
   show aa (HO.lst (_++[V.int (if fS y=true then 1 else 0),V.int (pc.2.1:Nat),V.int (pc.2.2:Nat),V.int (if st.needs.contains pc.2=true then 1 else 0)]))=aa (HO.lst (_++[V.int ((pc.1:Nat):Int),V.int (pc.2.1:Nat),V.int (pc.2.2:Nat),V.int (if st.needs.contains pc.2=true then 1 else 0)]))
   rw[e1]
 ·obtain⟨⟨y4,y5,rfl⟩,sH,hrl⟩:=z
  rw[ae,hlen,bF]at hrl
  exact⟨_,rfl,dk.same kx hb tb (s13.free hr') (s13.trans sH) hrl⟩
end
end Bx
end
section
namespace Bx
open PySem PySem.Spec PyProof.Rows L2
open Vbpcau (State Span Plan Plans Alg pressing tabOf partOf sumOver)
abbrev tP(ns:List Span)(n:Nat):wk (Option Nat):=tabOf pressing ns n
abbrev sC(ns:List Span)(n b f z:Nat):Option Nat:=Bp.jd pressing ns (tP ns n) b f z
abbrev oS(ns:List Span)(n a b f:Nat):Option Nat:=sumOver pressing ((Bp.ends ns a b f).map λe=>sC ns n b f e)
def F1(ns:List Span)(n:Nat):Unit->Nat->Nat->Nat->Nat->Unit->Prop:=λ_ a b f d _=>(Bp.ends ns a b f).find? (λz=>sC ns n b f z==oS ns n a b f&&(oS ns n a b f).isSome)=aa d
def F2:Unit->Nat->Nat->Unit->Unit->Prop:=λ_ _ _ _ _=>True
theorem OG{ns:List Span}{n:Nat}(WF:Bp.WF ns)(N:Bp.d4 ns){a b c z:Nat}(h1:1<=a)(hac:a<=c)(h3:b<=n)(hz:z∈Bp.ends ns a b c):(sC ns n b c z).isSome=true:=by
 have L:=Bp.eR
 have S:=Bp.iH
 have hm:=Bp.dC hz hac
 refine S.both _ _ (oB L S WF N (by lia) hm.1 (by lia)) ?_
 by_cases q:z=b
 ·subst q
  rw[Bp.iU];rfl
 ·exact oE L S WF N (by ac_rfl) (by lia) h3
theorem Q0{l:List (Option Nat)}(h:(sumOver pressing l).isSome=true):sumOver pressing l∈l:=by
 induction l with
 |nil=>cases h
 |cons x l ih=>
  rw[Bp.iY Bp.eR]at h⊢
  show Vbpcau.lessOf x (sumOver pressing l)∈x::l
  cases q:sumOver pressing l with
  |none=>
   cases x with
   |none=>rw[q]at h;cases h
   |some k=>exact ay
  |some j=>
   rw[q]at ih
   have ih:=ih rfl
   cases x with
   |none=>exact ax _ ih
   |some k=>
    show aa (min k j)∈_
    by_cases c:k<=j
    ·rw[Nat.min_eq_left c];exact ay
    ·rw[Nat.min_eq_right (by lia)];exact ax _ ih
theorem LA{ns:List Span}{n:Nat}(WF:Bp.WF ns)(N:Bp.d4 ns){a b c z:Nat}(h1:1<=a)(hac:a<=c)(h3:b<=n)(hz:z∈Bp.ends ns a b c):(oS ns n a b c).isSome=true/\∃d,(Bp.ends ns a b c).find? (λz=>sC ns n b c z==oS ns n a b c&&(oS ns n a b c).isSome)=aa d:=by
 have hs:(oS ns n a b c).isSome=true:=Bp.om Bp.eR Bp.iH _ _ (bB.mpr ⟨z,hz,rfl⟩) (OG WF N h1 hac h3 hz)
 refine⟨hs,?_⟩
 obtain⟨d,hd,hdv⟩:=bB.mp (Q0 hs)
 cases q:(Bp.ends ns a b c).find? (λz=>sC ns n b c z==oS ns n a b c&&(oS ns n a b c).isSome)with
 |some d=>exact⟨d,rfl⟩
 |none=>
  have:=lh.mp q d hd
  have hdv:sC ns n b c d=oS ns n a b c:=hdv
  rw[hdv,hs]at this
  simp at this
theorem Lx{ns:List Span}(WF:Bp.WF ns)(N:Bp.d4 ns){a b c:Nat}(hab:a<b)(hcb:c<=b):∃z,z∈Bp.ends ns a b c:=by
 unfold Bp.ends
 by_cases e:c=a
 ·rw[if_pos e]
  exact Bp.Bs WF N hab
 ·rw[if_neg e,if_pos hcb]
  exact⟨b,b7 _ (aK.mpr rfl)⟩
theorem F3{ns:List Span}{n:Nat}(WF:Bp.WF ns)(N:Bp.d4 ns):∀f,(∀a b,1<=a->a<b->b<=n->3*(b-a)<=f->pD ns (F1 ns n) F2 () a b (Bp.wH ns (tP ns n) f a b))/\
  (∀a b c i s,1<=a->a+2<=b->b<=n->Bp.At ns a b c i s->(c=a->3*(b-a)<=f+1)->(a<c->3*(b+1-c)<=f+2)->lX ns (F1 ns n) F2 () a b c (Bp.pH ns (tP ns n) f a b c))
 |0=>by
  refine⟨λa b h1 h2 h3 h4=>by lia,λa b c i s h1 h2 h3 hat g1 g2=>?_⟩
  have hc:c=b+1:=by rcases hat with h|h<;>lia
  subst hc
  rw[Bp.pH]
  exact .nil _ _ _
 |f+1=>by
  obtain⟨i1,i2⟩:=F3 WF N f
  refine⟨λa b h1 h2 h3 h4=>?_,λa b c i s h1 h2 h3 hat g1 g2=>?_⟩
  ·rw[Bp.wH]
   by_cases e:b=a+1
   ·rw[if_pos e,e]
    exact .core _ _
   ·rw[if_neg e]
    exact .press _ _ _ _ (by lia) (i2 a b a 0 false h1 (by lia) h3 (.inl ⟨rfl,rfl,rfl⟩) (λ_=>by assumption) (λ_=>by lia))
  ·have hac:a<=c:=by rcases hat with h|h<;>lia
   have hcb:c<=b+1:=by rcases hat with h|h<;>lia
   rw[Bp.pH]
   by_cases e:c=b+1
   ·subst e
    rw[xP (by lia)]
    exact .nil _ _ _
   ·obtain⟨z,hz⟩:=Lx WF N (a:=a) (b:=b) (c:=c) (by ac_rfl) (by lia)
    obtain⟨_,d,g⟩:=LA (n:=n) WF N h1 hac h3 hz
    have g':(Bp.ends ns a b c).find? (λd=>Bp.jd pressing ns (tP ns n) b c d==sumOver pressing ((Bp.ends ns a b c).map λe=>Bp.jd pressing ns (tP ns n) b c e)&&(sumOver pressing ((Bp.ends ns a b c).map λe=>Bp.jd pressing ns (tP ns n) b c e)).isSome)=aa d:=g
    rw[g']
    have hd:=gZ g
    have hmm:=Bp.dC hd hac
    refine .cons () () () () a b c d _ _ (by lia) hd g trivial ?_ ?_
    ·by_cases ec:c=d
     ·rw[if_pos ec,<-ec]
      exact .foil _ _
     ·rw[if_neg ec]
      refine i1 c d (by lia) (by lia) (by lia) ?_
      by_cases eca:c=a
      ·have:=g1 eca;have:=hmm.2.2.2 eca;lia
      ·have:=g2 (by lia);omega
    ·refine i2 a b (d+1) _ _ h1 h2 h3 (hat.starts h2 hd) (λz=>by lia) (λ_=>?_)
     by_cases eca:c=a
     ·have:=g1 eca;lia
     ·have:=g2 (by lia);lia
end Bx
end
section
namespace Bx
open Vbpcau (State Span Plan Plans Bytes Call R does planIn planOf serves must pairs told countOf whole counting pressing nesting tabOf partOf rankOf pick firstFlat firstFew firstClash step)
theorem ur{n:Nat}{p:Plan}(hn:n<=24)(h:kj n p):(told p.shown).length<=300:=by
 obtain⟨_,_,h3,_⟩:=h.bounds hn
 show(p.shown.map _).length+1<=300
 rw[ae];lia
theorem Qu{st:State}(so:eZ st){m:Nat}(hm:whole nesting st.needs st.n=aa m):kj st.n (firstFlat st.needs (tabOf nesting st.needs st.n) (3*st.n) m 1 st.n):=by
 have:=so.lo
 refine kj.Ub (ns:=st.needs) (eo:=CQ st.needs st.n) (wi:=CS) (σ:=m) so.hi ?_
 rw[(Bp.zS so.wf (tabOf nesting st.needs st.n) (3*st.n)).1 m 1 st.n (by assumption)]
 refine(uE so.wf (3*st.n)).1 1 st.n m (ah _) (by assumption) (ah _) (by lia) ?_
 rw[gv so.lo,hm]
 exact decide_eq_true (ah m)
theorem KI{st:State}(so:eZ st){k:Nat}(hk:k<countOf st):kj st.n (pick st.needs (tabOf (counting 1) st.needs st.n) (3*st.n) 1 st.n k):=by
 have lo:=so.lo
 have hlt:k<partOf (counting 1) (uo st.needs st.n) 1 st.n:=by rw[gv so.lo];exact hk
 have hpr:=(AM (n:=st.n) so.wf (3*st.n)).1 1 st.n k (ah _) (by assumption) (ah _) (by lia) hlt
 rw[<-(Bp.EJ so.wf (tabOf (counting 1) st.needs st.n) (3*st.n)).1 1 st.n k (by assumption)]at hpr
 exact kj.Ub so.hi hpr
theorem AL{st:State}(so:eZ st)(h:(whole pressing st.needs st.n).isSome=true):firstClash st.needs=none:=by
 cases q:firstClash st.needs with
 |none=>rfl
 |some x=>
  rw[pq Bp.oW so q]at h
  cases h
theorem NN{st:State}(so:eZ st)(h:firstClash st.needs=none):pD st.needs (F1 st.needs st.n) F2 () 1 st.n (firstFew st.needs (tabOf pressing st.needs st.n) (3*st.n) 1 st.n):=by
 have lo:=so.lo
 rw[(Bp.NO so.wf (tabOf pressing st.needs st.n) (3*st.n)).1 1 st.n (by assumption)]
 exact(F3 so.wf (oT so.Fz h) (3*st.n)).1 1 st.n (ah _) (by assumption) (ah _) (by lia)
theorem Ov{st:State}(so:eZ st)(h:firstClash st.needs=none):kj st.n (firstFew st.needs (tabOf pressing st.needs st.n) (3*st.n) 1 st.n):=kj.Ub so.hi (NN so h)
theorem CT(st:State):does st .best=if(whole pressing st.needs st.n).isSome=true then .ok (st,told (firstFew st.needs (tabOf pressing st.needs st.n) (3*st.n) 1 st.n).shown)else .error (-4):=by
 show(must (whole pressing st.needs st.n).isSome (-4)>>=λ_=>pure (st,told (firstFew st.needs (tabOf pressing st.needs st.n) (3*st.n) 1 st.n).shown))=_
 by_cases h:(whole pressing st.needs st.n).isSome=true
 ·rw[iC _ h,if_pos h];rfl
 ·rw[jI _ h,if_neg h]
def BU(st:State):R (State×List Int)->Prop
 |.ok r=>eZ r.1/\r.2.length<=300
 |.error _=>True
theorem oA{st:State}{t:Bytes}{f:Plan->R (State×List Int)}(h:∀x,planOf st.n x=true->BU st (f x)):BU st (planIn st t>>=f):=by
 rw[Dx]
 by_cases h1:t.length<=400
 ·rw[if_pos h1]
  cases g8 t with
  |error e=>trivial
  |ok x=>
   dsimp only
   by_cases h2:planOf st.n x=true
   ·rw[if_pos h2];exact h x h2
   ·rw[if_neg h2];trivial
 ·rw[if_neg h1];trivial
theorem LB{st:State}(so:eZ st):∀C:Call,BU st (does st C)
 |.begin_ n=>by
  rw[Aq]
  by_cases h:2<=n/\n<=24
  ·rw[if_pos h];exact⟨eZ.begin_ h,by show 1<=300;decide⟩
  ·rw[if_neg h];trivial
 |.need a b=>by
  rw[xO]
  by_cases c1:1<=a/\a<b/\b<=(st.n:Int)
  ·rw[if_pos c1]
   by_cases c2:(a.toNat,b.toNat)∈st.needs
   ·rw[if_pos c2];trivial
   ·rw[if_neg c2]
    by_cases c3:st.needs.length<12
    ·rw[if_pos c3];exact⟨so.need c1 c2 c3,by show 1<=300;decide⟩
    ·rw[if_neg c3];trivial
  ·rw[if_neg c1];trivial
 |.drop a b=>by
  rw[xN]
  by_cases c1:1<=a/\a<b/\b<=(st.n:Int)
  ·rw[if_pos c1]
   by_cases c2:(a.toNat,b.toNat)∈st.needs
   ·rw[if_pos c2];exact⟨so.drop _,by show 1<=300;decide⟩
   ·rw[if_neg c2];trivial
  ·rw[if_neg c1];trivial
 |.needs=>by
  refine⟨so,?_⟩
  show((st.needs.length:Int)::st.needs.flatMap λx=>[(x.1:Int),(x.2:Int)]).length+1<=300
  have:=so.wH
  rw[aF,uD];lia
 |.clash=>by
  refine⟨so,?_⟩
  show(match firstClash st.needs with
   |some x=>[1,(x.1.1:Int),(x.1.2:Int),(x.2.1:Int),(x.2.2:Int)]
   |none=>[0]).length<=300
  cases firstClash st.needs with
  |none=>decide
  |some x=>show 5<=300;decide
 |.count=>⟨so,by show 1<=300;decide⟩
 |.weigh v=>by
  rw[Ar]
  by_cases h:0<=v/\v<=1000000
  ·rw[if_pos h];exact⟨so,by show 1<=300;decide⟩
  ·rw[if_neg h];trivial
 |.least=>by
  show BU st (match whole pressing st.needs st.n with
   |some k=>.ok (st,[(k:Int)])
   |none=>.error (-4))
  cases whole pressing st.needs st.n with
  |none=>trivial
  |some k=>exact⟨so,by show 1<=300;decide⟩
 |.depth=>by
  show BU st (match whole nesting st.needs st.n with
   |some k=>.ok (st,[(k:Int)])
   |none=>.error (-4))
  cases whole nesting st.needs st.n with
  |none=>trivial
  |some k=>exact⟨so,by show 1<=300;decide⟩
 |.best=>by
  rw[CT]
  by_cases h:(whole pressing st.needs st.n).isSome=true
  ·rw[if_pos h];exact⟨so,ur so.hi (Ov so (AL so h))⟩
  ·rw[if_neg h];trivial
 |.flat=>by
  show BU st (match whole nesting st.needs st.n with
   |some m=>.ok (st,told (firstFlat st.needs (tabOf nesting st.needs st.n) (3*st.n) m 1 st.n).shown)
   |none=>.error (-4))
  cases q:whole nesting st.needs st.n with
  |none=>trivial
  |some k=>exact⟨so,ur so.hi (Qu so q)⟩
 |.plan v=>by
  rw[CV]
  by_cases h:0<=v/\v<(countOf st:Nat)
  ·rw[if_pos h];exact⟨so,ur so.hi (KI so (by lia))⟩
  ·rw[if_neg h];trivial
 |.rank t=>by
  rw[CW]
  refine oA λx hx=>?_
  by_cases h:serves st.needs x=true
  ·rw[if_pos h];exact⟨so,by show 1<=300;decide⟩
  ·rw[if_neg h];trivial
 |.next t=>by
  rw[CU]
  refine oA λx hx=>?_
  by_cases h:serves st.needs x=true
  ·rw[if_pos h]
   by_cases h2:rankOf st.needs (tabOf (counting 1) st.needs st.n) x+1<countOf st
   ·rw[if_pos h2];exact⟨so,ur so.hi (KI so h2)⟩
   ·rw[if_neg h2];trivial
  ·rw[if_neg h];trivial
 |.check t=>by
  show BU st (planIn st t>>=λp=>.ok (st,[if serves st.needs p=true then 1 else 0,(p.presses:Int),(p.depth:Int),((p.spans.length-p.presses:Nat):Int)]))
  exact oA λx hx=>⟨so,by show 4<=300;decide⟩
 |.spans t=>by
  show BU st (planIn st t>>=λp=>.ok (st,pairs (p.spans.foldr fG [])))
  refine oA λx hx=>⟨so,?_⟩
  obtain⟨_,_,_,_,b5⟩:=(kj.of so.hi hx).bounds so.hi
  show(_::List.flatMap _ _).length<=300
  rw[aF,uD,(i9 _).length_eq,yp];lia
 |.mirror t=>by
  show BU st (planIn st t>>=λp=>.ok (st,told (p.mirror st.n).shown))
  exact oA λx hx=>⟨so,ur so.hi ((kj.of so.hi hx).mirror so.hi)⟩
 |.steps t=>by
  show BU st (planIn st t>>=λp=>.ok (st,(p.work.length:Int)::p.work.flatMap λx=>[(x.1:Int),(x.2.1:Int),(x.2.2:Int),if st.needs.contains x.2=true then 1 else 0]))
  refine oA λx hx=>⟨so,?_⟩
  obtain⟨_,_,_,_,b5⟩:=(kj.of so.hi hx).bounds so.hi
  show(_::List.flatMap _ _).length<=300
  rw[aF,Dc];lia
 |.turn=>by
  rw[CY]
  exact⟨so.turn,by show 1<=300;decide⟩
theorem LC{st:State}(so:eZ st)(C:Call):eZ (step st C).1/\(step st C).2.length<=300:=by
 have:=LB so C
 unfold step
 cases q:does st C with
 |ok r=>rw[q]at this;exact this
 |error n=>exact⟨so,by show 1<=300;decide⟩
end Bx
end
section
namespace Bx
open PySem PySem.Spec PyProof.Rows L2
open Vbpcau (State Span Bytes Call R does step)
def code:Call->Nat
 |.begin_ _=>0
 |.need _ _=>1
 |.drop _ _=>2
 |.needs=>3
 |.clash=>4
 |.count=>5
 |.weigh _=>6
 |.least=>7
 |.depth=>8
 |.best=>9
 |.flat=>10
 |.plan _=>11
 |.rank _=>12
 |.next _=>13
 |.check _=>14
 |.spans _=>15
 |.mirror _=>16
 |.steps _=>17
 |.turn=>18
def vG:Call->Int
 |.begin_ _=>1
 |.need _ _=>2
 |.drop _ _=>2
 |.needs=>0
 |.clash=>0
 |.count=>0
 |.weigh _=>1
 |.least=>0
 |.depth=>0
 |.best=>0
 |.flat=>0
 |.plan _=>1
 |.rank _=>1
 |.next _=>1
 |.check _=>1
 |.spans _=>1
 |.mirror _=>1
 |.steps _=>1
 |.turn=>0
def zU:Call->Bool
 |.begin_ _=>false
 |.need _ _=>false
 |.drop _ _=>false
 |.needs=>false
 |.clash=>false
 |.count=>false
 |.weigh _=>false
 |.least=>false
 |.depth=>false
 |.best=>false
 |.flat=>false
 |.plan _=>false
 |.rank _=>true
 |.next _=>true
 |.check _=>true
 |.spans _=>true
 |.mirror _=>true
 |.steps _=>true
 |.turn=>false
theorem oG(C:Call):Bp.toks C=(code C:Int)::(Bp.toks C).drop 1:=by cases C<;>rfl
theorem LF(C:Call):([1,2,2,0,0,0,1,0,0,0,0,1,1,1,1,1,1,1,0]:List Int)[code C]?=aa (vG C):=by cases C<;>rfl
theorem Q6(C:Call):Vh (V.int (code C:Int)) (([12,13,14,15,16,17]:List Int).map V.int)=zU C:=by cases C<;>rfl
theorem LX{C:Call}(h:zU C=false):((Bp.toks C).length:Int)=1+vG C:=by
 cases C<;>first|rfl|(cases h;done)
theorem Ob{C:Call}(h:zU C=true):vG C=1/\∃(t:Bytes),(Bp.toks C).drop 1=(t.length:Int)::Bp.codes t:=by
 cases C with
 |rank t=>exact⟨rfl,t,rfl⟩
 |next t=>exact⟨rfl,t,rfl⟩
 |check t=>exact⟨rfl,t,rfl⟩
 |spans t=>exact⟨rfl,t,rfl⟩
 |mirror t=>exact⟨rfl,t,rfl⟩
 |steps t=>exact⟨rfl,t,rfl⟩
 |_=>cases h
section
variable{P:Program}{w:World}{K:af}{mg:Str->Option Value}{base:Heap}
def QT(K:af):Sp:=λvs H Q _=>ex4 Q λ(c:Addr)(pre post:List Int)(C:Call) Q=>vs=[.ref c,.int (pre.length:Nat)]/\cJ K H c ((pre++(Bp.toks C++post)).map V.int)/\Q (.int ((pre.length+(Bp.toks C).length:Nat):Int)) H
theorem ph:aH ["calls","place","number","end"] ["calls","place"] (aq qi):=⟨rfl,rfl,rfl,by decide+kernel,rfl,by decide+kernel,by decide+kernel⟩
theorem Ia{pre post:List Int}{C:Call}{i:Nat}{v:Int}(h:(Bp.toks C)[i]?=aa v):Nf ((pre++(Bp.toks C++post)).map V.int) (((pre.length:Nat):Int)+(i:Nat))=aa (.int v):=by
 have e:(((pre.length:Nat):Int)+(i:Nat))=((pre.length+i:Nat):Int):=by rfl
 rw[e]
 refine gT ?_
 rw[aS,gG (by ac_rfl),Nat.add_sub_cancel_left,dU (aD.mp h).1,h]
 rfl
theorem AU(T:Tx K mg):bw P w K mg base (du P w) 2 T.kT.f T.kT.fd ["calls","place"] (QT K):=by
 refine T.kT.fn.okN ph (λvs H Q E zz0=>by obtain⟨_,_,_,_,e,_⟩:=zz0;rw[e];rfl) λcdv A outer s H vs Q E hr zz1=>?_
 obtain⟨c,pre,post,C,e,hc,k⟩:=zz1
 subst e
 refine⟨_,ao (bK (i:=2) ph.nd rfl (Or.inl rfl) (jN ij (pv 0) (pv 1) (λ_ _=>rfl)))
  (ao (bK (i:=3) ph.nd rfl (Or.inl rfl) (cZ gM (cZ gM (pv 1) bj) (jN xU (zX (v:=.ref T.Fl) rfl T.Sh rfl) (pv 2) (λ_ _=>rfl))))
  (au (a8 (qM (cI Mn (pv 2) (zX (v:=.ref T.K1) rfl T.T7 rfl) rfl) (cZ gM (pv 3) (jN ij (pv 0) (cZ gM (pv 1) bj) (λ_ _=>rfl))) (pv 3))))),?_⟩
 have g0:=Ia (pre:=pre) (post:=post) (C:=C) (i:=0) (v:=(code C:Int)) (by rw[oG];rfl)
 rw[show(((pre.length:Nat):Int)+((0:Nat):Int))=((pre.length:Nat):Int) by rfl]at g0
 refine⟨_,rfl,_,rfl,c,_,_,_,rfl,rfl,hc,g0,?_⟩
 refine⟨_,rfl,_,_,rfl,rfl,_,rfl,T.Fl,_,_,_,rfl,rfl,T.Sy H,gT (j:=code C) (v:=.int (vG C)) (by rw[aS,LF];rfl),_,_,rfl,rfl,?_⟩
 refine⟨_,rfl,T.K1,_,rfl,.inr (T.Ue H),rfl,rfl,_,rfl,?_⟩
 rw[if_neg (by decide),Q6]
 cases ht:zU C with
 |true=>
  obtain⟨e1,t,e2⟩:=Ob ht
  have e3:(Bp.toks C).length=2+t.length:=by
   rw[oG C,e2,aF,aF]
   unfold Bp.codes
   rw[ae];lia
  have g1:=Ia (pre:=pre) (post:=post) (C:=C) (i:=1) (v:=(t.length:Int)) (by rw[oG,e2];rfl)
  refine eD ⟨_,rfl,_,rfl,_,rfl,_,_,rfl,rfl,c,_,_,_,rfl,rfl,hc,g1,_,_,rfl,rfl,?_⟩
  rw[e3]at k
  show Q (V.int (((pre.length:Nat):Int)+1+vG C+(t.length:Int))) H
  rw[e1,show(((pre.length:Nat):Int)+1+1+(t.length:Int))=((pre.length+(2+t.length):Nat):Int) by lia]
  exact k
 |false=>
  refine fM ⟨_,rfl,?_⟩
  have:=LX ht
  show Q (V.int (((pre.length:Nat):Int)+1+vG C)) H
  rw[show(((pre.length:Nat):Int)+1+vG C)=((pre.length+(Bp.toks C).length:Nat):Int) by lia]
  exact k
theorem Py(T:Tx K mg)(B:r0)(hbest:bw P w K mg base (du P w) 90 T.best.f T.best.fd ["board","given"] (gz T B .best))(C:Call):
  ∃f fd,([T.begin.f,T.need.f,T.drop.f,T.needs.f,T.clash.f,T.count.f,T.weigh.f,T.least.f,T.depth.f,T.best.f,T.flat.f,T.plan.f,T.rank.f,T.lZ.f,T.check.f,T.spans.f,T.mirror.f,T.steps.f,T.turn.f]:List Addr)[code C]?=aa f/\
   bw P w K mg base (du P w) 90 f fd ["board","given"] (gz T B C)/\cK K (.ref f)=true/\Binds K fd ["board","given"] []:=by
 cases C with
 |begin_ n=>exact⟨_,_,rfl,Iq T B n,T.begin.kp,T.begin.bi⟩
 |need a b=>exact⟨_,_,rfl,Md T B a b,T.need.kp,T.need.bi⟩
 |drop a b=>exact⟨_,_,rfl,Mb T B a b,T.drop.kp,T.drop.bi⟩
 |needs=>exact⟨_,_,rfl,Iz T B,T.needs.kp,T.needs.bi⟩
 |clash=>exact⟨_,_,rfl,Iu T B,T.clash.kp,T.clash.bi⟩
 |count=>exact⟨_,_,rfl,Iv T B,T.count.kp,T.count.bi⟩
 |weigh v=>exact⟨_,_,rfl,IC T B v,T.weigh.kp,T.weigh.bi⟩
 |least=>exact⟨_,_,rfl,Iy T B,T.least.kp,T.least.bi⟩
 |depth=>exact⟨_,_,rfl,Iw T B,T.depth.kp,T.depth.bi⟩
 |best=>exact⟨_,_,rfl,hbest,T.best.kp,T.best.bi⟩
 |flat=>exact⟨_,_,rfl,Mc T B,T.flat.kp,T.flat.bi⟩
 |plan v=>exact⟨_,_,rfl,Mf T B v,T.plan.kp,T.plan.bi⟩
 |rank t=>exact⟨_,_,rfl,Mg T B t,T.rank.kp,T.rank.bi⟩
 |next t=>exact⟨_,_,rfl,Me T B t,T.lZ.kp,T.lZ.bi⟩
 |check t=>exact⟨_,_,rfl,Ir T B t,T.check.kp,T.check.bi⟩
 |spans t=>exact⟨_,_,rfl,IA T B t,T.spans.kp,T.spans.bi⟩
 |mirror t=>exact⟨_,_,rfl,GJ T B t,T.mirror.kp,T.mirror.bi⟩
 |steps t=>exact⟨_,_,rfl,IB T B t,T.steps.kp,T.steps.bi⟩
 |turn=>exact⟨_,_,rfl,Mh T B,T.turn.kp,T.turn.bi⟩
def Up(T:Tx K mg)(B:r0):Sp:=λvs H Q _=>ex4 Q λ(C:Call)(b g:Addr)(st:State) Q=>vs=[.ref b,.int (code C:Nat),.ref g]/\jb T.aL.C H b st/\eZ st/\H g=aa (.lst (((Bp.toks C).drop 1).map V.int))/\TB B H/\
 ∀l H',H l=none->Keeps (bX b B.tb) H H'->TB B H'->O4 T.aL.C b H H' (step st C).1->H' l=aa (.lst ((step st C).2.map V.int))->Q (.ref l) H'
theorem qp:aH ["board","number","given","call","refusal"] ["board","number","given"] (aq rK):=⟨rfl,rfl,rfl,by decide+kernel,rfl,by decide+kernel,by decide+kernel⟩
theorem Cj(T:Tx K mg)(B:r0)(hbest:bw P w K mg base (du P w) 90 T.best.f T.best.fd ["board","given"] (gz T B .best)):bw P w K mg base (du P w) 92 T.lY.f T.lY.fd ["board","number","given"] (Up T B):=by
 refine T.lY.fn.okN qp (λvs H Q E zz2=>by obtain⟨_,_,_,_,e,_⟩:=zz2;rw[e];rfl) λcdv A outer s H vs Q E hr zz3=>?_
 obtain⟨C,b,g,st,e,hb,so,hg,tb,k⟩:=zz3
 subst e
 obtain⟨f,fd,h1,h2,h3,h4⟩:=Py (P:=P) (w:=w) (base:=base) T B hbest C
 refine⟨_,ao (bK (i:=3) qp.nd rfl (Or.inl rfl) (jN xU (zX (v:=.ref T.Fj) rfl T.Sg rfl) (pv 1) (λ_ _=>rfl)))
  (au (Sv (i:=3) (j:=4) qp.nd rfl (Or.inl rfl) rfl rfl rfl T.bx.mg (λ_=>ab (pv 0) (ab (pv 2) aj)))),?_⟩
 refine⟨_,rfl,T.Fj,_,_,_,rfl,rfl,T.Sx H,gT (j:=code C) (v:=.ref f) (by rw[aS,h1];rfl),?_⟩
 refine⟨f,fd,_,_,90,rfl,h2,hr.mono (by decide),h3,h4,_,rfl,_,rfl,b,g,st,rfl,hb,so,hg,tb,?_⟩
 unfold Vbpcau.step at k
 cases q:does st C with
 |ok r=>rw[q]at k;exact λl H' nl kp tb' hb' hl=>k l H' nl kp tb' hb' hl
 |error n=>
  rw[q]at k
  intro C' d H' hit xg no s' hd
  exact⟨C',d,n,rfl,rfl,hit,xg,no,hd,λl hl=>k l _ (s'.free hl) (Keeps.of (s'.trans (aJ.upd hl))) (tb.same (s'.trans (aJ.upd hl))) (O4.same hb (s'.trans (aJ.upd hl))) ag⟩
theorem OO{H H':Hp}{c:Addr}{xs:List V}(h:cJ K H c xs)(k:∀o,H c=aa o->H' c=aa o):cJ K H' c xs:=by
 rcases h with (h|⟨o,h⟩)|h
 ·exact .inl (.inl (k _ h))
 ·exact .inl (.inr ⟨o,k _ h⟩)
 ·exact .inr h
def My(T:Tx K mg)(B:r0):Sp:=λvs H Q _=>ex2 Q λ(c:Addr)(Cs:List Call) Q=>vs=[.ref c]/\c≠B.tb/\cJ K H c ((Cs.flatMap Bp.toks).map V.int)/\Cs.length<=100/\TB B H/\∀l H',TB B H'->H' l=aa (.lst ((jE (Bp.vn r8 Cs)).map V.int))->Q (.ref l) H'
theorem kI:aH ["calls","board","told","place","end","answer"] ["calls"] (aq uN):=⟨rfl,rfl,rfl,by decide+kernel,rfl,by decide+kernel,by decide+kernel⟩
theorem MH(a:List Int)(l:List (List Int)):jE (a::l)=((a.length:Int)::a)++jE l:=rfl
theorem Lp{pre post:List Int}{C:Call}:B6 ((pre++(Bp.toks C++post)).map V.int) (aa (((pre.length:Nat):Int)+1)) (aa ((pre.length+(Bp.toks C).length:Nat):Int))=((Bp.toks C).drop 1).map V.int:=by
 have hl:1<=(Bp.toks C).length:=by rw[oG];exact Ae (bp _)
 have hlen:((pre++(Bp.toks C++post)).map V.int).length=pre.length+((Bp.toks C).length+post.length):=by rw[ae,ai,ai]
 unfold B6
 have e1:HT.Bc ((pre++(Bp.toks C++post)).map V.int).length 0 (aa (((pre.length:Nat):Int)+1))=pre.length+1:=by
  unfold HT.Bc
  rw[hlen]
  simp only
  rw[if_neg (by lia)]
  lia
 have e2:HT.Bc ((pre++(Bp.toks C++post)).map V.int).length ((pre++(Bp.toks C++post)).map V.int).length (aa ((pre.length+(Bp.toks C).length:Nat):Int))=pre.length+(Bp.toks C).length:=by
  unfold HT.Bc
  rw[hlen]
  simp only
  rw[if_neg (by lia)]
  lia
 rw[e1,e2,<-List.map_drop,<-List.map_take]
 congr 1
 rw[List.drop_append,sL (by ac_rfl),BN,show pre.length+1-pre.length=1 by simp,show pre.length+(Bp.toks C).length-(pre.length+1)=((Bp.toks C).drop 1).length by rw[iL];lia]
 rw[List.drop_append_of_le_length hl,List.take_left']
 rfl
theorem Ip(T:Tx K mg)(B:r0)(hbest:bw P w K mg base (du P w) 90 T.best.f T.best.fd ["board","given"] (gz T B .best)):bw P w K mg base (du P w) 94 T.answers.f T.answers.fd ["calls"] (My T B):=by
 refine T.answers.fn.okN kI (λvs H Q E zz4=>by obtain⟨_,_,e,_⟩:=zz4;rw[e];rfl) λcdv A outer s H vs Q E hr zz5=>?_
 obtain⟨c,Cs,e,ctb,hc,hn,tb,k⟩:=zz5
 subst e
 refine⟨_,ao (bK (i:=1) kI.nd rfl (Or.inl rfl) (Ou (dvs:=[]) (ds:=[]) (E:=E0) T.RY (Cf T) (hr.mono (by decide)) rfl T.aL.mg T.oI.bi .nil aP))
  (ao (bK (i:=2) kI.nd rfl (Or.inl rfl) (d3 aj))
  (ao (bK (i:=3) kI.nd rfl (Or.inl rfl) bj)
  (ao (xa dw (cI sh (pv 3) (cg cP rfl T.nQ cz (ab (pv 0) aj)) (eE _))
    (ao (bK (i:=4) kI.nd rfl (Or.inl rfl) (bb (dvs:=[]) (ds:=[]) (E:=E0) (AU T) (hr.mono (by decide)) rfl T.kT.mg T.kT.kp T.kT.bi .nil aP (ab (pv 0) (ab (pv 3) aj))))
    (ao (bK (i:=5) kI.nd rfl (Or.inl rfl) (bb (dvs:=[]) (ds:=[]) (E:=E0) (Cj T B hbest) (hr.mono (by decide)) rfl T.lY.mg T.lY.kp T.lY.bi .nil aP
      (ab (pv 1) (ab (jN ij (pv 0) (pv 3) (λ_ _=>rfl)) (ab (A4 E7 (pv 0) (w6 (cZ gM (pv 3) bj)) (w6 (pv 4))) aj)))))
    (ao (cw (vm cq fL hJ qK (pv 2) (ab (cg cP rfl T.nQ cz (ab (pv 5) aj)) aj)))
    (ao (cw (vm cq eM hU uF (pv 2) (ab (pv 5) aj)))
    (au (bK (i:=3) kI.nd rfl (Or.inl rfl) (pv 4))))))))
  (au (a8 (pv 2)))))),?_⟩
 intro b dxb nb ndb ne
 have s0:=iM (C:=T.aL.C) (fs:=[]) nb ndb ne
 refine⟨b,dxb,rfl,ag,λH1 hb1 bt=>⟨rfl,?_⟩⟩
 have s1:=oF nb ndb ne bt
 refine⟨bp _,λD hD=>?_⟩
 have s2:=s1.trans (aJ.upd (o:=.lst []) hD)
 have nD:H D=none:=s1.free hD
 have cD:∀o,H c=aa o->c≠D:=λo e=>aA e nD
 have cb:∀o,H c=aa o->c≠b:=λo e=>aA e nb
 refine xD (λσ H'=>∃(done rest:List Call)(st:State)(acc:List Int)(y4 y5:Option V),σ=[aa (.ref c),aa (.ref b),aa (.ref D),aa (.int ((done.flatMap Bp.toks).length:Nat)),y4,y5]/\Cs=done++rest/\jb T.aL.C (vd H' D) b st/\eZ st/\TB B H'/\H' D=aa (.lst (acc.map V.int))/\
   acc++jE (Bp.vn st rest)=jE (Bp.vn r8 Cs)/\acc.length<=301*done.length/\(∀o,H c=aa o->H' c=aa o))
  (λσ _=>match σ with|[_,_,_,aa (.int p),_,_]=>((Cs.flatMap Bp.toks).length-p.toNat)|_=>0)
  ⟨[],Cs,r8,[],_,_,rfl,rfl,hb1.same (λz o e=>cA.mpr ⟨aA e hD,aJ.upd hD _ _ e⟩),eZ.start,tb.same s2,ag,rfl,bp _,λo e=>s2 _ _ e⟩ (λσ H' z=>?_) ?_
 ·obtain⟨done,rest,st,acc,y4,y5,rfl,hCs,hbD,so,tb',hDl,hacc,hal,hck⟩:=z
  have hb':jb T.aL.C H' b st:=hbD.same wK
  have hc':=OO hc hck
  refine⟨_,rfl,_,rfl,c,_,rfl,.inl hc',_,_,rfl,rfl,_,rfl,?_⟩
  rw[ae]
  have hlen:(Cs.flatMap Bp.toks).length=(done.flatMap Bp.toks).length+(rest.flatMap Bp.toks).length:=by rw[hCs,dh,ai]
  cases rest with
  |nil=>
   rw[gC]at hlen
   refine Kh (by rw[hlen];simp) ?_
   refine fM ⟨_,rfl,k D _ tb' ?_⟩
   have:jE (Bp.vn st [])=[]:=rfl
   rw[this,aZ]at hacc
   rw[<-hacc];exact hDl
  |cons C rest=>
   have htl:1<=(Bp.toks C).length:=by rw[oG];exact Ae (bp _)
   rw[bT,ai]at hlen
   refine Kj (by rw[hlen];lia) ?_
   have eCs:Cs.flatMap Bp.toks=done.flatMap Bp.toks++(Bp.toks C++rest.flatMap Bp.toks):=by rw[hCs,dh,bT]
   have hc2:=hc'
   rw[eCs]at hc2
   have dlen:done.length+1<=100:=by
    have:=congrArg i3 hCs
    rw[ai,aF]at this
    lia
   refine eD ⟨_,rfl,_,rfl,c,done.flatMap Bp.toks,rest.flatMap Bp.toks,C,rfl,hc2,?_⟩
   have g0:=Ia (pre:=done.flatMap Bp.toks) (post:=rest.flatMap Bp.toks) (C:=C) (i:=0) (v:=(code C:Int)) (by rw[oG];rfl)
   rw[show((((done.flatMap Bp.toks).length:Nat):Int)+((0:Nat):Int))=(((done.flatMap Bp.toks).length:Nat):Int) by rfl]at g0
   refine⟨_,rfl,_,rfl,_,rfl,c,_,_,_,rfl,rfl,hc2,g0,_,rfl,_,rfl,_,_,rfl,rfl,_,rfl,_,rfl,_,rfl,c,_,rfl,hc2,λg hg=>?_⟩
   rw[Lp]
   have s3:=aJ.upd (o:=.lst (((Bp.toks C).drop 1).map V.int)) hg
   refine⟨C,b,g,st,rfl,hb'.same s3,so,ag,tb'.same s3,λl H2 nl kp tb2 hb2 hl=>?_⟩
   obtain⟨so2,hlen2⟩:=LC so C
   have Db:D≠b:=by
    obtain⟨dx',l',hb3,_⟩:=hb'
    exact(eI hb3 hDl (by intro z;cases z)).symm
   have Dtb:D≠B.tb:=by
    obtain⟨ps,h1,_⟩:=tb'
    exact(eI h1 hDl (by intro z;cases z)).symm
   have hD2:=kp _ _ (s3 _ _ hDl) (λz=>z.elim Db Dtb)
   refine⟨_,rfl,.inl ⟨rfl,_,cJ.of hD2⟩,_,rfl,l,_,rfl,.inl (cJ.of hl),D,_,_,rfl,rfl,hD2,?_,?_⟩
   ·rw[ae,sizeLine_eq];lia
   rw[ae]
   have lD:l≠D:=(aA (s3 _ _ hDl) nl).symm
   refine⟨_,rfl,.inl ⟨rfl,_,cJ.of ag⟩,_,rfl,D,l,_,_,rfl,rfl,ag,(by rw[az lD];exact hl),?_,?_⟩
   ·rw[ai,ae,ae]
    show _+1+_<=_
    rw[sizeLine_eq];lia
   rw[ik]
   have acc2:((acc.map V.int++[V.int (((step st C).2.length:Nat):Int)])++(step st C).2.map V.int)=(acc++(((step st C).2.length:Int)::(step st C).2)).map V.int:=by
    rw[aB,dm];rfl
   rw[acc2]
   refine⟨_,rfl,⟨done++[C],rest,(step st C).1,_,aa (.int ((done.flatMap Bp.toks).length+(Bp.toks C).length:Nat)),aa (.ref l),?_,?_,?_,so2,tb2.upd hD2,ag,?_,?_,λo e=>?_⟩,?_⟩
   ·rw[dh,bT,gC,aZ,ai];rfl
   ·rw[hCs,dm];rfl
   ·have h5:=hb2.2 D _ st (s3 _ _ hDl) (hbD.same (Ek s3))
    exact h5.same λz o e=>(by
     obtain⟨e1,e2⟩:=cA.mp e
     exact cA.mpr ⟨e1,by rw[az e1];exact e2⟩)
   ·rw[<-hacc]
    show _=acc++jE ((step st C).2::Bp.vn (step st C).1 rest)
    rw[MH,dm]
   ·rw[ai,ai,aF];show _<=301*(done.length+1);lia
   ·rw[az (cD o e)]
    exact kp _ _ (s3 _ _ (hck o e)) λz=>z.elim (cb o e) ctb
   ·rw[hlen]
    show(done.flatMap Bp.toks).length+((Bp.toks C).length+(rest.flatMap Bp.toks).length)-(((done.flatMap Bp.toks).length+(Bp.toks C).length:Nat):Int).toNat<(done.flatMap Bp.toks).length+((Bp.toks C).length+(rest.flatMap Bp.toks).length)-(((done.flatMap Bp.toks).length:Nat):Int).toNat
    omega
 ·exact λ_ _ _ _ h zy=>by obtain⟨_,e1,_,e2,_,_,e3,e4,_,_,e5,e6,_,e7,q⟩:=zy;exact⟨_,e1,_,e2,_,_,e3,e4,_,_,e5,e6,_,e7,h _ _ q⟩
end
end Bx
end
section
namespace Bx
open PySem PySem.Spec PySem.Calls PyProof.Rows L2
section
variable{X:Cx}{pins:List (Addr×Obj)}{σ:L2.St}{H:Hp}{s:Shared}
theorem PX{Pt:Addr}{ps more:Array Value}{h':Heap}{t':Nat}(I:Inv X pins σ H s)(hP:H Pt=aa (.zg ps))(hx:Heap.ExtBut Pt s.heap h')(hP':h'.get? Pt=aa (oR (ps++more))):
  Inv X pins σ (upd H Pt (.zg (ps++more))) {s with heap:=h',toks:=t'}:=by
 have neN:∀{b:Addr},H b=none->b≠Pt:=λe=>(aA hP e).symm
 refine I.step (g':=s.gens) (d':=s.drawn) (ch:=[]) (λ_ z=>nomatch z) (λb o _ _ _ e n=>hx b o (neN n) e) (λb o _ _ _ e n=>⟨o.slots,hx b o (neN n) e⟩) (λb o _ _ n=>by rw[az (neN n)];exact n)
  (λb o _ e=>?_) (λb xs e=>?_) (λb o u e=>?_) (λb qs e=>?_) (λm hm=>hm.extBut hx (neN I.free)) (λb o e=>?_) I.bare
 ·by_cases hb:b=Pt
  ·exact⟨_,by rw[hb];exact hP'⟩
  ·exact⟨o,hx b o hb e⟩
 ·rw[az (eI e hP (by intro z;cases z))];exact e
 ·rw[az (eI e hP (by intro z;cases z))];exact e
 ·by_cases hb:b=Pt
  ·subst hb
   rw[hP]at e
   cases e
   exact⟨more,ag⟩
  ·exact⟨#[],by rw[az hb,e];simp⟩
 ·by_cases hb:b=Pt
  ·subst hb
   rw[ag]at e
   cases e
   exact hP'
  ·rw[az hb]at e
   refine(I.dO b o e).xq (λc v hc q=>hx c v ?_ q) (λc q=>?_) λc xs q=>?_
   ·rcases hc with z|z
    ·rw[z];exact hb
    ·exact eI z hP (by intro z;cases z)
   ·rw[az (eI q hP (by intro z;cases z))];exact q
   ·rw[az (eI q hP (by intro z;cases z))];exact q
end
structure M4(N:List Str)(sc scope:Scope)(x:Str)(i:Nat):Prop where
 kind:scope.kind=.function
 co:scope.isCoroutine=false
 gen:scope.isGenerator=false
 Io:∀y∈scope.names,y.2≠.cell
 ix:N[i]?=aa x
 par:scope.names.lookup x=aa .local
 one:∀y∈scope.names,y.2=.local->y.1=x
 uniq:∀y∈scope.names,scope.names.lookup y.1=aa y.2
 free:∀y∈scope.names,y.2=.free->sc.names.lookup y.1=aa .cell\/sc.names.lookup y.1=aa .free
abbrev sZ(X:Cx)(scope:Scope):List (Str×Addr):=fg X.env.cells scope.names []
abbrev Eo(X:Cx)(qual:Str)(scope:Scope)(L f:Addr)(c':Value):Env:=PySem.W.envX qual scope L f c' (sZ X scope)
abbrev Vd(X:Cx)(A1:Around)(s:Shared)(H:Hp)(env:Env):Cx:={X with A:=A1.deeper env,vq:=s,Te:=H,env:=env,outer:=X.stack,stack:=env::X.stack,ex:=[],fn:=λ_=>false,calm:=true,pn:=[],xe:=λ_ _=>False}
section
variable{X:Cx}{pins:List (Addr×Obj)}{σ:L2.St}{H:Hp}{s:Shared}{A1:Around}
theorem LR{scope:Scope}{x:Str}{i:Nat}{qual:Str}{f:Addr}{cv:Value}{v:V}{u:Value}{h1:Heap}{tk:Nat}(I:Inv X pins σ H s)(hN:X.N.Nodup)(S:M4 X.N X.env.scope scope x i)(hd:A1.handled=none)(hA:A1.frames=aa X.stack)(rv:RelV v u)
  (hns:h1.Ns s.heap.objs.size λy=>[(x,u)].reverse.lookup y)(hk:∀b o,s.heap.get? b=aa o->h1.get? b=aa o):
  Inv (Vd X A1 s H (Eo X qual scope s.heap.objs.size f cv)) [] (σ.set i (aa v)) H {s with heap:=h1,toks:=tk}:=by
 have hfree:∀y∈scope.names,y.2=.free->∃c,X.env.cells.lookup y.1=aa c:=λy hy e=>by
  rcases S.free y hy e with k|k
  ·exact I.ok.has _ (.inl k)
  ·exact I.ok.has _ (.inr k)
 have cm:∀{y c},(y,c)∈sZ X scope->X.env.cells.lookup y=aa c:=λ{y c} hm=>by
  rcases mL hm with hm|⟨h1,rfl⟩
  ·cases hm
  ·obtain⟨c,hc⟩:=hfree _ h1 rfl
   rw[hc];rfl
 have look:∀{y},scope.names.lookup y=aa .free->∃c,(sZ X scope).lookup y=aa c/\X.env.cells.lookup y=aa c:=λ{y} hl=>by
  have hy:(y,NameKind.free)∈scope.names:=a9 hl
  obtain⟨c',e'⟩:=mem_lookup (pG (cells:=X.env.cells) (acc:=[]) hy)
  exact⟨c',e',cm (a9 e')⟩
 have cme:∀{y c},(sZ X scope).lookup y=aa c->X.env.cells.lookup y=aa c:=λe=>cm (a9 e)
 have noE:∀b:Addr,b∉([]:List Addr):=λb z=>by simp at z
 refine⟨⟨I.ok.mod,S.kind,rfl,rfl,ah _,λy z c e1 e2=>I.ok.inj y z c (cme e1) (cme e2),λy hy=>?_,λy c z _=>b0 (show false=true from z),λ_=>hd,Hv hA,.inr ⟨rfl,rfl⟩,λb z=>absurd z (noE b),I.bs,aX I.ok.MX I.sz,λb _ _=>noE b,λb z=>absurd z (noE b),I.stack,I.z9⟩,
  rfl,I.bare,Un.kept hk,⟨_,hns,λj y av e1 e2 e3=>?_⟩,λy c e=>?_,I.dO.fresh (ah _),λy c e=>I.mN y c (cme e),λp hp=>absurd (show p∈([]:List (Addr×Obj))from hp) (by simp),I.dO.kept hk,?_⟩
 ·rcases hy with hy|hy
  ·exact absurd rfl (S.Io _ (a9 hy))
  ·obtain⟨c,h1,_⟩:=look hy
   exact⟨c,h1⟩
 ·have e3:Pq scope y:=e3
  by_cases hyx:y=x
  ·subst hyx
   have hji:j=i:=wO hN e1 S.ix
   subst hji
   have hj:j<σ.length:=by rw[I.len];exact(aD.mp S.ix).1
   rw[i6 hj]at e2
   have e2:v=av:=bq (bq e2)
   subst e2
   exact⟨u,rv,.inl ⟨S.par,by simp⟩⟩
  ·have hji:i≠j:=λz=>by
    subst z
    have:=S.ix
    rw[e1]at this
    exact hyx (bq this)
   rw[nN hji]at e2
   have hfr:scope.names.lookup y=aa .free:=by
    rcases e3 with k|k|k
    ·exact absurd (S.one _ (a9 k) rfl) hyx
    ·exact absurd rfl (S.Io _ (a9 k))
    ·exact k
   obtain⟨c,h1',h2'⟩:=look hfr
   have hvis:Pq X.env.scope y:=(S.free _ (a9 hfr) rfl).elim (λk=>.inr (.inl k)) (λk=>.inr (.inr k))
   obtain⟨m,hn,hl⟩:=I.loc
   obtain⟨w,r,q⟩:=hl j y av e1 e2 hvis
   refine⟨w,r,.inr ⟨.inr hfr,c,h1',?_⟩⟩
   rcases q with ⟨k,_⟩|⟨_,c',e',z⟩
   ·have k:X.env.scope.names.lookup y=aa .local:=k
    rcases S.free _ (a9 hfr) rfl with k'|k'<;>rw[show X.env.scope.names.lookup y=_ from k']at k<;>cases k
   ·rw[h2']at e';cases e'
    exact z.keeps hk
 ·obtain⟨w,z⟩:=I.cell y c (cme e)
  exact⟨w,z.keeps hk⟩
 ·show(σ.set i (aa v)).length=X.N.length
  rw[List.length_set];exact I.len
end
end Bx
end
section
namespace Bx
open PySem PySem.Spec PySem.Calls PyProof.Rows L2
section
variable{X:Cx}{pins:List (Addr×Obj)}{σ:L2.St}{H:Hp}{s:Shared}{A1:Around}
theorem N3{scope:Scope}{x:Str}{i k:Nat}{name qual:Str}{params:Arguments}{body:Expr}{pm ctv:Value}{c' f:Addr}{v:V}{u:Value}{t:TE}{Q:VK}{E:Value->Shared->Prop}(I:Inv X pins σ H s)(hN:X.N.Nodup)(S:M4 X.N X.env.scope scope x i)(hr:iK k A1)(hA:A1.frames=aa X.stack)
  (hf:s.heap.get? f=aa (nA name qual params body scope (sZ X scope) pm c' ctv))(hcd:s.heap.CodeRec (.ref c') qual)
  (hbind:bindArgs (M9 name qual params body scope (sZ X scope) pm (.ref c') ctv) ⟨[u],[]⟩=pure [(x,u)])(rv:RelV v u)
  (hb:PE (Vd X A1 s H (Eo X qual scope s.heap.objs.size f (.ref c'))) body t)(q:t (σ.set i (aa v)) H Q):wpAny (model X.prog X.w) A1 (call (.ref f) [u]) (EP X pins σ Q) E s:=by
 refine wpAny_call (PySem.W.kla_callFunE hr.depth hf rfl S.co S.gen rfl hcd ?_)
 rw[hbind]
 refine wpAny_pure (wpAny_newFunctionEnv S.Io (λy hy=>?_) (λh1 hns hsb=>?_) S.kind)
 ·rw[aK.mp hy];exact S.par
 have hk:∀b o,s.heap.get? b=aa o->h1.get? b=aa o:=λb o e=>hsb.extBut b o (bJ (aQ e)) (aw _ e)
 refine⟨I.nolimit.keeps hk,?_⟩
 show codeAny _ _ (.expr body (Eo X qual scope s.heap.objs.size f (.ref c'))) _ _
 have J:=LR (qual:=qual) (f:=f) (cv:=.ref c') (tk:=s.toks+1) I hN S hr.hd hA rv hns hk
 refine PySem.W.kla_codeExpr (wpAny_mono (hb [] _ _ H _ J q) (λv' s' hq=>?_) λ_ _ z=>z.elim)
 obtain⟨y,H',J',r',q'⟩:=hq
 exact I.after ⟨y,H',J'.os,J'.bare,J'.base,J'.dO,r',q'⟩
def N1(f:Addr)(o:Obj):HO:=.ext λh=>h.get? f=aa o
theorem Kn{P:Program}{w:World}{H:Hp}{h:Heap}{f:Addr}{o:Obj}(e:h.get? f=aa o):gb P w H h f (N1 f o):=⟨e,⟨o,e⟩,λ_ _ p k=>k _ p⟩
theorem Nr{P:Program}{w:World}{H:Hp}{h:Heap}{c:Addr}{q:Str}(e:h.CodeRec (.ref c) q):gb P w H h c (FQ c q):=by
 obtain⟨c',o,vs,t,e1,e2,e3,e4⟩:=id e
 cases e1
 refine⟨e,⟨o,e2⟩,λh1 h2 p k=>?_⟩
 obtain⟨c'',o',vs',t',f1,f2,f3,f4⟩:=p
 cases f1
 exact⟨_,o',vs',t',rfl,k _ f2,f3,f4⟩
theorem N5{scope:Scope}{params:Arguments}{body:Expr}{lpos:Pos}{c:Addr}{B:r0}{bm:Addr}{ob:Obj}{E:Value->Shared->Prop}{Q:Value->Shared->Prop}(I:Inv X pins σ H s)
  (hfree:∀y∈scope.names,y.2=.free->X.env.scope.names.lookup y.1=aa .cell\/X.env.scope.names.lookup y.1=aa .free)(hcode:X.env.code=.ref c)(hck:jr X.K c B.tb=true)(hpos:B.pos=lpos)(hq:B.q=X.env.qual++"<lambda>")
  (hdef:defaultsOf params X.env=([],[]))(hbm:X.mg "__builtins__"=aa (.ref bm))(hbn:bm≠builtinsNs)(hbo:X.base.get? bm=aa ob)(hbc:ob.cls=.type "module")(hbd:ob.dict=aa builtinsNs)(hbp:ob.data=.plain)(tb:TB B H)
  (h:∀f c' ctv H' s',Inv X pins σ H' s'->H f=none->H' f=aa (N1 f (nA "<lambda>" B.q params body scope (sZ X scope) ((X.mg "__name__").getD .none) c' ctv))->H' c'=aa (FQ c' B.q)->TB B H'->Keeps (λz=>z=B.tb) H H'->Q (.ref f) s'):
  wpAny (model X.prog X.w) X.A (eval (.Lambda params body scope lpos) X.env) Q E s:=by
 subst hpos
 obtain⟨ps,hP,htb⟩:=tb
 have gP:s.heap.get? B.tb=aa (oR ps):=I.dO _ _ hP
 have hcl:closureFor scope X.env=pure (sZ X scope):=Ao λy hy e=>by
  rcases hfree y hy e with k|k
  ·exact I.ok.has _ (.inl k)
  ·exact I.ok.has _ (.inr k)
 have hg:s.heap.Ns mainGlobals X.mg:=I.mod.glob.keeps I.bk
 have CH:=Hz I.vh hck
 have nbm:bm≠B.tb:=λz=>by
  have:=(I.bs _ _ hbo).2
  rw[z,hP]at this;cases this
 have nmg:mainGlobals≠B.tb:=λz=>by
  obtain⟨o,es,ep,e,_⟩:=I.mod.glob
  have:=(I.bs _ _ e).2
  rw[z,hP]at this;cases this
 have nbg:bm≠mainGlobals:=λz=>by
  obtain⟨o,es,ep,e,d,_⟩:=I.mod.glob
  rw[z,e]at hbo
  cases hbo
  rw[d]at hbp;cases hbp
 have hb:s.heap.BuiltinsAt X.mg B.tb:=⟨bm,ob,hbm,hbn,nbg,nbm,I.bk _ _ hbo,hbc,hbd,hbp⟩
 refine PySem.W.kla_eval hdef ?_
 rw[<-hq]
 rcases htb with rfl|⟨c0,rfl,hc0⟩
 ·
  refine PySem.W.kla_makeFunction (ps:=#[]) hcl I.ok.glob hg hcode CH gP trivial rfl nmg hb λc' ctv h' tk hx hge hlt hrec htb'=>?_
  have I1:=PX (t':=tk) I hP hx htb'
  have nc:H c'=none:=I.dO.fresh hge
  have fc':c'≠B.tb:=(aA hP nc).symm
  have ap:=I.apart hge
  have n1:upd H B.tb (.zg (#[]++#[rawInt B.pos.line,rawInt B.pos.col,.ref c'])) c'=none:=by rw[az fc'];exact nc
  have I2:=I1.OX n1 ap.1 ap.2.1 ap.2.2.1 ap.2.2.2 (o:=FQ c' B.q) (Nr hrec)
  have hsz:s.heap.objs.size<=h'.objs.size:=aX hge (lU hlt)
  have nf:H h'.objs.size=none:=I.dO.fresh hsz
  have I3:=I2.laid (a:=h'.objs.size) (o:=N1 h'.objs.size (nA "<lambda>" B.q params body scope (sZ X scope) ((X.mg "__name__").getD .none) c' ctv)) (t':=tk) (λb u e=>aw _ e) (ah _) (Kn (bh _ rfl))
  have cf:c'≠h'.objs.size:=bJ hlt
  have tf:B.tb≠h'.objs.size:=aA hP nf
  refine h _ c' ctv _ _ I3 nf ag (by rw[az cf,ag]) ⟨_,by rw[az tf,az fc'.symm,ag];rfl,.inr ⟨c',rfl,by rw[az cf,ag]⟩⟩ λz o e n=>?_
  rw[az (aA e nf),az (aA e nc),az n];exact e
 ·refine PySem.W.kla_makeFunctionHit (cv:=.ref c0) hcl I.ok.glob hg hcode CH gP ?_ ?_ hb λctv h' tk hk hsz=>?_
  ·exact trivial
  ·show(if(B.pos.line:Int)==(B.pos.line:Int)&&(B.pos.col:Int)==(B.pos.col:Int)then aa (Value.ref c0)else _)=_
   rw[if_pos (by simp)]
  ·have nf:H h'.objs.size=none:=I.dO.fresh hsz
   have I3:=I.laid (h':=h'.push (nA "<lambda>" B.q params body scope (sZ X scope) ((X.mg "__name__").getD .none) c0 ctv)) (a:=h'.objs.size) (o:=N1 h'.objs.size (nA "<lambda>" B.q params body scope (sZ X scope) ((X.mg "__name__").getD .none) c0 ctv)) (t':=tk) (λb u e=>aw _ (hk b u e)) hsz (Kn (bh _ rfl))
   refine h _ c0 ctv _ _ I3 nf ag (by rw[az (aA hc0 nf)];exact hc0) (TB.same ⟨_,hP,.inr ⟨c0,rfl,hc0⟩⟩ (aJ.upd nf)) (Keeps.of (aJ.upd nf))
end
end Bx
end
section
namespace Bx
open PySem PySem.Spec PySem.Calls PyProof.Rows L2
def Ki(a l:Addr)(j:Nat):HO:=.ext λh=>h.IsListIter a l j
theorem Ie{P:Program}{w:World}{H:Hp}{h:Heap}{a l:Addr}{j:Nat}(e:h.IsListIter a l j):gb P w H h a (Ki a l j):=by
 obtain⟨o,e1,e2⟩:=id e
 exact⟨e,⟨o,e1⟩,λh1 h2 zy k=>by obtain⟨o',p1,p2⟩:=zy;exact⟨o',k _ p1,p2⟩⟩
section
variable{X:Cx}{pins:List (Addr×Obj)}{σ:L2.St}
theorem uS{H:Hp}{s:Shared}{S:Addr}{a b:Int}(I:Inv X pins σ H s)(h:H S=aa (.lst [.int a,.int b])):∃ta tb n,s.heap.get? S=aa {cls:=.type "list",data:=.seq #[.int a ta,.int b tb] n}:=by
 obtain⟨_,its,n,rv,e⟩:=I.dO S _ h
 cases rv with
 |cons r1 r2=>
  cases r2 with
  |cons r3 r4=>
   cases r4
   obtain⟨ta,rfl⟩:=r1
   obtain⟨tb,rfl⟩:=r3
   exact⟨ta,tb,n,e⟩
theorem Ga{H:Hp}{s:Shared}{l:Addr}{L:List Nat}{j:Nat}{v:Value}{its:List Value}(rv:Vals (nI L) its)(hP:its.toArray[j]?=aa v):∃z t,L[j]?=aa z/\v=.int (z:Nat) t:=by
 have hv:its[j]?=aa v:=by simpa using hP
 have hj:j<(nI L).length:=by rw[rv.length];exact(aD.mp hv).1
 obtain⟨z,h1,h2⟩:=x3 (cC hj)
 obtain⟨u,h3,h4⟩:=rv.get (cC hj)
 rw[hv]at h3
 cases h3
 rw[h2]at h4
 obtain⟨t,h4⟩:=h4
 exact⟨z,t,h1,h4⟩
def Tn(L:List Nat)(kv:Nat->Int)(j i z:Nat):Prop:=L[i]?=aa z/\i<=j/\∀j' z',j'<=j->L[j']?=aa z'->kv z<=kv z'/\(j'<i->kv z<kv z')
theorem Oe{l q S It:Addr}{L:List Nat}{kv:Nat->Int}{H1:Hp}{R:Result->Shared->Prop}(hh:X.A.handled=none)
  (turn:∀(z:Nat)(H2:Hp)(s2:Shared)(t:Tok),z∈L->aJ H1 H2->Inv X pins σ H2 s2->wpAny (model X.prog X.w) X.A.in1 (call (.ref q) [.int (z:Nat) t]) (EP X pins σ λv H3=>v=.int (kv z)/\aJ H2 H3) (λ_ _=>False) s2)
  (hl:H1 l=aa (.lst (nI L)))(nS:H1 S=none)(nI':H1 It=none)(hSI:S≠It)(ap:X.vq.heap.objs.size<=It/\It≠X.env.locals/\(∀x c,X.env.cells.lookup x=aa c->c≠It)/\∀p∈X.pn++pins,p.1≠It)
  (hR:∀(z i:Nat)(H2:Hp)(s2:Shared)(t:Tok),Tn L kv (L.length-1) i z->aJ H1 H2->Inv X pins σ H2 s2->R (.ok (.ret (.int (z:Nat) t))) s2):
  ∀(r j i z:Nat)(H2:Hp)(s2:Shared),L.length-(j+1)=r->j+1<=L.length->Inv X pins σ H2 s2->aJ H1 H2->H2 S=aa (.lst [.int (z:Nat),.int (kv z)])->H2 It=aa (Ki It l (j+1))->Tn L kv j i z->
   codeAny (model X.prog X.w) X.A (.builtin "min.loop" ⟨[.ref It,.ref q,.ref S],[]⟩) R s2:=by
 have hname:(toString "min"++toString ".loop":String)="min.loop":=by decide
 have hlI:l≠It:=aA hl nI'
 have hlS:l≠S:=aA hl nS
 intro r
 induction r with
 |zero=>
  intro j i z H2 s2 hr hj I sH hS hit hb
  have hin:j+1=L.length:=by lia
  obtain⟨ta,tb,n,gS⟩:=uS I hS
  obtain⟨its,rv,pl,_⟩:=I.list (cJ.of (sH _ _ hl))
  have hsz:its.toArray.size=L.length:=by rw[aO,<-rv.length,jQ]
  have W:=wq (prog:=X.prog) (w:=X.w) (A:=X.A.in1) hh It l hlI its.toArray
  have gI:s2.heap.IsListIter It l (j+1):=(I.dO It _ hit).1
  refine codeAny_builtin rb ?_
  rw[uy eK _]
  show wpAny _ X.A.in1 (seqItems? (.ref S)>>=_) _ _ _
  refine wpAny_bind (wpAny_seqItems gS rfl ?_)
  show wpAny _ X.A.in1 (tryCatch (pyNext (.ref It)) _>>=_) _ _ _
  refine wpAny_bind (wpAny_tryCatch (W.done _ _ _ ⟨by rw[hsz,<-hin];exact gI,pl.isList⟩ λh' tk' hk'=>?_))
  have I0:=I.Fm hit
  have I1:=I0.turned (t':=tk') (h':=h') (it:=It) (λb o hb e=>hk' b o (by simpa using hb) e) tq ap.2.1 (.inr ap.1) ap.2.2.1 ap.2.2.2
  have hS1:vd H2 It S=aa (.lst [.int (z:Nat),.int (kv z)]):=by rw[oV hSI];exact hS
  obtain⟨ta',tb',n',gS'⟩:=uS I1 hS1
  show wpAny _ X.A.in1 (updateSeq S (λ_=>#[])>>=_) _ _ _
  refine wpAny_bind ?_
  refine wpAny_updateSeq gS' rfl (wpAny_bind (wpAny_letGo (wpAny_pure ?_)))
  have I2:=I1.L5 (its:=[.int (z:Nat) ta',.int (kv z) tb']) (its':=[]) (f:=λ_=>#[]) (t':=tk') hS1 gS' rfl .nil (bp _)
  refine hR z i _ _ ta ?_ (λb o e=>?_) I2
  ·rw[show L.length-1=j by lia];exact hb
  ·rw[az (aA e nS),oV (aA e nI')];exact sH _ _ e
 |succ r ih=>
  intro j i z H2 s2 hr hj I sH hS hit hb
  have hlt:j+1<L.length:=by omega
  obtain⟨ta,tb,n,gS⟩:=uS I hS
  obtain⟨its,rv,pl,_⟩:=I.list (cJ.of (sH _ _ hl))
  have hsz:its.toArray.size=L.length:=by rw[aO,<-rv.length,jQ]
  have W:=wq (prog:=X.prog) (w:=X.w) (A:=X.A.in1) hh It l hlI its.toArray
  have gI:s2.heap.IsListIter It l (j+1):=(I.dO It _ hit).1
  refine codeAny_builtin rb ?_
  rw[uy eK _]
  show wpAny _ X.A.in1 (seqItems? (.ref S)>>=_) _ _ _
  refine wpAny_bind (wpAny_seqItems gS rfl ?_)
  show wpAny _ X.A.in1 (tryCatch (pyNext (.ref It)) _>>=_) _ _ _
  refine wpAny_bind (wpAny_tryCatch (W.item (j+1) _ _ _ (by rw[hsz];exact hlt) ⟨gI,pl.isList⟩ λv h' tk' hP hst' hk'=>?_))
  obtain⟨z2,t2,hz2,rfl⟩:=Ga (H:=H2) (s:=s2) (l:=l) rv hP
  have I1:=I.write (t':=tk') (o:=Ki It l (j+1+1)) (x:=It) (e:=It) (by rw[hit];trivial) (.inl rfl) (λb u hb q=>hk' b u (by simpa using hb) q) (let⟨o,e,_⟩:=hst'.1;⟨o,e⟩) (Ie hst'.1)
  have s1:aJ H1 (upd H2 It (Ki It l (j+1+1))):=λb o e=>by rw[az (aA e nI')];exact sH _ _ e
  show wpAny _ X.A.in1 (tryCatch (holding [_] (call (.ref q) [_])) _>>=_) _ _ _
  refine wpAny_bind (wpAny_tryCatch (wpAny_holding (wpAny_mono (turn z2 _ _ t2 (bY hz2) s1 I1) (λx s'' he=>?_) λ_ _ hF=>hF.elim)))
  obtain⟨y,H3,I3,r3,rfl,s3⟩:=he
  obtain⟨t3,rfl⟩:=r3
  show wpAny _ X.A.in1 (tryCatch (holding [_,.int (kv z2) t3] (richCompare .Lt (.int (kv z2) t3) (.int (kv z) tb)>>=_)) _>>=_) _ _ _
  refine wpAny_bind (wpAny_tryCatch (wpAny_holding (wpAny_bind (CmpOf.ints_lt (prog:=X.prog) (w:=X.w) (A:=X.A.in1) (P:=λi v=>∃t,v=.int (if i=0 then kv z2 else kv z) t) (λi=>if i=0 then kv z2 else kv z) (λi v h=>h) 0 1 _ _ _ _ _ ⟨t3,rfl⟩ ⟨tb,rfl⟩ ?_))))
  refine wpAny_bind (wpAny_holding (wpAny_truthy_bool ?_))
  refine wpAny_bind (wpAny_letGo (wpAny_pure ?_))
  have hS3:H3 S=aa (.lst [.int (z:Nat),.int (kv z)]):=s3 _ _ (by rw[az hSI];exact hS)
  have hI3:H3 It=aa (Ki It l (j+1+1)):=s3 _ _ ag
  have sA:=s1.trans s3
  show wpAny _ X.A.in1 (if decide (kv z2<kv z)=true then _ else _) _ _ _
  by_cases hb':kv z2<kv z
  ·simp only[hb',decide_true,if_true]
   obtain⟨ta',tb',n',gS'⟩:=uS I3 hS3
   refine wpAny_bind ?_
   refine wpAny_updateSeq gS' rfl (wpAny_bind (wpAny_letGo ?_))
   rw[hname]
   have I4:=I3.L5 (its:=[.int (z:Nat) ta',.int (kv z) tb']) (its':=[.int (z2:Nat) t2,.int (kv z2) t3]) (f:=λ_=>#[.int (z2:Nat) t2,.int (kv z2) t3]) (ys:=[.int (z2:Nat),.int (kv z2)]) (t':=s''.toks) hS3 gS' rfl (.cons ⟨t2,rfl⟩ (.cons ⟨t3,rfl⟩ .nil)) (by show 2<=sizeLine;decide)
   refine wpAny_pure ⟨plainId_quiet eK _,ih (j+1) (j+1) z2 (upd H3 S (.lst [.int (z2:Nat),.int (kv z2)])) _ (by lia) hlt I4 (λb o e=>by rw[az (aA e nS)];exact sA _ _ e) ag (by rw[az hSI.symm];exact hI3) ⟨hz2,ah _,λj' z' hj' hz'=>?_⟩⟩
   by_cases e:j'=j+1
   ·subst e
    rw[hz2]at hz'
    cases hz'
    exact⟨by simp,λh=>absurd h (di _)⟩
   ·have q:=(hb.2.2 j' z' (by lia) hz').1
    exact⟨by lia,λ_=>by lia⟩
  ·simp only[hb',decide_false,ft,if_false]
   refine wpAny_bind (wpAny_letGo ?_)
   rw[hname]
   refine wpAny_pure ⟨plainId_quiet eK _,ih (j+1) i z H3 _ (by lia) hlt I3 sA hS3 hI3 ⟨hb.1,by have:=hb.2.1;ac_rfl,λj' z' hj' hz'=>?_⟩⟩
   by_cases e:j'=j+1
   ·subst e
    rw[hz2]at hz'
    cases hz'
    exact⟨by lia,λh=>absurd h (by have:=hb.2.1;lia)⟩
   ·exact hb.2.2 j' z' (by lia) hz'
theorem Qa{l q:Addr}{L:List Nat}{kv:Nat->Int}{H1:Hp}{s1:Shared}{Q:Value->Shared->Prop}{E:Value->Shared->Prop}(I:Inv X pins σ H1 s1)(hh:X.A.handled=none)
  (turn:∀(z:Nat)(H2:Hp)(s2:Shared)(t:Tok),z∈L->aJ H1 H2->Inv X pins σ H2 s2->wpAny (model X.prog X.w) X.A.in1 (call (.ref q) [.int (z:Nat) t]) (EP X pins σ λv H3=>v=.int (kv z)/\aJ H2 H3) (λ_ _=>False) s2)
  (hl:H1 l=aa (.lst (nI L)))(hne:0<L.length)
  (hQ:∀(z i:Nat)(H2:Hp)(s2:Shared)(t:Tok),Tn L kv (L.length-1) i z->aJ H1 H2->Inv X pins σ H2 s2->Q (.int (z:Nat) t) s2):
  wpAny (model X.prog X.w) X.A (call (.builtin "min") [.ref l] [(cj "key",.ref q)]) Q E s1:=by
 have hname:(toString "min"++toString ".loop":String)="min.loop":=by decide
 obtain⟨its,rv,pl,_⟩:=I.list (cJ.of hl)
 have hsz:its.toArray.size=L.length:=by rw[aO,<-rv.length,jQ]
 refine kmk_tree PySem.F.kind_min PySem.F.plain_min PySem.F.entry_min (kmk_min_key _ _) ?_
 show wpAny _ X.A.in1 (uV "min" ["key","default"] 0 ⟨[],[(cj "key",.ref q)]⟩>>=_) _ _ s1
 refine wpAny_bind (wpAny_of_eq (show uV "min" ["key","default"] 0 ⟨[],[(cj "key",.ref q)]⟩=pure [aa (.ref q),none]from rfl) ?_)
 refine wpAny_bind (wpAny_pure ?_)
 refine wpAny_bind (wpAny_pyIter_list pl.isList ?_)
 refine wpAny_bind (wpAny_newList ?_ (bp _))
 rw[hname]
 refine wpAny_pure ⟨plainId_quiet eK _,?_⟩
 have nI':H1 s1.heap.objs.size=none:=I.dO.fresh (ah _)
 have ap:=I.apart (ah s1.heap.objs.size)
 have J1:=I.laid (a:=s1.heap.objs.size) (o:=Ki s1.heap.objs.size l 0) (t':=s1.toks) (h':=s1.heap.push {cls:=.type "list_iterator",data:=.fields #[.ref l,.int 0 0]}) (λb u e=>aw _ e) (ah _) (Ie ⟨_,bh _ rfl,rfl,rfl⟩)
 have J2:=J1.T6 (its:=[]) (ys:=[]) (t':=s1.toks) .nil (bp _)
 have hsp:(s1.heap.push {cls:=.type "list_iterator",data:=.fields #[.ref l,.int 0 0]}).objs.size=s1.heap.objs.size+1:=cu ..
 generalize hIt:s1.heap.objs.size=It at*
 generalize hSd:(s1.heap.push {cls:=.type "list_iterator",data:=.fields #[.ref l,.int 0 0]}).objs.size=S at*
 have hSI:S≠It:=by lia
 have nS:H1 S=none:=I.dO.fresh (by lia)
 have hlI:l≠It:=aA hl nI'
 have hlS:l≠S:=aA hl nS
 have s2:aJ H1 (upd (upd H1 It (Ki It l 0)) S (.lst [])):=λb o e=>by rw[az (aA e nS),az (aA e nI')];exact e
 have gI:Heap.IsListIter ((s1.heap.push {cls:=.type "list_iterator",data:=.fields #[.ref l,.int 0 0]}).push {cls:=.type "list",data:=.seq #[]}) It l 0:=(J2.dO It (Ki It l 0) (by rw[az hSI.symm,ag])).1
 obtain⟨its',rv',pl',_⟩:=J2.list (cJ.of (s2 _ _ hl))
 have hsz':its'.toArray.size=L.length:=by rw[aO,<-rv'.length,jQ]
 have gS:Heap.get? ((s1.heap.push {cls:=.type "list_iterator",data:=.fields #[.ref l,.int 0 0]}).push {cls:=.type "list",data:=.seq #[]}) S=aa {cls:=.type "list",data:=.seq #[]}:=by rw[<-hSd];exact bh _ rfl
 have W:=wq (prog:=X.prog) (w:=X.w) (A:=X.A.in1) hh It l hlI its'.toArray
 refine codeAny_builtin rb ?_
 rw[uy eK _]
 show wpAny _ X.A.in1 (seqItems? (.ref S)>>=_) _ _ _
 refine wpAny_bind (wpAny_seqItems gS rfl ?_)
 show wpAny _ X.A.in1 (tryCatch (pyNext (.ref It)) _>>=_) _ _ _
 refine wpAny_bind (wpAny_tryCatch (W.item 0 _ _ _ (by rw[hsz'];exact hne) ⟨gI,pl'.isList⟩ λv h' tk' hP hst' hk'=>?_))
 obtain⟨z2,t2,hz2,rfl⟩:=Ga (H:=H1) (s:=s1) (l:=l) rv' hP
 have hit:upd (upd H1 It (Ki It l 0)) S (.lst []) It=aa (Ki It l 0):=by rw[az hSI.symm,ag]
 have J3:=J2.write (t':=tk') (o:=Ki It l 1) (x:=It) (e:=It) (by rw[hit];trivial) (.inl rfl) (λb u hb q=>hk' b u (by simpa using hb) q) (let⟨o,e,_⟩:=hst'.1;⟨o,e⟩) (Ie hst'.1)
 have s3:aJ H1 (upd (upd (upd H1 It (Ki It l 0)) S (.lst [])) It (Ki It l 1)):=λb o e=>by rw[az (aA e nI')];exact s2 _ _ e
 show wpAny _ X.A.in1 (tryCatch (holding [_] (call (.ref q) [_])) _>>=_) _ _ _
 refine wpAny_bind (wpAny_tryCatch (wpAny_holding (wpAny_mono (turn z2 _ _ t2 (bY hz2) s3 J3) (λx s'' he=>?_) λ_ _ hF=>hF.elim)))
 obtain⟨y,H3,I3,r3,rfl,s4⟩:=he
 obtain⟨t3,rfl⟩:=r3
 have hS3:H3 S=aa (.lst []):=s4 _ _ (by rw[az hSI,ag])
 have hI3:H3 It=aa (Ki It l 1):=s4 _ _ ag
 have sA:=s3.trans s4
 obtain⟨_,its3,n3,rv3,gS3⟩:=I3.dO S _ hS3
 cases rv3
 show wpAny _ X.A.in1 (updateSeq S (λ_=>#[_,.int (kv z2) t3])>>=_) _ _ _
 refine wpAny_bind ?_
 refine wpAny_updateSeq gS3 rfl ?_
 rw[hname]
 have I4:=I3.L5 (its:=[]) (its':=[.int (z2:Nat) t2,.int (kv z2) t3]) (f:=λ_=>#[.int (z2:Nat) t2,.int (kv z2) t3]) (ys:=[.int (z2:Nat),.int (kv z2)]) (t':=s''.toks) hS3 gS3 rfl (.cons ⟨t2,rfl⟩ (.cons ⟨t3,rfl⟩ .nil)) (by show 2<=sizeLine;decide)
 refine wpAny_pure ⟨plainId_quiet eK _,Oe hh turn hl nS nI' hSI ap (λz i H2 s2 t h1 h2 h3=>hQ z i H2 s2 t h1 h2 h3) _ 0 0 z2 (upd H3 S (.lst [.int (z2:Nat),.int (kv z2)])) _ rfl hne I4 (λb o e=>by rw[az (aA e nS)];exact sA _ _ e) ag (by rw[az hSI.symm];exact hI3) ⟨hz2,ah _,λj' z' hj' hz'=>?_⟩⟩
 obtain rfl:j'=0:=by lia
 rw[hz2]at hz'
 cases hz'
 exact⟨Int.le_refl _,λh=>absurd h (di _)⟩
end
end Bx
end
section
namespace Bx
open PySem PySem.Spec PySem.Calls PyProof.Rows L2
open Vbpcau (State Span Plan Plans Alg pressing tabOf partOf sumOver whole firstClash firstFew told does)
def Q4(te:TE)(B:r0)(i:Nat)(tl:TE):TE:=λσ H Q=>gJ te mq σ H (kQ Q λvs H1 Q=>ex3 Q λ(l:Addr)(L:List Nat)(kv:Nat->Int) Q=>vs=[.ref l]/\H1 l=aa (.lst (nI L))/\0<L.length/\TB B H1/\
 (∀(z:Nat)(H2:Hp),z∈L->Keeps (λy=>y=B.tb) H1 H2->tl (σ.set i (aa (.int (z:Nat)))) H2 λv H3=>v=.int (kv z)/\aJ H2 H3)/\
 ∀(z i':Nat)(H':Hp),Tn L kv (L.length-1) i' z->Keeps (λy=>y=B.tb) H1 H'->TB B H'->Q (.int (z:Nat)) H')
theorem Mq{X:Cx}{p pos lpos kp:Pos}{e:Expr}{te tl:TE}{params:Arguments}{body:Expr}{scope:Scope}{x:Str}{i k:Nat}{c bm:Addr}{ob:Obj}{B:r0}(hg:Gl X "min")(hm:X.mg "min"=none)(he:PE X e te)(hN:X.N.Nodup)(S:M4 X.N X.env.scope scope x i)(hr:iK (k+1) X.A)
  (hcode:X.env.code=.ref c)(hck:jr X.K c B.tb=true)(hpos:B.pos=lpos)(hq:B.q=X.env.qual++"<lambda>")(hdef:defaultsOf params X.env=([],[]))
  (hbm:X.mg "__builtins__"=aa (.ref bm))(hbn:bm≠builtinsNs)(hbo:X.base.get? bm=aa ob)(hbc:ob.cls=.type "module")(hbd:ob.dict=aa builtinsNs)(hbp:ob.data=.plain)
  (hbind:∀(clos:List (Str×Addr))(pm ctv:Value)(c':Addr)(u:Value),bindArgs (M9 "<lambda>" B.q params body scope clos pm (.ref c') ctv) ⟨[u],[]⟩=pure [(x,u)])
  (hb:∀(s:Shared)(H:Hp)(f c':Addr),PE (Vd X X.A.in1 s H (Eo X B.q scope s.heap.objs.size f (.ref c'))) body tl)
  (hst0:starEach [e] X.env=(false,eval e X.env)::starEach [] X.env:=by rfl)(hst:backTo pos (starEach [e] X.env)=(false,eval e X.env)::backTo pos (starEach [] X.env):=by rfl)(hpl:(backTo pos (starEach [e] X.env)).any (·.1)=false:=by rfl):
  PE X (.Call (.Name "min" p) [e] [⟨aa "key",.Lambda params body scope lpos,kp⟩] pos) (Q4 te B i tl):=by
 intro pins s σ H Q I h
 refine wpAny_Call_Name_kw (xX I hg hm (show bootBuiltins "min"=aa (.builtin "min") by decide+kernel) ?_ (by decide) (by decide))
 refine callWith_kw (fH (ab he aj hst0 pos pins s σ H _ I h) λus s1 zy=>?_) hst hpl rfl rfl
 obtain⟨vs,H1,I1,r1,q1⟩:=zy
 obtain⟨l,L,kv,rfl,hl,hne,tb,turn,fin⟩:=q1
 obtain⟨u,rfl,ru⟩:=r1.one
 obtain rfl:u=Value.ref l:=ru
 refine kws_cons (N5 I1 S.free hcode hck hpos hq hdef hbm hbn hbo hbc hbd hbp tb λf c' ctv H2 s2 I2 nf hf hc tb2 kp2=>kws_nil ?_)
 show wpAny _ _ (call (.builtin "min") [.ref l] [(cj "key",.ref f)]) _ _ _
 have ntb:l≠B.tb:=by
  obtain⟨ps,h1,_⟩:=tb
  exact eI hl h1 (by intro z;cases z)
 refine Qa I2 hr.hd (λz H3 s3 t hz sH I3=>?_) (kp2 _ _ hl ntb) hne λz i' H3 s3 t hlst sH I3=>⟨.int (z:Nat),H3,I3,⟨t,rfl⟩,fin z i' H3 hlst (kp2.trans (Keeps.of sH)) (tb2.same sH)⟩
 exact N3 (A1:=X.A.in1) I3 hN S hr.in1 I3.ok.frames (I3.dO f (N1 f _) (sH _ _ hf)).1 (I3.dO c' (FQ c' B.q) (sH _ _ hc)).1 (hbind _ _ _ _ _) (v:=.int (z:Nat)) ⟨t,rfl⟩ (hb s3 H3 f c') (turn z H3 hz (kp2.trans (Keeps.of sH)))
theorem Wl{P:Program}{w:World}{K:af}{mg:Str->Option Value}{base:Heap}{x qual:Str}{st:Stmt}{f:Addr}{fd:FuncData}{N ps:List Str}{k:Nat}{sp:Sp}(F:K6 K x qual st f fd)(S:aH N ps (aq st))(len:∀vs H Q E,sp vs H Q E->vs.length=ps.length)
  (hbody:∀(cdv:Value)(A:Around)(outer:List Env)(s:Shared)(H:Hp)(vs:List V)(Q:VK)(E:XK),fd.code=cdv->iK k (A.deeper (envOfC qual (aq st) s.heap.objs.size f cdv))->sp vs H Q E->
    ∃t,DU (Nw P w K mg base N qual (aq st) f cdv A outer s H E).Pj (ig st) t/\t {nx:=λ_ H'=>Q .iD H',rt:=Q} (start N vs) H):bw P w K mg base (du P w) (k+1) f fd ps sp:=by
 obtain⟨oc,od,kV,doc,pm,an,cdv,ct,osl,rfl,lk,hcd⟩:=F.ex
 refine NR lk hcd S len λA outer s H vs Q E hr hsp=>?_
 obtain⟨t,h,q⟩:=hbody cdv A outer s H vs Q E rfl hr hsp
 exact⟨t,h.Pj,q⟩
def R6:Pos:=match ig aM with
 |[.Return (aa (.Call _ _ [⟨_,.Lambda _ _ _ p,_⟩] _)) _]=>p
 |_=>⟨0,0,0,0⟩
def N2:Scope:=match ig aM with
 |[.Return (aa (.Call _ _ [⟨_,.Lambda _ _ s _,_⟩] _)) _]=>s
 |_=>aq aM
theorem N4:∀y∈N2.names,y.2=.free->(aq aM).names.lookup y.1=aa .cell\/(aq aM).names.lookup y.1=aa .free:=by decide+kernel
def Vk:Str:=("FewestPressesChooser.end_of_part":Str)++".<locals>."++"<lambda>"
abbrev Cc(tb:Addr):r0:=⟨tb,R6,Vk⟩
structure Po(K:af)(mg:Str->Option Value)(base:Heap)(fd:FuncData)(tb:Addr):Prop where
 code:∃c,fd.code=.ref c/\jr K c tb=true
 bm:∃bm ob,mg "__builtins__"=aa (.ref bm)/\bm≠builtinsNs/\base.get? bm=aa ob/\ob.cls=.type "module"/\ob.dict=aa builtinsNs/\ob.data=.plain
section
variable{P:Program}{w:World}{K:af}{mg:Str->Option Value}{base:Heap}
def NM(C:Addr)(c:Addr)(_:Unit)(H:Hp):Prop:=∃dx,H c=aa (.ins C dx [])
theorem Bl:aH ["self","ways","ends","first","b","last"] ["self","ways","ends","first","b"] (aq aM):=⟨rfl,rfl,rfl,by decide+kernel,rfl,by decide+kernel,by decide+kernel⟩
theorem QB(T:Tx K mg){ns:List Span}(WF:Bp.WF ns)(N:Bp.d4 ns){n b f z:Nat}(h1:1<=f)(h2:f<=z)(h3:z<=b)(h4:b<=n):
  ∃g:Nat,sC ns n b f z=aa g/\(lQ (P:=P) (w:=w) (base:=base) T).row (fW pressing ns n f z) (Rx (lQ (P:=P) (w:=w) (base:=base) T) (fR pressing ns n) z b)=(g:Int):=by
 have L:=Bp.eR
 have S:=Bp.iH
 have e1:=oB L S WF N (n:=n) h1 h2 (by lia)
 have e2:(Bp.restOf pressing ns (tP ns n) (z+1) b).isSome=true/\Rx (lQ (P:=P) (w:=w) (base:=base) T) (fR pressing ns n) z b=nV (Bp.restOf pressing ns (tP ns n) (z+1) b):=by
  unfold Rx
  by_cases q:z=b
  ·subst q
   rw[if_pos rfl,Bp.iU];exact⟨rfl,rfl⟩
  ·rw[if_neg q]
   exact⟨oE L S WF N (by ac_rfl) (by lia) h4,rfl⟩
 rw[e2.2]
 have e2:=e2.1
 cases q1:partOf pressing (tP ns n) f z with
 |none=>rw[q1]at e1;cases e1
 |some x=>
  cases q2:Bp.restOf pressing ns (tP ns n) (z+1) b with
  |none=>rw[q2]at e2;cases e2
  |some y=>
   refine⟨x+y,?_,?_⟩
   ·show Vbpcau.withBoth _ (partOf pressing (tP ns n) f z) (Bp.restOf pressing ns (tP ns n) (z+1) b)=_
    rw[q1,q2];rfl
   ·show nV (partOf pressing (tP ns n) f z)+nV (aa y)=_
    rw[q1]
    show((x:Nat):Int)+((y:Nat):Int)=_
    rfl
theorem Ka{p:Nat->Bool}:∀{l:List Nat}{i z:Nat},l[i]?=aa z->p z=true->(∀j' z',j'<i->l[j']?=aa z'->p z'=false)->l.find? p=aa z
 |[],i,z,h,_,_=>by simp at h
 |x::l,0,z,h,hp,_=>by
  have:x=z:=by simpa using h
  rw[cF,this,hp]
 |x::l,i+1,z,h,hp,hn=>by
  rw[cF,hn 0 x (by ac_rfl) rfl]
  exact Ka (i:=i) (by simpa using h) hp λj' z' hj hz=>hn (j'+1) z' (by ac_rfl) (by simpa using hz)
theorem Lz{ns:List Span}{n a b c:Nat}{kv:Nat->Int}{i z:Nat}(hg:∀y∈Bp.ends ns a b c,∃g:Nat,sC ns n b c y=aa g/\kv y=(g:Int))(h:Tn (Bp.ends ns a b c) kv ((Bp.ends ns a b c).length-1) i z):
  (Bp.ends ns a b c).find? (λy=>sC ns n b c y==oS ns n a b c&&(oS ns n a b c).isSome)=aa z:=by
 obtain⟨hz,hi,hmin⟩:=h
 have hzm:=bY hz
 have hne:(Bp.ends ns a b c).map (λe=>sC ns n b c e)≠[]:=λq=>by rw[oP.mp q]at hzm;simp at hzm
 obtain⟨b1,b2⟩:=uQ Bp.eR rfl rfl ((Bp.ends ns a b c).map λe=>sC ns n b c e) hne λx hx=>by
  obtain⟨y,hy,rfl⟩:=bB.mp hx
  obtain⟨g,e,_⟩:=hg y hy
  rw[e];rfl
 obtain⟨g,eg,ek⟩:=hg z hzm
 have hv:((g:Nat):Int)=wN (((Bp.ends ns a b c).map λe=>sC ns n b c e).map nV):=by
  refine Ey ?_ λy hy=>?_
  ·rw[dQ]
   exact bB.mpr ⟨z,hzm,by show nV (sC ns n b c z)=_;rw[eg];rfl⟩
  ·rw[dQ]at hy
   obtain⟨y',hy',rfl⟩:=bB.mp hy
   obtain⟨g',e',k'⟩:=hg y' hy'
   obtain⟨j',hj'⟩:=u5 hy'
   have hjl:=(aD.mp hj').1
   have:=(hmin j' y' (by lia) hj').1
   show _<=nV (sC ns n b c y')
   rw[e']
   show _<=((g':Nat):Int)
   lia
 have hbest:oS ns n a b c=aa g:=by
  cases q:oS ns n a b c with
  |none=>rw[show sumOver pressing ((Bp.ends ns a b c).map λe=>sC ns n b c e)=none from q]at b1;cases b1
  |some g'=>
   rw[show sumOver pressing ((Bp.ends ns a b c).map λe=>sC ns n b c e)=aa g' from q]at b2
   have:((g':Nat):Int)=wN (((Bp.ends ns a b c).map λe=>sC ns n b c e).map nV):=b2
   congr 1
   lia
 rw[hbest]
 refine Ka hz (by rw[eg];simp) λj' z' hj hz'=>?_
 obtain⟨g',e',k'⟩:=hg z' (bY hz')
 have:=(hmin j' z' (by lia) hz').2 hj
 rw[e']
 have:g'≠g:=by lia
 simp[this]
theorem IF(T:Tx K mg){tb:Addr}(LK:Po K mg base T.bf.fd tb){ns:List Span}{n:Nat}(WF:Bp.WF ns)(N:Bp.d4 ns)(hn:n<=24):bw P w K mg base (du P w) 8 T.bf.f T.bf.fd ["self","ways","ends","first","b"]
  (KU (eQ T (lQ (P:=P) (w:=w) (base:=base) T) ns n (fW pressing ns n) (fR pressing ns n)) ns n (NM T.bN.C) (TB (Cc tb)) (λ_ z=>z=tb) (F1 ns n)):=by
 obtain⟨c0,hc0,hck⟩:=LK.code
 obtain⟨bm,ob,m1,m2,m3,m4,m5,m6⟩:=LK.bm
 refine Wl T.bf.fn Bl (λvs H Q E zz0=>by obtain⟨_,_,_,_,_,_,_,_,_,e,_⟩:=zz0;rw[e];rfl) λcdv A outer s H vs Q E hcd hr zz1=>?_
 obtain⟨c,σ,σ1,x,e,a,b,f,d,ee,⟨dx,hc⟩,htb,wy,he,⟨h1,h2,h3,h4,h5⟩,hd,g,k⟩:=zz1
 subst ee
 rw[hc0]at hcd
 subst hcd
 refine⟨_,au (a8 (Mq (x:="last") (i:=5) (k:=6) (B:=Cc tb) (tl:=BE T.bC.C "row" (Bv T (lQ (P:=P) (w:=w) (base:=base) T)) [] E0 (fN 1) (gJ (fN 3) (gJ (fN 5) (gJ (fN 4) mq)))) rfl T.JP (pv 2) Bl.nd
  ⟨rfl,rfl,rfl,by decide+kernel,rfl,rfl,by decide+kernel,by decide+kernel,N4⟩ hr rfl hck rfl rfl rfl m1 m2 m3 m4 m5 m6 (λ_ _ _ _ _=>rfl)
  (λ_ _ _ _=>cQ (dvs:=[]) (ds:=[]) (E:=E0) (pv 1) T.bC.cl T.gu.me (kY T (lQ T)) ((hr.in1.deeper _).mono (by decide)) T.gu.bi .nil aP (ab (pv 3) (ab (pv 5) (ab (pv 4) aj)))))),?_⟩
 have mem:∀z∈Bp.ends ns a b f,f<=z/\z<=b:=λz hz=>by have:=Bp.dC hz h4;exact⟨this.1,this.2.1⟩
 have hxo:∀{H2:Hp},Keeps (λy=>y=tb) H H2->kM H H2:=λkp z o ez no=>kp z o ez λq=>by
  obtain⟨ps,hp,_⟩:=htb
  have hp:H tb=aa (.zg ps):=hp
  rw[q,hp]at ez
  cases ez
  exact no trivial
 refine⟨_,rfl,e,Bp.ends ns a b f,λz=>(lQ (P:=P) (w:=w) (base:=base) T).row (fW pressing ns n f z) (Rx (lQ (P:=P) (w:=w) (base:=base) T) (fR pressing ns n) z b),rfl,he,cx.mpr (λq=>by rw[q]at hd;simp at hd),htb,λz H2 hz kp=>?_,λz i' H' hl kp tb'=>?_⟩
 ·have hm:=mem z hz
  have wy2:=wy.keep (hxo kp) (by intro z;cases z)
  obtain⟨mm,l,dW,dR,kW,kR,⟨⟨dxx,hx⟩,_⟩,_⟩:=id wy2
  obtain⟨m',l',dW',dR',kW',kR',b1,b2,b3,b4,b5⟩:=wy2.row (f:=f) (by lia) hm.1 hm.2 h3
  exact⟨_,rfl,x,dxx,_,rfl,hx,yw _ _ _ _,_,rfl,_,rfl,_,rfl,x,m',l',dW',dR',kW',kR',_,_,_,_,_,rfl,b1,b2,b3,b4,b5,trivial,λH3 s3=>⟨rfl,s3⟩⟩
 ·have ff:=Lz (n:=n) (λy hy=>by
   have hm:=mem y hy
   obtain⟨g',e1,e2⟩:=QB (P:=P) (w:=w) (base:=base) T WF N (n:=n) (b:=b) (f:=f) (z:=y) (by lia) hm.1 hm.2 h3
   exact⟨g',e1,e2⟩) hl
  have g:(Bp.ends ns a b f).find? (λz=>sC ns n b f z==oS ns n a b f&&(oS ns n a b f).isSome)=aa d:=g
  rw[g]at ff
  cases ff
  exact k _ ⟨dx,hxo kp _ _ hc (by intro z;cases z)⟩ tb' kp
theorem Mt:aH ["self","ways","last","b"] ["self","ways","last","b"] (aq dN):=⟨rfl,rfl,rfl,by decide+kernel,rfl,by decide+kernel,by decide+kernel⟩
theorem Mj(T:Tx K mg){tb:Addr}{ns:List Span}{n:Nat}:bw P w K mg base (du P w) 8 T.b9.f T.b9.fd ["self","ways","last","b"]
  (QU (eQ T (lQ (P:=P) (w:=w) (base:=base) T) ns n (fW pressing ns n) (fR pressing ns n)) ns n (NM T.bN.C) (TB (Cc tb)) (λ_ z=>z=tb) F2):=by
 refine T.b9.fn.okN Mt (λvs H Q E zz2=>by obtain⟨_,_,_,_,_,_,_,_,_,e,_⟩:=zz2;rw[e];rfl) λcdv A outer s H vs Q E hr zz3=>?_
 obtain⟨c,σ,σ1,τ,x,a,b,f,d,e,⟨dx,hc⟩,htb,wy,_,hd,g,k⟩:=zz3
 subst e
 refine⟨_,au (a8 (pv 0)),?_⟩
 refine⟨_,rfl,k c H ⟨dx,hc⟩ ⟨dx,hc⟩ htb (Keeps.of (aJ.refl _)) (λz e=>.inl e) (λH2 k2=>⟨dx,k2 _ _ hc λq=>?_⟩)⟩
 obtain⟨ps,hp,_⟩:=htb
 have hp:H tb=aa (.zg ps):=hp
 rw[<-q,hc]at hp;cases hp
def dFew(T:Tx K mg)(tb:Addr)(ns:List Span)(n:Nat):ChsD where
 S:=Unit
 C:=T.bN.C
 At:=NM T.bN.C
 Tb:=TB (Cc tb)
 X:=λ_ z=>z=tb
 eo:=F1 ns n
 wi:=F2
def TJ(T:Tx K mg){tb:Addr}(LK:Po K mg base T.bf.fd tb){ns:List Span}{n:Nat}(WF:Bp.WF ns)(N:Bp.d4 ns)(hn:n<=24):RD P w K mg base (eQ T (lQ (P:=P) (w:=w) (base:=base) T) ns n (fW pressing ns n) (fR pressing ns n)) ns n (dFew T tb ns n)where
 cl:=T.bN.cl
 ob:=λ⟨dx,h⟩=>⟨dx,_,h,rfl,rfl⟩
 same:=λ⟨dx,h⟩ s=>⟨dx,s _ _ h⟩
 zi:=λh s=>h.same s
 Pw:=λ⟨dx,h⟩ hD=>⟨dx,by rw[az (eI h hD (by intro z;cases z))];exact h⟩
 Ra:=λh hD=>h.upd hD
 xt:=λ{c σ H z} _ h hz=>by
  obtain⟨ps,hp,_⟩:=h
  have hz:z=tb:=hz
  subst hz
  exact⟨_,hp⟩
 xo:=λ{c σ H z o} _ h hz e=>by
  obtain⟨ps,hp,_⟩:=h
  have hz:z=tb:=hz
  subst hz
  have hp:H z=aa (.zg ps):=hp
  rw[hp]at e
  cases e
  trivial
 fe:=_
 TY:=_
 UP:=T.bf.me
 UJ:=T.bf.bi
 UT:=IF T LK WF N hn
 fi:=_
 TZ:=_
 UQ:=T.b9.me
 UK:=T.b9.bi
 UU:=Mj T
def SK(T:Tx K mg)(tb:Addr):Sp:=λvs H Q E=>ex2 Q λb st Q=>vs=[.ref b]/\jb T.aL.C H b st/\eZ st/\TB (Cc tb) H/\if(whole pressing st.needs st.n).isSome=true then
 ∀q H',Keeps (λz=>z=tb) H H'->TB (Cc tb) H'->fu T.aV.C H' (firstFew st.needs (tabOf pressing st.needs st.n) (3*st.n) 1 st.n) q->Q (.ref q) H' else ER K T.bx.C (-4) H E
theorem E4:aH ["board"] ["board"] (aq fX):=⟨rfl,rfl,rfl,by decide+kernel,rfl,by decide+kernel,by decide+kernel⟩
theorem GL(T:Tx K mg){tb:Addr}(LK:Po K mg base T.bf.fd tb):bw P w K mg base (du P w) 36 T.cN.f T.cN.fd ["board"] (SK T tb):=by
 refine T.cN.fn.qX E4 (λvs H Q E zz4=>by obtain⟨_,_,e,_⟩:=zz4;rw[e];rfl) λcdv A outer s H vs Q E hr zz5=>?_
 obtain⟨b,st,e,hb,so,htb,k⟩:=zz5
 subst e
 have fW':bw P w K mg base (du P w) 5 T.gm.f T.gm.fd ["self","measure","board"] (λvs H Q E=>∃hc:Bp.d4 st.needs,we T (lQ (P:=P) (w:=w) (base:=base) T) st.needs st.n (fW pressing st.needs st.n) (fR pressing st.needs st.n) vs H Q E):=
  Ei λhc=>lH T _ (KQ T (n:=st.n) so.wf hc) so.hi so.wH so.zu
 have fC:bw P w K mg base (du P w) 33 T.bV.f T.bV.fd ["chooser","ways","a","b"] (λvs H Q E=>∃hc:Bp.d4 st.needs,uj (dFew T tb st.needs st.n) (eQ T (lQ (P:=P) (w:=w) (base:=base) T) st.needs st.n (fW pressing st.needs st.n) (fR pressing st.needs st.n)) st.needs st.n T.aV.C 24 vs H Q E):=
  Ei λhc=>oY (TJ (P:=P) (w:=w) (base:=base) T LK so.wf hc so.hi) (by intro z;cases z) so.hi so.wH so.zu 24
 refine⟨_,ao (cw (bb (dvs:=[]) (ds:=[]) (iT T) (hr.mono (by decide)) rfl T.bZ.mg T.bZ.kp T.bZ.bi .nil eh (ab (pv 0) aj)))
  (au (a8 (bb (dvs:=[]) (ds:=[]) (E:=E0) fC (hr.mono (by decide)) rfl T.bV.mg T.bV.kp T.bV.bi .nil aP
    (ab (mT T.sx rfl T.bN.mg)
      (ab (gW (dvs:=[]) (ds:=[]) (E:=E0) T.Gr fW' (hr.mono (by decide)) rfl T.bC.mg T.gm.bi .nil aP (ab (mT T.tu rfl T.dA.mg) (ab (pv 0) aj)))
        (ab bj (ab (ba (pv 0) rfl) aj))))))),?_⟩
 obtain⟨dxb,l,hb1,hb2⟩:=id hb
 refine⟨_,rfl,b,st,rfl,hb,so,?_⟩
 cases q:firstClash st.needs with
 |some x=>
  rw[pq Bp.oW so q]at k
  exact k
 |none=>
  have hc:=oT so.Fz q
  obtain⟨m,hm⟩:=rX Bp.eR Bp.iH so q
  rw[hm,if_pos (show(aa m).isSome=true from rfl)]at k
  refine λH1 s1 c dc nc ndc nec y dy ny ndy ne=>⟨_,rfl,λx dx nx ndx ne'=>?_⟩
  have sc:=iM (C:=T.bN.C) (fs:=[]) nc ndc nec
  have s2:=(s1.trans sc).trans (iM (C:=T.dA.C) (fs:=[]) ny ndy ne)
  have s3:=iM (C:=T.bC.C) (fs:=[]) nx ndx ne'
  have yx:y≠x:=aA ag nx
  refine⟨hc,x,dx,y,dy,b,rfl,ag,s3 _ _ ag,yx.symm,(aA (s2 _ _ hb1) nx).symm,(hb.same s2).same s3,λH3 wy bt=>⟨rfl,?_⟩⟩
  have s34:=oF nx ndx ne' bt
  have s4:=s2.trans s34
  have hcc:H3 c=aa (.ins T.bN.C dc []):=s34 _ _ ((iM (C:=T.dA.C) (fs:=[]) ny ndy ne) _ _ ag)
  refine⟨_,rfl,b,_,dxb,_,_,rfl,s4 _ _ hb1,T.aL.cl,T.aL.no _ (by simp),cn _ _ _,hc,c,(),x,1,st.n,firstFew st.needs (tabOf pressing st.needs st.n) (3*st.n) 1 st.n,rfl,⟨dc,hcc⟩,htb.same s4,wy,⟨ah _,by have:=so.lo;ac_rfl,ah _,by have:=so.hi;omega⟩,NN so q,λz H5 kp tb' hpt=>?_⟩
  exact k z H5 (λy o e n=>kp _ _ (s4 _ _ e) n) tb' (hpt.same uG)
theorem QG:aH ["board","given"] ["board","given"] (aq IX):=⟨rfl,rfl,rfl,by decide+kernel,rfl,by decide+kernel,by decide+kernel⟩
theorem Ma(T:Tx K mg){tb:Addr}(LK:Po K mg base T.bf.fd tb):bw P w K mg base (du P w) 90 T.best.f T.best.fd ["board","given"] (gz T (Cc tb) .best):=by
 refine T.best.fn.qX QG (λvs H Q E zz6=>by obtain⟨_,_,_,e,_⟩:=zz6;rw[e];rfl) λcdv A outer s H vs Q E hr zz0=>?_
 obtain⟨b,g,st,e,hb,so,hg,htb,k⟩:=zz0
 subst e
 rw[CT]at k
 refine⟨_,au (a8 (bb (dvs:=[]) (ds:=[]) (E:=E0) (ju T) (hr.mono (by decide)) rfl T.cE.mg T.cE.kp T.cE.bi .nil aP (ab (bb (dvs:=[]) (ds:=[]) (GL T LK) (hr.mono (by decide)) rfl T.cN.mg T.cN.kp T.cN.bi .nil eh (ab (pv 0) aj)) aj))),?_⟩
 refine⟨_,rfl,b,st,rfl,hb,so,htb,?_⟩
 by_cases h:(whole pressing st.needs st.n).isSome=true
 ·rw[if_pos h]at k⊢
  intro z H1 kp tb1 hz
  have ko:kM H H1:=λy o ey no=>kp y o ey λq=>by
   obtain⟨ps,hp,_⟩:=htb
   have hp:H tb=aa (.zg ps):=hp
   rw[q,hp]at ey
   cases ey
   exact no trivial
  refine⟨z,_,st.n,rfl,hz,Ov so (AL so h),so.hi,λr H' nl s' hl=>?_⟩
  have nlH:H r=none:=by
   cases e:H r with
   |none=>rfl
   |some o=>
    by_cases q:r=tb
    ·obtain⟨ps,hp,_⟩:=tb1
     have hp:H1 tb=aa (.zg ps):=hp
     rw[q,hp]at nl;cases nl
    ·have:=kp _ _ e q
     rw[nl]at this;cases this
  refine k r H' nlH (λy o e n=>s' _ _ (kp _ _ e λq=>n (.inr q))) (tb1.same s') ?_ hl
  refine⟨(hb.keep ko).same s',λD xs st2 hD h2=>?_⟩
  have hb1:=hb.keep ko
  have:=(O4.same (C:=T.aL.C) (b:=b) hb1 s').2 D xs st2 (ko _ _ hD (λz=>z)) ?_
  ·exact this
  ·obtain⟨dx2,l2,g1,as2,g2,g3⟩:=h2
   refine⟨dx2,l2,cA.mpr ⟨(cA.mp g1).1,ko _ _ (cA.mp g1).2 (by intro z;cases z)⟩,as2,cA.mpr ⟨(cA.mp g2).1,ko _ _ (cA.mp g2).2 (λz=>z)⟩,g3.same λc xs' q=>cA.mpr ⟨(cA.mp q).1,ko _ _ (cA.mp q).2 (λz=>z)⟩⟩
 ·rw[if_neg h]at k⊢
  exact k
end
end Bx
end
section
namespace L2
open PySem PySem.Spec PyProof.Rows
open PySem.W (WData Codec OpenSpec Well WellAll ReadsW ReadsAllW)
def M0(mg:Str->Option Value)(h:Heap):Prop:=∃bm ob,mg "__builtins__"=aa (.ref bm)/\bm≠builtinsNs/\h.get? bm=aa ob/\ob.cls=.type "module"/\ob.dict=aa builtinsNs/\ob.data=.plain
theorem Jn{P:Program}{w:World}{K:af}{mg mb:Str->Option Value}{CX:Jv}{k:Nat}{fa:Addr}{fd:FuncData}{ps:List Str}{sp:Sp}{s₁:Shared}{vals:List Value}{ds:List WData}{R:Lh}{cl:Str->Option Addr}{d0:WData}{tb ct:Addr}
  (KX:K.In s₁.heap)(hns:s₁.heap.Ns mainGlobals mg)(hb:s₁.heap.Ns builtinsNs mb)(hbb:∀x:Str,x≠"__name__"->mb x=bootBuiltins x)(hlim:s₁.heap.NoLimit)(hg:s₁.gens=#[])
  (hT:s₁.heap.get? tb=aa (oR #[]))(hKt:K.lookup tb=none)(hcd:jr K ct tb=true)(hbm:M0 mg s₁.heap)
  (hwl:WellAll w.params s₁.heap vals ds)(hpl:zB ds=true)(hwt:∀d∈ds,d.weight<=1048576)(hr:iK k callerA)
  (F:∀base:Heap,K.In base->base.Ns mainGlobals mg->M0 mg base->bw P w K mg base CX k fa fd ps sp)(hbind:∀(s:Shared)(us:List Value),us.length=ps.length->BindsTo s fd ⟨us,[]⟩ (ps.zip us))(hlen:ds.length=ps.length)
  (hsp:∀(H₀:Hp)(xs:List V),JC H₀->H₀ tb=none->rZ K H₀ xs ds->sp xs (upd H₀ tb (.zg #[])) (λv H'=>Dw K H' v d0) λ_ _ _=>False)
  (hCX:∀H e s',CX [] H s₁ (λ_ _ _=>False) e s'->False):
  codeAny (model P w) callerA (.call (.ref fa) ⟨vals,[]⟩) (λr s'=>∃u as,r=.ok (.ret u)/\ReadsW R cl s'.heap u d0 as/\OldK s₁.heap s'.heap/\s'.os=s₁.os/\AllBare s'.gens) s₁:=by
 obtain⟨A,ho,ar⟩:=wx ds vals hwl hpl hwt
 have hO:JC (qE K s₁.heap A):=Ll ar
 have hok0:pV P w (qE K s₁.heap A) s₁.heap:=Pu ar
 have hS:=Ee KX ar ds vals hwl hpl ho
 have hV:=qU ho
 have hK0:∀b u,qE K s₁.heap A b=aa u->K.lookup b=none:=λb u q=>(zP ar q).1
 have noS:∀{b:Addr}{o:Obj},s₁.heap.get? b=aa o->(∀vs n,o.data≠.seq vs n)->qE K s₁.heap A b=none:=λ{b o} e d=>by
  cases q:qE K s₁.heap A b with
  |none=>rfl
  |some u=>
   obtain⟨_,vs,_,_,⟨e2,_⟩|⟨e2,_⟩⟩:=zP ar q
   ·rw[e2]at e
    cases e
    exact absurd rfl (d _ _)
   ·rw[e2]at e
    cases e
    exact absurd rfl (d _ _)
 have nT:qE K s₁.heap A tb=none:=noS hT (by intro vs n z;cases z)
 generalize qE K s₁.heap A=H₀ at hO hok0 hS hK0 noS nT
 have hX:∀b,b≠tb->upd H₀ tb (.zg #[]) b=H₀ b:=λb n=>az n
 have hXt:upd H₀ tb (.zg #[]) tb=aa (.zg #[]):=ag
 have hSp:=hsp H₀ _ hO nT hS
 generalize upd H₀ tb (.zg #[])=H at hX hXt hSp
 have dO:pV P w H s₁.heap:=λb u q=>by
  by_cases n:b=tb
  ·subst n
   rw[hXt]at q
   cases q
   exact hT
  ·rw[hX b n]at q
   refine(hok0 b u q).xq (λ_ _ _ e=>e) (λc e=>?_) λc xs e=>?_
   ·rcases hO c with z|⟨_,_,z⟩<;>(rw[e]at z;cases z)
   ·rcases hO c with z|⟨_,_,z⟩<;>(rw[e]at z;cases z)
 have noD:∀{b:Addr}{o:Obj},s₁.heap.get? b=aa o->(∀vs n,o.data≠.seq vs n)->b≠tb->H b=none:=λe d n=>by rw[hX _ n];exact noS e d
 have Rp:∀{b:Addr}{o:Obj}{es:Array DictEntry}{ep:Nat},s₁.heap.get? b=aa o->o.data=.dict es ep->H b=none:=λ{b o es ep} e d=>by
  refine noD e (by intro vs n z;rw[d]at z;cases z) ?_
  rintro rfl
  rw[hT]at e
  cases e
  cases d
 have base_of:∀{b:Addr}{o:Obj},s₁.heap.get? b=aa o->H b=none->(Ca s₁.heap H).get? b=aa o:=λe n=>NX e n
 have nsK:∀{b:Addr}{m:Str->Option Value},s₁.heap.Ns b m->(Ca s₁.heap H).Ns b m:=λ{b m} zy=>by obtain⟨o,es,ep,e,d,r⟩:=zy;exact⟨o,es,ep,base_of e (Rp e d),d,r⟩
 have nK:∀b o,K.lookup b=aa o->H b=none:=λb o e=>by
  by_cases n:b=tb
  ·subst n
   rw[hKt]at e
   cases e
  ·rw[hX b n]
   cases q:H₀ b with
   |none=>rfl
   |some u=>
    rw[hK0 b u q]at e
    cases e
 have hKb:K.In (Ca s₁.heap H):=λb o e=>base_of (KX b o e) (nK b o e)
 have hM:Mod K mg (Ca s₁.heap H):=⟨hKb,nsK hns,⟨mb,nsK hb,hbb⟩,let⟨mc,h1,h2⟩:=hlim;⟨mc,nsK h1,h2⟩⟩
 have e0:HF P w K mg (Ca s₁.heap H) callerA [] s₁ H:=⟨rfl,hM,λb o e=>Qj e,sQ (LJ _ _),trivial,λb hb=>absurd (show b∈([]:List Addr)from hb) (by simp),dO,.of_eq hg⟩
 have hl:vals.length=ps.length:=by rw[pU hwl];exact hlen
 have bmB:M0 mg (Ca s₁.heap H):=by
  obtain⟨bm,ob,h1,h2,h3,h4,h5,h6⟩:=hbm
  refine⟨bm,ob,h1,h2,base_of h3 (noD h3 (by intro vs n z;rw[h6]at z;cases z) ?_),h4,h5,h6⟩
  rintro rfl
  rw[hT]at h3
  cases h3
  cases h6
 refine codeAny_mono ((F _ hKb (nsK hns) bmB).run callerA [] s₁ H ⟨vals,[]⟩ vals (vals.map toV) _ _ hr e0 (hbind s₁ vals hl) hV hSp) λr s' x=>?_
 cases r with
 |error e=>exact(hCX H e s' x).elim
 |ok fl=>
  cases fl with
  |next=>exact cy x
  |brk=>exact cy x
  |cont=>exact cy x
  |ret u=>
   obtain⟨v,H',os,bare,un,hok',r',q⟩:=x
   have kept:∀b o,s₁.heap.get? b=aa o->b≠tb->s'.heap.get? b=aa o:=λb o e n=>by
    cases q2:H b with
    |none=>exact un.keep b o e q2 (by intro z;exact absurd (show b∈([]:List Addr)from z) (by simp)) (by simp)
    |some u2=>
     rcases hO b with z|⟨ob,u3,z⟩
     ·rw[<-hX b n,q2]at z
      cases z
     ·rw[<-hX b n]at z
      have z2:=un.zt b ob _ z
      obtain⟨e1,_⟩:=dO b _ z
      obtain⟨e2,_⟩:=hok' b _ z2
      rw[e]at e1
      cases e1
      exact e2
   obtain⟨more,ht2⟩:=un.zI tb _ hXt
   have ht3:s'.heap.get? tb=aa (oR (#[]++more)):=hok' tb _ ht2
   have KX':K.In s'.heap:=λb o e=>kept b o (KX b o e) (by
    rintro rfl
    rw[hKt]at e
    cases e)
   obtain⟨as,hrd⟩:=Dw.reads (R:=R) (cl:=cl) hok' KX' d0 v u q r'
   refine⟨u,as,rfl,hrd,⟨λb o e=>?_,λb o e=>?_⟩,os,bare⟩
   ·by_cases n:b=tb
    ·subst n
     rw[hT]at e
     cases e
     exact .inr (.inl ⟨((Hz KX hcd).tab hT).isCodeTable,rfl,#[],more,rfl,ht3⟩)
    ·exact .inl (kept b o e n)
   ·by_cases n:b=tb
    ·subst n
     exact⟨_,ht3⟩
    ·exact⟨o,kept b o e n⟩
theorem Td{r:OpenSpec}{k:Nat}{q:Program}{loose:List Str}{XP:(Str->Option Value)->Heap->Prop}{YP:World->Heap->Prop}{d:DefRec}{K:Params->af}{CX:World->Jv}{ps:List Str}{sp:World->Sp}{tb ct:Addr}
  (hwell:r.wellSaid=true)(hdf:d.params.defaults=[])(hlen:r.args.length=ps.length)(hr:iK k callerA)
  (hY:∀(w:World)(h:Heap),YP w h->(K w.params).In h)(hT:∀(w:World)(h:Heap),YP w h->h.get? tb=aa (oR #[]))(hKt:∀P,(K P).lookup tb=none)(hcd:∀P,jr (K P) ct tb=true)
  (F:∀(w:World)(mg:Str->Option Value)(fa:Addr)(h:Heap),YP w h->(K w.params).In h->h.Ns mainGlobals mg->mg d.name=aa (.ref fa)->
    ∃fd:FuncData,(∀(s:Shared)(us:List Value),us.length=ps.length->BindsTo s fd ⟨us,[]⟩ (ps.zip us))/\
     ∀base:Heap,(K w.params).In base->base.Ns mainGlobals mg->M0 mg base->bw r.prog w (K w.params) mg base (CX w) k fa fd ps (sp w))
  (hsp:∀(w:World)(H₀:Hp)(xs:List V)(a:Af r.args),JC H₀->H₀ tb=none->(K w.params).lookup tb=none->Codec.withinAll r.args a=true->M8 r.args r.asked a=true->rZ (K w.params) H₀ xs (sv r.args a)->
    sp w xs (upd H₀ tb (.zg #[])) (λv H'=>Dw (K w.params) H' v (r.ret.enc (M8 r.args r.f a))) λ_ _ _=>False)
  (hCX:∀(w:World)(H:Hp)(s:Shared)(e:Value)(s':Shared),CX w [] H s (λ_ _ _=>False) e s'->False):
  PySem.W.WalkOS q loose XP YP r d [] (λf vs=>PySem.call f vs):=by
 intro w vq s₁ mg mb G Y fa o pm cd doc dV kV ho hd hcd' hD hmg hg args vals as hpre hlay hrd hwl hlo
 obtain⟨a,e1,e2⟩:=PySem.W.os_pre_some hpre
 obtain⟨e3,hwi⟩:=Codec.encAll_of_decAll r.args args a e1
 subst e3
 have KX:=hY w _ Y
 obtain⟨fd,hb,hF⟩:=F w mg fa _ Y KX G.T.g hmg
 refine PySem.W.enter_call (codeAny_mono (Jn (R:=[]) (cl:=classAt vq.heap) (d0:=r.ret.enc (M8 r.args r.f a)) KX G.T.g G.T.b G.T.builtins G.T.nolimit hg (hT w _ Y) (hKt _) (hcd _) G.T.bmain hwl (Dv _ _) (AG hlay) hr hF hb (by rw[As];exact hlen)
  (λH xs hO hn hS=>hsp w H xs a hO hn (hKt _) hwi e2 hS) λH e s'=>hCX w H s₁ e s') λr' s' hq=>?_)
 obtain⟨u,as',rfl,h1,h2,h3,h4⟩:=hq
 exact⟨.inl ⟨u,_,as',rfl,λ_=>rfl,h1,(OpenSpec.post_iff hwell hwi _ _).mpr rfl,λz=>b0 (show false=true from z)⟩,h2,h3,h4⟩
theorem TM{P:Program}{w:World}{outer:List Env}{H:Hp}{s s':Shared}{e:Value}(h:du P w outer H s (λ_ _ _=>False) e s'):False:=by
 obtain⟨_,_,_,_,_,_,_,_,_,_,_,_,_,_,_,h⟩:=h
 exact h
end L2
end
section
namespace Bx
open PySem PySem.Spec PySem.Calls PyProof.Rows L2
def BA(x qual:Str)(st:Stmt)(ps:List Str):Prop:=∀(kV doc pm:Value)(an:Option Addr)(cdv ct:Value)(us:List Value),us.length=ps.length->bindArgs (i5 x qual (lF st) (ig st) (aq st) .none kV doc pm an cdv ct) ⟨us,[]⟩=pure (ps.zip us)
section
variable{x qual:Str}{st:Stmt}{p p1 p2 p3 p4:Str}
abbrev BB(x qual:Str)(st:Stmt)(us:List Value)(ps:List Str):Prop:=∀(kV doc pm:Value)(an:Option Addr)(cdv ct:Value),bindArgs (i5 x qual (lF st) (ig st) (aq st) .none kV doc pm an cdv ct) ⟨us,[]⟩=pure (ps.zip us)
theorem B1(h:∀a,BB x qual st [a] [p]:=by exact λ_ _ _ _ _ _ _=>rfl):BA x qual st [p]:=λ_ _ _ _ _ _ us hl=>match us,hl with|[_],_=>h _ _ _ _ _ _ _
theorem B2(h:∀a b,BB x qual st [a,b] [p,p1]:=by exact λ_ _ _ _ _ _ _ _=>rfl):BA x qual st [p,p1]:=λ_ _ _ _ _ _ us hl=>match us,hl with|[_,_],_=>h _ _ _ _ _ _ _ _
theorem B3(h:∀a b c,BB x qual st [a,b,c] [p,p1,p2]:=by exact λ_ _ _ _ _ _ _ _ _=>rfl):BA x qual st [p,p1,p2]:=λ_ _ _ _ _ _ us hl=>match us,hl with|[_,_,_],_=>h _ _ _ _ _ _ _ _ _
theorem B4(h:∀a b c d,BB x qual st [a,b,c,d] [p,p1,p2,p3]:=by exact λ_ _ _ _ _ _ _ _ _ _=>rfl):BA x qual st [p,p1,p2,p3]:=λ_ _ _ _ _ _ us hl=>match us,hl with|[_,_,_,_],_=>h _ _ _ _ _ _ _ _ _ _
theorem B5(h:∀a b c d e,BB x qual st [a,b,c,d,e] [p,p1,p2,p3,p4]:=by exact λ_ _ _ _ _ _ _ _ _ _ _=>rfl):BA x qual st [p,p1,p2,p3,p4]:=λ_ _ _ _ _ _ us hl=>match us,hl with|[_,_,_,_,_],_=>h _ _ _ _ _ _ _ _ _ _ _
end
section
variable{K:af}{mg:Str->Option Value}{h:Heap}
structure XP(K:af)(x:Str)(C:Addr):Prop where
 a:wo K mainGlobals x=aa (aa (.ref C))
 xc:Nb K C
 t:mI K (.ref C)=aa (.type "type")
 n:bU K (.ref C) "number"=aa none
 g:FH K C
structure XQ(K:af)(C R:Addr):Prop where
 k:Ex.wF K C=true
 kk:cK K (.ref C)=true
 h:Ho K C R
def NA(K:af)(C:Addr):List Str->Prop
 |[]=>True
 |f::l=>bU K (.ref C) f=aa none/\NA K C l
theorem NA.all{C:Addr}:∀{l:List Str},NA K C l->∀f∈l,iq K C f
 |[],_=>List.forall_mem_nil _
 |_::_,h=>List.forall_mem_cons.2 ⟨h.1,NA.all h.2⟩
def NB(K:af):List Str->Prop
 |[]=>True
 |f::l=>wo K mainGlobals f=aa none/\NB K l
theorem UR{C:Addr}{f:Str}{l:List Str}(a:bU K (.ref C) f=aa none)(b:NA K C l):NA K C (f::l):=⟨a,b⟩
theorem US{f:Str}{l:List Str}(a:wo K mainGlobals f=aa none)(b:NB K l):NB K (f::l):=⟨a,b⟩
theorem Vm{C:Addr}:NA K C []:=trivial
theorem Vn:NB K []:=trivial
structure CP(K:af)(x:Str)(C:Addr)(fs:List Str):Prop where
 a:wo K mainGlobals x=aa (aa (.ref C))
 c:Hn K C
 k:u7 K C=true
 kk:cK K (.ref C)=true
 n:NA K C fs
theorem CP.no{x:Str}{C:Addr}{fs:List Str}(c:CP K x C fs):∀f∈fs,iq K C f:=c.n.all
structure NP(K:af)(C:Addr):Prop where
 i:bU K (.ref C) "__init__"=aa (aa (.builtin "object.__init__"))
structure MP(K:af)(C:Addr)(x qual:Str)(st:Stmt)(f:Addr):Prop where
 a:bU K (.ref C) x=aa (aa (.ref f))
 i:pA K (.ref f)=true
 p:∃fd,K6 K x qual st f fd
structure GP(K:af)(x:Str)(st:Stmt)(f:Addr):Prop where
 a:wo K mainGlobals x=aa (aa (.ref f))
 p:∃fd,K6 K x x st f fd
structure VP(K:af)(x:Str)(i:Int):Prop where
 a:∃t,wo K mainGlobals x=aa (aa (.int i t))
structure QP(K:af)(x:Str)(t:Addr)(xs:List V):Prop where
 a:wo K mainGlobals x=aa (aa (.ref t))
 q:∀H,vb K H t xs
theorem NL{x qual:Str}{st:Stmt}{f:Addr}{oc:Value}{od an:Option Addr}{osl:Array (Option Value)}{kV doc pm cdv ct:Value}(l:K.lookup f=aa ⟨oc,od,.func (i5 x qual (lF st) (ig st) (aq st) .none kV doc pm an cdv ct),osl⟩)
 (c:mH K cdv qual=true)(k:cK K (.ref f)=true):∃fd,K6 K x qual st f fd:=⟨_,RS l c k⟩
structure LP(K:af)(C f lc tb:Addr):Prop where
 a:bU K (.ref C) "end_of_part"=aa (aa (.ref f))
 i:pA K (.ref f)=true
 l:∃(oc:Value)(od an:Option Addr)(osl:Array (Option Value))(kV doc pm ct:Value),K.lookup f=aa ⟨oc,od,.func (i5 "end_of_part" "FewestPressesChooser.end_of_part" (lF aM) (ig aM) (aq aM) .none kV doc pm an (.ref lc) ct),osl⟩
 c:mH K (.ref lc) "FewestPressesChooser.end_of_part"=true
 k:cK K (.ref f)=true
 h:jr K lc tb=true
theorem LP.mp{C f lc tb:Addr}(m:LP K C f lc tb):MP K C "end_of_part" "FewestPressesChooser.end_of_part" aM f:=
 let⟨_,_,_,_,_,_,_,_,l⟩:=m.l
 ⟨m.a,m.i,NL l m.c m.k⟩
theorem V6{C f lc tb:Addr}{oc:Value}{od an:Option Addr}{osl:Array (Option Value)}{kV doc pm ct:Value}(a:bU K (.ref C) "end_of_part"=aa (aa (.ref f)))(i:pA K (.ref f)=true)
 (l:K.lookup f=aa ⟨oc,od,.func (i5 "end_of_part" "FewestPressesChooser.end_of_part" (lF aM) (ig aM) (aq aM) .none kV doc pm an (.ref lc) ct),osl⟩)
 (c:mH K (.ref lc) "FewestPressesChooser.end_of_part"=true)(k:cK K (.ref f)=true)(h:jr K lc tb=true):LP K C f lc tb:=⟨a,i,⟨_,_,_,_,_,_,_,_,l⟩,c,k,h⟩
theorem V7{C:Addr}{x qual:Str}{st:Stmt}{f:Addr}{oc:Value}{od an:Option Addr}{osl:Array (Option Value)}{kV doc pm cdv ct:Value}(a:bU K (.ref C) x=aa (aa (.ref f)))(i:pA K (.ref f)=true)
 (l:K.lookup f=aa ⟨oc,od,.func (i5 x qual (lF st) (ig st) (aq st) .none kV doc pm an cdv ct),osl⟩)(c:mH K cdv qual=true)(k:cK K (.ref f)=true):MP K C x qual st f:=⟨a,i,NL l c k⟩
theorem V5{x:Str}{st:Stmt}{f:Addr}{oc:Value}{od an:Option Addr}{osl:Array (Option Value)}{kV doc pm cdv ct:Value}(a:wo K mainGlobals x=aa (aa (.ref f)))
 (l:K.lookup f=aa ⟨oc,od,.func (i5 x x (lF st) (ig st) (aq st) .none kV doc pm an cdv ct),osl⟩)(c:mH K cdv x=true)(k:cK K (.ref f)=true):GP K x st f:=⟨a,NL l c k⟩
theorem Wf{x:Str}{i:Int}{t:Tok}(e:wo K mainGlobals x=aa (aa (.int i t))):VP K x i:=⟨⟨t,e⟩⟩
theorem V9{x:Str}{t:Addr}{od:Option Addr}{its:Array Value}{n:Nat}{sl:Array (Option Value)}{xs:List V}(a:wo K mainGlobals x=aa (aa (.ref t)))(l:K.lookup t=aa ⟨.type "tuple",od,.seq its n,sl⟩)(hs:its.size<=sizeLine)(v:Vals xs its.toList):QP K x t xs:=⟨a,λ_=>.inr ⟨_,its,n,l,rfl,rfl,hs,v⟩⟩
noncomputable def gf{x:Str}{st:Stmt}{ps:List Str}{f:Addr}(X:K.In h)(G:h.Ns mainGlobals mg)(m:GP K x st f)(b:BA x x st ps):GF K mg x st ps:=⟨f,m.p.choose,m.p.choose_spec,eW X G m.a,m.p.choose_spec.binds b⟩
noncomputable def mf{x qual:Str}{st:Stmt}{ps:List Str}{C f:Addr}(m:MP K C x qual st f)(b:BA x qual st ps):MF K C x qual st ps:=
 ⟨f,m.p.choose,m.p.choose_spec,⟨m.a,m.i,m.p.choose_spec.kp⟩,m.p.choose_spec.binds b⟩
theorem vf{x:Str}{i:Int}(X:K.In h)(G:h.Ns mainGlobals mg)(e:VP K x i):∃t,mg x=aa (.int i t):=let⟨t,e⟩:=e.a;⟨t,eW X G e⟩
def Wa(K:af)(B:r0):Sp:=λvs H Q _=>ex2 Q λ(c:Addr)(Cs:List Vbpcau.Call) Q=>vs=[.ref c]/\c≠B.tb/\cJ K H c ((Cs.flatMap Bp.toks).map V.int)/\Cs.length<=100/\TB B H/\∀l H',TB B H'->H' l=aa (.lst ((jE (Bp.vn r8 Cs)).map V.int))->Q (.ref l) H'
theorem all_mk{P:Program}{w:World}{fa tb lc C0 f0 C1 f1 C2 f2 C3 f3 C4 f4 C5 f5 C6 f6 C7 f7 C8 f8 C9 f9 f10 C10 f11 f12 f13 f14 f15 f16 f17 C11 f18 f19 f20 f21 f22 f23 f24 f25 C12 f26 f27 f28 f29 C13 f30 f31 f32 f33 f34 C14 f35 f36 f37 f38 C15 f39 f40 f41 f42 f43 f44 C16 f45 f46 f47 f48 C17 f49 f50 C18 f51 f52 f53 C19 f54 f55 f56 f57 f58 f59 f60 f61 f62 f63 f64 f65 f66 f67 f68 f69 f70 C20 f71 f72 f73 f74 f75 f76 f77 f78 f79 f80 f81 f82 f83 f84 f85 f86 f87 f88 f89 f90 f91 f92 f93 f94 f95 f96 f97 f98 f99 f100 f101 f102 f103 f104 f105 f106 t0 t1 t2:Addr}(X:K.In h)(G:h.Ns mainGlobals mg)(hfa:mg "answers"=aa (.ref fa))
  (c0:XP K "Refusal" C0)
  (m0:MP K C0 "__init__" "Refusal.__init__" o6 f0)
  (cm:RE K C0 "__init__" f0)
  (c1:XP K "OutOfRange" C1)
  (m1:MP K C1 "__init__" "OutOfRange.__init__" lJ f1)
  (q1:XQ K C1 C0)
  (c2:XP K "WrongNeed" C2)
  (m2:MP K C2 "__init__" "WrongNeed.__init__" l8 f2)
  (q2:XQ K C2 C0)
  (c3:XP K "TooManyNeeded" C3)
  (m3:MP K C3 "__init__" "TooManyNeeded.__init__" jA f3)
  (q3:XQ K C3 C0)
  (c4:XP K "NoPlan" C4)
  (m4:MP K C4 "__init__" "NoPlan.__init__" qc f4)
  (q4:XQ K C4 C0)
  (c5:XP K "NoSuchNumber" C5)
  (m5:MP K C5 "__init__" "NoSuchNumber.__init__" jY f5)
  (q5:XQ K C5 C0)
  (c6:XP K "NotAPlan" C6)
  (m6:MP K C6 "__init__" "NotAPlan.__init__" nF f6)
  (q6:XQ K C6 C0)
  (c7:XP K "NotServing" C7)
  (m7:MP K C7 "__init__" "NotServing.__init__" lI f7)
  (q7:XQ K C7 C0)
  (c8:XP K "TooLong" C8)
  (m8:MP K C8 "__init__" "TooLong.__init__" o7 f8)
  (q8:XQ K C8 C0)
  (c9:XP K "WrongText" C9)
  (m9:MP K C9 "__init__" "WrongText.__init__" l9 f9)
  (q9:XQ K C9 C0)
  (v0:VP K "FIRST_LAYERS" 4)
  (v1:VP K "FEWEST_LAYERS" 2)
  (v2:VP K "MOST_LAYERS" 24)
  (v3:VP K "MOST_NEEDED" 12)
  (m10:GP K "clashes" yb f10)
  (c10:CP K "Board" C10 ["layers","needed"])
  (m11:MP K C10 "__init__" "Board.__init__" rF f11)
  (m12:MP K C10 "begin" "Board.begin" qa f12)
  (m13:MP K C10 "need" "Board.need" rG f13)
  (m14:MP K C10 "drop" "Board.drop" rE f14)
  (m15:MP K C10 "turn" "Board.turn" rH f15)
  (m16:MP K C10 "check_span" "Board.check_span" kq f16)
  (m17:MP K C10 "first_clash" "Board.first_clash" jT f17)
  (c11:CP K "Part" C11 ["first","last","parts"])
  (m18:MP K C11 "__init__" "Part.__init__" tR f18)
  (m19:GP K "is_press" vU f19)
  (m20:GP K "is_foil" ye f20)
  (m21:GP K "text_of" yf f21)
  (m22:GP K "pieces_of" tW f22)
  (m23:GP K "spans_of" vY f23)
  (m24:GP K "depth_of" vT f24)
  (m25:GP K "mirrored" vX f25)
  (v4:VP K "DIVISOR" 1000000007)
  (c12:CP K "Count" C12 [])
  (m26:MP K C12 "single" "Count.single" o5 f26)
  (m27:MP K C12 "row" "Count.row" tQ f27)
  (m28:MP K C12 "choice" "Count.choice" o4 f28)
  (m29:MP K C12 "press" "Count.press" qb f29)
  (n12:NP K C12)
  (c13:CP K "Weight" C13 ["weight"])
  (m30:MP K C13 "__init__" "Weight.__init__" qf f30)
  (m31:MP K C13 "single" "Weight.single" nJ f31)
  (m32:MP K C13 "row" "Weight.row" rJ f32)
  (m33:MP K C13 "choice" "Weight.choice" nG f33)
  (m34:MP K C13 "press" "Weight.press" o8 f34)
  (c14:CP K "FewestPresses" C14 [])
  (m35:MP K C14 "single" "FewestPresses.single" iW f35)
  (m36:MP K C14 "row" "FewestPresses.row" jV f36)
  (m37:MP K C14 "choice" "FewestPresses.choice" iV f37)
  (m38:MP K C14 "press" "FewestPresses.press" je f38)
  (n14:NP K C14)
  (c15:CP K "LeastDepth" C15 [])
  (m39:MP K C15 "single" "LeastDepth.single" jX f39)
  (m40:MP K C15 "row" "LeastDepth.row" l7 f40)
  (m41:MP K C15 "choice" "LeastDepth.choice" jW f41)
  (m42:MP K C15 "press" "LeastDepth.press" kr f42)
  (n15:NP K C15)
  (m43:GP K "cuts_of" yc f43)
  (m44:GP K "ends_of" yd f44)
  (c16:CP K "Ways" C16 ["measure","needed","whole","rest"])
  (m45:MP K C16 "__init__" "Ways.__init__" tT f45)
  (m46:MP K C16 "fill" "Ways.fill" tS f46)
  (m47:MP K C16 "row" "Ways.row" vS f47)
  (m48:MP K C16 "rows_behind" "Ways.rows_behind" kF f48)
  (c17:CP K "FewestPressesChooser" C17 [])
  (m49:LP K C17 f49 lc tb)
  (m50:MP K C17 "chooser_within" "FewestPressesChooser.chooser_within" dN f50)
  (n17:NP K C17)
  (c18:CP K "DepthChooser" C18 ["most"])
  (m51:MP K C18 "__init__" "DepthChooser.__init__" jU f51)
  (m52:MP K C18 "end_of_part" "DepthChooser.end_of_part" gy f52)
  (m53:MP K C18 "chooser_within" "DepthChooser.chooser_within" fE f53)
  (c19:CP K "NumberChooser" C19 ["number"])
  (m54:MP K C19 "__init__" "NumberChooser.__init__" jy f54)
  (m55:MP K C19 "end_of_part" "NumberChooser.end_of_part" fV f55)
  (m56:MP K C19 "chooser_within" "NumberChooser.chooser_within" fo f56)
  (m57:GP K "chosen_part" qg f57)
  (m58:GP K "number_of" tV f58)
  (v5:VP K "MOST_WEIGHT" 1000000)
  (m59:GP K "value_of_plans" mi f59)
  (m60:GP K "check_some_plan" lK f60)
  (m61:GP K "count_plans" qh f61)
  (m62:GP K "weigh_plans" qm f62)
  (m63:GP K "fewest_presses" ma f63)
  (m64:GP K "least_depth" qj f64)
  (m65:GP K "first_with_fewest_presses" fX f65)
  (m66:GP K "first_with_least_depth" h8 f66)
  (m67:GP K "plan_with_number" kG f67)
  (m68:GP K "serves_all" rL f68)
  (m69:GP K "number_of_plan" mh f69)
  (m70:GP K "plan_behind" qk f70)
  (v6:VP K "MOST_BYTES" 400)
  (v7:VP K "DEEPEST" 32)
  (v8:VP K "BLANK" 32)
  (v9:VP K "PRESS_BEGINS" 40)
  (v10:VP K "PRESS_ENDS" 41)
  (v11:VP K "ZERO" 48)
  (v12:VP K "NINE" 57)
  (v13:VP K "CORE_BEGINS" 91)
  (v14:VP K "CORE_ENDS" 93)
  (v15:VP K "TEXT_ENDS" 256)
  (c20:CP K "Reader" C20 ["text","place","numbers"])
  (m71:MP K C20 "__init__" "Reader.__init__" qd f71)
  (m72:MP K C20 "byte_here" "Reader.byte_here" ku f72)
  (m73:MP K C20 "take" "Reader.take" qe f73)
  (m74:MP K C20 "read_whole" "Reader.read_whole" j1 f74)
  (m75:MP K C20 "read_part" "Reader.read_part" kE f75)
  (m76:MP K C20 "read_press" "Reader.read_press" j0 f76)
  (m77:MP K C20 "read_core" "Reader.read_core" kz f77)
  (m78:MP K C20 "read_number" "Reader.read_number" jz f78)
  (m79:MP K C20 "read_digit" "Reader.read_digit" jZ f79)
  (m80:GP K "is_sound" vV f80)
  (m81:GP K "read_plan" tX f81)
  (m82:GP K "begin" EN f82)
  (m83:GP K "need" Ja f83)
  (m84:GP K "drop" IY f84)
  (m85:GP K "needs" EW f85)
  (m86:GP K "clash" ES f86)
  (m87:GP K "count" ET f87)
  (m88:GP K "weigh" E1 f88)
  (m89:GP K "least" EV f89)
  (m90:GP K "depth" EU f90)
  (m91:GP K "best" IX f91)
  (m92:GP K "flat" IZ f92)
  (m93:GP K "plan" Jb f93)
  (m94:GP K "rank" Jc f94)
  (m95:GP K "following" tU f95)
  (m96:GP K "check" EO f96)
  (m97:GP K "spans" EY f97)
  (m98:GP K "mirror" Bd f98)
  (m99:GP K "steps" EZ f99)
  (m100:GP K "turn" Jd f100)
  (m101:GP K "read_text" tY f101)
  (m102:GP K "pairs_answer" o9 f102)
  (m103:GP K "text_answer" ql f103)
  (m104:GP K "answer_one" rK f104)
  (m105:GP K "end_of_call" qi f105)
  (m106:GP K "answers" uN f106)
  (nb:NB K ["len","sorted","list","range","min","max","sum","zip","any","all","str","ord","reversed"])
  (w0:QP K "CALLS" t0 ([f82,f83,f84,f85,f86,f87,f88,f89,f90,f91,f92,f93,f94,f95,f96,f97,f98,f99,f100].map V.ref))
  (w1:QP K "GIVEN" t1 (([1,2,2,0,0,0,1,0,0,0,0,1,1,1,1,1,1,1,0]:List Int).map V.int))
  (w2:QP K "WITH_TEXT" t2 (([12,13,14,15,16,17]:List Int).map V.int)):
  ∃fd:FuncData,(∀(s:Shared)(us:List Value),us.length=(["calls"]:List Str).length->BindsTo s fd ⟨us,[]⟩ ((["calls"]:List Str).zip us))/\∀base:Heap,K.In base->base.Ns mainGlobals mg->M0 mg base->bw P w K mg base (du P w) 94 fa fd ["calls"] (Wa K (Cc tb)):=by
 have T0:∃T:Tx K mg,T.answers.f=f106/\T.bf.f=f49:=⟨⟨⟨_,c0.xc,eW X G c0.a,c0.t,c0.n,c0.g⟩,
  mf m0 B2,
  cm,
  ⟨_,c1.xc,eW X G c1.a,c1.t,c1.n,c1.g⟩,
  mf m1 B1,
  ⟨q1.k,m1.a,m1.i,q1.kk⟩,
  q1.h,
  ⟨_,c2.xc,eW X G c2.a,c2.t,c2.n,c2.g⟩,
  mf m2 B1,
  ⟨q2.k,m2.a,m2.i,q2.kk⟩,
  q2.h,
  ⟨_,c3.xc,eW X G c3.a,c3.t,c3.n,c3.g⟩,
  mf m3 B1,
  ⟨q3.k,m3.a,m3.i,q3.kk⟩,
  q3.h,
  ⟨_,c4.xc,eW X G c4.a,c4.t,c4.n,c4.g⟩,
  mf m4 B1,
  ⟨q4.k,m4.a,m4.i,q4.kk⟩,
  q4.h,
  ⟨_,c5.xc,eW X G c5.a,c5.t,c5.n,c5.g⟩,
  mf m5 B1,
  ⟨q5.k,m5.a,m5.i,q5.kk⟩,
  q5.h,
  ⟨_,c6.xc,eW X G c6.a,c6.t,c6.n,c6.g⟩,
  mf m6 B1,
  ⟨q6.k,m6.a,m6.i,q6.kk⟩,
  q6.h,
  ⟨_,c7.xc,eW X G c7.a,c7.t,c7.n,c7.g⟩,
  mf m7 B1,
  ⟨q7.k,m7.a,m7.i,q7.kk⟩,
  q7.h,
  ⟨_,c8.xc,eW X G c8.a,c8.t,c8.n,c8.g⟩,
  mf m8 B1,
  ⟨q8.k,m8.a,m8.i,q8.kk⟩,
  q8.h,
  ⟨_,c9.xc,eW X G c9.a,c9.t,c9.n,c9.g⟩,
  mf m9 B2,
  ⟨q9.k,m9.a,m9.i,q9.kk⟩,
  q9.h,
  vf X G v0,
  vf X G v1,
  vf X G v2,
  vf X G v3,
  gf X G m10 B2,
  ⟨_,c10.c,eW X G c10.a,c10.no⟩,
  mf m11 B1,
  mf m12 B2,
  mf m13 B3,
  mf m14 B3,
  mf m15 B1,
  mf m16 B3,
  mf m17 B1,
  ⟨c10.k,m11.a,m11.i,c10.kk⟩,
  ⟨_,c11.c,eW X G c11.a,c11.no⟩,
  mf m18 B4,
  ⟨c11.k,m18.a,m18.i,c11.kk⟩,
  gf X G m19 B1,
  gf X G m20 B1,
  gf X G m21 B1,
  gf X G m22 B1,
  gf X G m23 B1,
  gf X G m24 B1,
  gf X G m25 B2,
  vf X G v4,
  ⟨_,c12.c,eW X G c12.a,c12.no⟩,
  mf m26 B1,
  mf m27 B3,
  mf m28 B2,
  mf m29 B2,
  ⟨c12.k,n12.1,c12.kk⟩,
  ⟨_,c13.c,eW X G c13.a,c13.no⟩,
  mf m30 B2,
  mf m31 B1,
  mf m32 B3,
  mf m33 B2,
  mf m34 B2,
  ⟨c13.k,m30.a,m30.i,c13.kk⟩,
  ⟨_,c14.c,eW X G c14.a,c14.no⟩,
  mf m35 B1,
  mf m36 B3,
  mf m37 B2,
  mf m38 B2,
  ⟨c14.k,n14.1,c14.kk⟩,
  ⟨_,c15.c,eW X G c15.a,c15.no⟩,
  mf m39 B1,
  mf m40 B3,
  mf m41 B2,
  mf m42 B2,
  ⟨c15.k,n15.1,c15.kk⟩,
  gf X G m43 B3,
  gf X G m44 B4,
  ⟨_,c16.c,eW X G c16.a,c16.no⟩,
  mf m45 B3,
  mf m46 B3,
  mf m47 B4,
  mf m48 B3,
  ⟨c16.k,m45.a,m45.i,c16.kk⟩,
  ⟨_,c17.c,eW X G c17.a,c17.no⟩,
  mf m49.mp B5,
  mf m50 B4,
  ⟨c17.k,n17.1,c17.kk⟩,
  ⟨_,c18.c,eW X G c18.a,c18.no⟩,
  mf m51 B2,
  mf m52 B5,
  mf m53 B4,
  ⟨c18.k,m51.a,m51.i,c18.kk⟩,
  ⟨_,c19.c,eW X G c19.a,c19.no⟩,
  mf m54 B2,
  mf m55 B5,
  mf m56 B4,
  ⟨c19.k,m54.a,m54.i,c19.kk⟩,
  gf X G m57 B4,
  gf X G m58 B2,
  vf X G v5,
  gf X G m59 B2,
  gf X G m60 B1,
  gf X G m61 B1,
  gf X G m62 B2,
  gf X G m63 B1,
  gf X G m64 B1,
  gf X G m65 B1,
  gf X G m66 B1,
  gf X G m67 B2,
  gf X G m68 B2,
  gf X G m69 B2,
  gf X G m70 B2,
  vf X G v6,
  vf X G v7,
  vf X G v8,
  vf X G v9,
  vf X G v10,
  vf X G v11,
  vf X G v12,
  vf X G v13,
  vf X G v14,
  vf X G v15,
  ⟨_,c20.c,eW X G c20.a,c20.no⟩,
  mf m71 B2,
  mf m72 B1,
  mf m73 B2,
  mf m74 B1,
  mf m75 B2,
  mf m76 B2,
  mf m77 B1,
  mf m78 B1,
  mf m79 B1,
  ⟨c20.k,m71.a,m71.i,c20.kk⟩,
  gf X G m80 B1,
  gf X G m81 B2,
  gf X G m82 B2,
  gf X G m83 B2,
  gf X G m84 B2,
  gf X G m85 B2,
  gf X G m86 B2,
  gf X G m87 B2,
  gf X G m88 B2,
  gf X G m89 B2,
  gf X G m90 B2,
  gf X G m91 B2,
  gf X G m92 B2,
  gf X G m93 B2,
  gf X G m94 B2,
  gf X G m95 B2,
  gf X G m96 B2,
  gf X G m97 B2,
  gf X G m98 B2,
  gf X G m99 B2,
  gf X G m100 B2,
  gf X G m101 B2,
  gf X G m102 B1,
  gf X G m103 B1,
  gf X G m104 B3,
  gf X G m105 B2,
  gf X G m106 B1,
  fj X G nb.1,
  fj X G nb.2.1,
  fj X G nb.2.2.1,
  fj X G nb.2.2.2.1,
  fj X G nb.2.2.2.2.1,
  fj X G nb.2.2.2.2.2.1,
  fj X G nb.2.2.2.2.2.2.1,
  fj X G nb.2.2.2.2.2.2.2.1,
  fj X G nb.2.2.2.2.2.2.2.2.1,
  fj X G nb.2.2.2.2.2.2.2.2.2.1,
  fj X G nb.2.2.2.2.2.2.2.2.2.2.1,
  fj X G nb.2.2.2.2.2.2.2.2.2.2.2.1,
  fj X G nb.2.2.2.2.2.2.2.2.2.2.2.2.1,
  _,
  eW X G w0.a,
  _,
  eW X G w1.a,
  w1.q,
  _,
  eW X G w2.a,
  w2.q,
  w0.q⟩,rfl,rfl⟩
 obtain⟨T,eA,eF⟩:=T0
 have e:=hfa.symm.trans T.answers.mg
 cases e
 refine⟨T.answers.fd,λs us hu=>?_,λbase _ _ bm=>?_⟩
 ·obtain⟨oc,od,kV,doc,pm,an,cdv,ct,osl,e,_,_⟩:=T.answers.fn.ex
  rw[e]
  exact .of_eq ((B1:BA "answers" "answers" uN ["calls"]) kV doc pm an cdv ct us hu)
 ·refine Ip T (Cc tb) (Ma T ⟨?_,bm⟩)
  obtain⟨oc,od,kV,doc,pm,an,cdv,ct,osl,e,lk,_⟩:=T.bf.fn.ex
  obtain⟨_,_,_,_,_,_,_,_,ll⟩:=m49.l
  rw[eF,ll]at lk
  injection lk with lk
  injection lk with _ _ lk _
  injection lk with lk
  rw[<-lk]
  exact⟨lc,rfl,m49.h⟩
end
end Bx
end
section
namespace Bx
open PySem PySem.Spec PySem.Calls PyProof.Rows L2
open PySem.W (WData)
theorem VJ{K:af}{H0:Hp}{xs:List V}{l:List Int}{tb:Addr}{E:XK}(hn:H0 tb=none)(hk:K.lookup tb=none)(hask:qW l=true)(hx:rZ K H0 xs [WData.list (l.map WData.int)]):
  Wa K (Cc tb) xs (upd H0 tb (.zg #[])) (λv H'=>Dw K H' v (WData.list ((xF l).map WData.int))) E:=by
 cases hx with
 |cons h1 h2=>
  cases h2
  cases h1 with
  |lst hs ha=>
   have e:=Kg l _ ha
   subst e
   obtain⟨Cs,e1,_,e2,_,e3⟩:=Bp.FI hask
   have ne:∀{a:Addr},cJ K H0 a (l.map V.int)->a≠tb:=λ{a} q=>by
    rintro rfl
    rcases q with (q|⟨o,q⟩)|⟨o,its,n,q,_⟩
    ·rw[hn]at q
     cases q
    ·rw[hn]at q
     cases q
    ·rw[hk]at q
     cases q
   have n1:=ne hs
   refine⟨_,Cs,rfl,n1,?_,e2,⟨#[],ag,.inl rfl⟩,λp H' _ hp=>.lst (cJ.of hp) ?_⟩
   ·rw[<-e1]
    rcases hs with (q|⟨o,q⟩)|q
    ·exact .inl (.inl (by rw[az n1];exact q))
    ·exact .inl (.inr ⟨o,by rw[az n1];exact q⟩)
    ·exact .inr q
   ·rw[e3]
    exact JZ _
end Bx
end
open PySem PySem.W PyProof.Rows
local macro_rules | `(tactic| o_headS ($f $K $as $p)) => `(tactic| refine holds_os (q := Bx.q0) (loose := Bx.tG) (Xt := Bx.UH) (XP := XL Bx.q0 []) (Yf := Hook.obs (kmHook $K $as $p [567])) (Ya := Hook.val (kmHook $K $as $p [567])) (YP := Hook.says (kmHook $K $as $p [567])) (N := 9000) (Bx.UL (Bx.Vu ?_ ?_ ?_)) (Hook.of _) (Hook.keeps _) (fun s e => xl_of s (Bool.and_eq_true_iff.mp e).1) XL.keeps (by rfl) (by rfl) (by rfl) (fun s e => recFacts_of (Bool.and_eq_true_iff.mp e).2) os_shapes (by first | assumption | decide +kernel) (by decide +kernel) ⟨rfl, rfl, rfl, rfl, rfl, by decide +kernel⟩ ?_ ?_)
set_option maxRecDepth 100000 in
set_option maxHeartbeats 0 in
theorem PySem.Challenge.cw_boardpresses_s01_answers_holds : PySem.Challenge.rw_boardpresses_s01_answers.Holds := by
 w_on;k_headS
 ·exact λP=>by kernel_rfl
 ·exact λP=>by kernel_rfl
 ·kernel_rfl
 ·exact⟨[.list [.int 3]],by decide+kernel,by decide+kernel⟩
 k_fillS
 refine L2.Td (r:=oy) (k:=94) (tb:=567) (ct:=571) (CX:=λw=>L2.du oy.prog w) (ps:=["calls"]) (sp:=λw=>Bx.Wa (PySem.Challenge.cw_boardpresses_s01_answers_holds.heap_1 w.params) (Bx.Cc 567)) (by decide+kernel) rfl rfl ⟨rfl,by decide,by decide⟩ (λw h Y=>PySem.W.km_in_of Y) (λw h Y=>PySem.W.km_tabs_of Y 567 (by simp)) (λP=>by kernel_rfl) (λP=>by kernel_rfl) ?F ?S (λ_ _ _ _ _ z=>L2.TM z)
 case F=>
  intro w mg fa h Y KX G hmg
  refine' Bx.all_mk (tb:=567) KX G hmg ?_ ?_ ?_ ?_ ?_ ?_ ?_ ?_ ?_ ?_ ?_ ?_ ?_ ?_ ?_ ?_ ?_ ?_ ?_ ?_ ?_ ?_ ?_ ?_ ?_ ?_ ?_ ?_ ?_ ?_ ?_ ?_ ?_ ?_ ?_ ?_ ?_ ?_ ?_ ?_ ?_ ?_ ?_ ?_ ?_ ?_ ?_ ?_ ?_ ?_ ?_ ?_ ?_ ?_ ?_ ?_ ?_ ?_ ?_ ?_ ?_ ?_ ?_ ?_ ?_ ?_ ?_ ?_ ?_ ?_ ?_ ?_ ?_ ?_ ?_ ?_ ?_ ?_ ?_ ?_ ?_ ?_ ?_ ?_ ?_ ?_ ?_ ?_ ?_ ?_ ?_ ?_ ?_ ?_ ?_ ?_ ?_ ?_ ?_ ?_ ?_ ?_ ?_ ?_ ?_ ?_ ?_ ?_ ?_ ?_ ?_ ?_ ?_ ?_ ?_ ?_ ?_ ?_ ?_ ?_ ?_ ?_ ?_ ?_ ?_ ?_ ?_ ?_ ?_ ?_ ?_ ?_ ?_ ?_ ?_ ?_ ?_ ?_ ?_ ?_ ?_ ?_ ?_ ?_ ?_ ?_ ?_ ?_ ?_ ?_ ?_ ?_ ?_ ?_ ?_ ?_ ?_ ?_ ?_ ?_ ?_ ?_
  all_goals first
   |(refine' Bx.V7 ?a ?i ?l ?c ?k;(case a=>k_is);(case i=>k_is);(case l=>k_is);(case c=>k_is);(case k=>k_is))
   |(refine' Bx.V5 ?a ?l ?c ?k;(case a=>k_is);(case l=>k_is);(case c=>k_is);(case k=>k_is))
   |(refine' Bx.Wf ?a;(case a=>k_is))
   |(refine' Bx.XP.mk ?a ⟨?b,?c,?d⟩ ?e ?f ⟨?g,?h,?i,?j⟩;(case a=>k_is);(case b=>k_is);(case c=>kernel_rfl);(case d=>k_is);(case e=>k_is);(case f=>k_is);(case g=>k_is);(case h=>k_is);(case i=>k_is);(case j=>k_is))
   |(refine' Bx.XQ.mk ?a ?b ⟨?c,?d,?e,?f⟩;(case a=>kernel_rfl);(case b=>k_is);(case c=>k_is);(case d=>kernel_rfl);(case e=>k_is);(case f=>k_is))
   |(refine' Bx.CP.mk ?a ⟨?b,?c,?d,?e⟩ ?f ?g ?_;(case a=>k_is);(case b=>k_is);(case c=>k_is);(case d=>k_is);(case e=>k_is);(case f=>k_is);(case g=>k_is);(repeat (refine' Bx.UR ?a ?_;(case a=>k_is)));exact Bx.Vm)
   |(refine' Bx.NP.mk ?a;(case a=>k_is))
   |(refine' Bx.V6 ?a ?i ?l ?c ?k ?h;(case a=>k_is);(case i=>k_is);(case l=>k_is);(case c=>k_is);(case k=>k_is);(case h=>kernel_rfl))
   |(refine' Bx.V9 ?a ?l ?s ?_;(case a=>k_is);(case l=>k_is);(case s=>exact(by decide));repeat first|exact .nil|refine' .cons ⟨_,rfl⟩ ?_|refine' .cons rfl ?_)
   |((repeat (refine' Bx.US ?a ?_;(case a=>k_is)));exact Bx.Vn)
   |(refine' L2.RE.mk ?a ?b ?c ?d;(case a=>k_is);(case b=>k_is);(case c=>k_is);(case d=>k_is))
   |skip
 case S=>
  intro w H0 xs a hO hn hk hwi hask hx
  exact Bx.VJ (l:=a.1) hn hk hask hx
