import PyProof.Rows.All
import Wide.All
import OpenK.AllK
import Wide.FinOn
import PyProof.EqAt
import PyProof.EqKinds
import PyProof.TupleCall
import KE.BitLaws
import Open.SpecLaws
import KE.OsHead
import KE.OsGo
import PyProof.InstStoreFacts
import PyProof.ExcInit
import PyProof.ExcArgsOwn
import PyProof.ExcBaseAll.Exception
import PyProof.ExcAttrAll.Exception
import PyProof.NsDelKeeps
import PySem.Challenge.RW_boxranks_s01_answers
open PySem.W renaming Frag->ai,findIn->cQ,nsIn->c_,keepIn->ib,mg_none_of->lM,fnOf->lT,mg_of->mQ,emptyDict->pN,plainGet->pO,hasDictIn->rD,makesIn->rF,instObj->rG,plainOver->ud,codeIn->wW,isFn->Ao,callWith_K->GB,lookIn->G2,plainGet_of->PK,methodObj->PU,takerIn->P_,length_le_weightAllW->agS,cellsFrom_some->aha,handedIn->ahs,WRecords->aht
open Or renaming inl->ay,inr->rQ
open List renaming length_map->aA,length_append->bf,mem_cons->bz,getElem?_eq_some_iff->bE,map_append->bI,length_cons->bJ,mem_of_getElem?->bL,mem_cons_of_mem->bR,getElem?_eq_getElem->bX,mem_cons_self->bY,getElem?_map->ck,size_toArray->cI,mem_map->cJ,take_length->cO,mem_append->cP,range->cW,mem_singleton->cY,mem_filter->dh,mem_append_left->dZ,mem_append_right->eL,replicate->eO,map_cons->eV,length_take->fC,length_singleton->fZ,filter_cons->f_,append_nil->gP,mem_range->gQ,takeWhile_cons->jL,length_set->jO,find?_cons->jP,getElem?_eq_none_iff->lH,find?_eq_none->lO,length_drop->lQ,map_map->lU,flatMap_cons->mO,append_assoc->mP,length_filter_le->ot,filter_append->ou,getElem?_set_self->pJ,find?_cons_of_neg->pK,getElem?_set_ne->pL,flatMap_append->pM,foldl_cons->pQ,sum_cons->pS,getElem?_append_left->rz,length_eq_zero_iff->rA,mem_of_mem_take->rC,all_eq_true->rE,lookup->rO,replicate_succ->ub,getElem?_range->uc,lookup_cons->ue,nil_append->ug,length_nil->uh,drop_eq_getElem_cons->wJ,getElem_of_mem->wK,pairwise_cons->wL,ext_getElem?->wQ,nodup_cons->wV,drop_drop->wX,any_cons->wZ,length->w_,mem_iff_getElem->Ab,take_succ_cons->Ac,filter_sublist->Ae,map_inj_right->Af,flatten_cons->Ag,getElem_mem->Ai,cons_append->Aj,getLast?_eq_some_getLast->Gp,dropLast_concat_getLast->Gq,take_of_length_le->Gu,pairwise_lt_range->Gv,length_pos_of_mem->Gw,drop_eq_nil_iff->Gz,mem_map_of_mem->GC,length_zipIdx->GD,reverse_cons->GH,length_range->GJ,foldl_append->GK,find?_append->GL,filter_congr->GN,flatMap_nil->GU,any_eq_true->GV,range_succ->G3,drop_zero->Hc,map_take->Hd,map_set->Hi,map_nil->Hj,find?_eq_some_iff_getElem->Pt,eq_nil_iff_forall_not_mem->Pu,mem_of_find?_eq_some->Pw,getElem?_replicate->Pz,getElem?_cons_succ->PB,take_append_drop->PF,getElem?_eq_none->PH,contains_iff_mem->PJ,getElem?_zipIdx->PL,map_congr_left->PN,length_pos_iff->PQ,filterMap_cons->PR,mem_filterMap->PY,take_add_one->P7,nodup_append->P8,getLast_mem->Qc,getElem_inj->Qe,drop_length->Qg,of_mem_zip->Qj,nodup_nil->Qo,map_drop->Qs,foldl->QG,findIdx?_eq_some_iff_getElem->agP,exists_mem_of_length_pos->agW,mem_zipIdx_iff_getElem?->agY,length_eraseIdx_of_lt->ag7,getElem?_append_right->ag8,getD_eq_getElem?_getD->ag9,mem_take_iff_getElem->ahc,findIdx?_eq_none_iff->ahd,length_erase_of_mem->ahh,range_succ_eq_map->ahj,filter_eq_nil_iff->ahk,getElem?_toArray->ahl,length_reverse->ahv,erase_sublist->ahC,contains_cons->ahD
open Nat renaming le_refl->aT,le_trans->cp,zero_le->cw,ne_of_lt->cV,min->dP,lt_of_lt_of_le->eM,lt_irrefl->iP,lt_succ_of_lt->jM,le_succ->mS,lt_succ_self->pP,ne_of_gt->pV,max->rP,le_antisymm->ui,le_of_lt->uk,le_of_eq->As,lt_of_le_of_lt->GG,le_of_succ_le->GP,lt_trans->Hl,lt_trichotomy->Qa,not_lt_zero->Ql,add_mul->QF,pow_le_pow_right->ahu
open PySem.Paired renaming length->a7
open PySem renaming Spec->a_,boot_len->bZ,mem_of_lookup->jf,Within->Ar
open PySem.Heap renaming get?_push_of_some->bH,lt_size->bO,get?_push_size->dG,size_push->fD,get?_update_other->lK,SameBut->ox,get?_update_self->rB,get?_update_ne->ahx
open PySem.Value renaming ref->cD,none->d7,type->pW,int->xf,builtin->An,isInt->Hm,str->Ho,isInt_shape->ahz
open Bool renaming false_ne_true->cG,eq_iff_iff->gb,and_eq_true->iM,noConfusion->kD,or_eq_true->Al,false_or->He,eq_false_iff->P9,false_and->Qp,true_or->QA,or_true->QB,and_eq_true_iff->ahq
open Sum renaming inl->cK,inr->um
open Vadiaa renaming ranks->cR,looked->dk,Diagram->d6,turned->eE,arcs->eF,wishArcs->eN,circled->iO,exact->iQ,nats->jg,numberOf->jN,read->jR,withBox->kF,downs->kG,Box->kH,greedySet->lP,choose->lS,empty->mR,Edge->oy,way->oz,total->pU,showBox->rH,step->rK,Call->rL,showEdge->uf,longRanks->wR,showWish->wU,boxNo->w6,twice->Ap,shown->Aq,circleAnswer->GA,edgeAnswer->GF,boxAnswer->GO,settled->G4,reached->G_,parts->Hf,open_->Hg,HIGH->Hk,bit->Hn,rankCount->P1,takeNum->Qh,WISHES->Qm,EDGES->Qq,BOXES->Qr,line->Qv,WIDE->Qw
open Option.some renaming inj->cZ
open PySem.PassesOwn renaming never->d5,leaving->mL
open Array renaming length_toList->fg,getD->pX,getElem?_eq_getElem->rq,getElem?_eq_some_iff->Gr,getElem?_eq_none->Gs,getElem?_toList->Gx,toList->Qu,mem_toList_iff->ahn,find?_toList->ahy,toList_push->ahE
open PySem.F renaming plainAttrs_list->fA,type_list_append->lI,slot_list_append->lJ,type_list_extend->t_,slot_list_extend->ua,store_Exception->Py,excBase_Exception->agX,args_tuple_add_2->ag0,slot_list_index->ag4,entry_tuple_add->ag5,slot_tuple_add->ahb
open VadiaaNeutral renaming step->fB,bytesOf->lL,asked1->Px,natural->agT,callOf->agV
open False renaming elim->fE
open PyVadiaa renaming shape->jQ,whole->GZ,calls->G0,answers->PV,answers_asked->ag3
open PySem.SetTable renaming below->lR,grown->uj,insertAt->PM,Probe->ahB
open VadiBase renaming numberOf->mM,token->pR,RESERVED->wM,index->Ak,NUMBER->GR,next->Ha,tokens->P2,ARROW->ahA
open True renaming intro->mT
open PyFlat renaming calls->ow,played->rJ,told->rM,call->Qx
open PySem.PyData renaming int->oA,canLayAll0->PX,depthAll->Qb,eqvAll->Qn,eqv->QE
open PySem.Obj renaming mapSeq->oB,mapFields->pT,data_mapFields->wN,isFreed_of_fields->Gy
open UInt8 renaming toNat->rN,toNat_inj->GY,ofNat->QC,toNat_ofNat'->ahr
open PySem.Builtin.List renaming listTooLong->wI,listLengthHint->agN,listExtendWith->agO,listSameRef->agR
open Option renaming isSome_map->wO,map_some->GW,getD_some->P5,getD_none->P6,none->Qy,isSome_iff_exists->ag6,isSome_some->ahp
open PySem.NameKind renaming free->wY,cell->Qi
open PySem.W.Codec renaming encAll->w8,app->Au,denoteAll->G1
open PySem.Str renaming ofString->w9,empty->xg
open PyProof.Rows renaming seqObj->z_,callWith_type1->Pr
open PySem.Around renaming under_plainId->Aa,under->Qt
open Int renaming toNat_natCast->Ah,zero_mul->QD
open List.cons renaming inj->Am
open ForInStep renaming yield->GQ
open PySem.W.WData renaming weightAll->GX
open PySem.SeqAt renaming shaped->Hh
open PySem.Data renaming seq->Hq
open PyProof.Rows.F renaming plain_set_update_loop->Pq,entry_set_update_loop->agK
open PySem.SetTable.probe renaming go->PD
open PySem.Code renaming quiet_builtin->PZ,isFrame->Qz
open NeutralIO renaming bytes->P0
open PySem.pickOrder renaming go->Qk
open PySem.Challenge renaming rw_boxranks_s01_answers->agJ
open PySem.Builtin.Frozenset renaming sizeOf->agL,slot0->agM
open PySem.Builtin.Range renaming rangeSize->agQ
open Classical renaming byContradiction->agU
open PySem.SetTable.below renaming go->agZ
open PySem.Heap.SameBut renaming update->ag1
open PySem.Calls renaming Name_function_global->ag2,callWith_builtin->ahi
open List.Pairwise renaming map->ag_
open PySem.EntryCells renaming newEntry->ahe
open PySem.SeqAt.EqAt renaming str_int->ahf,int_str->ahg
open PySem.Heap.Ns1 renaming of_empty->ahm
open PySem.Value.type renaming inj->aho
open List.Perm renaming refl->ahw
namespace Br
open Vadiaa
inductive Reach(l:List Arc):Nat->Nat->Prop
 |refl (v:Nat):Reach l v v
 |step {u v w:Nat}:Reach l u v->(v,w)∈l->Reach l u w
def bg(l:List Arc):Prop:=∃f:Nat->Nat,∀a∈l,f a.1<f a.2
def bt(n:Nat)(l:List Arc):Prop:=∀a∈l,a.1<n/\a.2<n
theorem Reach.mono{l l':List Arc}(h:∀a∈l,a∈l'){u v:Nat}(r:Reach l u v):Reach l' u v:=by
 induction r with
 |refl=>exact .refl _
 |step _ e ih=>exact .step ih (h _ e)
theorem Reach.trans{l:List Arc}{u v w:Nat}(r:Reach l u v)(q:Reach l v w):Reach l u w:=by
 induction q with
 |refl=>exact r
 |step _ e ih=>exact .step ih e
theorem Reach.head{l:List Arc}{u v w:Nat}(e:(u,v)∈l)(q:Reach l v w):Reach l u w:=(Reach.step (.refl u) e).trans q
theorem Reach.le{l:List Arc}{f:Nat->Nat}(hf:∀a∈l,f a.1<f a.2){u v:Nat}(r:Reach l u v):u=v\/f u<f v:=by
 induction r with
 |refl=>exact .inl rfl
 |step _ e ih=>
  have h:=hf _ e
  simp only at h
  rcases ih with rfl|q
  ·exact .inr h
  ·exact .inr (Hl q h)
theorem Reach.bound{l:List Arc}{n:Nat}(hn:bt n l){u v:Nat}(r:Reach l u v)(hu:u<n):v<n:=by
 induction r with
 |refl=>exact hu
 |step _ e _=>exact(hn _ e).2
theorem bg.mono{l l':List Arc}(h:∀a∈l',a∈l):bg l->bg l':=λ⟨f,hf⟩=>⟨f,λa ha=>hf a (h a ha)⟩
theorem bg.nil:bg []:=⟨λ_=>0,λ_ h=>by simp at h⟩
theorem bg.QH{l:List Arc}(d:bg l){a:Arc}(ha:a∈l):¬Reach l a.2 a.1:=λr=>by
 obtain⟨f,hf⟩:=d
 have h:=hf a ha
 rcases r.le hf with e|e
 ·rw[e]at h;exact iP _ h
 ·omega
theorem bg.cons{l:List Arc}{a:Arc}:bg (a::l)↔bg l/\¬Reach l a.2 a.1:=by
 constructor
 ·intro d
  exact⟨d.mono λb hb=>bR _ hb,λr=>d.QH (bY) (r.mono λb hb=>bR _ hb)⟩
 ·rintro ⟨⟨f,hf⟩,nr⟩
  refine⟨λv=>open Classical in if Reach l a.2 v then f v+f a.1+1 else f v,λb hb=>?_⟩
  rcases bz.mp hb with rfl|hb
  ·simp only[if_neg nr,if_pos (Reach.refl (l:=l) b.2)]
   omega
  ·have h:=hf b hb
   by_cases h1:Reach l a.2 b.1
   ·have h2:Reach l a.2 b.2:=.step h1 hb
    simp only[if_pos h1,if_pos h2]
    omega
   ·by_cases h2:Reach l a.2 b.2
    ·simp only[if_neg h1,if_pos h2]
     omega
    ·simp only[if_neg h1,if_neg h2]
     exact h
theorem bg.iff_of_mem{l l':List Arc}(h:∀a,a∈l↔a∈l'):bg l↔bg l':=⟨bg.mono λa ha=>(h a).mpr ha,bg.mono λa ha=>(h a).mp ha⟩
theorem Av:∀{n:Nat}{l:List Nat},l.Nodup->(∀x∈l,x<n)->l.length<=n
 |0,l,_,h=>by
  cases l with
  |nil=>simp
  |cons a t=>exact absurd (h a bY) (by omega)
 |n+1,l,nd,h=>by
  have h1:(l.erase n).length<=n:=Av (nd.sublist ahC) λx hx=>by
   have ic:=(nd.mem_erase_iff).mp hx
   have:=h x ic.2
   omega
  have h2:=List.length_erase (a:=n) (l:=l)
  split at h2<;>omega
def grow(us:List Nat)(l:List Arc):List Nat:=l.foldl (λus a=>if us.contains a.2=true then us else us++[a.2]) us
theorem Hr(us:List Nat):grow us []=us:=rfl
theorem Aw(us:List Nat)(a:Arc)(l:List Arc):grow us (a::l)=grow (if us.contains a.2=true then us else us++[a.2]) l:=rfl
theorem Ax:∀(l:List Arc)(us:List Nat),∃t,grow us l=us++t
 |[],us=>⟨[],by simp[Hr]⟩
 |a::l,us=>by
  rw[Aw]
  split
  ·exact Ax l us
  ·obtain⟨t,e⟩:=Ax l (us++[a.2])
   exact⟨a.2::t,by rw[e];simp⟩
theorem uo:∀(l:List Arc)(us:List Nat)(x:Nat),x∈grow us l↔x∈us\/∃a∈l,a.2=x
 |[],us,x=>by simp[Hr]
 |a::l,us,x=>by
  rw[Aw,uo l]
  split
  ·rename_i h
   have h':a.2∈us:=by simpa using h
   constructor
   ·rintro (h1|⟨b,hb,e⟩)
    ·exact .inl h1
    ·exact .inr ⟨b,bR _ hb,e⟩
   ·rintro (h1|⟨b,hb,e⟩)
    ·exact .inl h1
    ·rcases bz.mp hb with rfl|hb
     ·exact .inl (e▸h')
     ·exact .inr ⟨b,hb,e⟩
  ·constructor
   ·rintro (h1|⟨b,hb,e⟩)
    ·rcases cP.mp h1 with h1|h1
     ·exact .inl h1
     ·exact .inr ⟨a,bY,(cY.mp h1).symm⟩
    ·exact .inr ⟨b,bR _ hb,e⟩
   ·rintro (h1|⟨b,hb,e⟩)
    ·exact .inl (dZ _ h1)
    ·rcases bz.mp hb with rfl|hb
     ·exact .inl (eL _ (by simp[e]))
     ·exact .inr ⟨b,hb,e⟩
theorem Ay:∀(l:List Arc)(us:List Nat),us.Nodup->(grow us l).Nodup
 |[],us,h=>h
 |a::l,us,h=>by
  rw[Aw]
  split
  ·exact Ay l us h
  ·rename_i q
   refine Ay l _ (P8.mpr ⟨h,by simp,?_⟩)
   intro x hx y hy
   simp at hy
   subst hy
   rintro rfl
   exact q (by simpa using hx)
theorem QI(l:List Arc)(k i:Nat)(vs:List Nat):spread l (k+1) i vs=match vs[i]? with
  |none=>vs
  |some v=>spread l k (i+1) (grow vs (l.filter λa=>a.1==v)):=rfl
structure xh(n:Nat)(l:List Arc)(v:Nat)(i:Nat)(vs:List Nat):Prop where
 nd:vs.Nodup
 lt:∀x∈vs,x<n
 Hs:v∈vs
 Az:∀x∈vs,Reach l v x
 closed:∀(j:Nat)(x:Nat),j<i->vs[j]? =some x->∀a∈l,a.1=x->a.2∈vs
 le:i<=vs.length
theorem Ht{n:Nat}{l:List Arc}{v:Nat}(hn:bt n l):∀(k i:Nat)(vs:List Nat),xh n l v i vs->n+1<=k+i->xh n l v (spread l k i vs).length (spread l k i vs)
 |0,i,vs,S,h=>by
  have h1:=Av S.nd S.lt
  have h2:=S.le
  omega
 |k+1,i,vs,S,h=>by
  rw[QI]
  cases e:vs[i]? with
  |none=>
   have h1:vs.length<=i:=lH.mp e
   have h2:i=vs.length:=ui S.le h1
   show xh n l v vs.length vs
   rw[<-h2]
   exact S
  |some x=>
   have hi:i<vs.length:=(bE.mp e).1
   have hx:x∈vs:=bL e
   obtain⟨t,et⟩:=Ax (l.filter λa=>a.1==x) vs
   have e_:∀y,y∈vs->y∈grow vs (l.filter λa=>a.1==x):=λy hy=>(uo _ _ _).mpr (.inl hy)
   refine Ht hn k (i+1) _ ⟨Ay _ _ S.nd,λy hy=>?_,e_ _ S.Hs,λy hy=>?_,λj y hj ej a ha e1=>?_,?_⟩ (by omega)
   ·rcases(uo _ _ _).mp hy with hy|⟨a,ha,rfl⟩
    ·exact S.lt y hy
    ·exact(hn a (dh.mp ha).1).2
   ·rcases(uo _ _ _).mp hy with hy|⟨a,ha,rfl⟩
    ·exact S.Az y hy
    ·obtain⟨h1,h2⟩:=dh.mp ha
     have h3:a.1=x:=by simpa using h2
     refine .step (S.Az x hx) ?_
     rw[<-h3];exact h1
   ·by_cases jh:j<i
    ·have QJ:vs[j]? =some y:=by
      rw[et,rz (by omega)]at ej
      exact ej
     exact e_ _ (S.closed j y jh QJ a ha e1)
    ·have:j=i:=by omega
     subst this
     have ey:y=x:=by
      rw[et,rz hi,e]at ej
      exact(cZ ej).symm
     subst ey
     exact(uo _ _ _).mpr (.inr ⟨a,dh.mpr ⟨ha,by simp[e1]⟩,rfl⟩)
   ·rw[et,bf];omega
theorem oC{n:Nat}{l:List Arc}{v u:Nat}(hn:bt n l)(hv:v<n):u∈reached n l v↔Reach l v u:=by
 have S:xh n l v (reached n l v).length (reached n l v):=Ht hn (n+1) 0 [v] ⟨by simp,by simpa using hv,by simp,by simpa using Reach.refl v,λj x hj=>by omega,by simp⟩ (by omega)
 constructor
 ·exact S.Az u
 ·intro r
  induction r with
  |refl=>exact S.Hs
  | @step y z _ e ih=>
   obtain⟨j,hj,ej⟩:=Ab.mp ih
   exact S.closed j y hj (by rw[bX hj,ej]) _ e rfl
def pk(l:List Arc)(vs:List Nat):List Nat:=vs.filter λv=>l.any λa=>a.2==v&&vs.contains a.1
theorem Hu(l:List Arc)(n:Nat)(vs:List Nat):peel l (n+1) vs=peel l n (pk l vs):=rfl
theorem Hv{l:List Arc}{vs:List Nat}(h:pk l vs=vs):∀n,peel l n vs=vs
 |0=>rfl
 |n+1=>by rw[Hu,h,Hv h n]
theorem AA{l:List Arc}{vs:List Nat}{v:Nat}:v∈pk l vs↔v∈vs/\∃a∈l,a.2=v/\a.1∈vs:=by
 unfold pk
 rw[dh]
 simp
theorem AB{l:List Arc}:∀(n:Nat)(vs:List Nat),peel l n vs=[]->∃f:Nat->Nat,(∀v∈vs,f v<n)/\∀a∈l,a.1∈vs->a.2∈vs->f a.1<f a.2
 |0,vs,h=>⟨λ_=>0,λv h1=>by rw[show vs=[]from h]at h1;simp at h1,λa _ h1=>by rw[show vs=[]from h]at h1;simp at h1⟩
 |n+1,vs,h=>by
  obtain⟨f,hb,hf⟩:=AB n (pk l vs) h
  refine⟨λv=>if v∈pk l vs then f v+1 else 0,λv _=>?_,λa ha h1 h2=>?_⟩
  ·simp only
   split
   ·rename_i hv
    have:=hb v hv;omega
   ·omega
  ·have m2:a.2∈pk l vs:=AA.mpr ⟨h2,a,ha,rfl,h1⟩
   by_cases m1:a.1∈pk l vs
   ·simp only[if_pos m1,if_pos m2]
    have:=hf a ha m1 m2
    omega
   ·simp only[if_neg m1,if_pos m2]
    omega
theorem AD{l:List Arc}(d:bg l):∀(n:Nat)(vs:List Nat),vs.length<=n->peel l n vs=[]
 |0,vs,h=>by
  show vs=[]
  exact rA.mp (by omega)
 |n+1,vs,h=>by
  rw[Hu]
  by_cases e:(pk l vs).length<vs.length
  ·exact AD d n _ (by omega)
  ·
   have e1:pk l vs=vs:=by
    have h1:(pk l vs).Sublist vs:=Ae
    exact h1.eq_of_length (ui h1.length_le (by omega))
   rw[e1,Hv e1]
   obtain⟨f,hf⟩:=d
   have none:∀(m v:Nat),f v<=m->v∉vs:=by
    intro m
    induction m with
    |zero=>
     intro v hv hm
     rw[<-e1]at hm
     obtain⟨_,a,ha,rfl,_⟩:=AA.mp hm
     have:=hf a ha
     omega
    |succ m ih=>
     intro v hv hm
     rw[<-e1]at hm
     obtain⟨_,a,ha,rfl,h1⟩:=AA.mp hm
     have:=hf a ha
     exact ih a.1 (by omega) h1
   exact Pu.mpr λv hv=>none (f v) v (aT _) hv
theorem rR{n:Nat}{l:List Arc}(hn:bt n l):open_ n l=true↔bg l:=by
 unfold open_
 rw[List.isEmpty_iff]
 constructor
 ·intro h
  obtain⟨f,_,hf⟩:=AB n _ h
  exact⟨f,λa ha=>hf a ha (gQ.mpr (hn a ha).1) (gQ.mpr (hn a ha).2)⟩
 ·intro d
  exact AD d n _ (by simp)
theorem Hw{n:Nat}{l:List Arc}(hn:bt n l)(d:bg l):∃f:Nat->Nat,(∀v,v<n->f v<n)/\∀a∈l,f a.1<f a.2:=by
 obtain⟨f,hb,hf⟩:=AB n (cW n) (AD d n _ (by simp))
 exact⟨f,λv hv=>hb v (gQ.mpr hv),λa ha=>hf a ha (gQ.mpr (hn a ha).1) (gQ.mpr (hn a ha).2)⟩
end Br
namespace Br
open Vadiaa
theorem Hy{l:List Nat}(nd:l.Nodup){i j x:Nat}(a:l[i]? =some x)(b:l[j]? =some x):i=j:=by
 obtain⟨h1,e1⟩:=bE.mp a
 obtain⟨h2,e2⟩:=bE.mp b
 exact(Qe nd).mp (e1.trans e2.symm)
def lastOf(w:List Nat):Nat:=w.getLast?.getD 0
theorem mU(w:List Nat)(b:Nat):lastOf (w++[b])=b:=by simp[lastOf]
def ext(w:List Nat)(y:List (List Nat)×List Nat)(b:Nat):List (List Nat)×List Nat:=if y.2.contains b=true then y else(y.1++[w++[b]],y.2++[b])
def outs(l:List Arc)(v:Nat):List Nat:=(l.filter λa=>a.1==v).map (·.2)
theorem AE{l:List Arc}{v b:Nat}:b∈outs l v↔(v,b)∈l:=by
 unfold outs
 rw[cJ]
 constructor
 ·rintro ⟨a,ha,rfl⟩
  obtain⟨h1,h2⟩:=dh.mp ha
  have h3:a.1=v:=by simpa using h2
  rw[<-h3];exact h1
 ·intro h
  exact⟨(v,b),dh.mpr ⟨h,by simp⟩,rfl⟩
theorem AF(l:List Arc)(to k i:Nat)(ws:List (List Nat))(seen:List Nat):ways l to (k+1) i ws seen=match ws[i]? with
  |none=>none
  |some w=>match w.getLast? with
   |none=>none
   |some v=>if v=to then some w else ways l to k (i+1) ((outs l v).foldl (ext w) (ws,seen)).1 ((outs l v).foldl (ext w) (ws,seen)).2:=by
 have e:∀(w:List Nat)(v:Nat)(y:List (List Nat)×List Nat),(outs l v).foldl (ext w) y=(l.filter λa=>a.1==v).foldl (λ(y:List (List Nat)×List Nat) a=>if y.2.contains a.2=true then y else(y.1++[w++[a.2]],y.2++[a.2])) y:=λw v y=>by
  unfold outs
  rw[List.foldl_map]
  rfl
 rw[ways]
 cases ws[i]? with
 |none=>rfl
 |some w=>
  dsimp only
  cases w.getLast? with
  |none=>rfl
  |some v=>
   dsimp only
   rw[e]
structure Bfs(n:Nat)(l:List Arc)(s:Nat)(ws:List (List Nat))(cf:Nat->Option Nat):Prop where
 nd:(ws.map lastOf).Nodup
 lt:∀x∈ws.map lastOf,x<n
 rS:∀x,(cf x).isSome=true↔x∈ws.map lastOf
 head:∀w∈ws,∃tl,w=s::tl/\s∉tl
 chain:∀w∈ws,∀p x y q,w=p++x::y::q->cf y=some x
 reach:∀w∈ws,Reach l s (lastOf w)
 sin:s∈ws.map lastOf
 wl:∀w∈ws,w.length<=ws.length
theorem Bfs.start{n:Nat}{l:List Arc}{s:Nat}(hs:s<n):Bfs n l s [[s]] (λx=>if x=s then some s else none) where
 nd:=by simp
 lt:=by intro x hx;simp[lastOf]at hx;omega
 rS:=by
  intro x
  by_cases h:x=s
  ·simp[h,lastOf]
  ·simp[h,lastOf]
 head:=by
  intro w hw
  exact⟨[],by simpa using hw,by simp⟩
 chain:=by
  intro w hw p x y q e
  have uq:w=[s]:=by simpa using hw
  rw[uq]at e
  have:=congrArg w_ e
  simp at this
  omega
 reach:=by
  intro w hw
  have uq:w=[s]:=by simpa using hw
  rw[uq]
  exact .refl s
 sin:=by simp[lastOf]
 wl:=by
  intro w hw
  have uq:w=[s]:=by simpa using hw
  rw[uq];simp
theorem QK{w:List Nat}{b:Nat}{p:List Nat}{x y:Nat}{q:List Nat}(e:w++[b]=p++x::y::q):(q=[]/\y=b/\∃p',w=p'++[x])\/∃q',q=q'++[b]/\w=p++x::y::q':=by
 rcases List.eq_nil_or_concat q with rfl|⟨q',c,rfl⟩
 ·refine .inl ⟨rfl,?_⟩
  have e':w++[b]=(p++[x])++[y]:=by rw[e];simp
  have:=List.append_inj' e' rfl
  exact⟨(Am this.2).1.symm,p,this.1⟩
 ·have e':w++[b]=(p++x::y::q')++[c]:=by rw[e];simp
  have:=List.append_inj' e' rfl
  have hc:b=c:=(Am this.2).1
  exact .inr ⟨q',by rw[hc];simp,this.1⟩
theorem QL(p:List Nat)(x:Nat):lastOf (p++[x])=x:=mU p x
theorem Bfs.add{n:Nat}{l:List Arc}{s:Nat}{ws:List (List Nat)}{cf:Nat->Option Nat}(B:Bfs n l s ws cf){w:List Nat}{b:Nat}(hw:w∈ws)(ha:(lastOf w,b)∈l)(hb:b<n)(hn:b∉ws.map lastOf):
  Bfs n l s (ws++[w++[b]]) (λx=>if x=b then some (lastOf w)else cf x) where
 nd:=by
  rw[bI]
  refine P8.mpr ⟨B.nd,by simp,?_⟩
  intro x hx y hy
  have:y=b:=by simpa[mU]using hy
  subst this
  rintro rfl
  exact hn hx
 lt:=by
  intro x hx
  rw[bI]at hx
  rcases cP.mp hx with hx|hx
  ·exact B.lt x hx
  ·have:x=b:=by simpa[mU]using hx
   omega
 rS:=by
  intro x
  rw[bI,cP]
  by_cases h:x=b
  ·subst h
   simp[mU]
  ·simp only[if_neg h]
   rw[B.rS]
   simp[mU,h]
 head:=by
  intro v hv
  rcases cP.mp hv with hv|hv
  ·exact B.head v hv
  ·have e:v=w++[b]:=by simpa using hv
   obtain⟨tl,e1,e2⟩:=B.head w hw
   refine⟨tl++[b],by rw[e,e1];simp,?_⟩
   intro hm
   rcases cP.mp hm with hm|hm
   ·exact e2 hm
   ·have:s=b:=by simpa using hm
    rw[<-this]at hn
    exact hn B.sin
 chain:=by
  intro v hv p x y q e
  have old:∀u∈ws,∀p x y q,u=p++x::y::q->cf y=some x/\y≠b:=λu hu p x y q e=>by
   have h1:=B.chain u hu p x y q e
   refine⟨h1,?_⟩
   rintro rfl
   exact hn ((B.rS y).mp (by rw[h1];rfl))
  rcases cP.mp hv with hv|hv
  ·obtain⟨h1,h2⟩:=old v hv p x y q e
   simp only[if_neg h2]
   exact h1
  ·have e1:v=w++[b]:=by simpa using hv
   rw[e1]at e
   rcases QK e with⟨_,rfl,p',e2⟩|⟨q',_,e2⟩
   ·simp only[if_true]
    rw[e2,QL]
   ·obtain⟨h1,h2⟩:=old w hw p x y q' e2
    simp only[if_neg h2]
    exact h1
 reach:=by
  intro v hv
  rcases cP.mp hv with hv|hv
  ·exact B.reach v hv
  ·have e1:v=w++[b]:=by simpa using hv
   rw[e1,mU]
   exact .step (B.reach w hw) ha
 sin:=by rw[bI];exact dZ _ B.sin
 wl:=by
  intro v hv
  rw[bf,fZ]
  rcases cP.mp hv with hv|hv
  ·have:=B.wl v hv
   omega
  ·have e1:v=w++[b]:=by simpa using hv
   rw[e1,bf,fZ]
   have:=B.wl w hw
   omega
theorem Bfs.len{n:Nat}{l:List Arc}{s:Nat}{ws:List (List Nat)}{cf:Nat->Option Nat}(B:Bfs n l s ws cf):ws.length<=n:=by
 have:=Av B.nd B.lt
 simpa using this
theorem Bfs.fold{n:Nat}{l:List Arc}{s:Nat}(hn:bt n l):∀(bs:List Nat){ws:List (List Nat)}{cf:Nat->Option Nat}{w:List Nat},Bfs n l s ws cf->w∈ws->(∀b∈bs,(lastOf w,b)∈l)->
  ∃t eW,bs.foldl (ext w) (ws,ws.map lastOf)=(ws++t,(ws++t).map lastOf)/\Bfs n l s (ws++t) eW/\∀b∈bs,b∈(ws++t).map lastOf
 |[],ws,cf,w,B,_,_=>⟨[],cf,by simp,by simpa using B,by simp⟩
 |b::bs,ws,cf,w,B,hw,hb=>by
  rw[pQ]
  by_cases h:(ws.map lastOf).contains b=true
  ·have e:ext w (ws,ws.map lastOf) b=(ws,ws.map lastOf):=by unfold ext;rw[if_pos h]
   rw[e]
   obtain⟨t,eW,h1,h2,h3⟩:=Bfs.fold hn bs B hw λc hc=>hb c (bR _ hc)
   refine⟨t,eW,h1,h2,λc hc=>?_⟩
   rcases bz.mp hc with rfl|hc
   ·rw[bI]
    exact dZ _ (by simpa using h)
   ·exact h3 c hc
  ·have e:ext w (ws,ws.map lastOf) b=(ws++[w++[b]],(ws++[w++[b]]).map lastOf):=by
    unfold ext
    rw[if_neg h,bI]
    show _=(_,_++[lastOf (w++[b])])
    rw[mU]
   rw[e]
   have ha:=hb b bY
   have B':=B.add hw ha (hn _ ha).2 (by simpa using h)
   obtain⟨t,eW,h1,h2,h3⟩:=Bfs.fold hn bs B' (dZ _ hw) λc hc=>hb c (bR _ hc)
   refine⟨(w++[b])::t,eW,by rw[h1];simp,by simpa using h2,λc hc=>?_⟩
   have e3:ws++(w++[b])::t=ws++[w++[b]]++t:=by simp
   rw[e3]
   rcases bz.mp hc with rfl|hc
   ·rw[bI,bI]
    exact dZ _ (eL _ (by simp[mU]))
   ·exact h3 c hc
theorem QM{w:List Nat}{s:Nat}{tl:List Nat}(e:w=s::tl):w.getLast?=some (lastOf w):=by
 unfold lastOf
 cases h:w.getLast? with
 |none=>rw[List.getLast?_eq_none_iff]at h;rw[h]at e;cases e
 |some v=>rfl
theorem Hz{l:List Arc}{to:Nat}:∀(k i:Nat)(ws:List (List Nat))(seen:List Nat)(j:Nat)(w:List Nat),ws[j]? =some w->w.getLast?=some to->i<=j->j-i<k->
  (∀(j':Nat)(u:List Nat),i<=j'->j'<j->ws[j']? =some u->∃v,u.getLast?=some v/\v≠to)->ways l to k i ws seen=some w
 |0,_,_,_,_,_,_,_,_,h,_=>by omega
 |k+1,i,ws,seen,j,w,hj,hl,ji,hk,hp=>by
  rw[AF]
  by_cases e:i=j
  ·subst e
   rw[hj]
   dsimp only
   rw[hl]
   simp
  ·have QN:i<j:=by omega
   have rT:=(bE.mp hj).1
   have hi:i<ws.length:=by omega
   obtain⟨v,hv,nv⟩:=hp i ws[i] (aT _) QN (bX hi)
   rw[bX hi]
   dsimp only
   rw[hv]
   dsimp only
   rw[if_neg nv]
   have pre:∀(bs:List Nat)(y:List (List Nat)×List Nat),∃t,(bs.foldl (ext ws[i]) y).1=y.1++t:=by
    intro bs
    induction bs with
    |nil=>intro y;exact⟨[],by simp⟩
    |cons b bs ih=>
     intro y
     rw[pQ]
     unfold ext
     split
     ·exact ih y
     ·obtain⟨t,et⟩:=ih (y.1++[ws[i]++[b]],y.2++[b])
      exact⟨(ws[i]++[b])::t,by
       have HA:=et
       unfold ext at HA
       rw[HA];simp⟩
   obtain⟨t,et⟩:=pre (outs l v) (ws,seen)
   refine Hz k (i+1) _ _ j w (by rw[et,rz rT];exact hj) hl (by omega) (by omega) λj' u h1 h2 h3=>?_
   rw[et]at h3
   have h4:(ws++t)[j']? =some u:=h3
   rw[rz (by omega)]at h4
   exact hp j' u (by omega) h2 h4
structure fF(n:Nat)(l:List Arc)(s t:Nat)(i:Nat)(ws:List (List Nat))(cf:Nat->Option Nat):Prop extends Bfs n l s ws cf where
 le:i<=ws.length
 closed:∀(j:Nat)(w:List Nat),j<i->ws[j]? =some w->∀b,(lastOf w,b)∈l->b∈ws.map lastOf
 miss:∀(j:Nat)(w:List Nat),j<i->ws[j]? =some w->lastOf w≠t
 jj:way n l s t=ways l t (n+1-i) i ws (ws.map lastOf)
theorem fF.start{n:Nat}{l:List Arc}{s t:Nat}(hs:s<n):fF n l s t 0 [[s]] (λx=>if x=s then some s else none) where
 toBfs:=.start hs
 le:=by simp
 closed:=λj _ h=>by omega
 miss:=λj _ h=>by omega
 jj:=rfl
theorem fF.out{n:Nat}{l:List Arc}{s t:Nat}{i:Nat}{ws:List (List Nat)}{cf:Nat->Option Nat}(S:fF n l s t i ws cf){w:List Nat}(hw:w∈ws):w.getLast?=some (lastOf w):=by
 obtain⟨tl,e,_⟩:=S.head w hw
 exact QM e
theorem fF.turn{n:Nat}{l:List Arc}{s t:Nat}{i:Nat}{ws:List (List Nat)}{cf eW:Nat->Option Nat}(S:fF n l s t i ws cf){w:List Nat}(hw:ws[i]? =some w)(ht:t∉ws.map lastOf){cS:List (List Nat)}
  (hf:(outs l (lastOf w)).foldl (ext w) (ws,ws.map lastOf)=(cS,cS.map lastOf)) (hp:∃u,cS=ws++u) (B:Bfs n l s cS eW) (dy:∀b∈outs l (lastOf w),b∈cS.map lastOf):fF n l s t (i+1) cS eW:=by
 have hm:=bL hw
 have hi:=(bE.mp hw).1
 have nt:lastOf w≠t:=λe=>ht (by rw[<-e];exact GC hm)
 obtain⟨u,rfl⟩:=hp
 refine⟨B,by rw[bf];omega,λj v hj hv b hb=>?_,λj v hj hv=>?_,?_⟩
 ·by_cases jh:j<i
  ·rw[rz (by omega)]at hv
   rw[bI]
   exact dZ _ (S.closed j v jh hv b hb)
  ·have:j=i:=by omega
   subst this
   rw[rz hi,hw]at hv
   cases hv
   exact dy b (AE.mpr hb)
 ·rw[rz (by omega)]at hv
  intro e
  exact ht (by rw[<-e];exact GC (bL hv))
 ·rw[S.jj]
  have hlen:=S.toBfs.len
  obtain⟨k,hk⟩:∃k,n+1-i=k+1:=⟨n-i,by omega⟩
  have rV:n+1-(i+1)=k:=by omega
  rw[hk,rV,AF,hw]
  dsimp only
  rw[S.out hm]
  dsimp only
  rw[if_neg nt,hf]
theorem fF.found{n:Nat}{l:List Arc}{s t:Nat}{i:Nat}{ws:List (List Nat)}{cf:Nat->Option Nat}(S:fF n l s t i ws cf){w:List Nat}(hw:w∈ws)(ht:lastOf w=t):way n l s t=some w:=by
 obtain⟨j,hj,ej⟩:=Ab.mp hw
 have AG:ws[j]? =some w:=by rw[bX hj,ej]
 have ji:i<=j:=Nat.le_of_not_lt λh=>S.miss j w h AG ht
 rw[S.jj]
 have hlen:=S.toBfs.len
 refine Hz _ _ _ _ j w AG (by rw[S.out hw,ht]) ji (by omega) λj' u h1 h2 h3=>?_
 refine⟨lastOf u,S.out (bL h3),λe=>?_⟩
 have jh:j'<ws.length:=by omega
 have e1:(ws.map lastOf)[j']? =some t:=by rw[ck,h3,<-e];rfl
 have e2:(ws.map lastOf)[j]? =some t:=by rw[ck,AG,<-ht];rfl
 have:=Hy S.nd e1 e2
 omega
theorem fF.none{n:Nat}{l:List Arc}{s t:Nat}{ws:List (List Nat)}{cf:Nat->Option Nat}{i:Nat}(S:fF n l s t i ws cf)(hi:ws.length<=i):way n l s t=none/\∀x,Reach l s x->x∈ws.map lastOf:=by
 constructor
 ·rw[S.jj]
  have e:ws[i]? =Qy:=lH.mpr hi
  cases n+1-i with
  |zero=>rfl
  |succ k=>rw[AF,e]
 ·intro x r
  induction r with
  |refl=>exact S.sin
  | @step y z _ e ih=>
   obtain⟨w,hw,rfl⟩:=cJ.mp ih
   obtain⟨j,hj,ej⟩:=Ab.mp hw
   exact S.closed j w (by have:=S.le;omega) (by rw[bX hj,ej]) z e
theorem xi{n:Nat}{l:List Arc}{s t:Nat}(hn:bt n l):∀(k i:Nat)(ws:List (List Nat))(cf:Nat->Option Nat),fF n l s t i ws cf->n<=k+i->∃i' cS eW,fF n l s t i' cS eW/\(t∈cS.map lastOf\/cS.length<=i')
 |k,i,ws,cf,S,h=>by
  by_cases ht:t∈ws.map lastOf
  ·exact⟨i,ws,cf,S,.inl ht⟩
  ·by_cases hi:ws.length<=i
   ·exact⟨i,ws,cf,S,.inr hi⟩
   ·have rW:i<ws.length:=by omega
    have hm:ws[i]∈ws:=Ai rW
    obtain⟨u,eW,h1,h2,h3⟩:=Bfs.fold hn (outs l (lastOf ws[i])) S.toBfs hm λb hb=>AE.mp hb
    have S':=S.turn (bX rW) ht h1 ⟨u,rfl⟩ h2 h3
    have hlen:=S.toBfs.len
    cases k with
    |zero=>omega
    |succ k=>exact xi hn k (i+1) _ _ S' (by omega)
theorem QO{n:Nat}{l:List Arc}{s t:Nat}(hn:bt n l)(hs:s<n):(way n l s t).isSome=true↔Reach l s t:=by
 obtain⟨i,ws,cf,S,h⟩:=xi (t:=t) hn n 0 _ _ (fF.start hs) (by omega)
 by_cases ht:t∈ws.map lastOf
 ·obtain⟨w,hw,e⟩:=cJ.mp ht
  rw[S.found hw e]
  refine⟨λ_=>?_,λ_=>rfl⟩
  rw[<-e]
  exact S.reach w hw
 ·rcases h with h|h
  ·exact absurd h ht
  ·obtain⟨h1,h2⟩:=S.none h
   rw[h1]
   exact⟨λq=>by simp at q,λr=>absurd (h2 t r) ht⟩
theorem QP{n:Nat}{l:List Arc}{s t:Nat}(hn:bt n l)(hs:s<n){w:List Nat}(h:way n l s t=some w):w≠[]:=by
 obtain⟨i,ws,cf,S,h'⟩:=xi (t:=t) hn n 0 _ _ (fF.start hs) (by omega)
 by_cases ht:t∈ws.map lastOf
 ·obtain⟨v,hv,e⟩:=cJ.mp ht
  rw[S.found hv e]at h
  have ev:v=w:=cZ h
  obtain⟨tl,e1,_⟩:=S.head v hv
  rw[<-ev,e1];simp
 ·rcases h' with h'|h'
  ·exact absurd h' ht
  ·rw[(S.none h').1]at h;cases h
end Br
namespace Br
open Vadiaa
def pa(l:List Arc):List Arc:=l.filter λa=>l.any λb=>b.2==a.1
theorem xj{l:List Arc}{a:Arc}:a∈pa l↔a∈l/\∃b∈l,b.2=a.1:=by
 unfold pa
 rw[dh]
 simp
theorem HB{l:List Arc}:bg (pa l)↔bg l:=by
 constructor
 ·rintro ⟨f,hf⟩
  refine⟨λv=>open Classical in if ∃b∈l,b.2=v then f v+1 else 0,λa ha=>?_⟩
  have h2:∃b∈l,b.2=a.2:=⟨a,ha,rfl⟩
  by_cases h1:∃b∈l,b.2=a.1
  ·have:=hf a (xj.mpr ⟨ha,h1⟩)
   simp only[if_pos h1,if_pos h2]
   omega
  ·simp only[if_neg h1,if_pos h2]
   omega
 ·exact bg.mono λa ha=>(xj.mp ha).1
theorem QQ{l:List Arc}(h:l.length<=(pa l).length):bg l↔l=[]:=by
 have e:pa l=l:=by
  have h1:(pa l).Sublist l:=Ae
  exact h1.eq_of_length (ui h1.length_le h)
 constructor
 ·rintro ⟨f,hf⟩
  have none:∀(m:Nat)(a:Arc),f a.1<=m->a∉l:=by
   intro m
   induction m with
   |zero=>
    intro a h0 ha
    rw[<-e]at ha
    obtain⟨_,b,hb,eb⟩:=xj.mp ha
    have:=hf b hb
    rw[eb]at this
    omega
   |succ m ih=>
    intro a h0 ha
    rw[<-e]at ha
    obtain⟨_,b,hb,eb⟩:=xj.mp ha
    have:=hf b hb
    rw[eb]at this
    exact ih b (by omega) hb
  exact Pu.mpr λa ha=>none (f a.1) a (aT _) ha
 ·rintro rfl
  exact bg.nil
def after(ch r:List Nat):List Nat:=r.filter λx=>decide (ch=[])||decide (lastOf ch<x)
def dQ(QR:List (List Nat))(c:List Nat):List (List Nat):=QR.flatMap λch=>(after ch c).map λx=>ch++[x]
theorem jk:∀{k:Nat}{c s:List Nat},s∈choose k c↔s.Sublist c/\s.length=k
 |0,c,s=>by
  simp only[choose,cY]
  constructor
  ·rintro rfl;simp
  ·rintro ⟨_,h⟩;exact rA.mp h
 |k+1,[],s=>by
  simp only[choose]
  constructor
  ·intro h;simp at h
  ·rintro ⟨h1,h2⟩
   have:=List.sublist_nil.mp h1
   rw[this]at h2
   simp at h2
 |k+1,x::r,s=>by
  simp only[choose,cP,cJ]
  constructor
  ·rintro (⟨t,ht,rfl⟩|h)
   ·obtain⟨h1,h2⟩:=jk.mp ht
    exact⟨h1.cons_cons x,by simp[h2]⟩
   ·obtain⟨h1,h2⟩:=jk.mp h
    exact⟨h1.cons x,h2⟩
  ·rintro ⟨h1,h2⟩
   rcases List.sublist_cons_iff.mp h1 with h3|⟨t,rfl,h3⟩
   ·exact .inr (jk.mpr ⟨h3,h2⟩)
   ·exact .inl ⟨t,jk.mpr ⟨h3,by simpa using h2⟩,rfl⟩
theorem HC:∀(c:List Nat),choose c.length c=[c]
 |[]=>rfl
 |x::r=>by
  show(choose r.length r).map (λl=>x::l)++choose (r.length+1) r=[x::r]
  have e:choose (r.length+1) r=[]:=Pu.mpr λs hs=>by
   obtain⟨h1,h2⟩:=jk.mp hs
   have:=h1.length_le
   omega
  rw[e,HC r]
  rfl
theorem HD(x:Nat)(r:List Nat)(hx:∀y∈r,x<y):∀(ts:List (List Nat)),(∀t∈ts,∀y∈t,y∈r)->dQ (ts.map λl=>x::l) (x::r)=(dQ ts r).map λl=>x::l
 |[],_=>rfl
 |t::ts,h=>by
  unfold dQ
  rw[eV,mO,mO,bI]
  have ih:=HD x r hx ts λu hu=>h u (bR _ hu)
  unfold dQ at ih
  rw[ih]
  congr 1
  have e:after (x::t) (x::r)=after t r:=by
   unfold after
   have xk:t≠[]->lastOf (x::t)=lastOf t:=λht=>by
    unfold lastOf
    rw[List.getLast?_cons_of_ne_nil ht]
   have bV:t≠[]->lastOf t∈r:=λht=>by
    refine h t bY _ ?_
    unfold lastOf
    rw[Gp ht]
    exact Qc ht
   by_cases ht:t=[]
   ·subst ht
    rw[f_]
    have h0:(decide (([x]:List Nat)=[])||decide (lastOf [x]<x))=false:=by simp[lastOf]
    rw[h0]
    refine GN λy hy=>?_
    have:=hx y hy
    simp[lastOf,this]
   ·rw[f_]
    have h0:(decide (x::t=[])||decide (lastOf (x::t)<x))=false:=by
     rw[xk ht]
     have:=hx _ (bV ht)
     simp
     omega
    rw[h0,xk ht]
    refine GN λy hy=>?_
    simp[ht]
  rw[e,lU]
  rfl
theorem HE(x:Nat)(r:List Nat)(hx:∀y∈r,x<y):∀(ts:List (List Nat)),(∀t∈ts,t≠[]/\∀y∈t,y∈r)->dQ ts (x::r)=dQ ts r
 |[],_=>rfl
 |t::ts,h=>by
  unfold dQ
  rw[mO,mO]
  have ih:=HE x r hx ts λu hu=>h u (bR _ hu)
  unfold dQ at ih
  rw[ih]
  congr 2
  unfold after
  obtain⟨ht,hm⟩:=h t bY
  have bV:lastOf t∈r:=by
   refine hm _ ?_
   unfold lastOf
   rw[Gp ht]
   exact Qc ht
  have:=hx _ bV
  rw[f_]
  have h0:(decide (t=[])||decide (lastOf t<x))=false:=by
   simp[ht]
   omega
  rw[h0]
  simp
theorem AH:∀(k:Nat)(c:List Nat),c.Pairwise (· < ·)->dQ (choose k c) c=choose (k+1) c
 |0,c,h=>by
  have e:∀c:List Nat,choose 1 c=c.map λx=>[x]:=by
   intro c
   induction c with
   |nil=>rfl
   |cons x r ih=>
    show(choose 0 r).map (λl=>x::l)++choose 1 r=_
    rw[ih]
    simp[choose]
  rw[e]
  have e0:choose 0 c=[[]]:=by cases c<;>rfl
  rw[e0]
  unfold dQ
  simp[after]
  rw[List.filter_eq_self.mpr (by simp)]
 |k+1,[],h=>rfl
 |k+1,x::r,h=>by
  obtain⟨h1,h2⟩:=wL.mp h
  show dQ ((choose k r).map (λl=>x::l)++choose (k+1) r) (x::r)=(choose (k+1) r).map (λl=>x::l)++choose (k+2) r
  have ap:∀a b c,dQ (a++b) c=dQ a c++dQ b c:=λa b c=>by unfold dQ;rw[pM]
  rw[ap,HD x r h1 _ (λt ht y hy=>(jk.mp ht).1.subset hy),AH k r h2,
   HE x r h1 _ (λt ht=>⟨λe=>by have:=(jk.mp ht).2;rw[e]at this;simp at this,λy hy=>(jk.mp ht).1.subset hy⟩),AH (k+1) r h2]
structure Good(d:Diagram):Prop where
 jS:bt d.boxes.length (arcs d)
 xl:bt d.boxes.length (wishArcs d)
 HF:bg (wishArcs d)
 HG:∀a∈arcs d,a.1≠a.2
def full(d:Diagram):List Arc:=arcs d++wishArcs d
theorem Good.kI{d:Diagram}(G:Good d):bt d.boxes.length (full d):=λa ha=>(cP.mp ha).elim (G.jS a) (G.xl a)
theorem ie(d:Diagram):(arcs d).length=d.edges.length:=by unfold arcs;simp
theorem HH{d:Diagram}(G:Good d){i:Nat}:i∈circled d↔∃a,(arcs d)[i]? =some a/\Reach (full d) a.2 a.1:=by
 unfold circled
 rw[dh,gQ]
 constructor
 ·rintro ⟨h1,h2⟩
  cases e:(arcs d)[i]? with
  |none=>rw[e]at h2;simp at h2
  |some a=>
   rw[e]at h2
   have h3:a.1∈reached d.boxes.length (full d) a.2:=by simpa[full]using h2
   exact⟨a,rfl,(oC G.kI (G.jS a (bL e)).2).mp h3⟩
 ·rintro ⟨a,e,r⟩
  refine⟨by rw[<-ie];exact(bE.mp e).1,?_⟩
  rw[e]
  have h3:=(oC G.kI (G.jS a (bL e)).2).mpr r
  simpa[full]using h3
theorem HI:∀(n:Nat),(cW n).Pairwise (· < ·):=λ_=>Gv
theorem HJ(d:Diagram):(circled d).Pairwise (· < ·):=by
 unfold circled
 exact(HI _).sublist Ae
theorem jT{d:Diagram}{s:List Nat}{a:Arc}:a∈withoutSome d s↔(∃i,(arcs d)[i]? =some a/\i∉s)\/a∈wishArcs d:=by
 unfold withoutSome
 rw[cP,PY]
 constructor
 ·rintro (⟨x,hx,e⟩|h)
  ·obtain⟨y,j⟩:=x
   have hj:=agY.mp hx
   simp only at e hj
   by_cases hs:s.contains j=true
   ·rw[if_pos hs]at e;cases e
   ·rw[if_neg hs]at e
    cases e
    exact .inl ⟨j,hj,by simpa using hs⟩
  ·exact .inr h
 ·rintro (⟨i,hi,hs⟩|h)
  ·refine .inl ⟨(a,i),agY.mpr hi,?_⟩
   simp[hs]
  ·exact .inr h
theorem QS{d:Diagram}(G:Good d)(s:List Nat):bt d.boxes.length (withoutSome d s):=λa ha=>by
 rcases jT.mp ha with⟨i,hi,_⟩|h
 ·exact G.jS a (bL hi)
 ·exact G.xl a h
theorem xm{d:Diagram}(G:Good d)(s:List Nat):breaks d s=true↔bg (withoutSome d s):=rR (QS G s)
theorem AI{B F:List Arc}:∀(l:List Arc),bg B->(∀a∈l,¬Reach F a.2 a.1)->(∀a∈l,a∈F)->(∀a∈B,a∈F)->bg (l++B)
 |[],h,_,_,_=>h
 |a::l,h,h1,h2,h3=>by
  refine bg.cons.mpr ⟨AI l h (λb hb=>h1 b (bR _ hb)) (λb hb=>h2 b (bR _ hb)) h3,λr=>h1 a bY (r.mono λb hb=>?_)⟩
  rcases cP.mp hb with hb|hb
  ·exact h2 b (bR _ hb)
  ·exact h3 b hb
theorem QT{d:Diagram}(G:Good d):breaks d (circled d)=true:=by
 rw[xm G]
 have h:=AI (B:=wishArcs d) (F:=full d) ((withoutSome d (circled d)).filter λa=>open Classical in decide (¬Reach (full d) a.2 a.1)) G.HF (λa ha=>by simpa using(dh.mp ha).2)
  (λa ha=>by
   rcases jT.mp (dh.mp ha).1 with⟨i,hi,_⟩|h
   ·exact dZ _ (bL hi)
   ·exact eL _ h) (λa ha=>eL _ ha)
 refine h.mono λa ha=>?_
 rcases jT.mp ha with⟨i,hi,hn⟩|hw
 ·refine dZ _ (dh.mpr ⟨ha,?_⟩)
  have:¬Reach (full d) a.2 a.1:=λr=>hn ((HH G).mpr ⟨a,hi,r⟩)
  simpa using this
 ·exact eL _ hw
theorem QU{d:Diagram}(G:Good d){s:List Nat}{fx lf:List Arc}(h1:∀a,a∈fx↔a∈wishArcs d/\Reach (full d) a.2 a.1)(h2:∀a,a∈lf↔∃i,i∈circled d/\i∉s/\(arcs d)[i]? =some a):bg (fx++lf)↔breaks d s=true:=by
 rw[xm G]
 have sub:∀a∈fx++lf,a∈withoutSome d s:=λa ha=>by
  rcases cP.mp ha with ha|ha
  ·exact jT.mpr (.inr ((h1 a).mp ha).1)
  ·obtain⟨i,_,hi,e⟩:=(h2 a).mp ha
   exact jT.mpr (.inl ⟨i,e,hi⟩)
 have kI:∀a∈withoutSome d s,a∈full d:=λa ha=>by
  rcases jT.mp ha with⟨i,hi,_⟩|h
  ·exact dZ _ (bL hi)
  ·exact eL _ h
 constructor
 ·intro D
  have h:=AI (B:=fx++lf) (F:=full d) ((withoutSome d s).filter λa=>open Classical in decide (¬Reach (full d) a.2 a.1)) D (λa ha=>by simpa using(dh.mp ha).2)
   (λa ha=>kI a (dh.mp ha).1) (λa ha=>kI a (sub a ha))
  refine h.mono λa ha=>?_
  by_cases r:Reach (full d) a.2 a.1
  ·refine eL _ ?_
   rcases jT.mp ha with⟨i,hi,hn⟩|hw
   ·exact eL _ ((h2 a).mpr ⟨i,(HH G).mpr ⟨a,hi,r⟩,hn,hi⟩)
   ·exact dZ _ ((h1 a).mpr ⟨hw,r⟩)
  ·exact dZ _ (dh.mpr ⟨ha,by simpa using r⟩)
 ·exact bg.mono sub
theorem HK{d:Diagram}{c:List Nat}(hc:breaks d c=true):∀(n k:Nat),c.length<n+k->k<=c.length->(∀j,j<k->(choose j c).find? (breaks d)=none)->
  ∃k' s,k<=k'/\k'<=c.length/\(∀j,j<k'->(choose j c).find? (breaks d)=none)/\(choose k' c).find? (breaks d)=some s/\leastSet d c n k=s
 |0,k,h,hk,hp=>by omega
 |n+1,k,h,hk,hp=>by
  cases e:(choose k c).find? (breaks d)with
  |some s=>exact⟨k,s,aT _,hk,hp,e,by rw[leastSet,e]⟩
  |none=>
   have rV:k<c.length:=by
    refine Nat.lt_of_le_of_ne hk λq=>?_
    rw[q,HC]at e
    simp[hc]at e
   obtain⟨k',s,h1,h2,h3,h4,h5⟩:=HK hc n (k+1) (by omega) (by omega) λj hj=>by
    by_cases jh:j=k
    ·rw[jh];exact e
    ·exact hp j (by omega)
   exact⟨k',s,by omega,h2,h3,h4,by rw[leastSet,e];exact h5⟩
theorem xn{d:Diagram}(G:Good d):∃k s,k<=(circled d).length/\(∀j,j<k->(choose j (circled d)).find? (breaks d)=none)/\(choose k (circled d)).find? (breaks d)=some s/\leastSet d (circled d) ((circled d).length+1) 0=s:=by
 obtain⟨k,s,_,h2,h3,h4,h5⟩:=HK (QT G) ((circled d).length+1) 0 (by omega) (by omega) λj hj=>by omega
 exact⟨k,s,h2,h3,h4,h5⟩
def Down(d:Diagram)(t:List Nat)(f:Nat->Nat):Prop:=(∀i a,(arcs d)[i]? =some a->if i∈t then f a.2<f a.1 else f a.1<f a.2)/\∀a∈wishArcs d,f a.1<f a.2
theorem QV{d:Diagram}(G:Good d):∃f,Down d (leastSet d (circled d) ((circled d).length+1) 0) f:=by
 obtain⟨k,s,h2,h3,h4,h5⟩:=xn G
 rw[h5]
 have hb:breaks d s=true:=List.find?_some h4
 have hm:=jk.mp (Pw h4)
 obtain⟨f,hf⟩:=(xm G s).mp hb
 refine⟨f,λi a hi=>?_,λa ha=>hf a (jT.mpr (.inr ha))⟩
 by_cases mV:i∈s
 ·rw[if_pos mV]
  have hk:0<k:=by rw[<-hm.2];exact Gw mV
  have nd:s.Nodup:=((HJ d).sublist hm.1).imp (λh=>cV h)
  have e1:s.erase i∈choose (k-1) (circled d):=jk.mpr ⟨ahC.trans hm.1,by rw[ahh mV,hm.2]⟩
  have nb:¬bg (withoutSome d (s.erase i)):=λD=>by
   have hn:=lO.mp (h3 (k-1) (by omega)) _ e1
   exact hn ((xm G _).mpr D)
  have D1:bg (withoutSome d s):=⟨f,hf⟩
  have r:Reach (withoutSome d s) a.2 a.1:=agU λnr=>nb (by
   refine(bg.cons.mpr ⟨D1,nr⟩).mono λb hb=>?_
   rcases jT.mp hb with⟨j,hj,hn⟩|hw
   ·by_cases pY:j=i
    ·subst pY
     rw[hi]at hj
     cases hj
     exact bY
    ·refine bR _ (jT.mpr (.inl ⟨j,hj,λz=>hn ?_⟩))
     exact(nd.mem_erase_iff).mpr ⟨pY,z⟩
   ·exact bR _ (jT.mpr (.inr hw)))
  rcases r.le hf with e|e
  ·exact absurd e.symm (G.HG a (bL hi))
  ·exact e
 ·rw[if_neg mV]
  exact hf a (jT.mpr (.inl ⟨i,hi,mV⟩))
def kJ(n:Nat)(x:List Arc×List Nat)(a:Arc×Nat):List Arc×List Nat:=if open_ n (a.1::x.1)=true then(a.1::x.1,x.2)else(x.1,x.2++[a.2])
theorem HL(d:Diagram):greedySet d=((arcs d).zipIdx.foldl (kJ d.boxes.length) (wishArcs d,[])).2:=rfl
structure jU(d:Diagram)(i:Nat)(kept:List Arc)(nk:List Nat):Prop where
 jj:(arcs d).zipIdx.foldl (kJ d.boxes.length) (wishArcs d,[])=(((arcs d).drop i).zipIdx i).foldl (kJ d.boxes.length) (kept,nk)
 xo:bg kept
 jV:bt d.boxes.length kept
 AJ:∀a∈wishArcs d,a∈kept
 lt:∀j∈nk,j<i
 out:∀j a,(arcs d)[j]? =some a->j<i->if j∈nk then Reach kept a.2 a.1 else a∈kept
theorem jU.start{d:Diagram}(G:Good d):jU d 0 (wishArcs d) []:=⟨by simp,G.HF,G.xl,λ_ h=>h,by simp,λj a _ h=>by omega⟩
theorem QW{n:Nat}{kept:List Arc}{a:Arc}(hd:bg kept)(hn:bt n kept)(ha:a.1<n/\a.2<n):open_ n (a::kept)=true↔¬Reach kept a.2 a.1:=by
 rw[rR (λb hb=>(bz.mp hb).elim (λe=>e▸ha) (hn b)),bg.cons]
 exact⟨λh=>h.2,λh=>⟨hd,h⟩⟩
theorem jU.turn{d:Diagram}(G:Good d){i:Nat}{kept:List Arc}{nk:List Nat}(g:jU d i kept nk){a:Arc}(ha:(arcs d)[i]? =some a):
  (Reach kept a.2 a.1->jU d (i+1) kept (nk++[i]))/\(¬Reach kept a.2 a.1->jU d (i+1) (a::kept) nk):=by
 have mW:=G.jS a (bL ha)
 obtain⟨hi,ea⟩:=bE.mp ha
 have hd:((arcs d).drop i).zipIdx i=(a,i)::((arcs d).drop (i+1)).zipIdx (i+1):=by
  rw[wJ hi,ea]
  rfl
 have jj:=g.jj
 rw[hd,pQ]at jj
 have oc:=QW g.xo g.jV mW
 constructor
 ·intro r
  have e:kJ d.boxes.length (kept,nk) (a,i)=(kept,nk++[i]):=by
   unfold kJ
   rw[if_neg λh=>oc.mp h r]
  rw[e]at jj
  refine⟨jj,g.xo,g.jV,g.AJ,λj hj=>?_,λj b hj aV=>?_⟩
  ·rcases cP.mp hj with hj|hj
   ·have:=g.lt j hj;omega
   ·have:j=i:=by simpa using hj
    omega
  ·by_cases pY:j=i
   ·subst pY
    rw[ha]at hj;cases hj
    rw[if_pos (eL _ (by simp))]
    exact r
   ·have:=g.out j b hj (by omega)
    by_cases pZ:j∈nk
    ·rw[if_pos pZ]at this
     rw[if_pos (dZ _ pZ)]
     exact this
    ·rw[if_neg pZ]at this
     rw[if_neg (λz=>(cP.mp z).elim pZ λq=>pY (by simpa using q))]
     exact this
 ·intro r
  have e:kJ d.boxes.length (kept,nk) (a,i)=(a::kept,nk):=by
   unfold kJ
   rw[if_pos (oc.mpr r)]
  rw[e]at jj
  refine⟨jj,bg.cons.mpr ⟨g.xo,r⟩,λb hb=>(bz.mp hb).elim (λe=>e▸mW) (g.jV b),λb hb=>bR _ (g.AJ b hb),λj hj=>jM (g.lt j hj),λj b hj aV=>?_⟩
  by_cases pY:j=i
  ·subst pY
   rw[ha]at hj;cases hj
   rw[if_neg λz=>iP _ (g.lt j z)]
   exact bY
  ·have:=g.out j b hj (by omega)
   by_cases pZ:j∈nk
   ·rw[if_pos pZ]at this⊢
    exact this.mono λc hc=>bR _ hc
   ·rw[if_neg pZ]at this⊢
    exact bR _ this
theorem jU.done{d:Diagram}{kept:List Arc}{nk:List Nat}(g:jU d (arcs d).length kept nk):greedySet d=nk:=by
 rw[HL,g.jj,Qg]
 rfl
theorem AK{d:Diagram}(G:Good d):∀(i:Nat),i<=(arcs d).length->∃kept nk,jU d i kept nk
 |0,_=>⟨_,_,jU.start G⟩
 |i+1,h=>by
  obtain⟨kept,nk,g⟩:=AK G i (by omega)
  have ha:=bX (l:=arcs d) (i:=i) (by omega)
  obtain⟨h1,h2⟩:=g.turn G ha
  by_cases r:Reach kept (arcs d)[i].2 (arcs d)[i].1
  ·exact⟨_,_,h1 r⟩
  ·exact⟨_,_,h2 r⟩
theorem QX{d:Diagram}(G:Good d):∃f,Down d (greedySet d) f:=by
 obtain⟨kept,nk,g⟩:=AK G (arcs d).length (aT _)
 rw[g.done]
 obtain⟨f,hf⟩:=g.xo
 refine⟨f,λi a hi=>?_,λa ha=>hf a (g.AJ a ha)⟩
 have h:=g.out i a hi (bE.mp hi).1
 by_cases mV:i∈nk
 ·rw[if_pos mV]at h⊢
  rcases h.le hf with e|e
  ·exact absurd e.symm (G.HG a (bL hi))
  ·exact e
 ·rw[if_neg mV]at h⊢
  exact hf a h
theorem QY{d:Diagram}(G:Good d):∃f,Down d (turned d) f:=by
 unfold turned
 split
 ·exact QV G
 ·exact QX G
def flip(t:List Nat)(x:Arc×Nat):Arc:=if t.contains x.2=true then(x.1.2,x.1.1)else x.1
theorem AL(d:Diagram):downs d=(arcs d).zipIdx.map (flip (turned d)):=rfl
theorem AM{d:Diagram}{i:Nat}:(downs d)[i]? =((arcs d)[i]?).map λa=>flip (turned d) (a,i):=by
 rw[AL,ck,PL]
 cases(arcs d)[i]? with
 |none=>rfl
 |some a=>simp
theorem p5(d:Diagram):(downs d).length=d.edges.length:=by rw[AL,aA,GD,ie]
theorem QZ{d:Diagram}(G:Good d){a:Arc}(ha:a∈downs d):a.1<d.boxes.length/\a.2<d.boxes.length:=by
 obtain⟨i,hi,e⟩:=Ab.mp ha
 have e2:(downs d)[i]? =some a:=by rw[bX hi,e]
 rw[AM]at e2
 cases e3:(arcs d)[i]? with
 |none=>rw[e3]at e2;cases e2
 |some b=>
  rw[e3]at e2
  have e4:flip (turned d) (b,i)=a:=cZ e2
  have hb:=G.jS b (bL e3)
  rw[<-e4]
  unfold flip
  split
  ·exact⟨hb.2,hb.1⟩
  ·exact hb
theorem p6{d:Diagram}(G:Good d):bt d.boxes.length (downs d):=λ_ ha=>QZ G ha
theorem ur{d:Diagram}(G:Good d):bt d.boxes.length (downs d++wishArcs d):=λa ha=>(cP.mp ha).elim (p6 G a) (G.xl a)
theorem AN{d:Diagram}(G:Good d):bg (downs d++wishArcs d):=by
 obtain⟨f,h1,h2⟩:=QY G
 refine⟨f,λa ha=>?_⟩
 rcases cP.mp ha with ha|ha
 ·obtain⟨i,hi,e⟩:=Ab.mp ha
  have e2:(downs d)[i]? =some a:=by rw[bX hi,e]
  rw[AM]at e2
  cases e3:(arcs d)[i]? with
  |none=>rw[e3]at e2;cases e2
  |some b=>
   rw[e3]at e2
   have e4:flip (turned d) (b,i)=a:=cZ e2
   have hb:=h1 i b e3
   rw[<-e4]
   unfold flip
   by_cases ht:i∈turned d
   ·rw[if_pos (by simpa using ht)]
    rw[if_pos ht]at hb
    exact hb
   ·rw[if_neg (by simpa using ht)]
    rw[if_neg ht]at hb
    exact hb
 ·exact h2 a ha
end Br
namespace Br
open Vadiaa
theorem HM(l:List Nat):∀(m:Nat),m<=l.foldl rP m/\∀x∈l,x<=l.foldl rP m:=by
 induction l with
 |nil=>intro m;exact⟨aT _,λx h=>by simp at h⟩
 |cons a l ih=>
  intro m
  rw[pQ]
  obtain⟨h1,h2⟩:=ih (rP m a)
  refine⟨cp (Nat.le_max_left m a) h1,λx hx=>?_⟩
  rcases bz.mp hx with rfl|hx
  ·exact cp (Nat.le_max_right m x) h1
  ·exact h2 x hx
theorem HN(l:List Nat):∀(m:Nat),l.foldl rP m=m\/l.foldl rP m∈l:=by
 induction l with
 |nil=>intro m;exact .inl rfl
 |cons a l ih=>
  intro m
  rw[pQ]
  rcases ih (rP m a)with h|h
  ·rw[h]
   by_cases hm:m<=a
   ·exact .inr (by rw[show rP m a=a from Nat.max_eq_right hm];exact bY)
   ·exact .inl (Nat.max_eq_left (by omega))
  ·exact .inr (bR _ h)
theorem min_le(l:List Nat):∀(m:Nat),l.foldl dP m<=m/\∀x∈l,l.foldl dP m<=x:=by
 induction l with
 |nil=>intro m;exact⟨aT _,λx h=>by simp at h⟩
 |cons a l ih=>
  intro m
  rw[pQ]
  obtain⟨h1,h2⟩:=ih (dP m a)
  refine⟨cp h1 (Nat.min_le_left m a),λx hx=>?_⟩
  rcases bz.mp hx with rfl|hx
  ·exact cp h1 (Nat.min_le_right m x)
  ·exact h2 x hx
theorem AO(l:List Nat):∀(m:Nat),l.foldl dP m=m\/l.foldl dP m∈l:=by
 induction l with
 |nil=>intro m;exact .inl rfl
 |cons a l ih=>
  intro m
  rw[pQ]
  rcases ih (dP m a)with h|h
  ·rw[h]
   by_cases hm:m<=a
   ·exact .inl (Nat.min_eq_left hm)
   ·exact .inr (by rw[show dP m a=a from Nat.min_eq_right (by omega)];exact bY)
  ·exact .inr (bR _ h)
theorem lV{rs:List Nat}{v x u:Nat}(hv:v<rs.length):rankOf (rs.set v x) u=if u=v then x else rankOf rs u:=by
 unfold rankOf
 by_cases h:u=v
 ·subst h
  rw[if_pos rfl,pJ hv]
  rfl
 ·rw[if_neg h,pL (λe=>h e.symm)]
theorem xp{rs:List Nat}{v:Nat}(hv:v<rs.length):rs[v]? =some (rankOf rs v):=by
 unfold rankOf
 rw[bX hv]
 rfl
theorem AQ{rs qs:List Nat}(hl:rs.length=qs.length)(h:∀v,v<rs.length->rankOf rs v=rankOf qs v):rs=qs:=by
 refine wQ λi=>?_
 by_cases hi:i<rs.length
 ·rw[xp hi,xp (by omega),h i hi]
 ·rw[lH.mpr (by omega),lH.mpr (by omega)]
theorem set_same{rs:List Nat}{v:Nat}(hv:v<rs.length):rs.set v (rankOf rs v)=rs:=by
 refine AQ (by simp) λu hu=>?_
 rw[lV hv]
 split
 ·rename_i h;rw[h]
 ·rfl
def mx(l:List Arc)(rs:List Nat)(v:Nat):Nat:=((l.filter λa=>a.2==v).map λa=>rankOf rs a.1+1).foldl rP 0
theorem xq{l:List Arc}{rs:List Nat}{a:Arc}(ha:a∈l):rankOf rs a.1+1<=mx l rs a.2:=
 (HM _ 0).2 _ (cJ.mpr ⟨a,dh.mpr ⟨ha,by simp⟩,rfl⟩)
theorem uu{l:List Arc}{rs:List Nat}{v:Nat}:mx l rs v=0\/∃a∈l,a.2=v/\mx l rs v=rankOf rs a.1+1:=by
 rcases HN ((l.filter λa=>a.2==v).map λa=>rankOf rs a.1+1) 0 with h|h
 ·exact .inl h
 ·obtain⟨a,ha,e⟩:=cJ.mp h
  obtain⟨h1,h2⟩:=dh.mp ha
  exact .inr ⟨a,h1,by simpa using h2,e.symm⟩
def p7(n:Nat)(l:List Arc)(rs:List Nat):List Nat:=(cW n).map λv=>mx l rs v
theorem HP(n:Nat)(l:List Arc)(k:Nat)(rs:List Nat):longest n l (k+1) rs=longest n l k (p7 n l rs):=rfl
theorem HQ(n:Nat)(l:List Arc):∀(k:Nat)(rs:List Nat),longest n l (k+1) rs=p7 n l (longest n l k rs)
 |0,rs=>rfl
 |k+1,rs=>by rw[HP,HQ n l k,HP]
theorem Q0(n:Nat)(l:List Arc)(rs:List Nat):(p7 n l rs).length=n:=by unfold p7;simp
theorem uv{n:Nat}{l:List Arc}{rs:List Nat}{v:Nat}(hv:v<n):rankOf (p7 n l rs) v=mx l rs v:=by
 unfold rankOf p7
 rw[ck,uc hv]
 rfl
def lr(n:Nat)(l:List Arc)(k:Nat):List Nat:=longest n l k (eO n 0)
theorem AR(n:Nat)(l:List Arc):lr n l 0=eO n 0:=rfl
theorem p8(n:Nat)(l:List Arc)(k:Nat):lr n l (k+1)=p7 n l (lr n l k):=HQ n l k _
theorem Q1(n:Nat)(l:List Arc):∀k,(lr n l k).length=n
 |0=>by rw[AR];simp
 |k+1=>by rw[p8,Q0]
theorem AS(n v:Nat):rankOf (eO n 0) v=0:=by
 unfold rankOf
 rw[Pz]
 split<;>rfl
theorem xr{n:Nat}{l:List Arc}(hn:bt n l){f:Nat->Nat}(hf:∀a∈l,f a.1<f a.2):∀(k v:Nat),v<n->rankOf (lr n l k) v<=f v
 |0,v,_=>by rw[AR,AS];omega
 |k+1,v,hv=>by
  rw[p8,uv hv]
  rcases uu (l:=l) (rs:=lr n l k) (v:=v)with h|⟨a,ha,e,h⟩
  ·omega
  ·have h1:=xr hn hf k a.1 (hn a ha).1
   have h2:=hf a ha
   rw[e]at h2
   omega
theorem HR{n:Nat}{l:List Arc}(hn:bt n l):∀(k v:Nat),v<n->rankOf (lr n l (k+1)) v<=rankOf (lr n l k) v\/rankOf (lr n l (k+1)) v=k+1
 |0,v,hv=>by
  rw[p8,uv hv,AR]
  rcases uu (l:=l) (rs:=eO n 0) (v:=v)with h|⟨a,ha,e,h⟩
  ·exact .inl (by omega)
  ·rw[AS]at h
   exact .inr (by omega)
 |k+1,v,hv=>by
  rw[p8 n l (k+1),uv hv]
  rcases uu (l:=l) (rs:=lr n l (k+1)) (v:=v)with h|⟨a,ha,e,h⟩
  ·exact .inl (by omega)
  ·rcases HR hn k a.1 (hn a ha).1 with h1|h1
   ·have h2:=xq (rs:=lr n l k) ha
    rw[e]at h2
    refine .inl ?_
    rw[p8 n l k,uv hv]
    rw[p8 n l k]at h h1
    omega
   ·exact .inr (by omega)
def LR(n:Nat)(l:List Arc):List Nat:=lr n l n
theorem HS(n:Nat)(l:List Arc):(LR n l).length=n:=Q1 n l n
theorem HU{n:Nat}{l:List Arc}(hn:bt n l)(d:bg l){v:Nat}(hv:v<n):rankOf (LR n l) v<n:=by
 obtain⟨f,hb,hf⟩:=Hw hn d
 exact GG (xr hn hf n v hv) (hb v hv)
def Val(l:List Arc)(rs:List Nat):Prop:=∀a∈l,rankOf rs a.1<rankOf rs a.2
theorem HV{n:Nat}{l:List Arc}(hn:bt n l)(d:bg l):Val l (LR n l):=λa ha=>by
 obtain⟨f,hb,hf⟩:=Hw hn d
 have hv:=(hn a ha).2
 have h1:=xq (rs:=lr n l n) ha
 have h2:rankOf (lr n l (n+1)) a.2=mx l (lr n l n) a.2:=by rw[p8,uv hv]
 have h3:=xr hn hf (n+1) a.2 hv
 have h4:=hb a.2 hv
 rcases HR hn n a.2 hv with h5|h5
 ·show rankOf (lr n l n) a.1<rankOf (lr n l n) a.2
  omega
 ·omega
theorem Q2{n:Nat}{l:List Arc}(hn:bt n l){rs:List Nat}(h:Val l rs){v:Nat}(hv:v<n):rankOf (LR n l) v<=rankOf rs v:=xr hn h n v hv
def mX(rs:List Nat)(a:Arc):List Nat:=if rankOf rs a.2<=rankOf rs a.1 then rs.set a.2 (rankOf rs a.1+1)else rs
theorem Q3(rs:List Nat)(a:Arc):(mX rs a).length=rs.length:=by unfold mX;split<;>simp
theorem Q4{n:Nat}{l:List Arc}(hn:bt n l)(d:bg l){rs:List Nat}(hl:rs.length=n)(h:∀v,v<n->rankOf rs v<=rankOf (LR n l) v){a:Arc}(ha:a∈l):∀v,v<n->rankOf (mX rs a) v<=rankOf (LR n l) v:=by
 intro v hv
 unfold mX
 split
 ·rw[lV (by rw[hl];exact(hn a ha).2)]
  split
  ·rename_i e
   have h1:=HV hn d a ha
   have h2:=h a.1 (hn a ha).1
   rw[e]
   omega
  ·exact h v hv
 ·exact h v hv
theorem Q5{n:Nat}{l:List Arc}(hn:bt n l){rs:List Nat}(hl:rs.length=n)(h:∀v,v<n->rankOf rs v<=rankOf (LR n l) v)(hv:Val l rs):rs=LR n l:=
 AQ (by rw[hl,HS]) λv h1=>ui (h v (by omega)) (Q2 hn hv (by omega))
theorem sum_set:∀{rs:List Nat}{v x:Nat},v<rs.length->(rs.set v x).sum+rankOf rs v=rs.sum+x
 |[],v,x,h=>by simp at h
 |r::rs,0,x,h=>by
  show(x::rs).sum+r=(r::rs).sum+x
  rw[pS,pS]
  omega
 |r::rs,v+1,x,h=>by
  have ih:=sum_set (rs:=rs) (v:=v) (x:=x) (by simpa using h)
  show(r::rs.set v x).sum+rankOf (r::rs) (v+1)=(r::rs).sum+x
  rw[pS,pS]
  have:rankOf (r::rs) (v+1)=rankOf rs v:=by unfold rankOf;rw[PB]
  omega
theorem Q6{n:Nat}{rs:List Nat}(hl:rs.length=n){a:Arc}(ha:a.2<n)(h:rankOf rs a.2<=rankOf rs a.1):rs.sum<(mX rs a).sum:=by
 unfold mX
 rw[if_pos h]
 have:=sum_set (rs:=rs) (v:=a.2) (x:=rankOf rs a.1+1) (by omega)
 omega
theorem HW{m:Nat}:∀{rs:List Nat},(∀v,v<rs.length->rankOf rs v<=m)->rs.sum<=rs.length*m
 |[],_=>by simp
 |r::rs,h=>by
  have h0:r<=m:=h 0 (by simp)
  have ih:rs.sum<=rs.length*m:=HW λv hv=>by
   have:=h (v+1) (by simpa using hv)
   have e:rankOf (r::rs) (v+1)=rankOf rs v:=by unfold rankOf;rw[PB]
   omega
  rw[pS,bJ,QF]
  omega
def eG(es:List Arc)(v:Nat):Nat:=(es.filter λa=>a.1==v).length
def eI(es:List Arc)(v:Nat):Nat:=(es.filter λa=>a.2==v).length
def below(l:List Arc)(rs:List Nat)(v:Nat):List Nat:=(l.filter λa=>a.1==v).map λa=>rankOf rs a.2
def over(l:List Arc)(rs:List Nat)(v:Nat):List Nat:=(l.filter λa=>a.2==v).map λa=>rankOf rs a.1
def dD(es l:List Arc)(rs:List Nat)(v:Nat):Nat:=
 if eI es v<eG es v then(below l rs v).foldl dP (rankOf rs v+1000)-1
 else if eG es v<eI es v then mx l rs v
 else rankOf rs v
theorem uw{es l:List Arc}{rs:List Nat}{v:Nat}(hv:v<rs.length):place es l rs v=rs.set v (dD es l rs v):=by
 unfold place dD
 show(if eI es v<eG es v then _ else if eG es v<eI es v then _ else _)=_
 split
 ·rfl
 ·split
  ·rfl
  ·exact(set_same hv).symm
structure gc(n m:Nat)(es l:List Arc)(rs:List Nat):Prop where
 len:rs.length=n
 jV:bt n l
 sub:∀a∈es,a∈l
 val:Val l rs
 top:∀v,v<n->rankOf rs v<=m
 small:m<1000
theorem ux{l:List Arc}{rs:List Nat}{v x:Nat}:x∈below l rs v↔∃a∈l,a.1=v/\rankOf rs a.2=x:=by
 unfold below
 rw[cJ]
 constructor
 ·rintro ⟨a,ha,e⟩
  obtain⟨h1,h2⟩:=dh.mp ha
  exact⟨a,h1,by simpa using h2,e⟩
 ·rintro ⟨a,h1,h2,e⟩
  exact⟨a,dh.mpr ⟨h1,by simp[h2]⟩,e⟩
theorem Q7{n m:Nat}{es l:List Arc}{rs:List Nat}(M:gc n m es l rs){v:Nat}(h:eI es v<eG es v):below l rs v≠[]:=by
 intro e
 have h1:0<eG es v:=by omega
 obtain⟨a,ha⟩:=agW h1
 obtain⟨h2,h3⟩:=dh.mp ha
 have:rankOf rs a.2∈below l rs v:=ux.mpr ⟨a,M.sub a h2,by simpa using h3,rfl⟩
 rw[e]at this
 simp at this
theorem HX{n m:Nat}{es l:List Arc}{rs:List Nat}(M:gc n m es l rs){v:Nat}(hv:v<n)(h:eI es v<eG es v):(below l rs v).foldl dP (rankOf rs v+1000)∈below l rs v/\rankOf rs v<(below l rs v).foldl dP (rankOf rs v+1000):=by
 have hm:(below l rs v).foldl dP (rankOf rs v+1000)∈below l rs v:=by
  rcases AO (below l rs v) (rankOf rs v+1000)with e|e
  ·exfalso
   obtain⟨x,hx⟩:=List.exists_mem_of_ne_nil _ (Q7 M h)
   have h1:=(min_le (below l rs v) (rankOf rs v+1000)).2 x hx
   obtain⟨a,ha,_,rfl⟩:=ux.mp hx
   have h2:=M.top a.2 (M.jV a ha).2
   have h3:=M.small
   omega
  ·exact e
 refine⟨hm,?_⟩
 obtain⟨a,ha,e1,e2⟩:=ux.mp hm
 have:=M.val a ha
 rw[e1]at this
 omega
theorem p9{n m:Nat}{es l:List Arc}{rs:List Nat}(M:gc n m es l rs){v:Nat}(hv:v<n):
  (∀a∈l,a.1=v->a.2≠v->dD es l rs v<rankOf rs a.2)/\(∀a∈l,a.2=v->a.1≠v->rankOf rs a.1<dD es l rs v)/\dD es l rs v<=m/\
  (eI es v<eG es v->rankOf rs v<=dD es l rs v)/\(eG es v<eI es v->dD es l rs v<=rankOf rs v)/\(eI es v=eG es v->dD es l rs v=rankOf rs v):=by
 have t0:=M.top v hv
 by_cases h1:eI es v<eG es v
 ·obtain⟨hm,aV⟩:=HX M hv h1
  have e:dD es l rs v=(below l rs v).foldl dP (rankOf rs v+1000)-1:=by unfold dD;rw[if_pos h1]
  refine⟨λa ha e1 _=>?_,λa ha e2 _=>?_,?_,λ_=>by omega,λq=>by omega,λq=>by omega⟩
  ·have:=(min_le (below l rs v) (rankOf rs v+1000)).2 _ (ux.mpr ⟨a,ha,e1,rfl⟩)
   omega
  ·have:=M.val a ha
   rw[e2]at this
   omega
  ·obtain⟨a,ha,_,e2⟩:=ux.mp hm
   have:=M.top a.2 (M.jV a ha).2
   omega
 ·by_cases h2:eG es v<eI es v
  ·have e:dD es l rs v=mx l rs v:=by unfold dD;rw[if_neg h1,if_pos h2]
   have hle:mx l rs v<=rankOf rs v:=by
    rcases uu (l:=l) (rs:=rs) (v:=v)with q|⟨a,ha,ea,q⟩
    ·omega
    ·have:=M.val a ha
     rw[ea]at this
     omega
   refine⟨λa ha e1 _=>?_,λa ha e2 _=>?_,by omega,λq=>by omega,λ_=>by omega,λq=>by omega⟩
   ·have:=M.val a ha
    rw[e1]at this
    omega
   ·have:=xq (rs:=rs) ha
    rw[e2]at this
    omega
  ·have e:dD es l rs v=rankOf rs v:=by unfold dD;rw[if_neg h1,if_neg h2]
   refine⟨λa ha e1 _=>?_,λa ha e2 _=>?_,by omega,λq=>by omega,λq=>by omega,λ_=>e⟩
   ·have:=M.val a ha
    rw[e1]at this
    omega
   ·have:=M.val a ha
    rw[e2]at this
    omega
theorem gc.place{n m:Nat}{es l:List Arc}{rs:List Nat}(M:gc n m es l rs){v:Nat}(hv:v<n):gc n m es l (place es l rs v):=by
 have fh:v<rs.length:=by rw[M.len];exact hv
 obtain⟨g1,g2,g3,_⟩:=p9 M hv
 rw[uw fh]
 refine⟨by rw[jO,M.len],M.jV,M.sub,λa ha=>?_,λu hu=>?_,M.small⟩
 ·have a8:a.1≠a.2:=λe=>by
   have:=M.val a ha
   rw[e]at this
   exact iP _ this
  rw[lV fh,lV fh]
  by_cases h1:a.1=v
  ·rw[if_pos h1,if_neg (λe=>a8 (h1.trans e.symm))]
   exact g1 a ha h1 λe=>a8 (h1.trans e.symm)
  ·rw[if_neg h1]
   by_cases h2:a.2=v
   ·rw[if_pos h2]
    exact g2 a ha h2 h1
   ·rw[if_neg h2]
    exact M.val a ha
 ·rw[lV fh]
  split
  ·exact g3
  ·exact M.top u hu
def oE(es:List Arc)(rs:List Nat):Int:=(es.map λa=>(rankOf rs a.2:Int)-(rankOf rs a.1:Int)).sum
theorem AU{es:List Arc}{rs:List Nat}:(∀a∈es,rankOf rs a.1<rankOf rs a.2)->oE es rs=(total es rs:Int):=by
 unfold oE total
 induction es with
 |nil=>intro _;rfl
 |cons a es ih=>
  intro h
  have h1:=h a bY
  rw[eV,pS,eV,pS,ih λb hb=>h b (bR _ hb)]
  omega
theorem Q8{rs:List Nat}{v x:Nat}(hv:v<rs.length):∀(es:List Arc),oE es (rs.set v x)=oE es rs+((eI es v:Int)-(eG es v:Int))*((x:Int)-(rankOf rs v:Int)):=by
 intro es
 induction es with
 |nil=>simp[oE,eI,eG]
 |cons a es ih=>
  have e1:∀r,oE (a::es) r=((rankOf r a.2:Int)-(rankOf r a.1:Int))+oE es r:=λr=>by unfold oE;rw[eV,pS]
  have e2:(eI (a::es) v:Int)=(eI es v:Int)+(if a.2=v then 1 else 0):=by
   unfold eI
   rw[f_]
   by_cases h:a.2=v
   ·simp[h]
   ·simp[h]
  have e3:(eG (a::es) v:Int)=(eG es v:Int)+(if a.1=v then 1 else 0):=by
   unfold eG
   rw[f_]
   by_cases h:a.1=v
   ·simp[h]
   ·simp[h]
  rw[e1,e1,ih,e2,e3,lV hv,lV hv]
  generalize hD:(x:Int)-(rankOf rs v:Int)=D
  generalize (eI es v:Int)=p
  generalize (eG es v:Int)=q
  have ex:∀s t:Int,(p+s-(q+t))*D=(p-q)*D+(s*D-t*D):=λs t=>by
   rw[show p+s-(q+t)=(p-q)+(s-t) by omega,Int.add_mul,Int.sub_mul s t D]
  rw[ex]
  by_cases h1:a.1=v
  ·by_cases h2:a.2=v
   ·rw[if_pos h1,if_pos h2,if_pos h1,if_pos h2,h1,h2]
    omega
   ·rw[if_pos h1,if_neg h2,if_pos h1,if_neg h2,h1]
    rw[QD,Int.one_mul]
    omega
  ·by_cases h2:a.2=v
   ·rw[if_neg h1,if_pos h2,if_neg h1,if_pos h2,h2]
    rw[QD,Int.one_mul]
    omega
   ·rw[if_neg h1,if_neg h2,if_neg h1,if_neg h2]
    rw[QD]
    omega
theorem Q9{n m:Nat}{es l:List Arc}{rs:List Nat}(M:gc n m es l rs){v:Nat}(hv:v<n)(a8:dD es l rs v≠rankOf rs v):total es (place es l rs v)<total es rs:=by
 have fh:v<rs.length:=by rw[M.len];exact hv
 have M':=M.place hv
 have e1:=AU λa ha=>M.val a (M.sub a ha)
 have e2:=AU λa ha=>M'.val a (M.sub a ha)
 obtain⟨_,_,_,g4,g5,g6⟩:=p9 M hv
 rw[uw fh,Q8 fh]at e2
 rw[uw fh]
 have neg:((eI es v:Int)-(eG es v:Int))*((dD es l rs v:Int)-(rankOf rs v:Int))<0:=by
  rcases Qa (eI es v) (eG es v)with h|h|h
  ·have:=g4 h
   exact Int.mul_neg_of_neg_of_pos (by omega) (by omega)
  ·exact absurd (g6 h) a8
  ·have:=g5 h
   exact Int.mul_neg_of_pos_of_neg (by omega) (by omega)
 omega
theorem Q_{es l:List Arc}{rs:List Nat}{v:Nat}(hv:v<rs.length)(h:dD es l rs v=rankOf rs v):place es l rs v=rs:=by
 rw[uw hv,h,set_same hv]
def upTo(es l:List Arc)(rs:List Nat)(i:Nat):List Nat:=(cW i).foldl (place es l) rs
theorem Ra(es l:List Arc)(rs:List Nat):upTo es l rs 0=rs:=rfl
theorem xt(es l:List Arc)(rs:List Nat)(i:Nat):upTo es l rs (i+1)=place es l (upTo es l rs i) i:=by
 unfold upTo
 rw[G3,GK]
 rfl
theorem gc.upTo{n m:Nat}{es l:List Arc}{rs:List Nat}(M:gc n m es l rs):∀(i:Nat),i<=n->gc n m es l (upTo es l rs i)
 |0,_=>M
 |i+1,h=>by rw[xt];exact(M.upTo i (by omega)).place (by omega)
theorem HY{n:Nat}{es l:List Arc}{rs:List Nat}(h:upTo es l rs n=rs):∀(k:Nat),settled n es l k rs=rs
 |0=>rfl
 |k+1=>by
  show(if pass n es l rs=rs then rs else _)=rs
  rw[if_pos (show pass n es l rs=rs from h)]
theorem HZ{n:Nat}{es l:List Arc}{rs:List Nat}{k:Nat}(h:upTo es l rs n≠rs):settled n es l (k+1) rs=settled n es l k (upTo es l rs n):=by
 show(if pass n es l rs=rs then rs else settled n es l k (pass n es l rs))=_
 rw[if_neg (show ¬pass n es l rs=rs from h)]
 rfl
theorem Rb{es:List Arc}{rs:List Nat}{n m:Nat}(hn:bt n es)(h:∀v,v<n->rankOf rs v<=m):total es rs<=es.length*m:=by
 unfold total
 induction es with
 |nil=>simp
 |cons a es ih=>
  have h1:=h a.2 (hn a bY).2
  have:=ih λb hb=>hn b (bR _ hb)
  rw[eV,pS,bJ,QF]
  omega
def cnt(rs:List Nat)(r:Nat):Nat:=((cW r).filter λk=>rs.contains k).length
theorem xu(rs:List Nat):packed rs=rs.map (cnt rs):=rfl
theorem H0{rs:List Nat}{v:Nat}(hv:v<rs.length):rankOf (packed rs) v=cnt rs (rankOf rs v):=by
 rw[xu]
 unfold rankOf
 rw[ck,bX hv]
 rfl
theorem AV(rs:List Nat)(r:Nat):cnt rs (r+1)=cnt rs r+if r∈rs then 1 else 0:=by
 unfold cnt
 rw[G3,ou,bf]
 by_cases h:r∈rs
 ·simp[h]
 ·simp[h]
theorem Rc(rs:List Nat){r q:Nat}(h:r<=q):cnt rs r<=cnt rs q:=by
 induction h with
 |refl=>exact aT _
 |step _ ih=>rw[AV];omega
theorem Rf{rs:List Nat}{r q:Nat}(h:r<q)(hr:r∈rs):cnt rs r<cnt rs q:=by
 have h1:=AV rs r
 rw[if_pos hr]at h1
 have h2:=Rc rs (show r+1<=q from h)
 omega
theorem H_{rs:List Nat}{v:Nat}(hv:v<rs.length):rankOf rs v∈rs:=bL (xp hv)
theorem Rg{n:Nat}{l:List Arc}{rs:List Nat}(hl:rs.length=n)(hn:bt n l)(h:Val l rs):Val l (packed rs):=λa ha=>by
 have h1:=(hn a ha).1
 have h2:=(hn a ha).2
 rw[H0 (by omega),H0 (by omega)]
 exact Rf (h a ha) (H_ (by omega))
theorem Ia:∀{a b:List Nat},a.Pairwise (· < ·)->b.Pairwise (· < ·)->(∀x,x∈a↔x∈b)->a=b
 |[],[],_,_,_=>rfl
 |[],y::b,_,_,h=>absurd ((h y).mpr bY) (by simp)
 |x::a,[],_,_,h=>absurd ((h x).mp bY) (by simp)
 |x::a,y::b,ha,hb,h=>by
  obtain⟨a1,a2⟩:=wL.mp ha
  obtain⟨b1,b2⟩:=wL.mp hb
  have e:x=y:=by
   rcases bz.mp ((h x).mp bY)with e|e
   ·exact e
   ·rcases bz.mp ((h y).mpr bY)with e'|e'
    ·exact e'.symm
    ·have:=a1 y e'
     have:=b1 x e
     omega
  subst e
  congr 1
  refine Ia a2 b2 λz=>?_
  constructor
  ·intro hz
   rcases bz.mp ((h z).mp (bR _ hz))with e|e
   ·exact absurd (a1 z hz) (by omega)
   ·exact e
  ·intro hz
   rcases bz.mp ((h z).mpr (bR _ hz))with e|e
   ·exact absurd (b1 z hz) (by omega)
   ·exact e
theorem Ib:∀{u:List Nat}{j r:Nat},u.Pairwise (· < ·)->u[j]? =some r->(u.filter λk=>decide (k<r)).length=j
 |[],j,r,_,h=>by simp at h
 |x::u,0,r,hp,h=>by
  have e:x=r:=cZ h
  subst e
  obtain⟨a1,_⟩:=wL.mp hp
  rw[f_]
  have e1:u.filter (λk=>decide (k<x))=[]:=ahk.mpr λk hk=>by
   have:=a1 k hk
   simp
   omega
  rw[e1]
  simp
 |x::u,j+1,r,hp,h=>by
  obtain⟨a1,a2⟩:=wL.mp hp
  have h':u[j]? =some r:=h
  have:=a1 r (bL h')
  rw[f_,if_pos (by simpa using this),bJ,Ib a2 h']
theorem Rh{rs u:List Nat}(hp:u.Pairwise (· < ·))(hm:∀k,k∈u↔k∈rs){j r:Nat}(h:u[j]? =some r):cnt rs r=j:=by
 have e:(cW r).filter (λk=>rs.contains k)=u.filter λk=>decide (k<r):=by
  refine Ia ((HI r).sublist Ae) (hp.sublist Ae) λx=>?_
  rw[dh,dh,gQ]
  constructor
  ·rintro ⟨h1,h2⟩
   exact⟨(hm x).mpr (by simpa using h2),by simpa using h1⟩
  ·rintro ⟨h1,h2⟩
   exact⟨by simpa using h2,by simpa using(hm x).mp h1⟩
 unfold cnt
 rw[e,Ib hp h]
end Br
namespace Br
open Vadiaa
structure gf(d:Diagram):Prop extends Good d where
 nb:d.boxes.length<=24
 ne:d.edges.length<=40
 nw:d.wishes.length<=16
def rX(d:Diagram):List Arc:=downs d++wishArcs d
theorem AW(d:Diagram):longRanks d=LR d.boxes.length (rX d):=rfl
theorem gf.uz{d:Diagram}(G:gf d):gc d.boxes.length 23 (downs d) (rX d) (longRanks d) where
 len:=by rw[AW,HS]
 jV:=ur G.toGood
 sub:=λ_ ha=>dZ _ ha
 val:=by rw[AW];exact HV (ur G.toGood) (AN G.toGood)
 top:=λv hv=>by
  have h:=HU (ur G.toGood) (AN G.toGood) hv
  rw[AW]
  have:=G.nb
  unfold rX
  omega
 small:=by omega
theorem Ic{n m:Nat}{es l:List Arc}:∀(k:Nat){rs:List Nat},gc n m es l rs->gc n m es l (settled n es l k rs)
 |0,_,M=>M
 |k+1,rs,M=>by
  by_cases h:upTo es l rs n=rs
  ·rw[HY h];exact M
  ·rw[HZ h]
   exact Ic k (M.upTo n (aT _))
def AX(d:Diagram):List Nat:=settled d.boxes.length (downs d) (rX d) PASSES (longRanks d)
theorem AY(d:Diagram):ranks d=packed (AX d):=rfl
theorem gf.xw{d:Diagram}(G:gf d):gc d.boxes.length 23 (downs d) (rX d) (AX d):=Ic _ G.uz
theorem rY{d:Diagram}(G:gf d):(ranks d).length=d.boxes.length:=by
 rw[AY,xu,aA,G.xw.len]
theorem Ie{d:Diagram}(G:gf d):Val (rX d) (ranks d):=by
 rw[AY]
 exact Rg G.xw.len (ur G.toGood) G.xw.val
theorem Ri{d:Diagram}(G:gf d):total (downs d) (longRanks d)<PASSES:=by
 have h:=Rb (rs:=longRanks d) (n:=d.boxes.length) (m:=23) (p6 G.toGood) G.uz.top
 rw[p5]at h
 have:=G.ne
 have e:PASSES=1000:=rfl
 have h2:d.edges.length*23<=40*23:=Nat.mul_le_mul_right 23 this
 omega
theorem Rj{d:Diagram}(G:gf d){i:Nat}{a b:Arc}(ha:(arcs d)[i]? =some a)(hb:(downs d)[i]? =some b):
  ((rankOf (ranks d) a.2-rankOf (ranks d) a.1+(rankOf (ranks d) a.1-rankOf (ranks d) a.2):Nat):Int)=(rankOf (ranks d) b.2:Int)-(rankOf (ranks d) b.1:Int):=by
 have h1:=Ie G b (dZ _ (bL hb))
 rw[AM,ha]at hb
 have e:flip (turned d) (a,i)=b:=cZ hb
 rw[<-e]at h1⊢
 unfold flip at h1⊢
 split
 ·rename_i h
  rw[if_pos h]at h1
  have h2:rankOf (ranks d) a.2<rankOf (ranks d) a.1:=h1
  show _=(rankOf (ranks d) a.1:Int)-(rankOf (ranks d) a.2:Int)
  omega
 ·rename_i h
  rw[if_neg h]at h1
  have h2:rankOf (ranks d) a.1<rankOf (ranks d) a.2:=h1
  show _=(rankOf (ranks d) a.2:Int)-(rankOf (ranks d) a.1:Int)
  omega
end Br
namespace Br
open VadiBase
theorem takeWhile_len_le{α:Type}(p:α->Bool):∀(l:List α),(l.takeWhile p).length<=l.length
 |[]=>by simp
 |a::l=>by
  rw[jL]
  split
  ·rw[bJ,bJ]
   have:=takeWhile_len_le p l
   omega
  ·simp
theorem AZ{α:Type}(p:α->Bool):∀(l:List α),l.drop (l.takeWhile p).length=l.dropWhile p
 |[]=>by simp
 |a::l=>by
  rw[jL,List.dropWhile_cons]
  split
  ·rw[bJ,List.drop_succ_cons,AZ p l]
  ·simp
theorem take_takeWhile{α:Type}(p:α->Bool):∀(l:List α),l.take (l.takeWhile p).length=l.takeWhile p
 |[]=>by simp
 |a::l=>by
  rw[jL]
  split
  ·rw[bJ,Ac,take_takeWhile p l]
  ·simp
theorem A0{α:Type}(p:α->Bool)(l:List α):(l.dropWhile p).length<=l.length:=by
 rw[<-AZ,lQ]
 omega
theorem xx{l:Bytes}{x:Tok×Nat}(h:token l=some x):0<x.2:=by
 unfold token at h
 split at h
 ·cases h
 ·rename_i b r
  split at h
  ·rename_i hl
   dsimp only at h
   split at h
   ·cases h
   ·cases h
    show 0<((b::r).takeWhile λc=>isLetter c||isDigit c).length
    rw[jL,if_pos (by rw[hl];rfl)]
    simp
  ·split at h
   ·rename_i hd
    cases e:numberOf ((b::r).takeWhile isDigit)with
    |none=>rw[e]at h;cases h
    |some n=>
     rw[e]at h
     cases h
     show 0<((b::r).takeWhile isDigit).length
     rw[jL,if_pos hd]
     simp
   ·split at h
    ·split at h
     ·cases h;decide
     ·cases h
    ·split at h
     ·cases h;show 0<1;decide
     ·cases h
theorem rZ:∀(n m at_:Nat)(l:Bytes),l.length<n->l.length<m->lex n at_ l=lex m at_ l
 |0,_,_,_,h,_=>by omega
 |_,0,_,_,_,h=>by omega
 |n+1,m+1,at_,[],_,_=>rfl
 |n+1,m+1,at_,b::r,h1,h2=>by
  have hr:r.length<n:=by simpa using h1
  have cT:r.length<m:=by simpa using h2
  show(if isBlank b=true then _ else _)=(if isBlank b=true then _ else _)
  split
  ·exact rZ n m _ r hr cT
  ·split
   ·have:=A0 (· != 10) r
    exact rZ n m _ _ (by omega) (by omega)
   ·split
    ·rfl
    ·rename_i x e
     have hp:=xx e
     have hl:((b::r).drop x.2).length<=r.length:=by rw[lQ,bJ];omega
     rw[rZ n m _ _ (by omega) (by omega)]
def bS(at_:Nat)(l:Bytes):Except Fault Toks:=lex (l.length+1) at_ l
theorem Ig(at_:Nat):bS at_ []=.ok [⟨at_,.last⟩]:=rfl
theorem Ih{at_:Nat}{b:UInt8}{r:Bytes}(h:isBlank b=true):bS at_ (b::r)=bS (at_+1) r:=by
 unfold bS
 show(if isBlank b=true then _ else _)=_
 rw[if_pos h]
 exact rZ _ _ _ _ (by simp) (by simp)
theorem Ii{at_:Nat}{r:Bytes}:bS at_ (35::r)=bS (at_+1+(r.takeWhile (· != 10)).length) (r.dropWhile (· != 10)):=by
 unfold bS
 show(if isBlank 35=true then _ else _)=_
 rw[if_neg (by decide),if_pos (by decide)]
 have:=A0 (· != 10) r
 exact rZ _ _ _ _ (by rw[bJ];omega) (by omega)
theorem Ij{at_:Nat}{b:UInt8}{r:Bytes}(h1:isBlank b=false)(h2:b≠35)(h:token (b::r)=none):bS at_ (b::r)=.error ⟨2,at_⟩:=by
 unfold bS
 show(if isBlank b=true then _ else _)=_
 rw[if_neg (by rw[h1];decide),if_neg (by simpa using h2),h]
theorem Ik{at_:Nat}{b:UInt8}{r:Bytes}{x:Tok×Nat}(h1:isBlank b=false)(h2:b≠35)(h:token (b::r)=some x):
  bS at_ (b::r)=(bS (at_+x.2) ((b::r).drop x.2)).map λl=>⟨at_,x.1⟩::l:=by
 unfold bS
 show(if isBlank b=true then _ else _)=_
 rw[if_neg (by rw[h1];decide),if_neg (by simpa using h2),h]
 have hp:=xx h
 dsimp only
 rw[rZ _ (((b::r).drop x.2).length+1) _ _ (by rw[lQ,bJ];omega) (by omega)]
theorem Rk{b:Bytes}(h:¬TEXT<b.length):tokens b=bS 0 b:=by
 unfold tokens
 rw[if_neg h]
 rfl
theorem xy:∀(n at_:Nat)(l:Bytes),l.length<n->∀{t:Toks},bS at_ l=.ok t->∃body p,t=body++[⟨p,.last⟩]/\∀x∈body,x.tok≠.last
 |0,_,_,h,_,_=>by omega
 |n+1,at_,[],_,t,e=>by
  rw[Ig]at e
  cases e
  exact⟨[],at_,rfl,λx hx=>by simp at hx⟩
 |n+1,at_,b::r,h,t,e=>by
  have hr:r.length<n:=by simpa using h
  by_cases hb:isBlank b=true
  ·rw[Ih hb]at e
   exact xy n _ r hr e
  ·by_cases p_:b=35
   ·subst p_
    rw[Ii]at e
    have:=A0 (· != 10) r
    exact xy n _ _ (by omega) e
   ·cases ht:token (b::r)with
    |none=>rw[Ij (by simpa using hb) p_ ht]at e;cases e
    |some x=>
     rw[Ik (by simpa using hb) p_ ht]at e
     have hp:=xx ht
     cases e2:bS (at_+x.2) ((b::r).drop x.2)with
     |error f=>rw[e2]at e;cases e
     |ok l=>
      rw[e2]at e
      have et:(⟨at_,x.1⟩:PTok)::l=t:=by injection e
      obtain⟨body,p,e3,e4⟩:=xy n _ _ (by rw[lQ,bJ];omega) e2
      refine⟨⟨at_,x.1⟩::body,p,by rw[<-et,e3];rfl,λy hy=>?_⟩
      rcases bz.mp hy with rfl|hy
      ·intro q
       have q':x.1=.last:=q
       unfold token at ht
       dsimp only at ht
       split at ht
       ·split at ht
        ·cases ht
        ·cases ht;cases q'
       ·split at ht
        ·cases e5:numberOf ((b::r).takeWhile isDigit)with
         |none=>rw[e5]at ht;cases ht
         |some k=>rw[e5]at ht;cases ht;cases q'
        ·split at ht
         ·split at ht
          ·cases ht;cases q'
          ·cases ht
         ·split at ht
          ·cases ht;cases q'
          ·cases ht
      ·exact e4 y hy
end Br
namespace Br
open Vadiaa
theorem sub_len{α:Type}[BEq α][LawfulBEq α]:∀{a b:List α},a.Nodup->(∀x∈a,x∈b)->a.length<=b.length
 |[],_,_,_=>cw _
 |x::a,b,nd,h=>by
  have hx:=h x (by simp)
  have xA:=wV.mp nd
  have ih:=sub_len (a:=a) (b:=b.erase x) xA.2 λy hy=>by
   have a8:y≠x:=λz=>xA.1 (z▸hy)
   exact(List.mem_erase_of_ne a8).mpr (h y (by simp[hy]))
  rw[ahh hx]at ih
  have:0<b.length:=Gw hx
  rw[bJ]
  omega
theorem Il{α:Type}[BEq α][LawfulBEq α]{a b:List α}(ha:a.Nodup)(hb:b.Nodup)(h:∀x,x∈a↔x∈b):a.length=b.length:=
 ui (sub_len ha λx=>(h x).mp) (sub_len hb λx=>(h x).mpr)
theorem Im{α:Type}[BEq α][LawfulBEq α]:∀{ns ds:List α},ds.Nodup->ns.length<=ds.length->(∀x∈ds,x∈ns)->ns.Nodup
 |[],_,_,_,_=>Qo
 |x::t,ds,nd,hl,h=>by
  rw[bJ]at hl
  by_cases hx:x∈t
  ·exfalso
   have:=sub_len nd (b:=t) λy hy=>by
    rcases bz.mp (h y hy)with e|e
    ·rw[e];exact hx
    ·exact e
   omega
  ·refine wV.mpr ⟨hx,Im (ds:=ds.erase x) (nd.erase x) ?_ λy hy=>?_⟩
   ·have:=List.length_erase (a:=x) (l:=ds)
    rw[this]
    split<;>omega
   ·have h1:=h y (List.mem_of_mem_erase hy)
    rcases bz.mp h1 with e|e
    ·exfalso
     rw[e]at hy
     exact(List.Nodup.not_mem_erase nd) hy
    ·exact e
theorem Rl{ns:List Int}(h:ns.Pairwise (· <= ·))(nd:ns.Nodup):ns.Pairwise (· < ·):=by
 have h2:ns.Pairwise (· ≠ ·):=nd
 refine(h.and h2).imp λ{a b} q=>?_
 have:=q.1
 have:=q.2
 omega
theorem Io(rs:List Nat):∀(r k:Nat),k<cnt rs r->∃q,q∈rs/\q<r/\cnt rs q=k
 |0,k,h=>by
  have:cnt rs 0=0:=rfl
  omega
 |r+1,k,h=>by
  rw[AV]at h
  by_cases hk:k<cnt rs r
  ·obtain⟨q,h1,h2,h3⟩:=Io rs r k hk
   exact⟨q,h1,by omega,h3⟩
  ·by_cases hr:r∈rs
   ·rw[if_pos hr]at h
    exact⟨r,hr,by omega,by omega⟩
   ·rw[if_neg hr]at h
    omega
theorem Ip{rs:List Nat}{k:Nat}:k∈packed rs↔∃r∈rs,cnt rs r=k:=by
 rw[xu,cJ]
theorem Rm{rs:List Nat}{k:Nat}:k∈packed rs↔k<rankCount (packed rs):=by
 unfold rankCount
 constructor
 ·intro h
  have:=(HM ((packed rs).map λr=>r+1) 0).2 (k+1) (cJ.mpr ⟨k,h,rfl⟩)
  omega
 ·intro h
  rcases HN ((packed rs).map λr=>r+1) 0 with e|e
  ·omega
  ·obtain⟨m,hm,em⟩:=cJ.mp e
   obtain⟨r,hr,er⟩:=Ip.mp hm
   rw[<-em]at h
   by_cases hk:k=m
   ·rw[hk];exact hm
   ·obtain⟨q,h1,h2,h3⟩:=Io rs r k (by omega)
    exact Ip.mpr ⟨q,h1,h3⟩
theorem xB{d:Diagram}{k:Nat}:k∈ranks d↔k<rankCount (ranks d):=by
 rw[AY]
 exact Rm
theorem Rn{d:Diagram}{ds:List Int}(nd:ds.Nodup)(h:∀k,k∈ds↔k∈(ranks d).map λ(n:Nat)=>(n:Int)):ds.length=rankCount (ranks d):=by
 have e:ds.length=((cW (rankCount (ranks d))).map λ(n:Nat)=>(n:Int)).length:=by
  refine Il nd ?_ λx=>?_
  ·refine ag_ (λ(n:Nat)=>(n:Int)) (λa b xC=>?_) (Gv (n:=rankCount (ranks d)))
   intro z
   have hz:a=b:=by omega
   omega
  ·rw[h,cJ,cJ]
   constructor
   ·rintro ⟨a,ha,e⟩
    exact⟨a,gQ.mpr (xB.mp ha),e⟩
   ·rintro ⟨a,ha,e⟩
    exact⟨a,xB.mpr (gQ.mp ha),e⟩
 rw[e,aA,GJ]
def both(l:List Arc):List Arc:=l++l.map λa=>(a.2,a.1)
theorem uA{l:List Arc}{u v:Nat}:(u,v)∈both l↔(u,v)∈l\/(v,u)∈l:=by
 unfold both
 rw[cP,cJ]
 constructor
 ·rintro (h|⟨a,h,e⟩)
  ·exact .inl h
  ·right
   have e1:a.2=u:=congrArg Prod.fst e
   have e2:a.1=v:=congrArg Prod.snd e
   rw[<-e1,<-e2]
   exact h
 ·rintro (h|h)
  ·exact .inl h
  ·exact .inr ⟨(v,u),h,rfl⟩
theorem r6{n:Nat}{l:List Arc}(h:bt n l):bt n (both l):=λa ha=>by
 obtain⟨u,v⟩:=a
 rcases uA.mp ha with q|q
 ·exact h _ q
 ·exact⟨(h _ q).2,(h _ q).1⟩
theorem Ro{l:List Arc}{u v:Nat}(r:Reach (both l) u v):Reach (both l) v u:=by
 induction r with
 |refl=>exact .refl _
 |step r e ih=>exact(Reach.step (.refl _) (uA.mpr (uA.mp e).symm)).trans ih
structure jW(n:Nat)(l:List Arc)(rs:List Nat):Prop where
 len:rs.length=n
 le:∀v,v<n->rankOf rs v<=v
 con:∀v,v<n->Reach (both l) v (rankOf rs v)
theorem jW.start(n:Nat)(l:List Arc):jW n l (cW n) where
 len:=GJ
 le:=λv hv=>by unfold rankOf;rw[uc hv];exact aT _
 con:=λv hv=>by unfold rankOf;rw[uc hv];exact .refl _
def join(rs:List Nat)(a:Arc):List Nat:=(rs.set a.1 (dP (rankOf rs a.1) (rankOf rs a.2))).set a.2 (dP (rankOf rs a.1) (rankOf rs a.2))
theorem jW.join{n:Nat}{l:List Arc}{rs:List Nat}(L:jW n l rs)(hn:bt n l){a:Arc}(ha:a∈l):jW n l (join rs a):=by
 obtain⟨h1,h2⟩:=hn a ha
 have c1:=L.con a.1 h1
 have c2:=L.con a.2 h2
 have Iq:Reach (both l) a.1 a.2:=.step (.refl _) (uA.mpr (.inl ha))
 have Rp:=Ro Iq
 have l1:=L.le a.1 h1
 have l2:=L.le a.2 h2
 have at_:∀v,rankOf (Br.join rs a) v=if v=a.2 then dP (rankOf rs a.1) (rankOf rs a.2)else if v=a.1 then dP (rankOf rs a.1) (rankOf rs a.2)else rankOf rs v:=λv=>by
  unfold Br.join
  rw[lV (by rw[jO,L.len];exact h2),lV (by rw[L.len];exact h1)]
 have ahF:dP (rankOf rs a.1) (rankOf rs a.2)<=rankOf rs a.1:=Nat.min_le_left _ _
 have ahG:dP (rankOf rs a.1) (rankOf rs a.2)<=rankOf rs a.2:=Nat.min_le_right _ _
 have mc:dP (rankOf rs a.1) (rankOf rs a.2)=rankOf rs a.1\/dP (rankOf rs a.1) (rankOf rs a.2)=rankOf rs a.2:=by
  show min (rankOf rs a.1) (rankOf rs a.2)=_\/min (rankOf rs a.1) (rankOf rs a.2)=_
  omega
 refine⟨?_,λv hv=>?_,λv hv=>?_⟩
 ·unfold Br.join
  rw[jO,jO,L.len]
 ·rw[at_]
  split
  ·rename_i e;rw[e];omega
  ·split
   ·rename_i e;rw[e];omega
   ·exact L.le v hv
 ·rw[at_]
  split
  ·rename_i e
   rw[e]
   rcases mc with q|q
   ·rw[q];exact Rp.trans c1
   ·rw[q];exact c2
  ·split
   ·rename_i e
    rw[e]
    rcases mc with q|q
    ·rw[q];exact c1
    ·rw[q];exact Iq.trans c2
   ·exact L.con v hv
theorem Rq{n:Nat}{l:List Arc}{rs:List Nat}(L:jW n l rs)(hn:bt n l){a:Arc}(ha:a∈l)(hd:rankOf rs a.1≠rankOf rs a.2):(join rs a).sum<rs.sum:=by
 obtain⟨h1,h2⟩:=hn a ha
 have a8:a.1≠a.2:=λz=>hd (by rw[z])
 generalize hm:dP (rankOf rs a.1) (rankOf rs a.2)=m
 have e1:=sum_set (rs:=rs) (v:=a.1) (x:=m) (by rw[L.len];exact h1)
 have e2:=sum_set (rs:=rs.set a.1 m) (v:=a.2) (x:=m) (by rw[jO,L.len];exact h2)
 rw[lV (by rw[L.len];exact h1),if_neg (Ne.symm a8)]at e2
 have Rr:min (rankOf rs a.1) (rankOf rs a.2)=m:=hm
 unfold Br.join
 rw[hm]
 omega
def iR(n:Nat)(l:List Arc)(v:Nat):Nat:=(reached n (both l) v).foldl dP v
theorem xD(d:Diagram):parts d=(cW d.boxes.length).map (iR d.boxes.length (arcs d)):=rfl
theorem Ir(d:Diagram):(parts d).length=d.boxes.length:=by rw[xD];simp
theorem jW.done{n:Nat}{l:List Arc}{rs:List Nat}(L:jW n l rs)(hn:bt n l)(h:∀a∈l,rankOf rs a.1=rankOf rs a.2):rs=(cW n).map (iR n l):=by
 have con:∀{u v:Nat},Reach (both l) u v->rankOf rs u=rankOf rs v:=λr=>by
  induction r with
  |refl=>rfl
  |step r e ih=>
   rw[ih]
   rcases uA.mp e with q|q
   ·exact h _ q
   ·exact(h _ q).symm
 refine AQ (by rw[L.len];simp) λv hv=>?_
 have fh:v<n:=by rw[<-L.len];exact hv
 have e:rankOf ((cW n).map (iR n l)) v=iR n l v:=by
  unfold rankOf
  rw[ck,uc fh]
  rfl
 rw[e]
 unfold iR
 refine ui ?_ ?_
 ·rcases AO (reached n (both l) v) v with q|q
  ·rw[q];exact L.le v fh
  ·have r:=(oC (r6 hn) fh).mp q
   rw[con r]
   exact L.le _ (r.bound (r6 hn) fh)
 ·exact(min_le _ _).2 _ ((oC (r6 hn) fh).mpr (L.con v fh))
theorem A1{d:Diagram}{v:Nat}(hv:v<d.boxes.length):(parts d)[v]? =some (iR d.boxes.length (arcs d) v):=by
 rw[xD,ck,uc hv]
 rfl
theorem Rt{d:Diagram}(hn:bt d.boxes.length (arcs d)){v:Nat}(hv:v<d.boxes.length):iR d.boxes.length (arcs d) v<d.boxes.length/\iR d.boxes.length (arcs d) (iR d.boxes.length (arcs d) v)=iR d.boxes.length (arcs d) v:=by
 have mem:∀{u},u<d.boxes.length->Reach (both (arcs d)) u (iR d.boxes.length (arcs d) u):=λ{u} hu=>by
  unfold iR
  rcases AO (reached d.boxes.length (both (arcs d)) u) u with q|q
  ·rw[q];exact .refl _
  ·exact(oC (r6 hn) hu).mp q
 have r:=mem hv
 have hb:=r.bound (r6 hn) hv
 refine⟨hb,ui ?_ ?_⟩
 ·exact(min_le _ _).1
 ·have r2:=r.trans (mem hb)
  exact(min_le _ _).2 _ ((oC (r6 hn) hv).mpr r2)
theorem Iu:∀(l:List Nat)(k:Nat),((l.zipIdx k).filter λx=>x.1==x.2).length=((cW l.length).filter λv=>l[v]?.getD 0==v+k).length
 |[],_=>rfl
 |x::l,k=>by
  rw[List.zipIdx_cons,bJ,ahj,f_,f_]
  have ih:=Iu l (k+1)
  have e:((List.map Nat.succ (cW l.length)).filter λv=>(x::l)[v]?.getD 0==v+k).length=((cW l.length).filter λv=>l[v]?.getD 0==v+(k+1)).length:=by
   rw[List.filter_map,aA]
   congr 1
   refine GN λv _=>?_
   show((x::l)[v+1]?.getD 0==v+1+k)=_
   rw[PB,Nat.add_right_comm,Nat.add_assoc]
  have e0:(x::l)[0]?.getD 0=x:=rfl
  rw[e0,Nat.zero_add]
  by_cases h:(x==k)=true
  ·rw[if_pos h,if_pos h,bJ,bJ,ih,e]
  ·rw[if_neg h,if_neg h,ih,e]
theorem Ru{d:Diagram}(hn:bt d.boxes.length (arcs d)){ds:List Int}(nd:ds.Nodup)(h:∀k,k∈ds↔k∈(parts d).map λ(n:Nat)=>(n:Int)):ds.length=((parts d).zipIdx.filter λx=>x.1==x.2).length:=by
 rw[Iu,Ir]
 have e:ds.length=((((cW d.boxes.length).filter λv=>(parts d)[v]?.getD 0==v+0)).map λ(n:Nat)=>(n:Int)).length:=by
  refine Il nd ?_ λx=>?_
  ·refine ag_ (λ(n:Nat)=>(n:Int)) (λa b xC=>?_) ((Gv (n:=d.boxes.length)).filter _)
   intro z
   have hz:a=b:=by omega
   omega
  ·rw[h,cJ,cJ]
   constructor
   ·rintro ⟨a,ha,e⟩
    refine⟨a,dh.mpr ?_,e⟩
    rw[xD,cJ]at ha
    obtain⟨v,hv,ev⟩:=ha
    have fh:=gQ.mp hv
    obtain⟨g1,g2⟩:=Rt hn fh
    rw[ev]at g1 g2
    refine⟨gQ.mpr g1,?_⟩
    rw[A1 g1,g2]
    simp
   ·rintro ⟨a,ha,e⟩
    obtain⟨g1,g2⟩:=dh.mp ha
    have g3:=gQ.mp g1
    refine⟨a,?_,e⟩
    rw[A1 g3]at g2
    have g4:iR d.boxes.length (arcs d) a=a:=by simpa using g2
    have:=A1 g3
    rw[g4]at this
    exact bL this
 rw[e,aA]
end Br
namespace Br
open Vadiaa
open VadiBase (Bytes PName)
def cx(bs:List Box)(b:Bytes):Option Nat:=bs.findIdx? λx=>x.name.name==b
theorem Iv(d:Diagram)(b:Bytes):boxNo d b=cx d.boxes b:=rfl
theorem Rv(bs:List Box)(x:Box)(b:Bytes):cx (bs++[x]) b=(cx bs b).or (if x.name.name=b then some bs.length else none):=by
 unfold cx
 rw[List.findIdx?_append]
 congr 1
 rw[List.findIdx?_cons]
 by_cases h:x.name.name=b
 ·simp[h]
 ·simp[h]
theorem Iw{bs:List Box}{b:Bytes}{i:Nat}(h:cx bs b=some i):∃x,bs[i]? =some x/\x.name.name=b:=by
 unfold cx at h
 rw[agP]at h
 obtain⟨hi,h1,_⟩:=h
 exact⟨bs[i],bX hi,by simpa using h1⟩
theorem Rw{bs:List Box}{b:Bytes}:cx bs b=none↔∀x∈bs,x.name.name≠b:=by
 unfold cx
 rw[ahd]
 simp
theorem Rx{bs:List Box}{b:Bytes}:(cx bs b).isSome=true↔∃x∈bs,x.name.name=b:=by
 cases h:cx bs b with
 |none=>
  have:=Rw.mp h
  constructor
  ·intro z;cases z
  ·rintro ⟨x,hx,e⟩;exact absurd e (this x hx)
 |some i=>
  obtain⟨x,hx,e⟩:=Iw h
  exact⟨λ_=>⟨x,bL hx,e⟩,λ_=>rfl⟩
theorem Ry{bs:List Box}{i:Nat}{x:Box}(h:bs[i]? =some x):
  twice ((bs.take i).map λy=>y.name.name) ((bs.drop i).map λy=>y.name)=if(cx (bs.take i) x.name.name).isSome=true then some x.name.place else twice ((bs.take (i+1)).map λy=>y.name.name) ((bs.drop (i+1)).map λy=>y.name):=by
 obtain⟨hi,e⟩:=bE.mp h
 rw[wJ hi,e,eV]
 have e1:((bs.take i).map λy=>y.name.name).contains x.name.name=(cx (bs.take i) x.name.name).isSome:=by
  rw[gb,Rx,PJ,cJ]
 show(if((bs.take i).map λy=>y.name.name).contains x.name.name=true then _ else _)=_
 rw[e1]
 have e2:(bs.take (i+1)).map (λy=>y.name.name)=((bs.take i).map λy=>y.name.name)++[x.name.name]:=by
  rw[P7,h,bI]
  rfl
 rw[e2]
theorem Rz(bs:List Box):twice ((bs.take bs.length).map λy=>y.name.name) ((bs.drop bs.length).map λy=>y.name)=none:=by
 rw[Qg]
 rfl
def fR(d:Diagram):List (PName×PName):=d.edges.map λe=>(e.src,e.dst)
def ig(d:Diagram):List (PName×PName):=fR d++d.wishes
def d8(ps:List (PName×PName)):List PName:=ps.flatMap λx=>[x.1,x.2]
theorem A2(d:Diagram):namesIn d=d8 (ig d):=by
 unfold namesIn d8 ig fR
 rw[pM,List.flatMap_map]
theorem A3(d:Diagram):selfIn d=((ig d).find? λx=>x.1.name==x.2.name).map λx=>x.2.place:=by
 unfold selfIn ig fR
 rw[GL,List.find?_map]
 cases h:d.edges.find? ((λx=>x.1.name==x.2.name)∘λe=>(e.src,e.dst))with
 |none=>
  have h':d.edges.find? (λe=>e.src.name==e.dst.name)=none:=h
  rw[h']
  rfl
 |some e=>
  have h':d.edges.find? (λe=>e.src.name==e.dst.name)=some e:=h
  rw[h']
  rfl
def A4(d:Diagram)(x:PName×PName):Arc:=(numberOf d x.1,numberOf d x.2)
theorem A5(d:Diagram):arcs d=(fR d).map (A4 d):=by
 unfold arcs fR
 rw[lU]
 rfl
theorem Iy(d:Diagram):wishArcs d=d.wishes.map (A4 d):=rfl
theorem oF{d:Diagram}{x:PName}(h:(boxNo d x.name).isNone=false):∃b,d.boxes[numberOf d x]? =some b/\b.name.name=x.name:=by
 rw[Iv]at h
 cases e:cx d.boxes x.name with
 |none=>rw[e]at h;cases h
 |some i=>
  unfold numberOf
  rw[Iv,e]
  exact Iw e
theorem Iz{d:Diagram}(h:(namesIn d).find? (λx=>(boxNo d x.name).isNone)=none):∀p∈ig d,(boxNo d p.1.name).isNone=false/\(boxNo d p.2.name).isNone=false:=by
 rw[lO,A2]at h
 intro p hp
 have h1:=h p.1 (List.mem_flatMap.mpr ⟨p,hp,by simp⟩)
 have h2:=h p.2 (List.mem_flatMap.mpr ⟨p,hp,by simp⟩)
 exact⟨P9.mpr h1,P9.mpr h2⟩
theorem A6{d:Diagram}{ps:List (PName×PName)}(h:∀p∈ps,(boxNo d p.1.name).isNone=false/\(boxNo d p.2.name).isNone=false):bt d.boxes.length (ps.map (A4 d)):=λa ha=>by
 obtain⟨p,hp,e⟩:=cJ.mp ha
 obtain⟨h1,h2⟩:=h p hp
 obtain⟨b1,q1,_⟩:=oF h1
 obtain⟨b2,q2,_⟩:=oF h2
 rw[<-e]
 exact⟨(bE.mp q1).1,(bE.mp q2).1⟩
theorem RA{n:Nat}{ws:List Arc}(hn:bt n ws){i:Nat}{a:Arc}(h:ws[i]? =some a)(hd:bg (ws.take i)):open_ n (ws.take (i+1))=true↔¬Reach (ws.take i) a.2 a.1:=by
 have e_:bt n (ws.take (i+1)):=λb hb=>hn b (rC hb)
 rw[rR e_]
 have e:bg (ws.take (i+1))↔bg (a::ws.take i):=bg.iff_of_mem λb=>by
  rw[P7,h]
  simp[or_comm]
 rw[e,bg.cons]
 exact⟨λz=>z.2,λz=>⟨hd,z⟩⟩
theorem IA(d:Diagram):badWish d=((cW d.wishes.length).find? λi=> !open_ d.boxes.length ((wishArcs d).take (i+1))).bind λi=>(d.wishes[i]?).map λx=>x.1.place:=rfl
theorem RB{n i:Nat}{p:Nat->Bool}(hi:i<n)(h:p i=true)(a6:∀j,j<i->p j=false):(cW n).find? p=some i:=by
 rw[Pt]
 refine⟨h,i,by simpa using hi,by simp,λj hj=>?_⟩
 simp[a6 j hj]
theorem RC{b:Bytes}:read b=(P2 b).bind λl=>(takeAll (l.length+1) empty l).bind λd=>
 match twice [] (d.boxes.map λx=>x.name)with
  |some q=>.error ⟨5,q⟩
  |none=>match(namesIn d).find? λx=>(boxNo d x.name).isNone with
   |some x=>.error ⟨6,x.place⟩
   |none=>match selfIn d with
    |some q=>.error ⟨8,q⟩
    |none=>match badWish d with
     |some q=>.error ⟨9,q⟩
     |none=>.ok d:=rfl
theorem RD{d:Diagram}(h6:(namesIn d).find? (λx=>(boxNo d x.name).isNone)=none)(h8:selfIn d=none)(h9:bg (wishArcs d)):Good d:=by
 have hk:=Iz h6
 have hE:bt d.boxes.length (arcs d):=by rw[A5];exact A6 λp hp=>hk p (dZ _ hp)
 refine⟨hE,by rw[Iy];exact A6 λp hp=>hk p (eL _ hp),h9,λa ha z=>?_⟩
 rw[A5]at ha
 obtain⟨p,hp,e⟩:=cJ.mp ha
 have ij:p∈ig d:=dZ _ hp
 obtain⟨k1,k2⟩:=hk p ij
 obtain⟨b1,q1,r1⟩:=oF k1
 obtain⟨b2,q2,r2⟩:=oF k2
 have ez:numberOf d p.1=numberOf d p.2:=by rw[<-e]at z;exact z
 rw[ez,q2]at q1
 cases q1
 rw[A3]at h8
 have hn:(ig d).find? (λx=>x.1.name==x.2.name)=none:=by
  cases q:(ig d).find? λx=>x.1.name==x.2.name with
  |none=>rfl
  |some x=>rw[q]at h8;cases h8
 have:=lO.mp hn p ij
 exact this (by rw[<-r1,<-r2];simp)
end Br
namespace Br
open Vadiaa
open VadiBase (Bytes PName Toks Fault)
def A7(d:Diagram):Except Fault Diagram:=match twice [] (d.boxes.map λx=>x.name)with
 |some q=>.error ⟨5,q⟩
 |none=>match(namesIn d).find? λx=>(boxNo d x.name).isNone with
  |some x=>.error ⟨6,x.place⟩
  |none=>match selfIn d with
   |some q=>.error ⟨8,q⟩
   |none=>match badWish d with
    |some q=>.error ⟨9,q⟩
    |none=>.ok d
theorem RE{b:Bytes}:read b=(P2 b).bind λl=>(takeAll (l.length+1) empty l).bind A7:=rfl
def xE(d:Diagram):Prop:=∀b∈d.boxes,b.w<=b.name.name.length+30/\b.h<=9
theorem IB{lo hi:Nat}{l:Toks}{n:Nat}{r:Toks}(h:takeNum lo hi l=.ok (n,r)):n<=hi:=by
 unfold takeNum at h
 split at h
 ·split at h
  ·cases h
  ·rename_i hh
   cases h
   omega
 ·cases h
theorem r8{ε α β:Type}{x:Except ε α}{f:α->Except ε β}{y:β}(h:x.bind f=.ok y):∃a,x=.ok a/\f a=.ok y:=by
 cases x with
 |error e=>cases h
 |ok a=>exact⟨a,rfl,h⟩
theorem RF{ε α β:Type}{x:Except ε α}{f:α->β}{y:β}(h:x.map f=.ok y):∃a,x=.ok a/\f a=y:=by
 cases x with
 |error e=>cases h
 |ok a=>exact⟨a,rfl,by injection h⟩
theorem RG{l:Toks}{bx:Box}{rest:Toks}(h:takeBox l=.ok (bx,rest)):bx.w<=bx.name.name.length+30/\bx.h<=9:=by
 unfold takeBox at h
 obtain⟨x,_,h⟩:=r8 h
 split at h
 ·cases h
  exact⟨by show x.1.name.length+4<=x.1.name.length+30;omega,by show 3<=9;decide⟩
 ·obtain⟨w,hw,h⟩:=r8 h
  obtain⟨hh,RH,h⟩:=r8 h
  obtain⟨m,_,h⟩:=RF h
  cases h
  have h1:=IB hw
  have h2:=IB RH
  have e1:WIDE=30:=rfl
  have e2:HIGH=9:=rfl
  exact⟨by show w.1<=_;omega,by show hh.1<=9;omega⟩
theorem xF:∀(n:Nat)(d:Diagram)(l:Toks)(d':Diagram),takeAll n d l=.ok d'->xE d->xE d'
 |0,d,l,d',h,_=>by cases h
 |n+1,d,l,d',h,hs=>by
  unfold takeAll at h
  split at h
  ·split at h
   ·split at h
    ·cases h
    ·obtain⟨x,hx,h⟩:=r8 h
     refine xF n _ _ _ h λb hb=>?_
     rcases cP.mp hb with hb|hb
     ·exact hs b hb
     ·rw[cY.mp hb]
      exact RG hx
   ·split at h
    ·split at h
     ·cases h
     ·obtain⟨x,hx,h⟩:=r8 h
      exact xF n _ _ _ h hs
    ·split at h
     ·split at h
      ·cases h
      ·obtain⟨x,hx,h⟩:=r8 h
       exact xF n _ _ _ h hs
     ·cases h
  ·split at h
   ·cases h
    exact hs
   ·cases h
theorem RI{d:Diagram}(e_:bt d.boxes.length (wishArcs d))(hd:bg (wishArcs d)):badWish d=none:=by
 rw[IA]
 have:(cW d.wishes.length).find? (λi=> !open_ d.boxes.length ((wishArcs d).take (i+1)))=none:=by
  rw[lO]
  intro i _
  have:open_ d.boxes.length ((wishArcs d).take (i+1))=true:=(rR λb hb=>e_ b (rC hb)).mpr (hd.mono λb hb=>rC hb)
  rw[this]
  decide
 rw[this]
 rfl
theorem RJ{d:Diagram}{i:Nat}{x:PName×PName}(h:open_ d.boxes.length ((wishArcs d).take (i+1))=false)(a6:∀j,j<i->open_ d.boxes.length ((wishArcs d).take (j+1))=true)(hx:d.wishes[i]? =some x):badWish d=some x.1.place:=by
 rw[IA,RB (i:=i) (bE.mp hx).1 (by rw[h];rfl) (λj hj=>by rw[a6 j hj];rfl)]
 show(d.wishes[i]?).map _=_
 rw[hx]
 rfl
end Br
namespace Br
open Vadiaa
def wn:List Nat:=[0,0,0,1,1,0,1,0,1,0,2,0,0]
theorem RK(p:Int):(p=0/\jQ p=some (0,1))\/(∃k n:Nat,p=(k:Int)/\1<=k/\k<=12/\wn[k]? =some n/\jQ p=some (n,0))\/jQ p=none:=by
 by_cases h0:p=0
 ·subst h0;exact .inl ⟨rfl,rfl⟩
 by_cases h1:p=1
 ·subst h1;exact .inr (.inl ⟨1,0,rfl,by decide,by decide,rfl,rfl⟩)
 by_cases h2:p=2
 ·subst h2;exact .inr (.inl ⟨2,0,rfl,by decide,by decide,rfl,rfl⟩)
 by_cases h3:p=3
 ·subst h3;exact .inr (.inl ⟨3,1,rfl,by decide,by decide,rfl,rfl⟩)
 by_cases h4:p=4
 ·subst h4;exact .inr (.inl ⟨4,1,rfl,by decide,by decide,rfl,rfl⟩)
 by_cases h5:p=5
 ·subst h5;exact .inr (.inl ⟨5,0,rfl,by decide,by decide,rfl,rfl⟩)
 by_cases h6:p=6
 ·subst h6;exact .inr (.inl ⟨6,1,rfl,by decide,by decide,rfl,rfl⟩)
 by_cases h7:p=7
 ·subst h7;exact .inr (.inl ⟨7,0,rfl,by decide,by decide,rfl,rfl⟩)
 by_cases h8:p=8
 ·subst h8;exact .inr (.inl ⟨8,1,rfl,by decide,by decide,rfl,rfl⟩)
 by_cases h9:p=9
 ·subst h9;exact .inr (.inl ⟨9,0,rfl,by decide,by decide,rfl,rfl⟩)
 by_cases fi:p=10
 ·subst fi;exact .inr (.inl ⟨10,2,rfl,by decide,by decide,rfl,rfl⟩)
 by_cases r9:p=11
 ·subst r9;exact .inr (.inl ⟨11,0,rfl,by decide,by decide,rfl,rfl⟩)
 by_cases r_:p=12
 ·subst r_;exact .inr (.inl ⟨12,0,rfl,by decide,by decide,rfl,rfl⟩)
 refine .inr (.inr ?_)
 unfold jQ
 rw[if_neg h0,if_neg h1,if_neg h2,if_neg h3,if_neg h4,if_neg h5,if_neg h6,if_neg h7,if_neg h8,if_neg h9,if_neg fi,if_neg r9,if_neg r_]
inductive Head:List Int->List (List Int)->List Int->Prop
 |load (n:Nat) (r:List Int) (h:n<=r.length):Head (0::(n:Int)::r) [[0],r.take n] (r.drop n)
 |other (k n:Nat) (r:List Int) (h1:1<=k) (h2:k<=12) (h3:wn[k]? =some n) (h4:n<=r.length):Head ((k:Int)::r) [(k:Int)::r.take n] (r.drop n)
theorem RL{p:Int}{r t:List Int}{c:List (List Int)}(h:Qx jQ (p::r)=some (c,t)):Head (p::r) c t:=by
 unfold Qx at h
 dsimp only at h
 rcases RK p with⟨h0,hs⟩|⟨k,n,hp,h1,h2,h3,hs⟩|hs
 ·rw[hs]at h
  dsimp only at h
  rw[if_neg (by omega),Hc]at h
  unfold PyFlat.rows PyFlat.row at h
  cases r with
  |nil=>cases h
  |cons n r=>
   dsimp only at h
   by_cases hn:0<=n/\n.toNat<=r.length
   ·rw[if_pos hn]at h
    obtain⟨m,rfl⟩:∃m:Nat,n=(m:Int):=⟨n.toNat,by omega⟩
    have h:some ((p::List.take 0 ((m:Int)::r))::[r.take (m:Int).toNat],r.drop (m:Int).toNat)=some (c,t):=h
    injection h with h
    injection h with h1 h2
    rw[<-h1,<-h2,h0]
    exact .load m r (by simpa using hn.2)
   ·rw[if_neg hn]at h
    cases h
 ·rw[hs]at h
  dsimp only at h
  by_cases hl:r.length<n
  ·rw[if_pos hl]at h
   cases h
  ·rw[if_neg hl]at h
   have h:some ((p::r.take n)::[],r.drop n)=some (c,t):=h
   injection h with h
   injection h with g1 g2
   rw[<-g1,<-g2,hp]
   exact .other k n r h1 h2 h3 (by omega)
 ·rw[hs]at h
  cases h
theorem IC{f:Nat}{l:List Int}{cs:List (List (List Int))}(h:ow jQ f l=some cs):(l=[]/\cs=[])\/∃c t qa f',Head l c t/\ow jQ f' t=some qa/\cs=c::qa:=by
 cases l with
 |nil=>
  left
  cases f<;>(unfold ow at h;injection h with h;exact⟨rfl,h.symm⟩)
 |cons p r=>
  right
  cases f with
  |zero=>cases h
  |succ f=>
   unfold ow at h
   cases e:Qx jQ (p::r)with
   |none=>rw[e]at h;cases h
   |some x=>
    obtain⟨c,t⟩:=x
    rw[e]at h
    dsimp only at h
    cases e2:ow jQ f t with
    |none=>rw[e2]at h;cases h
    |some qa=>
     rw[e2]at h
     injection h with h
     exact⟨c,t,qa,f,RL e,e2,h.symm⟩
def cn(c:List (List Int)):Int:=match c with
 |(p::_)::_=>p
 |_=>0
def cg(c:List (List Int)):List Int:=match c with
 |[_,x]=>x
 |[_::xs]=>xs
 |_=>[]
theorem ID{n:Nat}{l:List Arc}{s t:Nat}(hn:bt n l)(hs:s<n):((way n l s t).getD []).length<=n:=by
 obtain⟨i,ws,cf,S,h⟩:=xi (t:=t) hn n 0 [[s]] _ (fF.start hs) (by omega)
 rcases h with h|h
 ·obtain⟨w,hw,e⟩:=cJ.mp h
  rw[S.found hw e]
  exact cp (S.wl w hw) S.toBfs.len
 ·rw[(S.none h).1]
  exact cw _
theorem heads{cs:List (List (List Int))}:∀{f:Nat}{l:List Int},ow jQ f l=some cs->∀c∈cs,∃l t,Head l c t:=by
 induction cs with
 |nil=>intro f l _ c hc;cases hc
 |cons c0 cs ih=>
  intro f l h c hc
  rcases IC h with⟨_,e⟩|⟨c1,t,qa,f',hh,ht,e⟩
  ·cases e
  ·injection e with e1 e2
   subst e1 e2
   rcases bz.mp hc with e|e
   ·subst e;exact⟨l,t,hh⟩
   ·exact ih ht c e
theorem IE{k n:Nat}{r:List Int}(h1:1<=k)(h2:k<=12)(h3:wn[k]? =some n)(h4:n<=r.length):
  (r.take n=[]/\(k=1\/k=2\/k=5\/k=7\/k=9\/k=11\/k=12))\/(∃i,r.take n=[i]/\(k=3\/k=4\/k=6\/k=8))\/∃i j,r.take n=[i,j]/\k=10:=by
 have t0:∀{n:Nat},some 0=some n->r.take n=[]:=λe=>by injection e with e;subst e;rfl
 have t1:∀{n:Nat},some 1=some n->n<=r.length->∃i,r.take n=[i]:=λe g=>by
  injection e with e
  subst e
  cases r with
  |nil=>exact absurd g (by decide)
  |cons i r=>exact⟨i,rfl⟩
 have t2:∀{n:Nat},some 2=some n->n<=r.length->∃i j,r.take n=[i,j]:=λe g=>by
  injection e with e
  subst e
  cases r with
  |nil=>exact absurd g (by decide)
  |cons i r=>
   cases r with
   |nil=>exact absurd g (show ¬2<=1 by decide)
   |cons j r=>exact⟨i,j,rfl⟩
 have hk:∀k:Nat,k<=12->1<=k->k=1\/k=2\/k=3\/k=4\/k=5\/k=6\/k=7\/k=8\/k=9\/k=10\/k=11\/k=12:=by decide
 replace hk:=hk k h2 h1
 rcases hk with rfl|rfl|rfl|rfl|rfl|rfl|rfl|rfl|rfl|rfl|rfl|rfl
 ·exact .inl ⟨t0 h3,.inl rfl⟩
 ·exact .inl ⟨t0 h3,by decide⟩
 ·obtain⟨i,e⟩:=t1 h3 h4;exact .inr (.inl ⟨i,e,by decide⟩)
 ·obtain⟨i,e⟩:=t1 h3 h4;exact .inr (.inl ⟨i,e,by decide⟩)
 ·exact .inl ⟨t0 h3,by decide⟩
 ·obtain⟨i,e⟩:=t1 h3 h4;exact .inr (.inl ⟨i,e,by decide⟩)
 ·exact .inl ⟨t0 h3,by decide⟩
 ·obtain⟨i,e⟩:=t1 h3 h4;exact .inr (.inl ⟨i,e,by decide⟩)
 ·exact .inl ⟨t0 h3,by decide⟩
 ·obtain⟨i,j,e⟩:=t2 h3 h4;exact .inr (.inr ⟨i,j,e,rfl⟩)
 ·exact .inl ⟨t0 h3,by decide⟩
 ·exact .inl ⟨t0 h3,by decide⟩
theorem RM{l:List Int}{c:List (List Int)}{t:List Int}(h:Head l c t):GZ c=c:=by
 cases h with
 |load n r h=>rfl
 |other k n r h1 h2 h3 h4=>
  rcases IE h1 h2 h3 h4 with⟨e,g⟩|⟨i,e,g⟩|⟨i,j,e,g⟩
  ·rw[e]
   rcases g with rfl|rfl|rfl|rfl|rfl|rfl|rfl<;>rfl
  ·rw[e]
   rcases g with rfl|rfl|rfl|rfl<;>rfl
  ·rw[e,g];rfl
theorem IF{l:List Int}{cs:List (List (List Int))}(h:G0 l=some cs):ow jQ l.length l=some cs:=by
 unfold G0 at h
 cases e:ow jQ l.length l with
 |none=>rw[e]at h;cases h
 |some xs=>
  rw[e]at h
  have:xs.map GZ=xs:=by
   have q:xs.map GZ=xs.map id:=PN λc hc=>let⟨_,_,q⟩:=heads e c hc;RM q
   rw[q,List.map_id]
  have h:some (xs.map GZ)=some cs:=h
  rw[this]at h
  exact h
end Br
set_option Elab.async false
set_option linter.all false
set_option maxRecDepth 100000
namespace L2
open PySem PySem.Spec PyProof.Rows
abbrev Key:=Sum Int Str
def sf:Key->Value->Bool
 | .inl k,v=>Hm k v
 | .inr x,v=>Value.isStrOf x v
def RN(w:World):Key->Int
 | .inl k=>hashInt k
 | .inr x=>hashStr w x
theorem mY:∀{k:Key}{v:Value},sf k v=true->(∃i t,k=cK i/\v=xf i t)\/(∃x t,k=um x/\v=Ho x t)
 | .inl i,v,h=>by
  obtain⟨t,e⟩:=ahz (k:=i) (v:=v) h
  exact .inl ⟨i,t,rfl,e⟩
 | .inr x,v,h=>by
  obtain⟨t,e⟩:=Value.isStrOf_shape (x:=x) (v:=v) h
  exact .inr ⟨x,t,rfl,e⟩
theorem RO(i:Int)(t:Tok):sf (.inl i) (.int i t)=true:=by simp[sf,Hm]
theorem RP(x:Str)(t:Tok):sf (.inr x) (.str x t)=true:=by simp[sf,Value.isStrOf]
theorem RQ(a b:Int):decide ((cK a:Key)=cK b)=(a==b):=by
 by_cases e:a=b
 ·subst e;simp
 ·have h:¬(cK a:Key)=cK b:=λq=>e (Sum.inl.inj q)
  rw[decide_eq_false h]
  exact(beq_eq_false_iff_ne.mpr e).symm
theorem RR(a b:Str):decide ((um a:Key)=um b)=decide (a=b):=by
 by_cases e:a=b
 ·subst e;simp
 ·have h:¬(um a:Key)=um b:=λq=>e (Sum.inr.inj q)
  rw[decide_eq_false h,decide_eq_false e]
theorem RS(a:Int)(b:Str):decide ((cK a:Key)=um b)=false:=decide_eq_false (λq=>nomatch q)
theorem RT(a:Str)(b:Int):decide ((um a:Key)=cK b)=false:=decide_eq_false (λq=>nomatch q)
def ik(prog:Program)(w:World):PySem.KeyKind prog w Key where
 is:=sf
 hash:=RN w
 inj:=λv a b ha hb=>by
  rcases mY ha with⟨i,t,rfl,rfl⟩|⟨x,t,rfl,rfl⟩
  ·rcases mY hb with⟨j,u,rfl,e⟩|⟨y,u,rfl,e⟩
   ·injection e with e1 _;rw[e1]
   ·exact nomatch e
  ·rcases mY hb with⟨j,u,rfl,e⟩|⟨y,u,rfl,e⟩
   ·exact nomatch e
   ·injection e with e1 _;rw[e1]
 byValue:=λk v h=>by
  rcases mY h with⟨i,t,rfl,rfl⟩|⟨x,t,rfl,rfl⟩<;>rfl
 pyHash:=λhv h=>by
  rcases mY hv with⟨i,t,rfl,rfl⟩|⟨x,t,rfl,rfl⟩
  ·exact wpAny_pyHash_int h
  ·exact wpAny_pyHash_str h
 eqBool:=λhu hv h=>by
  rcases mY hu with⟨i,t,rfl,rfl⟩|⟨x,t,rfl,rfl⟩
  ·rcases mY hv with⟨j,u,rfl,rfl⟩|⟨y,u,rfl,rfl⟩
   ·rw[RQ]at h;exact wpAny_eqBool_int h
   ·rw[RS]at h;exact ahg i t y u _ _ _ _ h
  ·rcases mY hv with⟨j,u,rfl,rfl⟩|⟨y,u,rfl,rfl⟩
   ·rw[RT]at h;exact ahf x t j u _ _ _ _ h
   ·rw[RR]at h;exact wpAny_eqBool_str h
 «strs»:=λk x t v h=>by
  rcases mY h with⟨i,u,rfl,e⟩|⟨y,u,rfl,e⟩
  ·exact nomatch e
  ·injection e with e1 _
   subst e1
   cases v<;>rfl
theorem RU(prog:Program)(w:World)(i:Int)(t:Tok):(ik prog w).is (.inl i) (.int i t)=true:=RO i t
theorem RV(prog:Program)(w:World)(x:Str)(t:Tok):(ik prog w).is (.inr x) (.str x t)=true:=RP x t
end L2
namespace L2
open PySem PySem.Spec PyProof.Rows
inductive V where
 |aO|bl (b:Bool)|int (i:Int)|str (x:Str)|gg (b:Array UInt8)|uB (b:UInt64)|ref (a:Addr)|ty (n:String)
 deriving DecidableEq
def RelV:V->Value->Prop
 | .aO,u=>u=d7
 | .bl b,u=>u=Value.bool b
 | .int i,u=>∃t,u=xf i t
 | .str x,u=>∃t,u=Ho x t
 | .gg b,u=>∃t,u=Value.bytes b t
 | .uB b,u=>∃t,u=Value.float b t
 | .ref a,u=>u=cD a
 | .ty n,u=>u=pW n
abbrev Vals:List V->List Value->Prop:=Paired RelV
theorem Vals.length{xs:List V}{us:List Value}(r:Vals xs us):xs.length=us.length:=a7 r
theorem Vals.get:∀{xs:List V}{us:List Value}{i:Nat}{x:V},Vals xs us->xs[i]? =some x->∃u,us[i]? =some u/\RelV x u
 |_,_,_,_,.nil,e=>by simp at e
 |_,_,0,_,.cons r _,e=>by simp at e;subst e;exact⟨_,rfl,r⟩
 |_,_,i+1,x,.cons _ t,e=>by
  obtain⟨u,h1,h2⟩:=Vals.get (i:=i) (x:=x) t (by simpa using e)
  exact⟨u,by simpa using h1,h2⟩
theorem Vals.set{x:V}{u:Value}(r:RelV x u):∀{xs:List V}{us:List Value}(i:Nat),Vals xs us->Vals (xs.set i x) (us.set i u)
 |_,_,_,.nil=>.nil
 |_,_,0,.cons _ t=>.cons r t
 |_,_,i+1,.cons q t=>.cons q (Vals.set r i t)
theorem Vals.append:∀{xs ys:List V}{us ws:List Value},Vals xs us->Vals ys ws->Vals (xs++ys) (us++ws)
 |_,_,_,_,.nil,s=>s
 |_,_,_,_,.cons r t,s=>.cons r (Vals.append t s)
theorem Vals.take:∀{xs:List V}{us:List Value}(n:Nat),Vals xs us->Vals (xs.take n) (us.take n)
 |_,_,0,_=>.nil
 |_,_,_+1,.nil=>.nil
 |_,_,n+1,.cons r t=>.cons r (Vals.take n t)
theorem Vals.drop:∀{xs:List V}{us:List Value}(n:Nat),Vals xs us->Vals (xs.drop n) (us.drop n)
 |_,_,0,r=>r
 |_,_,_+1,.nil=>.nil
 |_,_,n+1,.cons _ t=>Vals.drop n t
def fG:Option V->Option Value->Prop
 |some v,some u=>RelV v u
 |none,none=>True
 |_,_=>False
def KV{κ:Type}:List (κ×V)->List (κ×Value)->Prop:=Paired λ(p:κ×V) (q:κ×Value)=>p.1=q.1/\RelV p.2 q.2
def kV:Key->V
 | .inl i=>.int i
 | .inr x=>.str x
inductive HO where
 |lst (xs:List V)
 |tup (xs:List V)
 |dK (ag:List (Key×V))|dT (ag:List (List Key×V))
 |set (S:Int->Bool) (n:Nat)
 |ins (C dx:Addr) (fs:List (Str×V))
 |own (x:Addr)
 |xd (fs:List (Str×V))
 |met (f x:Addr)
 |A8 (lo hi:Int)
 |fH (o:Obj) (u:HO)
 |qb (ps:Array Value)
 |ext (φ:Heap->Prop)
abbrev Hp:=Addr->Option HO
def upd(H:Hp)(a:Addr)(o:HO):Hp:=λb=>if b=a then some o else H b
theorem aj{H:Hp}{a:Addr}{o:HO}:upd H a o a=some o:=by unfold upd;rw[if_pos rfl]
theorem ao{H:Hp}{a b:Addr}{o:HO}(h:b≠a):upd H a o b=H b:=by unfold upd;rw[if_neg h]
theorem fJ{H:Hp}{a:Addr}{o u:HO}:upd (upd H a o) a u=upd H a u:=by
 funext b;unfold upd;split<;>rfl
theorem dq{H:Hp}{a b:Addr}{o u:HO}(h:H a=some o)(h':H b=some u)(d:o≠u):a≠b:=by
 intro e;subst e;rw[h]at h';exact d (cZ h')
theorem aF{H:Hp}{a b:Addr}{o:HO}(h:H a=some o)(h':H b=none):a≠b:=by
 intro e;subst e;rw[h]at h';cases h'
section
variable(P:Program)(w:World)
def b_(H:Hp)(h:Heap)(a:Addr):HO->Prop
 | .lst xs=>xs.length<=sizeLine/\∃(ak:List Value)(n:Nat),Vals xs ak/\h.get? a=some {cls:=.type "list",data:=.seq ak.toArray n}
 | .tup xs=>xs.length<=sizeLine/\∃ak:List Value,Vals xs ak/\IsTup h a ak.toArray
 | .dK ag=>ag.length<=sizeLine/\(a==sysModules)=false/\∃vs,KV ag vs/\h.DictOf (ik P w) a vs
 | .dT ag=>ag.length<=sizeLine/\(a==sysModules)=false/\∃xs:List (List Key×Addr×Value),
   Paired (λ(p:List Key×V) (q:List Key×Addr×Value)=>p.1=q.1/\H q.2.1=some (.tup (p.1.map kV))/\RelV p.2 q.2.2) ag xs/\
   ∃o es ep,h.get? a=some o/\o.ExactDict/\o.data=.dict es ep/\es.toList=xs.map (entryOfKey (tupleKind (ik P w)))/\(xs.map (·.1)).Nodup
 | .set S n=>h.SetOf (intKind P w) a S n
 | .ins C dx fs=>H dx=some (.own a)/\fs.length<=1000/\dx≠a/\h.get? a=some (rG C dx)/\
   ∃mA,h.Ns1 dx mA/\(∀f,fG (fs.lookup f) (mA f))/\Ar mA (fs.map (·.1))
 | .own _=>∃o,h.get? a=some o
 | .xd fs=>∃mA,h.Ns1 a mA/\∀f,fG (fs.lookup f) (mA f)
 | .A8 lo hi=>∃t u v,h.get? a=some {cls:=.type "range",data:=.fields #[.int lo t,.int hi u,.int 1 v]}
 | .fH o u=>h.get? a=some o/\b_ H h a u
 | .qb ps=>h.get? a=some {cls:=.none,data:=.fields ps}
 | .met f x=>h.get? a=some (PU (.ref f) (.ref x))
 | .ext φ=>φ h/\(∃o,h.get? a=some o)/\∀h1 h2:Heap,φ h1->(∀o,h1.get? a=some o->h2.get? a=some o)->φ h2
def cH(H:Hp)(h:Heap):Prop:=∀a o,H a=some o->b_ P w H h a o
end
section
variable{P:Program}{w:World}{H H':Hp}{h h':Heap}{a:Addr}{o:HO}
theorem b_.lt(x:b_ P w H h a o):a<h.objs.size:=by
 cases o with
 |lst xs=>obtain⟨_,_,_,_,e⟩:=x;exact bO e
 |tup xs=>obtain⟨_,_,_,p⟩:=x;exact p.lt
 |dK ag=>obtain⟨_,_,_,_,o,_,_,e,_⟩:=x;exact bO e
 |dT ag=>obtain⟨_,_,_,_,o,_,_,e,_⟩:=x;exact bO e
 |set S n=>obtain⟨o,_,_,_,e,_⟩:=x;exact bO e
 |ins C dx fs=>obtain⟨_,_,_,e,_⟩:=x;exact bO e
 |own y=>obtain⟨_,e⟩:=x;exact bO e
 |xd fs=>obtain⟨_,⟨_,_,_,e,_⟩,_⟩:=x;exact bO e
 |A8 lo hi=>obtain⟨_,_,_,e⟩:=x;exact bO e
 |fH ob u=>obtain⟨e,_⟩:=x;exact bO e
 |qb ps=>exact bO (show h.get? a=some _ from x)
 |met f y=>exact bO (show h.get? a=some _ from x)
 |ext φ=>obtain⟨_,⟨_,e⟩,_⟩:=x;exact bO e
theorem Paired.aX{α β:Type}{F G:α->β->Prop}:∀{IG:List α}{IH:List β},Paired F IG IH->(∀a b,F a b->G a b)->Paired G IG IH
 |_,_,.nil,_=>.nil
 |_,_,.cons r t,f=>.cons (f _ _ r) (Paired.aX t f)
theorem b_.jX(x:b_ P w H h a o)(k:∀b u,(b=a\/H b=some (.own a))->h.get? b=some u->h'.get? b=some u)
  (ho:∀b,H b=some (.own a)->H' b=some (.own a)) (ht:∀b xs,H b=some (.tup xs)->H' b=some (.tup xs)):b_ P w H' h' a o:=by
 induction o with
 |lst xs=>obtain⟨z,ak,n,r,e⟩:=x;exact⟨z,ak,n,r,k _ _ (.inl rfl) e⟩
 |tup xs=>obtain⟨z,ak,r,ob,e,c⟩:=x;exact⟨z,ak,r,ob,k _ _ (.inl rfl) e,c⟩
 |dK ag=>obtain⟨z,y,vs,r,ob,es,ep,e,c⟩:=x;exact⟨z,y,vs,r,ob,es,ep,k _ _ (.inl rfl) e,c⟩
 |dT ag=>
  obtain⟨z,y,xs,r,ob,es,ep,e,c⟩:=x
  exact⟨z,y,xs,Paired.aX r λp q z=>⟨z.1,ht _ _ z.2.1,z.2.2⟩,ob,es,ep,k _ _ (.inl rfl) e,c⟩
 |set S n=>obtain⟨ob,es,ep,t,e,c⟩:=x;exact⟨ob,es,ep,t,k _ _ (.inl rfl) e,c⟩
 |ins C dx fs=>
  obtain⟨d,z,ne,e,mA,⟨od,es,ep,e2,c⟩,r⟩:=x
  exact⟨ho _ d,z,ne,k _ _ (.inl rfl) e,mA,⟨od,es,ep,k _ _ (.inr d) e2,c⟩,r⟩
 |own y=>obtain⟨ob,e⟩:=x;exact⟨ob,k _ _ (.inl rfl) e⟩
 |xd fs=>obtain⟨mA,⟨od,es,ep,e,c⟩,r⟩:=x;exact⟨mA,⟨od,es,ep,k _ _ (.inl rfl) e,c⟩,r⟩
 |A8 lo hi=>obtain⟨t,u,v,e⟩:=x;exact⟨t,u,v,k _ _ (.inl rfl) e⟩
 |fH ob u ih=>obtain⟨e,q⟩:=x;exact⟨k _ _ (.inl rfl) e,ih q⟩
 |qb ps=>
  have e:h.get? a=some {cls:=.none,data:=.fields ps}:=x
  show h'.get? a=some {cls:=.none,data:=.fields ps}
  exact k a _ (.inl rfl) e
 |met f y=>
  have e:h.get? a=some (PU (.ref f) (.ref y)):=x
  show h'.get? a=some (PU (.ref f) (.ref y))
  exact k a _ (.inl rfl) e
 |ext φ=>obtain⟨p,⟨o,e⟩,st⟩:=x;exact⟨st _ _ p λo q=>k _ _ (.inl rfl) q,⟨o,k _ _ (.inl rfl) e⟩,st⟩
theorem cH.lt(x:cH P w H h)(e:H a=some o):a<h.objs.size:=(x a o e).lt
theorem cH.fresh(x:cH P w H h)(e:h.objs.size<=a):H a=none:=by
 cases q:H a with
 |none=>rfl
 |some u=>exact absurd (eM (x.lt q) e) (iP _)
theorem cH.kept(x:cH P w H h)(k:∀b u,h.get? b=some u->h'.get? b=some u):cH P w H h':=λa o e=>
 (x a o e).jX (λb u _ q=>k b u q) (λ_ q=>q) λ_ _ q=>q
theorem cH.laid(x:cH P w H h)(k:∀b u,h.get? b=some u->h'.get? b=some u)(hp:h.objs.size<=a)(new:b_ P w (upd H a o) h' a o):cH P w (upd H a o) h':=λb u e=>by
 have hn:=x.fresh hp
 by_cases hb:b=a
 ·subst hb;rw[aj]at e;cases e;exact new
 ·rw[ao hb]at e
  exact(x b u e).jX (λc v _ q=>k c v q) (λc q=>by rw[ao (aF q hn)];exact q) λc xs q=>by rw[ao (aF q hn)];exact q
end
def Rd(H:Hp)(a:Addr)(u:HO):Prop:=H a=some u\/∃o,H a=some (.fH o u)
theorem Rd.ok{P:Program}{w:World}{H:Hp}{h:Heap}{a:Addr}{u:HO}(r:Rd H a u)(x:cH P w H h):b_ P w H h a u:=by
 rcases r with r|⟨o,r⟩
 ·exact x a u r
 ·obtain⟨_,q⟩:=x a _ r
  exact q
def uC:Option HO->Prop
 |some (.lst _)=>True
 |some (.dK _)=>True
 |some (.dT _)=>True
 |some (.set _ _)=>True
 |some (.ins _ _ _)=>True
 |some (.ext _)=>True
 |_=>False
section
variable{P:Program}{w:World}{H:Hp}{h h':Heap}{x e:Addr}{o':HO}
theorem cH.write(ok:cH P w H h)(mu:uC (H x))(he:e=x\/H e=some (.own x))(k:∀b u,b≠e->h.get? b=some u->h'.get? b=some u)(sg:∃u,h'.get? e=some u)
  (new:b_ P w (upd H x o') h' x o'):cH P w (upd H x o') h':=λb u q=>by
 have II:∀c y,H c=some (.own y)->c≠x:=λc y r z=>by subst z;rw[r]at mu;exact mu
 have RW:∀c xs,H c=some (.tup xs)->c≠x:=λc xs r z=>by subst z;rw[r]at mu;exact mu
 by_cases hb:b=x
 ·subst hb;rw[aj]at q;cases q;exact new
 ·rw[ao hb]at q
  by_cases qc:b=e
  ·have q':H b=some (.own x):=by
    rcases he with z|z
    ·exact absurd (qc.trans z) hb
    ·rw[qc];exact z
   rw[q]at q';cases q'
   obtain⟨v,hv⟩:=sg
   exact⟨v,by rw[qc];exact hv⟩
  ·refine(ok b u q).jX (λc v hc r=>k c v ?_ r) (λc r=>by rw[ao (II c b r)];exact r) λc xs r=>by rw[ao (RW c xs r)];exact r
   rcases hc with rfl|hc
   ·exact qc
   ·rintro rfl
    rcases he with z|z
    ·exact II c b hc z
    ·rw[hc]at z;cases z;exact hb rfl
end
structure Un(fs ex:List Addr)(H H':Hp)(h h':Heap):Prop where
 keep:∀b o,h.get? b=some o->H b=none->b∉fs->b∉ex->h'.get? b=some o
 slot:∀b o,h.get? b=some o->H b=none->b∈fs->b∉ex->∃sl,h'.get? b=some {o with slots:=sl}
 free:∀b o,h.get? b=some o->H b=none->b∉ex->H' b=none
 there:∀b o,h.get? b=some o->b∉ex->∃o',h'.get? b=some o'
 kK:∀b xs,H b=some (.tup xs)->H' b=some (.tup xs)
 jY:∀b o u,H b=some (.fH o u)->H' b=some (.fH o u)
 lX:∀b ps,H b=some (.qb ps)->∃more,H' b=some (.qb (ps++more))
section
variable{fs RX ex ex':List Addr}{H H1 H2:Hp}{h h1 h2 h':Heap}{a x e:Addr}{o:HO}
theorem Un.any(u:Un fs ex H H1 h h1){b:Addr}{ob:Obj}(q:h.get? b=some ob)(n:H b=none)(hx:b∉ex):∃sl,h1.get? b=some {ob with slots:=sl}:=by
 by_cases hb:b∈fs
 ·exact u.slot b ob q n hb hx
 ·exact⟨ob.slots,u.keep b ob q n hb hx⟩
theorem Un.kept(k:∀b u,h.get? b=some u->h'.get? b=some u):Un fs ex H H h h':=
 ⟨λb ob q _ _ _=>k b ob q,λb ob q _ _ _=>⟨ob.slots,k b ob q⟩,λ_ _ _ n _=>n,λb ob q _=>⟨ob,k b ob q⟩,λ_ _ q=>q,λ_ _ _ q=>q,λ_ ps q=>⟨#[],by rw[q];simp⟩⟩
theorem Un.refl:Un fs ex H H h h:=Un.kept λ_ _ q=>q
theorem Un.laid(k:∀b u,h.get? b=some u->h'.get? b=some u)(hp:h.objs.size<=a)(hn:H a=none):Un fs ex H (upd H a o) h h' where
 keep:=λb u q _ _ _=>k b u q
 slot:=λb u q _ _ _=>⟨u.slots,k b u q⟩
 free:=λb u q n _=>by rw[ao (cV (eM (bO q) hp))];exact n
 there:=λb u q _=>⟨u,k b u q⟩
 kK:=λb xs q=>by rw[ao (aF q hn)];exact q
 jY:=λb u xs q=>by rw[ao (aF q hn)];exact q
 lX:=λb ps q=>⟨#[],by rw[ao (aF q hn),q];simp⟩
theorem Un.write(mu:uC (H x))(he:e=x\/H e=some (.own x))(k:∀b u,b≠e->h.get? b=some u->h'.get? b=some u)(sg:∃u,h'.get? e=some u):Un fs ex H (upd H x o) h h':=by
 have hx:∀b,H b=none->b≠x:=λb n z=>by subst z;rw[n]at mu;exact mu
 have hb:∀b,H b=none->b≠e:=λb n z=>by
  subst z
  rcases he with r|r
  ·exact hx b n r
  ·rw[n]at r;cases r
 have hm:∀b u,H b=some u->¬uC (some u)->b≠x:=λb u q nm z=>by subst z;rw[q]at mu;exact nm mu
 refine⟨λb u q n _ _=>k b u (hb b n) q,λb u q n _ _=>⟨u.slots,k b u (hb b n) q⟩,λb u q n _=>by rw[ao (hx b n)];exact n,λb u q _=>?_,
  λb xs q=>by rw[ao (hm b _ q λz=>z)];exact q,λb u xs q=>by rw[ao (hm b _ q λz=>z)];exact q,λb ps q=>⟨#[],by rw[ao (hm b _ q λz=>z),q];simp⟩⟩
 by_cases qc:b=e
 ·subst qc;exact sg
 ·exact⟨u,k b u qc q⟩
end
def xG(h:Heap)(H:Hp):List Addr:=(cW h.objs.size).filter λa=>(H a).isSome
def mZ(h:Heap)(H:Hp):Heap:=PySem.W.hideAll h (xG h H)
theorem RY(h:Heap)(H:Hp):(mZ h H).objs.size=h.objs.size:=PySem.W.hideAll_size _ _
theorem RZ{h:Heap}{H:Hp}{b:Addr}{o:Obj}(e:h.get? b=some o)(n:H b=none):(mZ h H).get? b=some o:=
 PySem.W.hideAll_get _ e λhm=>by
  have q:(H b).isSome=true:=(dh.mp hm).2
  rw[n]at q;simp at q
theorem R0{h:Heap}{H:Hp}{b:Addr}{o:Obj}(e:(mZ h H).get? b=some o):h.get? b=some o/\H b=none:=by
 have e':h.get? b=some o:=PySem.W.of_hideAll (xG h H) e
 refine⟨e',?_⟩
 cases q:H b with
 |none=>rfl
 |some x=>
  have hm:b∈xG h H:=dh.mpr ⟨gQ.mpr (bO e'),by simp[q]⟩
  have z:(mZ h H).get? b=none:=PySem.W.hideAll_none (xG h H) hm
  rw[z]at e;cases e
end L2
namespace L2
open PySem PySem.Spec PyProof.Rows
structure Mod(K:ai)(mg:Str->Option Value)(base:Heap):Prop where
 qe:K.In base
 glob:base.Ns mainGlobals mg
 blt:∃mb,base.Ns builtinsNs mb/\∀x:Str,x≠"__name__"->mb x=bootBuiltins x
 nolimit:base.NoLimit
structure Cx where
 prog:Program
 w:World
 K:ai
 mg:Str->Option Value
 base:Heap
 A:Around
 N:List Str
 dH:Shared
 uD:Hp
 env:Env
 outer:List Env
 stack:List Env
 ex:List Addr
 fn:Str->Bool
 calm:Bool
 pn:List (Addr×Obj)
 xe:Value->Shared->Prop
def il(l:List Env):List Addr:=l.filterMap (·.frame)
abbrev Cx.fs(X:Cx):List Addr:=il X.outer
def uE(sc:Scope)(x:Str):Prop:=sc.names.lookup x=some .local\/sc.names.lookup x=some .cell\/sc.names.lookup x=some .free
def Loc(sc:Scope)(x:Str):Prop:=sc.names.lookup x=some .local\/sc.names.lookup x=some .cell
def Look(env:Env)(h:Heap)(m:Str->Option Value)(x:Str)(u:Value):Prop:=
 (env.kindOf x=some .local/\m x=some u)\/((env.kindOf x=some .cell\/env.kindOf x=some .free)/\∃c,env.cells.lookup x=some c/\h.IsCell c (some u))
structure Cx.Ok(X:Cx):Prop where
 mod:Mod X.K X.mg X.base
 kind:X.env.scope.kind=.function
 glob:X.env.globals=mainGlobals
 blt:X.env.builtins=builtinsNs
 above:X.dH.heap.objs.size<=X.env.locals
 inj:∀x y c,X.env.cells.lookup x=some c->X.env.cells.lookup y=some c->x=y
 has:∀x,(X.env.kindOf x=some .cell\/X.env.kindOf x=some .free)->∃c,X.env.cells.lookup x=some c
 m4:∀x c,X.fn x=true->X.env.cells.lookup x=some c->X.dH.heap.objs.size<=c
 hd:X.calm=true->X.A.handled=none
 frames:X.A.frames=some X.stack
 oG:X.stack=X.outer\/(X.stack=X.env::X.outer/\X.env.frame=some X.env.locals)
 oH:∀b∈X.ex,b≠X.env.locals/\∀x c,X.env.cells.lookup x=some c->c≠b
 bs:∀b o,X.base.get? b=some o->X.dH.heap.get? b=some o/\X.uD b=none
 jl:X.base.objs.size<=X.dH.heap.objs.size
 m5:∀b o,X.base.get? b=some o->b∉X.ex
 m6:∀b∈X.ex,b∉X.fs
 gR:X.dH.heap.FunFrames X.base X.outer
 kL:∀b∈X.fs,X.uD b=none
structure Inv(X:Cx)(pins:List (Addr×Obj))(σ:List (Option V))(H:Hp)(s:Shared):Prop where
 ok:X.Ok
 os:s.os=X.dH.os
 bare:AllBare s.gens
 base:Un X.fs X.ex X.uD H X.dH.heap s.heap
 loc:∃m,s.heap.Ns X.env.locals m/\∀(i:Nat)(x:Str)(v:V),X.N[i]? =some x->σ[i]? =some (some v)->uE X.env.scope x->∃u,RelV v u/\Look X.env s.heap m x u
 cell:∀x c,X.env.cells.lookup x=some c->∃v,s.heap.IsCell c v
 free:H X.env.locals=none
 fK:∀x c,X.env.cells.lookup x=some c->H c=none
 pin:∀p∈X.pn++pins,s.heap.get? p.1=some p.2/\H p.1=none/\p.1≠X.env.locals/\p.1∉X.fs/\∀v,p.2.data≠.cell v
 az:cH X.prog X.w H s.heap
 len:σ.length=X.N.length
section
variable{X:Cx}{pins:List (Addr×Obj)}{σ:List (Option V)}{H H':Hp}{s:Shared}{h':Heap}
theorem Cx.Ok.R7(ok:X.Ok){b:Addr}{o:Obj}(e:X.base.get? b=some o):b∉X.fs:=λhb=>by
 have:=(ok.gR.mem hb).1
 rw[e]at this;cases this
theorem Inv.bs(I:Inv X pins σ H s):∀b o,X.base.get? b=some o->s.heap.get? b=some o/\H b=none:=λb o e=>
 ⟨I.base.keep b o (I.ok.bs b o e).1 (I.ok.bs b o e).2 (I.ok.R7 e) (I.ok.m5 b o e),I.base.free b o (I.ok.bs b o e).1 (I.ok.bs b o e).2 (I.ok.m5 b o e)⟩
theorem Inv.bk(I:Inv X pins σ H s):∀b o,X.base.get? b=some o->s.heap.get? b=some o:=λb o e=>(I.bs b o e).1
theorem Inv.mod(I:Inv X pins σ H s):Mod X.K X.mg X.base:=I.ok.mod
theorem Inv.dI(I:Inv X pins σ H s):X.K.In s.heap:=I.ok.mod.qe.keeps I.bk
theorem Inv.lt(I:Inv X pins σ H s):X.env.locals<s.heap.objs.size:=let⟨_,hn,_⟩:=I.loc;hn.lt
theorem Inv.sz(I:Inv X pins σ H s):X.dH.heap.objs.size<=s.heap.objs.size:=cp I.ok.above (uk I.lt)
theorem Inv.R8(I:Inv X pins σ H s){a:Addr}(h:s.heap.objs.size<=a):a∉X.fs:=λhb=>by
 obtain⟨_,o,ho,_⟩:=I.ok.gR.mem hb
 exact absurd (eM (bO ho) (cp I.sz h)) (iP _)
theorem Inv.m7(I:Inv X pins σ H s):∀x c,X.env.cells.lookup x=some c->c≠X.env.locals:=λx c e z=>by
 obtain⟨v,o,ho,hd⟩:=I.cell x c e
 obtain⟨m,⟨o',es,ep,ip,qf,_⟩,_⟩:=I.loc
 rw[z,ip]at ho;cases ho;rw[qf]at hd;cases hd
theorem Inv.gR(I:Inv X pins σ H s):s.heap.FunFrames X.base X.outer:=by
 have all:∀(l:List Env),(∀b∈il l,b∈X.fs)->X.dH.heap.FunFrames X.base l->s.heap.FunFrames X.base l:=by
  intro l
  induction l with
  |nil=>intro _ _;trivial
  |cons env r ih=>
   intro hs hl
   obtain⟨hk,⟨L,o,hf,hn,ho,hd⟩,hr⟩:=hl
   have hL:L∈X.fs:=hs L (by unfold il;rw[PR,hf];exact bY)
   obtain⟨sl,e⟩:=I.base.slot L o ho (I.ok.kL L hL) hL λz=>I.ok.m6 L z hL
   exact⟨hk,⟨L,_,hf,hn,e,hd⟩,ih (λb hb=>hs b (by unfold il;rw[PR,hf];exact bR _ hb)) hr⟩
 exact all X.outer (λ_ hb=>hb) I.ok.gR
theorem Inv.stack(I:Inv X pins σ H s):s.heap.FunFrames X.base X.stack:=by
 rcases I.ok.oG with e|⟨e,hf⟩
 ·rw[e];exact I.gR
 ·rw[e]
  obtain⟨m,hn,_⟩:=I.loc
  refine .cons (by rw[I.ok.kind];decide) hf hn ?_ I.gR
  exact Heap.get?_none_of_le (cp I.ok.jl I.ok.above)
theorem Inv.xH(I:Inv X pins σ H s):∀b∈il X.stack,b∈X.env.locals::X.fs:=λb hb=>by
 rcases I.ok.oG with e|⟨e,hf⟩
 ·rw[e]at hb;exact bR _ hb
 ·rw[e]at hb
  unfold il at hb
  rw[PR,hf]at hb
  exact hb
theorem Inv.A9(I:Inv X pins σ H s):∀b∈il X.stack,H b=none:=λb hb=>by
 rcases bz.mp (I.xH b hb)with e|hb
 ·rw[e];exact I.free
 ·obtain⟨_,o,ho,_⟩:=I.ok.gR.mem hb
  exact I.base.free b o ho (I.ok.kL b hb) λz=>I.ok.m6 b z hb
theorem Inv.step{g':Array GenState}{t':Nat}{d':Drawn}{ch:List Addr}(I:Inv X pins σ H s)
  (fb:∀b∈ch,(b∈X.ex\/X.dH.heap.objs.size<=b)/\b≠X.env.locals/\(∀x c,X.env.cells.lookup x=some c->c≠b)/\∀p∈X.pn++pins,p.1≠b)
  (keep:∀b o,b≠X.env.locals->b∉X.fs->b∉ch->s.heap.get? b=some o->H b=none->h'.get? b=some o)
  (slot:∀b o,b≠X.env.locals->b∈X.fs->b∉ch->s.heap.get? b=some o->H b=none->∃sl,h'.get? b=some {o with slots:=sl}) (free:∀b o,b∉ch->s.heap.get? b=some o->H b=none->H' b=none)
  (there:∀b o,b∉ch->s.heap.get? b=some o->∃o',h'.get? b=some o')
  (kK:∀b xs,H b=some (.tup xs)->H' b=some (.tup xs)) (jY:∀b o u,H b=some (.fH o u)->H' b=some (.fH o u)) (lX:∀b ps,H b=some (.qb ps)->∃more,H' b=some (.qb (ps++more)))
  (ns:∀m,s.heap.Ns X.env.locals m->h'.Ns X.env.locals m) (az:cH X.prog X.w H' h') (hg:AllBare g'):
  Inv X pins σ H' {s with heap:=h',gens:=g',drawn:=d',toks:=t'}:=by
 have IJ:∀b o,X.dH.heap.get? b=some o->b≠X.env.locals:=λb o e=>cV (eM (bO e) I.ok.above)
 have sh:∀b o,X.dH.heap.get? b=some o->b∉X.ex->b∉ch:=λb o e hx hb=>by
  rcases(fb b hb).1 with z|z
  ·exact hx z
  ·exact absurd (eM (bO e) z) (iP _)
 have cellK:∀x c,X.env.cells.lookup x=some c->∀v,s.heap.IsCell c v->h'.IsCell c v:=λx c e v ⟨o,ho,hd⟩=>by
  have uF:c∉ch:=λz=>(fb c z).2.2.1 x c e rfl
  by_cases hc:c∈X.fs
  ·obtain⟨sl,q⟩:=slot c o (I.m7 x c e) hc uF ho (I.fK x c e)
   exact⟨_,q,hd⟩
  ·exact⟨o,keep c o (I.m7 x c e) hc uF ho (I.fK x c e),hd⟩
 refine⟨I.ok,I.os,hg,⟨λb o e n hb hx=>?_,λb o e n hb hx=>?_,λb o e n hx=>?_,λb o e hx=>?_,λb xs e=>kK b xs (I.base.kK b xs e),λb o xs e=>jY b o xs (I.base.jY b o xs e),λb ps e=>?_⟩,?_,λx c e=>?_,?_,λx c e=>?_,λp hp=>?_,az,I.len⟩
 ·exact keep b o (IJ b o e) hb (sh b o e hx) (I.base.keep b o e n hb hx) (I.base.free b o e n hx)
 ·obtain⟨sl,e1⟩:=I.base.slot b o e n hb hx
  obtain⟨R9,e2⟩:=slot b _ (IJ b o e) hb (sh b o e hx) e1 (I.base.free b o e n hx)
  exact⟨R9,e2⟩
 ·obtain⟨o',e1⟩:=I.base.there b o e hx
  exact free b o' (sh b o e hx) e1 (I.base.free b o e n hx)
 ·obtain⟨o',e1⟩:=I.base.there b o e hx
  exact there b o' (sh b o e hx) e1
 ·obtain⟨m1,e1⟩:=I.base.lX b ps e
  obtain⟨m2,e2⟩:=lX b _ e1
  exact⟨m1++m2,by rw[e2,Array.append_assoc]⟩
 ·obtain⟨m,hn,hl⟩:=I.loc
  refine⟨m,ns m hn,λi x v e1 e2 e3=>?_⟩
  obtain⟨u,r,l⟩:=hl i x v e1 e2 e3
  refine⟨u,r,?_⟩
  rcases l with l|⟨k,c,e,z⟩
  ·exact .inl l
  ·exact .inr ⟨k,c,e,cellK x c e _ z⟩
 ·obtain⟨v,z⟩:=I.cell x c e
  exact⟨v,cellK x c e v z⟩
 ·obtain⟨m,⟨o,_,_,ho,_⟩,_⟩:=I.loc
  exact free _ o (λz=>(fb _ z).2.1 rfl) ho I.free
 ·obtain⟨v,o,ho,hd⟩:=I.cell x c e
  exact free c o (λz=>(fb c z).2.2.1 x c e rfl) ho (I.fK x c e)
 ·obtain⟨e,n,ne,nf,d⟩:=I.pin p hp
  have uF:p.1∉ch:=λz=>(fb p.1 z).2.2.2 p hp rfl
  exact⟨keep p.1 p.2 ne nf uF e n,free p.1 p.2 uF e n,ne,nf,d⟩
theorem Inv.un{t':Nat}(I:Inv X pins σ H s)(u:Un X.fs [] H H' s.heap h')(az:cH X.prog X.w H' h'):Inv X pins σ H' {s with heap:=h',toks:=t'}:=by
 obtain⟨m,⟨o,es,ep,ho,r⟩,_⟩:=id I.loc
 obtain⟨sl,hL⟩:=u.any ho I.free (by simp)
 exact I.step (g':=s.gens) (d':=s.drawn) (ch:=[]) (λ_ z=>nomatch z) (λb o _ hb _ e n=>u.keep b o e n hb (by simp)) (λb o _ hb _ e n=>u.slot b o e n hb (by simp)) (λb o _ e n=>u.free b o e n (by simp)) (λb o _ e=>u.there b o e (by simp)) u.kK u.jY u.lX (λm' hm=>by
  obtain⟨o',jm,A_,ip,r'⟩:=hm
  rw[ho]at ip;cases ip
  exact⟨_,jm,A_,hL,r'⟩) az I.bare
theorem Inv.call{g':Array GenState}{t':Nat}{d':Drawn}{ch:List Addr}(I:Inv X pins σ H s)(u:Un (il X.stack) ch H H' s.heap h')(az:cH X.prog X.w H' h')(hg:AllBare g')
  (fb:∀b∈ch,(b∈X.ex\/X.dH.heap.objs.size<=b)/\b≠X.env.locals/\(∀x c,X.env.cells.lookup x=some c->c≠b)/\∀p∈X.pn++pins,p.1≠b):
  Inv X pins σ H' {s with heap:=h',gens:=g',drawn:=d',toks:=t'}:=by
 obtain⟨m,⟨o,es,ep,ho,r⟩,_⟩:=id I.loc
 obtain⟨sl,hL⟩:=u.any ho I.free λz=>(fb _ z).2.1 rfl
 exact I.step (ch:=ch) fb (λb o hL hb hc e n=>u.keep b o e n (λz=>(bz.mp (I.xH b z)).elim hL hb) hc) (λb o _ _ hc e n=>u.any e n hc) (λb o hc e n=>u.free b o e n hc) (λb o hc e=>u.there b o e hc) u.kK u.jY u.lX (λm' hm=>by
  obtain⟨o',jm,A_,ip,r'⟩:=hm
  rw[ho]at ip;cases ip
  exact⟨_,jm,A_,hL,r'⟩) az hg
theorem Inv.turned{t':Nat}{it:Addr}(I:Inv X pins σ H s)(k:∀b o,b≠it->s.heap.get? b=some o->h'.get? b=some o)(hn:H it=none)(hL:it≠X.env.locals)
  (h1:it∈X.ex\/X.dH.heap.objs.size<=it) (h2:∀x c,X.env.cells.lookup x=some c->c≠it) (h3:∀p∈X.pn++pins,p.1≠it):Inv X pins σ H {s with heap:=h',toks:=t'}:=by
 have uG:∀b u,H b=some u->b≠it:=λb u e z=>by rw[z,hn]at e;cases e
 refine I.step (g':=s.gens) (d':=s.drawn) (ch:=[it]) (λb hb=>?_) (λb o _ _ hc e _=>k b o (λz=>hc (by simp[z])) e) (λb o _ _ hc e _=>⟨o.slots,k b o (λz=>hc (by simp[z])) e⟩) (λ_ _ _ _ n=>n)
  (λb o hc e=>⟨o,k b o (λz=>hc (by simp[z])) e⟩) (λ_ _ e=>e) (λ_ _ _ e=>e) (λb ps e=>⟨#[],by rw[e];simp⟩) (λm hm=>?_) (λb u e=>?_) I.bare
 ·have e:b=it:=by simpa using hb
  subst e
  exact⟨h1,hL,h2,h3⟩
 ·obtain⟨o,es,ep,ho,r⟩:=hm
  exact⟨o,es,ep,k _ o (Ne.symm hL) ho,r⟩
 ·refine(I.az b u e).jX (λc v hc q=>k c v ?_ q) (λ_ q=>q) λ_ _ q=>q
  rcases hc with z|z
  ·rw[z];exact uG b u e
  ·exact uG c _ z
theorem Inv.tok(I:Inv X pins σ H s)(t:Nat):Inv X pins σ H {s with toks:=t}:=I.un (h':=s.heap) (t':=t) Un.refl I.az
theorem Inv.kept{t':Nat}(I:Inv X pins σ H s)(k:∀b u,s.heap.get? b=some u->h'.get? b=some u):Inv X pins σ H {s with heap:=h',toks:=t'}:=I.un (Un.kept k) (I.az.kept k)
theorem Inv.laid{a:Addr}{o:HO}{t':Nat}(I:Inv X pins σ H s)(k:∀b u,s.heap.get? b=some u->h'.get? b=some u)(hp:s.heap.objs.size<=a)(new:b_ X.prog X.w (upd H a o) h' a o):
  Inv X pins σ (upd H a o) {s with heap:=h',toks:=t'}:=I.un (Un.laid k hp (I.az.fresh hp)) (I.az.laid k hp new)
theorem Inv.write{x e:Addr}{o:HO}{t':Nat}(I:Inv X pins σ H s)(mu:uC (H x))(he:e=x\/H e=some (.own x))(k:∀b u,b≠e->s.heap.get? b=some u->h'.get? b=some u)(sg:∃u,h'.get? e=some u)
  (new:b_ X.prog X.w (upd H x o) h' x o):Inv X pins σ (upd H x o) {s with heap:=h',toks:=t'}:=I.un (Un.write mu he k sg) (I.az.write mu he k sg new)
theorem Inv.weak{σ':List (Option V)}(I:Inv X pins σ H s)(hl:σ'.length=σ.length)(w:∀(i:Nat) v,σ'[i]? =some (some v)->σ[i]? =some (some v)):Inv X pins σ' H s:=
 ⟨I.ok,I.os,I.bare,I.base,let⟨m,hn,jZ⟩:=I.loc;⟨m,hn,λi x v e1 e2 e3=>jZ i x v e1 (w i v e2) e3⟩,I.cell,I.free,I.fK,I.pin,I.az,hl.trans I.len⟩
theorem Inv.IK{IL:List (Addr×Obj)}(I:Inv X pins σ H s)(h:∀p∈IL,s.heap.get? p.1=some p.2/\H p.1=none/\p.1≠X.env.locals/\p.1∉X.fs/\∀v,p.2.data≠.cell v):Inv X IL σ H s:=
 ⟨I.ok,I.os,I.bare,I.base,I.loc,I.cell,I.free,I.fK,λp hp=>(cP.mp hp).elim (λz=>I.pin p (dZ _ z)) (h p),I.az,I.len⟩
theorem xI{N:List Str}(hN:N.Nodup){i j:Nat}{x:Str}(a:N[i]? =some x)(b:N[j]? =some x):i=j:=by
 obtain⟨h1,e1⟩:=bE.mp a
 obtain⟨h2,e2⟩:=bE.mp b
 exact(Qe hN).mp (e1.trans e2.symm)
theorem IM{M:Model}{A:Around}{E:Value->Shared->Prop}{i:Nat}{x:Str}{v:V}{u:Value}{Q:Unit->Shared->Prop}(I:Inv X pins σ H s)(hN:X.N.Nodup)(hi:X.N[i]? =some x)(hx:Loc X.env.scope x)(r:RelV v u)
  (h:∀s',Inv X pins (σ.set i (some v)) H s'->(∃a,ox a s.heap s'.heap/\(a=X.env.locals\/X.env.cells.lookup x=some a))->Q () s') (hf:X.fn x=true\/X.env.scope.names.lookup x=some .local:=by first|exact .inl rfl|exact .inr rfl|assumption):wpAny M A (storeName X.env x u) Q E s:=by
 obtain⟨m,hn,hl⟩:=id I.loc
 have Ba:(X.env.scope.kind== .class||(X.env.scope.kind== .module&&X.env.locals != X.env.globals))=false:=by rw[I.ok.kind];rfl
 have IP:i<σ.length:=by rw[I.len];exact(bE.mp hi).1
 have m7:=I.m7
 have tracked:∀{a:Addr}{h':Heap},(∃o,s.heap.get? a=some o/\H a=none)->ox a s.heap h'->cH X.prog X.w H h':=λ{a h'} ha hs b ob e=>by
  obtain⟨_,_,si⟩:=ha
  refine(I.az b ob e).jX (λc w' hc q=>(hs.2 c ?_).trans q) (λ_ q=>q) λ_ _ q=>q
  rintro rfl
  rcases hc with rfl|hc
  ·rw[si]at e;cases e
  ·rw[si]at hc;cases hc
 rcases hx with hk|hk
 ·refine wpAny_storeName_local hk hn (λh' gS hs=>?_) Ba
  obtain⟨oL,_,_,IQ,_⟩:=id hn
  refine h _ ⟨I.ok,I.os,I.bare,⟨λb o e n hb hx=>?_,λb o e n hb hx=>?_,I.base.free,λb o e hx=>?_,I.base.kK,I.base.jY,I.base.lX⟩,⟨_,gS,λj y v' e1 e2 e3=>?_⟩,λy c e=>?_,I.free,I.fK,λp hp=>?_,tracked ⟨oL,IQ,I.free⟩ hs,by simpa using I.len⟩ ⟨_,hs,.inl rfl⟩
  ·exact(hs.2 b (cV (eM (bO e) I.ok.above))).trans (I.base.keep b o e n hb hx)
  ·obtain⟨sl,e1⟩:=I.base.slot b o e n hb hx
   exact⟨sl,(hs.2 b (cV (eM (bO e) I.ok.above))).trans e1⟩
  ·obtain⟨o',e1⟩:=I.base.there b o e hx
   exact⟨o',(hs.2 b (cV (eM (bO e) I.ok.above))).trans e1⟩
  ·by_cases hj:j=i
   ·subst hj
    rw[hi]at e1;cases e1
    rw[pJ IP]at e2
    cases e2
    exact⟨u,r,.inl ⟨hk,by simp⟩⟩
   ·rw[pL (Ne.symm hj)]at e2
    obtain⟨u',r',q⟩:=hl j y v' e1 e2 e3
    refine⟨u',r',?_⟩
    rcases q with⟨k,e⟩|⟨k,c,e,z⟩
    ·refine .inl ⟨k,?_⟩
     have:y≠x:=λe=>hj (xI hN e1 (e▸hi))
     simp[this,e]
    ·exact .inr ⟨k,c,e,z.sameBut hs (m7 y c e)⟩
  ·obtain⟨w',z⟩:=I.cell y c e
   exact⟨w',z.sameBut hs (m7 y c e)⟩
  ·obtain⟨e,n,ne,nf,d⟩:=I.pin p hp
   exact⟨(hs.2 p.1 ne).trans e,n,ne,nf,d⟩
 ·have Bb:X.fn x=true:=by
   rcases hf with z|z
   ·exact z
   ·rw[z]at hk;cases hk
  obtain⟨c,hc⟩:=I.ok.has x (.inl hk)
  obtain⟨w',z⟩:=I.cell x c hc
  refine wpAny_storeName_cell I.ok.kind hk hc z (λh' fS hs=>?_)
  obtain⟨oc,IS,R_⟩:=id z
  refine h {s with heap:=h'} ⟨I.ok,I.os,I.bare,⟨λb o e n hb hx=>?_,λb o e n hb hx=>?_,I.base.free,λb o e hx=>?_,I.base.kK,I.base.jY,I.base.lX⟩,⟨m,hn.sameBut hs (Ne.symm (m7 x c hc)),λj y v' e1 e2 e3=>?_⟩,λy c' e=>?_,I.free,I.fK,λp hp=>?_,tracked ⟨oc,IS,I.fK x c hc⟩ hs,by simpa using I.len⟩ ⟨c,hs,.inr hc⟩
  ·exact(hs.2 b (cV (eM (bO e) (I.ok.m4 x c Bb hc)))).trans (I.base.keep b o e n hb hx)
  ·obtain⟨sl,e1⟩:=I.base.slot b o e n hb hx
   exact⟨sl,(hs.2 b (cV (eM (bO e) (I.ok.m4 x c Bb hc)))).trans e1⟩
  ·obtain⟨o',e1⟩:=I.base.there b o e hx
   exact⟨o',(hs.2 b (cV (eM (bO e) (I.ok.m4 x c Bb hc)))).trans e1⟩
  ·by_cases hj:j=i
   ·subst hj
    rw[hi]at e1;cases e1
    rw[pJ IP]at e2
    cases e2
    exact⟨u,r,.inr ⟨.inl hk,c,hc,fS⟩⟩
   ·rw[pL (Ne.symm hj)]at e2
    obtain⟨u',r',q⟩:=hl j y v' e1 e2 e3
    refine⟨u',r',?_⟩
    rcases q with q|⟨k,c',e,z'⟩
    ·exact .inl q
    ·refine .inr ⟨k,c',e,z'.sameBut hs ?_⟩
     rintro rfl
     exact hj (xI hN e1 (I.ok.inj _ _ _ e hc▸hi))
  ·by_cases IT:c'=c
   ·subst IT;exact⟨_,fS⟩
   ·obtain⟨w2,z2⟩:=I.cell y c' e
    exact⟨w2,z2.sameBut hs IT⟩
  ·obtain⟨e,n,ne,nf,d⟩:=I.pin p hp
   refine⟨(hs.2 p.1 ?_).trans e,n,ne,nf,d⟩
   intro q
   rw[q,IS]at e
   have q':oc=p.2:=cZ e
   exact d w' (by rw[<-q'];exact R_)
theorem Bc{M:Model}{A:Around}{E:Value->Shared->Prop}{i:Nat}{x:Str}{v:V}{u:Value}{Q:Unit->Shared->Prop}(I:Inv X pins σ H s)(hN:X.N.Nodup)(hi:X.N[i]? =some x)(hx:Loc X.env.scope x)(r:RelV v u)
  (h:∀s',Inv X pins (σ.set i (some v)) H s'->Q () s') (hf:X.fn x=true\/X.env.scope.names.lookup x=some .local:=by first|exact .inl rfl|exact .inr rfl|assumption):wpAny M A (storeName X.env x u) Q E s:=
 IM I hN hi hx r (λs' I' _=>h s' I') hf
theorem Inv.xJ{s':Shared}{ch:List Addr}(I:Inv X pins σ H s)(ho:s'.os=s.os)(u:Un (il X.stack) ch H H' s.heap s'.heap)(az:cH X.prog X.w H' s'.heap)(hg:AllBare s'.gens)
  (fb:∀b∈ch,(b∈X.ex\/X.dH.heap.objs.size<=b)/\b≠X.env.locals/\(∀x c,X.env.cells.lookup x=some c->c≠b)/\∀p∈X.pn++pins,p.1≠b):Inv X pins σ H' s':=by
 obtain⟨h',g',d',t',o'⟩:=s'
 have e:o'=s.os:=ho
 subst e
 exact I.call (g':=g') (t':=t') (d':=d') u az hg fb
end
abbrev XK:=Value->Option Addr->Hp->Prop
abbrev St:=List (Option V)
abbrev VK:=V->Hp->Prop
abbrev TE:=St->Hp->VK->Prop
abbrev TT:=St->Hp->(Bool->Hp->Prop)->Prop
abbrev TA:=St->Hp->(List V->Hp->Prop)->Prop
structure Ends where
 nx:St->Hp->Prop
 rt:VK
 bk:St->Hp->Prop:=λ_ _=>False
 ct:St->Hp->Prop:=λ_ _=>False
abbrev TS:=Ends->St->Hp->Prop
def EP(X:Cx)(pins:List (Addr×Obj))(σ:St)(Q:VK)(u:Value)(s':Shared):Prop:=∃v H',Inv X pins σ H' s'/\RelV v u/\Q v H'
def TP(X:Cx)(pins:List (Addr×Obj))(σ:St)(Q:Bool->Hp->Prop)(b:Bool)(s':Shared):Prop:=∃H',Inv X pins σ H' s'/\Q b H'
def AP(X:Cx)(pins:List (Addr×Obj))(σ:St)(Q:List V->Hp->Prop)(us:List Value)(s':Shared):Prop:=∃vs H',Inv X pins σ H' s'/\Vals vs us/\Q vs H'
def SP(X:Cx)(pins:List (Addr×Obj))(D:Ends)(f:Flow)(s':Shared):Prop:=
 match f with
 | .next=>∃σ' H',Inv X pins σ' H' s'/\D.nx σ' H'
 | .brk=>∃σ' H',Inv X pins σ' H' s'/\D.bk σ' H'
 | .cont=>∃σ' H',Inv X pins σ' H' s'/\D.ct σ' H'
 | .ret u=>∃v σ' H',Inv X pins σ' H' s'/\RelV v u/\D.rt v H'
def PE(X:Cx)(e:Expr)(t:TE):Prop:=
 ∀(pins:List (Addr×Obj))(s:Shared)(σ:St)(H:Hp)(Q:VK),Inv X pins σ H s->t σ H Q->wpAny (model X.prog X.w) X.A (eval e X.env) (EP X pins σ Q) X.xe s
def PT(X:Cx)(e:Expr)(t:TT):Prop:=
 ∀(pins:List (Addr×Obj))(s:Shared)(σ:St)(H:Hp)(Q:Bool->Hp->Prop),Inv X pins σ H s->t σ H Q->wpAny (model X.prog X.w) X.A (isTrue e X.env (eval e X.env)) (TP X pins σ Q) X.xe s
def PW(X:Cx)(e:Expr)(t:TT):Prop:=
 ∀(whole:Sem Value)(pins:List (Addr×Obj))(s:Shared)(σ:St)(H:Hp)(Q:Bool->Hp->Prop),Inv X pins σ H s->t σ H Q->wpAny (model X.prog X.w) X.A (isTrue e X.env whole) (TP X pins σ Q) X.xe s
theorem PW.pt{X:Cx}{e:Expr}{t:TT}(h:PW X e t):PT X e t:=h _
def PA(X:Cx)(es:List Expr)(t:TA):Prop:=
 ∀(pos:Pos)(pins:List (Addr×Obj))(s:Shared)(σ:St)(H:Hp)(Q:List V->Hp->Prop),Inv X pins σ H s->t σ H Q->wpAny (model X.prog X.w) X.A (spliced (backTo pos (starEach es X.env))) (AP X pins σ Q) X.xe s
def PS(X:Cx)(st:Stmt)(t:TS):Prop:=
 ∀(pins:List (Addr×Obj))(s:Shared)(σ:St)(H:Hp)(D:Ends),Inv X pins σ H s->t D σ H->wpAny (model X.prog X.w) X.A (exec st X.env) (SP X pins D) X.xe s
def gh(X:Cx)(st:List Stmt)(t:TS):Prop:=
 ∀(pins:List (Addr×Obj))(s:Shared)(σ:St)(H:Hp)(D:Ends),Inv X pins σ H s->t D σ H->wpAny (model X.prog X.w) X.A (execs st X.env) (SP X pins D) X.xe s
theorem aR{α:Type}{t:Sem α}{Q Q':α->Shared->Prop}{M:Model}{A:Around}{E:Value->Shared->Prop}{s:Shared}(h:wpAny M A t Q E s)(hQ:∀a s,Q a s->Q' a s):wpAny M A t Q' E s:=wpAny_mono h hQ λ_ _ x=>x
end L2
namespace L2
open PySem PySem.Spec PyProof.Rows
section
variable{X:Cx}
def bu(i:Nat):TE:=λσ H Q=>∃v,σ[i]? =some (some v)/\Q v H
def tC(v:V):TE:=λ_ H Q=>Q v H
theorem Sa{i:Nat}{x:Str}{pos:Pos}(hN:X.N[i]? =some x)(hv:uE X.env.scope x)(hd:(x==("__debug__":Str))=false:=by decide)(j0:(x==("__classdict__":Str))=false:=by decide):PE X (.Name x pos) (bu i):=by
 intro pins s σ H Q I h
 obtain⟨v,e,h⟩:=h
 obtain⟨m,hn,hl⟩:=I.loc
 obtain⟨u,r,l⟩:=hl i x v hN e hv
 have fin:EP X pins σ Q u s:=⟨v,H,I,r,h⟩
 rcases l with⟨hk,hm⟩|⟨hk,c,hc,IU⟩
 ·exact wpAny_Name (wpAny_loadName_local I.ok.kind hk hn hm fin) hd
 ·rcases hk with hk|hk
  ·exact wpAny_Name (wpAny_loadName_cell I.ok.kind hk hc IU fin) hd
  ·exact wpAny_Name (wpAny_loadName_free I.ok.kind hk hc IU fin j0) hd
theorem aJ{i j pos}:PE X (.Constant (.int i) j pos) (tC (.int i)):=λ_ _ _ H _ I h=>wpAny_Constant_int ⟨.int i,H,I.tok _,⟨_,rfl⟩,h⟩
theorem lY{b j pos}:PE X (.Constant (.bool b) j pos) (tC (.bl b)):=λ_ _ _ H _ I h=>Constant_bool ⟨.bl b,H,I,rfl,h⟩
theorem IV{j pos}:PE X (.Constant .none j pos) (tC .aO):=λ_ _ _ H _ I h=>Constant_none ⟨.aO,H,I,rfl,h⟩
theorem fL{x j pos}:PE X (.Constant (.str x) j pos) (tC (.str x)):=λ_ _ _ H _ I h=>Calls.Constant_str ⟨.str x,H,I.tok _,⟨_,rfl⟩,h⟩
def Gl(X:Cx)(x:Str):Prop:=X.env.kindOf x=some .globalImplicit
theorem sj{E:Value->Shared->Prop}{pins:List (Addr×Obj)}{s:Shared}{σ:St}{H:Hp}{x:Str}{u:Value}{pos:Pos}{Q:Value->Shared->Prop}(I:Inv X pins σ H s)(hg:Gl X x)(hm:X.mg x=some u)(h:Q u s)
  (hd:(x==("__debug__":Str))=false:=by decide):wpAny (model X.prog X.w) X.A (eval (.Name x pos) X.env) Q E s:=
 ag2 I.ok.kind hg (Calls.loadGlobal_global (by rw[I.ok.glob];exact I.mod.glob.keeps I.bk) hm h) hd
theorem xK{E:Value->Shared->Prop}{pins:List (Addr×Obj)}{s:Shared}{σ:St}{H:Hp}{x:Str}{u:Value}{pos:Pos}{Q:Value->Shared->Prop}(I:Inv X pins σ H s)(hg:Gl X x)(hm:X.mg x=none)(hv:bootBuiltins x=some u)(h:Q u s)
  (hn:x≠"__name__":=by decide) (hd:(x==("__debug__":Str))=false:=by decide):wpAny (model X.prog X.w) X.A (eval (.Name x pos) X.env) Q E s:=by
 obtain⟨mb,h1,h2⟩:=I.mod.blt
 exact ag2 I.ok.kind hg (Calls.loadGlobal_builtin (by rw[I.ok.glob];exact I.mod.glob.keeps I.bk) hm (by rw[I.ok.blt];exact h1.keeps I.bk) ((h2 x hn).trans hv) h) hd
theorem sk{x:Str}{v:V}{u:Value}{pos:Pos}(hg:Gl X x)(hm:X.mg x=some u)(r:RelV v u)(hd:(x==("__debug__":Str))=false:=by decide):PE X (.Name x pos) (tC v):=
 λ_ _ _ H _ I h=>sj I hg hm ⟨v,H,I,r,h⟩ hd
variable{a b:Expr}{ta tb:TE}{pos:Pos}
def PC(X:Cx)(op:CmpOp)(a b:Expr)(t:TE):Prop:=
 ∀(pins:List (Addr×Obj))(s:Shared)(σ:St)(H:Hp)(Q:VK),Inv X pins σ H s->t σ H Q->
  wpAny (model X.prog X.w) X.A (eval a X.env) (λv bA=>wpAny (model X.prog X.w) X.A (eval b X.env) (λu iS=>wpAny (model X.prog X.w) X.A (compareOp op v u) (EP X pins σ Q) X.xe iS) X.xe bA) X.xe s
theorem Sb(b:Expr){op:CmpOp}(h:op≠.In)(h2:op≠.NotIn):behindInMarks op b=false:=by
 have e1:(op==CmpOp.In)=false:=by cases op<;>first|rfl|exact absurd rfl h
 have e2:(op==CmpOp.NotIn)=false:=by cases op<;>first|rfl|exact absurd rfl h2
 cases b<;>simp[behindInMarks,e1,e2]
def IW(ta:TE):TE:=λσ H Q=>ta σ H λx H1=>Q (.bl (decide (x=.aO))) H1
theorem RelV.Sd{x:V}{v:Value}(r:RelV x v):(v==d7)=decide (x=.aO):=by
 cases x with
 |aO=>cases r;rfl
 |bl _=>cases r;rfl
 |int _=>obtain⟨t,rfl⟩:=r;rfl
 |str _=>obtain⟨t,rfl⟩:=r;rfl
 |gg _=>obtain⟨t,rfl⟩:=r;rfl
 |uB _=>obtain⟨t,rfl⟩:=r;rfl
 |ref _=>cases r;rfl
 |ty _=>cases r;rfl
theorem IX{j pos'}(ha:PE X a ta):PC X .Is a (.Constant .none j pos') (IW ta):=by
 intro pins s σ H Q I h
 refine aR (ha pins s σ H _ I h) λv s1 ⟨x,H1,I1,r1,q1⟩=>?_
 exact Constant_none (is_none_gen ⟨.bl _,H1,I1,by rw[r1.Sd];rfl,q1⟩)
def tB(t:TE):TT:=λσ H Q=>t σ H λx H1=>∃c,x=.bl c/\Q c H1
theorem oJ{op:CmpOp}{t:TE}(h:PC X op a b t)(h1:behindInMarks op b=false:=by first|exact Sb _ (by decide) (by decide)|rfl):PT X (.Compare a [op] [b] pos) (tB t):=by
 intro pins s σ H Q I hw
 refine wpAny_isTrue_Compare1 (aR (h pins s σ H _ I hw) λv s1 h1=>aR h1 λu s2 h2=>aR h2 λc s3 ⟨x,H1,I1,r1,q1⟩=>?_) h1
 obtain⟨d,rfl,q⟩:=q1
 cases r1
 exact wpAny_truthy_bool ⟨H1,I1,q⟩
theorem dJ{e:Expr}{t:TE}(h:PE X e t)(he:∀whole,isTrue e X.env whole=(do let v<-whole;standAt e.pos;holding [v] (truthy v)):=by intro _;rfl):PT X e (tB t):=by
 intro pins s σ H Q I hw
 refine isTrue_plain (aR (h pins s σ H _ I hw) λv s1 ⟨x,H1,I1,r1,q1⟩=>?_) (he _)
 obtain⟨d,rfl,q⟩:=q1
 cases r1
 exact wpAny_truthy_bool ⟨H1,I1,q⟩
variable{tA xM:TT}{rest:List Expr}
def Se(t u:TT):TT:=λσ H Q=>t σ H λc H1=>if c=true then u σ H1 Q else Q false H1
def Sf(t u:TT):TT:=λσ H Q=>t σ H λc H1=>if c=true then Q true H1 else u σ H1 Q
def Sg(t:TT):TT:=λσ H Q=>t σ H λc H1=>Q (!c) H1
theorem so(ha:PT X a tA):PW X (.BoolOp .And [a] pos) tA:=by
 intro wh pins s σ H Q I h
 refine isTrue_and (aR (ha pins s σ H Q I h) λc s1 e=>?_)
 cases c with
 |true=>exact isTrue_and_nil e
 |false=>exact e
theorem uH(ha:PT X a tA):PW X (.BoolOp .Or [a] pos) tA:=by
 intro wh pins s σ H Q I h
 refine isTrue_or (aR (ha pins s σ H Q I h) λc s1 e=>?_)
 cases c with
 |false=>exact isTrue_or_nil e
 |true=>exact e
theorem sq(ha:PT X a tA)(hb:PW X (.BoolOp .And (b::rest) pos) xM):PW X (.BoolOp .And (a::b::rest) pos) (Se tA xM):=by
 intro wh pins s σ H Q I h
 refine isTrue_and (aR (ha pins s σ H _ I h) λc s1 ⟨H1,I1,q1⟩=>?_)
 cases c with
 |true=>exact hb wh pins s1 σ H1 Q I1 q1
 |false=>exact⟨H1,I1,q1⟩
theorem uI(ha:PT X a tA)(hb:PW X (.BoolOp .Or (b::rest) pos) xM):PW X (.BoolOp .Or (a::b::rest) pos) (Sf tA xM):=by
 intro wh pins s σ H Q I h
 refine isTrue_or (aR (ha pins s σ H _ I h) λc s1 ⟨H1,I1,q1⟩=>?_)
 cases c with
 |true=>exact⟨H1,I1,q1⟩
 |false=>exact hb wh pins s1 σ H1 Q I1 q1
theorem oK(ha:PT X a tA):PT X (.UnaryOp .Not a pos) (Sg tA):=by
 intro pins s σ H Q I h
 exact isTrue_not (ha pins s σ H (λc H1=>Q (!c) H1) I h)
def Sh(ta tb:TE):TE:=λσ H Q=>ta σ H λx H1=>∃c,x=.bl c/\if c=true then Q (.bl true) H1 else tb σ H1 Q
theorem Si{op}{t:TE}(h:PE X a t):PE X (.BoolOp op [a] pos) t:=λpins s σ H Q I hw=>BoolOp_one (h pins s σ H Q I hw)
theorem Sj(ha:PE X a ta)(hb:PE X (.BoolOp .Or (b::rest) pos) tb):PE X (.BoolOp .Or (a::b::rest) pos) (Sh ta tb):=by
 intro pins s σ H Q I h
 refine BoolOp_or (aR (ha pins s σ H _ I h) λv s1 ⟨x,H1,I1,r1,q1⟩=>?_)
 obtain⟨c,rfl,q1⟩:=q1
 cases r1
 refine wpAny_truthy_bool ?_
 cases c with
 |false=>exact hb pins s1 σ H1 Q I1 q1
 |true=>exact⟨.bl true,H1,I1,rfl,q1⟩
def Sk(t:TT)(ta tb:TE):TE:=λσ H Q=>t σ H λc H1=>if c=true then ta σ H1 Q else tb σ H1 Q
theorem Be{c:Expr}(hc:PT X c tA)(ha:PE X a ta)(hb:PE X b tb):PE X (.IfExp c a b pos) (Sk tA ta tb):=by
 intro pins s σ H Q I h
 refine wpAny_IfExp (aR (hc pins s σ H _ I h) λd s1 ⟨H1,I1,q1⟩=>?_)
 cases d with
 |true=>exact ha pins s1 σ H1 Q I1 q1
 |false=>exact hb pins s1 σ H1 Q I1 q1
end
end L2
namespace L2
open PySem PySem.Spec PyProof.Rows
def ah(K:ai)(H:Hp)(a:Addr)(xs:List V):Prop:=
 Rd H a (.lst xs)\/
  ∃(o:Obj)(ak:Array Value)(n:Nat),K.lookup a=some o/\o.cls=.type "list"/\o.dict=none/\o.data=.seq ak n/\ak.size<=sizeLine/\Vals xs ak.toList
def aB(K:ai)(H:Hp)(a:Addr)(xs:List V):Prop:=
 Rd H a (.tup xs)\/
  ∃(o:Obj)(ak:Array Value)(n:Nat),K.lookup a=some o/\o.cls=.type "tuple"/\o.data=.seq ak n/\ak.size<=sizeLine/\Vals xs ak.toList
def Sl:Value->Option V
 | .none=>some .aO
 | .bool b=>some (.bl b)
 | .int i _=>some (.int i)
 | .str x _=>some (.str x)
 | .bytes b _=>some (.gg b)
 | .float b _=>some (.uB b)
 | .ref a=>some (.ref a)
 | .type n=>some (.ty n)
 |_=>none
theorem RelV.abs{x:V}{u:Value}(r:RelV x u):Sl u=some x:=by
 cases x with
 |aO=>cases r;rfl
 |bl _=>cases r;rfl
 |int _=>obtain⟨t,rfl⟩:=r;rfl
 |str _=>obtain⟨t,rfl⟩:=r;rfl
 |gg _=>obtain⟨t,rfl⟩:=r;rfl
 |uB _=>obtain⟨t,rfl⟩:=r;rfl
 |ref _=>cases r;rfl
 |ty _=>cases r;rfl
theorem RelV.inj{x y:V}{u:Value}(r:RelV x u)(q:RelV y u):x=y:=cZ (r.abs.symm.trans q.abs)
theorem Vals.inj:∀{xs ys:List V}{us:List Value},Vals xs us->Vals ys us->xs=ys
 |_,_,_,.nil,.nil=>rfl
 |_,_,_,.cons r t,.cons r' t'=>by rw[r.inj r',Vals.inj t t']
section
variable{X:Cx}{pins:List (Addr×Obj)}{σ:St}{H:Hp}{s:Shared}{a:Addr}{xs ys:List V}
theorem ah.of{K:ai}(h:H a=some (.lst xs)):ah K H a xs:=.inl (.inl h)
theorem aB.of{K:ai}(h:H a=some (.tup xs)):aB K H a xs:=.inl (.inl h)
theorem Inv.list(I:Inv X pins σ H s)(h:ah X.K H a xs):∃ak:List Value,Vals xs ak/\PlainL s.heap a ak.toArray/\xs.length<=sizeLine:=by
 rcases h with h|⟨o,ak,n,hk,hc,hd,hs,hz,r⟩
 ·obtain⟨z,ak,n,r,e⟩:=h.ok I.az
  exact⟨ak,r,⟨_,n,e,rfl,rfl,rfl⟩,z⟩
 ·refine⟨ak.toList,r,⟨o,n,I.dI a o hk,hc,hd,by simpa using hs⟩,?_⟩
  have e:=r.length
  simp only[fg]at e
  omega
theorem Inv.tuple(I:Inv X pins σ H s)(h:aB X.K H a xs):∃ak:List Value,Vals xs ak/\IsTup s.heap a ak.toArray/\xs.length<=sizeLine:=by
 rcases h with h|⟨o,ak,n,hk,hc,hs,hz,r⟩
 ·obtain⟨z,ak,r,p⟩:=h.ok I.az
  exact⟨ak,r,p,z⟩
 ·refine⟨ak.toList,r,⟨o,I.dI a o hk,hc,n,by simpa using hs⟩,?_⟩
  have e:=r.length
  simp only[fg]at e
  omega
theorem Inv.IY(I:Inv X pins σ H s)(h:ah X.K H a xs)(h':ah X.K H a ys):xs=ys:=by
 obtain⟨ak,r,⟨o,n,e,_,_,d⟩,_⟩:=I.list h
 obtain⟨its',r',⟨o',n',e',_,_,d'⟩,_⟩:=I.list h'
 rw[e]at e';cases e'
 rw[d]at d'
 injection d' with d1 _
 have:ak=its':=by simpa using congrArg Qu d1
 subst this
 exact r.inj r'
theorem Inv.Sm(I:Inv X pins σ H s)(h:aB X.K H a xs)(h':aB X.K H a ys):xs=ys:=by
 obtain⟨ak,r,⟨o,e,_,n,d⟩,_⟩:=I.tuple h
 obtain⟨its',r',⟨o',e',_,n',d'⟩,_⟩:=I.tuple h'
 rw[e]at e';cases e'
 rw[d]at d'
 injection d' with d1 _
 have:ak=its':=by simpa using congrArg Qu d1
 subst this
 exact r.inj r'
end
abbrev Cx.lZ(X:Cx)(E:Value->Shared->Prop):Cx:={X with xe:=E}
abbrev Cx.uJ(X:Cx):Cx:=X.lZ λ_ _=>False
theorem Cx.Ok.lZ{X:Cx}(ok:X.Ok)(E:Value->Shared->Prop):(X.lZ E).Ok:=
 ⟨ok.mod,ok.kind,ok.glob,ok.blt,ok.above,ok.inj,ok.has,ok.m4,ok.hd,ok.frames,ok.oG,ok.oH,ok.bs,ok.jl,ok.m5,ok.m6,ok.gR,ok.kL⟩
theorem Cx.Ok.oM{X:Cx}{E:Value->Shared->Prop}(ok:(X.lZ E).Ok):X.Ok:=
 ⟨ok.mod,ok.kind,ok.glob,ok.blt,ok.above,ok.inj,ok.has,ok.m4,ok.hd,ok.frames,ok.oG,ok.oH,ok.bs,ok.jl,ok.m5,ok.m6,ok.gR,ok.kL⟩
section
variable{X:Cx}{pins:List (Addr×Obj)}{σ:St}{H:Hp}{s:Shared}{E:Value->Shared->Prop}
theorem Inv.lZ(I:Inv X pins σ H s)(E:Value->Shared->Prop):Inv (X.lZ E) pins σ H s:=⟨I.ok.lZ E,I.os,I.bare,I.base,I.loc,I.cell,I.free,I.fK,I.pin,I.az,I.len⟩
theorem Inv.oM(I:Inv (X.lZ E) pins σ H s):Inv X pins σ H s:=⟨I.ok.oM,I.os,I.bare,I.base,I.loc,I.cell,I.free,I.fK,I.pin,I.az,I.len⟩
theorem SP.oM{D:Ends}{f:Flow}{s':Shared}(h:SP (X.lZ E) pins D f s'):SP X pins D f s':=by
 cases f with
 |next=>obtain⟨σ',H',I,q⟩:=h;exact⟨σ',H',I.oM,q⟩
 |brk=>obtain⟨σ',H',I,q⟩:=h;exact⟨σ',H',I.oM,q⟩
 |cont=>obtain⟨σ',H',I,q⟩:=h;exact⟨σ',H',I.oM,q⟩
 |ret u=>obtain⟨v,σ',H',I,r,q⟩:=h;exact⟨v,σ',H',I.oM,r,q⟩
theorem gh.uJ{st:List Stmt}{t:TS}(h:gh X.uJ st t):gh X st t:=λpins s σ H D I hw=>
 wpAny_mono (h pins s σ H D (I.lZ _) hw) (λ_ _ q=>q.oM) λ_ _ z=>fE z
end
section
variable{X:Cx}{st:Stmt}{rest:List Stmt}{t u:TS}{e:Expr}{te:TE}{pos:Pos}
def xN:TS:=λD σ H=>D.nx σ H
def l6(t u:TS):TS:=λD σ H=>t {D with nx:=u D} σ H
theorem bM:gh X [] xN:=λ_ _ σ H _ I h=>wpAny_execs_nil ⟨σ,H,I,h⟩
theorem aq(h1:PS X st t)(h2:gh X rest u):gh X (st::rest) (l6 t u):=by
 intro pins s σ H D I h
 refine wpAny_execs_cons (aR (h1 pins s σ H {D with nx:=u D} I h) λf s1 q=>?_)
 cases f with
 |next=>
  obtain⟨σ',H',I',q⟩:=q
  exact h2 pins s1 σ' H' D I' q
 |ret v=>exact q
 |brk=>exact q
 |cont=>exact q
theorem au(h1:PS X st t):gh X [st] t:=by
 intro pins s σ H D I h
 refine wpAny_execs_cons (aR (h1 pins s σ H D I h) λf s1 q=>?_)
 cases f with
 |next=>exact wpAny_execs_nil q
 |ret v=>exact q
 |brk=>exact q
 |cont=>exact q
theorem Inv.quiet{pins:List (Addr×Obj)}{σ:St}{H:Hp}{s:Shared}(I:Inv X pins σ H s):interactive X.env=false:=by simp[interactive,I.ok.kind]
def xO(te:TE):TS:=λD σ H=>te σ H λ_ H1=>D.nx σ H1
theorem cM(he:PE X e te)(hs:swapsWith e none pos.line X.env=pure false:=by rfl):PS X (.Expr e pos) (xO te):=by
 intro pins s σ H D I h
 exact wpAny_Expr_any (aR (he pins s σ H _ I h) λv s1 ⟨x,H1,I1,r1,q1⟩=>⟨σ,H1,I1,q1⟩) I.quiet hs
def qg(te:TE):TS:=λD σ H=>te σ H D.rt
theorem aM(he:PE X e te):PS X (.Return (some e) pos) (qg te):=by
 intro pins s σ H D I h
 exact wpAny_Return_some (aR (he pins s σ H _ I h) λv s1 ⟨x,H1,I1,r1,q1⟩=>⟨x,σ,H1,I1,r1,q1⟩)
def xP(c:TT)(t u:TS):TS:=λD σ H=>c σ H λb H1=>if b=true then t D σ H1 else u D σ H1
theorem bF{c:Expr}{a b:List Stmt}{tc:TT}(hc:PT X c tc)(ha:gh X a t)(hb:gh X b u):PS X (.If c a b pos) (xP tc t u):=by
 intro pins s σ H D I h
 refine wpAny_If (aR (hc pins s σ H _ I h) λd s1 ⟨H1,I1,q1⟩=>?_)
 cases d with
 |true=>exact ha pins s1 σ H1 D I1 q1
 |false=>exact hb pins s1 σ H1 D I1 q1
end
abbrev TG:=V->St->Hp->(St->Hp->Prop)->Prop
abbrev oO:=List V->St->Hp->(St->Hp->Prop)->Prop
def PG(X:Cx)(target:Expr)(t:TG):Prop:=
 ∀(pins:List (Addr×Obj))(s:Shared)(σ:St)(H:Hp)(v:V)(u:Value)(Q:St->Hp->Prop),Inv X pins σ H s->RelV v u->t v σ H Q->
  wpAny (model X.prog X.w) X.A (assign target X.env u) (λ_ s'=>∃σ' H',Inv X pins σ' H' s'/\Q σ' H') X.xe s
def uK(X:Cx)(ts:List Expr)(t:oO):Prop:=
 ∀(pins:List (Addr×Obj))(s:Shared)(σ:St)(H:Hp)(vs:List V)(us:List Value)(Q:St->Hp->Prop),Inv X pins σ H s->Vals vs us->t vs σ H Q->
  wpAny (model X.prog X.w) X.A (assignInOrder ((assignEach ts X.env).map (·.2)) us) (λ_ s'=>∃σ' H',Inv X pins σ' H' s'/\Q σ' H') X.xe s
abbrev Bf:=V->V->V->Hp->(Hp->Prop)->Prop
def IZ(X:Cx)(t:Bf):Prop:=
 ∀(pins:List (Addr×Obj))(s:Shared)(σ:St)(H:Hp)(o i v:V)(ov iv u:Value)(Q:Hp->Prop),Inv X pins σ H s->RelV o ov->RelV i iv->RelV v u->t o i v H Q->
  wpAny (model X.prog X.w) X.A (setItem ov iv u) (λ_ s'=>∃H',Inv X pins σ H' s'/\Q H') X.xe s
section
variable{X:Cx}{pos:Pos}
def m8(i:Nat):TG:=λv σ H Q=>Q (σ.set i (some v)) H
theorem bB{i:Nat}{x:Str}(hN:X.N.Nodup)(hi:X.N[i]? =some x)(hx:Loc X.env.scope x)(hf:X.fn x=true\/X.env.scope.names.lookup x=some .local:=by first|exact .inl rfl|exact .inr rfl|assumption):PG X (.Name x pos) (m8 i):=by
 intro pins s σ H v u Q I r h
 exact wpAny_assign_Name (Bc I hN hi hx r (λs' I'=>⟨_,H,I',h⟩) hf)
def Sn:oO:=λvs σ H Q=>vs=[]/\Q σ H
def So(t:TG)(u:oO):oO:=λvs σ H Q=>∃v r,vs=v::r/\t v σ H λσ' H'=>u r σ' H' Q
theorem iT:uK X [] Sn:=by
 intro pins s σ H vs us Q I r h
 obtain⟨e,h⟩:=h
 subst e
 cases r
 exact assignInOrder_nil ⟨σ,H,I,h⟩
theorem dA{e:Expr}{es:List Expr}{t:TG}{u:oO}(h1:PG X e t)(h2:uK X es u)
  (hs:(assignEach (e::es) X.env).map (·.2)=assign e X.env::(assignEach es X.env).map (·.2):=by rfl):uK X (e::es) (So t u):=by
 intro pins s σ H vs us Q I r h
 obtain⟨v,vr,e1,h⟩:=h
 subst e1
 cases r with
 |cons r rr=>
  rw[hs]
  refine assignInOrder_cons (aR (h1 pins s σ H _ _ _ I r h) λ_ s1 ⟨σ1,H1,I1,q1⟩=>?_)
  exact h2 pins s1 σ1 H1 _ _ Q I1 rr q1
def I_(K:ai)(n:Nat)(t:oO):TG:=λv σ H Q=>∃a xs,v=.ref a/\aB K H a xs/\xs.length=n/\t xs σ H Q
theorem Sq{es:List Expr}{k:Nat}{t:oO}{n:Nat}(hc:X.calm=true)(h:uK X es t)
  (hn:(assignEach es X.env).length=n:=by rfl) (d_:(assignEach es X.env).findIdx? (·.1)=none:=by rfl):PG X (.Tuple es k pos) (I_ X.K n t):=by
 intro pins s σ H v u Q I r hw
 obtain⟨a,xs,e1,hq,hl,hw⟩:=hw
 subst e1
 cases r
 obtain⟨ak,rv,ht,hz⟩:=I.tuple hq
 refine assign_Tuple_tuple (I.ok.hd hc) ht (by simp[hn,<-hl,rv.length]) d_ λh' hx=>?_
 have I1:Inv X pins σ H {s with heap:=h'}:=I.kept (t':=s.toks) λb o e=>hx b o (cV (bO e)) e
 exact h pins _ σ H xs _ Q I1 (by simpa using rv) hw
def Sr(to ti:TE)(t:Bf):TG:=λv σ H Q=>to σ H λo H1=>ti σ H1 λi H2=>t o i v H2 λH3=>Q σ H3
theorem qh{o i:Expr}{to ti:TE}{t:Bf}(ho:PE X o to)(hi:PE X i ti)(hs:IZ X t)
  (ha:∀v,assign (.Subscript o i pos) X.env v=(do
   let ov<-holding [v] (eval o X.env)
   let iv<-holding [v,ov] (eval i X.env)
   standAt pos
   holding [v,ov,iv] (setItem ov iv v)
   release [v,ov,iv] []):=by intro _;rfl):PG X (.Subscript o i pos) (Sr to ti t):=by
 intro pins s σ H v u Q I r h
 rw[ha]
 refine wpAny_bind (wpAny_holding (aR (ho pins s σ H _ I h) λov s1 ⟨x,H1,I1,r1,q1⟩=>?_))
 refine wpAny_bind (wpAny_holding (aR (hi pins s1 σ H1 _ I1 q1) λiv s2 ⟨y,H2,I2,r2,q2⟩=>?_))
 refine wpAny_bind (wpAny_standAt (wpAny_bind (wpAny_holding (aR (hs pins s2 σ H2 x y v ov iv u _ I2 r1 r2 r q2) λ_ s3 ⟨H3,I3,q3⟩=>?_))))
 exact wpAny_release ⟨σ,H3,I3,q3⟩
def sr(te:TE)(g:TG):TS:=λD σ H=>te σ H λx H1=>g x σ H1 D.nx
theorem qi{tg e:Expr}{te:TE}{g:TG}(he:PE X e te)(hg:PG X tg g)(hs:swapsWithSole [tg] e pos.line X.env=pure false:=by rfl)(hw:swappedStores [tg] e X.env=pure none:=by rfl)
  (h1:(assignEach [tg] X.env).map (·.2)=[assign tg X.env]:=by rfl):PS X (.Assign [tg] e pos) (sr te g):=by
 intro pins s σ H D I h
 refine wpAny_Assign_stores (aR (he pins s σ H _ I h) λv s1 ⟨x,H1,I1,r1,q1⟩=>?_) hs hw
 rw[h1]
 exact aR (hg pins s1 σ H1 x v _ I1 r1 q1) λ_ s2 q=>q
theorem aN{i:Nat}{x:Str}{e:Expr}{te:TE}{pos':Pos}(hN:X.N.Nodup)(hi:X.N[i]? =some x)(hx:Loc X.env.scope x)(he:PE X e te)(hs:swapsWith e (some (.Name x pos')) pos.line X.env=pure false:=by rfl)(hf:X.fn x=true\/X.env.scope.names.lookup x=some .local:=by first|exact .inl rfl|exact .inr rfl|assumption):
  PS X (.Assign [.Name x pos'] e pos) (sr te (m8 i)):=by
 intro pins s σ H D I h
 refine wpAny_Assign_Name (aR (he pins s σ H _ I h) λv s1 ⟨y,H1,I1,r1,q1⟩=>?_) hs
 exact Bc I1 hN hi hx r1 (λs2 I2=>⟨_,H1,I2,q1⟩) hf
end
section
variable{X:Cx}{pos:Pos}
def Ja(c:TT)(tb:TS):TS:=λD σ H=>∃W:Nat->St->Hp->Prop,(∃m,W m σ H)/\∀m σ H,W m σ H->
 c σ H λb H1=>if b=true then ∃N:St->Hp->Prop,(∀σ' H',N σ' H'->∃m',m'<m/\W m' σ' H')/\tb {D with nx:=N,ct:=N,bk:=D.nx} σ H1 else D.nx σ H1
theorem iU{c:Expr}{body:List Stmt}{tc:TT}{tb:TS}(hp:PassesOwn (model X.prog X.w) X.A X.env X.xe)(hc:PT X c tc)(hb:gh X body tb):PS X (.While c body [] pos) (Ja tc tb):=by
 intro pins s σ H D I h
 obtain⟨W,⟨m0,w0⟩,turn⟩:=h
 refine wpAny_While (codeAny_whileLoop (λn s'=>∃σ' H',Inv X pins σ' H' s'/\W n σ' H') ?_ m0 ⟨σ,H,I,w0⟩)
 rintro n s1 ⟨σ1,H1,I1,w1⟩
 refine wpAny_passesOwn hp (aR (hc pins s1 σ1 H1 _ I1 (turn n σ1 H1 w1)) λb s2 ⟨H2,I2,q2⟩=>?_)
 cases b with
 |true=>
  obtain⟨N,hN,q2⟩:=q2
  rw[if_pos rfl]
  refine wpAny_passesOwn hp (aR (hb pins s2 σ1 H2 _ I2 q2) λf s3 q3=>?_)
  cases f with
  |next=>
   obtain⟨σ3,H3,I3,n3⟩:=q3
   obtain⟨m',hm,w3⟩:=hN σ3 H3 n3
   exact⟨m',hm,σ3,H3,I3,w3⟩
  |cont=>
   obtain⟨σ3,H3,I3,n3⟩:=q3
   obtain⟨m',hm,w3⟩:=hN σ3 H3 n3
   exact⟨m',hm,σ3,H3,I3,w3⟩
  |brk=>exact q3
  |ret v=>exact q3
 |false=>
  rw[if_neg cG]
  exact wpAny_execs_nil ⟨σ1,H2,I2,q2⟩
end
structure It where
 go:Nat->Hp->Prop
 kM:Nat->Hp->V->Hp->Prop
 stop:Nat->Hp->Prop
def kN(X:Cx)(pins:List (Addr×Obj))(H:Hp)(b:Addr):Prop:=
 H b=none/\b≠X.env.locals/\b∉X.fs/\(b∈X.ex\/X.dH.heap.objs.size<=b)/\(∀x c,X.env.cells.lookup x=some c->c≠b)/\∀p∈X.pn++pins,p.1≠b
theorem Inv.sv{X:Cx}{pins:List (Addr×Obj)}{σ:St}{H H':Hp}{s:Shared}{b:Addr}(I:Inv X pins σ H s)(hb:s.heap.objs.size<=b)(hn:H' b=none):kN X pins H' b:=by
 refine⟨hn,pV (eM I.lt hb),I.R8 hb,.inr (cp I.sz hb),λx c e z=>?_,λp hp z=>?_⟩
 ·obtain⟨v,q⟩:=I.cell x c e
  exact absurd (eM q.lt (by rw[z];exact hb)) (iP _)
 ·exact absurd (eM (bO (I.pin p hp).1) (by rw[z];exact hb)) (iP _)
structure Turn(P:Program)(w:World)(K:ai)(tg:Expr)(J:It)(fp:List Addr)(it:Addr)(tn:Nat->Heap->Prop):Prop where
 mem:it∈fp
 obj:∀i h,tn i h->∀b∈fp,∃o,h.get? b=some o/\∀v,o.data≠.cell v
 keep:∀i h h',tn i h->(∀b∈fp,∀o,h.get? b=some o->h'.get? b=some o)->tn i h'
 item:∀(X:Cx),X.prog=P->X.w=w->X.K=K->X.calm=true->∀(i:Nat)(pins:List (Addr×Obj))(s:Shared)(σ:St)(H:Hp)(E:Value->Shared->Prop),Inv X pins σ H s->(∀b∈fp,kN X pins H b)->tn i s.heap->J.go i H->
  wpAny (model P w) X.A (pyNext (.ref it)) (λr s1=>∃u,r=some u/\
   wpAny (model P w) X.A (letOwnedTupleGo tg (.ref it) u) (λ_ s2=>∃x H',Inv X pins σ H' s2/\RelV x u/\J.kM i H x H'/\tn (i+1) s2.heap/\∀b∈fp,H' b=none) E s1) E s
 done:∀(X:Cx),X.prog=P->X.w=w->X.K=K->X.calm=true->∀(i:Nat)(pins:List (Addr×Obj))(s:Shared)(σ:St)(H:Hp)(E:Value->Shared->Prop),Inv X pins σ H s->(∀b∈fp,kN X pins H b)->tn i s.heap->J.stop i H->
  wpAny (model P w) X.A (pyNext (.ref it)) (λr s1=>r=none/\Inv X pins σ H s1) E s
 self:∀(A:Around)(i:Nat)(s:Shared)(Q:Value->Shared->Prop)(E:Value->Shared->Prop),tn i s.heap->Q (.ref it) s->wpAny (model P w) A (pyIter (.ref it)) Q E s
abbrev TI:=St->Hp->(It->Hp->Prop)->Prop
def Bg(X:Cx)(pins:List (Addr×Obj))(σ:St)(tg:Expr)(R:It->Hp->Prop)(Bh:Value)(s2:Shared):Prop:=
 ∃(it:Addr)(fp:List Addr)(tn:Nat->Heap->Prop)(J:It)(H':Hp),Bh=.ref it/\Inv X pins σ H' s2/\Turn X.prog X.w X.K tg J fp it tn/\tn 0 s2.heap/\(∀b∈fp,kN X pins H' b)/\R J H'
def PI(X:Cx)(tg iter:Expr)(wi:TI):Prop:=
 ∀(pins:List (Addr×Obj))(s:Shared)(σ:St)(H:Hp)(R:It->Hp->Prop),Inv X pins σ H s->wi σ H R->
  wpAny (model X.prog X.w) X.A (eval iter X.env) (λv s1=>wpAny (model X.prog X.w) X.A (pyIter v) (Bg X pins σ tg R) X.xe s1) X.xe s
theorem xQ{M:Model}{A:Around}{E:Value->Shared->Prop}{s:Shared}{tg:Expr}{it:Addr}{u:Value}{o:Obj}{n:String}{vs:Array Value}{Q:Unit->Shared->Prop}(ho:s.heap.get? it=some o)(hc:o.cls=.type n)(hd:o.data=.fields vs)
  (hn:["enumerate","zip","dict_itemiterator","dict_reverseitemiterator","odict_iterator","itertools.zip_longest","itertools.pairwise"].contains n=false) (hQ:Q () s):wpAny M A (letOwnedTupleGo tg (.ref it) u) Q E s:=by
 unfold letOwnedTupleGo
 cases tg<;>first
  |exact wpAny_pure hQ
  |(cases u<;>first
    |exact wpAny_pure hQ
    |(
     refine wpAny_bind (wpAny_load ho ?_)
     rw[hc,hd]
     show wpAny M A (if(["enumerate","zip","dict_itemiterator","dict_reverseitemiterator","odict_iterator","itertools.zip_longest","itertools.pairwise"].contains n&&vs[0]? ==some (rawInt _))=true then _ else _) Q E s
     rw[if_neg (by intro h;rw[hn,Qp]at h;cases h)]
     exact wpAny_pure hQ))
def oP(K:ai)(a:Addr):It:=
 ⟨λi H=>∃xs x,ah K H a xs/\xs[i]? =some x,λi H x H'=>H'=H/\∀xs,ah K H a xs->xs[i]? =some x,λi H=>∃xs,ah K H a xs/\xs.length<=i⟩
def uL(K:ai)(a:Addr):It:=
 ⟨λi H=>∃xs x,aB K H a xs/\xs[i]? =some x,λi H x H'=>H'=H/\∀xs,aB K H a xs->xs[i]? =some x,λi H=>∃xs,aB K H a xs/\xs.length<=i⟩
def sx(lo:Int)(n:Nat):It:=⟨λi _=>i<n,λi H x H'=>H'=H/\x=.int (lo+i),λi _=>n<=i⟩
theorem Ss{P:Program}{w:World}{K:ai}{tg:Expr}(a it:Addr):Turn P w K tg (oP K a) [it] it (λi h=>h.IsListIter it a i) where
 mem:=by simp
 obj:=λi h st b hb=>by
  have e:b=it:=by simpa using hb
  subst e
  obtain⟨o,e,c,d⟩:=st
  exact⟨o,e,λv z=>by rw[d]at z;cases z⟩
 keep:=λi h h' st k=>st.at λo e=>k it (by simp) o e
 item:=by
  intro X hP hw hK hc i pins s σ H E I hf st hg
  subst hP hw hK
  obtain⟨xs,x,hq,hx⟩:=hg
  obtain⟨ak,rv,p,hz⟩:=I.list hq
  obtain⟨u,hu,ru⟩:=rv.get hx
  obtain⟨f0,f1,f2,f3,f4,f5⟩:=hf it (by simp)
  refine wpAny_pyNext_list_item st p.isList (x:=u) (by simpa using hu) λh' kP sb=>?_
  have I1:Inv X pins σ H {s with heap:=h'}:=I.turned (t':=s.toks) (λb o hb e=>(sb.2 b hb).trans e) f0 f1 f3 f4 f5
  obtain⟨o,e,c,d⟩:=id kP
  exact⟨u,rfl,xQ (s:={s with heap:=h'}) e c d (by decide) ⟨x,H,I1,ru,⟨rfl,λys hy=>by rw[I.IY hy hq];exact hx⟩,kP,λb hb=>(hf b hb).1⟩⟩
 done:=by
  intro X hP hw hK hc i pins s σ H E I hf st hg
  subst hP hw hK
  obtain⟨xs,hq,hx⟩:=hg
  obtain⟨ak,rv,p,hz⟩:=I.list hq
  obtain⟨f0,f1,f2,f3,f4,f5⟩:=hf it (by simp)
  have hl:=rv.length
  exact wpAny_pyNext_list_end (I.ok.hd hc) st p.isList (by simp;omega) λh' eb=>⟨rfl,I.turned (t':=s.toks) (λb o hb e=>eb b o hb e) f0 f1 f3 f4 f5⟩
 self:=λ_ _ _ _ _ st h=>wpAny_pyIter_listiter st h
theorem Su{P:Program}{w:World}{K:ai}{tg:Expr}(a it:Addr):Turn P w K tg (uL K a) [it] it (λi h=>h.IsTupleIter it a i) where
 mem:=by simp
 obj:=λi h st b hb=>by
  have e:b=it:=by simpa using hb
  subst e
  obtain⟨o,e,c,d⟩:=st
  exact⟨o,e,λv z=>by rw[d]at z;cases z⟩
 keep:=λi h h' st k=>st.at λo e=>k it (by simp) o e
 item:=by
  intro X hP hw hK hc i pins s σ H E I hf st hg
  subst hP hw hK
  obtain⟨xs,x,hq,hx⟩:=hg
  obtain⟨ak,rv,p,hz⟩:=I.tuple hq
  obtain⟨u,hu,ru⟩:=rv.get hx
  obtain⟨f0,f1,f2,f3,f4,f5⟩:=hf it (by simp)
  refine wpAny_pyNext_tuple_item st (show s.heap.IsTuple a ak.toArray from p) (x:=u) (by simpa using hu) λh' kP sb=>?_
  have I1:Inv X pins σ H {s with heap:=h'}:=I.turned (t':=s.toks) (λb o hb e=>(sb.2 b hb).trans e) f0 f1 f3 f4 f5
  obtain⟨o,e,c,d⟩:=id kP
  exact⟨u,rfl,xQ (s:={s with heap:=h'}) e c d (by decide) ⟨x,H,I1,ru,⟨rfl,λys hy=>by rw[I.Sm hy hq];exact hx⟩,kP,λb hb=>(hf b hb).1⟩⟩
 done:=by
  intro X hP hw hK hc i pins s σ H E I hf st hg
  subst hP hw hK
  obtain⟨xs,hq,hx⟩:=hg
  obtain⟨ak,rv,p,hz⟩:=I.tuple hq
  obtain⟨f0,f1,f2,f3,f4,f5⟩:=hf it (by simp)
  have hl:=rv.length
  exact wpAny_pyNext_tuple_end (I.ok.hd hc) st (show s.heap.IsTuple a ak.toArray from p) (by simp;omega) λh' eb=>⟨rfl,I.turned (t':=s.toks) (λb o hb e=>eb b o hb e) f0 f1 f3 f4 f5⟩
 self:=λ_ _ _ _ _ st h=>wpAny_pyIter_tupleiter st h
theorem Sv{P:Program}{w:World}{K:ai}{tg:Expr}(it:Addr)(lo:Int)(n:Nat):Turn P w K tg (sx lo n) [it] it (λi h=>IsRangeIter h it (lo+(i:Nat)*1) ((n:Int)-(i:Nat)) 1) where
 mem:=by simp
 obj:=λi h st b hb=>by
  have e:b=it:=by simpa using hb
  subst e
  exact⟨_,st,λv z=>by
   have z':Data.fields _=Data.cell v:=z
   cases z'⟩
 keep:=λi h h' st k=>k it (by simp) _ st
 item:=by
  intro X hP hw hK hc i pins s σ H E I hf st hg
  subst hP hw hK
  obtain⟨f0,f1,f2,f3,f4,f5⟩:=hf it (by simp)
  have W:=Walks.range (prog:=X.prog) (w:=X.w) (I.ok.hd hc) it lo 1 n
  refine W.item i s _ _ hg st λv h' tk hv kP kk=>?_
  obtain⟨t,rfl⟩:=hv
  have I1:Inv X pins σ H {s with heap:=h',toks:=tk}:=I.turned (λb o hb e=>kk b o (by simpa using hb) e) f0 f1 f3 f4 f5
  refine⟨_,rfl,xQ (s:={s with heap:=h',toks:=tk}) (n:="range_iterator") kP rfl rfl (by decide) ⟨.int (lo+i),H,I1,⟨t,?_⟩,⟨rfl,rfl⟩,kP,λb hb=>(hf b hb).1⟩⟩
  rw[Int.mul_one]
 done:=by
  intro X hP hw hK hc i pins s σ H E I hf st hg
  subst hP hw hK
  obtain⟨f0,f1,f2,f3,f4,f5⟩:=hf it (by simp)
  exact wpAny_pyNext_range_end (I.ok.hd hc) st (by have:n<=i:=hg;omega) λh' eb=>⟨rfl,I.turned (t':=s.toks) (λb o hb e=>eb b o hb e) f0 f1 f3 f4 f5⟩
 self:=λ_ _ _ _ _ st h=>wpAny_pyIter_rangeiter st h
end L2
namespace L2
open PySem PySem.Spec PyProof.Rows
section
variable{X:Cx}{tg:Expr}
def Sw(K:ai)(tl:TE):TI:=λσ H R=>tl σ H λx H1=>∃a,x=.ref a/\(∃xs,ah K H1 a xs)/\R (oP K a) H1
def Sx(K:ai)(tl:TE):TI:=λσ H R=>tl σ H λx H1=>∃a,x=.ref a/\(∃xs,aB K H1 a xs)/\R (uL K a) H1
theorem dM{l:Expr}{tl:TE}(hl:PE X l tl):PI X tg l (Sw X.K tl):=by
 intro pins s σ H R I h
 refine aR (hl pins s σ H _ I h) λv s1 ⟨x,H1,I1,r1,q1⟩=>?_
 obtain⟨a,e,⟨xs,hq⟩,q⟩:=q1
 subst e
 cases r1
 obtain⟨ak,rv,p,hz⟩:=I1.list hq
 refine wpAny_pyIter_list p.isList ?_
 refine⟨s1.heap.objs.size,[s1.heap.objs.size],_,_,H1,rfl,I1.kept (t':=s1.toks) λb o e=>bH _ e,Ss a _,⟨_,dG _ rfl,rfl,rfl⟩,λb hb=>?_,q⟩
 have e:b=s1.heap.objs.size:=by simpa using hb
 subst e
 exact I1.sv (aT _) (I1.az.fresh (aT _))
theorem xR{l:Expr}{tl:TE}(hl:PE X l tl):PI X tg l (Sx X.K tl):=by
 intro pins s σ H R I h
 refine aR (hl pins s σ H _ I h) λv s1 ⟨x,H1,I1,r1,q1⟩=>?_
 obtain⟨a,e,⟨xs,hq⟩,q⟩:=q1
 subst e
 cases r1
 obtain⟨ak,rv,p,hz⟩:=I1.tuple hq
 refine wpAny_pyIter_tuple (show s1.heap.IsTuple a ak.toArray from p) ?_
 refine⟨s1.heap.objs.size,[s1.heap.objs.size],_,_,H1,rfl,I1.kept (t':=s1.toks) λb o e=>bH _ e,Su a _,⟨_,dG _ rfl,rfl,rfl⟩,λb hb=>?_,q⟩
 have e:b=s1.heap.objs.size:=by simpa using hb
 subst e
 exact I1.sv (aT _) (I1.az.fresh (aT _))
theorem Sy{pins:List (Addr×Obj)}{σ:St}{H:Hp}{s:Shared}{R:It->Hp->Prop}{E:Value->Shared->Prop}{lo hi:Int}{t u v:Tok}{tk:Nat}(I:Inv X pins σ H s)(h1: -(2 ^ 62)<=lo)(h2:lo<2 ^ 62)(h3: -(2 ^ 62)<=hi)(h4:hi<2 ^ 62)
  (q:R (sx lo (hi-lo).toNat) H):wpAny (model X.prog X.w) X.A (pyIter (.ref s.heap.objs.size)) (Bg X pins σ tg R) E {s with heap:=s.heap.push {cls:=.type "range",data:=.fields #[.int lo t,.int hi u,.int 1 v]},toks:=tk}:=by
 refine wpAny_pyIter_range (IsRange.new ..) (small_one h1 h2 h3 h4) ?_
 have I1:Inv X pins σ H {s with heap:=s.heap.push {cls:=.type "range",data:=.fields #[.int lo t,.int hi u,.int 1 v]},toks:=tk}:=I.kept λb o e=>bH _ e
 refine⟨(s.heap.push {cls:=.type "range",data:=.fields #[.int lo t,.int hi u,.int 1 v]}).objs.size,[(s.heap.push {cls:=.type "range",data:=.fields #[.int lo t,.int hi u,.int 1 v]}).objs.size],_,_,H,rfl,
  I1.kept (t':=tk) λb o e=>bH _ e,Sv _ lo (hi-lo).toNat,?_,λb hb=>?_,q⟩
 ·have e1:lo+((0:Nat):Int)*1=lo:=by simp
  have e2:(((hi-lo).toNat:Nat):Int)-((0:Nat):Int)=agQ lo hi 1:=by rw[rangeSize_one];split<;>omega
  show IsRangeIter _ _ (lo+((0:Nat):Int)*1) ((((hi-lo).toNat:Nat):Int)-((0:Nat):Int)) 1
  rw[e1,e2]
  exact dG _ rfl
 ·have e:b=(s.heap.push {cls:=.type "range",data:=.fields #[.int lo t,.int hi u,.int 1 v]}).objs.size:=by simpa using hb
  subst e
  exact I1.sv (aT _) (I1.az.fresh (aT _))
def Sz(ta:TA):TI:=λσ H R=>ta σ H λvs H1=>∃j:Int,vs=[.int j]/\ -(2 ^ 62)<=j/\j<2 ^ 62/\R (sx 0 j.toNat) H1
theorem SA{a:Expr}{ta:TA}{p pos:Pos}(hg:Gl X "range")(hm:X.mg "range"=none)(ha:PA X [a] ta)(hs:starEach [a] X.env=[(false,eval a X.env)]:=by rfl):PI X tg (.Call (.Name "range" p) [a] [] pos) (Sz ta):=by
 intro pins s σ H R I h
 refine Call_ (xK I hg hm boot_range (Pr (aR (ha pos pins s σ H _ I h) λus s1 ⟨vs,H1,I1,r1,q1⟩=>?_) hs rfl))
 obtain⟨j,e,q1,q2,q⟩:=q1
 subst e
 cases r1 with
 |cons r rr=>
  cases rr
  obtain⟨t,rfl⟩:=r
  exact call_range_1 (Sy I1 (by omega) (by omega) q1 q2 (by simpa using q))
def SD(wi:TI)(g:TG)(tb:TS):TS:=λD σ H=>wi σ H λJ H1=>∃W:Nat->Nat->St->Hp->Prop,(∃m,W 0 m σ H1)/\∀i m σ H,W i m σ H->
 (J.stop i H/\D.nx σ H)\/(J.go i H/\∃N:St->Hp->Prop,(∀σ' H',N σ' H'->∃m',m'<m/\W (i+1) m' σ' H')/\∀x H',J.kM i H x H'->g x σ H' λσ2 H2=>tb {D with nx:=N,ct:=N,bk:=D.nx} σ2 H2)
def uM(fp:List Addr)(h:Heap):List (Addr×Obj):=fp.filterMap λb=>(h.get? b).map λo=>(b,o)
theorem Bi{fp:List Addr}{h:Heap}{b:Addr}{o:Obj}(hb:b∈fp)(e:h.get? b=some o):(b,o)∈uM fp h:=PY.mpr ⟨b,hb,by rw[e];rfl⟩
theorem SE{fp:List Addr}{h:Heap}{p:Addr×Obj}(hp:p∈uM fp h):p.1∈fp/\h.get? p.1=some p.2:=by
 obtain⟨b,hb,e⟩:=PY.mp hp
 cases q:h.get? b with
 |none=>rw[q]at e;cases e
 |some o=>
  rw[q]at e
  have e':(b,o)=p:=cZ e
  subst e'
  exact⟨hb,q⟩
theorem Inv.pinned{pins:List (Addr×Obj)}{σ:St}{H:Hp}{s:Shared}{fp:List Addr}(I:Inv X pins σ H s)(hf:∀b∈fp,kN X pins H b)(ho:∀b∈fp,∃o,s.heap.get? b=some o/\∀v,o.data≠.cell v):Inv X (pins++uM fp s.heap) σ H s:=
 I.IK λp hp=>(cP.mp hp).elim (λz=>I.pin p (eL _ z)) λz=>by
  obtain⟨hb,e⟩:=SE z
  obtain⟨f0,f1,f2,_⟩:=hf p.1 hb
  obtain⟨o,e',d⟩:=ho p.1 hb
  rw[e]at e';cases e'
  exact⟨e,f0,f1,f2,d⟩
theorem Inv.xS{pins pl:List (Addr×Obj)}{σ:St}{H:Hp}{s:Shared}(I:Inv X (pins++pl) σ H s):Inv X pins σ H s:=I.IK λp hp=>I.pin p (eL _ (dZ _ hp))
theorem eJ{iter:Expr}{body:List Stmt}{wi:TI}{g:TG}{tb:TS}{pos:Pos}(hp:PassesOwn (model X.prog X.w) X.A X.env X.xe)(hc:X.calm=true)(hi:PI X tg iter wi)(hg:PG X tg g)(hb:gh X body tb)
  (hs:∀x,foldedSetIterable iter X.env x=pure x:=by intro _;rfl):PS X (.For tg iter body [] pos) (SD wi g tb):=by
 intro pins s σ H D I h
 refine wpAny_For (aR (hi pins s σ H _ I h) λv s1 h1=>aR h1 λBh s2 h2=>?_) hs
 obtain⟨it,fp,tn,J,H2,e,I2,T,xT,f2,W,⟨m0,w0⟩,turn⟩:=h2
 subst e
 have qj:∀{H':Hp},(∀b∈fp,H' b=none)->∀b∈fp,kN X pins H' b:=λhn b hb=>⟨hn b hb,(f2 b hb).2⟩
 refine codeAny_forLoop_any (λn s'=>∃i σ' H',Inv X pins σ' H' s'/\tn i s'.heap/\(∀b∈fp,H' b=none)/\W i n σ' H') ?_ m0 ⟨0,σ,H2,I2,xT,λb hb=>(f2 b hb).1,w0⟩
 rintro n s3 ⟨i,σ3,H3,I3,xU,Jb,w3⟩
 rcases turn i n σ3 H3 w3 with⟨stop,qn⟩|⟨go,N,hN,step⟩
 ·refine wpAny_passesOwn hp (aR (T.done X rfl rfl rfl hc i pins s3 σ3 H3 X.xe I3 (qj Jb) xU stop) λr s4 ⟨hr,I4⟩=>?_)
  subst hr
  exact wpAny_execs_nil ⟨σ3,H3,I4,qn⟩
 ·refine wpAny_passesOwn hp (aR (T.item X rfl rfl rfl hc i pins s3 σ3 H3 X.xe I3 (qj Jb) xU go) λr s4 ⟨u,hr,h4⟩=>?_)
  subst hr
  refine wpAny_passesOwn hp (aR h4 λ_ s5 ⟨x,H5,I5,r5,y5,sy,SG⟩=>?_)
  have SH:=I5.pinned (qj SG) (T.obj _ _ sy)
  refine wpAny_passesOwn hp (aR (hg _ s5 σ3 H5 x u _ SH r5 (step x H5 y5)) λ_ s6 ⟨σ6,H6,I6,q6⟩=>?_)
  refine wpAny_passesOwn hp (aR (hb _ s6 σ6 H6 _ I6 q6) λf s7 q7=>?_)
  have again:∀{σ7:St}{H7:Hp},Inv X (pins++uM fp s5.heap) σ7 H7 s7->N σ7 H7->∃m,m<n/\∃i σ' H',Inv X pins σ' H' s7/\tn i s7.heap/\(∀b∈fp,H' b=none)/\W i m σ' H':=λ{σ7 H7} I7 n7=>by
   obtain⟨m',hm,w7⟩:=hN σ7 H7 n7
   refine⟨m',hm,i+1,σ7,H7,I7.xS,T.keep _ _ _ sy λb hb o e=>(I7.pin (b,o) (eL _ (eL _ (Bi hb e)))).1,λb hb=>?_,w7⟩
   obtain⟨o,e,d⟩:=T.obj _ _ sy b hb
   exact(I7.pin (b,o) (eL _ (eL _ (Bi hb e)))).2.1
  cases f with
  |next=>obtain⟨σ7,H7,I7,n7⟩:=q7;exact again I7 n7
  |cont=>obtain⟨σ7,H7,I7,n7⟩:=q7;exact again I7 n7
  |brk=>obtain⟨σ7,H7,I7,q7⟩:=q7;exact⟨σ7,H7,I7.xS,q7⟩
  |ret v=>obtain⟨x7,σ7,H7,I7,r7,q7⟩:=q7;exact⟨x7,σ7,H7,I7.xS,r7,q7⟩
end
theorem iq{K:ai}{a:Addr}{xs:List V}{g:TG}{tb:TS}{D:Ends}{σ:St}{H:Hp}(Pv:Nat->St->Hp->Prop)(h0:Pv 0 σ H)(hl:∀i σ H,i<=xs.length->Pv i σ H->ah K H a xs)
  (hs:∀i x σ H,xs[i]? =some x->Pv i σ H->g x σ H λσ2 H2=>tb {D with nx:=Pv (i+1),ct:=Pv (i+1),bk:=D.nx} σ2 H2) (hd:∀σ H,Pv xs.length σ H->D.nx σ H):
  ∃W:Nat->Nat->St->Hp->Prop,(∃m,W 0 m σ H)/\∀i m σ H,W i m σ H->
   ((oP K a).stop i H/\D.nx σ H)\/((oP K a).go i H/\∃N:St->Hp->Prop,(∀σ' H',N σ' H'->∃m',m'<m/\W (i+1) m' σ' H')/\∀x H',(oP K a).kM i H x H'->g x σ H' λσ2 H2=>tb {D with nx:=N,ct:=N,bk:=D.nx} σ2 H2):=by
 refine⟨λi m σ H=>m=xs.length-i/\i<=xs.length/\Pv i σ H,⟨xs.length,by simp,cw _,h0⟩,?_⟩
 rintro i m σ H ⟨rfl,hi,p⟩
 have q:=hl i σ H hi p
 by_cases aV:i<xs.length
 ·refine .inr ⟨⟨xs,xs[i],q,by simp[aV]⟩,Pv (i+1),λσ' H' p'=>⟨xs.length-(i+1),by omega,rfl,aV,p'⟩,λx H' y=>?_⟩
  obtain⟨e,y⟩:=y
  subst e
  exact hs i x σ _ (y xs q) p
 ·have e:i=xs.length:=by omega
  subst e
  exact .inl ⟨⟨xs,q,aT _⟩,hd σ H p⟩
theorem xV{K:ai}{a:Addr}{xs:List V}{g:TG}{tb:TS}{D:Ends}{σ:St}{H:Hp}(Pv:Nat->St->Hp->Prop)(h0:Pv 0 σ H)(hl:∀i σ H,i<=xs.length->Pv i σ H->aB K H a xs)
  (hs:∀i x σ H,xs[i]? =some x->Pv i σ H->g x σ H λσ2 H2=>tb {D with nx:=Pv (i+1),ct:=Pv (i+1),bk:=D.nx} σ2 H2) (hd:∀σ H,Pv xs.length σ H->D.nx σ H):
  ∃W:Nat->Nat->St->Hp->Prop,(∃m,W 0 m σ H)/\∀i m σ H,W i m σ H->
   ((uL K a).stop i H/\D.nx σ H)\/((uL K a).go i H/\∃N:St->Hp->Prop,(∀σ' H',N σ' H'->∃m',m'<m/\W (i+1) m' σ' H')/\∀x H',(uL K a).kM i H x H'->g x σ H' λσ2 H2=>tb {D with nx:=N,ct:=N,bk:=D.nx} σ2 H2):=by
 refine⟨λi m σ H=>m=xs.length-i/\i<=xs.length/\Pv i σ H,⟨xs.length,by simp,cw _,h0⟩,?_⟩
 rintro i m σ H ⟨rfl,hi,p⟩
 have q:=hl i σ H hi p
 by_cases aV:i<xs.length
 ·refine .inr ⟨⟨xs,xs[i],q,by simp[aV]⟩,Pv (i+1),λσ' H' p'=>⟨xs.length-(i+1),by omega,rfl,aV,p'⟩,λx H' y=>?_⟩
  obtain⟨e,y⟩:=y
  subst e
  exact hs i x σ _ (y xs q) p
 ·have e:i=xs.length:=by omega
  subst e
  exact .inl ⟨⟨xs,q,aT _⟩,hd σ H p⟩
theorem SI{lo:Int}{n:Nat}{g:TG}{tb:TS}{D:Ends}{σ:St}{H:Hp}(Pv:Nat->St->Hp->Prop)(h0:Pv 0 σ H)
  (hs:∀i σ H,i<n->Pv i σ H->g (.int (lo+i)) σ H λσ2 H2=>tb {D with nx:=Pv (i+1),ct:=Pv (i+1),bk:=D.nx} σ2 H2) (hd:∀σ H,Pv n σ H->D.nx σ H):
  ∃W:Nat->Nat->St->Hp->Prop,(∃m,W 0 m σ H)/\∀i m σ H,W i m σ H->
   ((sx lo n).stop i H/\D.nx σ H)\/((sx lo n).go i H/\∃N:St->Hp->Prop,(∀σ' H',N σ' H'->∃m',m'<m/\W (i+1) m' σ' H')/\∀x H',(sx lo n).kM i H x H'->g x σ H' λσ2 H2=>tb {D with nx:=N,ct:=N,bk:=D.nx} σ2 H2):=by
 refine⟨λi m σ H=>m=n-i/\i<=n/\Pv i σ H,⟨n,by simp,cw _,h0⟩,?_⟩
 rintro i m σ H ⟨rfl,hi,p⟩
 by_cases aV:i<n
 ·refine .inr ⟨aV,Pv (i+1),λσ' H' p'=>⟨n-(i+1),by omega,rfl,aV,p'⟩,λx H' y=>?_⟩
  obtain⟨e,y⟩:=y
  subst e y
  exact hs i σ _ aV p
 ·have e:i=n:=by omega
  subst e
  exact .inl ⟨aT _,hd σ H p⟩
end L2
namespace L2
open PySem PySem.Spec PyProof.Rows
abbrev R2:=V->V->Hp->VK->Prop
def eh(X:Cx)(f:Value->Value->Sem Value)(r:R2):Prop:=
 ∀(pins:List (Addr×Obj))(s:Shared)(σ:St)(H:Hp)(x y:V)(v u:Value)(Q:VK),Inv X pins σ H s->RelV x v->RelV y u->r x y H Q->
  wpAny (model X.prog X.w) X.A (f v u) (EP X pins σ Q) X.xe s
def Bj(X:Cx)(f:Value->Sem Value)(r:V->Hp->VK->Prop):Prop:=
 ∀(pins:List (Addr×Obj))(s:Shared)(σ:St)(H:Hp)(x:V)(v:Value)(Q:VK),Inv X pins σ H s->RelV x v->r x H Q->
  wpAny (model X.prog X.w) X.A (f v) (EP X pins σ Q) X.xe s
def gT(X:Cx)(f:Value)(r:List V->Hp->VK->Prop):Prop:=
 ∀(pins:List (Addr×Obj))(s:Shared)(σ:St)(H:Hp)(xs:List V)(us:List Value)(Q:VK),Inv X pins σ H s->Vals xs us->r xs H Q->
  wpAny (model X.prog X.w) X.A (call f us) (EP X pins σ Q) X.xe s
def kS(r:R2)(ta tb:TE):TE:=λσ H Q=>ta σ H λx H1=>tb σ H1 λy H2=>r x y H2 Q
def SJ(r:V->Hp->VK->Prop)(ta:TE):TE:=λσ H Q=>ta σ H λx H1=>r x H1 Q
def rI(C:Int->Int->Prop)(g:Int->Int->V):R2:=λx y H Q=>∃i j,x=.int i/\y=.int j/\C i j/\Q (g i j) H
def m9(g:Int->Int->V):R2:=λx y H Q=>∃i j,x=.int i/\y=.int j/\Q (g i j) H
def rU(g:Int->V):V->Hp->VK->Prop:=λx H Q=>∃i,x=.int i/\Q (g i) H
section
variable{X:Cx}{a b c:Expr}{ta tb tc:TE}{pos:Pos}
theorem Bk(ha:PE X a ta)(hb:PE X b tb){pins:List (Addr×Obj)}{s:Shared}{σ:St}{H:Hp}{R:V->V->Hp->Prop}(I:Inv X pins σ H s)
  (h:ta σ H λx H1=>tb σ H1 λy H2=>R x y H2) {Q:Value->Shared->Prop} {f:Value->Value->Sem Value}
  (hf:∀v u s2 x y H2,Inv X pins σ H2 s2->RelV x v->RelV y u->R x y H2->wpAny (model X.prog X.w) X.A (f v u) Q X.xe s2):
  wpAny (model X.prog X.w) X.A (eval a X.env) (λv bA=>wpAny (model X.prog X.w) X.A (eval b X.env) (λu iS=>wpAny (model X.prog X.w) X.A (f v u) Q X.xe iS) X.xe bA) X.xe s:=by
 refine aR (ha pins s σ H _ I h) λv s1 ⟨x,H1,I1,r1,q1⟩=>?_
 refine aR (hb pins s1 σ H1 _ I1 q1) λu s2 ⟨y,H2,I2,r2,q2⟩=>?_
 exact hf v u s2 x y H2 I2 r1 r2 q2
theorem bW{op:Operator}{r:R2}(ho:eh X (binaryOp op) r)(ha:PE X a ta)(hb:PE X b tb):PE X (.BinOp a op b pos) (kS r ta tb):=by
 intro pins s σ H Q I h
 exact wpAny_BinOp (Bk ha hb I h λv u s2 x y H2 I2 rx ry q=>ho pins s2 σ H2 x y v u Q I2 rx ry q)
theorem Bl{op:UnaryOp}{r:V->Hp->VK->Prop}(ho:Bj X (unaryOp op) r)(ha:PE X a ta):PE X (.UnaryOp op a pos) (SJ r ta):=by
 intro pins s σ H Q I h
 exact UnaryOp_ (aR (ha pins s σ H _ I h) λv s1 ⟨x,H1,I1,r1,q1⟩=>ho pins s1 σ H1 x v Q I1 r1 q1)
theorem SK{f:Value->Value->Sem Value}{C:Int->Int->Prop}{g:Int->Int->Int}
  (rule:∀(i j:Int)(t u:Tok)(s:Shared)(Q:Value->Shared->Prop)(E:Value->Shared->Prop),C i j->Q (.int (g i j) s.toks) {s with toks:=s.toks+1}->wpAny (model X.prog X.w) X.A (f (.int i t) (.int j u)) Q E s):
  eh X f (rI C λi j=>.int (g i j)):=by
 intro pins s σ H x y v u Q I rx ry h
 obtain⟨i,j,rfl,rfl,hc,q⟩:=h
 obtain⟨t,rfl⟩:=rx
 obtain⟨t',rfl⟩:=ry
 exact rule i j t t' s _ _ hc ⟨.int (g i j),H,I.tok _,⟨_,rfl⟩,q⟩
theorem Jc{f:Value->Value->Sem Value}{g:Int->Int->Int}
  (rule:∀(i j:Int)(t u:Tok)(s:Shared)(Q:Value->Shared->Prop)(E:Value->Shared->Prop),Q (.int (g i j) s.toks) {s with toks:=s.toks+1}->wpAny (model X.prog X.w) X.A (f (.int i t) (.int j u)) Q E s):
  eh X f (m9 λi j=>.int (g i j)):=by
 intro pins s σ H x y v u Q I rx ry h
 obtain⟨i,j,rfl,rfl,q⟩:=h
 obtain⟨t,rfl⟩:=rx
 obtain⟨t',rfl⟩:=ry
 exact rule i j t t' s _ _ ⟨.int (g i j),H,I.tok _,⟨_,rfl⟩,q⟩
theorem Bm{f:Value->Value->Sem Value}{g:Int->Int->Bool}
  (rule:∀(i j:Int)(t u:Tok)(s:Shared)(Q:Value->Shared->Prop)(E:Value->Shared->Prop),Q (.bool (g i j)) s->wpAny (model X.prog X.w) X.A (f (.int i t) (.int j u)) Q E s):
  eh X f (m9 λi j=>.bl (g i j)):=by
 intro pins s σ H x y v u Q I rx ry h
 obtain⟨i,j,rfl,rfl,q⟩:=h
 obtain⟨t,rfl⟩:=rx
 obtain⟨t',rfl⟩:=ry
 exact rule i j t t' s _ _ ⟨.bl (g i j),H,I,rfl,q⟩
def Bo(i j:Int):Prop:=(-(2 ^ 64)<i/\i<2 ^ 64)\/(-(2 ^ 64)<j/\j<2 ^ 64)
theorem Bo.ok{i j:Int}(h:Bo i j):IntMulOk i j:=by
 rcases h with⟨h1,h2⟩|⟨h1,h2⟩
 ·exact .of_left (intBits_le_64 h1 h2)
 ·exact .of_right (intBits_le_64 h1 h2)
theorem fM:eh X (binaryOp .Add) (m9 λi j=>.int (i+j)):=Jc λ_ _ _ _ _ _ _ q=>add_int q
theorem xW:eh X (binaryOp .Sub) (m9 λi j=>.int (i-j)):=Jc λ_ _ _ _ _ _ _ q=>sub_int q
theorem SM:eh X (binaryOp .Mult) (rI Bo λi j=>.int (i*j)):=SK λ_ _ _ _ _ _ _ hc q=>mul_int q hc.ok
theorem SN{f:Value->Sem Value}{g:Int->Int}
  (rule:∀(i:Int)(t:Tok)(s:Shared)(Q:Value->Shared->Prop)(E:Value->Shared->Prop),Q (.int (g i) s.toks) {s with toks:=s.toks+1}->wpAny (model X.prog X.w) X.A (f (.int i t)) Q E s):
  Bj X f (rU λi=>.int (g i)):=by
 intro pins s σ H x v Q I rx h
 obtain⟨i,rfl,q⟩:=h
 obtain⟨t,rfl⟩:=rx
 exact rule i t s _ _ ⟨.int (g i),H,I.tok _,⟨_,rfl⟩,q⟩
theorem Bq:Bj X (unaryOp .USub) (rU λi=>.int (-i)):=SN λ_ _ _ _ _ q=>neg_int q
end
def Jd:V->V->Bool
 | .aO,.aO=>true| .aO,.int _=>true| .int _,.aO=>true| .aO,.bl _=>true| .bl _,.aO=>true| .aO,.str _=>true| .str _,.aO=>true
 | .int _,.int _=>true| .bl _,.bl _=>true| .str _,.str _=>true| .gg _,.gg _=>true
 | .int _,.str _=>true| .str _,.int _=>true| .bl _,.str _=>true| .str _,.bl _=>true
 |_,_=>false
def SO:R2:=λx y H Q=>Jd x y=true/\Q (.bl (decide (x=y))) H
def SQ:R2:=λx y H Q=>Jd x y=true/\Q (.bl (!decide (x=y))) H
theorem Je{i j:Int}:decide (V.int i=V.int j)=(i==j):=by
 rw[gb]
 simp
theorem Jf{i j:Bool}:decide (V.bl i=V.bl j)=(i==j):=by
 rw[gb]
 simp
theorem Jg{i j:Str}:decide (V.str i=V.str j)=(i==j):=by
 rw[gb]
 simp
theorem Jh{i j:Array UInt8}:decide (V.gg i=V.gg j)=(i.toList==j.toList):=by
 rw[gb]
 cases i
 cases j
 simp
section
variable{X:Cx}{a b c:Expr}{ta tb tc:TE}{pos:Pos}
theorem dt{pins:List (Addr×Obj)}{σ:St}{H:Hp}{s:Shared}{Q:VK}{k k':Bool}(I:Inv X pins σ H s)(q:Q (.bl k) H)(e:k=k'):EP X pins σ Q (.bool k') s:=by
 subst e
 exact⟨.bl k,H,I,rfl,q⟩
theorem ei:eh X (compareOp .Eq) SO:=by
 intro pins s σ H x y v u Q I rx ry h
 obtain⟨hs,q⟩:=h
 cases x with
 |aO=>
  cases rx
  cases y with
  |aO=>cases ry;exact PySem.EqNone.eq_none_none (dt I q (by simp))
  |bl j=>cases ry;exact PySem.EqNone.eq_none_bool (dt I q (by simp))
  |int j=>obtain⟨t',rfl⟩:=ry;exact PySem.EqNone.eq_none_int (dt I q (by simp))
  |str j=>obtain⟨t',rfl⟩:=ry;exact PySem.EqNone.eq_none_str (dt I q (by simp))
  |_=>exact absurd (show false=true from hs) cG
 |bl i=>
  cases rx
  cases y with
  |aO=>cases ry;exact PySem.EqNone.eq_bool_none (dt I q (by simp))
  |bl j=>cases ry;exact eq_bool (dt I q Jf)
  |str j=>obtain⟨t',rfl⟩:=ry;exact PySem.EqMixed.eq_bool_str (dt I q (by simp))
  |_=>exact absurd (show false=true from hs) cG
 |int i=>
  obtain⟨t,rfl⟩:=rx
  cases y with
  |aO=>cases ry;exact PySem.EqNone.eq_int_none (dt I q (by simp))
  |int j=>obtain⟨t',rfl⟩:=ry;exact eq_int (dt I q Je)
  |str j=>obtain⟨t',rfl⟩:=ry;exact PySem.EqMixed.eq_int_str (dt I q (by simp))
  |_=>exact absurd (show false=true from hs) cG
 |str i=>
  obtain⟨t,rfl⟩:=rx
  cases y with
  |aO=>cases ry;exact PySem.EqNone.eq_str_none (dt I q (by simp))
  |bl j=>cases ry;exact PySem.EqMixed.eq_str_bool (dt I q (by simp))
  |int j=>obtain⟨t',rfl⟩:=ry;exact PySem.EqMixed.eq_str_int (dt I q (by simp))
  |str j=>obtain⟨t',rfl⟩:=ry;exact eq_str (dt I q Jg)
  |_=>exact absurd (show false=true from hs) cG
 |gg i=>
  obtain⟨t,rfl⟩:=rx
  cases y with
  |gg j=>obtain⟨t',rfl⟩:=ry;exact PySem.W.eq_bytes (dt I q Jh)
  |_=>exact absurd (show false=true from hs) cG
 |_=>cases y<;>exact absurd (show false=true from hs) cG
theorem xX:eh X (compareOp .NotEq) SQ:=by
 intro pins s σ H x y v u Q I rx ry h
 obtain⟨hs,q⟩:=h
 cases x with
 |aO=>
  cases rx
  cases y with
  |aO=>cases ry;exact PySem.EqNone.ne_none_none (dt I q (by simp))
  |bl j=>cases ry;exact PySem.EqNone.ne_none_bool (dt I q (by simp))
  |int j=>obtain⟨t',rfl⟩:=ry;exact PySem.EqNone.ne_none_int (dt I q (by simp))
  |str j=>obtain⟨t',rfl⟩:=ry;exact PySem.EqNone.ne_none_str (dt I q (by simp))
  |_=>exact absurd (show false=true from hs) cG
 |bl i=>
  cases rx
  cases y with
  |aO=>cases ry;exact PySem.EqNone.ne_bool_none (dt I q (by simp))
  |bl j=>cases ry;exact ne_bool (dt I q (congrArg not Jf))
  |str j=>obtain⟨t',rfl⟩:=ry;exact PySem.EqMixed.ne_bool_str (dt I q (by simp))
  |_=>exact absurd (show false=true from hs) cG
 |int i=>
  obtain⟨t,rfl⟩:=rx
  cases y with
  |aO=>cases ry;exact PySem.EqNone.ne_int_none (dt I q (by simp))
  |int j=>obtain⟨t',rfl⟩:=ry;exact ne_int (dt I q (congrArg not Je))
  |str j=>obtain⟨t',rfl⟩:=ry;exact PySem.EqMixed.ne_int_str (dt I q (by simp))
  |_=>exact absurd (show false=true from hs) cG
 |str i=>
  obtain⟨t,rfl⟩:=rx
  cases y with
  |aO=>cases ry;exact PySem.EqNone.ne_str_none (dt I q (by simp))
  |bl j=>cases ry;exact PySem.EqMixed.ne_str_bool (dt I q (by simp))
  |int j=>obtain⟨t',rfl⟩:=ry;exact PySem.EqMixed.ne_str_int (dt I q (by simp))
  |str j=>obtain⟨t',rfl⟩:=ry;exact ne_str (dt I q (congrArg not Jg))
  |_=>exact absurd (show false=true from hs) cG
 |gg i=>
  obtain⟨t,rfl⟩:=rx
  cases y with
  |gg j=>obtain⟨t',rfl⟩:=ry;exact PySem.W.ne_bytes (dt I q (congrArg not Jh))
  |_=>exact absurd (show false=true from hs) cG
 |_=>cases y<;>exact absurd (show false=true from hs) cG
theorem kT:eh X (compareOp .Lt) (m9 λi j=>.bl (decide (i<j))):=Bm λ_ _ _ _ _ _ _ q=>lt_int q
theorem m_:eh X (compareOp .LtE) (m9 λi j=>.bl (decide (i<=j))):=Bm λ_ _ _ _ _ _ _ q=>le_int q
theorem kU:eh X (compareOp .Gt) (m9 λi j=>.bl (decide (j<i))):=Bm λ_ _ _ _ _ _ _ q=>gt_int q
theorem bw(b:Expr){op:CmpOp}(h:op≠.In:=by decide)(h2:op≠.NotIn:=by decide):behindInMarks op b=false:=by
 have e1:(op==CmpOp.In)=false:=by cases op<;>first|rfl|exact absurd rfl h
 have e2:(op==CmpOp.NotIn)=false:=by cases op<;>first|rfl|exact absurd rfl h2
 cases b<;>simp[behindInMarks,e1,e2]
theorem xY{op:CmpOp}{r:R2}(ho:eh X (compareOp op) r)(ha:PE X a ta)(hb:PE X b tb)(hm:behindInMarks op b=false):PE X (.Compare a [op] [b] pos) (kS r ta tb):=by
 intro pins s σ H Q I h
 exact wpAny_Compare1 (Bk ha hb I h λv u s2 x y H2 I2 rx ry q=>ho pins s2 σ H2 x y v u Q I2 rx ry q) hm
def SR(t:TE):TT:=λσ H Q=>t σ H λx H'=>∃k,x=.bl k/\Q k H'
theorem bC{op:CmpOp}{r:R2}(ho:eh X (compareOp op) r)(ha:PE X a ta)(hb:PE X b tb)(hm:behindInMarks op b=false):PT X (.Compare a [op] [b] pos) (SR (kS r ta tb)):=by
 intro pins s σ H Q I h
 refine wpAny_isTrue_Compare1 (aR (ha pins s σ H _ I h) λv s1 ⟨x,H1,I1,r1,q1⟩=>aR (hb pins s1 σ H1 _ I1 q1) λu s2 ⟨y,H2,I2,r2,q2⟩=>
  aR (ho pins s2 σ H2 x y v u _ I2 r1 r2 q2) λc s3 ⟨z,H3,I3,r3,k,e,q3⟩=>?_) hm
 subst e
 cases r3
 exact wpAny_truthy_bool ⟨H3,I3,q3⟩
def Ji(r r':R2)(ta tb tc:TE):TE:=λσ H Q=>ta σ H λx H1=>tb σ H1 λy H2=>r x y H2 λz H3=>∃k,z=.bl k/\
 (if k=true then tc σ H3 λw' H4=>r' y w' H4 Q else Q (.bl false) H3)
theorem xZ{op Bt:CmpOp}{r r':R2}(ho:eh X (compareOp op) r)(ip:eh X (compareOp Bt) r')(ha:PE X a ta)(hb:PE X b tb)(hc:PE X c tc)
  (hm:lastMarks [op,Bt] [b,c]=false:=by with_unfolding_all rfl):PE X (.Compare a [op,Bt] [b,c] pos) (Ji r r' ta tb tc):=by
 intro pins s σ H Q I h
 refine Compare_chain (aR (ha pins s σ H _ I h) λv s1 ⟨x,H1,I1,r1,q1⟩=>chain_link (aR (hb pins s1 σ H1 _ I1 q1) λu s2 ⟨y,H2,I2,r2,q2⟩=>
  aR (ho pins s2 σ H2 x y v u _ I2 r1 r2 q2) λd s3 ⟨z,H3,I3,r3,k,e,q3⟩=>?_)) hm
 subst e
 cases r3
 refine wpAny_truthy_bool ?_
 cases k with
 |false=>exact ite_ff ⟨.bl false,H3,I3,rfl,q3⟩
 |true=>exact ite_tt (chain_last (aR (hc pins s3 σ H3 _ I3 q3) λw' s4 ⟨z',H4,I4,r4,q4⟩=>ip pins s4 σ H4 y z' u w' Q I4 r2 r4 q4))
theorem x5:(sizeLine:Nat)<2 ^ 63:=by rw[sizeLine_eq];decide
theorem vals1{x:V}{us:List Value}(r:Vals [x] us):∃u,us=[u]/\RelV x u:=by
 cases r with
 |cons r1 r2=>cases r2;exact⟨_,rfl,r1⟩
theorem vals2{x y:V}{us:List Value}(r:Vals [x,y] us):∃u w',us=[u,w']/\RelV x u/\RelV y w':=by
 cases r with
 |cons r1 r2=>
  cases r2 with
  |cons r3 r4=>cases r4;exact⟨_,_,rfl,r1,r3⟩
theorem SS(hc:X.calm=true):gT X (.builtin "min") (λxs H Q=>∃i j,xs=[.int i,.int j]/\Q (.int (if j<i then j else i)) H):=by
 intro pins s σ H xs us Q I r h
 obtain⟨i,j,rfl,q⟩:=h
 obtain⟨u,w',rfl,⟨t,rfl⟩,⟨t',rfl⟩⟩:=vals2 r
 refine min_two_ints (I.ok.hd hc) λh' tk k=>⟨_,H,I.kept k,?_,q⟩
 by_cases hj:j<i
 ·rw[if_pos hj,if_pos hj];exact⟨_,rfl⟩
 ·rw[if_neg hj,if_neg hj];exact⟨_,rfl⟩
theorem Jj:gT X (.type "str") (λxs H Q=>∃i,xs=[.int i]/\i.natAbs.log2<1920/\Q (.str (toString i)) H):=by
 intro pins s σ H xs us Q I r h
 obtain⟨i,rfl,hz,q⟩:=h
 obtain⟨u,rfl,t,rfl⟩:=vals1 r
 exact PySem.P.str_of_int hz ⟨.str _,H,I.tok _,⟨_,rfl⟩,q⟩
theorem SU:gT X (.builtin "ord") (λxs H Q=>∃x,xs=[.str x]/\x.length=1/\Q (.int (x.cps.getD 0 0:Nat)) H):=by
 intro pins s σ H xs us Q I r h
 obtain⟨x,rfl,hz,q⟩:=h
 obtain⟨u,rfl,t,rfl⟩:=vals1 r
 exact ord_of_one hz ⟨.int _,H,I.tok _,⟨_,rfl⟩,q⟩
end
end L2
namespace L2
open PySem PySem.Spec PyProof.Rows
structure qk(h:Heap)(x dx C:Addr)(mA:Str->Option Value):Prop where
 obj:h.get? x=some (rG C dx)
 ns:h.Ns1 dx mA
 ne:dx≠x
theorem SV{h:Heap}{dx:Addr}{mA:Str->Option Value}(n:h.Ns1 dx mA):∃od,h.get? dx=some od/\∀name,G2 name od=some (mA name):=by
 obtain⟨o,es,ep,ho,hd,hk,_,hm⟩:=n
 refine⟨o,ho,λname=>?_⟩
 have e:=hm name
 unfold nsFind findBy at e
 rw[<-ahy]at e
 unfold G2
 rw[hd]
 dsimp only
 split
 ·rename_i y q
  rw[q]at e
  exact congrArg some e
 ·rename_i q
  rw[q]at e
  have a:es.toList.any (·.refKey)=false:=by
   rw[List.any_eq_false]
   intro y hy
   obtain⟨z,t,SW⟩:=hk y (ahn.mp hy)
   simp[DictEntry.refKey,SW]
  have a':¬es.toList.any (·.refKey)=true:=by rw[a];exact cG
  rw[if_neg a']
  exact congrArg some e
theorem qk.look{h:Heap}{x dx C:Addr}{mA:Str->Option Value}(I:qk h x dx C mA):∃od,PySem.W.InstAt h x (rG C dx) C (some od)/\∀name,G2 name od=some (mA name):=
 let⟨od,ho,hl⟩:=SV I.ns
 ⟨od,⟨I.obj,rfl,rfl,ho⟩,hl⟩
section
variable{prog:Program}{w:World}{A:Around}{E:Value->Shared->Prop}{s:Shared}{K:ai}{x dx C f:Addr}{mA:Str->Option Value}{name:Str}{v:Value}
theorem get_map{expr:Bool}{Q:Value->Shared->Prop}(X:K.In s.heap)(I:qk s.heap x dx C mA)(hg:pO K C name=true)(hh:rD K C=true)
  (ha:cQ K (.ref C) name=some none) (hv:mA name=some v) (fh:ahs v=true) (h:Q v {s with toks:=s.toks+1}):
  wpAny (model prog w) A (getAttr (.ref x) name expr) Q E s:=by
 obtain⟨od,J,hl⟩:=I.look
 exact PySem.W.get_value X J (PK hg).1 (PySem.W.findObj_own hh ha rfl (by rw[hl,hv])) fh h
theorem SX{pl:Sem Bool}{Q:Value×List Value->Shared->Prop}(X:K.In s.heap)(I:qk s.heap x dx C mA)(hg:pO K C name=true)
  (hf:cQ K (.ref C) name=some (some (.ref f))) (ht:Ao K (.ref f)=true) (hv:mA name=none) (h:Q (.ref f,[.ref x]) s):
  wpAny (model prog w) A (getMethod (.ref x) name pl) Q E s:=by
 obtain⟨od,J,hl⟩:=I.look
 exact PySem.W.method_fn X J (PK hg).1 (PK hg).2 hf (beq_iff_eq.mp ht) (by show(G2 name od).map (·.isSome)=some false;rw[hl,hv];rfl) h
theorem SY{ns:List Str}{Q:Unit->Shared->Prop}(X:K.In s.heap)(I:qk s.heap x dx C mA)
  (hs:cQ K (.ref C) "__setattr__"=some (some (.builtin "object.__setattr__"))) (hp:ud K C=true) (ht:P_ K C name=some none) (hh:rD K C=true)
  (hw:Ar mA ns) (hsz:ns.length<=sizeLine)
  (h:∀h',qk h' x dx C (λy=>if y=name then some v else mA y)->ox dx s.heap h'->Q () {s with heap:=h',toks:=s.toks+2}):
  wpAny (model prog w) A (setAttr (.ref x) name v) Q E s:=by
 obtain⟨od,J,hl⟩:=I.look
 refine PySem.W.set_plain X J hs (PySem.W.osa_open (s:={s with toks:=s.toks+1}) (r:=none) X J hp ht λb=>?_)
 obtain⟨cd,hc,qf⟩:=PySem.W.any_some hh
 have hx:s.heap.get? x=some ⟨.ref C,some dx,.plain,#[]⟩:=I.obj
 refine wpAny_bind (wpAny_pure (wpAny_bind (wpAny_bind (wpAny_loadPart hx (wpAny_bind (PySem.W.Looks.here (s:={s with toks:=s.toks+1}) (PySem.W.looks_clsIn X hc) ?_))))))
 rw[qf]
 refine wpAny_pure (a:=some dx) (wpAny_bind (wpAny_pure (wpAny_bind ?_)))
 refine wpAny_nsSet1 (s:={s with toks:=s.toks+1}) I.ns λh' ql Jk=>?_
 obtain⟨oD,S0,S1,Bu,Bv,Bw⟩:=ql.count (PySem.Within.cons name v hw)
 refine wpAny_bind (wpAny_lookBehind Bu (by rw[Bv];exact pastItsLine_dict (cp Bw (by rw[bJ];omega))) ?_)
 exact wpAny_pure (h _ ⟨(Jk.2 _ (Ne.symm I.ne)).trans I.obj,ql,I.ne⟩ Jk)
theorem S2{R:Result->Shared->Prop}{vs:List Value}{kw:List (Str×Value)}(X:K.In s.heap)(hm:rF K C=true)
  (hi:cQ K (.ref C) "__init__"=some (some (.ref f))) (hf:PySem.W.typeIn K (.ref f)=some (.type "function"))
  (h:codeAny (model prog w) (A.under (.builtin "type.__call__" ⟨.ref C::vs,kw⟩)) (.call (.ref f) ⟨.ref (s.heap.objs.size+1)::vs,kw⟩) (PySem.W.InitBack (s.heap.objs.size+1) R)
   {s with heap:=(s.heap.push pN).push (rG C s.heap.objs.size)}):
  codeAny (model prog w) A (.call (.ref C) ⟨vs,kw⟩) R s:=by
 obtain⟨hh,g,d,t,os⟩:=s
 exact PySem.W.make_core (PySem.W.makes_of X hm) (PySem.W.looks_findIn X hi) (λself=>PySem.W.bind_fn X self hf) (.inl rfl) h
end
def bP(f:Str)(v:V):List (Str×V)->List (Str×V)
 |[]=>[(f,v)]
 |(g,x)::r=>if g=f then(g,v)::r else(g,x)::bP f v r
theorem x6(f g:Str)(v:V):∀fs:List (Str×V),(bP f v fs).lookup g=if g=f then some v else fs.lookup g
 |[]=>by
  show rO g [(f,v)]=_
  by_cases h:g=f
  ·have hb:(g==f)=true:=beq_iff_eq.mpr h
   simp only[rO,hb,if_pos h]
  ·have hb:(g==f)=false:=beq_eq_false_iff_ne.mpr h
   simp only[rO,hb,if_neg h]
 |(k,x)::r=>by
  have ih:=x6 f g v r
  rw[show bP f v ((k,x)::r)=(if k=f then(k,v)::r else(k,x)::bP f v r)from rfl]
  by_cases hk:k=f
  ·rw[if_pos hk]
   by_cases h:g=k
   ·have hb:(g==k)=true:=beq_iff_eq.mpr h
    simp only[rO,hb,if_pos (h.trans hk)]
   ·have hb:(g==k)=false:=beq_eq_false_iff_ne.mpr h
    simp only[rO,hb,if_neg (λe:g=f=>h (e.trans hk.symm))]
  ·rw[if_neg hk]
   by_cases h:g=k
   ·have hb:(g==k)=true:=beq_iff_eq.mpr h
    simp only[rO,hb,if_neg (λe:g=f=>hk (h.symm.trans e))]
   ·have hb:(g==k)=false:=beq_eq_false_iff_ne.mpr h
    simp only[rO,hb]
    exact ih
theorem uN(f:Str)(v:V):∀fs:List (Str×V),f∈(bP f v fs).map (·.1)/\∀g,g∈fs.map (·.1)->g∈(bP f v fs).map (·.1)
 |[]=>⟨by simp[bP],λg h=>by simp at h⟩
 |(k,x)::r=>by
  obtain⟨i1,i2⟩:=uN f v r
  rw[show bP f v ((k,x)::r)=(if k=f then(k,v)::r else(k,x)::bP f v r)from rfl]
  by_cases hk:k=f
  ·rw[if_pos hk]
   subst hk
   exact⟨by simp,λg h=>by simpa using h⟩
  ·rw[if_neg hk]
   refine⟨?_,λg h=>?_⟩
   ·rw[eV]
    exact bR _ i1
   ·rw[eV]at h⊢
    rcases bz.mp h with e|e
    ·exact bz.mpr (.inl e)
    ·exact bR _ (i2 g e)
theorem By(f:Str)(v:V):∀fs:List (Str×V),(bP f v fs).length<=fs.length+1
 |[]=>by simp[bP]
 |(k,x)::r=>by
  have ih:=By f v r
  rw[show bP f v ((k,x)::r)=(if k=f then(k,v)::r else(k,x)::bP f v r)from rfl]
  by_cases hk:k=f
  ·rw[if_pos hk,bJ,bJ];omega
  ·rw[if_neg hk,bJ,bJ];omega
theorem fG.some_of{v:V}{o:Option Value}(r:fG (some v) o):∃u,o=some u/\RelV v u:=by
 cases o with
 |none=>exact(show False from r).elim
 |some u=>exact⟨u,rfl,r⟩
theorem fG.none_of{o:Option Value}(r:fG none o):o=none:=by
 cases o with
 |none=>rfl
 |some u=>exact(show False from r).elim
theorem Jl{v:V}{u:Value}(r:RelV v u):ahs u=true:=by
 cases v with
 |aO=>cases(show u=d7 from r);rfl
 |bl b=>cases(show u=Value.bool b from r);rfl
 |int i=>obtain⟨t,e⟩:=(show ∃t,u=xf i t from r);cases e;rfl
 |str x=>obtain⟨t,e⟩:=(show ∃t,u=Ho x t from r);cases e;rfl
 |gg b=>obtain⟨t,e⟩:=(show ∃t,u=Value.bytes b t from r);cases e;rfl
 |uB b=>obtain⟨t,e⟩:=(show ∃t,u=Value.float b t from r);cases e;rfl
 |ref a=>cases(show u=cD a from r);rfl
 |ty n=>cases(show u=pW n from r);rfl
section
variable{P:Program}{w:World}{H H':Hp}{h h':Heap}{a C dx:Addr}{fs RX:List (Str×V)}
theorem Bz(az:cH P w H h)(e:H a=some (.ins C dx fs)):∃mA,qk h a dx C mA/\(∀f,fG (fs.lookup f) (mA f))/\Ar mA (fs.map (·.1))/\fs.length<=1000/\H dx=some (.own a):=by
 obtain⟨d,z,ne,ob,mA,n,r,q⟩:=(show b_ P w H h a (.ins C dx fs)from az a _ e)
 exact⟨mA,⟨ob,n,ne⟩,r,q,z,d⟩
end
structure ir(K:ai)(C:Addr):Prop where
 pg:pO K C xg=true
 hd:rD K C=true
 po:ud K C=true
 sa:cQ K (.ref C) "__setattr__"=some (some (.builtin "object.__setattr__"))
theorem ir.get{K:ai}{C:Addr}(c:ir K C)(f:Str):pO K C f=true:=c.pg
def dN(K:ai)(C:Addr)(f:Str):Prop:=cQ K (.ref C) f=some none
theorem dN.S3{K:ai}{C:Addr}{f:Str}(n:dN K C f):P_ K C f=some none:=by
 unfold P_
 rw[show cQ K (.ref C) f=some none from n]
 rfl
structure Meth(K:ai)(C:Addr)(m:Str)(f:Addr):Prop where
 at_:cQ K (.ref C) m=some (some (.ref f))
 fn:Ao K (.ref f)=true
 kp:ib K (.ref f)=true
section
variable{X:Cx}{pins:List (Addr×Obj)}{σ:St}{H:Hp}{s:Shared}{a C dx:Addr}{fs:List (Str×V)}{f:Str}{v:V}{A:Around}{E:Value->Shared->Prop}
theorem S4{b:Bool}{Q:Value->Shared->Prop}(I:Inv X pins σ H s)(e:H a=some (.ins C dx fs))(c:ir X.K C)(n:dN X.K C f)(l:fs.lookup f=some v)
  (h:∀u s',Inv X pins σ H s'->RelV v u->Q u s'):wpAny (model X.prog X.w) A (getAttr (.ref a) f b) Q E s:=by
 obtain⟨mA,O,r,_,_,_⟩:=Bz I.az e
 obtain⟨u,hu,ru⟩:=fG.some_of (v:=v) (o:=mA f) (by rw[<-l];exact r f)
 exact get_map I.dI O (c.get f) c.hd n hu (Jl ru) (h u _ (I.tok _) ru)
theorem S5{m:Str}{g:Addr}{pl:Sem Bool}{Q:Value×List Value->Shared->Prop}(I:Inv X pins σ H s)(e:H a=some (.ins C dx fs))(c:ir X.K C)(k:Meth X.K C m g)(l:fs.lookup m=none)
  (h:Q (.ref g,[.ref a]) s):wpAny (model X.prog X.w) A (getMethod (.ref a) m pl) Q E s:=by
 obtain⟨mA,O,r,_,_,_⟩:=Bz I.az e
 have hn:mA m=none:=fG.none_of (by rw[<-l];exact r m)
 exact SX I.dI O (c.get m) k.at_ k.fn hn h
theorem S6{y:V}{u:Value}{Q:Unit->Shared->Prop}(I:Inv X pins σ H s)(e:H a=some (.ins C dx fs))(c:ir X.K C)(n:dN X.K C f)(hl:fs.length<1000)(ry:RelV y u)
  (h:∀s',Inv X pins σ (upd H a (.ins C dx (bP f y fs))) s'->Q () s'):wpAny (model X.prog X.w) A (setAttr (.ref a) f u) Q E s:=by
 obtain⟨mA,O,r,wi,_,ho⟩:=Bz I.az e
 have hz:(fs.map (·.1)).length<=sizeLine:=by rw[aA,sizeLine_eq];omega
 refine SY I.dI O c.sa c.po n.S3 c.hd wi hz λh' O' sb=>h _ ?_
 have hd:∃o,h'.get? dx=some o:=let⟨o,_,_,e',_⟩:=O'.ns;⟨o,e'⟩
 refine I.write (x:=a) (e:=dx) (by rw[e];exact mT) (.inr ho) (λb q hb z=>(sb.2 b hb).trans z) hd ?_
 refine⟨by rw[ao O.ne];exact ho,?_,O.ne,O'.obj,_,O'.ns,λg=>?_,λg hg=>?_⟩
 ·have:=By f y fs;omega
 ·show fG ((bP f y fs).lookup g) (if g=f then some u else mA g)
  rw[x6]
  by_cases q:g=f
  ·rw[if_pos q,if_pos q];exact ry
  ·rw[if_neg q,if_neg q];exact r g
 ·by_cases q:g=f
  ·rw[q];exact(uN f y fs).1
  ·refine(uN f y fs).2 g (wi g λz=>hg ?_)
   show(if g=f then some u else mA g)=none
   rw[if_neg q];exact z
theorem Inv.made(I:Inv X pins σ H s):Inv X pins σ (upd (upd H s.heap.objs.size (.own (s.heap.objs.size+1))) (s.heap.objs.size+1) (.ins C s.heap.objs.size []))
  {s with heap:=(s.heap.push pN).push (rG C s.heap.objs.size)}:=by
 have e1:(s.heap.push pN).get? s.heap.objs.size=some pN:=dG s.heap rfl
 have e2:((s.heap.push pN).push (rG C s.heap.objs.size)).get? (s.heap.objs.size+1)=some (rG C s.heap.objs.size):=by
  have:=dG (s.heap.push pN) (o:=rG C s.heap.objs.size) rfl
  rwa [fD]at this
 have e3:(s.heap.push pN).Ns s.heap.objs.size (λ_=>none):=⟨pN,#[],_,e1,rfl,(λe he=>absurd he (by simp)),λ_=>rfl⟩
 have I1:=I.laid (a:=s.heap.objs.size) (o:=.own (s.heap.objs.size+1)) (h':=s.heap.push pN) (t':=s.toks) (λb u q=>bH _ q) (aT _) ⟨_,e1⟩
 refine I1.laid (a:=s.heap.objs.size+1) (o:=.ins C s.heap.objs.size []) (t':=s.toks) (λb u q=>bH _ q) (As (fD _ _)) ?_
 have ne:s.heap.objs.size≠s.heap.objs.size+1:=cV (pP _)
 refine⟨by rw[ao ne,aj],cw _,ne,e2,λ_=>none,(ahm e3).at λo q=>bH _ q,λ_=>mT,λy hy=>absurd rfl hy⟩
theorem Jm{prog:Program}{w:World}{env:Env}{e:Expr}{f:Str}{pos:Pos}{s:Shared}{Q:Value->Shared->Prop}(hb:attributeBase e f env (eval e env)=eval e env)
  (h:wpAny (model prog w) A (eval e env) (λo bA=>wpAny (model prog w) A (getAttr o f true) Q E bA) E s):wpAny (model prog w) A (eval (.Attribute e f pos) env) Q E s:=
 Attribute_any_ h (by rw[arm_eval_Attribute,hb])
end
def kW(K:ai)(ta:TE)(f:Str):TE:=λσ H Q=>ta σ H λx H1=>∃a C dx fs v,x=.ref a/\H1 a=some (.ins C dx fs)/\ir K C/\dN K C f/\fs.lookup f=some v/\Q v H1
def x8(K:ai)(ta tv:TE)(f:Str):TS:=λD σ H=>tv σ H λy H1=>ta σ H1 λx H2=>∃a C dx fs,x=.ref a/\H2 a=some (.ins C dx fs)/\ir K C/\dN K C f/\fs.length<1000/\
 D.nx σ (upd H2 a (.ins C dx (bP f y fs)))
section
variable{X:Cx}{o e value:Expr}{f:Str}{pos pos' uO:Pos}{ta tv:TE}
theorem aP(he:PE X e ta)(hb:attributeBase e f X.env (eval e X.env)=eval e X.env):PE X (.Attribute e f pos) (kW X.K ta f):=by
 intro pins s σ H Q I h
 refine Jm hb (aR (he pins s σ H _ I h) λu s1 ⟨x,H1,I1,rx,a,C,dx,fs,v,ex,ea,c,n,l,q⟩=>?_)
 subst ex
 obtain rfl:u=cD a:=rx
 exact S4 I1 ea c n l λu' s2 I2 ru=>⟨v,H1,I2,ru,q⟩
theorem eX(ha:PE X o ta)(hv:PE X value tv)(hs:swapsWith value (some (.Attribute o f pos')) pos.line X.env=pure false):PS X (.Assign [.Attribute o f pos'] value pos) (x8 X.K ta tv f):=by
 intro pins s σ H D I h
 refine plainObj_wpAny_Assign_Attribute (aR (hv pins s σ H _ I h) λu s1 ⟨y,H1,I1,ry,q⟩=>aR (ha pins s1 σ H1 _ I1 q) λov s2 ⟨x,H2,I2,rx,a,C,dx,fs,ex,ea,c,n,l,q2⟩=>?_) hs
 subst ex
 obtain rfl:ov=cD a:=rx
 exact S6 I2 ea c n l ry λs3 I3=>⟨σ,_,I3,q2⟩
end
section
variable{X:Cx}{pins:List (Addr×Obj)}{σ:St}{H:Hp}{s:Shared}{A:Around}{E:Value->Shared->Prop}{Q:Value->Shared->Prop}{c:Value}{b:Bool}
end
end L2
namespace L2
open PySem PySem.Spec PyProof.Rows
structure bc(k:Nat)(A:Around):Prop where
 hd:A.handled=none
 dp:A.depth+3*k+5<recursionLimit
 un:A.units+16*k+200<cLine
theorem bc.mono{j k:Nat}{A:Around}(r:bc k A)(h:j<=k):bc j A:=⟨r.hd,by have:=r.dp;omega,by have:=r.un;omega⟩
theorem bc.deeper{k:Nat}{A:Around}(r:bc (k+1) A)(env:Env):bc k (A.deeper env):=
 ⟨r.hd,by have:=r.dp;show A.depth+1+3*k+5<_;omega,by have:=r.un;show A.units+3+16*k+200<_;omega⟩
theorem S7{A:Around}{C:Addr}{us:List Value}{kw:List (Str×Value)}:(A.under (.builtin "type.__call__" ⟨.ref C::us,kw⟩)).depth=A.depth+1:=by
 first|rfl|simp[Qt,Code.weight,Code.isCreation,Code.isGuard,Code.isCaller,Code.frames,Qz,guardIds]
theorem S8{A:Around}{C:Addr}{us:List Value}{kw:List (Str×Value)}:(A.under (.builtin "type.__call__" ⟨.ref C::us,kw⟩)).units=A.units+1:=by
 first|rfl|simp[Qt,Code.cUnits,Code.frames,Qz]
theorem bc.make{k:Nat}{A:Around}(r:bc (k+1) A)(C:Addr)(us:List Value)(kw:List (Str×Value)):bc k (A.under (.builtin "type.__call__" ⟨.ref C::us,kw⟩)):=
 ⟨r.hd,by have:=r.dp;rw[S7];omega,by have:=r.un;rw[S8];omega⟩
theorem bc.depth{k:Nat}{A:Around}(r:bc k A):A.depth<recursionLimit:=by have:=r.dp;omega
theorem bc.units{k:Nat}{A:Around}(r:bc k A):A.units+64<cLine:=by have:=r.un;omega
def dR:TA:=λ_ H Q=>Q [] H
def bT(ta:TE)(tr:TA):TA:=λσ H Q=>ta σ H λx H1=>tr σ H1 λxs H2=>Q (x::xs) H2
section
variable{X:Cx}{e:Expr}{es:List Expr}{te:TE}{t:TA}{pos:Pos}
theorem af:PA X [] dR:=λ_ _ _ _ H Q I h=>Calls.spliced_nil ⟨[],H,I,.nil,h⟩
theorem ae(ha:PE X e te)(hr:PA X es t)(hs:starEach (e::es) X.env=(false,eval e X.env)::starEach es X.env:=by rfl):PA X (e::es) (bT te t):=by
 intro pos pins s σ H Q I h
 rw[hs]
 show wpAny _ _ (spliced ((false,eval e X.env)::backTo pos (starEach es X.env))) _ _ s
 refine Calls.spliced_cons (aR (ha pins s σ H _ I h) λu s1 ⟨x,H1,I1,r1,q1⟩=>?_)
 exact aR (hr pos pins s1 σ H1 _ I1 q1) λus s2 ⟨xs,H2,I2,r2,q2⟩=>⟨x::xs,H2,I2,.cons r1 r2,q2⟩
def BA(t:TA):TE:=λσ H Q=>t σ H λxs H1=>xs.length<=sizeLine/\∀p,H1 p=none->Q (.ref p) (upd H1 p (.tup xs))
def x9(t:TA):TE:=λσ H Q=>t σ H λxs H1=>xs.length<=sizeLine/\∀p,H1 p=none->Q (.ref p) (upd H1 p (.lst xs))
theorem l7{x1}(h:PA X es t):PE X (.Tuple es x1 pos) (BA t):=by
 intro pins s σ H Q I hq
 refine wpAny_Tuple_spliced (aR (h pos pins s σ H _ I hq) λus s1 ⟨xs,H1,I1,r,z,q⟩=>⟨by rw[<-r.length];exact z,?_⟩)
 have hf:H1 s1.heap.objs.size=none:=I1.az.fresh (aT _)
 refine⟨.ref s1.heap.objs.size,upd H1 s1.heap.objs.size (.tup xs),I1.laid (t':=s1.toks) (λb u e=>bH _ e) (aT _) ?_,rfl,q _ hf⟩
 exact⟨z,us,r,⟨_,dG _ rfl,rfl,_,rfl⟩⟩
theorem cy(h:PA X es t):PE X (.List es pos) (x9 t):=by
 intro pins s σ H Q I hq
 refine wpAny_List_spliced (aR (h pos pins s σ H _ I hq) λus s1 ⟨xs,H1,I1,r,z,q⟩=>⟨by rw[<-r.length];exact z,?_⟩)
 have hf:H1 s1.heap.objs.size=none:=I1.az.fresh (aT _)
 refine⟨.ref s1.heap.objs.size,upd H1 s1.heap.objs.size (.lst xs),I1.laid (t':=s1.toks) (λb u e=>bH _ e) (aT _) ?_,rfl,q _ hf⟩
 exact⟨z,us,0,r,dG _ rfl⟩
end
abbrev Sp:=List V->Hp->VK->XK->Prop
abbrev eP:=List Env->Hp->Shared->XK->Value->Shared->Prop
structure qm(P:Program)(w:World)(K:ai)(mg:Str->Option Value)(base:Heap)(A:Around)(outer:List Env)(s:Shared)(H:Hp):Prop where
 frames:A.frames=some outer
 mod:Mod K mg base
 bs:∀b o,base.get? b=some o->s.heap.get? b=some o/\H b=none
 jl:base.objs.size<=s.heap.objs.size
 gR:s.heap.FunFrames base outer
 kL:∀b∈il outer,H b=none
 az:cH P w H s.heap
 bare:AllBare s.gens
def CE(outer:List Env)(P:Program)(w:World)(H:Hp)(s:Shared)(Q:VK)(u:Value)(s':Shared):Prop:=
 ∃v H',s'.os=s.os/\AllBare s'.gens/\Un (il outer) [] H H' s.heap s'.heap/\cH P w H' s'.heap/\RelV v u/\Q v H'
def CR(CX:eP)(outer:List Env)(P:Program)(w:World)(H:Hp)(s:Shared)(Q:VK)(E:XK)(r:Result)(s':Shared):Prop:=
 match r with
 | .ok (.ret u)=>CE outer P w H s Q u s'
 | .ok _=>False
 | .error e=>CX outer H s E e s'
structure aK(P:Program)(w:World)(K:ai)(mg:Str->Option Value)(base:Heap)(CX:eP)(k:Nat)(f:Addr)(fd:FuncData)(ps:List Str)(sp:Sp):Prop where
 len:∀vs H Q E,sp vs H Q E->vs.length=ps.length
 run:∀(A:Around)(outer:List Env)(s:Shared)(H:Hp)(args:Args)(us:List Value)(vs:List V)(Q:VK)(E:XK),bc k A->qm P w K mg base A outer s H->BindsTo s fd args (ps.zip us)->Vals vs us->sp vs H Q E->
  codeAny (model P w) A (.call (.ref f) args) (CR CX outer P w H s Q E) s
theorem qm.make{P:Program}{w:World}{K:ai}{mg:Str->Option Value}{base:Heap}{A:Around}{outer:List Env}{s:Shared}{H:Hp}(e:qm P w K mg base A outer s H)(C:Addr)(us:List Value)(kw:List (Str×Value)):
  qm P w K mg base (A.under (.builtin "type.__call__" ⟨.ref C::us,kw⟩)) outer s H:=⟨by first|exact e.frames|(simpa[Qt,Code.envs,Qz,pushEnvs]using e.frames),e.mod,e.bs,e.jl,e.gR,e.kL,e.az,e.bare⟩
section
variable{X:Cx}{pins:List (Addr×Obj)}{σ:St}{H:Hp}{s s':Shared}
theorem Inv.BB(I:Inv X pins σ H s):qm X.prog X.w X.K X.mg X.base X.A X.stack s H:=
 ⟨I.ok.frames,I.ok.mod,I.bs,cp I.ok.jl I.sz,I.stack,I.A9,I.az,I.bare⟩
theorem Inv.after{Q:VK}{u:Value}(I:Inv X pins σ H s)(h:CE X.stack X.prog X.w H s Q u s'):EP X pins σ Q u s':=by
 obtain⟨v,H',os,bare,un,az,r,q⟩:=h
 obtain⟨hh,g,d,t,x_⟩:=s'
 obtain rfl:x_=s.os:=os
 exact⟨v,H',I.call (h':=hh) (g':=g) (d':=d) (t':=t) (ch:=[]) un az bare (λb z=>absurd z (by simp)),r,q⟩
end
def jn(sp:Sp)(fc:List V)(E:XK)(t:TA):TE:=λσ H Q=>t σ H λvs H1=>sp (vs++fc) H1 Q E
def ya(C:Addr)(m:Str)(sp:Sp)(fc:List V)(E:XK)(ta:TE)(t:TA):TE:=λσ H Q=>ta σ H λx H1=>∃a dx fs,x=.ref a/\H1 a=some (.ins C dx fs)/\fs.lookup m=none/\
 t σ H1 λvs H2=>sp (x::(vs++fc)) H2 Q E
def yb(C:Addr)(sp:Sp)(fc:List V)(E:XK)(t:TA):TE:=λσ H Q=>t σ H λvs H1=>∀x dx,H1 x=none->H1 dx=none->dx≠x->
 sp (.ref x::(vs++fc)) (upd (upd H1 dx (.own x)) x (.ins C dx [])) (λv H2=>v=.aO/\Q (.ref x) H2) E
def Binds(K:ai)(fd:FuncData)(ps:List Str)(ds:List Value):Prop:=
 ∀(s:Shared)(us:List Value),K.In s.heap->(us++ds).length=ps.length->BindsTo s fd ⟨us,[]⟩ (ps.zip (us++ds))
theorem Binds.all{K:ai}{fd:FuncData}{ps:List Str}(h:∀us:List Value,us.length=ps.length->bindArgs fd ⟨us,[]⟩=pure (ps.zip us)):Binds K fd ps []:=λs us _ hl=>by
 rw[gP]at hl⊢
 exact .of_eq (h us hl)
def Passes(CX:eP)(X:Cx)(E:XK):Prop:=∀(pins:List (Addr×Obj))(σ:St)(H:Hp)(s:Shared)(e:Value)(s':Shared),Inv X pins σ H s->CX X.stack H s E e s'->X.xe e s'
section
variable{X:Cx}{CX:eP}{k:Nat}{f C:Addr}{fd:FuncData}{ps:List Str}{sp:Sp}{fc:List V}{ds:List Value}{E:XK}{x m:Str}{p pos apos:Pos}{e o:Expr}{es:List Expr}{ta:TE}{t:TA}
theorem Jn{pins:List (Addr×Obj)}{σ:St}{H:Hp}{s:Shared}{Q:VK}{us:List Value}{vs:List V}(F:aK X.prog X.w X.K X.mg X.base CX k f fd ps sp)(hr:bc k X.A)(hb:Binds X.K fd ps ds)(hd:Vals fc ds)(hx:Passes CX X E)
  (I:Inv X pins σ H s) (r:Vals vs us) (h:sp (vs++fc) H Q E):wpAny (model X.prog X.w) X.A (call (.ref f) us) (EP X pins σ Q) X.xe s:=by
 have r2:Vals (vs++fc) (us++ds):=r.append hd
 have hl:(us++ds).length=ps.length:=by rw[<-r2.length];exact F.len _ _ _ _ h
 refine wpAny_call (codeAny_mono (F.run X.A X.stack s H ⟨us,[]⟩ (us++ds) (vs++fc) Q E hr I.BB (hb s us I.dI hl) r2 h) λr s' hq=>?_)
 cases r with
 |error e=>exact hx pins σ H s e s' I hq
 |ok fl=>
  cases fl with
  |ret u=>exact I.after hq
  |next=>exact fE hq
  |brk=>exact fE hq
  |cont=>exact fE hq
theorem S9(F:aK X.prog X.w X.K X.mg X.base CX k f fd ps sp)(hr:bc k X.A)(hg:Gl X x)(hm:X.mg x=some (.ref f))(hk:ib X.K (.ref f)=true)(hb:Binds X.K fd ps ds)(hd:Vals fc ds)(hx:Passes CX X E)
  (ha:PA X (e::es) t) (fN:(x==("__debug__":Str))=false:=by decide) (he:starEach (e::es) X.env=(false,eval e X.env)::starEach es X.env:=by rfl) (dE:(backTo pos (starEach es X.env)).any (·.1)=false:=by rfl):
  PE X (.Call (.Name x p) (e::es) [] pos) (jn sp fc E t):=by
 intro pins s σ H Q I h
 refine wpAny_Call_Name_kw (sj I hg hm ?_ fN)
 refine GB (h₀:=X.base) I.ok.mod.qe hk (aR (ha pos pins s σ H _ I h) λus s1 ⟨vs,H1,I1,r,q⟩=>⟨I1.dI,?_⟩) he dE
 exact Jn F hr hb hd hx I1 r q
theorem S_{pl:Sem Bool}(he:PE X o ta)(c:ir X.K C)(hm:Meth X.K C m f)(F:aK X.prog X.w X.K X.mg X.base CX k f fd ps sp)(hr:bc k X.A)(hb:Binds X.K fd ps ds)(hd:Vals fc ds)(hx:Passes CX X E)(ha:PA X (e::es) t)
  (d_:starEach (e::es) X.env=(false,eval e X.env)::starEach es X.env:=by rfl) (dE:(backTo pos (starEach es X.env)).any (·.1)=false:=by rfl)
  (ht:eval (.Call (.Attribute o m apos) (e::es) [] pos) X.env=(do
   let ov<-eval o X.env
   standAt apos.atName
   let(f,first)<-holding [ov] (getMethod ov m pl)
   callWith pos f first (backTo pos (starEach (e::es) X.env)) (backToKw pos (keywordEach [] X.env))):=by rfl):
  PE X (.Call (.Attribute o m apos) (e::es) [] pos) (ya C m sp fc E ta t):=by
 intro pins s σ H Q I h
 refine PySem.W.methodCall_KW (pl:=pl) (aR (he pins s σ H _ I h) λu s1 ⟨x,H1,I1,rx,a,dx,fs,ex,ea,l,q⟩=>?_) ht
 subst ex
 obtain rfl:u=cD a:=rx
 refine S5 I1 ea c hm l ?_
 refine GB (first:=[.ref a]) (h₀:=X.base) I.ok.mod.qe hm.kp (aR (ha pos pins s1 σ H1 _ I1 q) λus s2 ⟨vs,H2,I2,r,q2⟩=>⟨I2.dI,?_⟩) d_ dE
 exact Jn (us:=.ref a::us) (vs:=.ref a::vs) F hr hb hd hx I2 (.cons rfl r) q2
structure Mk(K:ai)(C f:Addr):Prop where
 makes:rF K C=true
 init:cQ K (.ref C) "__init__"=some (some (.ref f))
 fn:Ao K (.ref f)=true
 kp:ib K (.ref C)=true
theorem Jo{pins:List (Addr×Obj)}{σ:St}{H:Hp}{s:Shared}{Q:VK}{us:List Value}{vs:List V}(M:Mk X.K C f)(F:aK X.prog X.w X.K X.mg X.base CX k f fd ps sp)(hr:bc (k+1) X.A)(hb:Binds X.K fd ps ds)(hd:Vals fc ds)
  (hx:Passes CX X E) (I:Inv X pins σ H s) (r:Vals vs us)
  (h:∀x dx,H x=none->H dx=none->dx≠x->sp (.ref x::(vs++fc)) (upd (upd H dx (.own x)) x (.ins C dx [])) (λv H2=>v=.aO/\Q (.ref x) H2) E):
  wpAny (model X.prog X.w) X.A (call (.ref C) us) (EP X pins σ Q) X.xe s:=by
 have hq:=h (s.heap.objs.size+1) s.heap.objs.size (I.az.fresh (mS _)) (I.az.fresh (aT _)) (cV (pP _))
 have I2:=Inv.made (C:=C) I
 have r2:Vals (V.ref (s.heap.objs.size+1)::(vs++fc)) (cD (s.heap.objs.size+1)::(us++ds)):=.cons rfl (r.append hd)
 have hl:(cD (s.heap.objs.size+1)::us++ds).length=ps.length:=by
  have e:=r2.length
  rw[F.len _ _ _ _ hq]at e
  exact e.symm
 refine wpAny_call (S2 (f:=f) I.dI M.makes M.init (beq_iff_eq.mp M.fn) (codeAny_mono (F.run _ X.stack _ _ ⟨cD (s.heap.objs.size+1)::us,[]⟩ (cD (s.heap.objs.size+1)::(us++ds)) _ _ E (hr.make C us [])
  (I2.BB.make C us []) (hb _ (cD (s.heap.objs.size+1)::us) I2.dI hl) r2 hq) λr s' kX=>?_))
 cases r with
 |error e=>exact hx pins σ _ _ e s' I2 kX
 |ok fl=>
  cases fl with
  |ret u=>
   obtain⟨v,H',I3,rv,ev,q3⟩:=I2.after kX
   subst ev
   exact⟨rv,⟨V.ref (s.heap.objs.size+1),H',I3,rfl,q3⟩⟩
  |next=>exact fE kX
  |brk=>exact fE kX
  |cont=>exact fE kX
theorem Ta(M:Mk X.K C f)(F:aK X.prog X.w X.K X.mg X.base CX k f fd ps sp)(hr:bc (k+1) X.A)(hg:Gl X x)(hm:X.mg x=some (.ref C))(hb:Binds X.K fd ps ds)(hd:Vals fc ds)(hx:Passes CX X E)
  (ha:PA X (e::es) t) (fN:(x==("__debug__":Str))=false:=by decide) (he:starEach (e::es) X.env=(false,eval e X.env)::starEach es X.env:=by rfl) (dE:(backTo pos (starEach es X.env)).any (·.1)=false:=by rfl):
  PE X (.Call (.Name x p) (e::es) [] pos) (yb C sp fc E t):=by
 intro pins s σ H Q I h
 refine wpAny_Call_Name_kw (sj I hg hm ?_ fN)
 refine GB (h₀:=X.base) I.ok.mod.qe M.kp (aR (ha pos pins s σ H _ I h) λus s1 ⟨vs,H1,I1,r,q⟩=>⟨I1.dI,?_⟩) he dE
 exact Jo M F hr hb hd hx I1 r q
theorem Tb(M:Mk X.K C f)(F:aK X.prog X.w X.K X.mg X.base CX k f fd ps sp)(hr:bc (k+1) X.A)(hg:Gl X x)(hm:X.mg x=some (.ref C))(hb:Binds X.K fd ps ds)(hd:Vals fc ds)(hx:Passes CX X E)
  (fN:(x==("__debug__":Str))=false:=by decide):PE X (.Call (.Name x p) [] [] pos) (yb C sp fc E dR):=by
 intro pins s σ H Q I h
 refine wpAny_Call_Name_kw (sj I hg hm ?_ fN)
 exact PySem.W.callWith_K0 I.dI M.kp (Jo (us:=[]) M F hr hb hd hx I .nil h)
end
section
variable{X:Cx}{CX:eP}{k:Nat}{f C:Addr}{fd:FuncData}{ps ks:List Str}{sp:Sp}{E:XK}{x m:Str}{p pos apos ahI:Pos}{e o:Expr}{es:List Expr}{kws:List Keyword}{te ta:TE}{t tk:TA}{nm:Option Str}
variable{g:List Value->List Value->List Value}{gV:List V->List V->List V}
end
structure aW(N P:List Str)(sc:Scope):Prop where
 kind:sc.kind=.function
 co:sc.isCoroutine=false
 gen:sc.isGenerator=false
 nd:N.Nodup
 pre:N.take P.length=P
 par:∀x∈P,sc.names.lookup x=some .local\/sc.names.lookup x=some .cell
 Tc:∀y∈sc.names,y.2≠.free
theorem Jp{kindOf:Str->Option NameKind}{x:Str}:∀{binds:List (Str×Value)}{m:Str->Option Value},(∀v,(x,v)∉binds)->bindL kindOf binds m x=m x
 |[],_,_=>rfl
 |(n,v)::r,m,h=>by
  unfold bindL
  rw[Jp λw hw=>h w (bR _ hw)]
  split
  ·have:x≠n:=by rintro rfl;exact h v bY
   simp[this]
  ·rfl
theorem Jq{kindOf:Str->Option NameKind}{x:Str}:∀{binds:List (Str×Value)}{m:Str->Option Value},(∀v,(x,v)∉binds)->bindC kindOf binds m x=m x
 |[],_,_=>rfl
 |(n,v)::r,m,h=>by
  unfold bindC
  rw[Jq λw hw=>h w (bR _ hw)]
  split
  ·rfl
  ·have:x≠n:=by rintro rfl;exact h v bY
   simp[this]
theorem Jr{kindOf:Str->Option NameKind}{x:Str}{v:Value}:∀{P:List Str}{vs:List Value}{i:Nat}{m:Str->Option Value},P.Nodup->P[i]? =some x->vs[i]? =some v->kindOf x=some .local->
  bindL kindOf (P.zip vs) m x=some v
 |[],_,_,_,_,h,_,_=>by simp at h
 |_::_,[],_,_,_,_,h,_=>by simp at h
 |p::P,w::vs,0,m,nd,h1,h2,hk=>by
  simp at h1 h2;subst h1;subst h2
  show bindL kindOf ((p,w)::P.zip vs) m p=_
  unfold bindL
  rw[Jp λv hv=>(wV.mp nd).1 (Qj hv).1,if_pos hk]
  simp
 |p::P,w::vs,i+1,m,nd,h1,h2,hk=>by
  show bindL kindOf ((p,w)::P.zip vs) m x=_
  unfold bindL
  exact Jr (i:=i) (wV.mp nd).2 (by simpa using h1) (by simpa using h2) hk
theorem Js{kindOf:Str->Option NameKind}{x:Str}{v:Value}:∀{P:List Str}{vs:List Value}{i:Nat}{m:Str->Option Value},P.Nodup->P[i]? =some x->vs[i]? =some v->kindOf x≠some .local->
  bindC kindOf (P.zip vs) m x=some v
 |[],_,_,_,_,h,_,_=>by simp at h
 |_::_,[],_,_,_,_,h,_=>by simp at h
 |p::P,w::vs,0,m,nd,h1,h2,hk=>by
  simp at h1 h2;subst h1;subst h2
  show bindC kindOf ((p,w)::P.zip vs) m p=_
  unfold bindC
  rw[Jq λv hv=>(wV.mp nd).1 (Qj hv).1,if_neg hk]
  simp
 |p::P,w::vs,i+1,m,nd,h1,h2,hk=>by
  show bindC kindOf ((p,w)::P.zip vs) m x=_
  unfold bindC
  exact Js (i:=i) (wV.mp nd).2 (by simpa using h1) (by simpa using h2) hk
def start(N:List Str)(vs:List V):St:=vs.map some++eO (N.length-vs.length) none
def fT(CX:eP)(P:Program)(w:World)(K:ai)(mg:Str->Option Value)(base:Heap)(N:List Str)(qual:Str)(scope:Scope)(f:Addr)(cd:Value)(A:Around)(outer:List Env)(s:Shared)(H:Hp)(E:XK):Cx where
 prog:=P
 w:=w
 K:=K
 mg:=mg
 base:=base
 A:=A.deeper (envOfC qual scope s.heap.objs.size f cd)
 N:=N
 dH:=s
 uD:=H
 env:=envOfC qual scope s.heap.objs.size f cd
 outer:=outer
 stack:=envOfC qual scope s.heap.objs.size f cd::outer
 ex:=[]
 calm:=true
 fn:=λ_=>true
 pn:=[]
 xe:=λe s'=>wpAny (model P w) (A.deeper (envOfC qual scope s.heap.objs.size f cd)) (leaving (envOfC qual scope s.heap.objs.size f cd) e) (λ_ kY=>CX outer H s E e kY) (λe' kY=>CX outer H s E e' kY) s'
theorem Jt{sc:Scope}{n:Nat}{x:Str}(h:sc.names.lookup x=some .cell):∃c,(cellsFrom n sc.names []).lookup x=some c:=by
 have q:=aha sc.names n [] (.inl h)
 exact ag6.mp q
theorem Td{CX:eP}{P:Program}{w:World}{K:ai}{mg:Str->Option Value}{base:Heap}{N ps:List Str}{qual:Str}{scope:Scope}{f:Addr}{cd:Value}{A:Around}{outer:List Env}{s s1:Shared}{H:Hp}{E:XK}{us:List Value}{vs:List V}
  (S:aW N ps scope) (hd:A.handled=none) (e0:qm P w K mg base A outer s H) (hl:vs.length=ps.length) (r:Vals vs us)
  (x:InCallC s s.heap.objs.size (bindL (envOfC qual scope s.heap.objs.size f cd).kindOf (ps.zip us) λ_=>none) (cellsFrom (s.heap.objs.size+1) scope.names []) (bindC (envOfC qual scope s.heap.objs.size f cd).kindOf (ps.zip us) λ_=>none) s1):
  Inv (fT CX P w K mg base N qual scope f cd A outer s H E) [] (start N vs) H s1:=by
 have dE:ps.length<=N.length:=by have:=congrArg w_ S.pre;rw[fC]at this;omega
 obtain⟨h1,tk,rfl,hk⟩:=x.done
 have sC:∀b:Addr,b∉(fT CX P w K mg base N qual scope f cd A outer s H E).ex:=λb z=>absurd (show b∈([]:List Addr)from z) (by simp)
 refine⟨⟨e0.mod,S.kind,rfl,rfl,aT _,λy z c h1 h2=>?_,λy hy=>?_,λy c _ h=>?_,λ_=>hd,Around.frames_deeper e0.frames,.inr ⟨rfl,rfl⟩,λb z=>absurd z (sC b),e0.bs,e0.jl,λb _ _=>sC b,λb z=>absurd z (sC b),e0.gR,e0.kL⟩,
  rfl,e0.bare,Un.kept hk,⟨_,x.toInCall.ns,λi y v h1 h2 h3=>?_⟩,λy c h=>⟨_,x.cell y c h⟩,e0.az.fresh (aT _),λy c h=>?_,λp hp=>absurd (show p∈([]:List (Addr×Obj))from hp) (by simp),e0.az.kept hk,?_⟩
 ·exact name_of_addr x.apart (jf h1) (jf h2)
 ·have hy:scope.names.lookup y=some .cell\/scope.names.lookup y=some .free:=hy
  rcases hy with hy|hy
  ·exact Jt hy
  ·exact absurd rfl (S.Tc _ (jf hy))
 ·exact uk (x.above y c (jf h))
 ·have hi:i<vs.length:=by
   unfold start at h2
   by_cases hi:i<vs.length
   ·exact hi
   ·rw[ag8 (by simpa using hi)]at h2
    rw[Pz]at h2
    split at h2<;>cases h2
  have ha:vs[i]? =some v:=by
   unfold start at h2
   rw[rz (by simpa using hi),ck]at h2
   cases e:vs[i]? with
   |none=>rw[e]at h2;cases h2
   |some a=>rw[e]at h2;cases h2;rfl
  obtain⟨u,hu,rv⟩:=r.get ha
  have hp:ps[i]? =some y:=by
   rw[<-S.pre,List.getElem?_take_of_lt (by omega)];exact h1
  have Ju:ps.Nodup:=by rw[<-S.pre];exact S.nd.sublist (List.take_sublist _ _)
  refine⟨u,rv,?_⟩
  rcases S.par y (bL hp)with k|k
  ·exact .inl ⟨k,Jr Ju hp hu k⟩
  ·obtain⟨c,e⟩:=Jt (n:=s.heap.objs.size+1) k
   refine .inr ⟨.inl k,c,e,?_⟩
   have q:=x.cell y c e
   rw[Js Ju hp hu (by show scope.names.lookup y≠_;rw[k];decide)]at q
   exact q
 ·exact e0.az.fresh (uk (x.above y c (jf h)))
 ·unfold start
  show _=N.length
  rw[bf,aA,List.length_replicate]
  omega
theorem Jv{CX:eP}{P:Program}{w:World}{K:ai}{mg:Str->Option Value}{base:Heap}{k:Nat}{f:Addr}{name qual:Str}{params:Arguments}{body:List Stmt}{scope:Scope}{dV kV doc pm aC ct oc:Value}{an od:Option Addr}
  {fj:Array (Option Value)} {N ps:List Str} {sp:Sp} (lk:K.lookup f=some ⟨oc,od,.func (lT name qual params body scope dV kV doc pm an aC ct),fj⟩) (j0:wW K aC qual=true) (S:aW N ps scope)
  (len:∀vs H Q E,sp vs H Q E->vs.length=ps.length)
  (nh:∀(A:Around)(outer:List Env)(s:Shared)(H:Hp)(vs:List V)(Q:VK)(E:XK),bc k (A.deeper (envOfC qual scope s.heap.objs.size f aC))->sp vs H Q E->
   ∃t,gh (fT CX P w K mg base N qual scope f aC A outer s H E) body t/\t {nx:=λ_ H'=>Q .aO H',rt:=Q} (start N vs) H):
  aK P w K mg base CX (k+1) f (lT name qual params body scope dV kV doc pm an aC ct) ps sp:=by
 refine⟨len,λA outer s H args us vs Q E hr e0 hb r eQ=>?_⟩
 have hl:=len _ _ _ _ eQ
 have KX:K.In s.heap:=e0.mod.qe.keeps λb o e=>(e0.bs b o e).1
 have lim:s.heap.NoLimit:=e0.mod.nolimit.keeps λb o e=>(e0.bs b o e).1
 have Te:∀y∈ps.zip us,scope.names.lookup y.1=some .local\/(scope.names.lookup y.1=some .cell/\((cellsFrom (s.heap.objs.size+1) scope.names []).lookup y.1).isSome=true):=λ⟨n,v⟩ hy=>by
  rcases S.par n (Qj hy).1 with q|q
  ·exact .inl q
  ·exact .inr ⟨q,aha _ _ _ (.inl q)⟩
 refine codeAny_call_function hr.depth (KX _ _ lk) rfl S.co S.gen rfl (PySem.W.codeRec_of KX j0) (hb _ _ _ _ ?_)
 refine wpAny_newFunctionEnv_cells S.kind Te λenv he s1 x=>?_
 subst he
 refine⟨lim.keeps x.toInCall.keep,codeAny_func ?_⟩
 obtain⟨t,ht,hq⟩:=nh A outer s H vs Q E (hr.deeper _) eQ
 have I:Inv (fT CX P w K mg base N qual scope f aC A outer s H E) [] (start N vs) H s1:=Td S hr.hd e0 hl r x
 refine wpAny_mono (ht [] s1 (start N vs) H _ I hq) (λfl s' hs=>?_) λe s' hs=>hs
 have fin:∀{σ':St}{H':Hp}{v:V}{u:Value},Inv (fT CX P w K mg base N qual scope f aC A outer s H E) [] σ' H' s'->RelV v u->Q v H'->CE outer P w H s Q u s':=
  λ{σ' H' v u} J rv q=>⟨v,H',J.os,J.bare,J.base,J.az,rv,q⟩
 cases fl with
 |ret u=>
  obtain⟨v,σ',H',J,rv,q⟩:=hs
  exact fin J rv q
 |next=>
  obtain⟨σ',H',J,q⟩:=hs
  exact fin (v:=V.aO) (u:=d7) J rfl q
 |brk=>
  obtain⟨_,_,_,q⟩:=hs
  exact fE q
 |cont=>
  obtain⟨_,_,_,q⟩:=hs
  exact fE q
end L2
namespace L2
open PySem PySem.Spec PyProof.Rows
section
variable{X:Cx}{x:Str}{p pos:Pos}{e:Expr}{es:List Expr}{t:TA}{id T:String}{r:List V->Hp->VK->Prop}
def yc(r:List V->Hp->VK->Prop)(t:TA):TE:=λσ H Q=>t σ H λvs H1=>r vs H1 Q
theorem bK(hc:gT X (.builtin id) r)(hg:Gl X x)(hm:X.mg x=none)(hv:bootBuiltins x=some (.builtin id))(ha:PA X (e::es) t)(hn:x≠"__name__":=by decide)(fN:(x==("__debug__":Str))=false:=by decide)
  (he:starEach (e::es) X.env=(false,eval e X.env)::starEach es X.env:=by rfl) (dE:(backTo pos (starEach es X.env)).any (·.1)=false:=by rfl):PE X (.Call (.Name x p) (e::es) [] pos) (yc r t):=by
 intro pins s σ H Q I h
 refine wpAny_Call_Name_kw (xK I hg hm hv ?_ hn fN)
 exact PyProof.Rows.callWith_builtin1 (aR (ha pos pins s σ H _ I h) λus s1 ⟨vs,H1,I1,r1,q1⟩=>hc pins s1 σ H1 vs us Q I1 r1 q1) he dE
theorem iu(hc:gT X (.type T) r)(hg:Gl X x)(hm:X.mg x=none)(hv:bootBuiltins x=some (.type T))(ha:PA X (e::es) t)(hn:x≠"__name__":=by decide)(fN:(x==("__debug__":Str))=false:=by decide)
  (he:starEach (e::es) X.env=(false,eval e X.env)::starEach es X.env:=by rfl) (dE:(backTo pos (starEach es X.env)).any (·.1)=false:=by rfl):PE X (.Call (.Name x p) (e::es) [] pos) (yc r t):=by
 intro pins s σ H Q I h
 refine wpAny_Call_Name_kw (xK I hg hm hv ?_ hn fN)
 exact Pr (aR (ha pos pins s σ H _ I h) λus s1 ⟨vs,H1,I1,r1,q1⟩=>hc pins s1 σ H1 vs us Q I1 r1 q1) he dE
end
end L2
namespace HT
open PySem PyProof.Rows
section
open PySem.SeqAt
open PySem.AutoSeq1 (wpAny_loadPart')
open PySem.MeetsSeq PySem.MeetsSeq2 PySem.MeetsSeq3
end
section
variable{prog:Program}{w:World}{A:Around}{E:Value->Shared->Prop}{s:Shared}
theorem Tf{t b:Addr}{vs ws:List Value}{Q:Value->Shared->Prop}(ht:IsTup s.heap t vs.toArray)(hb:IsTup s.heap b ws.toArray)(hv:vs≠[])
  (h1:ws=[]->Q (.ref t) s) (h2:ws≠[]->Q (.ref s.heap.objs.size) {s with heap:=s.heap.push {cls:=.type "tuple",data:=.seq (vs++ws).toArray}})
  (hsz:vs.length+ws.length<=sizeLine):wpAny (model prog w) A (binaryOp .Add (.ref t) (.ref b)) Q E s:=by
 obtain⟨⟨cls,dd,data,sl⟩,ho,hc,n,hd⟩:=id ht
 obtain⟨⟨ahK,Jw,data2,Jx⟩,uP,qo,n2,hd2⟩:=id hb
 simp only at hc hd qo hd2
 subst hc hd qo hd2
 have e:vs.toArray++ws.toArray=(vs++ws).toArray:=by simp
 by_cases hw:ws=[]
 ·exact concat_meets ⟨_,ho,rfl⟩ ⟨_,uP,rfl⟩ noFill_tuple_add seq_tuple_add ahb ag5 (ag0 _ _)
   (tuple_addW1 t b vs.toArray ws.toArray n n2 dd Jw sl Jx (by simpa using hv) (by simp[hw])) ⟨ho,uP,h1 hw⟩
 ·refine concat_meets ⟨_,ho,rfl⟩ ⟨_,uP,rfl⟩ noFill_tuple_add seq_tuple_add ahb ag5 (ag0 _ _)
   (tuple_addW2 t b vs.toArray ws.toArray n n2 dd Jw sl Jx (by simpa using hv) (by simpa using hw) (by rw[cI,cI];exact hsz)) ⟨ho,uP,?_⟩
  rw[e]
  exact h2 hw
def gj(n d:Nat):Option Int->Nat
 |none=>d
 |some v=>if v<0 then(v+(n:Int)).toNat else min v.toNat n
theorem qp(n d k:Nat):gj n d (some (k:Int))=min k n:=by
 show(if(k:Int)<0 then((k:Int)+(n:Int)).toNat else min (k:Int).toNat n)=min k n
 rw[if_neg (by omega),Ah]
end
end HT
namespace L2
open PySem PySem.Spec PyProof.Rows
abbrev TO:=St->Hp->(Option Int->Hp->Prop)->Prop
def PO(X:Cx)(e:Option Expr)(t:TO):Prop:=
 ∀(pins:List (Addr×Obj))(s:Shared)(σ:St)(H:Hp)(Q:Option Int->Hp->Prop),Inv X pins σ H s->t σ H Q->
  wpAny (model X.prog X.w) X.A (evalPart e X.env) (λu s'=>∃o H',Inv X pins σ H' s'/\IsPart u o/\Q o H') X.xe s
def Tg:TO:=λ_ H Q=>Q none H
def Th(t:TE):TO:=λσ H Q=>t σ H λx H1=>∃i,x=.int i/\Q (some i) H1
section
variable{X:Cx}{e:Expr}{te:TE}{lo hi:Option Expr}{tl th:TO}{pos p2:Pos}
theorem Ti:PO X none Tg:=by
 intro pins s σ H Q I h
 rw[evalPart_none]
 exact wpAny_pure ⟨none,H,I,.none,h⟩
theorem ni(h:PE X e te):PO X (some e) (Th te):=by
 intro pins s σ H Q I hw
 rw[evalPart_some]
 refine aR (h pins s σ H _ I hw) λu s1 ⟨x,H1,I1,r1,q1⟩=>?_
 obtain⟨i,rfl,q⟩:=q1
 obtain⟨t,rfl⟩:=r1
 exact⟨some i,H1,I1,.int i t,q⟩
def Jy(X:Cx)(r:V->Option Int->Option Int->Hp->VK->Prop):Prop:=
 ∀(pins:List (Addr×Obj))(s:Shared)(σ:St)(H:Hp)(x:V)(v vl vu:Value)(lo hi:Option Int)(sl:Addr)(Q:VK),Inv X pins σ H s->RelV x v->s.heap.IsSliceOf sl vl vu .none->IsPart vl lo->IsPart vu hi->r x lo hi H Q->
  ∃T id,typeLookup (.type T) "__getitem__"=pure (some (.builtin id))/\s.TypeIs v T/\wpAny (model X.prog X.w) X.A (getItem v (.ref sl)) (EP X pins σ Q) X.xe s
def Tj(r:V->Option Int->Option Int->Hp->VK->Prop)(te:TE)(tl th:TO):TE:=λσ H Q=>te σ H λx H1=>tl σ H1 λl H2=>th σ H2 λu H3=>r x l u H3 Q
theorem uQ{r:V->Option Int->Option Int->Hp->VK->Prop}(hr:Jy X r)(he:PE X e te)(hl:PO X lo tl)(hu:PO X hi th):PE X (.Subscript e (.Slice lo hi none p2) pos) (Tj r te tl th):=by
 intro pins s σ H Q I h
 refine Subscript_ (aR (he pins s σ H _ I h) λv s1 ⟨x,H1,I1,r1,q1⟩=>?_)
 refine wpAny_Slice (aR (hl pins s1 σ H1 _ I1 q1) λvl s2 ⟨l,H2,I2,pl,q2⟩=>aR (hu pins s2 σ H2 _ I2 q2) λvu s3 ⟨u,H3,I3,pu,q3⟩=>?_)
 rw[evalPart_none]
 refine wpAny_pure ?_
 have I4:Inv X pins σ H3 {s3 with heap:=s3.heap.push {cls:=.type "slice",data:=.fields #[vl,vu,.none]}}:=I3.kept (t':=s3.toks) λb ob q=>bH _ q
 obtain⟨T,id,hT,ht,hg⟩:=hr pins {s3 with heap:=s3.heap.push {cls:=.type "slice",data:=.fields #[vl,vu,.none]}} σ H3 x v vl vu l u s3.heap.objs.size Q I4 r1 (Heap.IsSliceOf.new ..) pl pu q3
 show wpAny (model X.prog X.w) X.A (subscriptTail e (.Slice lo hi none p2) v (.ref s3.heap.objs.size)) (EP X pins σ Q) X.xe {s3 with heap:=s3.heap.push {cls:=.type "slice",data:=.fields #[vl,vu,.none]}}
 exact tail_any (ops:=[.ref s3.heap.objs.size,v]) ht hT hg (by with_unfolding_all rfl)
def jo(xs:List V)(lo hi:Option Int):List V:=(xs.drop (HT.gj xs.length 0 lo)).take (HT.gj xs.length xs.length hi-HT.gj xs.length 0 lo)
theorem Tn(xs:List V)(lo hi:Option Int):(jo xs lo hi).length<=xs.length:=by
 unfold jo
 rw[fC,lQ]
 omega
def To(K:ai):R2:=λx y H Q=>∃a b xs ys,x=.ref a/\y=.ref b/\aB K H a xs/\aB K H b ys/\xs≠[]/\xs.length+ys.length<=sizeLine/\
 (ys=[]->Q (.ref a) H)/\(ys≠[]->∀p,H p=none->Q (.ref p) (upd H p (.tup (xs++ys))))
theorem Vals.BC{xs:List V}{us:List Value}(r:Vals xs us):us=[]↔xs=[]:=by
 cases r with
 |nil=>simp
 |cons _ _=>simp
theorem Tp:eh X (binaryOp .Add) (To X.K):=by
 intro pins s σ H x y v u Q I rx ry h
 obtain⟨a,b,xs,ys,rfl,rfl,ha,hb,hx,hz,q1,q2⟩:=h
 cases rx
 cases ry
 obtain⟨ak,r1,p1,_⟩:=I.tuple ha
 obtain⟨jq,r2,p2,_⟩:=I.tuple hb
 refine HT.Tf p1 p2 (λz=>hx (r1.BC.mp z)) (λz=>⟨.ref a,H,I,rfl,q1 (r2.BC.mp z)⟩) (λz=>?_) (by rw[<-r1.length,<-r2.length];exact hz)
 refine⟨.ref s.heap.objs.size,_,I.laid (t':=s.toks) (o:=.tup (xs++ys)) (λb ob q=>bH _ q) (aT _) ?_,rfl,q2 (λw=>z (r2.BC.mpr w)) _ (I.az.fresh (aT _))⟩
 exact⟨by rw[bf];exact hz,_,r1.append r2,IsTup.new _ _⟩
end
end L2
namespace L2
open PySem PySem.Spec PyProof.Rows
def cx(n:Nat)(i:Int):Option Nat:=if 0<=i then(if i<n then some i.toNat else none)else if-(n:Int)<=i then some (i+n).toNat else none
def gp{α:Type}(xs:List α)(i:Int):Option α:=(cx xs.length i).bind λj=>xs[j]?
theorem Jz{n:Nat}{i:Int}{j:Nat}(h:cx n i=some j):seqIndex? i n=some j/\j<n/\ -(n:Int)<=i/\i<n:=by
 unfold cx at h
 by_cases h0:0<=i
 ·rw[if_pos h0]at h
  by_cases h1:i<n
  ·rw[if_pos h1]at h
   have e:i.toNat=j:=cZ h
   exact⟨by rw[seqIndex_of h0 h1,e],by omega,by omega,h1⟩
  ·rw[if_neg h1]at h;cases h
 ·rw[if_neg h0]at h
  by_cases h1: -(n:Int)<=i
  ·rw[if_pos h1]at h
   have e:(i+n).toNat=j:=cZ h
   exact⟨by rw[seqIndex_neg (by omega) h1,e],by omega,h1,by omega⟩
  ·rw[if_neg h1]at h;cases h
theorem JA{α:Type}{xs:List α}{i:Int}{v:α}(h:gp xs i=some v):∃j,seqIndex? i xs.length=some j/\xs[j]? =some v/\j<xs.length/\ -(xs.length:Int)<=i/\i<xs.length:=by
 unfold gp at h
 cases e:cx xs.length i with
 |none=>rw[e]at h;cases h
 |some j=>
  rw[e]at h
  obtain⟨h1,h2,h3,h4⟩:=Jz e
  exact⟨j,h1,h,h2,h3,h4⟩
theorem du{α:Type}{xs:List α}{j:Nat}{v:α}(h:xs[j]? =some v):gp xs (j:Int)=some v:=by
 have hj:j<xs.length:=(bE.mp h).1
 have e:cx xs.length (j:Int)=some j:=by
  unfold cx
  rw[if_pos (by omega),if_pos (by omega)];simp
 unfold gp;rw[e];exact h
theorem BD{α:Type}(xs:List α)(v:α):gp (xs++[v]) (-1)=some v:=by
 have hl:(xs++[v]).length=xs.length+1:=by simp
 have e:cx (xs++[v]).length (-1)=some xs.length:=by
  unfold cx
  rw[hl,if_neg (by decide),if_pos (by omega)]
  congr 1
  omega
 unfold gp
 rw[e]
 show(xs++[v])[xs.length]? =some v
 simp
def Tq(b:Expr):Prop:=∀o i,subscripted b false o i=operate [o,i] (getItem o i)
def uR(X:Cx)(r:R2):Prop:=
 ∀(value slice:Expr)(pins:List (Addr×Obj))(s:Shared)(σ:St)(H:Hp)(x y:V)(v u:Value)(Q:VK),Inv X pins σ H s->RelV x v->RelV y u->r x y H Q->
  subscripted slice false v u=operate [v,u] (getItem v u)->wpAny (model X.prog X.w) X.A (subscriptTail value slice v u) (EP X pins σ Q) X.xe s
def uS(X:Cx)(id:String)(r:V->List V->Hp->VK->Prop):Prop:=
 ∀(pins:List (Addr×Obj))(s:Shared)(σ:St)(H:Hp)(x:V)(xs:List V)(v:Value)(us:List Value)(Q:VK),Inv X pins σ H s->RelV x v->Vals xs us->r x xs H Q->
  wpAny (model X.prog X.w) X.A (call (.builtin id) (v::us)) (EP X pins σ Q) X.xe s
section
variable{X:Cx}{a b:Expr}{ta tb:TE}{pos:Pos}
theorem aG{r:R2}(hr:uR X r)(ha:PE X a ta)(hb:PE X b tb)(hs:Tq b):PE X (.Subscript a b pos) (kS r ta tb):=by
 intro pins s σ H Q I h
 exact Subscript_ (Bk ha hb I h λv u s2 x y H2 I2 rx ry q=>hr a b pins s2 σ H2 x y v u Q I2 rx ry q (hs _ _))
def yd(K:ai):R2:=λx y H Q=>∃p xs i v,x=.ref p/\y=.int i/\ah K H p xs/\gp xs i=some v/\Q v H
def ye(K:ai):R2:=λx y H Q=>∃p xs i v,x=.ref p/\y=.int i/\aB K H p xs/\gp xs i=some v/\Q v H
theorem Tr:uR X (yd X.K):=by
 intro value slice pins s σ H x y v u Q I rx ry h hs
 obtain⟨p,xs,i,z,rfl,rfl,hq,he,q⟩:=h
 cases rx
 obtain⟨t,rfl⟩:=ry
 obtain⟨ak,r,pl,hz⟩:=I.list hq
 obtain⟨j,h1,h2,h3,h4,h5⟩:=JA he
 obtain⟨w,ew,nj⟩:=r.get h2
 have hl:=r.length
 have hn:=x5
 have fin:EP X pins σ Q w s:=⟨z,H,I,nj,q⟩
 by_cases h0:0<=i
 ·have hj:i.toNat=j:=by
   rw[seqIndex_of h0 h5]at h1
   exact cZ h1
  exact item_listR pl.isList h0 (by omega) (by rw[hj];simpa using ew) fin hs
 ·have hj:(i+(ak.toArray.size:Int)).toNat=j:=by
   rw[seqIndex_neg (by omega) h4]at h1
   rw[cI,<-hl]
   exact cZ h1
  exact subscriptTail_builtinR (x:=w) pl.isList.typeIs slot_list_getitem.lookup
   (wpAny_getItem_list_neg (Q:=λr s'=>r=w/\EP X pins σ Q r s') pl.isList (by omega) (by rw[cI]<;>omega) (by omega) (by rw[hj];simpa using ew) ⟨rfl,fin⟩) hs
theorem Ts:uR X (ye X.K):=by
 intro value slice pins s σ H x y v u Q I rx ry h hs
 obtain⟨p,xs,i,z,rfl,rfl,hq,he,q⟩:=h
 cases rx
 obtain⟨t,rfl⟩:=ry
 obtain⟨ak,r,pl,hz⟩:=I.tuple hq
 obtain⟨j,h1,h2,h3,h4,h5⟩:=JA he
 obtain⟨w,ew,nj⟩:=r.get h2
 have hl:=r.length
 have hn:=x5
 have fin:EP X pins σ Q w s:=⟨z,H,I,nj,q⟩
 exact subscriptTail_builtinR (x:=w) pl.typeIs slot_tuple_getitem.lookup
  (getItem_tuple (j:=j) (Q:=λr s'=>r=w/\EP X pins σ Q r s') pl (by omega) (by omega) (by rw[cI,<-hl];exact h1) (by simpa using ew) ⟨rfl,fin⟩) hs
theorem Tu(ak:List Value)(n j:Nat)(u:Value):oB (·.setIfInBounds j u) {cls:=.type "list",data:=.seq ak.toArray n}={cls:=.type "list",data:=.seq (ak.set j u).toArray n}:=by
 simp[oB]
theorem Inv.lst{pins:List (Addr×Obj)}{σ:St}{H:Hp}{s:Shared}{p:Addr}{xs:List V}(I:Inv X pins σ H s)(h:H p=some (.lst xs)):
  ∃(ak:List Value)(n:Nat),Vals xs ak/\s.heap.get? p=some {cls:=.type "list",data:=.seq ak.toArray n}/\xs.length<=sizeLine:=by
 obtain⟨z,ak,n,r,e⟩:=I.az p _ h
 exact⟨ak,n,r,e,z⟩
theorem Inv.Tv{pins:List (Addr×Obj)}{σ:St}{H:Hp}{s:Shared}{p:Addr}{xs ys:List V}{ak its':List Value}{n n':Nat}{f:Obj->Obj}(I:Inv X pins σ H s)(h:H p=some (.lst xs))
  (ho:s.heap.get? p=some {cls:=.type "list",data:=.seq ak.toArray n}) (hf:f {cls:=.type "list",data:=.seq ak.toArray n}={cls:=.type "list",data:=.seq its'.toArray n'}) (r:Vals ys its') (hz:ys.length<=sizeLine) (t:Nat):
  Inv X pins σ (upd H p (.lst ys)) {s with heap:=s.heap.update p f,toks:=t}:=by
 have e:(s.heap.update p f).get? p=some {cls:=.type "list",data:=.seq its'.toArray n'}:=by
  rw[rB f ho (by rw[hf]<;>rfl),hf]
 refine I.write (x:=p) (e:=p) (by rw[h];trivial) (.inl rfl) (λb u hb q=>(lK _ _ (Ne.symm hb)).trans q) ⟨_,e⟩ ?_
 exact⟨hz,its',n',r,e⟩
def Tw:V->V->V->Hp->(Hp->Prop)->Prop:=λo i v H Q=>∃p xs k j,o=.ref p/\i=.int k/\H p=some (.lst xs)/\cx xs.length k=some j/\Q (upd H p (.lst (xs.set j v)))
theorem set_list:IZ X Tw:=by
 intro pins s σ H o i v ov iv u Q I ro ri rv h
 obtain⟨p,xs,k,j,rfl,rfl,hp,hj,q⟩:=h
 cases ro
 obtain⟨t,rfl⟩:=ri
 obtain⟨ak,n,r,ho,hz⟩:=I.lst hp
 obtain⟨h1,h2,h3,h4⟩:=Jz hj
 have hl:=r.length
 have hn:=x5
 have I':Inv X pins σ (upd H p (.lst (xs.set j v))) {s with heap:=s.heap.update p (oB (·.setIfInBounds j u))}:=
  I.Tv hp ho (Tu ak n j u) (r.set rv j) (by rw[jO];exact hz) s.toks
 by_cases h0:0<=k
 ·have hk:k.toNat=j:=by
   rw[seqIndex_of h0 h4]at h1
   exact cZ h1
  exact PySem.W.ki_setAt ho h0 (by omega) (by rw[cI,<-hl];exact h4) (by rw[hk];exact⟨_,I',q⟩)
 ·have hk:(k+(ak.toArray.size:Int)).toNat=j:=by
   rw[seqIndex_neg (by omega) h3]at h1
   rw[cI,<-hl]
   exact cZ h1
  exact PySem.W.ki_setBack ho (by omega) (by rw[cI,<-hl];exact h3) (by omega) (by rw[hk];exact⟨_,I',q⟩)
theorem Tx(lo hi:Option Int)(n:Nat):(sliceBounds lo hi none n).1=((HT.gj n 0 lo:Nat):Int)/\(sliceBounds lo hi none n).2.1=((HT.gj n n hi:Nat):Int)/\(sliceBounds lo hi none n).2.2=1:=by
 refine⟨?_,?_,rfl⟩
 ·cases lo with
  |none=>simp[sliceBounds,HT.gj]
  |some i=>
   simp only[sliceBounds,HT.gj,P6,show(1:Int)>0 by decide,if_true]
   by_cases h:i<0
   ·simp only[h,if_true]<;>omega
   ·simp only[h,if_false]<;>omega
 ·cases hi with
  |none=>simp[sliceBounds,HT.gj]
  |some i=>
   simp only[sliceBounds,HT.gj,P6,show(1:Int)>0 by decide,if_true]
   by_cases h:i<0
   ·simp only[h,if_true]<;>omega
   ·simp only[h,if_false]<;>omega
theorem Tz(ak:List Value)(lo hi:Option Int):slicePick ak.toArray lo hi none=((ak.drop (HT.gj ak.length 0 lo)).take (HT.gj ak.length ak.length hi-HT.gj ak.length 0 lo)).toArray:=by
 obtain⟨h1,h2,h3⟩:=Tx lo hi ak.toArray.size
 unfold slicePick
 rw[h1,h2,h3]
 simp only[sliceRange_one,pick_run,cI]<;>rfl
def TB(K:ai):V->Option Int->Option Int->Hp->VK->Prop:=λx lo hi H Q=>∃a xs,x=.ref a/\ah K H a xs/\∀p,H p=none->Q (.ref p) (upd H p (.lst (jo xs lo hi)))
theorem uT:Jy X (TB X.K):=by
 intro pins s σ H x v vl vu lo hi sl Q I rx hs pl pu h
 obtain⟨a,xs,rfl,hx,q⟩:=h
 cases rx
 obtain⟨ak,r,ht,hz⟩:=I.list hx
 have hlen:=r.length
 refine⟨"list",_,slot_list_getitem.lookup,ht.isList.typeIs,?_⟩
 refine wpAny_getItem_list_slice ht.isList hs pl pu .none (by simp) ?_ (by rw[cI]<;>omega)
 rw[Tz,<-hlen]
 refine⟨.ref s.heap.objs.size,_,I.laid (t':=s.toks) (o:=.lst (jo xs lo hi)) (λb ob q=>bH _ q) (aT _) ?_,rfl,q _ (I.az.fresh (aT _))⟩
 exact⟨cp (Tn xs lo hi) hz,_,0,(r.drop (HT.gj xs.length 0 lo)).take (HT.gj xs.length xs.length hi-HT.gj xs.length 0 lo),dG _ rfl⟩
def jr:V->Bool
 | .aO=>true
 | .bl _=>true
 | .int _=>true
 | .str _=>true
 |_=>false
def js:V->V->Bool
 | .aO,.aO=>true
 | .bl a,.bl b=>a==b
 | .bl a,.int b=>(if a then 1 else 0)==b
 | .int a,.bl b=>a==(if b then 1 else 0)
 | .int a,.int b=>a==b
 | .str a,.str b=>a==b
 |_,_=>false
theorem TC{A:Around}{s:Shared}{y x:V}{u v:Value}(ry:RelV y u)(rx:RelV x v)(fy:jr y=true)(fx:jr x=true):SeqAt.EqAt A s u v (js y x):=by
 cases y with
 |aO=>
  cases ry
  cases x with
  |aO=>cases rx;exact SeqAt.EqAt.same _
  |bl b=>cases rx;exact SeqAt.EqAt.none_bool b
  |int b=>obtain⟨t,rfl⟩:=rx;exact SeqAt.EqAt.none_int b t
  |str b=>obtain⟨t,rfl⟩:=rx;exact SeqAt.EqAt.none_str b t
  |_=>exact absurd (show false=true from fx) cG
 |bl a=>
  cases ry
  cases x with
  |aO=>cases rx;exact SeqAt.EqAt.bool_none a
  |bl b=>cases rx;exact SeqAt.EqAt.bool_bool a b
  |int b=>obtain⟨t,rfl⟩:=rx;exact SeqAt.EqAt.bool_int a b t
  |str b=>obtain⟨t,rfl⟩:=rx;exact SeqAt.EqAt.bool_str a b t
  |_=>exact absurd (show false=true from fx) cG
 |int a=>
  obtain⟨t',rfl⟩:=ry
  cases x with
  |aO=>cases rx;exact SeqAt.EqAt.int_none a t'
  |bl b=>cases rx;exact SeqAt.EqAt.int_bool a t' b
  |int b=>obtain⟨t,rfl⟩:=rx;exact SeqAt.EqAt.int_int a t' b t
  |str b=>obtain⟨t,rfl⟩:=rx;exact ahg a t' b t
  |_=>exact absurd (show false=true from fx) cG
 |str a=>
  obtain⟨t',rfl⟩:=ry
  cases x with
  |aO=>cases rx;exact SeqAt.EqAt.str_none a t'
  |bl b=>cases rx;exact SeqAt.EqAt.str_bool a t' b
  |int b=>obtain⟨t,rfl⟩:=rx;exact ahf a t' b t
  |str b=>obtain⟨t,rfl⟩:=rx;exact SeqAt.EqAt.str_str a t' b t
  |_=>exact absurd (show false=true from fx) cG
 |_=>exact absurd (show false=true from fy) cG
def gX(x:V)(u:Value):Bool:=match u with
 | .none=>js .aO x
 | .bool b=>js (.bl b) x
 | .int i _=>js (.int i) x
 | .str z _=>js (.str z) x
 |_=>false
theorem yf{x y:V}{u:Value}(r:RelV y u)(f:jr y=true):gX x u=js y x:=by
 cases y with
 |aO=>cases r;rfl
 |bl b=>cases r;rfl
 |int i=>obtain⟨t,rfl⟩:=r;rfl
 |str z=>obtain⟨t,rfl⟩:=r;rfl
 |_=>exact absurd (show false=true from f) cG
theorem uU{x:V}:∀{xs:List V}{us:List Value},Vals xs us->xs.all jr=true->us.any (gX x)=xs.any λy=>js y x
 |_,_,.nil,_=>rfl
 |y::xs,u::us,.cons r t,f=>by
  rw[List.all_cons,iM]at f
  rw[wZ,wZ,yf r f.1,uU t f.2]
theorem sD{A:Around}{s:Shared}{x:V}{v:Value}(rx:RelV x v)(fx:jr x=true):∀{xs:List V}{us:List Value},Vals xs us->xs.all jr=true->∀u∈us,SeqAt.EqAt A s u v (gX x u)
 |_,_,.nil,_=>λu hu=>by cases hu
 |y::xs,u::us,.cons r t,f=>λu' hu=>by
  rw[List.all_cons,iM]at f
  rcases bz.mp hu with rfl|hu
  ·rw[yf r f.1];exact TC r rx f.1 fx
  ·exact sD rx fx t f.2 u' hu
def iw(x:V)(xs:List V):Bool:=xs.any λy=>js y x
def yg(K:ai)(neg:Bool):R2:=λx y H Q=>∃p xs,y=.ref p/\(ah K H p xs\/aB K H p xs)/\jr x=true/\xs.all jr=true/\Q (.bl (if neg then !iw x xs else iw x xs)) H
theorem TF:eh X (compareOp .In) (yg X.K false):=by
 intro pins s σ H x y v u Q I rx ry h
 obtain⟨p,xs,rfl,hq,fx,fs,q⟩:=h
 cases ry
 rcases hq with hq|hq
 ·obtain⟨ak,r,pl,hz⟩:=I.list hq
  refine SeqAt.in_listAt (gX x) pl.isList (λw hw=>sD rx fx r fs w (by simpa using hw)) ⟨.bl _,H,I,rfl,?_⟩
  rw[show ak.toArray.any (gX x)=ak.any (gX x) by simp,uU r fs]
  exact q
 ·obtain⟨ak,r,pl,hz⟩:=I.tuple hq
  refine SeqAt.in_tupleAt (gX x) pl (λw hw=>sD rx fx r fs w (by simpa using hw)) ⟨.bl _,H,I,rfl,?_⟩
  rw[show ak.toArray.any (gX x)=ak.any (gX x) by simp,uU r fs]
  exact q
theorem TH:eh X (compareOp .NotIn) (yg X.K true):=by
 intro pins s σ H x y v u Q I rx ry h
 obtain⟨p,xs,rfl,hq,fx,fs,q⟩:=h
 cases ry
 rcases hq with hq|hq
 ·obtain⟨ak,r,pl,hz⟩:=I.list hq
  refine SeqAt.notIn_listAt (gX x) pl.isList (λw hw=>sD rx fx r fs w (by simpa using hw)) ⟨.bl _,H,I,rfl,?_⟩
  rw[show ak.toArray.any (gX x)=ak.any (gX x) by simp,uU r fs]
  exact q
 ·obtain⟨ak,r,pl,hz⟩:=I.tuple hq
  refine SeqAt.notIn_tupleAt (gX x) pl (λw hw=>sD rx fx r fs w (by simpa using hw)) ⟨.bl _,H,I,rfl,?_⟩
  rw[show ak.toArray.any (gX x)=ak.any (gX x) by simp,uU r fs]
  exact q
theorem cb:gT X (.builtin "len") (λxs H Q=>∃p ys,xs=[.ref p]/\(ah X.K H p ys\/aB X.K H p ys)/\Q (.int ys.length) H):=by
 intro pins s σ H xs us Q I r h
 obtain⟨p,ys,rfl,hq,q⟩:=h
 obtain⟨u,rfl,rx⟩:=vals1 r
 cases rx
 have hn:=x5
 rcases hq with hq|hq
 ·obtain⟨ak,r',pl,hz⟩:=I.list hq
  have hlen:=r'.length
  exact Calls.call_len_list pl.isList (by simp only[cI]<;>omega) ⟨.int ys.length,H,I.tok _,⟨s.toks+1,by rw[cI,hlen]⟩,q⟩
 ·obtain⟨ak,r',pl,hz⟩:=I.tuple hq
  have hlen:=r'.length
  exact len_tuple pl (by simp only[cI]<;>omega) ⟨.int ys.length,H,I.tok _,⟨s.toks+1,by rw[cI,hlen]⟩,q⟩
theorem yh:gT X (.type "list") (λxs H Q=>∃p ys,xs=[.ref p]/\(ah X.K H p ys\/aB X.K H p ys)/\∀l,H l=none->Q (.ref l) (upd H l (.lst ys))):=by
 intro pins s σ H xs us Q I r h
 obtain⟨p,ys,rfl,hq,q⟩:=h
 obtain⟨u,rfl,rx⟩:=vals1 r
 cases rx
 have fin:∀(ak:List Value),Vals ys ak->ys.length<=sizeLine->∀(h':Heap)(c':Nat),(∀b o',s.heap.get? b=some o'->h'.get? b=some o')->
   h'.get? s.heap.objs.size=some {cls:=.type "list",dict:=none,data:=.seq ak.toArray c',slots:= #[]}->EP X pins σ Q (.ref s.heap.objs.size) {s with heap:=h'}:=λak r' hz h' c' kp e=>
  ⟨.ref s.heap.objs.size,_,I.laid (t':=s.toks) kp (aT _) (show b_ X.prog X.w _ h' _ (.lst ys)from⟨hz,ak,c',r',e⟩),rfl,q _ (I.az.fresh (aT _))⟩
 rcases hq with hq|hq
 ·obtain⟨ak,r',pl,hz⟩:=I.list hq
  have hlen:=r'.length
  obtain⟨o,ho,hc,n,hd⟩:=pl.isList
  exact call_list_seq p (.inl rfl) ho hc hd (λh' c' kp e=>fin ak r' hz h' c' kp e) (by simp only[cI]<;>omega)
 ·obtain⟨ak,r',pl,hz⟩:=I.tuple hq
  have hlen:=r'.length
  obtain⟨o,ho,hc,n,hd⟩:=pl
  exact call_list_seq p (.inr rfl) ho hc hd (λh' c' kp e=>fin ak r' hz h' c' kp e) (by simp only[cI]<;>omega)
theorem yi:gT X (.type "tuple") (λxs H Q=>∃p ys,xs=[.ref p]/\((ah X.K H p ys/\∀l,H l=none->Q (.ref l) (upd H l (.tup ys)))\/(aB X.K H p ys/\Q (.ref p) H))):=by
 intro pins s σ H xs us Q I r h
 obtain⟨p,ys,rfl,h⟩:=h
 obtain⟨u,rfl,rx⟩:=vals1 r
 cases rx
 rcases h with⟨hq,q⟩|⟨hq,q⟩
 ·obtain⟨ak,r',pl,hz⟩:=I.list hq
  have hlen:=r'.length
  refine call_tuple_list pl.isList (λh' kp=>?_) (by simp only[cI]<;>omega)
  have I1:Inv X pins σ H {s with heap:=h'}:=I.kept (t':=s.toks) kp
  have I2:Inv X pins σ (upd H h'.objs.size (.tup ys)) {s with heap:=h'.push {cls:=.type "tuple",data:=.seq ak.toArray}}:=
   I1.laid (t':=s.toks) (λb o e=>bH _ e) (aT _) (show b_ X.prog X.w _ _ _ (.tup ys)from⟨hz,ak,r',IsTup.new _ _⟩)
  exact⟨.ref h'.objs.size,_,I2,rfl,q _ (I1.az.fresh (aT _))⟩
 ·obtain⟨ak,r',pl,hz⟩:=I.tuple hq
  exact call_tuple_same pl ⟨.ref p,H,I,rfl,q⟩
def BE(K:ai)(T:String)(x:V)(H:Hp):Prop:=match x with
 | .str _=>T="str"
 | .int _=>T="int"
 | .ref p=>(T="list"/\∃xs,ah K H p xs)\/(T="tuple"/\∃o,K.lookup p=some o/\o.cls=.type "tuple"/\o.dict=none)\/
   (T="dict"/\((∃ag,H p=some (.dK ag))\/∃ag,H p=some (.dT ag)))\/(T="set"/\∃S n,H p=some (.set S n))
 |_=>False
theorem JB{pins:List (Addr×Obj)}{σ:St}{H:Hp}{s:Shared}{T:String}{x:V}{v:Value}(I:Inv X pins σ H s)(r:RelV x v)(ty:BE X.K T x H):
  s.TypeIs v T/\∀a,v=.ref a->∃ob,s.heap.get? a=some ob/\ob.dict=none:=by
 cases x with
 |str z=>
  obtain⟨t,rfl⟩:=r
  cases(show T="str" from ty)
  exact⟨typeIs_str s z t,λ_ e=>nomatch e⟩
 |int i=>
  obtain⟨t,rfl⟩:=r
  cases(show T="int" from ty)
  exact⟨typeIs_int s i t,λ_ e=>nomatch e⟩
 |ref p=>
  cases r
  rcases ty with⟨rfl,xs,hq⟩|⟨rfl,o,hk,hc,hd⟩|⟨rfl,hk⟩|⟨rfl,S,n,hk⟩
  ·obtain⟨ak,_,pl,_⟩:=I.list hq
   refine⟨pl.isList.typeIs,λa e=>?_⟩
   cases e
   obtain⟨o,n,e,c,hd,_⟩:=pl
   exact⟨o,e,hd⟩
  ·refine⟨⟨o,I.dI p o hk,hc⟩,λa e=>?_⟩
   cases e
   exact⟨o,I.dI _ o hk,hd⟩
  ·have z:∃o,s.heap.get? p=some o/\o.ExactDict:=by
    rcases hk with⟨ag,hk⟩|⟨ag,hk⟩
    ·obtain⟨_,_,_,_,o,_,_,e,ex,_⟩:=I.az p _ hk
     exact⟨o,e,ex⟩
    ·obtain⟨_,_,_,_,o,_,_,e,ex,_⟩:=I.az p _ hk
     exact⟨o,e,ex⟩
   obtain⟨o,e,ex⟩:=z
   refine⟨⟨o,e,ex.1⟩,λa e2=>?_⟩
   cases e2
   exact⟨o,e,ex.2.1⟩
  ·obtain⟨o,_,_,_,e,ex,_⟩:=I.az p _ hk
   refine⟨⟨o,e,ex.1⟩,λa e2=>?_⟩
   cases e2
   exact⟨o,e,ex.2.1⟩
 |_=>exact fE ty
def TJ(K:ai)(T:String)(r:V->List V->Hp->VK->Prop)(to:TE):TE:=λσ H Q=>to σ H λx H1=>BE K T x H1/\r x [] H1 Q
def BF(K:ai)(T:String)(r:V->List V->Hp->VK->Prop)(to:TE)(t:TA):TE:=λσ H Q=>to σ H λx H1=>BE K T x H1/\t σ H1 λxs H2=>r x xs H2 Q
variable{o e:Expr}{es:List Expr}{to:TE}{t:TA}{name:Str}{apos eu:Pos}{T id:String}{r:V->List V->Hp->VK->Prop}
theorem TK(pa:PlainAttrs T)(slot:Slot T name id)(l8:typeOf (.builtin id)=pure (.type "method_descriptor"))(hm:uS X id r)(ho:PE X o to)
  (uV:attributeBase o name X.env (eval o X.env)=eval o X.env:=by rfl) (uW:(apos.endLine==eu.line)=true:=by rfl):PE X (.Call (.Attribute o name apos) [] [] eu) (TJ X.K T r to):=by
 intro pins s σ H Q I h
 refine wpAny_Call_method0_late uV uW (aR (ho pins s σ H _ I h) λv s1 ⟨x,H1,I1,r1,ty,q1⟩=>?_)
 obtain⟨h1,h2⟩:=JB I1 r1 ty
 exact⟨T,id,pa,slot,l8,h1,h2,ahi rfl (PySem.evalArgs_none (hm pins s1 σ H1 x [] v [] Q I1 r1 .nil q1))⟩
theorem fk(pa:PlainAttrs T)(slot:Slot T name id)(l8:typeOf (.builtin id)=pure (.type "method_descriptor"))(hm:uS X id r)(ho:PE X o to)(ha:PA X (e::es) t)
  (uV:attributeBase o name X.env (eval o X.env)=eval o X.env:=by rfl)
  (BG:((backTo eu (starEach (e::es) X.env)).all (λx=> !x.1)&&(backToKw eu (keywordEach [] X.env)).all (λx=>x.1.isSome)
   &&decide ((e::es).length+([]:List Keyword).length+(if([]:List Keyword).isEmpty then 0 else 1)<30))=true:=by rfl)
  (uW:(apos.endLine==eu.line)=true:=by rfl) (hs:starEach (e::es) X.env=(false,eval e X.env)::starEach es X.env:=by rfl) (BH:(backTo eu (starEach es X.env)).any (·.1)=false:=by rfl):
  PE X (.Call (.Attribute o name apos) (e::es) [] eu) (BF X.K T r to t):=by
 intro pins s σ H Q I h
 refine wpAny_Call_method_late uV BG uW rfl (aR (ho pins s σ H _ I h) λv s1 ⟨x,H1,I1,r1,ty,q1⟩=>?_)
 obtain⟨h1,h2⟩:=JB I1 r1 ty
 refine⟨T,id,pa,slot,l8,h1,h2,?_⟩
 have hA:=ha eu pins s1 σ H1 _ I1 q1
 rw[hs]at hA⊢
 refine ahi (by show(false||(backTo eu (starEach es X.env)).any (·.1))=false;rw[BH]<;>rfl) (Calls.evalArgs_plain ?_)
 exact aR hA λus s2 ⟨vs,H2,I2,r2,q2⟩=>hm pins s2 σ H2 x vs v us Q I2 r1 r2 q2
end
end L2
namespace L2
open PySem PySem.Spec PyProof.Rows
def yj(X:Cx)(id:String)(r:V->List V->Hp->VK->Prop):Prop:=
 ∀(pins:List (Addr×Obj))(s:Shared)(σ:St)(H:Hp)(x:V)(xs:List V)(v:Value)(us:List Value)(Q:VK),Inv X pins σ H s->RelV x v->Vals xs us->r x xs H Q->
  wpAny (model X.prog X.w) X.A (call (.builtin id) (v::us)) (EP X pins σ Q) X.xe s
theorem Vals.one:∀{x:V}{us:List Value},Vals [x] us->∃u,us=[u]/\RelV x u
 |_,_,.cons r .nil=>⟨_,rfl,r⟩
theorem Vals.zero:∀{us:List Value},Vals [] us->us=[]
 |_,.nil=>rfl
theorem Vals.reverse{xs:List V}{us:List Value}(h:Vals xs us):Vals xs.reverse us.reverse:=by
 induction h with
 |nil=>exact .nil
 |cons r t ih=>rw[GH,GH];exact Vals.append ih (.cons r .nil)
theorem Vals.rep{xs:List V}{us:List Value}(h:Vals xs us):∀k:Nat,Vals (eO k xs).flatten (eO k us).flatten
 |0=>.nil
 |k+1=>by
  rw[ub,ub,Ag,Ag]
  exact Vals.append h (Vals.rep h k)
theorem foldl_rep(ak:List Value):∀(k:Nat)(acc:List Value),
  QG (λx1 x2=>x1++x2) acc.toArray (eO k ak.toArray)=(acc++(eO k ak).flatten).toArray
 |0,acc=>by simp
 |k+1,acc=>by
  have e:acc.toArray++ak.toArray=(acc++ak).toArray:=by simp
  have e2:(acc++ak)++(eO k ak).flatten=acc++(eO (k+1) ak).flatten:=by
   rw[ub,Ag,mP]
  rw[<-e2,<-foldl_rep ak k (acc++ak),<-e,ub,pQ]
section
variable{X:Cx}{pins:List (Addr×Obj)}{σ:St}{H:Hp}{s:Shared}{l b:Addr}{xs ys zs:List V}
theorem Inv.yk{ak its':List Value}{n:Nat}{f:Array Value->Array Value}{t':Nat}(I:Inv X pins σ H s)(hH:H l=some (.lst xs))
  (e:s.heap.get? l=some {cls:=.type "list",data:=.seq ak.toArray n}) (hf:f ak.toArray=its'.toArray) (hv:Vals ys its') (hz:ys.length<=sizeLine):
  Inv X pins σ (upd H l (.lst ys)) {s with heap:=s.heap.update l (oB f),toks:=t'}:=by
 have q:=PySem.IsL.update e f
 rw[hf]at q
 refine I.write (x:=l) (e:=l) (by rw[hH];exact trivial) (.inl rfl) (λb' u hb hu=>(lK s.heap (oB f) (Ne.symm hb)).trans hu) ⟨_,q⟩ ?_
 exact⟨hz,its',_,hv,q⟩
theorem Inv.JC{ak:List Value}{t':Nat}(I:Inv X pins σ H s)(hv:Vals ys ak)(hz:ys.length<=sizeLine):
  Inv X pins σ (upd H s.heap.objs.size (.lst ys)) {s with heap:=s.heap.push {cls:=.type "list",data:=.seq ak.toArray},toks:=t'}:=
 I.laid (λ_ _ q=>bH _ q) (aT _) ⟨hz,ak,0,hv,dG _ rfl⟩
theorem Inv.fresh(I:Inv X pins σ H s):H s.heap.objs.size=none:=I.az.fresh (aT _)
theorem Inv.oQ(I:Inv X pins σ H s)(hH:H l=some (.lst xs)):xs.length<=sizeLine/\∃(ak:List Value)(n:Nat),Vals xs ak/\xs.length=ak.length/\s.heap.get? l=some {cls:=.type "list",data:=.seq ak.toArray n}:=by
 obtain⟨z,ak,n,r,e⟩:=I.az l _ hH
 exact⟨z,ak,n,r,r.length,e⟩
theorem BI{n:Nat}(h:n<=sizeLine):wI n=false:=by
 unfold wI
 exact decide_eq_false (by omega)
end
section
variable{X:Cx}
def JD:V->List V->Hp->VK->Prop:=λx vs H Q=>∃l xs y,x=.ref l/\vs=[y]/\H l=some (.lst xs)/\xs.length<sizeLine/\Q .aO (upd H l (.lst (xs++[y])))
theorem j5:yj X "list.append" JD:=by
 intro pins s σ H x vs v us Q I rx rv h
 obtain⟨l,xs,y,rfl,rfl,hH,hz,q⟩:=h
 cases rx
 obtain⟨u,rfl,ru⟩:=rv.one
 obtain⟨z,ak,n,r,hl,e⟩:=I.oQ hH
 refine call_meets F.slot_list_append ⟨_,e,rfl⟩ F.entry_list_append (F.args_list_append_2 _ _) (PySem.list_append l ak.toArray n u (by rw[cI];omega)) ⟨e,?_⟩
 refine⟨.aO,_,I.yk (its':=ak++[u]) hH e (by simp) (r.append (.cons ru .nil)) ?_,rfl,q⟩
 rw[bf,fZ]
 omega
def TM:V->List V->Hp->VK->Prop:=λx vs H Q=>∃l b xs zs,x=.ref l/\vs=[.ref b]/\H l=some (.lst xs)/\H b=some (.lst zs)/\xs.length+zs.length<=sizeLine/\Q .aO (upd H l (.lst (xs++zs)))
theorem uX:yj X "list.extend" TM:=by
 intro pins s σ H x vs v us Q I rx rv h
 obtain⟨l,b,xs,zs,rfl,rfl,hH,hB,hz,q⟩:=h
 cases rx
 obtain⟨u,rfl,ru⟩:=rv.one
 cases ru
 obtain⟨z,ak,n,r,hl,e⟩:=I.oQ hH
 obtain⟨z2,jq,n2,r2,JE,e2⟩:=I.oQ hB
 have hsz:ak.toArray.size+jq.toArray.size<=sizeLine:=by rw[cI,cI];omega
 have oR:¬(!ak.toArray.isEmpty&&wI (ak.toArray.size+jq.toArray.size))=true:=by
  rw[BI hsz,Bool.and_false]
  exact cG
 refine call_meets F.slot_list_extend ⟨_,e,rfl⟩ F.entry_list_extend (F.args_list_extend_2 _ _)
  (AutoSeq1.list_extend_list_list_0 l ak.toArray n b jq.toArray n2 oR (by rw[cI];omega) (by omega)) ⟨e,e2,?_⟩
 refine⟨.aO,_,I.yk (its':=ak++jq) hH e (by simp) (r.append r2) ?_,rfl,q⟩
 rw[bf]
 omega
def TN:V->List V->Hp->VK->Prop:=λx vs H Q=>∃l xs,x=.ref l/\vs=[]/\H l=some (.lst xs)/\Q .aO (upd H l (.lst xs.reverse))
theorem TQ:yj X "list.reverse" TN:=by
 intro pins s σ H x vs v us Q I rx rv h
 obtain⟨l,xs,rfl,rfl,hH,q⟩:=h
 cases rx
 have TR:=rv.zero
 subst TR
 obtain⟨z,ak,n,r,hl,e⟩:=I.oQ hH
 refine call_meets F.slot_list_reverse ⟨_,e,rfl⟩ F.entry_list_reverse (F.args_list_reverse_1 _) (AutoSeq1.list_reverse_list_0 l ak.toArray n (by rw[cI];omega)) ⟨e,?_⟩
 refine⟨.aO,_,I.yk (its':=ak.reverse) hH e (by simp) r.reverse ?_,rfl,q⟩
 rw[ahv]
 omega
def yl:R2:=λx y H Q=>∃l b xs zs,x=.ref l/\y=.ref b/\H l=some (.lst xs)/\H b=some (.lst zs)/\xs.length+zs.length<=sizeLine/\∀p,H p=none->Q (.ref p) (upd H p (.lst (xs++zs)))
theorem iy:eh X (binaryOp .Add) yl:=by
 intro pins s σ H x y v u Q I rx ry h
 obtain⟨l,b,xs,zs,rfl,rfl,hH,hB,hz,q⟩:=h
 cases rx
 cases ry
 obtain⟨z,ak,n,r,hl,e⟩:=I.oQ hH
 obtain⟨z2,jq,n2,r2,JE,e2⟩:=I.oQ hB
 refine PySem.P.add_list e e2 ?_ (by rw[cI,cI];omega)
 have ea:ak.toArray++jq.toArray=(ak++jq).toArray:=by simp
 rw[ea]
 exact⟨.ref _,_,I.JC (t':=s.toks) (r.append r2) (by rw[bf];omega),rfl,q _ I.fresh⟩
def TU:R2:=λx y H Q=>∃l k xs,x=.ref l/\y=.int k/\H l=some (.lst xs)/\ -(2 ^ 63)<=k/\k<2 ^ 63/\xs.length*k.toNat<=sizeLine/\
 ∀p,H p=none->Q (.ref p) (upd H p (.lst (eO k.toNat xs).flatten))
theorem len_rep{α:Type}(xs:List α)(k:Nat):(eO k xs).flatten.length=k*xs.length:=by
 induction k with
 |zero=>simp
 |succ k ih=>rw[ub,Ag,bf,ih,Nat.succ_mul,Nat.add_comm]
theorem JF:eh X (binaryOp .Mult) TU:=by
 intro pins s σ H x y v u Q I rx ry h
 obtain⟨l,k,xs,rfl,rfl,hH,h1,h2,hz,q⟩:=h
 cases rx
 obtain⟨t,rfl⟩:=ry
 obtain⟨z,ak,n,r,hl,e⟩:=I.oQ hH
 have hlen:ak.toArray.size*k.toNat<=sizeLine:=by rw[cI,<-hl];exact hz
 have TV:¬ak.toArray.size*k.toNat>(2 ^ 63-1) / 8:=by
  have:(sizeLine:Nat)<=(2 ^ 63-1) / 8:=by decide
  omega
 have TX:¬(!Builtin.List.listFitsIndex k)=true:=by
  rw[fitsIndex_both h1 h2]
  exact cG
 have oR:¬wI (ak.toArray.size*k.toNat)=true:=by
  rw[BI hlen]
  exact cG
 have TY:QG (λx1 x2=>x1++x2) #[] (eO (if ak.toArray.isEmpty=true then 0 else k.toNat) ak.toArray)=(eO k.toNat ak).flatten.toArray:=by
  have f0:∀m:Nat,QG (λx1 x2=>x1++x2) #[] (eO m ak.toArray)=(eO m ak).flatten.toArray:=λm=>by
   have:=foldl_rep ak m []
   rw[ug]at this
   exact this
  rw[f0]
  cases ak with
  |nil=>simp
  |cons a r'=>rw[if_neg (by simp)]
 refine wpAny_binaryOp_repeat_ref (T:="list") (U:="int") (by decide) ⟨_,e,rfl⟩ (λs'=>typeIs_int s' k t) noFill_list_mul F.fills_int_mul F.slot_int_rmul repeat_list F.slot_int_index.lookup
  (call_meets F.slot_int_rmul (typeIs_int s k t) F.entry_int_rmul (F.args_int_rmul_2 _ _) (int___rmul___int_list k t l ak.toArray n)
   ⟨e,rfl,⟨_,e,rfl⟩,call_meets F.slot_list_mul ⟨_,e,rfl⟩ F.entry_list_mul (F.args_list_mul_2 _ _) (AutoListH.list___mul___list_int_3 l ak.toArray n k t TX TV oR) ⟨e,?_⟩⟩)
 rw[TY]
 exact⟨.ref _,_,I.JC (t':=s.toks) (r.rep k.toNat) (by rw[len_rep,Nat.mul_comm];exact hz),rfl,q _ I.fresh⟩
end
section
variable{prog:Program}{w:World}{A:Around}{E:Value->Shared->Prop}{s:Shared}
end
section
variable{X:Cx}
end
end L2
namespace L2
open PySem PySem.Spec PyProof.Rows
theorem Vals.ints:∀{ns:List Int}{us:List Value},Vals (ns.map V.int) us->IntsAre us ns
 |[],us,h=>by
  rw[Hj]at h
  cases h
  exact IntsAre.nil
 |n::ns,us,h=>by
  rw[eV]at h
  cases h with
  |cons r t=>
   obtain⟨k,rfl⟩:=r
   exact IntsAre.cons n k (Vals.ints t)
theorem JG:∀{us:List Value}{ns:List Int},IntsAre us ns->Vals (ns.map V.int) us
 |_,_,.nil=>by rw[Hj];exact Paired.nil
 |_,_,.cons n t h=>by rw[eV];exact Paired.cons (show RelV (V.int n) (xf n t)from⟨t,rfl⟩) (JG h)
theorem Vals.qr{a:Addr}{us:List Value}(r:Vals [V.ref a] us):us=[cD a]:=by
 cases r with
 |cons r t=>
  cases t
  cases r
  rfl
section
variable{prog:Program}{w:World}{A:Around}{E:Value->Shared->Prop}{s:Shared}{l:Addr}{ak:List Value}{ns:List Int}{Q:Value->Shared->Prop}
theorem TZ(hh:A.handled=none)(hl:s.heap.IsList l ak.toArray)(hi:IntsAre ak ns)
  (h:∀h' tk t',(∀b o,s.heap.get? b=some o->h'.get? b=some o)->Q (.int ns.sum t') {s with heap:=h',toks:=tk}):wpAny (model prog w) A (call (.builtin "sum") [.ref l]) Q E s:=by
 obtain⟨xs,e⟩:=hi.allInts.items
 have hn:numsOf (intItems xs).toList=ns:=by rw[<-e];exact hi.numsOf
 rw[nums_intItems]at hn
 rw[e]at hl
 refine PySem.sum_intListG hh hl λh' tk t' hk=>?_
 have:=h h' tk t' hk
 rw[preSum_eq,Gu (by simp),hn];exact this
theorem T2(hh:A.handled=none)(hl:s.heap.IsList l ak.toArray)(hi:IntsAre ak ns)(a8:0<ns.length)
  (h:∀h' tk M t',(∀b o,s.heap.get? b=some o->h'.get? b=some o)->M∈ns->(∀a,a∈ns->a<=M)->Q (.int M t') {s with heap:=h',toks:=tk}):wpAny (model prog w) A (call (.builtin "max") [.ref l]) Q E s:=by
 obtain⟨xs,e⟩:=hi.allInts.items
 have hn:numsOf (intItems xs).toList=ns:=by rw[<-e];exact hi.numsOf
 rw[nums_intItems]at hn
 subst hn
 rw[e]at hl
 have hsz:0<xs.size:=by simpa using a8
 refine PySem.max_intList hh hl hsz λv h' tk hv hk=>?_
 obtain⟨t,rfl⟩:=intItems_at hv
 obtain⟨h1,h2⟩:=argBest_gt (numAt xs) (xs.size-1)
 refine h h' tk _ t hk ?_ λa ha=>?_
 ·rw[numAt_eq];exact PySem.getD_mem (by rw[aA,fg];omega)
 ·obtain⟨j,hj,rfl⟩:=mem_getD ha
  rw[aA,fg]at hj
  rw[<-numAt_eq];exact h2 j (by omega)
theorem T4(hh:A.handled=none)(hl:s.heap.IsList l ak.toArray)(hi:IntsAre ak ns)(a8:0<ns.length)
  (h:∀h' tk M t',(∀b o,s.heap.get? b=some o->h'.get? b=some o)->M∈ns->(∀a,a∈ns->M<=a)->Q (.int M t') {s with heap:=h',toks:=tk}):wpAny (model prog w) A (call (.builtin "min") [.ref l]) Q E s:=by
 obtain⟨xs,e⟩:=hi.allInts.items
 have hn:numsOf (intItems xs).toList=ns:=by rw[<-e];exact hi.numsOf
 rw[nums_intItems]at hn
 subst hn
 rw[e]at hl
 have hsz:0<xs.size:=by simpa using a8
 refine PySem.min_intList hh hl hsz λv h' tk hv hk=>?_
 obtain⟨t,rfl⟩:=intItems_at hv
 obtain⟨h1,h2⟩:=argBest_lt (numAt xs) (xs.size-1)
 refine h h' tk _ t hk ?_ λa ha=>?_
 ·rw[numAt_eq];exact PySem.getD_mem (by rw[aA,fg];omega)
 ·obtain⟨j,hj,rfl⟩:=mem_getD ha
  rw[aA,fg]at hj
  rw[<-numAt_eq];exact h2 j (by omega)
end
section
variable{X:Cx}
def T5(K:ai):List V->Hp->VK->Prop:=λvs H Q=>∃(a:Addr)(ns:List Int),vs=[V.ref a]/\ah K H a (ns.map V.int)/\Q (.int ns.sum) H
def T6(K:ai):List V->Hp->VK->Prop:=λvs H Q=>∃(a:Addr)(ns:List Int),vs=[V.ref a]/\ah K H a (ns.map V.int)/\0<ns.length/\∀m,m∈ns->(∀y,y∈ns->y<=m)->Q (.int m) H
def T7(K:ai):List V->Hp->VK->Prop:=λvs H Q=>∃(a:Addr)(ns:List Int),vs=[V.ref a]/\ah K H a (ns.map V.int)/\0<ns.length/\∀m,m∈ns->(∀y,y∈ns->m<=y)->Q (.int m) H
theorem T8(hc:X.calm=true):gT X (.builtin "sum") (T5 X.K):=by
 intro pins s σ H vs us Q I r h
 obtain⟨a,ns,rfl,hs,q⟩:=h
 obtain⟨ak,rv,hl,_⟩:=I.list hs
 rw[Vals.qr r]
 exact TZ (I.ok.hd hc) hl.isList rv.ints λh' tk t' hk=>⟨.int _,H,I.kept hk,⟨_,rfl⟩,q⟩
theorem T9(hc:X.calm=true):gT X (.builtin "max") (T6 X.K):=by
 intro pins s σ H vs us Q I r h
 obtain⟨a,ns,rfl,hs,a8,q⟩:=h
 obtain⟨ak,rv,hl,_⟩:=I.list hs
 rw[Vals.qr r]
 exact T2 (I.ok.hd hc) hl.isList rv.ints a8 λh' tk m t' hk h1 h2=>⟨.int _,H,I.kept hk,⟨_,rfl⟩,q m h1 h2⟩
theorem T_(hc:X.calm=true):gT X (.builtin "min") (T7 X.K):=by
 intro pins s σ H vs us Q I r h
 obtain⟨a,ns,rfl,hs,a8,q⟩:=h
 obtain⟨ak,rv,hl,_⟩:=I.list hs
 rw[Vals.qr r]
 exact T4 (I.ok.hd hc) hl.isList rv.ints a8 λh' tk m t' hk h1 h2=>⟨.int _,H,I.kept hk,⟨_,rfl⟩,q m h1 h2⟩
theorem Ua{n:Nat}(h:n<64):n<=sizeLine:=by rw[sizeLine_eq];omega
end
section
variable{X:Cx}
def JH(K:ai):V->List V->Hp->VK->Prop:=λx xs H Q=>∃(a:Addr)(ys:List V)(y:V)(j:Nat)(z:V),x=V.ref a/\xs=[y]/\ah K H a ys/\jr y=true/\ys.all jr=true/\ys[j]? =some z/\js z y=true/\
 (∀(m:Nat)(z':V),m<j->ys[m]? =some z'->js z' y=false)/\Q (.int (j:Nat)) H
theorem JI{ys:List V}(f:ys.all jr=true){j:Nat}{z:V}(h:ys[j]? =some z):jr z=true:=rE.mp f z (bL h)
theorem Ub:uS X "list.index" (JH X.K):=by
 intro pins s σ H x xs v us Q I rx Uc h
 obtain⟨a,ys,y,j,z,rfl,rfl,hs,fy,BJ,hz,Ud,a6,q⟩:=h
 cases rx
 cases Uc with
 |cons ry rt=>
  rename_i uy ut
  cases rt
  obtain⟨ak,rv,⟨⟨cls,dd,data,sl⟩,n,ho,hc,nq,hd⟩,hlen⟩:=I.list hs
  simp only at hc hd
  subst hc hd
  obtain⟨u,hu,ru⟩:=rv.get hz
  obtain⟨rT,Ue⟩:=bE.mp hu
  have hvl:=rv.length
  have hj:j<ak.toArray.size:=by simpa using rT
  have hsl:=sizeLine_eq
  refine call_meets ag4 ⟨_,ho,rfl⟩ PySem.F.entry_list_index (PySem.F.args_list_index_2 _ _)
   (SeqAt.list_indexAt a ak.toArray n dd sl uy (gX y) j hj (by omega) ?_ ?_) ⟨ho,λu' Ug=>sD ry fy rv BJ u' (by simpa using Ug),?_⟩
  ·have e1:ak.toArray[j]=u:=by simpa using Ue
   rw[e1,yf ru (JI BJ hz)]
   exact Ud
  ·intro m hm Uh
   have hml:m<ak.length:=by simpa using hm
   have Ui:m<ys.length:=by omega
   have BK:ys[m]? =some ys[m]:=bX Ui
   obtain⟨u2,Uj,Uk⟩:=rv.get BK
   obtain⟨_,Ul⟩:=bE.mp Uj
   have e1:ak.toArray[m]=u2:=by simpa using Ul
   rw[e1,yf Uk (JI BJ BK)]
   exact a6 m _ Uh BK
  ·exact⟨.int (j:Nat),H,I.tok _,⟨_,rfl⟩,q⟩
end
section
variable{X:Cx}
end
section
variable{X:Cx}
end
mutual
inductive Dp(K:ai)(H:Hp):V->PyData->Prop
 |aO:Dp K H .aO .none
 |bl (b:Bool):Dp K H (.bl b) (.bool b)
 |int (i:Int):Dp K H (.int i) (.int i)
 |str (x:Str):Dp K H (.str x) (.str x)
 |lst {a:Addr} {xs:List V} {ds:List PyData}:ah K H a xs->qt K H xs ds->Dp K H (.ref a) (.list ds)
 |tup {a:Addr} {xs:List V} {ds:List PyData}:aB K H a xs->qt K H xs ds->Dp K H (.ref a) (.tuple ds)
inductive qt(K:ai)(H:Hp):List V->List PyData->Prop
 |nil:qt K H [] []
 |cons {v:V} {vs:List V} {d:PyData} {ds:List PyData}:Dp K H v d->qt K H vs ds->qt K H (v::vs) (d::ds)
end
section
variable{X:Cx}{pins:List (Addr×Obj)}{σ:St}{H:Hp}{s:Shared}
mutual
theorem Dp.reads(I:Inv X pins σ H s):∀(d:PyData)(v:V)(u:Value),Dp X.K H v d->RelV v u->∃as,Reads s.heap u d as
 | .none,_,_,h,r=>by
  cases h
  cases r
  exact⟨_,Reads.none⟩
 | .bool b,_,_,h,r=>by
  cases h
  cases r
  exact⟨_,Reads.bool b⟩
 | .int i,_,_,h,r=>by
  cases h
  obtain⟨t,rfl⟩:=r
  exact⟨_,Reads.int i t⟩
 | .str x,_,_,h,r=>by
  cases h
  obtain⟨t,rfl⟩:=r
  exact⟨_,Reads.str x t⟩
 | .list ds,_,_,h,r=>by
  cases h with
  |lst hs ha=>
   cases r
   obtain⟨ak,rv,⟨o,n,ho,hc,_,hd⟩,_⟩:=I.list hs
   obtain⟨as,hr⟩:=Dp.readsAll I ds _ ak ha rv
   exact⟨_,Reads.list ho hc hd hr⟩
 | .tuple ds,_,_,h,r=>by
  cases h with
  |tup hs ha=>
   cases r
   obtain⟨ak,rv,⟨o,ho,hc,n,hd⟩,_⟩:=I.tuple hs
   obtain⟨as,hr⟩:=Dp.readsAll I ds _ ak ha rv
   exact⟨_,Reads.tuple ho hc hd hr⟩
 | .dict _,_,_,h,_=>by cases h
theorem Dp.readsAll(I:Inv X pins σ H s):∀(ds:List PyData)(vs:List V)(us:List Value),qt X.K H vs ds->Vals vs us->∃as,ReadsAll s.heap us ds as
 |[],_,_,h,r=>by
  cases h
  cases r
  exact⟨_,ReadsAll.nil⟩
 |d::ds,_,_,h,r=>by
  cases h with
  |cons h1 h2=>
   cases r with
   |cons r1 r2=>
    obtain⟨as,q1⟩:=Dp.reads I d _ _ h1 r1
    obtain⟨bs,q2⟩:=Dp.readsAll I ds _ _ h2 r2
    exact⟨_,ReadsAll.cons q1 q2⟩
end
end
section
variable{X:Cx}
def Um(K:ai):R2:=λx y H Q=>∃d e,Dp K H x d/\Dp K H y e/\Hh d=true/\Hh e=true/\Q (.bl (QE d e)) H
theorem Uo(hu:X.A.units+64<cLine):eh X (compareOp .Eq) (Um X.K):=by
 intro pins s σ H x y v u Q I rx ry h
 obtain⟨d,e,hd,he,sd,se,q⟩:=h
 obtain⟨as,r1⟩:=Dp.reads I d x v hd rx
 obtain⟨bs,r2⟩:=Dp.reads I e y u he ry
 exact SeqAt.compareEq_shaped r1 r2 sd se hu ⟨.bl _,H,I,rfl,q⟩
end
end L2
namespace L2
open PySem PySem.Spec PyProof.Rows
abbrev JJ(h:Heap)(c:Addr)(v:Option Value):Prop:=h.IsCell c v
def Up(scope sc:Scope):Scope:=
 {scope with names:=scope.names.map λ(n,k)=>if(k== .free&&sc.kind== .function&&sc.names.lookup n==some .cell)then(n,.cell)else(n,k)}
def fe(cells:List (Str×Addr)):List (Str×NameKind)->List (Str×Addr)->List (Str×Addr)
 |[],acc=>acc
 |(n,k)::r,acc=>if k== .free then fe cells r ((n,(cells.lookup n).getD 0)::acc)else fe cells r acc
theorem JK(env:Env)(f:Str×NameKind->List (Str×Addr)->Sem (ForInStep (List (Str×Addr))))
  (hf:∀n k c,f (n,k) c=if k== .free then(do let a<-cellOf env n;pure (.yield ((n,a)::c)))else pure (.yield c)):
  ∀(names:List (Str×NameKind))(acc:List (Str×Addr)),(∀y∈names,y.2=.free->∃c,env.cells.lookup y.1=some c)->forIn names acc f=pure (fe env.cells names acc)
 |[],acc,_=>by rw[List.forIn_nil];rfl
 |(n,k)::r,acc,h=>by
  rw[List.forIn_cons,hf]
  have ih:=λacc=>JK env f hf r acc λy hy=>h y (bR _ hy)
  unfold fe
  by_cases hk:(k==wY)=true
  ·rw[if_pos hk,if_pos hk]
   obtain⟨c,hc⟩:=h (n,k) bY (by simpa using hk)
   have e:cellOf env n=pure c:=by unfold cellOf;rw[hc]
   rw[e]
   have e2:(env.cells.lookup n).getD 0=c:=by rw[hc];rfl
   rw[e2]
   exact ih _
  ·rw[if_neg hk,if_neg hk]
   exact ih _
theorem Uq{scope:Scope}{env:Env}(h:∀y∈scope.names,y.2=.free->∃c,env.cells.lookup y.1=some c):closureFor scope env=pure (fe env.cells scope.names []):=by
 simp only[closureFor]
 rw[JK env _ (λn k c=>rfl) scope.names [] h]
 rfl
theorem mem_lookup{α:Type}:∀{l:List (Str×α)}{n:Str}{c:α},(n,c)∈l->∃c',l.lookup n=some c'
 |(k,v)::r,n,c,h=>by
  rw[ue]
  cases hb:n==k with
  |true=>exact⟨_,rfl⟩
  |false=>
   rcases bz.mp h with e|h
   ·cases e;simp at hb
   ·exact mem_lookup h
theorem ym{cells:List (Str×Addr)}:∀{names:List (Str×NameKind)}{acc:List (Str×Addr)}{n:Str}{c:Addr},(n,c)∈fe cells names acc->(n,c)∈acc\/((n,.free)∈names/\c=(cells.lookup n).getD 0)
 |[],_,_,_,h=>.inl h
 |(m,k)::r,acc,n,c,h=>by
  unfold fe at h
  split at h
  ·rename_i hk
   have hk:k=.free:=by simpa using hk
   rcases ym h with h|⟨h1,h2⟩
   ·rcases bz.mp h with e|h
    ·cases e;exact .inr ⟨hk▸bY,rfl⟩
    ·exact .inl h
   ·exact .inr ⟨bR _ h1,h2⟩
  ·rcases ym h with h|⟨h1,h2⟩
   ·exact .inl h
   ·exact .inr ⟨bR _ h1,h2⟩
theorem BL{cells:List (Str×Addr)}:∀{names:List (Str×NameKind)}{acc:List (Str×Addr)}{p:Str×Addr},p∈acc->p∈fe cells names acc
 |[],_,_,h=>h
 |(m,k)::r,acc,p,h=>by
  unfold fe
  split
  ·exact BL (bR _ h)
  ·exact BL h
theorem BM{cells:List (Str×Addr)}:∀{names:List (Str×NameKind)}{acc:List (Str×Addr)}{n:Str},(n,.free)∈names->(n,(cells.lookup n).getD 0)∈fe cells names acc
 |(m,k)::r,acc,n,h=>by
  unfold fe
  rcases bz.mp h with e|h
  ·cases e
   exact BL bY
  ·split
   ·exact BM h
   ·exact BM h
theorem uY:∀{names:List (Str×NameKind)}{h:Heap}{acc:List (Str×Addr)}{x:Str}{c:Addr},(x,c)∈cellsFrom h.objs.size names acc->
  (x,c)∈acc\/((x,.cell)∈names/\h.objs.size<=c/\JJ (pushCells h names) c none)
 |[],_,_,_,_,h=>.inl h
 |(n,k)::r,h,acc,x,c,hm=>by
  unfold cellsFrom at hm
  unfold pushCells
  split at hm
  ·rename_i hk
   rw[if_pos hk]
   have hk:k=.cell:=by simpa using hk
   rw[<-fD h {cls:=.type "cell",data:=.cell none}]at hm
   rcases uY hm with hm|⟨h1,h2,h3⟩
   ·rcases bz.mp hm with e|hm
    ·cases e
     exact .inr ⟨hk▸bY,aT _,_,pushCells_keeps r _ _ _ (dG _ rfl),rfl⟩
    ·exact .inl hm
   ·rw[fD]at h2
    exact .inr ⟨bR _ h1,GP h2,h3⟩
  ·rename_i hk
   rw[if_neg hk]
   rcases uY hm with hm|⟨h1,h2,h3⟩
   ·exact .inl hm
   ·exact .inr ⟨bR _ h1,h2,h3⟩
theorem yn:∀{names:List (Str×NameKind)}{n:Nat}{acc:List (Str×Addr)}{p:Str×Addr},p∈acc->p∈cellsFrom n names acc
 |[],_,_,_,h=>h
 |(m,k)::r,n,acc,p,h=>by
  unfold cellsFrom
  split
  ·exact yn (bR _ h)
  ·exact yn h
theorem BN:∀{names:List (Str×NameKind)}{n:Nat}{acc:List (Str×Addr)}{x:Str},(x,.cell)∈names->∃c,(x,c)∈cellsFrom n names acc
 |(m,k)::r,n,acc,x,h=>by
  unfold cellsFrom
  rcases bz.mp h with e|h
  ·cases e
   exact⟨n,yn bY⟩
  ·split
   ·exact BN h
   ·exact BN h
theorem BO:∀{names:List (Str×NameKind)}{h:Heap}{acc:List (Str×Addr)}{x y:Str}{c:Addr},(∀p∈acc,p.2<h.objs.size)->(∀x y c,(x,c)∈acc->(y,c)∈acc->x=y)->
  (x,c)∈cellsFrom h.objs.size names acc->(y,c)∈cellsFrom h.objs.size names acc->x=y
 |[],_,_,_,_,_,_,hi,h1,h2=>hi _ _ _ h1 h2
 |(n,k)::r,h,acc,x,y,c,hl,hi,h1,h2=>by
  unfold cellsFrom at h1 h2
  split at h1
  ·rename_i hk
   rw[if_pos hk]at h2
   rw[<-fD h {cls:=.type "cell",data:=.cell none}]at h1 h2
   refine BO (h:=h.push _) (λp hp=>?_) (λx y c a b=>?_) h1 h2
   ·rw[fD]
    rcases bz.mp hp with rfl|hp
    ·exact pP _
    ·exact jM (hl p hp)
   ·rcases bz.mp a with e|a<;>rcases bz.mp b with e'|b
    ·cases e;cases e';rfl
    ·cases e;exact absurd (hl _ b) (iP _)
    ·cases e';exact absurd (hl _ a) (iP _)
    ·exact hi _ _ _ a b
  ·rename_i hk
   rw[if_neg hk]at h2
   exact BO hl hi h1 h2
theorem Ur{M:Model}{A:Around}{E:Value->Shared->Prop}{s:Shared}{scope:Scope}{globals:Addr}{closure:List (Str×Addr)}{qual:Str}{func:Option Addr}{code:Value}{around:Env}{builtins:Addr}{Q:Env->Shared->Prop}
  (h:Q (newEnv scope s.heap.objs.size globals (cellsFrom (s.heap.objs.size+1) scope.names closure) qual func code (some around) builtins)
   {s with heap:=pushCells (s.heap.push {cls:=.type "dict",data:=.dict #[]}) scope.names}):
  wpAny M A (newFunctionEnv scope globals closure [] qual func code (some around) builtins) Q E s:=by
 simp only[newFunctionEnv,ahp,if_true]
 refine wpAny_bind (wpAny_alloc ?_)
 refine wpAny_bind (wpAny_layCells _ (λn k c=>rfl) scope.names closure _ _ ?_)
 rw[show({s with heap:=s.heap.push {cls:=.type "dict",data:=.dict #[]}}:Shared).heap.objs.size=s.heap.objs.size+1 from fD ..]
 rw[List.forIn_nil]
 exact wpAny_bind (wpAny_pure (wpAny_pure h))
theorem BP{sc:Scope}:∀{names:List (Str×NameKind)}{x:Str}{k:NameKind},
  (names.map λ(n,k)=>if(k==wY&&sc.kind== .function&&sc.names.lookup n==some .cell)then(n,Qi)else(n,k)).lookup x=some k->
  ∃k',names.lookup x=some k'/\(k=k'\/(k'=.free/\k=.cell))
 |[],_,_,h=>by simp at h
 |(n,uZ)::r,x,k,h=>by
  have ih:= @BP sc r x k
  have h':rO x ((if(uZ==wY&&sc.kind== .function&&sc.names.lookup n==some .cell)=true then(n,Qi)else(n,uZ))::(r.map _))=some k:=h
  cases hx:x==n with
  |true=>
   simp only[ue,hx]
   by_cases hc:(uZ==wY&&sc.kind== .function&&sc.names.lookup n==some .cell)=true
   ·rw[if_pos hc]at h'
    simp only[ue,hx]at h'
    cases h'
    simp only[iM,beq_iff_eq]at hc
    exact⟨uZ,rfl,.inr ⟨hc.1.1,rfl⟩⟩
   ·rw[if_neg hc]at h'
    simp only[ue,hx]at h'
    cases h'
    exact⟨_,rfl,.inl rfl⟩
  |false=>
   simp only[ue,hx]
   by_cases hc:(uZ==wY&&sc.kind== .function&&sc.names.lookup n==some .cell)=true
   ·rw[if_pos hc]at h'
    simp only[ue,hx]at h'
    exact ih h'
   ·rw[if_neg hc]at h'
    simp only[ue,hx]at h'
    exact ih h'
structure u0(N:List Str)(sc scope:Scope)(own:List (Str×Nat)):Prop where
 kind:scope.kind=.function
 uniq:∀y∈scope.names,scope.names.lookup y.1=some y.2
 ix:∀p∈own,N[p.2]? =some p.1
 free:∀y∈scope.names,y.2=.free->sc.names.lookup y.1=some .cell\/sc.names.lookup y.1=some .free
 own:∀y∈scope.names,y.2=.local\/y.2=.cell->y.1∈own.map (·.1)\/y.1∉N
def wipe(σ:St):List Nat->St
 |[]=>σ
 |v::vs=>(wipe σ vs).set v none
theorem BQ(σ:St):∀vs:List Nat,(wipe σ vs).length=σ.length
 |[]=>rfl
 |v::vs=>by unfold wipe;rw[jO,BQ σ vs]
theorem BR{σ:St}{i:Nat}{x:V}:∀{vs:List Nat},(wipe σ vs)[i]? =some (some x)->σ[i]? =some (some x)/\i∉vs
 |[],h=>⟨h,by simp⟩
 |v::vs,h=>by
  unfold wipe at h
  by_cases hi:v=i
  ·subst hi
   by_cases hv:v<(wipe σ vs).length
   ·rw[pJ hv]at h;cases h
   ·rw[PH (by simpa using hv)]at h;cases h
  ·rw[pL hi]at h
   obtain⟨h1,h2⟩:=BR h
   exact⟨h1,by simp only[bz,not_or];exact⟨λe=>hi e.symm,h2⟩⟩
abbrev Cx.fO(X:Cx)(s:Shared)(H:Hp)(scope:Scope)(dv:Env)(fp:List Addr):Cx:={X with dH:=s,uD:=H,env:=dv,outer:=X.stack,ex:=fp,fn:=λx=>scope.names.lookup x==some .cell,pn:=[],xe:=λ_ _=>False}
section
variable{X:Cx}{pins:List (Addr×Obj)}{σ:St}{H:Hp}{s:Shared}
theorem Us{scope:Scope}{own:List (Str×Nat)}{fp:List Addr}(I:Inv X pins σ H s)(ok:u0 X.N X.env.scope scope own)(hN:X.N.Nodup)(qu:∀b∈fp,kN X pins H b/\b<s.heap.objs.size):
  Inv (X.fO s H scope (compEnvC scope (cellsFrom (s.heap.objs.size+1) scope.names (fe X.env.cells scope.names [])) s.heap.objs.size X.env) fp) [] (wipe σ (own.map (·.2))) H {s with heap:=pushCells (s.heap.push {cls:=.type "dict",data:=.dict #[]}) scope.names}:=by
 have si:∀y∈scope.names,y.2=.free->∃c,X.env.cells.lookup y.1=some c:=λy hy e=>by
  rcases ok.free y hy e with k|k
  ·exact I.ok.has _ (.inl k)
  ·exact I.ok.has _ (.inr k)
 generalize u4:compEnvC scope (cellsFrom (s.heap.objs.size+1) scope.names (fe X.env.cells scope.names [])) s.heap.objs.size X.env=dv
 have kp:∀b o,s.heap.get? b=some o->(pushCells (s.heap.push {cls:=.type "dict",data:=.dict #[]}) scope.names).get? b=some o:=λb o e=>pushCells_keeps _ _ _ _ (bH _ e)
 have hL:dv.locals=s.heap.objs.size:=by rw[<-u4];rfl
 have qv:dv.cells=cellsFrom (s.heap.objs.size+1) scope.names (fe X.env.cells scope.names []):=by rw[<-u4];rfl
 have BS:dv.scope=Up scope X.env.scope:=by rw[<-u4];rfl
 rw[<-fD s.heap {cls:=.type "dict",data:=.dict #[]}]at qv
 have cm:∀{y c},(y,c)∈fe X.env.cells scope.names []->X.env.cells.lookup y=some c/\c<s.heap.objs.size:=λ{y c} hm=>by
  rcases ym hm with hm|⟨h1,rfl⟩
  ·cases hm
  ·obtain⟨c,hc⟩:=si _ h1 rfl
   rw[hc]
   obtain⟨w,z⟩:=I.cell _ _ hc
   exact⟨rfl,z.lt⟩
 have mem:∀{y c},dv.cells.lookup y=some c->(X.env.cells.lookup y=some c/\c<s.heap.objs.size)\/(s.heap.objs.size+1<=c/\JJ (pushCells (s.heap.push {cls:=.type "dict",data:=.dict #[]}) scope.names) c none):=λ{y c} e=>by
  rw[qv]at e
  rcases uY (jf e)with hm|⟨_,h2,h3⟩
  ·exact .inl (cm hm)
  ·rw[fD]at h2;exact .inr ⟨h2,h3⟩
 have look:∀{y},scope.names.lookup y=some .free->∃c,dv.cells.lookup y=some c/\X.env.cells.lookup y=some c:=λ{y} hl=>by
  have hy:(y,wY)∈scope.names:=jf hl
  obtain⟨c',e'⟩:=mem_lookup (yn (names:=scope.names) (n:=(s.heap.push {cls:=.type "dict",data:=.dict #[]}).objs.size) (BM (cells:=X.env.cells) (acc:=[]) hy))
  rw[<-qv]at e'
  refine⟨c',e',?_⟩
  rw[qv]at e'
  rcases uY (jf e')with hm|⟨h1,_,_⟩
  ·exact(cm hm).1
  ·have:=ok.uniq _ h1
   rw[hl]at this;cases this
 have Ut:(X.fO s H scope dv fp).Ok:=by
  refine⟨I.ok.mod,by show dv.scope.kind=_;rw[BS];exact ok.kind,by show dv.globals=_;rw[<-u4];exact I.ok.glob,by show dv.builtins=_;rw[<-u4];exact I.ok.blt,by show s.heap.objs.size<=dv.locals;rw[hL];exact aT _,
   λy z c e1 e2=>?_,λy hy=>?_,λy c z e=>?_,I.ok.hd,I.ok.frames,.inl rfl,λb hb=>⟨?_,λy c e z=>?_⟩,I.bs,cp I.ok.jl I.sz,λb o e hb=>?_,λb hb z=>?_,I.stack,I.A9⟩
  ·have e1:dv.cells.lookup y=some c:=e1
   have e2:dv.cells.lookup z=some c:=e2
   rw[qv]at e1 e2
   refine BO (λp hp=>?_) (λy z c a b=>I.ok.inj y z c (cm a).1 (cm b).1) (jf e1) (jf e2)
   rw[fD]
   exact jM (cm (y:=p.1) (c:=p.2) hp).2
  ·show ∃c,dv.cells.lookup y=some c
   have key:∀k,dv.kindOf y=some k->(k=.cell\/k=.free)->∃c,dv.cells.lookup y=some c:=λk hk rV=>by
    unfold Env.kindOf at hk
    rw[BS]at hk
    obtain⟨k',e,r⟩:=BP hk
    have:k'=.cell\/k'=.free:=by
     rcases r with rfl|⟨rfl,_⟩
     ·exact rV
     ·exact .inr rfl
    rcases this with rfl|rfl
    ·obtain⟨c,hm⟩:=BN (n:=(s.heap.push {cls:=.type "dict",data:=.dict #[]}).objs.size) (acc:=fe X.env.cells scope.names []) (jf e)
     obtain⟨c',e'⟩:=mem_lookup hm
     exact⟨c',by rw[qv];exact e'⟩
    ·obtain⟨c,h1,_⟩:=look e
     exact⟨c,h1⟩
   rcases hy with hy|hy
   ·exact key _ hy (.inl rfl)
   ·exact key _ hy (.inr rfl)
  ·have z:(scope.names.lookup y==some Qi)=true:=z
   have z:scope.names.lookup y=some .cell:=by simpa using z
   have e:dv.cells.lookup y=some c:=e
   rw[qv]at e
   rcases uY (jf e)with hm|⟨_,h2,_⟩
   ·rcases ym hm with hm|⟨h1,_⟩
    ·cases hm
    ·have q:=ok.uniq _ h1
     rw[z]at q;cases q
   ·rw[fD]at h2
    exact GP h2
  ·show b≠dv.locals
   rw[hL];exact cV (qu b hb).2
  ·have e:dv.cells.lookup y=some c:=e
   rcases mem e with⟨h1,_⟩|⟨h1,_⟩
   ·exact(qu b hb).1.2.2.2.2.1 y c h1 z
   ·have h2:s.heap.objs.size+1<=b:=by rw[<-z];exact h1
    exact absurd (eM (qu b hb).2 (GP h2)) (iP _)
  ·rcases(qu b hb).1.2.2.2.1 with z|z
   ·exact I.ok.m5 b o e z
   ·exact absurd (eM (bO e) (cp I.ok.jl z)) (iP _)
  ·rcases bz.mp (I.xH b z)with z|z
   ·exact(qu b hb).1.2.1 z
   ·exact(qu b hb).1.2.2.1 z
 refine⟨Ut,rfl,I.bare,Un.kept kp,⟨λ_=>none,?_,λi y av e1 e2 e3=>?_⟩,λy c e=>?_,?_,λy c e=>?_,λp hp=>?_,I.az.kept kp,by rw[BQ];exact I.len⟩
 ·show Heap.Ns _ dv.locals _
  rw[hL]
  exact Heap.Ns.keeps (Heap.Ns.new ..) λb o e=>pushCells_keeps _ _ _ _ e
 ·obtain⟨e2,a8⟩:=BR e2
  have gY:scope.names.lookup y=some .free/\(dv.kindOf y=some .cell\/dv.kindOf y=some .free):=by
   have key:∀k,dv.scope.names.lookup y=some k->k=.local\/k=.cell\/k=.free->scope.names.lookup y=some .free/\(dv.kindOf y=some .cell\/dv.kindOf y=some .free):=λk hk rV=>by
    have JL:=hk
    rw[BS]at hk
    obtain⟨k',e,r⟩:=BP hk
    have no:¬(k'=.local\/k'=.cell):=λhh=>by
     rcases ok.own _ (jf e) hh with e'|e'
     ·obtain⟨p,hp,Uu⟩:=cJ.mp e'
      have e3:=ok.ix p hp
      have:p.1=y:=Uu
      rw[this]at e3
      exact a8 (cJ.mpr ⟨p,hp,xI hN e3 e1⟩)
     ·exact e' (bL e1)
    rcases r with rfl|⟨rfl,rfl⟩
    ·rcases rV with rfl|rfl|rfl
     ·exact absurd (.inl rfl) no
     ·exact absurd (.inr rfl) no
     ·exact⟨e,.inr JL⟩
    ·exact⟨e,.inl JL⟩
   have e3:uE dv.scope y:=e3
   rcases e3 with e3|e3|e3
   ·exact key _ e3 (.inl rfl)
   ·exact key _ e3 (.inr (.inl rfl))
   ·exact key _ e3 (.inr (.inr rfl))
  obtain⟨m,hn,hl⟩:=I.loc
  have Uv:uE X.env.scope y:=(ok.free _ (jf gY.1) rfl).elim (λk=>.inr (.inl k)) (λk=>.inr (.inr k))
  obtain⟨w,r,q⟩:=hl i y av e1 e2 Uv
  refine⟨w,r,.inr ⟨gY.2,?_⟩⟩
  obtain⟨c,h1,h2⟩:=look gY.1
  rcases q with⟨k,_⟩|⟨_,c',e',z⟩
  ·have k:X.env.scope.names.lookup y=some .local:=k
   rcases ok.free _ (jf gY.1) rfl with k'|k'<;>rw[show X.env.scope.names.lookup y=_ from k']at k<;>cases k
  ·rw[h2]at e';cases e'
   exact⟨c,h1,z.keeps kp⟩
 ·have e:dv.cells.lookup y=some c:=e
  rcases mem e with⟨h1,_⟩|⟨_,z⟩
  ·obtain⟨w,z⟩:=I.cell y c h1
   exact⟨w,z.keeps kp⟩
  ·exact⟨_,z⟩
 ·show H dv.locals=none
  rw[hL];exact I.az.fresh (aT _)
 ·have e:dv.cells.lookup y=some c:=e
  rcases mem e with⟨h1,_⟩|⟨h1,_⟩
  ·exact I.fK y c h1
  ·exact I.az.fresh (GP h1)
 ·exact absurd (show p∈([]:List (Addr×Obj))++[]from hp) (by simp)
theorem Uw{E:Value->Shared->Prop}{D:Addr}{xs:List V}{y:V}{v:Value}{Q:Value->Shared->Prop}(I:Inv X pins σ H s)(hD:H D=some (.lst xs))(hz:xs.length<sizeLine)(r:RelV y v)
  (h:∀s',Inv X pins σ (upd H D (.lst (xs++[y]))) s'->Q .none s'):wpAny (model X.prog X.w) X.A (call (.builtin "list.append") [.ref D,v]) Q E s:=by
 obtain⟨JM,ak,n,ri,e⟩:=I.az D _ hD
 have hl:=ri.length
 refine append_at (hsz:=by rw[cI];omega) e λh' sb ip=>?_
 refine h {s with heap:=h'} (I.write (t':=s.toks) (by rw[hD];trivial) (.inl rfl) (λb u hb q=>(sb.2 b hb).trans q) ⟨_,ip⟩ ⟨by rw[bf];exact hz,ak++[v],n+1,ri.append (.cons r .nil),?_⟩)
 rw[ip]
 simp
def u5(X:Cx)(ifs:List Expr)(t:TT):Prop:=
 ∀(pins:List (Addr×Obj))(s:Shared)(σ:St)(H:Hp)(Q:Bool->Hp->Prop),Inv X pins σ H s->t σ H Q->
  wpAny (model X.prog X.w) X.A (forIn ifs true λc r=>if r=true then do let ok<-isTrue c X.env (eval c X.env);pure (GQ ok)else pure (GQ r)) (TP X pins σ Q) X.xe s
def JN:TT:=λ_ H Q=>Q true H
theorem qw:u5 X [] JN:=λ_ _ _ H _ I h=>wpAny_tests_nil ⟨H,I,h⟩
theorem oS{c:Expr}{t:TT}(h:PT X c t):u5 X [c] t:=λpins s σ H Q I hw=>wpAny_tests_one (h pins s σ H Q I hw)
end
theorem sF{α:Type}{t:Sem α}{Q Q':α->Shared->Prop}{M:Model}{A:Around}{E:Value->Shared->Prop}{s:Shared}(h:wpAny M A t Q (λ_ _=>False) s)(hQ:∀a s,Q a s->Q' a s):wpAny M A t Q' E s:=wpAny_mono h hQ λ_ _ z=>fE z
theorem Ux{prog:Program}{w:World}{A:Around}{R:Result->Shared->Prop}{s:Shared}{elt target iter:Expr}{ifs:List Expr}{scope:Scope}{pos:Pos}{it acc:Value}{env:Env}(I:Nat->Shared->Prop)
  (turn:∀n s,I n s->wpAny (model prog w) A (pyNext it) (λr bA=>match r with
   |none=>R (.ok .next) bA
   |some v=>wpAny (model prog w) A (letOwnedTupleGo target it v) (λ_ JO=>wpAny (model prog w) A (assign target env v) (λ_ iS=>
     wpAny (model prog w) A (forIn ifs true λc r=>if r=true then do let ok<-isTrue c env (eval c env);pure (GQ ok)else pure (GQ r)) (λok sG=>
      if ok=true then wpAny (model prog w) A (eval elt env) (λx JP=>
       wpAny (model prog w) A (call (.builtin "list.append") [acc,x]) (λ_ JQ=>∃m,m<n/\I m JQ) (notedBy (model prog w) A env λe s'=>R (.error e) s') JP) (notedBy (model prog w) A env λe s'=>R (.error e) s') sG
      else ∃m,m<n/\I m sG) (notedBy (model prog w) A env λe s'=>R (.error e) s') iS) (notedBy (model prog w) A env λe s'=>R (.error e) s') JO) (notedBy (model prog w) A env λe s'=>R (.error e) s') bA) (notedBy (model prog w) A env λe s'=>R (.error e) s') s)
  (n:Nat) (h:I n s):
  codeAny (model prog w) A (.compLoop (.ListComp elt [⟨target,iter,ifs,0⟩] scope pos) 0 it acc env) R s:=by
 refine codeAny_loop rfl I (λn s hI=>?_) n h
 show wpAny _ A ((compTurn (.ListComp elt [⟨target,iter,ifs,0⟩] scope pos) 0 it acc env).onRaise (λx=>do noteFrame x env;theTreesLotGoes x)) _ _ s
 refine wpAny_noted ?_
 rw[compTurn_list]
 refine wpAny_bind (wpAny_standAt (wpAny_bind (wpAny_mono (turn n s hI) (λr bA yo=>?_) λ_ _ h'=>h')))
 cases r with
 |none=>exact wpAny_pure yo
 |some v=>
  refine wpAny_bind (wpAny_mono yo (λ_ JO Uy=>?_) λ_ _ h'=>h')
  refine wpAny_bind (wpAny_mono Uy (λ_ iS u6=>wpAny_bind (wpAny_mono u6 (λok sG yp=>?_) λ_ _ h'=>h')) λ_ _ h'=>h')
  cases ok with
  |false=>exact wpAny_pure ⟨rfl,yp⟩
  |true=>
   exact wpAny_bind (wpAny_bind (wpAny_mono yp (λx JP Uz=>wpAny_bind (wpAny_mono Uz (λ_ JQ UA=>wpAny_pure (wpAny_pure ⟨rfl,UA⟩)) λ_ _ h'=>h')) λ_ _ h'=>h'))
section
variable{X:Cx}
def yq(wi:TI)(g:TG)(tt:TT)(te:TE)(vs:List Nat):TE:=λσ H Q=>wi σ H λJ H1=>∀D,H1 D=none->∃W:Nat->Nat->Hp->Prop,(∃m,W 0 m (upd H1 D (.lst [])))/\∀i m H,W i m H->
 (J.stop i H/\Q (.ref D) H)\/(J.go i H/\∃Nx:Hp->Prop,(∀H',Nx H'->∃m',m'<m/\W (i+1) m' H')/\∀x H',J.kM i H x H'->g x (wipe σ vs) H' λσ2 H2=>wipe σ2 vs=wipe σ vs/\tt σ2 H2 λb H3=>
  if b=true then te σ2 H3 λy H4=>∃acc,H4 D=some (.lst acc)/\acc.length<sizeLine/\Nx (upd H4 D (.lst (acc++[y])))else Nx H3)
theorem JR{pins:List (Addr×Obj)}{s:Shared}{σ:St}{H:Hp}{Q:VK}{elt tg iter:Expr}{ifs:List Expr}{scope:Scope}{own:List (Str×Nat)}{pos pos':Pos}{wi:TI}{g:TG}{tt:TT}{te:TE}{use:Option (Value->Sem Unit)}{Qf:Value->Shared->Prop}
  (hc:X.calm=true) (hN:X.N.Nodup) (I:Inv X pins σ H s) (hi:PI X tg iter wi) (ok:u0 X.N X.env.scope scope own)
  (hg:∀(s:Shared)(H:Hp)(C:Addr)(cl:List (Str×Addr))(fp:List Addr),PG (X.fO s H scope (compEnvC scope cl C X.env) fp) tg g) (ht:∀(s:Shared)(H:Hp)(C:Addr)(cl:List (Str×Addr))(fp:List Addr),u5 (X.fO s H scope (compEnvC scope cl C X.env) fp) ifs tt)
  (he:∀(s:Shared)(H:Hp)(C:Addr)(cl:List (Str×Addr))(fp:List Addr),PE (X.fO s H scope (compEnvC scope cl C X.env) fp) elt te) (hs:∀x,foldedSetIterable iter X.env x=pure x)
  (h:yq wi g tt te (own.map (·.2)) σ H Q)
  (UB:∀D C s' m H',Inv X pins σ H' s'->Q (.ref D) H'->s'.heap.Ns C m->kN X pins H' C->compPost (model X.prog X.w) X.A X.xe use Qf (.ref D) C (.ok .next) s'):
  wpAny (model X.prog X.w) X.A (comprehension (.ListComp elt [⟨tg,iter,ifs,0⟩] scope pos) scope X.env pos' (newList []) false (eval iter X.env) use) Qf X.xe s:=by
 have si:∀y∈scope.names,y.2=.free->∃c,X.env.cells.lookup y.1=some c:=λy hy e=>by
  rcases ok.free y hy e with k|k
  ·exact I.ok.has _ (.inl k)
  ·exact I.ok.has _ (.inr k)
 refine wpAny_comprehension_free (use:=use) rfl hs (Uq si) ok.kind (λy hy e=>by rw[ok.uniq y hy,e])
  (aR (hi pins s σ H _ I h) λxv s1 hx=>aR hx λBh s2 h2=>?_)
 obtain⟨it,fp,tn,J,H2,e,I2,T,xT,f2,q⟩:=h2
 subst e
 refine wpAny_newObj_type (Ur ?_) (by show 0<=sizeLine;decide)
 generalize hD:s2.heap.objs.size=D
 have UC:H2 D=none:=I2.az.fresh (As hD)
 obtain⟨W,⟨m0,w0⟩,turn⟩:=q D UC
 generalize JS:({s2 with heap:=s2.heap.push {cls:=.type "list",data:=.seq ([]:List Value).toArray}}:Shared)=s3
 have I3:Inv X pins σ (upd H2 D (.lst [])) s3:=by
  rw[<-JS]
  refine I2.laid (t':=s2.toks) (λb o e=>bH _ e) (As hD) ⟨cw _,[],0,.nil,?_⟩
  rw[<-hD]
  exact dG _ rfl
 have h3:s3.heap=s2.heap.push {cls:=.type "list",data:=.seq ([]:List Value).toArray}:=by rw[<-JS]
 have sz:∀b∈fp,b<s2.heap.objs.size:=λb hb=>by
  obtain⟨o,e,_⟩:=T.obj _ _ xT b hb
  exact bO e
 have f3:∀b∈fp,kN X pins (upd H2 D (.lst [])) b/\b<s3.heap.objs.size:=λb hb=>by
  have aV:=sz b hb
  refine⟨⟨?_,(f2 b hb).2⟩,by rw[h3,fD];exact jM aV⟩
  rw[ao (by rw[<-hD];exact cV aV)]
  exact(f2 b hb).1
 have xU:tn 0 s3.heap:=T.keep _ _ _ xT λb _ o e=>by rw[h3];exact bH _ e
 have I4:=Us I3 ok hN f3
 have pg:=hg s3 (upd H2 D (.lst [])) s3.heap.objs.size (cellsFrom (s3.heap.objs.size+1) scope.names (fe X.env.cells scope.names [])) fp
 have pt:=ht s3 (upd H2 D (.lst [])) s3.heap.objs.size (cellsFrom (s3.heap.objs.size+1) scope.names (fe X.env.cells scope.names [])) fp
 have pe:=he s3 (upd H2 D (.lst [])) s3.heap.objs.size (cellsFrom (s3.heap.objs.size+1) scope.names (fe X.env.cells scope.names [])) fp
 show codeAny _ _ (.compStart (.ListComp elt [⟨tg,iter,ifs,0⟩] scope pos) 0 (.ref it) (.ref D) (compEnvC scope (cellsFrom (s3.heap.objs.size+1) scope.names (fe X.env.cells scope.names [])) s3.heap.objs.size X.env)) (compPost (model X.prog X.w) X.A X.xe use Qf (.ref D) s3.heap.objs.size) {s3 with heap:=pushCells (s3.heap.push {cls:=.type "dict",data:=.dict #[]}) scope.names}
 have JT:∀b∈fp,(upd H2 D (.lst [])) b=none:=λb hb=>(f3 b hb).1.1
 generalize BU:compEnvC scope (cellsFrom (s3.heap.objs.size+1) scope.names (fe X.env.cells scope.names [])) s3.heap.objs.size X.env=ce at I4 pg pt pe⊢
 have cL:ce.locals=s3.heap.objs.size:=by subst BU;rfl
 generalize sI:upd H2 D (.lst [])=H3 at I3 I4 pg pt pe w0 JT f3
 generalize UD:({s3 with heap:=pushCells (s3.heap.push {cls:=.type "dict",data:=.dict #[]}) scope.names}:Shared)=s4 at I4⊢
 have JU:tn 0 s4.heap:=T.keep _ _ _ xU λb _ o e=>by rw[<-UD];exact pushCells_keeps _ _ _ _ (bH _ e)
 have qj:∀{σ':St}{H':Hp}{s':Shared},Inv (X.fO s3 H3 scope ce fp) [] σ' H' s'->(∀b∈fp,H' b=none)->∀b∈fp,kN (X.fO s3 H3 scope ce fp) [] H' b:=λ{σ' H' s'} I' hn b hb=>
  ⟨hn b hb,(I'.ok.oH b hb).1,I'.ok.m6 b hb,.inl hb,λx c e=>(I'.ok.oH b hb).2 x c e,λp hp=>absurd (show p∈([]:List (Addr×Obj))++[]from hp) (by simp)⟩
 have loop:codeAny (model X.prog X.w) X.A (.compLoop (.ListComp elt [⟨tg,iter,ifs,0⟩] scope pos) 0 (.ref it) (.ref D) ce) (compPost (model X.prog X.w) X.A X.xe use Qf (.ref D) s3.heap.objs.size) s4:=by
  refine Ux (λn s'=>∃i H',Inv (X.fO s3 H3 scope ce fp) [] (wipe σ (own.map (·.2))) H' s'/\tn i s'.heap/\(∀b∈fp,H' b=none)/\W i n H') ?_ m0 ⟨0,H3,I4,JU,JT,w0⟩
  rintro n s5 ⟨i,H5,I5,sy,n5,w5⟩
  rcases turn i n H5 w5 with⟨stop,qq⟩|⟨go,Nx,UE,step⟩
  ·have td:=T.done (X.fO s3 H3 scope ce fp) rfl rfl rfl hc i [] s5 _ H5 (λ_ _=>False) I5 (qj I5 n5) sy stop
   refine sF td λr s6 ⟨hr,I6⟩=>?_
   subst hr
   have I7:Inv X pins σ H5 s6:=I3.xJ (ch:=fp) I6.os I6.base I6.az I6.bare λb hb=>⟨(f3 b hb).1.2.2.2.1,(f3 b hb).1.2.1,(f3 b hb).1.2.2.2.2.1,(f3 b hb).1.2.2.2.2.2⟩
   have nC:H5 s3.heap.objs.size=none:=by
    have z:H5 ce.locals=none:=I6.free
    rw[cL]at z
    exact z
   obtain⟨m,hn,_⟩:=I6.loc
   have hn:s6.heap.Ns ce.locals m:=hn
   rw[cL]at hn
   exact UB D s3.heap.objs.size s6 m H5 I7 qq hn (I3.sv (aT _) nC)
  ·have ti:=T.item (X.fO s3 H3 scope ce fp) rfl rfl rfl hc i [] s5 _ H5 (λ_ _=>False) I5 (qj I5 n5) sy go
   refine sF ti λr s6 ⟨u,hr,h6⟩=>?_
   subst hr
   refine sF h6 λ_ s7 ⟨x,H7,I7,r7,y7,BV,n7⟩=>?_
   have UG:=I7.pinned (qj I7 n7) (T.obj _ _ BV)
   refine sF (pg _ s7 _ H7 x u _ UG r7 (step x H7 y7)) λ_ s8 ⟨σ8,H8,I8,JV,q8⟩=>?_
   refine sF (pt _ s8 σ8 H8 _ I8 q8) λb s9 ⟨H9,I9,q9⟩=>?_
   have fin:∀{s':Shared}{H':Hp},Inv (X.fO s3 H3 scope ce fp) ([]++uM fp s7.heap) σ8 H' s'->Nx H'->∃m,m<n/\∃i H',Inv (X.fO s3 H3 scope ce fp) [] (wipe σ (own.map (·.2))) H' s'/\tn i s'.heap/\(∀b∈fp,H' b=none)/\W i m H':=λ{s' H'} I' nx=>by
    obtain⟨m',hm,w'⟩:=UE H' nx
    have JW:∀b∈fp,∀o,s7.heap.get? b=some o->s'.heap.get? b=some o/\H' b=none:=λb hb o e=>
     let z:=I'.pin (b,o) (eL _ (eL _ (Bi hb e)))
     ⟨z.1,z.2.1⟩
    have hl:(wipe σ (own.map (·.2))).length=σ8.length:=by rw[<-JV,BQ]
    refine⟨m',hm,i+1,H',(I'.xS (pins:=[])).weak hl (λj v e=>?_),T.keep _ _ _ BV λb hb o e=>(JW b hb o e).1,λb hb=>?_,w'⟩
    ·rw[<-JV]at e
     exact(BR e).1
    ·obtain⟨o,e,_⟩:=T.obj _ _ BV b hb
     exact(JW b hb o e).2
   cases b with
   |false=>
    simp only[Bool.false_eq_true,if_false]at q9⊢
    exact fin I9 q9
   |true=>
    simp only[if_true]at q9⊢
    refine sF (pe _ s9 σ8 H9 _ I9 q9) λz oU ⟨yv,iV,UH,u7,acc,UI,UJ,nx⟩=>?_
    exact Uw (X:=X.fO s3 H3 scope ce fp) UH UI UJ u7 λfm UK=>fin UK nx
 exact codeAny_compStart_list loop (T.self X.A 0 _ _ _ JU loop)
theorem nu{elt tg iter:Expr}{ifs:List Expr}{scope:Scope}{own:List (Str×Nat)}{pos:Pos}{wi:TI}{g:TG}{tt:TT}{te:TE}(hc:X.calm=true)(hN:X.N.Nodup)(hi:PI X tg iter wi)(ok:u0 X.N X.env.scope scope own)
  (hg:∀(s:Shared)(H:Hp)(C:Addr)(cl:List (Str×Addr))(fp:List Addr),PG (X.fO s H scope (compEnvC scope cl C X.env) fp) tg g) (ht:∀(s:Shared)(H:Hp)(C:Addr)(cl:List (Str×Addr))(fp:List Addr),u5 (X.fO s H scope (compEnvC scope cl C X.env) fp) ifs tt)
  (he:∀(s:Shared)(H:Hp)(C:Addr)(cl:List (Str×Addr))(fp:List Addr),PE (X.fO s H scope (compEnvC scope cl C X.env) fp) elt te) (hs:∀x,foldedSetIterable iter X.env x=pure x:=by intro _;rfl):
  PE X (.ListComp elt [⟨tg,iter,ifs,0⟩] scope pos) (yq wi g tt te (own.map (·.2))):=by
 intro pins s σ H Q I h
 rw[eval_ListComp]
 refine JR hc hN I hi ok hg ht he hs h λD C s' m H' I' q hn f=>⟨m,hn,λyr sb=>?_⟩
 obtain⟨f0,f1,f2,f3,f4,f5⟩:=f
 exact⟨.ref D,H',I'.turned (t':=s'.toks) (λb o hb e=>(sb.2 b hb).trans e) f0 f1 f3 f4 f5,rfl,q⟩
theorem sJ{i:Nat}{y:Str}{py:Pos}{elt tg iter:Expr}{ifs:List Expr}{scope:Scope}{own:List (Str×Nat)}{pos JX:Pos}{wi:TI}{g:TG}{tt:TT}{te:TE}(hc:X.calm=true)(hN:X.N.Nodup)(hy:X.N[i]? =some y)(JY:X.env.scope.names.lookup y=some .local)
  (UL:swapsWith (.ListComp elt [⟨tg,iter,ifs,0⟩] scope pos) (some (.Name y py)) JX.line X.env=pure true) (hi:PI X tg iter wi) (ok:u0 X.N X.env.scope scope own)
  (hg:∀(s:Shared)(H:Hp)(C:Addr)(cl:List (Str×Addr))(fp:List Addr),PG (X.fO s H scope (compEnvC scope cl C X.env) fp) tg g) (ht:∀(s:Shared)(H:Hp)(C:Addr)(cl:List (Str×Addr))(fp:List Addr),u5 (X.fO s H scope (compEnvC scope cl C X.env) fp) ifs tt)
  (he:∀(s:Shared)(H:Hp)(C:Addr)(cl:List (Str×Addr))(fp:List Addr),PE (X.fO s H scope (compEnvC scope cl C X.env) fp) elt te) (hs:∀x,foldedSetIterable iter X.env x=pure x:=by intro _;rfl):
  PS X (.Assign [.Name y py] (.ListComp elt [⟨tg,iter,ifs,0⟩] scope pos) JX) (sr (yq wi g tt te (own.map (·.2))) (m8 i)):=by
 intro pins s σ H D I h
 rw[exec_Assign_Name_used _ _ _ _ UL]
 refine wpAny_bind (wpAny_standAt (wpAny_bind ?_))
 show wpAny _ X.A (do let _<-comprehension (.ListComp elt [⟨tg,iter,ifs,0⟩] scope pos) scope X.env (firstIterPos [⟨tg,iter,ifs,0⟩] pos) (newList []) false (eval iter X.env) (some (assign (.Name y py) X.env))) _ _ s
 have h:yq wi g tt te (own.map (·.2)) σ H (λx H1=>m8 i x σ H1 D.nx):=h
 refine wpAny_bind (aR (JR (Qf:=λ_ s'=>SP X pins D .next s') hc hN I hi ok hg ht he hs h λL C s' m H' I' q hn f=>?_) λ_ s' hq=>wpAny_pure (wpAny_pure hq))
 show wpAny _ _ (assign (.Name y py) X.env (.ref L)) _ _ _
 refine wpAny_assign_Name (IM (v:=V.ref L) I' hN hy (.inl JY) rfl (λs2 I2 ⟨a,sb,ha⟩=>?_) (.inr JY))
 obtain⟨f0,f1,f2,f3,f4,f5⟩:=f
 have UM:C≠a:=by
  rcases ha with z|z
  ·rw[z];exact f1
  ·exact λe=>f4 y a z e.symm
 refine⟨m,hn.sameBut sb UM,λh3 UN=>?_⟩
 exact⟨_,H',I2.turned (t':=s2.toks) (λb o hb e=>(UN.2 b hb).trans e) f0 f1 f3 f4 f5,q⟩
theorem sL{elt:Expr}{gs:List Comprehension}{scope:Scope}{pos py:Pos}{y:Str}{l:Nat}{env:Env}(hk:env.scope.kind=.function)(hy:env.scope.names.lookup y=some .local)(hl:(py.line==pos.line)=true)
  (ha:(scope.names.any λ(n,k)=>n==y&&(k== .local||k== .cell))=false):swapsWith (.ListComp elt gs scope pos) (some (.Name y py)) l env=pure true:=by
 have ky:env.kindOf y=some .local:=hy
 have hb:env.blockKind=.function:=by unfold Env.blockKind;rw[hk];rfl
 unfold swapsWith
 simp only[hb,ky,ha,Expr.pos,hl]
 rfl
end
theorem j6{K:ai}{a:Addr}{xs:List V}{g:TG}{tt:TT}{te:TE}{vs:List Nat}{σ:St}{H1:Hp}{D:Addr}{Qd:Hp->Prop}(Pv:Nat->Hp->Prop)(h0:Pv 0 (upd H1 D (.lst [])))(hl:∀i H,i<=xs.length->Pv i H->ah K H a xs)
  (hs:∀i x H,xs[i]? =some x->Pv i H->g x (wipe σ vs) H λσ2 H2=>wipe σ2 vs=wipe σ vs/\tt σ2 H2 λb H3=>
   if b=true then te σ2 H3 λy H4=>∃acc,H4 D=some (.lst acc)/\acc.length<sizeLine/\Pv (i+1) (upd H4 D (.lst (acc++[y])))else Pv (i+1) H3) (hd:∀H,Pv xs.length H->Qd H):
  ∃W:Nat->Nat->Hp->Prop,(∃m,W 0 m (upd H1 D (.lst [])))/\∀i m H,W i m H->
   ((oP K a).stop i H/\Qd H)\/((oP K a).go i H/\∃Nx:Hp->Prop,(∀H',Nx H'->∃m',m'<m/\W (i+1) m' H')/\∀x H',(oP K a).kM i H x H'->g x (wipe σ vs) H' λσ2 H2=>wipe σ2 vs=wipe σ vs/\tt σ2 H2 λb H3=>
    if b=true then te σ2 H3 λy H4=>∃acc,H4 D=some (.lst acc)/\acc.length<sizeLine/\Nx (upd H4 D (.lst (acc++[y])))else Nx H3):=by
 refine⟨λi m H=>m=xs.length-i/\i<=xs.length/\Pv i H,⟨xs.length,by simp,cw _,h0⟩,?_⟩
 rintro i m H ⟨rfl,hi,p⟩
 have q:=hl i H hi p
 by_cases aV:i<xs.length
 ·refine .inr ⟨⟨xs,xs[i],q,by simp[aV]⟩,Pv (i+1),λH' p'=>⟨xs.length-(i+1),by omega,rfl,aV,p'⟩,λx H' y=>?_⟩
  obtain⟨e,y⟩:=y
  subst e
  exact hs i x _ (y xs q) p
 ·have e:i=xs.length:=by omega
  subst e
  exact .inl ⟨⟨xs,q,aT _⟩,hd H p⟩
def JZ(N:List Str)(sc scope:Scope)(own:List (Str×Nat)):Bool:=
 (match scope.kind with| .function=>true|_=>false)&&(scope.names.all λy=>decide (scope.names.lookup y.1=some y.2))&&(own.all λp=>decide (N[p.2]? =some p.1))&&
  (scope.names.all λy=>match y.2 with
   | .free=>(match sc.names.lookup y.1 with|some .cell=>true|some .free=>true|_=>false)
   | .local=>decide (y.1∈own.map (·.1))||decide (y.1∉N)
   | .cell=>decide (y.1∈own.map (·.1))||decide (y.1∉N)
   |_=>true)
theorem iz{N:List Str}{sc scope:Scope}{own:List (Str×Nat)}(h:JZ N sc scope own=true):u0 N sc scope own:=by
 unfold JZ at h
 simp only[iM,rE,decide_eq_true_eq]at h
 obtain⟨⟨⟨h1,h2⟩,h3⟩,h4⟩:=h
 refine⟨?_,h2,h3,λy hy e=>?_,λy hy e=>?_⟩
 ·split at h1
  ·assumption
  ·cases h1
 ·have q:=h4 y hy
  simp only[e]at q
  split at q<;>first|exact .inl (by assumption)|exact .inr (by assumption)|cases q
 ·have q:=h4 y hy
  rcases e with e|e<;>(simp only[e,Al,decide_eq_true_eq]at q;exact q)
end L2
namespace L2
open PySem PySem.Spec PyProof.Rows
section
variable{prog:Program}{w:World}{A:Around}{R:Result->Shared->Prop}{s:Shared}{elt t0 i0 t1 i1:Expr}{ahO ahP:List Expr}{scope:Scope}{pos:Pos}{it acc:Value}{env:Env}
end
section
variable{X:Cx}
end
end L2
namespace L2
open PySem PySem.Spec PyProof.Rows
section
variable{κ:Type}[DecidableEq κ]
def cz(ag:List (κ×V))(k:κ):Option V:=(ag.find? λkv=>decide (kv.1=k)).map (·.2)
def putK(ag:List (κ×V))(k:κ)(v:V):List (κ×V):=
 if(ag.any λkv=>decide (kv.1=k))=true then ag.map (λkv=>if kv.1=k then(kv.1,v)else kv)else ag++[(k,v)]
theorem UO{k:κ}:cz ([]:List (κ×V)) k=none:=rfl
theorem j7{p:κ×V}{r:List (κ×V)}{k:κ}(e:p.1=k):cz (p::r) k=some p.2:=by simp[cz,jP,e]
theorem j8{p:κ×V}{r:List (κ×V)}{k:κ}(e:¬p.1=k):cz (p::r) k=cz r k:=by simp[cz,jP,e]
theorem u9(k:κ):∀ag:List (κ×V),(ag.any λkv=>decide (kv.1=k))=(cz ag k).isSome
 |[]=>rfl
 |p::r=>by
  rw[wZ]
  by_cases e:p.1=k
  ·simp only[j7 e,decide_eq_true e,QA,ahp]
  ·rw[j8 e,decide_eq_false e,He];exact u9 k r
theorem J0(k j:κ)(y:V):∀ag:List (κ×V),cz (ag.map λkv=>if kv.1=k then(kv.1,y)else kv) j=(cz ag j).map λx=>if j=k then y else x
 |[]=>rfl
 |p::r=>by
  have ih:=J0 k j y r
  rw[eV]
  by_cases h:p.1=k
  ·rw[if_pos h]
   by_cases e:p.1=j
   ·rw[j7 (p:=(p.1,y)) e,j7 e,GW,if_pos (e.symm.trans h)]
   ·rw[j8 (p:=(p.1,y)) e,j8 e,ih]
  ·rw[if_neg h]
   by_cases e:p.1=j
   ·rw[j7 (p:=p) e,j7 e,GW,if_neg (λz=>h (e.trans z))]
   ·rw[j8 (p:=p) e,j8 e,ih]
theorem J7(k j:κ)(y:V):∀ag:List (κ×V),cz ag k=none->cz (ag++[(k,y)]) j=if j=k then some y else cz ag j
 |[],_=>by
  by_cases e:k=j
  ·rw[if_pos e.symm];exact j7 (p:=(k,y)) e
  ·rw[if_neg (λz=>e z.symm)];exact j8 (p:=(k,y)) e
 |p::r,hn=>by
  rw[Aj]
  have hk:¬p.1=k:=λz=>by rw[j7 z]at hn;cases hn
  rw[j8 hk]at hn
  have ih:=J7 k j y r hn
  by_cases e:p.1=j
  ·rw[j7 e,j7 e,if_neg (λz=>hk (e.trans z))]
  ·rw[j8 e,j8 e,ih]
theorem BW(ag:List (κ×V))(k j:κ)(y:V):cz (putK ag k y) j=if j=k then some y else cz ag j:=by
 unfold putK
 by_cases a:(ag.any λkv=>decide (kv.1=k))=true
 ·rw[if_pos a,J0]
  rw[u9]at a
  by_cases e:j=k
  ·obtain⟨x,hx⟩:=ag6.mp a
   rw[if_pos e,e,hx,GW,if_pos rfl]
  ·rw[if_neg e]
   cases cz ag j with
   |none=>rfl
   |some x=>rw[GW,if_neg e]
 ·rw[if_neg a]
  refine J7 k j y ag ?_
  rw[u9]at a
  cases q:cz ag k with
  |none=>rfl
  |some x=>rw[q]at a;exact(a rfl).elim
theorem yt(ag:List (κ×V))(k:κ)(v:V):(putK ag k v).length<=ag.length+1:=by
 unfold putK
 split
 ·rw[aA];omega
 ·rw[bf,bJ,uh];omega
theorem UP{ag:List (κ×V)}{k:κ}(v:V)(h:cz ag k=none):putK ag k v=ag++[(k,v)]:=by
 unfold putK
 rw[u9,h]
 exact if_neg (by decide)
theorem fG.u_{o:Option V}{u:Option Value}(r:fG o u):o.isSome=u.isSome:=by
 cases o with
 |none=>cases u with
  |none=>rfl
  |some _=>exact(show False from r).elim
 |some _=>cases u with
  |none=>exact(show False from r).elim
  |some _=>rfl
theorem KV.val{ag:List (κ×V)}{vs:List (κ×Value)}(r:KV ag vs)(k:κ):fG (cz ag k) (valueAt vs k):=by
 unfold KV at r
 induction r with
 |nil=>exact mT
 | @cons p q ps qs h t ih=>
  obtain⟨h1,h2⟩:=h
  by_cases e:p.1=k
  ·have e':q.1=k:=h1.symm.trans e
   have b:valueAt (q::qs) k=some q.2:=by simp[valueAt,jP,e']
   rw[j7 e,b];exact h2
  ·have e':¬q.1=k:=λz=>e (h1.trans z)
   have b:valueAt (q::qs) k=valueAt qs k:=by simp[valueAt,jP,e']
   rw[j8 e,b];exact ih
theorem KV.any{ag:List (κ×V)}{vs:List (κ×Value)}(r:KV ag vs)(k:κ):(ag.any λkv=>decide (kv.1=k))=vs.any λkv=>decide (kv.1=k):=by
 unfold KV at r
 induction r with
 |nil=>rfl
 |cons h t ih=>rw[wZ,wZ,ih,h.1]
theorem KV.BX{ag:List (κ×V)}{vs:List (κ×Value)}(r:KV ag vs)(k:κ){y:V}{u:Value}(ry:RelV y u):
  KV (ag.map λkv=>if kv.1=k then(kv.1,y)else kv) (vs.map λkv=>if kv.1=k then(kv.1,u)else kv):=by
 unfold KV at r⊢
 induction r with
 |nil=>exact .nil
 | @cons p q ps qs h t ih=>
  rw[eV,eV]
  refine .cons ?_ ih
  obtain⟨h1,h2⟩:=h
  by_cases e:p.1=k
  ·rw[if_pos e,if_pos (h1.symm.trans e)];exact⟨h1,ry⟩
  ·rw[if_neg e,if_neg (λz=>e (h1.trans z))];exact⟨h1,h2⟩
theorem KV.put{ag:List (κ×V)}{vs:List (κ×Value)}(r:KV ag vs)(k:κ){y:V}{u:Value}(ry:RelV y u):KV (putK ag k y) (stored vs k u):=by
 unfold putK stored
 rw[r.any k]
 by_cases e:(vs.any λkv=>decide (kv.1=k))=true
 ·rw[if_pos e,if_pos e];exact r.BX k ry
 ·rw[if_neg e,if_neg e];exact Paired.snoc r ⟨rfl,ry⟩
theorem KV.length{ag:List (κ×V)}{vs:List (κ×Value)}(r:KV ag vs):ag.length=vs.length:=a7 r
end
theorem sM{P:Program}{w:World}{k:Key}{u:Value}(r:RelV (kV k) u):(ik P w).is k u=true:=by
 cases k with
 |inl i=>obtain⟨t,e⟩:=(show ∃t,u=xf i t from r);subst e;exact RU P w i t
 |inr x=>obtain⟨t,e⟩:=(show ∃t,u=Ho x t from r);subst e;exact RV P w x t
theorem J8{P:Program}{w:World}:∀{ks:List Key}{us:List Value},Vals (ks.map kV) us->ItemsAre (ik P w) ks us
 |[],_,r=>by rw[Hj]at r;cases r;exact .nil
 |k::ks,_,r=>by
  rw[eV]at r
  cases r with
  |cons h t=>exact .cons (sM h) (J8 t)
abbrev KT(H:Hp):List (List Key×V)->List (List Key×Addr×Value)->Prop:=Paired λp q=>p.1=q.1/\H q.2.1=some (.tup (p.1.map kV))/\RelV p.2 q.2.2
theorem KT.val{H:Hp}{ag:List (List Key×V)}{xs:List (List Key×Addr×Value)}(r:KT H ag xs)(k:List Key):fG (cz ag k) ((atKey xs k).map (·.2)):=by
 induction r with
 |nil=>exact mT
 | @cons p q ps qs h t ih=>
  obtain⟨h1,_,h2⟩:=h
  by_cases e:p.1=k
  ·have e':q.1=k:=h1.symm.trans e
   have b:atKey (q::qs) k=some q.2:=by simp[atKey,jP,e']
   rw[j7 e,b];exact h2
  ·have e':¬q.1=k:=λz=>e (h1.trans z)
   have b:atKey (q::qs) k=atKey qs k:=by simp[atKey,jP,e']
   rw[j8 e,b];exact ih
theorem KT.BX{H:Hp}{ag:List (List Key×V)}{xs:List (List Key×Addr×Value)}(r:KT H ag xs)(k:List Key){y:V}{u:Value}(ry:RelV y u):
  KT H (ag.map λkv=>if kv.1=k then(kv.1,y)else kv) (xs.map (putAt k u)):=by
 induction r with
 |nil=>exact .nil
 | @cons p q ps qs h t ih=>
  rw[eV,eV]
  refine .cons ?_ ih
  obtain⟨h1,h2,h3⟩:=h
  unfold putAt
  by_cases e:p.1=k
  ·rw[if_pos e,if_pos (h1.symm.trans e)];exact⟨h1,h2,ry⟩
  ·rw[if_neg e,if_neg (λz=>e (h1.trans z))];exact⟨h1,h2,h3⟩
theorem KT.put{H:Hp}{ag:List (List Key×V)}{xs:List (List Key×Addr×Value)}(r:KT H ag xs)(k:List Key){b:Addr}{y:V}{u:Value}(hb:H b=some (.tup (k.map kV)))(ry:RelV y u):
  KT H (putK ag k y) (storedH xs k b u):=by
 have e:(ag.any λkv=>decide (kv.1=k))=(atKey xs k).isSome:=by
  rw[u9,(r.val k).u_,wO]
 unfold putK storedH
 rw[e]
 by_cases q:(atKey xs k).isSome=true
 ·rw[if_pos q,if_pos q];exact r.BX k ry
 ·rw[if_neg q,if_neg q];exact Paired.snoc r ⟨rfl,hb,ry⟩
theorem KT.keeps{H H':Hp}{ag:List (List Key×V)}{xs:List (List Key×Addr×Value)}(r:KT H ag xs)(ht:∀b ys,H b=some (.tup ys)->H' b=some (.tup ys)):KT H' ag xs:=
 Paired.aX r λ_ _ z=>⟨z.1,ht _ _ z.2.1,z.2.2⟩
section
variable{P:Program}{w:World}{H:Hp}{h:Heap}{a:Addr}
theorem J9{u:HO}(ok:cH P w H h)(e:Rd H a u):b_ P w H h a u:=e.ok ok
theorem va{ag:List (Key×V)}(ok:cH P w H h)(e:Rd H a (.dK ag)):ag.length<=sizeLine/\(a==sysModules)=false/\∃vs,KV ag vs/\h.DictOf (ik P w) a vs:=
 show b_ P w H h a (.dK ag)from J9 ok e
theorem J_{ag:List (Key×V)}(ok:cH P w H h)(e:H a=some (.dK ag)):ag.length<=sizeLine/\(a==sysModules)=false/\∃vs,KV ag vs/\h.DictOf (ik P w) a vs:=va ok (.inl e)
theorem vb{ks:List Key}(ok:cH P w H h)(e:H a=some (.tup (ks.map kV))):(tupleKind (ik P w)).is h ks a:=by
 obtain⟨_,ak,r,o,h1,h2,n,h3⟩:=(show b_ P w H h a (.tup (ks.map kV))from ok a _ e)
 exact⟨o,ak.toArray,n,h1,h2,h3,by simpa using J8 r⟩
theorem vc{ag:List (List Key×V)}(ok:cH P w H h)(e:Rd H a (.dT ag)):ag.length<=sizeLine/\(a==sysModules)=false/\
  ∃xs,KT H ag xs/\h.DictOfH (tupleKind (ik P w)) a xs:=by
 obtain⟨z,y,xs,r,o,es,ep,h1,h2,h3,h4,h5⟩:=(show b_ P w H h a (.dT ag)from J9 ok e)
 refine⟨z,y,xs,r,o,es,ep,h1,h2,h3,h4,λx hx=>?_,h5⟩
 have all:∀{l:List (List Key×V)}{m:List (List Key×Addr×Value)},KT H l m->∀x∈m,(tupleKind (ik P w)).is h x.1 x.2.1:=by
  intro l m q
  induction q with
  |nil=>intro x hx;exact nomatch hx
  | @cons p q ps qs hq t ih=>
   intro x hx
   rcases bz.mp hx with e|hx
   ·subst e
    exact vb ok (by rw[<-hq.1];exact hq.2.1)
   ·exact ih x hx
 exact all r x hx
theorem UQ{ag:List (List Key×V)}(ok:cH P w H h)(e:H a=some (.dT ag)):ag.length<=sizeLine/\(a==sysModules)=false/\
  ∃xs,KT H ag xs/\h.DictOfH (tupleKind (ik P w)) a xs:=vc ok (.inl e)
end
def fo(H:Hp)(a:Addr)(y:V)(r:Option V):Prop:=
 (∃ag k,Rd H a (.dK ag)/\y=kV k/\r=cz ag k)\/∃ag k b,Rd H a (.dT ag)/\y=.ref b/\H b=some (.tup (k.map kV))/\r=cz ag k
def nz(H:Hp)(a:Addr)(y v:V)(H':Hp):Prop:=
 (∃ag k,H a=some (.dK ag)/\y=kV k/\ag.length<sizeLine/\H'=upd H a (.dK (putK ag k v)))\/
 ∃ag k b,H a=some (.dT ag)/\y=.ref b/\H b=some (.tup (k.map kV))/\ag.length<sizeLine/\H'=upd H a (.dT (putK ag k v))
theorem fo.k{H:Hp}{a:Addr}{ag:List (Key×V)}{k:Key}(e:H a=some (.dK ag)):fo H a (kV k) (cz ag k):=.inl ⟨ag,k,.inl e,rfl,rfl⟩
theorem fo.t{H:Hp}{a b:Addr}{ag:List (List Key×V)}{k:List Key}(e:H a=some (.dT ag))(eb:H b=some (.tup (k.map kV))):fo H a (.ref b) (cz ag k):=.inr ⟨ag,k,b,.inl e,rfl,eb,rfl⟩
theorem nz.k{H:Hp}{a:Addr}{ag:List (Key×V)}{k:Key}{v:V}(e:H a=some (.dK ag))(hl:ag.length<sizeLine):nz H a (kV k) v (upd H a (.dK (putK ag k v))):=.inl ⟨ag,k,e,rfl,hl,rfl⟩
theorem nz.t{H:Hp}{a b:Addr}{ag:List (List Key×V)}{k:List Key}{v:V}(e:H a=some (.dT ag))(eb:H b=some (.tup (k.map kV)))(hl:ag.length<sizeLine):
  nz H a (.ref b) v (upd H a (.dT (putK ag k v))):=.inr ⟨ag,k,b,e,rfl,eb,hl,rfl⟩
section
variable{X:Cx}{pins:List (Addr×Obj)}{σ:St}{H:Hp}{s:Shared}{a:Addr}{y v:V}{u r:Value}{o:Option V}{A:Around}{E:Value->Shared->Prop}
theorem Inv.big(I:Inv X pins σ H s):sysModules<s.heap.objs.size:=by
 have h:mainGlobals<s.heap.objs.size:=(I.mod.glob.keeps I.bk).lt
 exact Hl (by decide) h
theorem UR{Q:Value->Shared->Prop}(hu:A.units+1<cLine)(I:Inv X pins σ H s)(g:fo H a y (some v))(ry:RelV y u)(h:∀w' s',Inv X pins σ H s'->RelV v w'->Q w' s'):
  wpAny (model X.prog X.w) A (getItem (.ref a) u) Q E s:=by
 rcases g with⟨ag,k,e,ey,l⟩|⟨ag,k,b,e,ey,eb,l⟩
 ·subst ey
  obtain⟨z,hd,vs,rel,dd⟩:=va I.az e
  obtain⟨w',hw,nj⟩:=fG.some_of (v:=v) (o:=valueAt vs k) (by rw[l];exact rel.val k)
  exact wpAny_getItem_of (sM ry) dd.mapOf hw (h w' _ (I.tok _) nj)
 ·subst ey
  cases(show u=cD b from ry)
  obtain⟨z,hd,xs,rel,dd⟩:=vc I.az e
  obtain⟨w',hw,nj⟩:=fG.some_of (v:=v) (o:=(atKey xs k).map (·.2)) (by rw[l];exact rel.val k)
  obtain⟨p,hp,nA⟩:=Option.map_eq_some_iff.mp hw
  refine wpAny_getItem_heap (tupleKind_room_in1 hu) (vb I.az eb) dd hp ?_
  rw[nA]
  exact h w' _ (I.tok _) nj
theorem US{Q:Value->Shared->Prop}(hu:A.units+1<cLine)(I:Inv X pins σ H s)(g:fo H a y o)(ry:RelV y u)(h:∀s',Inv X pins σ H s'->Q (.bool o.isSome) s'):
  wpAny (model X.prog X.w) A (compareOp .In u (.ref a)) Q E s:=by
 rcases g with⟨ag,k,e,ey,l⟩|⟨ag,k,b,e,ey,eb,l⟩
 ·subst ey
  obtain⟨z,hd,vs,rel,dd⟩:=va I.az e
  refine wpAny_in_of (sM ry) hd dd.mapOf ?_
  rw[<-(rel.val k).u_,<-l]
  exact h _ (I.tok _)
 ·subst ey
  cases(show u=cD b from ry)
  obtain⟨z,hd,xs,rel,dd⟩:=vc I.az e
  refine wpAny_in_heap (tupleKind_room_in1 hu) (vb I.az eb) hd dd ?_
  have q:=(rel.val k).u_
  rw[wO]at q
  rw[<-q,<-l]
  exact h _ (I.tok _)
theorem UT{Q:Value->Shared->Prop}(hu:A.units+1<cLine)(I:Inv X pins σ H s)(g:fo H a y o)(ry:RelV y u)(h:∀s',Inv X pins σ H s'->Q (.bool (!o.isSome)) s'):
  wpAny (model X.prog X.w) A (compareOp .NotIn u (.ref a)) Q E s:=by
 rcases g with⟨ag,k,e,ey,l⟩|⟨ag,k,b,e,ey,eb,l⟩
 ·subst ey
  obtain⟨z,hd,vs,rel,dd⟩:=va I.az e
  refine wpAny_notIn_of (sM ry) hd dd.mapOf ?_
  rw[<-(rel.val k).u_,<-l]
  exact h _ (I.tok _)
 ·subst ey
  cases(show u=cD b from ry)
  obtain⟨z,hd,xs,rel,dd⟩:=vc I.az e
  refine wpAny_notIn_heap (tupleKind_room_in1 hu) (vb I.az eb) hd dd ?_
  have q:=(rel.val k).u_
  rw[wO]at q
  rw[<-q,<-l]
  exact h _ (I.tok _)
theorem BY{h':Heap}{t':Nat}{ob:HO}(I:Inv X pins σ H s)(mu:uC (H a))(hs:ox a s.heap h')(he:∃q,h'.get? a=some q)(new:b_ X.prog X.w (upd H a ob) h' a ob):
  Inv X pins σ (upd H a ob) {s with heap:=h',toks:=t'}:=
 I.write (x:=a) (e:=a) mu (.inl rfl) (λb q hb z=>(hs.2 b hb).trans z) he new
theorem Ka{P:Program}{w:World}{H':Hp}{h':Heap}{ag:List (Key×V)}{vs:List (Key×Value)}(z:ag.length<=sizeLine)(hd:(a==sysModules)=false)(rel:KV ag vs)(dd:h'.DictOf (ik P w) a vs):
  b_ P w H' h' a (.dK ag):=⟨z,hd,vs,rel,dd⟩
theorem UU{H':Hp}{Q:Unit->Shared->Prop}(hu:A.units+1<cLine)(I:Inv X pins σ H s)(g:nz H a y v H')(ry:RelV y u)(rv:RelV v r)(h:∀s',Inv X pins σ H' s'->Q () s'):
  wpAny (model X.prog X.w) A (setItem (.ref a) u r) Q E s:=by
 rcases g with⟨ag,k,e,ey,l,eH⟩|⟨ag,k,b,e,ey,eb,l,eH⟩
 ·subst ey eH
  obtain⟨z,hd,vs,rel,dd⟩:=J_ I.az e
  have hz:vs.length<=sizeLine:=by rw[<-rel.length];exact z
  have hl:(putK ag k v).length<=sizeLine:=by have:=yt ag k v;omega
  refine wpAny_setItem_pairs (hsz:=hz) (sM ry) dd λh' qx hs=>h _ ?_
  have he:∃q,h'.get? a=some q:=let⟨q,_,_,hq,_⟩:=qx;⟨q,hq⟩
  exact BY I (by rw[e];exact mT) hs he (Ka hl hd (rel.put k rv) qx)
 ·subst ey eH
  cases(show u=cD b from ry)
  obtain⟨z,hd,xs,rel,dd⟩:=UQ I.az e
  have hz:xs.length<=sizeLine:=by rw[<-a7 rel];exact z
  have hl:(putK ag k v).length<=sizeLine:=by have:=yt ag k v;omega
  refine wpAny_setItem_heap (hsz:=hz) (tupleKind_room_in1 hu) (vb I.az eb) dd λh' qx hs=>h _ ?_
  obtain⟨q,es,ep,hq,h2,h3,h4,_,h5⟩:=qx
  refine BY I (by rw[e];exact mT) hs ⟨q,hq⟩ ⟨hl,hd,_,(rel.put k eb rv).keeps λc ys ec=>?_,q,es,ep,hq,h2,h3,h4,h5⟩
  rw[ao (dq ec e (λz=>nomatch z))]
  exact ec
end
section
variable{X:Cx}{pins:List (Addr×Obj)}{σ:St}{H:Hp}{s:Shared}{a:Addr}{ag:List (Key×V)}{k:Key}{u:Value}{A:Around}{E:Value->Shared->Prop}
end
def Kb(i:Expr):Prop:=∀ov iv,subscripted i false ov iv=operate [ov,iv] (getItem ov iv)
theorem UW{prog:Program}{w:World}{A:Around}{E:Value->Shared->Prop}{s:Shared}{env:Env}{value slice:Expr}{pos:Pos}{T id:String}{Q:Value->Shared->Prop}
  (hl:typeLookup (.type T) "__getitem__"=pure (some (.builtin id))) (hs:Kb slice)
  (h:wpAny (model prog w) A (eval value env) (λo bA=>wpAny (model prog w) A (eval slice env) (λi iS=>iS.TypeIs o T/\wpAny (model prog w) A (getItem o i) Q E iS) E bA) E s):
  wpAny (model prog w) A (eval (.Subscript value slice pos) env) Q E s:=by
 refine Subscript_ (wpAny_mono h (λo bA yo=>wpAny_mono yo (λi iS u6=>?_) λ_ _ x=>x) λ_ _ x=>x)
 obtain⟨hT,u6⟩:=u6
 unfold subscriptTail
 refine wpAny_bind ?_
 rw[getitemInPython_of_ne hT.not_modules]
 refine wpAny_bind (wpAny_specialOf hT hl ?_)
 have fin:wpAny (model prog w) A (subscripted slice false o i) (λr sG=>wpAny (model prog w) A (letTemporaryGo value o r >>= λ_=>pure r) Q E sG) E iS:=by
  rw[hs o i]
  exact wpAny_operating (wpAny_mono u6 (λr sG yp=>wpAny_bind (wpAny_letTemporaryGo (wpAny_pure yp))) λ_ _ x=>x)
 first
  |exact wpAny_pure (wpAny_bind fin)
  |exact wpAny_bind (wpAny_pure (wpAny_bind fin))
  |exact wpAny_bind fin
theorem UX{X:Cx}{pins:List (Addr×Obj)}{σ:St}{H:Hp}{s:Shared}{a:Addr}{y:V}{o:Option V}(I:Inv X pins σ H s)(g:fo H a y o):s.TypeIs (.ref a) "dict":=by
 rcases g with⟨ag,k,e,_,_⟩|⟨ag,k,b,e,_,_,_⟩
 ·obtain⟨_,_,vs,_,dd⟩:=va I.az e
  exact dd.typeIs
 ·obtain⟨_,_,xs,_,dd⟩:=vc I.az e
  exact dd.typeIs
def UY(td ty:TE):TE:=λσ H Q=>td σ H λx H1=>ty σ H1 λy H2=>∃a v,x=.ref a/\fo H2 a y (some v)/\Q v H2
def UZ(ty td:TE):TE:=λσ H Q=>ty σ H λy H1=>td σ H1 λx H2=>∃a o,x=.ref a/\fo H2 a y o/\Q (.bl o.isSome) H2
def BZ(ty td:TE):TE:=λσ H Q=>ty σ H λy H1=>td σ H1 λx H2=>∃a o,x=.ref a/\fo H2 a y o/\Q (.bl (!o.isSome)) H2
def U0(td ty tv:TE):TS:=λD σ H=>tv σ H λv H1=>td σ H1 λx H2=>ty σ H2 λy H3=>∃a H4,x=.ref a/\nz H3 a y v H4/\D.nx σ H4
section
variable{X:Cx}{o i e value:Expr}{pos pos' uO:Pos}{td ty tv:TE}
theorem B0(hu:X.A.units+1<cLine)(ho:PE X o td)(hi:PE X i ty)(hs:Kb i):PE X (.Subscript o i pos) (UY td ty):=by
 intro pins s σ H Q I h
 refine UW PySem.F.slot_dict_getitem.lookup hs (aR (ho pins s σ H _ I h) λu s1 ⟨x,H1,I1,rx,q1⟩=>aR (hi pins s1 σ H1 _ I1 q1) λiv s2 ⟨y,H2,I2,ry,a,v,ex,g,q2⟩=>?_)
 subst ex
 obtain rfl:u=cD a:=rx
 exact⟨UX I2 g,UR hu I2 g ry λw' s3 I3 nj=>⟨v,H2,I3,nj,q2⟩⟩
theorem Kc(hu:X.A.units+1<cLine)(hi:PE X i ty)(ho:PE X o td):PC X .In i o (UZ ty td):=by
 intro pins s σ H Q I h
 refine aR (hi pins s σ H _ I h) λiv s1 ⟨y,H1,I1,ry,q1⟩=>aR (ho pins s1 σ H1 _ I1 q1) λu s2 ⟨x,H2,I2,rx,a,ov,ex,g,q2⟩=>?_
 subst ex
 obtain rfl:u=cD a:=rx
 exact US hu I2 g ry λs3 I3=>⟨.bl ov.isSome,H2,I3,rfl,q2⟩
theorem yu(hu:X.A.units+1<cLine)(hi:PE X i ty)(ho:PE X o td):PC X .NotIn i o (BZ ty td):=by
 intro pins s σ H Q I h
 refine aR (hi pins s σ H _ I h) λiv s1 ⟨y,H1,I1,ry,q1⟩=>aR (ho pins s1 σ H1 _ I1 q1) λu s2 ⟨x,H2,I2,rx,a,ov,ex,g,q2⟩=>?_
 subst ex
 obtain rfl:u=cD a:=rx
 exact UT hu I2 g ry λs3 I3=>⟨.bl (!ov.isSome),H2,I3,rfl,q2⟩
theorem B1(hu:X.A.units+1<cLine)(ho:PE X o td)(hi:PE X i ty)(hv:PE X value tv)(hs:swapsWith value (some (.Subscript o i pos')) pos.line X.env=pure false):
  PS X (.Assign [.Subscript o i pos'] value pos) (U0 td ty tv):=by
 intro pins s σ H D I h
 refine wpAny_Assign_Subscript (aR (hv pins s σ H _ I h) λr s1 ⟨v,H1,I1,rv,q1⟩=>aR (ho pins s1 σ H1 _ I1 q1) λu s2 ⟨x,H2,I2,rx,q2⟩=>aR (hi pins s2 σ H2 _ I2 q2) λiv s3 ⟨y,H3,I3,ry,a,H4,ex,g,q3⟩=>?_) hs
 subst ex
 obtain rfl:u=cD a:=rx
 exact UU hu I3 g ry rv λs4 I4=>⟨σ,H4,I4,q3⟩
end
theorem Kd{P:Program}{w:World}{H:Hp}(h:Heap)(hb:sysModules<h.objs.size):b_ P w H (h.push {cls:=.type "dict",data:=.dict #[]}) h.objs.size (.dK []):=
 ⟨cw _,beq_eq_false_iff_ne.mpr (Ne.symm (cV hb)),[],.nil,Heap.DictOf.new h⟩
theorem U1{P:Program}{w:World}{H:Hp}(h:Heap)(hb:sysModules<h.objs.size):b_ P w H (h.push {cls:=.type "dict",data:=.dict #[]}) h.objs.size (.dT []):=
 ⟨cw _,beq_eq_false_iff_ne.mpr (Ne.symm (cV hb)),[],.nil,_,#[],0,dG _ rfl,⟨rfl,rfl,rfl⟩,rfl,rfl,Qo⟩
def U2:TE:=λ_ H Q=>∀p,H p=none->Q (.ref p) (upd H p (.dK []))
def U3:TE:=λ_ H Q=>∀p,H p=none->Q (.ref p) (upd H p (.dT []))
section
variable{X:Cx}{pos:Pos}
theorem U4:PE X (.Dict [] [] pos) U2:=λpins s σ H Q I h=>
 wpAny_Dict_empty ⟨.ref s.heap.objs.size,_,I.laid (a:=s.heap.objs.size) (o:=.dK []) (t':=s.toks) (λ_ _ q=>bH _ q) (aT _) (Kd s.heap I.big),rfl,h _ (I.az.fresh (aT _))⟩
theorem U5:PE X (.Dict [] [] pos) U3:=λpins s σ H Q I h=>
 wpAny_Dict_empty ⟨.ref s.heap.objs.size,_,I.laid (a:=s.heap.objs.size) (o:=.dT []) (t':=s.toks) (λ_ _ q=>bH _ q) (aT _) (U1 s.heap I.big),rfl,h _ (I.az.fresh (aT _))⟩
end
def B2:List (TE×TE)->St->Hp->(List (V×V)->Hp->Prop)->Prop
 |[],_,H,Q=>Q [] H
 |(tk,tv)::r,σ,H,Q=>tk σ H λx H1=>tv σ H1 λy H2=>B2 r σ H2 λps H3=>Q ((x,y)::ps) H3
abbrev VV:List (V×V)->List (Value×Value)->Prop:=Paired λp q=>RelV p.1 q.1/\RelV p.2 q.2
def yw(X:Cx)(pos:Pos)(keys:List (Option Expr))(values:List Expr)(nB:List (TE×TE)):Prop:=
 ∀(pins:List (Addr×Obj))(s:Shared)(σ:St)(H:Hp)(Q:List (V×V)->Hp->Prop),Inv X pins σ H s->B2 nB σ H Q->
  wpAny (model X.prog X.w) X.A (evalPairs (pairTrees keys values X.env pos)) (λvs s'=>∃ps H',Inv X pins σ H' s'/\VV ps vs/\Q ps H') X.xe s
theorem U6{X:Cx}{pos:Pos}:yw X pos [] [] []:=λpins s σ H Q I h=>pairTrees_nil_walk ⟨[],H,I,.nil,h⟩
theorem U7{X:Cx}{pos:Pos}{k v:Expr}{ks:List (Option Expr)}{vs:List Expr}{tk tv:TE}{nB:List (TE×TE)}(hk:PE X k tk)(hv:PE X v tv)(hr:yw X pos ks vs nB):
  yw X pos (some k::ks) (v::vs) ((tk,tv)::nB):=λpins s σ H Q I h=>
 pairTrees_cons_walk (aR (hk pins s σ H _ I h) λu s1 ⟨x,H1,I1,rx,q1⟩=>aR (hv pins s1 σ H1 _ I1 q1) λw2 s2 ⟨y,H2,I2,ry,q2⟩=>
  aR (hr pins s2 σ H2 _ I2 q2) λws s3 ⟨ps,H3,I3,rel,q3⟩=>⟨(x,y)::ps,H3,I3,.cons ⟨rx,ry⟩ rel,q3⟩)
def sN(ag more:List (Key×V)):List (Key×V):=more.foldl (λacc kv=>putK acc kv.1 kv.2) ag
theorem KV.merge:∀{more:List (Key×V)}{rs:List (Key×Value)}{ag:List (Key×V)}{vs:List (Key×Value)},KV more rs->KV ag vs->KV (sN ag more) (merged vs rs):=by
 intro more rs ag vs r
 unfold KV at r
 induction r generalizing ag vs with
 |nil=>intro q;exact q
 | @cons p q ps qs h t ih=>
  intro r0
  have e:KV (putK ag p.1 p.2) (stored vs q.1 q.2):=by
   have:=r0.put p.1 h.2
   rw[<-h.1];exact this
  exact ih e
theorem Ke:∀(more ag:List (Key×V)),(sN ag more).length<=ag.length+more.length
 |[],ag=>by show ag.length<=ag.length+0;omega
 |p::r,ag=>by
  have h1:=Ke r (putK ag p.1 p.2)
  have h2:=yt ag p.1 p.2
  show(sN (putK ag p.1 p.2) r).length<=_
  rw[bJ];omega
theorem Kf{P:Program}{w:World}:∀{ag:List (Key×V)}{ws:List (Value×Value)},VV (ag.map λkv=>(kV kv.1,kv.2)) ws->∃rs,Carries (ik P w) ws rs/\KV ag rs
 |[],_,r=>by rw[Hj]at r;cases r;exact⟨[],mT,.nil⟩
 |p::ag,_,r=>by
  rw[eV]at r
  cases r with
  | @cons a b as bs h t=>
   obtain⟨rs,c,q⟩:=Kf (P:=P) (w:=w) t
   obtain⟨b1,b2⟩:=b
   exact⟨(p.1,b2)::rs,⟨sM h.1,rfl,c⟩,.cons ⟨rfl,h.2⟩ q⟩
def U8(nB:List (TE×TE)):TE:=λσ H Q=>∀p,H p=none->B2 nB σ (upd H p (.dK [])) λps H2=>H2 p=some (.dK [])/\∃ag:List (Key×V),ps=ag.map (λkv=>(kV kv.1,kv.2))/\ag.length<=15/\Q (.ref p) (upd H2 p (.dK (sN [] ag)))
theorem U9{X:Cx}{pos:Pos}{keys:List (Option Expr)}{values:List Expr}{nB:List (TE×TE)}(h:yw X pos keys values nB)(dy:keys.all (·.isSome)=true)(hl:keys.length=values.length)(h0:keys≠[])
  (U_:keys.length<=15):PE X (.Dict keys values pos) (U8 nB):=by
 intro pins s σ H Q I q
 have hn:=I.az.fresh (aT s.heap.objs.size)
 have I1:=I.laid (a:=s.heap.objs.size) (o:=.dK []) (h':=s.heap.push {cls:=.type "dict",data:=.dict #[]}) (t':=s.toks) (λ_ _ q=>bH _ q) (aT _) (Kd s.heap I.big)
 refine wpAny_Dict_walk (knd:=ik X.prog X.w) dy hl h0 U_ (aR (h pins _ σ _ _ I1 (q _ hn)) λws s2 ⟨ps,H2,I2,rel,e,ag,ep,lk,q2⟩=>?_)
 subst ep
 obtain⟨rs,c,rk⟩:=Kf (P:=X.prog) (w:=X.w) rel
 obtain⟨z,hd,vs0,r0,dd⟩:=J_ I2.az e
 cases r0
 refine⟨rs,c,dd,λh' qx hs=>⟨.ref s.heap.objs.size,_,?_,rfl,q2⟩⟩
 have hz:(sN [] ag).length<=sizeLine:=by
  have h1:=Ke ag []
  rw[uh]at h1
  rw[sizeLine_eq];omega
 have he:∃q,h'.get? s.heap.objs.size=some q:=let⟨q,_,_,hq,_⟩:=qx;⟨q,hq⟩
 exact BY I2 (by rw[e];exact mT) hs he (Ka hz hd (rk.merge .nil) qx)
section
variable{X:Cx}{pins:List (Addr×Obj)}{σ:St}{H:Hp}{s:Shared}{a:Addr}{y d:V}{u r:Value}{o:Option V}{A:Around}{E:Value->Shared->Prop}
end
section
variable{X:Cx}{o e f:Expr}{apos eu:Pos}{td ty tx:TE}
end
section
variable{X:Cx}{pins:List (Addr×Obj)}{σ:St}{H:Hp}{s:Shared}{a:Addr}{ag:List (Key×V)}{A:Around}{E:Value->Shared->Prop}
end
section
variable{X:Cx}{pins:List (Addr×Obj)}{σ:St}{H:Hp}{s:Shared}{a:Addr}{y:V}{u:Value}{A:Around}{E:Value->Shared->Prop}
end
end L2
namespace L2
open PySem PySem.Spec PyProof.Rows
section
variable{prog:Program}{w:World}{A:Around}{E:Value->Shared->Prop}
end
section
variable{X:Cx}
end
end L2
namespace L2
open PySem PySem.Spec PyProof.Rows
section
variable{X:Cx}{pins:List (Addr×Obj)}{σ:St}{H:Hp}{s:Shared}{h':Heap}
theorem Inv.Va{t':Nat}{ch:List Addr}{T:Addr}{ob:HO}(I:Inv X pins σ H s)(k:∀b o,b∉ch->s.heap.get? b=some o->h'.get? b=some o)(hf:∀b∈ch,kN X pins H b)(hT:s.heap.objs.size<=T)
  (new:b_ X.prog X.w (upd H T ob) h' T ob):Inv X pins σ (upd H T ob) {s with heap:=h',toks:=t'}:=by
 have hn:H T=none:=I.az.fresh hT
 have uG:∀b u,H b=some u->b∉ch:=λb u e z=>by
  have q:=(hf b z).1
  rw[q]at e;cases e
 refine I.step (g':=s.gens) (d':=s.drawn) (ch:=ch) (λb hb=>⟨(hf b hb).2.2.2.1,(hf b hb).2.1,(hf b hb).2.2.2.2.1,(hf b hb).2.2.2.2.2⟩) (λb o _ _ hc e _=>k b o hc e) (λb o _ _ hc e _=>⟨o.slots,k b o hc e⟩)
  (λb o _ e n=>?_) (λb o hc e=>⟨o,k b o hc e⟩) (λb xs e=>?_) (λb o u e=>?_) (λb ps e=>⟨#[],?_⟩) (λm hm=>?_) (λb u e=>?_) I.bare
 ·rw[ao (cV (eM (bO e) hT))];exact n
 ·rw[ao (aF e hn)];exact e
 ·rw[ao (aF e hn)];exact e
 ·rw[ao (aF e hn),e];simp
 ·obtain⟨o,es,ep,ho,r⟩:=hm
  exact⟨o,es,ep,k _ o (λz=>(hf _ z).2.1 rfl) ho,r⟩
 ·by_cases hb:b=T
  ·subst hb
   rw[aj]at e
   cases e
   exact new
  ·rw[ao hb]at e
   refine(I.az b u e).jX (λc v hc q=>k c v ?_ q) (λc q=>by rw[ao (aF q hn)];exact q) λc xs q=>by rw[ao (aF q hn)];exact q
   rcases hc with z|z
   ·rw[z];exact uG b u e
   ·exact uG c _ z
end
section
variable{X:Cx}
theorem Kg{tg:Expr}{pins:List (Addr×Obj)}{σ:St}{H:Hp}{s:Shared}{R:It->Hp->Prop}{J:It}{tn:Nat->Heap->Prop}{tk:Nat}(I:Inv X pins σ H s)(o:Obj)
  (T:Turn X.prog X.w X.K tg J [s.heap.objs.size] s.heap.objs.size tn) (st:tn 0 (s.heap.push o)) (q:R J H):Bg X pins σ tg R (.ref s.heap.objs.size) {s with heap:=s.heap.push o,toks:=tk}:=by
 refine⟨s.heap.objs.size,[s.heap.objs.size],tn,J,H,rfl,I.kept λb ob e=>bH _ e,T,st,λb hb=>?_,q⟩
 have e:b=s.heap.objs.size:=by simpa using hb
 subst e
 exact I.sv (aT _) (I.az.fresh (aT _))
end
section
variable{X:Cx}{tg:Expr}
end
section
variable{X:Cx}{tg:Expr}
end
def Kh(x:Str):It:=⟨λi _=>i<x.cps.size,λi H v H'=>H'=H/\∃c,x.cps[i]? =some c/\v=.str ⟨#[c]⟩,λi _=>x.cps.size<=i⟩
theorem Ki{P:Program}{w:World}{K:ai}{tg:Expr}(it:Addr)(x:Str)(t:Tok)(ty:String)(l8:ty="str_ascii_iterator"\/ty="str_iterator"):
  Turn P w K tg (Kh x) [it] it (λi h=>h.IsStrIter it ty x t i) where
 mem:=by simp
 obj:=λi h st b hb=>by
  have e:b=it:=by simpa using hb
  subst e
  obtain⟨o,e,c,d⟩:=st
  exact⟨o,e,λv z=>by rw[d]at z;cases z⟩
 keep:=λi h h' st k=>let⟨o,ho,r⟩:=st;⟨o,k it (by simp) o ho,r⟩
 item:=by
  intro X hP hw hK hc i pins s σ H E I hf st hg
  subst hP hw hK
  obtain⟨f0,f1,f2,f3,f4,f5⟩:=hf it (by simp)
  have W:Walks X.prog X.w X.A it [it] [it] x.cps.size (SignAt x) (λi h=>h.IsStrIter it ty x t i):=by
   rcases l8 with e|e
   ·rw[e];exact Walks.strAscii (I.ok.hd hc) it x t
   ·rw[e];exact Walks.strWide (I.ok.hd hc) it x t
  have a6:["enumerate","zip","dict_itemiterator","dict_reverseitemiterator","odict_iterator","itertools.zip_longest","itertools.pairwise"].contains ty=false:=by
   rcases l8 with e|e
   ·rw[e];decide
   ·rw[e];decide
  refine W.item i s _ _ hg st λv h' tk hv kP kk=>?_
  obtain⟨c,u,Vb,rfl⟩:=hv
  have I1:Inv X pins σ H {s with heap:=h',toks:=tk}:=I.turned (λb o hb e=>kk b o (by simpa using hb) e) f0 f1 f3 f4 f5
  obtain⟨oi,e,cc,dd⟩:=id kP
  exact⟨_,rfl,xQ (s:={s with heap:=h',toks:=tk}) e cc dd a6 ⟨.str ⟨#[c]⟩,H,I1,⟨u,rfl⟩,⟨rfl,c,Vb,rfl⟩,kP,λb hb=>(hf b hb).1⟩⟩
 done:=by
  intro X hP hw hK hc i pins s σ H E I hf st hg
  subst hP hw hK
  obtain⟨f0,f1,f2,f3,f4,f5⟩:=hf it (by simp)
  have hx:x.cps[i]? =none:=Gs hg
  rcases l8 with e|e
  ·rw[e]at st
   exact wpAny_pyNext_ascii_end (I.ok.hd hc) st hx λh' eb=>⟨rfl,I.turned (t':=s.toks) (λb o hb e=>eb b o hb e) f0 f1 f3 f4 f5⟩
  ·rw[e]at st
   exact wpAny_pyNext_wide_end (I.ok.hd hc) st hx λh' eb=>⟨rfl,I.turned (t':=s.toks) (λb o hb e=>eb b o hb e) f0 f1 f3 f4 f5⟩
 self:=λA i s Q E st h=>by
  rcases l8 with e|e
  ·rw[e]at st;exact wpAny_pyIter_striter_ascii st h
  ·rw[e]at st;exact wpAny_pyIter_striter_wide st h
def Vc(te:TE):TI:=λσ H R=>te σ H λv H1=>∃x,v=.str x/\R (Kh x) H1
theorem Vd{X:Cx}{tg e:Expr}{te:TE}(he:PE X e te):PI X tg e (Vc te):=by
 intro pins s σ H R I h
 refine aR (he pins s σ H _ I h) λv s1 ⟨y,H1,I1,r1,x,ex,q⟩=>?_
 subst ex
 obtain⟨t,rfl⟩:=r1
 cases ha:x.cps.all (· <128)
 ·exact wpAny_pyIter_wide ha (Kg (tk:=s1.toks) I1 _ (Ki _ x t "str_iterator" (.inr rfl)) ⟨_,dG _ rfl,rfl,rfl⟩ q)
 ·exact wpAny_pyIter_ascii ha (Kg (tk:=s1.toks) I1 _ (Ki _ x t "str_ascii_iterator" (.inl rfl)) ⟨_,dG _ rfl,rfl,rfl⟩ q)
section
variable{prog:Program}{w:World}{A:Around}{E:Value->Shared->Prop}{s:Shared}
end
section
variable{X:Cx}{pins:List (Addr×Obj)}{σ:St}{H:Hp}{s:Shared}{d:Addr}{o:Obj}
end
section
variable{P:Program}{w:World}{K:ai}{tg:Expr}{d:Addr}{o:Obj}{es:Array DictEntry}{ep:Nat}
end
section
variable{X:Cx}{tg e:Expr}{td:TE}{apos eu:Pos}
end
def yx(K:ai)(a:Addr):It:=
 ⟨λi H=>∃(xs:List V)(x:V),ah K H a xs/\xs[i]? =some x,λi H v H'=>∃T x,v=.ref T/\H T=none/\H'=upd H T (.tup [.int (i:Nat),x])/\∀xs,ah K H a xs->xs[i]? =some x,λi H=>∃xs:List V,ah K H a xs/\xs.length<=i⟩
theorem Ve{P:Program}{w:World}{K:ai}{elts:List Expr}{kk:Nat}{uO:Pos}(a e it:Addr):
  Turn P w K (.Tuple elts kk uO) (yx K a) [e,it] e (λi h=>(∃old,IsEnum h e it ((i:Nat):Int) old)/\h.IsListIter it a i/\e≠it) where
 mem:=by simp
 obj:=λi h st b hb=>by
  obtain⟨⟨old,he⟩,⟨o,ho,hc,hd⟩,_⟩:=st
  have e':b=e\/b=it:=by simpa using hb
  rcases e' with z|z
  ·rw[z];exact⟨_,he,λv q=>nomatch q⟩
  ·rw[z];exact⟨o,ho,λv q=>by rw[hd]at q;cases q⟩
 keep:=λi h h' st k=>let⟨⟨old,he⟩,hi,a8⟩:=st;⟨⟨old,k e (by simp) _ he⟩,hi.at λo q=>k it (by simp) o q,a8⟩
 item:=by
  intro X hP hw hK hc i pins s σ H E I hf st hg
  subst hP hw hK
  obtain⟨⟨old,he⟩,hit,a8⟩:=st
  obtain⟨xs,x,hq,hx⟩:=hg
  obtain⟨ak,rv,p,hz⟩:=I.list hq
  obtain⟨u,hu,ru⟩:=rv.get hx
  have Kj:e<s.heap.objs.size:=bO he
  have l9:it<s.heap.objs.size:=by obtain⟨_,q,_⟩:=hit;exact bO q
  refine wpAny_pyNext_enum_item he hit p.isList (x:=u) (by simpa using hu) a8 λh' ho Vf hT hsz hk=>?_
  refine⟨_,rfl,wpAny_letOwnedTupleGo_enum (s:={s with heap:=h',toks:=s.toks+1}) ho λyr Vg sb=>?_⟩
  have gq:yr.get? s.heap.objs.size=some {cls:=.type "tuple",data:=.seq #[.int i s.toks,u]}:=(sb.2 _ (pV Kj)).trans hT
  have new:b_ X.prog X.w (upd H s.heap.objs.size (.tup [.int (i:Nat),x])) yr s.heap.objs.size (.tup [.int (i:Nat),x]):=
   ⟨by show 2<=sizeLine;decide,[.int i s.toks,u],.cons ⟨_,rfl⟩ (.cons ru .nil),⟨_,gq,rfl,_,rfl⟩⟩
  have I1:Inv X pins σ (upd H s.heap.objs.size (.tup [.int (i:Nat),x])) {s with heap:=yr,toks:=s.toks+1}:=
   I.Va (ch:=[e,it]) (λb ob hb q=>(sb.2 b (λz=>hb (by simp[z]))).trans (hk b ob (λz=>hb (by simp[z])) (λz=>hb (by simp[z])) q)) hf (aT _) new
  refine⟨.ref s.heap.objs.size,_,I1,rfl,⟨_,x,rfl,I.az.fresh (aT _),rfl,λys hy=>by rw[I.IY hy hq];exact hx⟩,⟨⟨u,?_⟩,Vf.at λo q=>(sb.2 it (Ne.symm a8)).trans q,a8⟩,λb hb=>?_⟩
  ·have e1:((i+1:Nat):Int)=(i:Int)+1:=by omega
   rw[e1];exact Vg
  ·have eY:b<s.heap.objs.size:=by
    have e':b=e\/b=it:=by simpa using hb
    rcases e' with z|z
    ·rw[z];exact Kj
    ·rw[z];exact l9
   rw[ao (cV eY)]
   exact(hf b hb).1
 done:=by
  intro X hP hw hK hc i pins s σ H E I hf st hg
  subst hP hw hK
  obtain⟨⟨old,he⟩,hit,a8⟩:=st
  obtain⟨xs,hq,hx⟩:=hg
  obtain⟨ak,rv,p,hz⟩:=I.list hq
  obtain⟨f0,f1,f2,f3,f4,f5⟩:=hf it (by simp)
  have hl:=rv.length
  exact wpAny_pyNext_enum_end (I.ok.hd hc) he hit p.isList (by simp;omega) λh' eb=>⟨rfl,I.turned (t':=s.toks) (λb o hb q=>eb b o hb q) f0 f1 f3 f4 f5⟩
 self:=λA i s Q E st h=>let⟨⟨_,he⟩,_⟩:=st;wpAny_pyIter_enum he h
def Vh(K:ai)(ta:TA):TI:=λσ H R=>ta σ H λvs H1=>∃a xs,vs=[.ref a]/\ah K H1 a xs/\R (yx K a) H1
theorem sO{X:Cx}{e:Expr}{ta:TA}{p pos uO:Pos}{elts:List Expr}{kk:Nat}(hg:Gl X "enumerate")(hm:X.mg "enumerate"=none)(ha:PA X [e] ta)(hs:starEach [e] X.env=[(false,eval e X.env)]:=by rfl):
  PI X (.Tuple elts kk uO) (.Call (.Name "enumerate" p) [e] [] pos) (Vh X.K ta):=by
 intro pins s σ H R I h
 refine Call_ (xK I hg hm boot_enumerate (Pr (aR (ha pos pins s σ H _ I h) λus s1 ⟨vs,H1,I1,r1,q1⟩=>?_) hs rfl))
 obtain⟨a,xs,ex,hq,q⟩:=q1
 subst ex
 cases r1 with
 |cons r rr=>
  cases rr
  cases r
  obtain⟨ak,rv,p',hz⟩:=I1.list hq
  refine call_enumerate_list p'.isList λh' he hit hsz hk=>wpAny_pyIter_enum he ?_
  have I2:Inv X pins σ H1 {s1 with heap:=h'}:=I1.kept (t':=s1.toks) hk
  refine⟨s1.heap.objs.size+1,[s1.heap.objs.size+1,s1.heap.objs.size],_,_,H1,rfl,I2,Ve a (s1.heap.objs.size+1) s1.heap.objs.size,⟨⟨.none,he⟩,hit,Nat.succ_ne_self _⟩,λb hb=>?_,q⟩
  have e':b=s1.heap.objs.size+1\/b=s1.heap.objs.size:=by simpa using hb
  have hle:s1.heap.objs.size<=b:=by
   rcases e' with z|z
   ·rw[z];exact Nat.le_add_right _ _
   ·rw[z];exact aT _
  exact I1.sv hle (I1.az.fresh hle)
end L2
section
namespace Vi
open PySem PyProof.Rows
end Vi
end
section
namespace TL
open PySem PySem.Builtin PySem.Builtin.Str PySem.StrLaws
end TL
end
namespace L2
open PySem PySem.Spec PyProof.Rows
section
variable{X:Cx}{pins:List (Addr×Obj)}{σ:St}{H:Hp}{s:Shared}{Q:VK}
end
section
variable{X:Cx}
end
section
variable{X:Cx}{o e:Expr}{to te:TE}
end
end L2
namespace L2
open PySem PySem.Spec PyProof.Rows
section
variable{X:Cx}
end
end L2
namespace Vj
open PySem PySem.W PySem.Calls PyProof.Rows
section
variable{prog:Program}{w:World}{A:Around}{E:Value->Shared->Prop}{s:Shared}{K:Frag}
end
end Vj
namespace L2
open PySem PySem.Spec PyProof.Rows
end L2
namespace L2
open PySem PySem.Spec PyProof.Rows
end L2
namespace L2
open PySem PySem.Spec PyProof.Rows
def inClass(s:Stmt)(j:Nat):Stmt:=match s with
 | .ClassDef _ _ _ body _ _ _ _ _ _ _=>body.getD j (.Pass ⟨0,0,0,0⟩)
 |_=>.Pass ⟨0,0,0,0⟩
def l_(s:Stmt):Arguments:=match s with
 | .FunctionDef _ a _ _ _ _ _ _ _ _=>a
 |_=>{posonlyargs:=[],args:=[],vararg:=none,kwonlyargs:=[],kw_defaults:=[],kwarg:=none,defaults:=[]}
def jt(s:Stmt):List Stmt:=match s with
 | .FunctionDef _ _ b _ _ _ _ _ _ _=>b
 |_=>[]
def aH(s:Stmt):Scope:=match s with
 | .FunctionDef _ _ _ _ _ _ sc _ _ _=>sc
 |_=>{kind:=.function,names:=[],isGenerator:=false,isCoroutine:=false}
abbrev ax:eP:=λ_ _ _ _ _ _=>False
abbrev E0:XK:=λ_ _ _=>False
theorem aI{X:Cx}:Passes ax X E0:=λ_ _ _ _ _ _ _ h=>h.elim
structure aQ(K:ai)(x qual:Str)(st:Stmt)(f:Addr)(fd:FuncData):Prop where
 ex:∃(oc:Value)(od:Option Addr)(kV doc pm:Value)(an:Option Addr)(aC ct:Value)(fj:Array (Option Value)),
  fd=lT x qual (l_ st) (jt st) (aH st) .none kV doc pm an aC ct/\K.lookup f=some ⟨oc,od,.func fd,fj⟩/\wW K aC qual=true
 kp:ib K (.ref f)=true
section
variable{P:Program}{w:World}{K:ai}{mg:Str->Option Value}{base:Heap}
theorem aQ.ok{x qual:Str}{st:Stmt}{f:Addr}{fd:FuncData}{N ps:List Str}{k:Nat}{sp:Sp}(F:aQ K x qual st f fd)(S:aW N ps (aH st))(len:∀vs H Q E,sp vs H Q E->vs.length=ps.length)
  (nh:∀(aC:Value)(A:Around)(outer:List Env)(s:Shared)(H:Hp)(vs:List V)(Q:VK)(E:XK),bc k (A.deeper (envOfC qual (aH st) s.heap.objs.size f aC))->sp vs H Q E->
   ∃t,gh (fT ax P w K mg base N qual (aH st) f aC A outer s H E).uJ (jt st) t/\t {nx:=λ_ H'=>Q .aO H',rt:=Q} (start N vs) H):aK P w K mg base ax (k+1) f fd ps sp:=by
 obtain⟨oc,od,kV,doc,pm,an,aC,ct,fj,rfl,lk,j0⟩:=F.ex
 refine Jv lk j0 S len λA outer s H vs Q E hr eQ=>?_
 obtain⟨t,h,q⟩:=nh aC A outer s H vs Q E hr eQ
 exact⟨t,h.uJ,q⟩
theorem aQ.binds{x qual:Str}{st:Stmt}{f:Addr}{fd:FuncData}{ps:List Str}(F:aQ K x qual st f fd)
  (h:∀(kV doc pm:Value)(an:Option Addr)(aC ct:Value)(us:List Value),us.length=ps.length->bindArgs (lT x qual (l_ st) (jt st) (aH st) .none kV doc pm an aC ct) ⟨us,[]⟩=pure (ps.zip us)):Binds K fd ps []:=by
 obtain⟨oc,od,kV,doc,pm,an,aC,ct,fj,rfl,lk,j0⟩:=F.ex
 exact .all (h kV doc pm an aC ct)
theorem B3{x qual:Str}{st:Stmt}{f:Addr}{oc:Value}{od an:Option Addr}{fj:Array (Option Value)}{kV doc pm aC ct:Value}(l:K.lookup f=some ⟨oc,od,.func (lT x qual (l_ st) (jt st) (aH st) .none kV doc pm an aC ct),fj⟩)
  (c:wW K aC qual=true) (k:ib K (.ref f)=true):aQ K x qual st f (lT x qual (l_ st) (jt st) (aH st) .none kV doc pm an aC ct):=⟨⟨oc,od,kV,doc,pm,an,aC,ct,fj,rfl,l,c⟩,k⟩
end
theorem sP{A:Around}{k:Nat}(hr:bc k A):A.units+1<cLine:=GG (Nat.add_le_add_left (by decide:1<=64) _) hr.units
theorem eA{n:Nat}(h:n<=1000):n<sizeLine:=GG h (by decide)
section
variable{X:Cx}
theorem pv(i:Nat){x:Str}{pos:Pos}(hN:X.N[i]? =some x:=by rfl)(hv:uE X.env.scope x:=by first|exact ay rfl|exact rQ (ay rfl)|exact rQ (rQ rfl))(hd:(x==("__debug__":Str))=false:=by decide)
  (j0:(x==("__classdict__":Str))=false:=by decide):PE X (.Name x pos) (bu i):=Sa hN hv hd j0
end
theorem aZ{A B:Prop}(h:B):if false=true then A else B:=by
 rw[if_neg cG]
 exact h
theorem aY{A B:Prop}(h:A):if true=true then A else B:=by
 rw[if_pos rfl]
 exact h
theorem B4{c A B:Prop}[Decidable c](h1:c->A)(h2:¬c->B):if c then A else B:=by
 by_cases h:c
 ·rw[if_pos h]
  exact h1 h
 ·rw[if_neg h]
  exact h2 h
def aa(H H':Hp):Prop:=∀b o,H b=some o->H' b=some o
theorem aa.refl(H:Hp):aa H H:=λ_ _ h=>h
theorem aa.trans{H H1 H2:Hp}(a:aa H H1)(b:aa H1 H2):aa H H2:=λc o h=>b c o (a c o h)
theorem aa.free{H H':Hp}(e:aa H H'){l:Addr}(h:H' l=Qy):H l=Qy:=by
 cases q:H l with
 |none=>rfl
 |some o=>
  rw[e l o q]at h
  cases h
theorem aa.seq{K:ai}{H H':Hp}{a:Addr}{xs:List V}(e:aa H H')(h:ah K H a xs):ah K H' a xs:=by
 rcases h with(h|⟨o,h⟩)|h
 ·exact .inl (.inl (e _ _ h))
 ·exact .inl (.inr ⟨o,e _ _ h⟩)
 ·exact .inr h
section
variable{κ:Type}[DecidableEq κ]
end
theorem Vk{α:Type}{l:List α}(hN:l.Nodup){i j:Nat}{x:α}(a:l[i]? =some x)(b:l[j]? =some x):i=j:=by
 obtain⟨h1,e1⟩:=bE.mp a
 obtain⟨h2,e2⟩:=bE.mp b
 exact(Qe hN).mp (e1.trans e2.symm)
end L2
section
set_option Elab.async false
set_option linter.all false
set_option maxRecDepth 100000
set_option maxHeartbeats 2000000
namespace L2
open PySem PySem.Spec PyProof.Rows
open PySem.W (WData Codec OpenSpec Well WellAll ReadsW ReadsAllW)
mutual
inductive Dw(K:ai)(H:Hp):V->WData->Prop
 |aO:Dw K H .aO .none
 |bl (b:Bool):Dw K H (.bl b) (.bool b)
 |int (i:Int):Dw K H (.int i) (.int i)
 |str (x:Str):Dw K H (.str x) (.str x)
 |gg (b:Array UInt8):Dw K H (.gg b) (.bytes b.toList)
 |lst {a:Addr} {xs:List V} {ds:List WData}:ah K H a xs->j9 K H xs ds->Dw K H (.ref a) (.list ds)
 |tup {a:Addr} {xs:List V} {ds:List WData}:aB K H a xs->j9 K H xs ds->Dw K H (.ref a) (.tuple ds)
inductive j9(K:ai)(H:Hp):List V->List WData->Prop
 |nil:j9 K H [] []
 |cons {v:V} {vs:List V} {d:WData} {ds:List WData}:Dw K H v d->j9 K H vs ds->j9 K H (v::vs) (d::ds)
end
theorem Kk{K:ai}{H:Hp}:∀ns:List Int,j9 K H (ns.map V.int) (ns.map WData.int)
 |[]=>.nil
 |n::r=>.cons (.int n) (Kk r)
theorem Kl{K:ai}{H:Hp}:∀(ns:List Int)(xs:List V),j9 K H xs (ns.map WData.int)->xs=ns.map V.int
 |[],xs,h=>by
  cases h
  rfl
 |n::r,xs,h=>by
  cases h with
  |cons h1 h2=>
   cases h1
   rw[Kl r _ h2]<;>rfl
section
variable{P:Program}{w:World}{K:ai}{H:Hp}{h:Heap}{R:aht}{cl:Str->Option Addr}
theorem Vl{a:Addr}{xs:List V}(az:cH P w H h)(KX:K.In h)(q:ah K H a xs):∃(ak:List Value)(o:Obj)(n:Nat),Vals xs ak/\h.get? a=some o/\o.cls=.type "list"/\o.data=.seq ak.toArray n:=by
 rcases q with q|⟨o,ak,n,e,hc,_,hd,_,hv⟩
 ·obtain⟨_,ak,n,hv,e⟩:=(show b_ P w H h a (.lst xs)from q.ok az)
  exact⟨ak,_,n,hv,e,rfl,rfl⟩
 ·exact⟨ak.toList,o,n,hv,KX _ _ e,hc,by simp[hd]⟩
theorem Vm{a:Addr}{xs:List V}(az:cH P w H h)(KX:K.In h)(q:aB K H a xs):∃(ak:List Value)(o:Obj)(n:Nat),Vals xs ak/\h.get? a=some o/\o.cls=.type "tuple"/\o.data=.seq ak.toArray n:=by
 rcases q with q|⟨o,ak,n,e,hc,hd,_,hv⟩
 ·obtain⟨_,ak,hv,o,e,hc,n,hd⟩:=(show b_ P w H h a (.tup xs)from q.ok az)
  exact⟨ak,o,n,hv,e,hc,hd⟩
 ·exact⟨ak.toList,o,n,hv,KX _ _ e,hc,by simp[hd]⟩
mutual
theorem Dw.reads(az:cH P w H h)(KX:K.In h):∀(d:WData)(v:V)(u:Value),Dw K H v d->RelV v u->∃as,ReadsW R cl h u d as
 | .none,_,_,x,r=>by
  cases x
  cases r
  exact⟨_,ReadsW.none⟩
 | .bool b,_,_,x,r=>by
  cases x
  cases r
  exact⟨_,ReadsW.bool b⟩
 | .int i,_,_,x,r=>by
  cases x
  obtain⟨t,rfl⟩:=r
  exact⟨_,ReadsW.int i t⟩
 | .str s,_,_,x,r=>by
  cases x
  obtain⟨t,rfl⟩:=r
  exact⟨_,ReadsW.str s t⟩
 | .bytes b,_,_,x,r=>by
  cases x
  obtain⟨t,rfl⟩:=r
  exact⟨_,ReadsW.bytes _ t⟩
 | .list ds,_,_,x,r=>by
  cases x with
  |lst hs ha=>
   cases r
   obtain⟨ak,o,n,rv,ho,hc,hd⟩:=Vl az KX hs
   obtain⟨as,hr⟩:=Dw.readsAll az KX ds _ ak ha rv
   exact⟨_,ReadsW.list ho hc hd hr⟩
 | .tuple ds,_,_,x,r=>by
  cases x with
  |tup hs ha=>
   cases r
   obtain⟨ak,o,n,rv,ho,hc,hd⟩:=Vm az KX hs
   obtain⟨as,hr⟩:=Dw.readsAll az KX ds _ ak ha rv
   exact⟨_,ReadsW.tuple ho hc hd hr⟩
 | .float _,_,_,x,_=>by cases x
 | .dict _,_,_,x,_=>by cases x
 | .bytearray _,_,_,x,_=>by cases x
 | .set _,_,_,x,_=>by cases x
 | .frozenset _,_,_,x,_=>by cases x
 | .obj _ _,_,_,x,_=>by cases x
theorem Dw.readsAll(az:cH P w H h)(KX:K.In h):∀(ds:List WData)(vs:List V)(us:List Value),j9 K H vs ds->Vals vs us->∃as,ReadsAllW R cl h us ds as
 |[],_,_,x,r=>by
  cases x
  cases r
  exact⟨_,ReadsAllW.nil⟩
 |d::ds,_,_,x,r=>by
  cases x with
  |cons h1 h2=>
   cases r with
   |cons r1 r2=>
    obtain⟨as,q1⟩:=Dw.reads az KX d _ _ h1 r1
    obtain⟨bs,q2⟩:=Dw.readsAll az KX ds _ _ h2 r2
    exact⟨_,ReadsAllW.cons q1 q2⟩
end
end
mutual
def iW:WData->Bool
 | .none=>true
 | .bool _=>true
 | .int _=>true
 | .str _=>true
 | .bytes _=>true
 | .list xs=>j_ xs
 | .tuple xs=>j_ xs
 |_=>false
def j_:List WData->Bool
 |[]=>true
 |x::r=>iW x&&j_ r
end
theorem Km{α:Type}{f:α->WData}(h:∀a,iW (f a)=true):∀l:List α,j_ (l.map f)=true
 |[]=>rfl
 |x::r=>by
  show(iW (f x)&&j_ (r.map f))=true
  rw[h x,Km h r]<;>rfl
theorem oV:∀(c:Codec)(a:c.denote),iW (c.enc a)=true
 | .unit,_=>rfl
 | .bool,_=>rfl
 | .int _ _,_=>rfl
 | .nat _ _,_=>rfl
 | .u8,_=>rfl
 | .bytes _ _,_=>rfl
 | .text _ _ _ _,_=>rfl
 | .list _ _ c,a=>Km (λx=>oV c x) a
 | .pair c d,a=>by
  show(iW (c.enc a.1)&&(iW (d.enc a.2)&&true))=true
  rw[oV c a.1,oV d a.2]<;>rfl
 | .triple c d e,a=>by
  show(iW (c.enc a.1)&&(iW (d.enc a.2.1)&&(iW (e.enc a.2.2)&&true)))=true
  rw[oV c a.1,oV d a.2.1,oV e a.2.2]<;>rfl
 | .option c,none=>rfl
 | .option c,some x=>oV c x
theorem Kn:∀(cs:List Codec)(a:G1 cs),j_ (w8 cs a)=true
 |[],_=>rfl
 |c::cs,a=>by
  show(iW (c.enc a.1)&&j_ (w8 cs a.2))=true
  rw[oV c a.1,Kn cs a.2]<;>rfl
theorem B5:∀{xs:List WData}{d:WData},d∈xs->d.weight<=GX xs
 |[],d,h=>absurd h (by simp)
 |x::r,d,h=>by
  show d.weight<=x.weight+1+GX r
  rcases bz.mp h with e|m
  ·rw[e]
   omega
  ·have z:=B5 m
   omega
def toV:Value->V
 | .none=>.aO
 | .bool b=>.bl b
 | .int i _=>.int i
 | .str x _=>.str x
 | .bytes b _=>.gg b
 | .ref a=>.ref a
 |_=>.aO
def ju(A:List Addr):Value->Prop
 | .none=>True
 | .bool _=>True
 | .int _ _=>True
 | .str _ _=>True
 | .bytes _ _=>True
 | .ref a=>a∈A
 |_=>False
theorem ju.mono{A B:List Addr}(h:∀a∈A,a∈B):∀{u:Value},ju A u->ju B u:=λ{u} x=>by
 cases u with
 |ref a=>exact h a x
 |none=>trivial
 |bool b=>trivial
 |int i t=>trivial
 |str s t=>trivial
 |bytes b t=>trivial
 |_=>exact fE x
theorem Vn{A:List Addr}{u:Value}(x:ju A u):RelV (toV u) u:=by
 cases u with
 |ref a=>rfl
 |none=>rfl
 |bool b=>rfl
 |int i t=>exact⟨t,rfl⟩
 |str s t=>exact⟨t,rfl⟩
 |bytes b t=>exact⟨t,rfl⟩
 |_=>exact fE x
theorem sQ{A:List Addr}:∀{vs:List Value},(∀u∈vs,ju A u)->Vals (vs.map toV) vs
 |[],_=>.nil
 |u::r,h=>.cons (Vn (h u (bY ..))) (sQ λx hx=>h x (bR _ hx))
def ka(h:Heap)(A:List Addr)(a:Addr):Prop:=∃vs:List Value,vs.length<=sizeLine/\(∀u∈vs,ju A u)/\
 (h.get? a=some {cls:=.type "list",data:=.seq vs.toArray}\/h.get? a=some {cls:=.type "tuple",data:=.seq vs.toArray})
theorem ka.mono{h:Heap}{A B:List Addr}{a:Addr}(k:∀a∈A,a∈B)(x:ka h A a):ka h B a:=by
 obtain⟨vs,h1,h2,h3⟩:=x
 exact⟨vs,h1,λu hu=>(h2 u hu).mono k,h3⟩
theorem yy{P:Params}{h:Heap}:∀{vs:List Value}{ds:List WData},WellAll P h vs ds->vs.length=ds.length
 |_,_,.nil=>rfl
 |_,_,.cons _ b=>by
  show _+1=_+1
  rw[yy b]
theorem Ko{P:Params}{h:Heap}{v:Value}{ds:List WData}(x:Well P h v (.list ds)):∃(a:Addr)(vs:List Value),v=.ref a/\h.get? a=some {cls:=.type "list",data:=.seq vs.toArray}/\WellAll P h vs ds:=by
 cases x with
 |list ho dy=>exact⟨_,_,rfl,ho,dy⟩
theorem Kp{P:Params}{h:Heap}{v:Value}{ds:List WData}(x:Well P h v (.tuple ds)):∃(a:Addr)(vs:List Value),v=.ref a/\h.get? a=some {cls:=.type "tuple",data:=.seq vs.toArray}/\WellAll P h vs ds:=by
 cases x with
 |tuple ho dy=>exact⟨_,_,rfl,ho,dy⟩
theorem Kq{P:Params}{h:Heap}{us:List Value}{d:WData}{ds:List WData}(x:WellAll P h us (d::ds)):∃(v:Value)(vs:List Value),us=v::vs/\Well P h v d/\WellAll P h vs ds:=by
 cases x with
 |cons a b=>exact⟨_,_,rfl,a,b⟩
theorem Kr{n:Nat}(h:n<=1048576):n<=sizeLine:=cp h (by decide)
section
variable{P:Params}{h:Heap}
mutual
theorem Vo:∀(d:WData)(v:Value),Well P h v d->iW d=true->d.weight<=1048576->∃A:List Addr,ju A v/\∀a∈A,ka h A a
 | .none,_,x,_,_=>by
  cases x
  exact⟨[],trivial,λa m=>absurd m (by simp)⟩
 | .bool b,_,x,_,_=>by
  cases x
  exact⟨[],trivial,λa m=>absurd m (by simp)⟩
 | .int i,_,x,_,_=>by
  cases x
  exact⟨[],trivial,λa m=>absurd m (by simp)⟩
 | .str s,_,x,_,_=>by
  cases x
  exact⟨[],trivial,λa m=>absurd m (by simp)⟩
 | .bytes b,_,x,_,_=>by
  cases x
  exact⟨[],trivial,λa m=>absurd m (by simp)⟩
 | .list ds,_,x,p,z=>by
  obtain⟨a,vs,rfl,ho,dy⟩:=Ko x
  have z2:GX ds<=1048576:=z
  obtain⟨A,h1,h2⟩:=yz ds _ dy p λd hd=>cp (B5 hd) z2
  have k:∀b∈A,b∈a::A:=λb hb=>bR _ hb
  refine⟨a::A,bY ..,λb hb=>?_⟩
  rcases bz.mp hb with e|m
  ·rw[e]
   exact⟨vs,Kr (by rw[yy dy];exact cp (agS ds) z2),λu hu=>(h1 u hu).mono k,.inl ho⟩
  ·exact(h2 b m).mono k
 | .tuple ds,_,x,p,z=>by
  obtain⟨a,vs,rfl,ho,dy⟩:=Kp x
  have z2:GX ds<=1048576:=z
  obtain⟨A,h1,h2⟩:=yz ds _ dy p λd hd=>cp (B5 hd) z2
  have k:∀b∈A,b∈a::A:=λb hb=>bR _ hb
  refine⟨a::A,bY ..,λb hb=>?_⟩
  rcases bz.mp hb with e|m
  ·rw[e]
   exact⟨vs,Kr (by rw[yy dy];exact cp (agS ds) z2),λu hu=>(h1 u hu).mono k,.inr ho⟩
  ·exact(h2 b m).mono k
 | .float _,_,_,p,_=>kD (show false=true from p)
 | .dict _,_,_,p,_=>kD (show false=true from p)
 | .bytearray _,_,_,p,_=>kD (show false=true from p)
 | .set _,_,_,p,_=>kD (show false=true from p)
 | .frozenset _,_,_,p,_=>kD (show false=true from p)
 | .obj _ _,_,_,p,_=>kD (show false=true from p)
theorem yz:∀(ds:List WData)(vs:List Value),WellAll P h vs ds->j_ ds=true->(∀d∈ds,d.weight<=1048576)->∃A:List Addr,(∀u∈vs,ju A u)/\∀a∈A,ka h A a
 |[],_,x,_,_=>by
  cases x
  exact⟨[],λu m=>absurd m (by simp),λa m=>absurd m (by simp)⟩
 |d::ds,_,x,p,z=>by
  obtain⟨v,vs,rfl,x1,x2⟩:=Kq x
  have q:iW d=true/\j_ ds=true:=ahq.mp p
  obtain⟨A,a1,a2⟩:=Vo d v x1 q.1 (z d (bY ..))
  obtain⟨B,b1,b2⟩:=yz ds vs x2 q.2 λe he=>z e (bR _ he)
  have kA:∀b∈A,b∈A++B:=λb hb=>cP.mpr (.inl hb)
  have kB:∀b∈B,b∈A++B:=λb hb=>cP.mpr (.inr hb)
  refine⟨A++B,λu hu=>?_,λb hb=>?_⟩
  ·rcases bz.mp hu with e|m
   ·rw[e]
    exact a1.mono kA
   ·exact(b1 u m).mono kB
  ·rcases cP.mp hb with m|m
   ·exact(a2 b m).mono kA
   ·exact(b2 b m).mono kB
end
end
def yA(o:Obj):Option HO:=match o.data with
 | .seq vs _=>if(o.cls==pW "list")=true then some (.fH o (.lst (vs.toList.map toV)))else some (.fH o (.tup (vs.toList.map toV)))
 |_=>none
def fP(K:ai)(h:Heap)(A:List Addr):Hp:=λb=>if b∈A then(if(K.lookup b).isNone=true then(h.get? b).bind yA else none)else none
def vd(H:Hp):Prop:=∀b,H b=none\/∃o u,H b=some (.fH o u)
theorem Ks(vs:List Value):yA {cls:=.type "list",data:=.seq vs.toArray}=some (.fH {cls:=.type "list",data:=.seq vs.toArray} (.lst (vs.map toV))):=by
 show(if(pW "list"==pW "list")=true then some (HO.fH {cls:=.type "list",data:=.seq vs.toArray} (.lst (vs.toArray.toList.map toV)))else some (HO.fH {cls:=.type "list",data:=.seq vs.toArray} (.tup (vs.toArray.toList.map toV))))=_
 rw[if_pos (beq_self_eq_true _)]
theorem Ku(vs:List Value):yA {cls:=.type "tuple",data:=.seq vs.toArray}=some (.fH {cls:=.type "tuple",data:=.seq vs.toArray} (.tup (vs.map toV))):=by
 show(if(pW "tuple"==pW "list")=true then some (HO.fH {cls:=.type "tuple",data:=.seq vs.toArray} (.lst (vs.toArray.toList.map toV)))else some (HO.fH {cls:=.type "tuple",data:=.seq vs.toArray} (.tup (vs.toArray.toList.map toV))))=_
 rw[if_neg (by decide)]
section
variable{P:Program}{w:World}{K:ai}{h:Heap}{A:List Addr}
theorem yB{b:Addr}{o:Obj}(hb:b∈A)(hk:K.lookup b=none)(e:h.get? b=some o):fP K h A b=yA o:=by
 unfold fP
 rw[if_pos hb,hk,if_pos (show(none:Option Obj).isNone=true from rfl),e]<;>rfl
theorem Vp{b:Addr}{u:HO}(q:fP K h A b=some u):b∈A/\K.lookup b=none:=by
 unfold fP at q
 by_cases hb:b∈A
 ·rw[if_pos hb]at q
  cases hk:K.lookup b with
  |none=>exact⟨hb,rfl⟩
  |some o=>
   rw[hk,if_neg (by simp)]at q
   cases q
 ·rw[if_neg hb]at q
  cases q
theorem yC(ar:∀a∈A,ka h A a){b:Addr}{u:HO}(q:fP K h A b=some u):K.lookup b=none/\∃vs:List Value,vs.length<=sizeLine/\(∀u∈vs,ju A u)/\
  ((h.get? b=some {cls:=.type "list",data:=.seq vs.toArray}/\u=.fH {cls:=.type "list",data:=.seq vs.toArray} (.lst (vs.map toV)))\/
   (h.get? b=some {cls:=.type "tuple",data:=.seq vs.toArray}/\u=.fH {cls:=.type "tuple",data:=.seq vs.toArray} (.tup (vs.map toV)))):=by
 obtain⟨hb,hk⟩:=Vp q
 obtain⟨vs,h1,h2,h3⟩:=ar b hb
 refine⟨hk,vs,h1,h2,?_⟩
 rcases h3 with e|e
 ·rw[yB hb hk e,Ks]at q
  exact .inl ⟨e,(cZ q).symm⟩
 ·rw[yB hb hk e,Ku]at q
  exact .inr ⟨e,(cZ q).symm⟩
theorem Vq(ar:∀a∈A,ka h A a):vd (fP K h A):=λb=>by
 cases q:fP K h A b with
 |none=>exact .inl rfl
 |some u=>
  obtain⟨_,vs,_,_,⟨_,e⟩|⟨_,e⟩⟩:=yC ar q
  ·exact .inr ⟨_,_,by rw[e]⟩
  ·exact .inr ⟨_,_,by rw[e]⟩
theorem Vr(ar:∀a∈A,ka h A a):cH P w (fP K h A) h:=λb u q=>by
 obtain⟨_,vs,h1,h2,⟨e,rfl⟩|⟨e,rfl⟩⟩:=yC ar q
 ·exact⟨e,by rw[aA];exact h1,vs,_,sQ h2,e⟩
 ·exact⟨e,by rw[aA];exact h1,vs,sQ h2,_,e,rfl,_,rfl⟩
theorem yD{c c':Value}{vs us:List Value}(e:(some {cls:=c,data:=.seq vs.toArray}:Option Obj)=some {cls:=c',data:=.seq us.toArray}):c=c'/\vs=us:=by
 have e1:=cZ e
 have e2:c=c':=congrArg Obj.cls e1
 have e3:Hq vs.toArray=Hq us.toArray:=congrArg Obj.data e1
 injection e3 with e4
 refine⟨e2,?_⟩
 have e5:=congrArg Qu e4
 simpa using e5
theorem Vs(KX:K.In h)(ar:∀a∈A,ka h A a){a:Addr}{vs:List Value}(ha:a∈A)(e:h.get? a=some {cls:=.type "list",data:=.seq vs.toArray}):(∀u∈vs,ju A u)/\ah K (fP K h A) a (vs.map toV):=by
 obtain⟨us,h1,h2,h3⟩:=ar a ha
 have hu:us=vs:=by
  rcases h3 with q|q
  ·rw[e]at q
   exact(yD q).2.symm
  ·rw[e]at q
   exact absurd (aho (yD q).1) (by decide)
 subst hu
 refine⟨h2,?_⟩
 cases hk:K.lookup a with
 |none=>exact .inl (.inr ⟨_,by rw[yB ha hk e,Ks]⟩)
 |some o=>
  have e2:=KX a o hk
  rw[e]at e2
  obtain rfl:=cZ e2
  exact .inr ⟨_,us.toArray,_,hk,rfl,rfl,rfl,by rw[cI];exact h1,by simpa using sQ h2⟩
theorem Vt(KX:K.In h)(ar:∀a∈A,ka h A a){a:Addr}{vs:List Value}(ha:a∈A)(e:h.get? a=some {cls:=.type "tuple",data:=.seq vs.toArray}):(∀u∈vs,ju A u)/\aB K (fP K h A) a (vs.map toV):=by
 obtain⟨us,h1,h2,h3⟩:=ar a ha
 have hu:us=vs:=by
  rcases h3 with q|q
  ·rw[e]at q
   exact absurd (aho (yD q).1) (by decide)
  ·rw[e]at q
   exact(yD q).2.symm
 subst hu
 refine⟨h2,?_⟩
 cases hk:K.lookup a with
 |none=>exact .inl (.inr ⟨_,by rw[yB ha hk e,Ku]⟩)
 |some o=>
  have e2:=KX a o hk
  rw[e]at e2
  obtain rfl:=cZ e2
  exact .inr ⟨_,us.toArray,_,hk,rfl,rfl,by rw[cI];exact h1,by simpa using sQ h2⟩
mutual
theorem Vu{Pm:Params}(KX:K.In h)(ar:∀a∈A,ka h A a):∀(d:WData)(v:Value),Well Pm h v d->iW d=true->ju A v->Dw K (fP K h A) (toV v) d
 | .none,_,x,_,_=>by
  cases x
  exact .aO
 | .bool b,_,x,_,_=>by
  cases x
  exact .bl b
 | .int i,_,x,_,_=>by
  cases x
  exact .int i
 | .str s,_,x,_,_=>by
  cases x
  exact .str s
 | .bytes b,_,x,_,_=>by
  cases x
  have z:=Dw.gg (K:=K) (H:=fP K h A) b.toArray
  exact z
 | .list ds,_,x,p,hu=>by
  obtain⟨a,vs,rfl,ho,dy⟩:=Ko x
  obtain⟨h2,hs⟩:=Vs KX ar hu ho
  exact .lst hs (yE KX ar ds _ dy p h2)
 | .tuple ds,_,x,p,hu=>by
  obtain⟨a,vs,rfl,ho,dy⟩:=Kp x
  obtain⟨h2,hs⟩:=Vt KX ar hu ho
  exact .tup hs (yE KX ar ds _ dy p h2)
 | .float _,_,_,p,_=>kD (show false=true from p)
 | .dict _,_,_,p,_=>kD (show false=true from p)
 | .bytearray _,_,_,p,_=>kD (show false=true from p)
 | .set _,_,_,p,_=>kD (show false=true from p)
 | .frozenset _,_,_,p,_=>kD (show false=true from p)
 | .obj _ _,_,_,p,_=>kD (show false=true from p)
theorem yE{Pm:Params}(KX:K.In h)(ar:∀a∈A,ka h A a):∀(ds:List WData)(vs:List Value),WellAll Pm h vs ds->j_ ds=true->(∀u∈vs,ju A u)->j9 K (fP K h A) (vs.map toV) ds
 |[],_,x,_,_=>by
  cases x
  exact .nil
 |d::ds,_,x,p,hu=>by
  obtain⟨v,vs,rfl,x1,x2⟩:=Kq x
  have q:iW d=true/\j_ ds=true:=ahq.mp p
  exact .cons (Vu KX ar d v x1 q.1 (hu _ (bY ..))) (yE KX ar ds vs x2 q.2 λu m=>hu u (bR _ m))
end
end
theorem Vv{P:Program}{w:World}{K:ai}{mg mb:Str->Option Value}{CX:eP}{k:Nat}{fa:Addr}{fd:FuncData}{ps:List Str}{sp:Sp}{bA:Shared}{vals:List Value}{ds:List WData}{R:aht}{cl:Str->Option Addr}{d0:WData}
  (KX:K.In bA.heap) (oW:bA.heap.Ns mainGlobals mg) (hb:bA.heap.Ns builtinsNs mb) (Vw:∀x:Str,x≠"__name__"->mb x=bootBuiltins x) (Vx:bA.heap.NoLimit) (hg:bA.gens= #[])
  (ve:WellAll w.params bA.heap vals ds) (dE:j_ ds=true) (Vy:∀d∈ds,d.weight<=1048576) (hr:bc k callerA)
  (F:∀base:Heap,K.In base->base.Ns mainGlobals mg->aK P w K mg base CX k fa fd ps sp) (Vz:∀(s:Shared)(us:List Value),us.length=ps.length->BindsTo s fd ⟨us,[]⟩ (ps.zip us)) (hlen:ds.length=ps.length)
  (eQ:∀(H:Hp)(xs:List V),vd H->j9 K H xs ds->sp xs H (λv H'=>Dw K H' v d0) λ_ _ _=>False)
  (vf:∀H e s',CX [] H bA (λ_ _ _=>False) e s'->False):
  codeAny (model P w) callerA (.call (.ref fa) ⟨vals,[]⟩) (λr s'=>∃u as,r=.ok (.ret u)/\ReadsW R cl s'.heap u d0 as/\OldK bA.heap s'.heap/\s'.os=bA.os/\AllBare s'.gens) bA:=by
 obtain⟨A,ho,ar⟩:=yz ds vals ve dE Vy
 have hO:vd (fP K bA.heap A):=Vq ar
 have az:cH P w (fP K bA.heap A) bA.heap:=Vr ar
 have hS:=yE KX ar ds vals ve dE ho
 have hV:=sQ ho
 have hK:∀b u,fP K bA.heap A b=some u->K.lookup b=none:=λb u q=>(yC ar q).1
 have sC:∀{b:Addr}{o:Obj}{es:Array DictEntry}{ep:Nat},bA.heap.get? b=some o->o.data=.dict es ep->fP K bA.heap A b=none:=λ{b o es ep} e d=>by
  cases q:fP K bA.heap A b with
  |none=>rfl
  |some u=>
   obtain⟨_,vs,_,_,⟨e2,_⟩|⟨e2,_⟩⟩:=yC ar q
   ·rw[e2]at e
    cases e
    have d':Hq vs.toArray _=Data.dict es ep:=d
    cases d'
   ·rw[e2]at e
    cases e
    have d':Hq vs.toArray _=Data.dict es ep:=d
    cases d'
 generalize fP K bA.heap A=H at hO az hS hK sC
 have Kv:∀{b:Addr}{o:Obj},bA.heap.get? b=some o->H b=none->(mZ bA.heap H).get? b=some o:=λe n=>RZ e n
 have yF:∀{b:Addr}{m:Str->Option Value},bA.heap.Ns b m->(mZ bA.heap H).Ns b m:=λ{b m} ⟨o,es,ep,e,d,r⟩=>⟨o,es,ep,Kv e (sC e d),d,r⟩
 have nK:∀b o,K.lookup b=some o->H b=none:=λb o e=>by
  cases q:H b with
  |none=>rfl
  |some u=>
   rw[hK b u q]at e
   cases e
 have Kw:K.In (mZ bA.heap H):=λb o e=>Kv (KX b o e) (nK b o e)
 have hM:Mod K mg (mZ bA.heap H):=⟨Kw,yF oW,⟨mb,yF hb,Vw⟩,let⟨mc,h1,h2⟩:=Vx;⟨mc,yF h1,h2⟩⟩
 have e0:qm P w K mg (mZ bA.heap H) callerA [] bA H:=⟨rfl,hM,λb o e=>R0 e,As (RY _ _),trivial,λb hb=>absurd (show b∈([]:List Addr)from hb) (by simp),az,.of_eq hg⟩
 have hl:vals.length=ps.length:=by rw[yy ve];exact hlen
 refine codeAny_mono ((F _ Kw (yF oW)).run callerA [] bA H ⟨vals,[]⟩ vals (vals.map toV) _ _ hr e0 (Vz bA vals hl) hV (eQ H _ hO hS)) λr s' x=>?_
 cases r with
 |error e=>exact(vf H e s' x).elim
 |ok fl=>
  cases fl with
  |next=>exact fE x
  |brk=>exact fE x
  |cont=>exact fE x
  |ret u=>
   obtain⟨v,H',os,bare,un,Kx,r',q⟩:=x
   have kept:∀b o,bA.heap.get? b=some o->s'.heap.get? b=some o:=λb o e=>by
    cases q2:H b with
    |none=>exact un.keep b o e q2 (by intro z;exact absurd (show b∈([]:List Addr)from z) (by simp)) (by simp)
    |some u2=>
     rcases hO b with z|⟨ob,u3,z⟩
     ·rw[q2]at z
      cases z
     ·have z2:=un.jY b ob _ z
      obtain⟨e1,_⟩:=az b _ z
      obtain⟨e2,_⟩:=Kx b _ z2
      rw[e]at e1
      cases e1
      exact e2
   have VA:K.In s'.heap:=λb o e=>kept b o (KX b o e)
   obtain⟨as,jv⟩:=Dw.reads (R:=R) (cl:=cl) Kx VA d0 v u q r'
   exact⟨u,as,rfl,jv,OldK.of_keep kept,os,bare⟩
theorem VB{ds:List WData}(h:WData.layableAll ds=true):∀d∈ds,d.weight<=1048576:=λd hd=>
 (PySem.W.layableW_iff.mp (rE.mp h d hd)).2.2
theorem Ky:∀(cs:List Codec)(a:G1 cs),(w8 cs a).length=cs.length
 |[],_=>rfl
 |c::cs,a=>by
  show(w8 cs a.2).length+1=cs.length+1
  rw[Ky cs a.2]
theorem VC{r:OpenSpec}{k:Nat}{q:Program}{loose:List Str}{XP:(Str->Option Value)->Heap->Prop}{YP:World->Heap->Prop}{d:DefRec}{K:Params->ai}{CX:World->eP}{ps:List Str}{sp:World->Sp}
  (B6:r.wellSaid=true) (Kz:d.params.defaults=[]) (hlen:r.args.length=ps.length) (hr:bc k callerA)
  (hY:∀(w:World)(h:Heap),YP w h->(K w.params).In h)
  (F:∀(w:World)(mg:Str->Option Value)(fa:Addr)(h:Heap),YP w h->(K w.params).In h->h.Ns mainGlobals mg->mg d.name=some (.ref fa)->
   ∃fd:FuncData,(∀(s:Shared)(us:List Value),us.length=ps.length->BindsTo s fd ⟨us,[]⟩ (ps.zip us))/\
    ∀base:Heap,(K w.params).In base->base.Ns mainGlobals mg->aK r.prog w (K w.params) mg base (CX w) k fa fd ps (sp w))
  (eQ:∀(w:World)(H:Hp)(xs:List V)(a:G1 r.args),vd H->Codec.withinAll r.args a=true->Au r.args r.asked a=true->j9 (K w.params) H xs (w8 r.args a)->
   sp w xs H (λv H'=>Dw (K w.params) H' v (r.ret.enc (Au r.args r.f a))) λ_ _ _=>False)
  (vf:∀(w:World)(H:Hp)(s:Shared)(e:Value)(s':Shared),CX w [] H s (λ_ _ _=>False) e s'->False):
  PySem.W.WalkOS q loose XP YP r d [] (λf vs=>PySem.call f vs):=by
 intro w dH bA mg mb G Y fa o pm cd doc dV kV ho hd j0 hD B7 hg args vals as yG VD jv ve hlo
 obtain⟨a,e1,e2⟩:=PySem.W.os_pre_some yG
 obtain⟨e3,qy⟩:=Codec.encAll_of_decAll r.args args a e1
 subst e3
 have KX:=hY w _ Y
 obtain⟨fd,hb,hF⟩:=F w mg fa _ Y KX G.T.g B7
 refine PySem.W.enter_call (codeAny_mono (Vv (R:=[]) (cl:=classAt dH.heap) (d0:=r.ret.enc (Au r.args r.f a)) KX G.T.g G.T.b G.T.builtins G.T.nolimit hg ve (Kn _ _) (VB VD) hr hF hb (by rw[Ky];exact hlen)
  (λH xs hO hS=>eQ w H xs a hO qy e2 hS) λH e s'=>vf w H bA e s') λr' s' hq=>?_)
 obtain⟨u,VE,rfl,h1,h2,h3,h4⟩:=hq
 exact⟨.inl ⟨u,_,VE,rfl,λ_=>rfl,h1,(OpenSpec.post_iff B6 qy _ _).mpr rfl,λz=>kD (show false=true from z)⟩,h2,h3,h4⟩
theorem VF{r:OpenSpec}{k:Nat}{q:Program}{loose:List Str}{XP:(Str->Option Value)->Heap->Prop}{YP:World->Heap->Prop}{d:DefRec}{K:Params->ai}{CX:eP}{ps:List Str}{sp:ai->Sp}
  (B6:r.wellSaid=true) (Kz:d.params.defaults=[]) (hlen:r.args.length=ps.length) (hr:bc k callerA)
  (hY:∀(w:World)(h:Heap),YP w h->(K w.params).In h)
  (F:∀(w:World)(mg:Str->Option Value)(fa:Addr)(h:Heap),YP w h->(K w.params).In h->h.Ns mainGlobals mg->mg d.name=some (.ref fa)->
   ∃fd:FuncData,(∀(s:Shared)(us:List Value),us.length=ps.length->BindsTo s fd ⟨us,[]⟩ (ps.zip us))/\
    ∀base:Heap,(K w.params).In base->base.Ns mainGlobals mg->aK r.prog w (K w.params) mg base CX k fa fd ps (sp (K w.params)))
  (eQ:∀(K:ai)(H:Hp)(xs:List V)(a:G1 r.args),vd H->Codec.withinAll r.args a=true->Au r.args r.asked a=true->j9 K H xs (w8 r.args a)->
   sp K xs H (λv H'=>Dw K H' v (r.ret.enc (Au r.args r.f a))) λ_ _ _=>False)
  (vf:∀(H:Hp)(s:Shared)(e:Value)(s':Shared),CX [] H s (λ_ _ _=>False) e s'->False):
  PySem.W.WalkOS q loose XP YP r d [] (λf vs=>PySem.call f vs):=
 VC (K:=K) (CX:=λ_=>CX) (sp:=λw=>sp (K w.params)) B6 Kz hlen hr hY F (λw H xs a h1 h2 h3 h4=>eQ (K w.params) H xs a h1 h2 h3 h4) λ_ H s e s'=>vf H s e s'
end L2
end
set_option Elab.async false
set_option linter.all false
set_option maxRecDepth 100000
namespace L2.Bx
open PySem PySem.Spec PyProof.Rows
structure qz(C dx:Addr)(H:Hp)(n:Nat)(h:Heap)(e:Addr):Prop where
 old:n<=e
 free:H e=none
 at_:∃oe vs,h.get? e=some oe/\oe.cls=.ref C/\oe.dict=some dx/\oe.data=.fields vs/\
  (vs[1]? =some d7\/∃T oT ts,vs[1]? =some (.ref T)/\T≠e/\n<=T/\H T=none/\h.get? T=some oT/\oT.data=.fields ts/\ts[3]? =some d7)
structure vg(fs ch:List Addr)(h h':Heap):Prop where
 keep:∀b o,h.get? b=some o->b∉fs->b∉ch->h'.get? b=some o
 slot:∀b o,h.get? b=some o->b∉ch->∃sl,h'.get? b=some {o with slots:=sl}
 there:∀b o,h.get? b=some o->∃o',h'.get? b=some o'
section
variable{M:Model}{A:Around}{E:Value->Shared->Prop}{s:Shared}{env:Env}{outer:List Env}{L e:Addr}{base:Heap}
theorem KA{oe:Obj}{vs:Array Value}{head:Value}{hn:Bool}{Q:Unit->Shared->Prop}(gY:A.frames=some (env::outer))(hl:s.heap.FunFrames base (env::outer))(hf:env.frame=some L)
  (he:s.heap.get? e=some oe) (hd:oe.data=.fields vs) (h1:1<vs.size)
  (h:∀h' T,s.heap.objs.size<=T->vg (il (env::outer)) [e] s.heap h'->
   (∃ma qA,h'.get? e=some ma/\ma.cls=oe.cls/\ma.dict=oe.dict/\ma.data=.fields qA/\qA[1]? =some (.ref T))->
   (∃oT ts,h'.get? T=some oT/\oT.data=.fields ts/\ts[3]? =some d7)->Q () {s with heap:=h'}):
  wpAny M A (do
   let a<-frameOf env
   let pl<-entryPlaceOf L hn
   let b<-ahe head a .none (rawInt L) .none pl
   setField (.ref e) 1 b) (λ_ s'=>wpAny M A (setFlight (.ref e) none) Q E s') E s:=by
 have ne:e∉il (env::outer):=λhm=>by
  obtain⟨_,o,ho,nf⟩:=hl.mem hm
  rw[he]at ho
  cases ho
  exact nf vs hd
 refine wpAny_bind (wpAny_frameOf_fun gY hl hf λg hs=>?_)
 obtain⟨z1,z2,z3⟩:=hs
 refine wpAny_bind (wpAny_entryPlaceOf λpl dE=>?_)
 unfold ahe newFields
 refine wpAny_bind (wpAny_newObj_type ?_ (dE.sizeOk5 _ _ _ _ _))
 have e1:g.get? e=some oe:=(z2 e ne).trans he
 generalize hx:([head,cD L,d7,rawInt L,d7]++(if pl.isEmpty then eO 6 d7 else pl)).toArray=arr
 have a3:3<arr.size:=by
  rw[<-hx,cI,bf]
  have:[head,cD L,d7,rawInt L,d7].length=5:=rfl
  omega
 generalize KC:({cls:=.type "traceback",dict:=none,data:=.fields arr}:Obj)=tb
 have e2:(g.push tb).get? e=some oe:=bH tb e1
 have tn:g.objs.size≠e:=pV (bO e1)
 refine wpAny_setField e2 hd h1 ?_
 have d3:=wN hd (·.setIfInBounds 1 (cD g.objs.size))
 have e3:=rB (pT (·.setIfInBounds 1 (cD g.objs.size))) e2 (Gy d3)
 have tf:tb.isFreed=false:=by rw[<-KC];rfl
 have t2:(g.push tb).get? g.objs.size=some tb:=dG g tf
 have t3:((g.push tb).update e (pT (·.setIfInBounds 1 (cD g.objs.size)))).get? g.objs.size=some tb:=by
  rw[lK _ _ (Ne.symm tn)]
  exact t2
 unfold setFlight
 refine wpAny_bind (wpAny_field e3 d3 (x:=.ref g.objs.size) (by simp[h1]) ?_)
 rw[if_pos (show(cD g.objs.size != d7)=true from by simp)]
 have td:tb.data=.fields arr:=by rw[<-KC]
 refine wpAny_setField t3 td a3 (h _ g.objs.size (by rw[z1];exact aT _) ?_ ?_ ?_)
 ·have keep:∀b o,b≠e->g.get? b=some o->(((g.push tb).update e (pT (·.setIfInBounds 1 (cD g.objs.size)))).update g.objs.size (pT (·.setIfInBounds 3 ((none:Option Addr).elim d7 λf=>rawInt f)))).get? b=some o:=by
   intro b o hb q
   rw[lK _ _ (pV (bO q)),lK _ _ (Ne.symm hb)]
   exact bH tb q
  refine⟨λb o q nb nc=>keep b o (by simpa using nc) ((z2 b nb).trans q),λb o q nc=>?_,λb o q=>?_⟩
  ·obtain⟨sl,q'⟩:=z3 b o q
   exact⟨sl,keep b _ (by simpa using nc) q'⟩
  ·by_cases hb:b=e
   ·subst hb
    exact⟨_,(lK _ _ tn).trans e3⟩
   ·obtain⟨sl,q'⟩:=z3 b o q
    exact⟨_,keep b _ hb q'⟩
 ·refine⟨_,_,(lK _ _ tn).trans e3,Obj.cls_mapFields _ _,?_,d3,by simp[h1]⟩
  obtain⟨c,di,da,sl⟩:=oe
  cases da<;>rfl
 ·exact⟨_,_,rB _ t3 (Gy (wN td _)),wN td _,by simp[a3]⟩
theorem vg.more{fs ch cN:List Addr}{h g h':Heap}(k:∀b o,b∉cN->h.get? b=some o->g.get? b=some o)(t:∀b o,h.get? b=some o->∃o',g.get? b=some o')(x:vg fs ch g h')(hs:∀b∈ch,b∈cN):vg fs cN h h' where
 keep:=λb o q nb nc=>x.keep b o (k b o nc q) nb λz=>nc (hs b z)
 slot:=λb o q nc=>x.slot b o (k b o nc q) λz=>nc (hs b z)
 there:=λb o q=>let⟨o',q'⟩:=t b o q;x.there b o' q'
theorem VG{C dx:Addr}{H:Hp}{n:Nat}{Q:Unit->Shared->Prop}(gY:A.frames=some (env::outer))(hl:s.heap.FunFrames base (env::outer))(hf:env.frame=some L)(x:qz C dx H n s.heap e)(hn:n<=s.heap.objs.size)(hH:∀b,s.heap.objs.size<=b->H b=none)
  (h:∀h' ch,vg (il (env::outer)) ch s.heap h'->(∀b∈ch,n<=b/\H b=none/\∃o vs,s.heap.get? b=some o/\o.data=.fields vs)->qz C dx H n h' e->Q () {s with heap:=h'}):
  wpAny M A (noteFrame (.ref e) env) (λ_ s'=>wpAny M A (setFlight (.ref e) none) Q E s') E s:=by
 obtain⟨oe,vs,he,hc,yH,hd,hv⟩:=x.at_
 have KD:∀T,s.heap.objs.size<=T->T≠e:=λT hT=>pV (eM (bO he) hT)
 unfold noteFrame
 simp only[hf]
 rcases hv with hv|⟨T,oT,ts,hv,yI,yJ,yK,hT,nD,h3⟩
 ·refine wpAny_bind (wpAny_field he hd hv ?_)
  rw[if_neg (by decide)]
  refine KA gY hl hf he hd (Gr.mp hv).1 λh' T' g_ N ⟨ma,qA,a1,a2,a3,a4,a5⟩ ⟨oT,ts,b1,b2,b3⟩=>?_
  refine h h' [e] N (λb hb=>?_) ⟨x.old,x.free,ma,qA,a1,a2.trans hc,a3.trans yH,a4,.inr ⟨T',oT,ts,a5,KD T' g_,cp hn g_,hH T' g_,b1,b2,b3⟩⟩
  have eb:b=e:=by simpa using hb
  subst eb
  exact⟨x.old,x.free,oe,vs,he,hd⟩
 ·refine wpAny_bind (wpAny_field he hd hv ?_)
  rw[if_pos (show(cD T != d7)=true from by simp)]
  refine wpAny_bind (wpAny_field hT nD h3 ?_)
  rw[if_neg (show ¬((d7==rawInt L)=true)from by simp[rawInt])]
  refine wpAny_bind (wpAny_setField hT nD (Gr.mp h3).1 ?_)
  have qB:∀b,b≠T->(s.heap.update T (pT (·.setIfInBounds 3 d7))).get? b=s.heap.get? b:=λb hb=>lK _ _ (Ne.symm hb)
  have B8:∀b o,s.heap.get? b=some o->(∀ws,o.data≠.fields ws)->b≠T:=λb o q nf z=>by
   rw[z,hT]at q
   cases q
   exact nf ts nD
  have jZ:(s.heap.update T (pT (·.setIfInBounds 3 d7))).FunFrames base (env::outer):=hl.of_keeps λb o q nf=>⟨o,(qB b (B8 b o q nf)).trans q,rfl⟩
  have sz:(s.heap.update T (pT (·.setIfInBounds 3 d7))).objs.size=s.heap.objs.size:=Heap.size_after_update _ _ _
  refine KA (s:={s with heap:=s.heap.update T (pT (·.setIfInBounds 3 d7))}) gY jZ hf ((qB e (Ne.symm yI)).trans he) hd (Gr.mp hv).1 λh' T' g_ N ⟨ma,qA,a1,a2,a3,a4,a5⟩ ⟨VH,VI,b1,b2,b3⟩=>?_
  have gq:s.heap.objs.size<=T':=by
   have q:(s.heap.update T (pT (·.setIfInBounds 3 d7))).objs.size<=T':=g_
   rw[sz]at q
   exact q
  refine h h' [e,T] (N.more (λb o nb q=>(qB b λz=>nb (by simp[z])).trans q) (λb o q=>?_) (by simp)) (λb hb=>?_) ⟨x.old,x.free,ma,qA,a1,a2.trans hc,a3.trans yH,a4,.inr ⟨T',VH,VI,a5,KD T' gq,cp hn gq,hH T' gq,b1,b2,b3⟩⟩
  ·by_cases hb:b=T
   ·subst hb
    exact⟨_,rB _ hT (Gy (wN nD _))⟩
   ·exact⟨o,(qB b hb).trans q⟩
  ·rcases bz.mp hb with eb|hb
   ·subst eb
    exact⟨x.old,x.free,oe,vs,he,hd⟩
   ·have eb:b=T:=by simpa using hb
    subst eb
    exact⟨yJ,yK,oT,ts,hT,nD⟩
end
section
variable{X:Cx}{pins:List (Addr×Obj)}{σ:St}{H H':Hp}{s s':Shared}{C dx e:Addr}
theorem apart(I:Inv X pins σ H s){b:Addr}(hb:s.heap.objs.size<=b):(b∈X.ex\/X.dH.heap.objs.size<=b)/\b≠X.env.locals/\(∀x c,X.env.cells.lookup x=some c->c≠b)/\∀p∈X.pn++pins,p.1≠b:=by
 refine⟨.inr (cp I.sz hb),pV (eM I.lt hb),λx c hc=>?_,λp hp=>?_⟩
 ·obtain⟨v,o,ho,_⟩:=I.cell x c hc
  exact cV (eM (bO ho) hb)
 ·exact cV (eM (bO (I.pin p hp).1) hb)
theorem KG{E:Value->Shared->Prop}{A:Around}{Q:Unit->Shared->Prop}(I:Inv X pins σ H s)(I':Inv X pins σ H' s')(hs:X.stack=X.env::X.outer)(hf:X.env.frame=some X.env.locals)(gY:A.frames=some X.stack)(x:qz C dx H' s.heap.objs.size s'.heap e)
  (h:∀kY,kY.os=s'.os->Inv X pins σ H' kY->qz C dx H' s.heap.objs.size kY.heap e->Q () kY):
  wpAny (model X.prog X.w) A (noteFrame (.ref e) X.env) (λ_ s2=>wpAny (model X.prog X.w) A (setFlight (.ref e) none) Q E s2) E s':=by
 have KH:=I'.stack
 have sub:=I'.xH
 have KI:=I'.A9
 have hsz:s.heap.objs.size<=s'.heap.objs.size:=by
  obtain⟨oe,vs,he,_⟩:=x.at_
  exact cp x.old (uk (bO he))
 rw[hs]at KH gY sub KI
 refine VG gY KH hf x hsz (λb hb=>I'.az.fresh hb) λh' ch N fb x'=>?_
 have ap:∀b∈ch,(b∈X.ex\/X.dH.heap.objs.size<=b)/\b≠X.env.locals/\(∀x c,X.env.cells.lookup x=some c->c≠b)/\∀p∈X.pn++pins,p.1≠b:=λb hb=>apart I (fb b hb).1
 have nL:X.env.locals∉ch:=λz=>(ap _ z).2.1 rfl
 refine h _ rfl ?_ x'
 refine I'.step (g':=s'.gens) (t':=s'.toks) (d':=s'.drawn) (h':=h') (ch:=ch) ap (λb o n1 n2 n3 q _=>N.keep b o q (λz=>?_) n3) (λb o _ _ n3 q _=>N.slot b o q n3) (λ_ _ _ _ q=>q) (λb o _ q=>N.there b o q) (λ_ _ q=>q) (λ_ _ _ q=>q) (λb ps q=>⟨#[],by rw[q];simp⟩)
  (λm hm=>?_) (λb u q=>?_) I'.bare
 ·rcases bz.mp (sub b z)with z|z
  ·exact n1 z
  ·exact n2 z
 ·obtain⟨o,es,ep,ho,r⟩:=hm
  obtain⟨sl,q⟩:=N.slot _ o ho nL
  exact⟨_,es,ep,q,r⟩
 ·have tr:∀c u,H' c=some u->∀v,s'.heap.get? c=some v->h'.get? c=some v:=λc u hc v hv=>N.keep c v hv (λz=>by rw[KI c z]at hc;cases hc) λz=>by rw[(fb c z).2.1]at hc;cases hc
  refine(I'.az b u q).jX (λc v hc hv=>?_) (λ_ z=>z) λ_ _ z=>z
  rcases hc with rfl|hc
  ·exact tr c u q v hv
  ·exact tr c _ hc v hv
end
def aU(P:Program)(w:World)(C:Addr):eP:=λouter H s E e s'=>∃ea dx H',e=.ref ea/\s'.os=s.os/\AllBare s'.gens/\Un (il outer) [] H H' s.heap s'.heap/\cH P w H' s'.heap/\qz C dx H' s.heap.objs.size s'.heap ea/\E (.ref C) (some dx) H'
theorem cU{P:Program}{w:World}{K:ai}{mg:Str->Option Value}{base:Heap}{N:List Str}{qual:Str}{scope:Scope}{f:Addr}{cd:Value}{A:Around}{outer:List Env}{s:Shared}{H:Hp}{E E':XK}{C:Addr}(h:∀c d H',E' c d H'->E c d H'):
  Passes (aU P w C) (fT (aU P w C) P w K mg base N qual scope f cd A outer s H E) E':=by
 intro pins σ H1 s1 e s' I hx
 obtain⟨ea,dx,H',rfl,ho,hb,un,az,x,hE⟩:=hx
 have I':Inv (fT (aU P w C) P w K mg base N qual scope f cd A outer s H E) pins σ H' s':=I.xJ ho un az hb (λ_ z=>nomatch z)
 show wpAny _ _ (leaving _ _) _ _ s'
 unfold leaving
 refine wpAny_bind (KG I I' rfl rfl I.ok.frames x λkY ip yL x'=>?_)
 exact⟨ea,dx,H',rfl,yL.os,yL.bare,yL.base,yL.az,⟨cp I.sz x'.old,x'.free,by
  obtain⟨oe,vs,h1,h2,h3,h4,h5⟩:=x'.at_
  refine⟨oe,vs,h1,h2,h3,h4,?_⟩
  rcases h5 with h5|⟨T,oT,ts,q1,q2,q3,q4⟩
  ·exact .inl h5
  ·exact .inr ⟨T,oT,ts,q1,q2,cp I.sz q3,q4⟩⟩,h _ _ _ hE⟩
end L2.Bx
set_option Elab.async false
set_option linter.all false
set_option maxRecDepth 100000
namespace L2.Bx
open PySem PySem.Spec PyProof.Rows
open Builtin Builtin.ObjectAttr
abbrev yM:List Value:=[.type "Exception",.type "BaseException",.type "object"]
section
variable{prog:Program}{w:World}{A:Around}{E:Value->Shared->Prop}{h:Heap}{g:Array GenState}{d:Drawn}{t:Nat}{os:OsState}
variable{nm q:Str}{C N x:Addr}{bs:List Value}{sn:List Str}{sub:List Value}{ab:Bool}{col:Option Bool}{dd:Option Addr}{k0 k1 k2 k3 k5:Option Value}{newId B sa owner:String}{bm:List Value}
 {mN:Str->Option Value} {name:Str} {v:Value} {o:Obj} {vs:Array Value}
theorem VJ{tk:Tok}{Q:Fin->Shared->Prop}(SF:StoreFacts B bm sa owner)(hC:h.get? C=some (excClassObj nm q C N bs bm true sn sub ab col dd k0 k1 k2 k3 k5 newId))(hn:h.Ns N mN)(jw:mN name=none)
  (hB:typeLookup (.type B) name=pure none) (hx:h.get? x=some o) (hc:o.cls=.ref C) (hd:o.dict=none) (iX:o.data=.fields vs)
  (hq:∀h' iY,h'.get? x=some {o with dict:=some h.objs.size}->h'.Ns1 h.objs.size (λy=>if y=name then some v else none)->(∀b u,b≠x->h.get? b=some u->h'.get? b=some u)->Q (.done (.ret .none)) ⟨h',g,d,iY,os⟩):
  wpAny (model prog w) A (Builtin.«object.__setattr__» ⟨[.ref x,.str name tk,v],[]⟩) Q E ⟨h,g,d,t,os⟩:=by
 have pass:=SF.passes (.ref x)
 unfold Builtin.«object.__setattr__»
 repeat (first
  |rw[refuse_eq]
  |rw[refuseLoop_ref,pass]
  |(with_reducible refine wpAny_loadPart_at hx ?_;rw[hc])
  |with_reducible refine wpAny_mroOf_exc hC ?_
  |(with_reducible refine wpAny_typeLookup_exc hC hn SF.mro hB ?_;rw[jw])
  |wp_step)
 rw[hd,iX,if_neg (by simp[typeHasDict])]
 have x1:(h.push {cls:=.type "dict",data:=.dict #[]}).get? x=some o:=bH _ hx
 have xs:x≠h.objs.size:=cV (bO hx)
 refine wpAny_bind (wpAny_alloc' ?_)
 refine wpAny_bind (wpAny_update' x1 (wpAny_pure ?_))
 generalize hg:((h.push {cls:=.type "dict",data:=.dict #[]}).update x λo=>{cls:=o.cls,dict:=some h.objs.size,data:=o.data,slots:=o.slots})=g1
 have gd:g1.get? h.objs.size=some {cls:=.type "dict",data:=.dict #[]}:=by
  rw[<-hg]
  exact(ahx _ _ _ _ xs.symm).trans (Heap.get?_push_at rfl rfl)
 have gx:g1.get? x=some {o with dict:=some h.objs.size}:=by
  rw[<-hg]
  refine rB _ x1 ?_
  obtain⟨oc,od,odt,fj⟩:=o
  cases iX
  rfl
 have gk:∀b u,b≠x->h.get? b=some u->g1.get? b=some u:=λb u nb q=>by
  rw[<-hg]
  exact(ahx _ _ _ _ nb).trans (bH _ q)
 have gn:g1.Ns h.objs.size (λ_=>none):=⟨_,#[],_,gd,rfl,λe he=>absurd he (by simp),λ_=>rfl⟩
 show wpAny _ _ (storeInDict h.objs.size (.str name tk) name v) _ _ _
 unfold storeInDict newKeyGuard
 refine wpAny_bind (wpAny_pure (wpAny_bind (wpAny_nsSet1 (ahm gn) λh' n1 sb=>?_)))
 obtain⟨oD,S0,S1,Bu,Bv,Bw⟩:=n1.count (Within.cons name v Within.nil)
 refine wpAny_bind (wpAny_lookBehind Bu (by rw[Bv];exact pastItsLine_dict (cp Bw (by rw[bJ,uh,sizeLine_eq];omega))) ?_)
 wp_walk
 exact hq h' _ ((sb.2 x xs).trans gx) n1 λb u nb q=>(sb.2 b (cV (bO q))).trans (gk b u nb q)
theorem VL{tk:Tok}{R:Result->Shared->Prop}(SF:StoreFacts B bm sa owner)(hC:h.get? C=some (excClassObj nm q C N bs bm true sn sub ab col dd k0 k1 k2 k3 k5 newId))(hn:h.Ns N mN)(jw:mN name=none)
  (hB:typeLookup (.type B) name=pure none) (hx:h.get? x=some o) (hc:o.cls=.ref C) (hd:o.dict=none) (iX:o.data=.fields vs)
  (hq:∀h' iY,h'.get? x=some {o with dict:=some h.objs.size}->h'.Ns1 h.objs.size (λy=>if y=name then some v else none)->(∀b u,b≠x->h.get? b=some u->h'.get? b=some u)->R (.ok (.ret .none)) ⟨h',g,d,iY,os⟩):
  codeAny (model prog w) A (.call (.builtin sa) ⟨[.ref x,.str name tk,v],[]⟩) R ⟨h,g,d,t,os⟩:=
 codeAny_call_builtin SF.slot.plain SF.entry (wpAny_check_sa SF hC hx hc (VJ SF hC hn jw hB hx hc hd iX hq))
theorem VM{Q:Unit->Shared->Prop}(SF:StoreFacts B bm sa owner)(hC:h.get? C=some (excClassObj nm q C N bs bm true sn sub ab col dd k0 k1 k2 k3 k5 newId))(hn:h.Ns N mN)(oW:mN "__setattr__"=none)(jw:mN name=none)
  (hB:typeLookup (.type B) name=pure none) (hx:h.get? x=some o) (hc:o.cls=.ref C) (hd:o.dict=none) (iX:o.data=.fields vs)
  (hq:∀h' iY,h'.get? x=some {o with dict:=some h.objs.size}->h'.Ns1 h.objs.size (λy=>if y=name then some v else none)->(∀b u,b≠x->h.get? b=some u->h'.get? b=some u)->Q () ⟨h',g,d,iY,os⟩):
  wpAny (model prog w) A (setAttr (.ref x) name v) Q E ⟨h,g,d,t,os⟩:=by
 have f3:=SF.slot.bind (.ref x)
 unfold setAttr callSpecial? specialOf
 repeat (any_goals (first
  |assumption
  |(with_reducible refine wpAny_loadPart_at hx ?_;rw[hc])
  |(with_reducible refine wpAny_typeLookup_exc hC hn SF.mro SF.slot.lookup ?_;rw[oW])
  |wp_step))
 refine VL SF hC hn jw hB hx hc hd iX λh' iY a1 a2 a3=>?_
 have z:=hq h' iY a1 a2 a3
 repeat (any_goals (first|assumption|wp_step))
theorem VN{tk:Tok}{dx:Addr}{mA:Str->Option Value}{Q:Fin->Shared->Prop}(SF:StoreFacts B bm sa owner)(hC:h.get? C=some (excClassObj nm q C N bs bm true sn sub ab col dd k0 k1 k2 k3 k5 newId))(hn:h.Ns N mN)(jw:mN name=none)
  (hB:typeLookup (.type B) name=pure none) (hx:h.get? x=some o) (hc:o.cls=.ref C) (hd:o.dict=some dx) (iX:o.data=.fields vs) (hA:h.Ns1 dx mA) (hv:mA name=some v)
  (hq:Q (.done (.ret v)) ⟨h,g,d,t,os⟩):wpAny (model prog w) A (Builtin.«object.__getattribute__» ⟨[.ref x,.str name tk],[]⟩) Q E ⟨h,g,d,t,os⟩:=by
 repeat (any_goals (first
  |assumption
  |(with_reducible refine wpAny_loadPart_at hx ?_;rw[hc])
  |(with_reducible refine wpAny_typeLookup_exc hC hn SF.mro hB ?_;rw[jw])
  |wp_step))
 rw[iX]
 dsimp only
 unfold instanceDict
 repeat (first
  |(with_reducible refine wpAny_loadPart_at hx ?_;rw[hc])
  |with_reducible refine wpAny_loadPart_at hC ?_
  |wp_step)
 rw[hd]
 repeat (first|(with_reducible refine wpAny_nsGet hA.ns ?_;rw[hv])|wp_step)
 exact hq
theorem VO{M:Model}{KJ:Value}{Q:Unit->Shared->Prop}(hb:bm.contains (.type "BaseException")=true)(hC:h.get? C=some (excClassObj nm q C N bs bm true sn sub ab col dd k0 k1 k2 k3 k5 newId))(hx:h.get? x=some o)(hc:o.cls=.ref C)
  (hq:Q () ⟨h,g,d,t,os⟩):wpAny M A (checkBuiltinCall "BaseException.__getattribute__" ⟨[.ref x,KJ],[]⟩) Q E ⟨h,g,d,t,os⟩:=by
 have c1:builtinKind "BaseException.__getattribute__"=some .slot:=by decide+kernel
 have c2:splitId "BaseException.__getattribute__"=some ("BaseException","__getattribute__"):=by decide+kernel
 have c3:(cD C::bm).contains (.type "BaseException")=true:=by rw[ahD,hb,QB]
 have c4:=PySem.F.args_bexc_ga (.ref x) KJ
 simp only[checkBuiltinCall,c1,c2]
 refine wpAny_bind ?_
 unfold isInstance
 repeat (first
  |(with_reducible refine wpAny_loadPart_at hx ?_;rw[hc])
  |(with_reducible refine wpAny_isSubtype_exc hC ?_;rw[c3])
  |wp_step)
 exact hq
theorem VP{tk:Tok}{dx:Addr}{mA:Str->Option Value}{R:Result->Shared->Prop}(FA:ExcAttrFacts B)(SF:StoreFacts B bm sa owner)(hb:bm.contains (.type "BaseException")=true)(hC:h.get? C=some (excClassObj nm q C N bs bm true sn sub ab col dd k0 k1 k2 k3 k5 newId))(hn:h.Ns N mN)(jw:mN name=none)
  (hB:typeLookup (.type B) name=pure none) (hx:h.get? x=some o) (hc:o.cls=.ref C) (hd:o.dict=some dx) (iX:o.data=.fields vs) (hA:h.Ns1 dx mA) (hv:mA name=some v)
  (hq:R (.ok (.ret v)) ⟨h,g,d,t,os⟩):codeAny (model prog w) A (.call (.builtin "BaseException.__getattribute__") ⟨[.ref x,.str name tk],[]⟩) R ⟨h,g,d,t,os⟩:=
 codeAny_call_builtin FA.ga.plain PySem.F.entry_bexc_ga (VO hb hC hx hc (VN SF hC hn jw hB hx hc hd iX hA hv hq))
theorem VQ{tk:Tok}{fill expr:Bool}{dx:Addr}{mA:Str->Option Value}{Q:Value->Shared->Prop}(FA:ExcAttrFacts B)(SF:StoreFacts B bm sa owner)(hb:bm.contains (.type "BaseException")=true)(ng:typeLookup (.type B) "__getattr__"=pure none)(hC:h.get? C=some (excClassObj nm q C N bs bm true sn sub ab col dd k0 k1 k2 k3 k5 newId))(hn:h.Ns N mN)(B9:mN "__getattribute__"=none)(B_:mN "__getattr__"=none)(jw:mN name=none)
  (hB:typeLookup (.type B) name=pure none) (hx:h.get? x=some o) (hc:o.cls=.ref C) (hd:o.dict=some dx) (iX:o.data=.fields vs) (hA:h.Ns1 dx mA) (hv:mA name=some v) (hh:handedOut v=pure v)
  (hq:Q v ⟨h,g,d,t,os⟩):wpAny (model prog w) A (getAttrBy (.ref x) (.str name tk) fill expr) Q E ⟨h,g,d,t,os⟩:=by
 have f3:=FA.ga.bind (.ref x)
 have x0:(expr&&onTheHeap (An "BaseException.__getattribute__"))=false:=by cases expr<;>rfl
 have x2:(An "BaseException.__getattribute__"==An "object.__getattribute__")=false:=by decide+kernel
 have x1:(onTheHeap (cD C)&&An "BaseException.__getattribute__"==An "object.__getattribute__")=false:=by rw[x2];rfl
 repeat (any_goals (first
  |assumption
  |(with_reducible refine wpAny_loadPart_at hx ?_;rw[hc])
  |(with_reducible refine wpAny_typeLookup_exc hC hn SF.mro FA.ga.lookup ?_;rw[B9])
  |(with_reducible refine wpAny_typeLookup_exc hC hn SF.mro ng ?_;rw[B_])
  |wp_step))
 refine VP FA SF hb hC hn jw hB hx hc hd iX hA hv ?_
 repeat (any_goals (first|assumption|wp_step))
theorem VR{expr:Bool}{dx:Addr}{mA:Str->Option Value}{Q:Value->Shared->Prop}(FA:ExcAttrFacts B)(SF:StoreFacts B bm sa owner)(hb:bm.contains (.type "BaseException")=true)(ng:typeLookup (.type B) "__getattr__"=pure none)(hC:h.get? C=some (excClassObj nm q C N bs bm true sn sub ab col dd k0 k1 k2 k3 k5 newId))(hn:h.Ns N mN)(B9:mN "__getattribute__"=none)(B_:mN "__getattr__"=none)(jw:mN name=none)
  (hB:typeLookup (.type B) name=pure none) (hx:h.get? x=some o) (hc:o.cls=.ref C) (hd:o.dict=some dx) (iX:o.data=.fields vs) (hA:h.Ns1 dx mA) (hv:mA name=some v) (hh:handedOut v=pure v)
  (hq:Q v ⟨h,g,d,t+1,os⟩):wpAny (model prog w) A (getAttr (.ref x) name expr) Q E ⟨h,g,d,t,os⟩:=by
 unfold getAttr
 repeat (any_goals (first
  |assumption
  |with_reducible apply VQ FA SF hb ng hC hn B9 B_ jw hB hx hc hd iX hA hv hh
  |wp_step))
abbrev nE(C t:Addr):Obj:={cls:=.ref C,data:=.fields #[.ref t,.none,.none,.none,.bool false,.none]}
abbrev qC(vs:List Value):Obj:={cls:=.type "tuple",data:=.seq vs.toArray}
theorem VS{Ca:String}{fI:Addr}{oI:Obj}{rest:List Value}{Q:Fin->Shared->Prop}(F:ExcBaseFacts B newId Ca bm)(hC:h.get? C=some (excClassObj nm q C N bs bm true sn sub ab col dd k0 k1 k2 k3 k5 newId))(hn:h.Ns N mN)(hi:mN "__init__"=some (.ref fI))
  (Cb:h.get? fI=some oI) (Cc:oI.cls=.type "function") (hr:rest.length<=sizeLine)
  (hq:wpAny (model prog w) A (call (.ref fI) (.ref (h.objs.size+1)::rest)) (λr s'=>r=.none/\Q (.done (.ret (.ref (h.objs.size+1)))) s') E ⟨(h.push (qC rest)).push (nE C h.objs.size),g,d,t,os⟩):
  wpAny (model prog w) A (Builtin.«type.__call__» ⟨.ref C::rest,[]⟩) Q E ⟨h,g,d,t,os⟩:=by
 have cC:(cD C::bm).contains (.ref C)=true:=by simp
 have k2:∀b u,h.get? b=some u->((h.push (qC rest)).push (nE C h.objs.size)).get? b=some u:=λb u z=>bH _ (bH _ z)
 have nN:((h.push (qC rest)).push (nE C h.objs.size)).Ns N mN:=by
  obtain⟨oN,es,ep,e1,e2⟩:=hn
  exact⟨oN,es,ep,k2 _ _ e1,e2⟩
 have ge:((h.push (qC rest)).push (nE C h.objs.size)).get? (h.objs.size+1)=some (nE C h.objs.size):=by heap_get
 repeat (first
  |with_reducible refine wpAny_loadPart_at hC ?_
  |with_reducible refine wpAny_madeBy_exc hC ?_
  |wp_step)
 refine codeAny_call_builtin_code (PZ _ F.quiet) (wpAny_check_new_sub F hC (codeAny_exc_new_sub F hC ?_ hr))
 show wpAny _ _ _ _ _ _
 unfold isInstance
 repeat (first
  |with_reducible refine wpAny_loadPart_at ge ?_
  |(with_reducible refine wpAny_isSubtype_exc (k2 _ _ hC) ?_;rw[cC])
  |wp_step)
 show wpAny _ _ (typeLookup (.ref C) _) _ _ _
 refine wpAny_typeLookup_exc (k2 _ _ hC) nN F.mroIs F.init.lookup ?_
 rw[hi]
 refine wpAny_holding (wpAny_bind ?_)
 unfold bindSpecial
 refine wpAny_bind (wpAny_typeOf (T:="function") ⟨_,k2 _ _ Cb,Cc⟩ ?_)
 rw[if_pos (by decide)]
 refine wpAny_pure (wpAny_bind (wpAny_mono hq (λr s' z=>?_) λ_ _ z=>z))
 obtain⟨rfl,z⟩:=z
 wp_walk
 exact z
theorem VT{Ca:String}{fI:Addr}{oI:Obj}{rest:List Value}{Q:Value->Shared->Prop}(F:ExcBaseFacts B newId Ca bm)(hC:h.get? C=some (excClassObj nm q C N bs bm true sn sub ab col dd k0 k1 k2 k3 k5 newId))(hn:h.Ns N mN)(hi:mN "__init__"=some (.ref fI))
  (Cb:h.get? fI=some oI) (Cc:oI.cls=.type "function") (hr:rest.length<=sizeLine)
  (hq:wpAny (model prog w) (A.under (.builtin "type.__call__" ⟨.ref C::rest,[]⟩)) (call (.ref fI) (.ref (h.objs.size+1)::rest)) (λr s'=>r=.none/\Q (.ref (h.objs.size+1)) s') E ⟨(h.push (qC rest)).push (nE C h.objs.size),g,d,t,os⟩):
  wpAny (model prog w) A (call (.ref C) rest) Q E ⟨h,g,d,t,os⟩:=by
 have f1:=tc_lookup
 have f2:=tc_bind (.ref C)
 have hT:(⟨h,g,d,t,os⟩:Shared).TypeIs (.ref C) "type":=⟨_,hC,rfl⟩
 refine wpAny_call (codeAny_of_tree ?_)
 show wpAny _ _ (callAny (.ref C) _) _ _ _
 repeat (any_goals (first
  |assumption
  |with_reducible refine wpAny_loadPart_at hC ?_
  |wp_step))
 exact⟨rfl,codeAny_call_builtin_at (PZ _ (by decide+kernel)) entry_typeCall (wpAny_check_type_call_sub hC (VS F hC hn hi Cb Cc hr hq))⟩
theorem VU{M:Model}{env:Env}{s:Shared}{y:Sem Value}{Q:Flow->Shared->Prop}(hb:bm.contains (.type "BaseException")=true)(hh:A.handled=none)
  (hy:wpAny M A y (λu s1=>∃e oe t,u=.ref e/\s1.heap.get? C=some (excClassObj nm q C N bs bm true sn sub ab col dd k0 k1 k2 k3 k5 newId)/\
   s1.heap.get? e=some oe/\oe.cls=.ref C/\oe.data=.fields #[.ref t,.none,.none,.none,.bool false,.none]/\E (.ref e) s1) E s):
  wpAny M A (raiseStmt env (some y) none) Q E s:=by
 have cB:(cD C::bm).contains (.type "BaseException")=true:=by rw[ahD,hb,QB]
 unfold raiseStmt
 refine wpAny_bind (wpAny_mono hy (λu s1 z=>?_) λ_ _ z=>z)
 obtain⟨e,oe,t,rfl,zC,ze,zc,zd,zE⟩:=z
 obtain⟨hp,g,d,tk,os⟩:=s1
 obtain⟨oc,odi,VW,fj⟩:=oe
 dsimp only at zc zd
 subst zc zd
 repeat (first
  |with_reducible refine wpAny_loadPart_at ze ?_
  |with_reducible refine wpAny_loadPart_at zC ?_
  |(with_reducible refine wpAny_isSubtype_exc zC ?_;rw[cB])
  |wp_step)
 exact wpAny_raiseNew_none hh zE
end
end L2.Bx
set_option Elab.async false
set_option linter.all false
set_option maxRecDepth 100000
namespace L2.Bx
open PySem PySem.Spec PyProof.Rows
structure dB(K:ai)(C fI:Addr)(at_:List Str):Prop where
 ex:∃nm q N bs sn sub ab col dd k0 k1 k2 k3 k5 mN,K.lookup C=some (excClassObj nm q C N bs yM true sn sub ab col dd k0 k1 k2 k3 k5 "Exception.__new__")/\(∀h:Heap,K.In h->h.Ns N mN)/\mN "__init__"=some (.ref fI)/\
  mN "__setattr__"=none/\mN "__getattribute__"=none/\mN "__getattr__"=none/\∀f∈at_,mN f=none
 base:∀f∈at_,typeLookup (.type "Exception") f=pure none
 fn:∃oI,K.lookup fI=some oI/\oI.cls=.type "function"
 kp:ib K (.ref C)=true
theorem VX:typeLookup (.type "Exception") "__getattr__"=pure none:=PySem.F.attrBase_Exception.noGetattr
def XO(C a:Addr)(od:Option Addr)(fr:Bool):HO:=.ext λh=>∃oe vs,h.get? a=some oe/\oe.cls=.ref C/\oe.dict=od/\oe.data=.fields vs/\(fr=true->∃t,vs= #[.ref t,.none,.none,.none,.bool false,.none])
def XD(dx:Addr)(fs:List (Str×V)):HO:=.ext λh=>∃mA,h.Ns1 dx mA/\(∀f,fG (fs.lookup f) (mA f))/\Ar mA (fs.map (·.1))/\fs.length<=1000
theorem Cd{P:Program}{w:World}{H:Hp}{h:Heap}{C a:Addr}{od:Option Addr}{fr:Bool}{oe:Obj}{vs:Array Value}(h1:h.get? a=some oe)(h2:oe.cls=.ref C)(h3:oe.dict=od)(h4:oe.data=.fields vs)
  (h5:fr=true->∃t,vs= #[.ref t,.none,.none,.none,.bool false,.none]):b_ P w H h a (XO C a od fr):=
 ⟨⟨oe,vs,h1,h2,h3,h4,h5⟩,⟨oe,h1⟩,λg1 g2 ⟨oe,vs,a1,a2⟩ k=>⟨oe,vs,k _ a1,a2⟩⟩
theorem KL{P:Program}{w:World}{H:Hp}{h:Heap}{dx:Addr}{fs:List (Str×V)}{mA:Str->Option Value}(h1:h.Ns1 dx mA)(h2:∀f,fG (fs.lookup f) (mA f))(h3:Ar mA (fs.map (·.1)))(h4:fs.length<=1000):b_ P w H h dx (XD dx fs):=by
 refine⟨⟨mA,h1,h2,h3,h4⟩,?_,λg1 g2 ⟨mA,a1,a2⟩ k=>⟨mA,?_,a2⟩⟩
 ·obtain⟨o,_,_,e,_⟩:=h1
  exact⟨o,e⟩
 ·exact a1.at k
section
variable{X:Cx}{pins:List (Addr×Obj)}{σ:St}{H H':Hp}{s s':Shared}{C dx e a fI:Addr}{at_:List Str}
theorem Ce{o:HO}(I:Inv X pins σ H s)(hn:H a=none)(h0:X.dH.heap.objs.size<=a)(hL:a≠X.env.locals)(hc:∀x c,X.env.cells.lookup x=some c->c≠a)(hp:∀p∈X.pn++pins,p.1≠a)(new:b_ X.prog X.w (upd H a o) s.heap a o):Inv X pins σ (upd H a o) s where
 ok:=I.ok
 os:=I.os
 bare:=I.bare
 base:=⟨I.base.keep,I.base.slot,λb u q n hx=>by rw[ao (cV (eM (bO q) h0))];exact I.base.free b u q n hx,I.base.there,
  λb xs q=>by rw[ao (aF (I.base.kK b xs q) hn)];exact I.base.kK b xs q,λb u xs q=>by rw[ao (aF (I.base.jY b u xs q) hn)];exact I.base.jY b u xs q,
  λb ps q=>by
   obtain⟨more,z⟩:=I.base.lX b ps q
   exact⟨more,by rw[ao (aF z hn)];exact z⟩⟩
 loc:=I.loc
 cell:=I.cell
 free:=by rw[ao (Ne.symm hL)];exact I.free
 fK:=λx c q=>by rw[ao (hc x c q)];exact I.fK x c q
 pin:=λp ij=>by
  obtain⟨z1,z2,z3⟩:=I.pin p ij
  exact⟨z1,by rw[ao (hp p ij)];exact z2,z3⟩
 az:=λb u q=>by
  by_cases hb:b=a
  ·subst hb
   rw[aj]at q
   cases q
   exact new
  ·rw[ao hb]at q
   exact(I.az b u q).jX (λ_ _ _ z=>z) (λc z=>by rw[ao (aF z hn)];exact z) λc xs z=>by rw[ao (aF z hn)];exact z
 len:=I.len
theorem VY{f:Str}{y:V}{u:Value}{fr:Bool}{A:Around}{E:Value->Shared->Prop}{Q:Unit->Shared->Prop}(I:Inv X pins σ H s)(c:dB X.K C fI at_)(hf:f∈at_)(he:H e=some (XO C e none fr))(ry:RelV y u)
  (h:∀dx s',H dx=none->dx≠e->Inv X pins σ (upd (upd H e (XO C e (some dx) fr)) dx (XD dx [(f,y)])) s'->Q () s'):wpAny (model X.prog X.w) A (setAttr (.ref e) f u) Q E s:=by
 obtain⟨nm,q,N,bs,sn,sub,ab,col,dd,k0,k1,k2,k3,k5,mN,hC,hN,hi,hs,_,_,md⟩:=c.ex
 obtain⟨⟨oe,vs,o1,o2,o3,o4,o5⟩,_⟩:=(show b_ X.prog X.w H s.heap e (XO C e none fr)from I.az e _ he)
 obtain⟨hh,g,d,t,os⟩:=s
 refine VM Py (I.dI _ _ hC) (hN _ I.dI) hs (md f hf) (c.base f hf) o1 o2 o3 o4 λh' iY a1 a2 a3=>?_
 have n1:H hh.objs.size=none:=I.az.fresh (aT _)
 have ne:hh.objs.size≠e:=Ne.symm (aF he n1)
 have I1:=I.write (x:=e) (e:=e) (h':=h') (o:=XO C e (some hh.objs.size) fr) (t':=iY) (by rw[he];exact mT) (.inl rfl) (λb v nb z=>a3 b v nb z) ⟨_,a1⟩ (Cd a1 o2 rfl o4 o5)
 obtain⟨z1,z2,z3,z4⟩:=apart I (b:=hh.objs.size) (aT _)
 refine h hh.objs.size _ n1 ne (Ce I1 (by rw[ao ne];exact n1) (show X.dH.heap.objs.size<=hh.objs.size from I.sz) z2 z3 z4 (KL a2 (λg=>?_) (λg hg=>?_) (by show 1<=1000;decide)))
 ·rw[show[(f,y)]=bP f y []from rfl,x6]
  by_cases z:g=f
  ·rw[if_pos z,if_pos z];exact ry
  ·rw[if_neg z,if_neg z];exact mT
 ·by_cases z:g=f
  ·rw[z];exact bY
  ·exact absurd (if_neg z) hg
theorem VZ{f:Str}{y:V}{u:Value}{fr:Bool}{fs:List (Str×V)}{A:Around}{E:Value->Shared->Prop}{Q:Unit->Shared->Prop}(I:Inv X pins σ H s)(c:dB X.K C fI at_)(hf:f∈at_)(he:H e=some (XO C e (some dx) fr))(bU:H dx=some (XD dx fs))(a8:dx≠e)(hl:fs.length<1000)(ry:RelV y u)
  (h:∀s',Inv X pins σ (upd H dx (XD dx (bP f y fs))) s'->Q () s'):wpAny (model X.prog X.w) A (setAttr (.ref e) f u) Q E s:=by
 obtain⟨nm,q,N,bs,sn,sub,ab,col,dd,k0,k1,k2,k3,k5,mN,hC,hN,hi,hs,_,_,md⟩:=c.ex
 obtain⟨⟨oe,vs,o1,o2,o3,o4,o5⟩,_⟩:=(show b_ X.prog X.w H s.heap e (XO C e (some dx) fr)from I.az e _ he)
 obtain⟨⟨mA,d1,d2,d3,d4⟩,_⟩:=(show b_ X.prog X.w H s.heap dx (XD dx fs)from I.az dx _ bU)
 have sh:e≠C:=λz=>by
  have kC:=I.ok.mod.qe C _ hC
  have:=(I.bs _ _ kC).2
  rw[<-z,he]at this
  cases this
 obtain⟨hh,g,d,t,os⟩:=s
 refine store_attr (mA:=mA) (ns:=fs.map (·.1)) Py (I.dI _ _ hC) (hN _ I.dI) hs (md f hf) (c.base f hf) sh ⟨oe,o1,o2,(λcd z=>(by rw[o4]at z;cases z)),.inr ⟨dx,o3,a8,d1⟩⟩ (λh' iY J kp same=>?_) d3 (by rw[aA,sizeLine_eq];omega)
 obtain⟨oj,j1,j2,j3,j4⟩:=J
 obtain⟨ma,e1,_,_,_,e5⟩:=same oe o1
 rw[j1]at e1
 cases e1
 have dj:oj.dict=some dx:=e5 dx o3
 have yN:h'.Ns1 dx (λy'=>if y'=f then some u else mA y'):=by
  rcases j4 with⟨z,_⟩|⟨dz,z1,_,z3⟩
  ·rw[dj]at z;cases z
  ·rw[dj]at z1;cases z1;exact z3
 have od:∃o,h'.get? dx=some o:=let⟨o,_,_,z,_⟩:=yN;⟨o,z⟩
 have ee:h'.get? e=some oe:=by
  obtain⟨V0,q1,q2,q3,q4,q5⟩:=same oe o1
  have qd:=q5 dx o3
  rw[q1]
  obtain⟨c1,c2,c3,c4⟩:=V0
  obtain⟨b1,b2,b3,b4⟩:=oe
  dsimp only at q2 q3 q4 qd o3
  rw[q2,q3,q4,qd,o3]
 refine h _ (I.write (x:=dx) (e:=dx) (h':=h') (t':=iY) (by rw[bU];exact mT) (.inl rfl) (λb v nb z=>?_) od (KL yN (λg=>?_) (λg hg=>?_) (by have:=By f y fs;omega)))
 ·by_cases hb:b=e
  ·subst hb
   have z':hh.get? b=some v:=z
   rw[o1]at z'
   cases z'
   exact ee
  ·exact kp b v hb (λo0 dx0 z1 z2=>by
    rw[o1]at z1
    cases z1
    rw[o3]at z2
    cases z2
    exact nb) z
 ·rw[x6]
  by_cases z:g=f
  ·rw[if_pos z,if_pos z];exact ry
  ·rw[if_neg z,if_neg z];exact d2 g
 ·by_cases z:g=f
  ·rw[z];exact(uN f y fs).1
  ·refine(uN f y fs).2 g (d3 g λz2=>hg ?_)
   show(if g=f then some u else mA g)=none
   rw[if_neg z];exact z2
theorem V1{f:Str}{y:V}{fr b:Bool}{fs:List (Str×V)}{A:Around}{E:Value->Shared->Prop}{Q:Value->Shared->Prop}(I:Inv X pins σ H s)(c:dB X.K C fI at_)(hf:f∈at_)(he:H e=some (XO C e (some dx) fr))(bU:H dx=some (XD dx fs))(hl:fs.lookup f=some y)
  (h:∀u s',Inv X pins σ H s'->RelV y u->Q u s'):wpAny (model X.prog X.w) A (getAttr (.ref e) f b) Q E s:=by
 obtain⟨nm,q,N,bs,sn,sub,ab,col,dd,k0,k1,k2,k3,k5,mN,hC,hN,hi,hs,KN,KO,md⟩:=c.ex
 obtain⟨⟨oe,vs,o1,o2,o3,o4,o5⟩,_⟩:=(show b_ X.prog X.w H s.heap e (XO C e (some dx) fr)from I.az e _ he)
 obtain⟨⟨mA,d1,d2,d3,d4⟩,_⟩:=(show b_ X.prog X.w H s.heap dx (XD dx fs)from I.az dx _ bU)
 obtain⟨u,hu,ru⟩:=fG.some_of (v:=y) (o:=mA f) (by rw[<-hl];exact d2 f)
 have T:=I.tok (s.toks+1)
 obtain⟨hh,g,d,t,os⟩:=s
 exact VR PySem.F.attr_Exception Py agX.hasBase VX (I.dI _ _ hC) (hN _ I.dI) KN KO (md f hf) (c.base f hf) o1 o2 o3 o4 d1 hu (PySem.W.handedOut_of (Jl ru)) (h u _ T ru)
end
section
variable{X:Cx}{o e value:Expr}{f:Str}{pos pos':Pos}{ta tv:TE}{C fI:Addr}{at_:List Str}
def V2(C:Addr)(ta tv:TE)(f:Str):TS:=λD σ H=>tv σ H λy H1=>ta σ H1 λx H2=>∃a fr,x=.ref a/\H2 a=some (XO C a none fr)/\∀dx,H2 dx=none->dx≠a->D.nx σ (upd (upd H2 a (XO C a (some dx) fr)) dx (XD dx [(f,y)]))
def V3(C:Addr)(ta tv:TE)(f:Str):TS:=λD σ H=>tv σ H λy H1=>ta σ H1 λx H2=>∃a dx fr fs,x=.ref a/\H2 a=some (XO C a (some dx) fr)/\H2 dx=some (XD dx fs)/\dx≠a/\fs.length<1000/\D.nx σ (upd H2 dx (XD dx (bP f y fs)))
def tX(C:Addr)(ta:TE)(f:Str):TE:=λσ H Q=>ta σ H λx H1=>∃a dx fr fs v,x=.ref a/\H1 a=some (XO C a (some dx) fr)/\H1 dx=some (XD dx fs)/\fs.lookup f=some v/\Q v H1
theorem iA(c:dB X.K C fI at_)(hf:f∈at_)(ha:PE X o ta)(hv:PE X value tv)(hs:swapsWith value (some (.Attribute o f pos')) pos.line X.env=pure false):PS X (.Assign [.Attribute o f pos'] value pos) (V2 C ta tv f):=by
 intro pins s σ H D I h
 refine plainObj_wpAny_Assign_Attribute (aR (hv pins s σ H _ I h) λu s1 ⟨y,H1,I1,ry,q⟩=>aR (ha pins s1 σ H1 _ I1 q) λov s2 ⟨x,H2,I2,rx,a,fr,ex,ea,q2⟩=>?_) hs
 subst ex
 obtain rfl:ov=cD a:=rx
 exact VY I2 c hf ea ry λdx s3 n1 n2 I3=>⟨σ,_,I3,q2 dx n1 n2⟩
theorem iC(c:dB X.K C fI at_)(hf:f∈at_)(ha:PE X o ta)(hv:PE X value tv)(hs:swapsWith value (some (.Attribute o f pos')) pos.line X.env=pure false):PS X (.Assign [.Attribute o f pos'] value pos) (V3 C ta tv f):=by
 intro pins s σ H D I h
 refine plainObj_wpAny_Assign_Attribute (aR (hv pins s σ H _ I h) λu s1 ⟨y,H1,I1,ry,q⟩=>aR (ha pins s1 σ H1 _ I1 q) λov s2 ⟨x,H2,I2,rx,a,dx,fr,fs,ex,ea,ed,nd,l,q2⟩=>?_) hs
 subst ex
 obtain rfl:ov=cD a:=rx
 exact VZ I2 c hf ea ed nd l ry λs3 I3=>⟨σ,_,I3,q2⟩
theorem Cf(c:dB X.K C fI at_)(hf:f∈at_)(he:PE X e ta)(hb:attributeBase e f X.env (eval e X.env)=eval e X.env):PE X (.Attribute e f pos) (tX C ta f):=by
 intro pins s σ H Q I h
 refine Jm hb (aR (he pins s σ H _ I h) λu s1 ⟨x,H1,I1,rx,a,dx,fr,fs,v,ex,ea,ed,l,q⟩=>?_)
 subst ex
 obtain rfl:u=cD a:=rx
 exact V1 I1 c hf ea ed l λu' s2 I2 ru=>⟨v,H1,I2,ru,q⟩
end
end L2.Bx
set_option Elab.async false
set_option linter.all false
set_option maxRecDepth 100000
namespace L2.Bx
open PySem PySem.Spec PyProof.Rows
def fq(C:Addr)(f1 f2:Str):Sp:=λvs H Q _=>∃e y1 y2,vs=[.ref e,y1,y2]/\H e=some (XO C e none true)/\
 ∀(H':Hp)(dx:Addr),H dx=none->dx≠e->H' e=some (XO C e (some dx) true)->H' dx=some (XD dx [(f1,y1),(f2,y2)])->(∀b,b≠e->b≠dx->H' b=H b)->Q .aO H'
def gu(C:Addr)(f1 f2:Str)(E:XK)(t:TA):TS:=λ_ σ H=>t σ H λvs H1=>∃y1 y2,vs=[y1,y2]/\∀dx,H1 dx=none->E (.ref C) (some dx) (upd H1 dx (XD dx [(f1,y1),(f2,y2)]))
section
variable{X:Cx}{C fI:Addr}{at_:List Str}{f1 f2 x:Str}{k:Nat}{fd:FuncData}{ps:List Str}{E:XK}{a:Expr}{as:List Expr}{t:TA}{np eu pos:Pos}
theorem V4{pins:List (Addr×Obj)}{σ:St}{H:Hp}{s:Shared}{us:List Value}{y1 y2:V}(c:dB X.K C fI at_)(F:aK X.prog X.w X.K X.mg X.base ax k fI fd ps (fq C f1 f2))(hr:bc (k+1) X.A)(hb:Binds X.K fd ps [])(hx:Passes (aU X.prog X.w C) X E)
  (I:Inv X pins σ H s) (r:Vals [y1,y2] us) (h:∀dx,H dx=none->E (.ref C) (some dx) (upd H dx (XD dx [(f1,y1),(f2,y2)]))):
  wpAny (model X.prog X.w) X.A (call (.ref C) us) (λu s1=>∃e oe t,u=.ref e/\X.K.In s1.heap/\s1.heap.get? e=some oe/\oe.cls=.ref C/\oe.data=.fields #[.ref t,.none,.none,.none,.bool false,.none]/\X.xe (.ref e) s1) X.xe s:=by
 obtain⟨nm,q,N,bs,sn,sub,ab,col,dd,k0,k1,k2,k3,k5,mN,hC,hN,hi,hs,KN,KO,md⟩:=c.ex
 obtain⟨oI,l1,l2⟩:=c.fn
 have hl:us.length=2:=by rw[<-r.length];rfl
 have I0:=I
 obtain⟨hh,g,d,tk,os⟩:=s
 refine VT agX (I.dI _ _ hC) (hN _ I.dI) hi (I.dI _ _ l1) l2 (by rw[hl,sizeLine_eq];omega) ?_
 have kp:∀b u,hh.get? b=some u->((hh.push (qC us)).push (nE C hh.objs.size)).get? b=some u:=λb u z=>bH _ (bH _ z)
 have ge:((hh.push (qC us)).push (nE C hh.objs.size)).get? (hh.objs.size+1)=some (nE C hh.objs.size):=by heap_get
 have I1:=I.kept (t':=tk) kp
 have n1:H (hh.objs.size+1)=none:=I.az.fresh (mS _)
 obtain⟨z1,z2,z3,z4⟩:=apart I (b:=hh.objs.size+1) (mS _)
 have I2:=Ce (o:=XO C (hh.objs.size+1) none true) I1 n1 (cp I.sz (mS _)) z2 z3 z4 (Cd ge rfl rfl rfl λ_=>⟨_,rfl⟩)
 have r2:Vals [V.ref (hh.objs.size+1),y1,y2] (cD (hh.objs.size+1)::us):=.cons rfl r
 have hq:fq C f1 f2 [V.ref (hh.objs.size+1),y1,y2] (upd H (hh.objs.size+1) (XO C (hh.objs.size+1) none true)) (λv H'=>v=.aO/\∃dx,upd H (hh.objs.size+1) (XO C (hh.objs.size+1) none true) dx=none/\dx≠hh.objs.size+1/\H' (hh.objs.size+1)=some (XO C (hh.objs.size+1) (some dx) true)/\H' dx=some (XD dx [(f1,y1),(f2,y2)])/\∀b,b≠hh.objs.size+1->b≠dx->H' b=upd H (hh.objs.size+1) (XO C (hh.objs.size+1) none true) b) E0:=
  ⟨_,y1,y2,rfl,aj,λH' dx a1 a2 a3 a4 a5=>⟨rfl,dx,a1,a2,a3,a4,a5⟩⟩
 have hlen:(cD (hh.objs.size+1)::us++[]).length=ps.length:=by
  have e:=r2.length
  rw[F.len _ _ _ _ hq]at e
  rw[gP]
  exact e.symm
 refine wpAny_call (codeAny_mono (F.run _ X.stack _ _ ⟨cD (hh.objs.size+1)::us,[]⟩ (cD (hh.objs.size+1)::us) _ _ _ (hr.make C us []) (I2.BB.make C us []) (by
  have z:=hb _ (cD (hh.objs.size+1)::us) I2.dI hlen
  rw[gP]at z
  exact z) r2 hq) λr' s' kX=>?_)
 cases r' with
 |error e=>exact fE kX
 |ok fl=>
  cases fl with
  |next=>exact fE kX
  |brk=>exact fE kX
  |cont=>exact fE kX
  |ret u=>
   obtain⟨v,H',ho,bare,un,az,rv,ev,dx,a1,a2,a3,a4,a5⟩:=kX
   subst ev
   refine⟨rv,?_⟩
   obtain⟨⟨oe,vs,o1,o2,o3,o4,o5⟩,_⟩:=(show b_ X.prog X.w H' s'.heap (hh.objs.size+1) (XO C (hh.objs.size+1) (some dx) true)from az _ _ a3)
   obtain⟨t,rfl⟩:=o5 rfl
   have I3:=I2.xJ (ch:=[]) ho un az bare (λ_ z=>nomatch z)
   refine⟨hh.objs.size+1,oe,t,rfl,I3.dI,o1,o2,o4,hx pins σ H _ _ s' I0 ?_⟩
   have nd:H dx=none:=by rw[ao a2]at a1;exact a1
   have eH:∀b,b≠hh.objs.size+1->H' b=upd H dx (XD dx [(f1,y1),(f2,y2)]) b:=λb hb=>by
    by_cases hd:b=dx
    ·subst hd
     rw[aj,a4]
    ·rw[a5 b hb hd,ao hb,ao hd]
   have V5:∀{b:Addr}{o:Obj},hh.get? b=some o->b≠hh.objs.size+1:=λz=>cV (jM (bO z))
   have Cg:∀{b:Addr}{o:Obj},hh.get? b=some o->H b=none->upd H (hh.objs.size+1) (XO C (hh.objs.size+1) none true) b=none:=λz n=>by rw[ao (V5 z)];exact n
   have V6:∀{b:Addr}{o:Obj},hh.get? b=some o->H b=none->b≠dx:=λ{b o} z n e=>by
    have f:=un.free b o (kp _ _ z) (Cg z n) (by simp)
    rw[e,a4]at f
    cases f
   refine⟨hh.objs.size+1,dx,upd H dx (XD dx [(f1,y1),(f2,y2)]),rfl,ho,bare,⟨λb o z n nb nx=>un.keep b o (kp _ _ z) (Cg z n) nb nx,λb o z n nb nx=>un.slot b o (kp _ _ z) (Cg z n) nb nx,λb o z n nx=>by rw[ao (V6 z n)];exact n,λb o z nx=>un.there b o (kp _ _ z) nx,λb xs z=>by rw[ao (aF z nd)];exact z,λb o xs z=>by rw[ao (aF z nd)];exact z,λb ps z=>⟨#[],by rw[ao (aF z nd),z];simp⟩⟩,λb u z=>?_,⟨mS _,?_,oe,_,o1,o2,o3,o4,.inl rfl⟩,h dx nd⟩
   ·have hb:b≠hh.objs.size+1:=λe=>by
     rw[e,ao (Ne.symm a2),n1]at z
     cases z
    have z':H' b=some u:=by rw[eH b hb];exact z
    refine(az b u z').jX (λ_ _ _ q=>q) (λc q=>?_) λc xs q=>?_
    ·rw[<-eH c (λe=>by rw[e,a3]at q;cases q)];exact q
    ·rw[<-eH c (λe=>by rw[e,a3]at q;cases q)];exact q
   ·rw[ao (Ne.symm a2)];exact n1
theorem iD(c:dB X.K C fI at_)(F:aK X.prog X.w X.K X.mg X.base ax k fI fd ps (fq C f1 f2))(hr:bc (k+1) X.A)(hg:Gl X x)(hm:X.mg x=some (.ref C))(hb:Binds X.K fd ps [])(hx:Passes (aU X.prog X.w C) X E)(Ci:X.calm=true)(ha:PA X (a::as) t)
  (fN:(x==("__debug__":Str))=false:=by decide) (he:starEach (a::as) X.env=(false,eval a X.env)::starEach as X.env:=by rfl) (dE:(backTo eu (starEach as X.env)).any (·.1)=false:=by rfl):
  PS X (.Raise (some (.Call (.Name x np) (a::as) [] eu)) none pos) (gu C f1 f2 E t):=by
 intro pins s σ H D I h
 obtain⟨nm,q,N,bs,sn,sub,ab,col,dd,k0,k1,k2,k3,k5,mN,hC,_⟩:=c.ex
 rw[arm_exec_Raise]
 show wpAny _ _ (do standAt pos;raiseStmt X.env (some (do let v<-eval (.Call (.Name x np) (a::as) [] eu) X.env;standAt pos;pure v)) none) _ _ _
 refine wpAny_bind (wpAny_standAt (VU (C:=C) (nm:=nm) (q:=q) (N:=N) (bs:=bs) (bm:=yM) (sn:=sn) (sub:=sub) (ab:=ab) (col:=col) (dd:=dd) (k0:=k0) (k1:=k1) (k2:=k2) (k3:=k3) (k5:=k5) (newId:="Exception.__new__") (by decide+kernel) (I.ok.hd Ci) ?_))
 refine wpAny_bind (wpAny_mono (wpAny_Call_Name_kw (sj I hg hm (GB (h₀:=X.base) I.ok.mod.qe c.kp (aR (ha eu pins s σ H _ I h) λus s1 ⟨vs,H1,I1,r,y1,y2,ev,q1⟩=>⟨I1.dI,?_⟩) he dE) fN)) (λu s2 z=>wpAny_bind (wpAny_standAt (wpAny_pure z))) λ_ _ z=>z)
 subst ev
 exact wpAny_mono (V4 c F hr hb hx I1 r q1) (λu s2 ⟨e,oe,t,z1,z2,z3,z4,z5,z6⟩=>⟨e,oe,t,z1,z2 _ _ hC,z3,z4,z5,z6⟩) λ_ _ z=>z
end
end L2.Bx
set_option Elab.async false
set_option linter.all false
set_option maxRecDepth 100000
namespace L2.Bx
open PySem PySem.Spec PyProof.Rows
abbrev vh(X:Cx)(pn:List (Addr×Obj))(E:Value->Shared->Prop):Cx:={X with pn:=pn,xe:=E}
abbrev qD(X:Cx)(e:Value):Cx:={X with A:=X.A.mark (some e),calm:=false,xe:=λ_ _=>False}
section
variable{X:Cx}{pins pn:List (Addr×Obj)}{σ:St}{H H':Hp}{s s':Shared}{C dx e:Addr}{E:Value->Shared->Prop}
theorem Inv.into(I:Inv X pins σ H s)(E:Value->Shared->Prop):Inv (vh X (X.pn++pins) E) [] σ H s:=
 ⟨⟨I.ok.mod,I.ok.kind,I.ok.glob,I.ok.blt,I.ok.above,I.ok.inj,I.ok.has,I.ok.m4,I.ok.hd,I.ok.frames,I.ok.oG,I.ok.oH,I.ok.bs,I.ok.jl,I.ok.m5,I.ok.m6,I.ok.gR,I.ok.kL⟩,I.os,I.bare,I.base,I.loc,I.cell,I.free,I.fK,λp hp=>I.pin p (by simpa using hp),I.az,I.len⟩
theorem Inv.vi{ps:List (Addr×Obj)}(I:Inv (vh X (X.pn++pins) E) ps σ H s):Inv X pins σ H s:=
 ⟨⟨I.ok.mod,I.ok.kind,I.ok.glob,I.ok.blt,I.ok.above,I.ok.inj,I.ok.has,I.ok.m4,I.ok.hd,I.ok.frames,I.ok.oG,I.ok.oH,I.ok.bs,I.ok.jl,I.ok.m5,I.ok.m6,I.ok.gR,I.ok.kL⟩,I.os,I.bare,I.base,I.loc,I.cell,I.free,I.fK,λp hp=>I.pin p (dZ _ hp),I.az,I.len⟩
theorem Inv.vj(I:Inv X pins σ H s)(e:Value):Inv (qD X e) pins σ H s:=
 ⟨⟨I.ok.mod,I.ok.kind,I.ok.glob,I.ok.blt,I.ok.above,I.ok.inj,I.ok.has,I.ok.m4,(λz=>nomatch z),I.ok.frames,I.ok.oG,I.ok.oH,I.ok.bs,I.ok.jl,I.ok.m5,I.ok.m6,I.ok.gR,I.ok.kL⟩,I.os,I.bare,I.base,I.loc,I.cell,I.free,I.fK,I.pin,I.az,I.len⟩
theorem Inv.yO{e:Value}(hc:X.calm=true->X.A.handled=none)(I:Inv (qD X e) pins σ H s):Inv X pins σ H s:=
 ⟨⟨I.ok.mod,I.ok.kind,I.ok.glob,I.ok.blt,I.ok.above,I.ok.inj,I.ok.has,I.ok.m4,hc,I.ok.frames,I.ok.oG,I.ok.oH,I.ok.bs,I.ok.jl,I.ok.m5,I.ok.m6,I.ok.gR,I.ok.kL⟩,I.os,I.bare,I.base,I.loc,I.cell,I.free,I.fK,I.pin,I.az,I.len⟩
theorem V7{n:Nat}{A:Around}{Q:Unit->Shared->Prop}(hn:∀b,n<=b->(b∈X.ex\/X.dH.heap.objs.size<=b)/\b≠X.env.locals/\(∀x c,X.env.cells.lookup x=some c->c≠b)/\∀p∈X.pn++pins,p.1≠b)(I:Inv X pins σ H s)(x:qz C dx H n s.heap e)
  (h:∀s',s'.os=s.os->Inv X pins σ H s'->qz C dx H n s'.heap e->Q () s'):wpAny (model X.prog X.w) A (setFlight (.ref e) none) Q E s:=by
 obtain⟨oe,vs,he,hc,yH,hd,hv⟩:=x.at_
 unfold setFlight
 rcases hv with hv|⟨T,oT,ts,hv,yI,yJ,yK,hT,nD,h3⟩
 ·refine wpAny_bind (wpAny_field he hd hv ?_)
  rw[if_neg (by decide)]
  exact wpAny_pure (h s rfl I x)
 ·refine wpAny_bind (wpAny_field he hd hv ?_)
  rw[if_pos (show(cD T != d7)=true from by simp)]
  have sz:=(Gr.mp h3).1
  refine wpAny_setField hT nD sz ?_
  obtain⟨z1,z2,z3,z4⟩:=hn T yJ
  refine h _ rfl (I.turned (t':=s.toks) (it:=T) (λb o nb q=>(lK _ _ (Ne.symm nb)).trans q) yK z2 z1 z3 z4) ⟨x.old,x.free,oe,vs,(lK _ _ yI).trans he,hc,yH,hd,.inr ⟨T,_,_,hv,yI,yJ,yK,rB _ hT (Gy (wN nD _)),wN nD _,by simp[sz]⟩⟩
theorem p9{i:Nat}{n:Str}{pos:Pos}{A:Around}{Q:Unit->Shared->Prop}(I:Inv X pins σ H s)(hN:X.N.Nodup)(hi:X.N[i]? =some n)(hl:X.env.scope.names.lookup n=some .local)(h:∀s',Inv X pins (σ.set i none) H s'->Q () s'):
  wpAny (model X.prog X.w) A (do bindName X.env n .none;unbindBehindTheSuite X.env n pos) Q E s:=by
 obtain⟨m,hn,V8⟩:=id I.loc
 have Ba:(X.env.scope.kind== .class||(X.env.scope.kind== .module&&X.env.locals != X.env.globals))=false:=by rw[I.ok.kind];rfl
 refine wpAny_nameGoes_keeps hl hn Ba λh' v gS hs=>?_
 obtain⟨oL,_,_,IQ,_⟩:=id hn
 have Cj:∀b o,X.dH.heap.get? b=some o->b≠X.env.locals:=λb o q=>cV (eM (bO q) I.ok.above)
 refine h _ ⟨I.ok,I.os,I.bare,⟨λb o q n hb hx=>(hs.2 b (Cj b o q)).trans (I.base.keep b o q n hb hx),λb o q n hb hx=>?_,I.base.free,λb o q hx=>?_,I.base.kK,I.base.jY,I.base.lX⟩,⟨_,gS,λj y v' e1 e2 e3=>?_⟩,λy c q=>?_,I.free,I.fK,λp hp=>?_,λb u q=>?_,by rw[jO];exact I.len⟩
 ·obtain⟨sl,z⟩:=I.base.slot b o q n hb hx
  exact⟨sl,(hs.2 b (Cj b o q)).trans z⟩
 ·obtain⟨o',z⟩:=I.base.there b o q hx
  exact⟨o',(hs.2 b (Cj b o q)).trans z⟩
 ·have hj:j≠i:=λz=>by
   subst z
   by_cases aV:j<σ.length
   ·rw[pJ aV]at e2
    cases e2
   ·rw[lH.mpr (by rw[jO];omega)]at e2
    cases e2
  rw[pL (Ne.symm hj)]at e2
  obtain⟨u',r',z⟩:=V8 j y v' e1 e2 e3
  refine⟨u',r',?_⟩
  rcases z with⟨z1,z2⟩|⟨z1,c,z2,z3⟩
  ·refine .inl ⟨z1,?_⟩
   have ny:y≠n:=λe=>hj (xI hN e1 (e▸hi))
   simp[ny,z2]
  ·exact .inr ⟨z1,c,z2,z3.sameBut hs (I.m7 y c z2)⟩
 ·obtain⟨w',z⟩:=I.cell y c q
  exact⟨w',z.sameBut hs (I.m7 y c q)⟩
 ·obtain⟨z1,z2,z3,z4,z5⟩:=I.pin p hp
  exact⟨(hs.2 p.1 z3).trans z1,z2,z3,z4,z5⟩
 ·refine(I.az b u q).jX (λc v' hc z=>(hs.2 c ?_).trans z) (λ_ z=>z) λ_ _ z=>z
  intro e
  rcases hc with e1|e1
  ·rw[<-e1,e,I.free]at q;cases q
  ·rw[e,I.free]at e1;cases e1
end
def KP(X:Cx)(C:Addr)(i:Nat)(ts:TS)(D:Ends):XK:=λ_ dx H=>∃d,dx=some d/\∀(e:Addr)(σ:St),σ.length=X.N.length->H e=none->
 ts {nx:=λσ' H'=>D.nx (σ'.set i none) H',rt:=D.rt,bk:=λσ' H'=>D.bk (σ'.set i none) H',ct:=λσ' H'=>D.ct (σ'.set i none) H'} (σ.set i (some (.ref e))) (upd H e (XO C e (some d) false))
def V9(tb:Ends->TS):TS:=λD σ H=>tb D D σ H
section
variable{X:Cx}{C fI:Addr}{at_:List Str}{x n:Str}{i:Nat}{body:List Stmt}{b0:Stmt}{vj:List Stmt}{tb:Ends->TS}{ts:TS}{np sR pos:Pos}
theorem KQ(c:dB X.K C fI at_)(hg:Gl X x)(hm:X.mg x=some (.ref C))(hN:X.N.Nodup)(hi:X.N[i]? =some n)(hl:X.env.scope.names.lookup n=some .local)(hs:X.stack=X.env::X.outer)(hf:X.env.frame=some X.env.locals)
  (nh:∀(D:Ends)(pn:List (Addr×Obj))(E:Value->Shared->Prop),Passes (aU X.prog X.w C) (vh X pn E) (KP X C i ts D)->gh (vh X pn E) body (tb D))
  (V_:∀e,gh (qD X (.ref e)) (b0::vj) ts) (fN:(x==("__debug__":Str))=false:=by decide):
  PS X (.Try body [.ExceptHandler (some (.Name x np)) (some n) (b0::vj) sR] [] [] pos) (V9 tb):=by
 intro pins s σ H D I h
 obtain⟨nm,q,N,bs,sn,sub,ab,col,dd,k0,k1,k2,k3,k5,mN,hC,_⟩:=c.ex
 refine wpAny_Try_except ?_
 refine wpAny_mono (nh D (X.pn++pins) _ ?_ [] s σ H D (Inv.into I _) h) (λf s1 z=>?_) λ_ _ z=>z
 ·
  intro ps σ1 H1 s1 e s' I1 hx
  obtain⟨ea,dx,H2,rfl,ho,bare,un,az,xa,d,ed,hE⟩:=hx
  cases ed
  have J1:Inv X pins σ1 H1 s1:=Inv.vi I1
  have J2:Inv X pins σ1 H2 s':=J1.xJ ho un az bare (λ_ z=>nomatch z)
  refine KG J1 J2 hs hf J1.ok.frames xa λs2 uP J3 xb=>?_
  have ap:∀b,s1.heap.objs.size<=b->(b∈X.ex\/X.dH.heap.objs.size<=b)/\b≠X.env.locals/\(∀y c,X.env.cells.lookup y=some c->c≠b)/\∀p∈X.pn++pins,p.1≠b:=λb hb=>apart J1 hb
  refine wpAny_handleBy_cons ?_ (by intro z;cases z)
  refine codeAny_handlers_test (sj (X:=qD X (.ref ea)) (Inv.vj J3 (.ref ea)) hg hm ?_ fN)
  obtain⟨oe,vs,e1,e2,e3,e4,e5⟩:=xb.at_
  have kC:=J3.dI _ _ hC
  obtain⟨g1,g2,g3,g4,g5⟩:=s2
  refine wpAny_excMatches_sub_self kC e1 e2 (by decide+kernel) ?_
  refine codeAny_handlers_suite_as (V7 (X:=qD X (.ref ea)) ap (Inv.vj J3 (.ref ea)) xb λs3 ho3 J4 xc=>?_)
  obtain⟨ma,qA,f1,f2,f3,f4,f5⟩:=xc.at_
  obtain⟨p1,p2,p3,p4⟩:=ap ea xc.old
  have Wa:=Ce (o:=XO C ea (some dx) false) J4 xc.free (cp J1.sz xc.old) p2 p3 p4 (Cd f1 f2 f3 f4 (λz=>nomatch z))
  refine Bc (X:=qD X (.ref ea)) Wa hN hi (.inl hl) (v:=.ref ea) rfl (λs4 J5=>?_) (.inr hl)
  refine wpAny_mono (V_ ea pins s4 _ _ _ J5 (hE ea σ1 J1.len xc.free)) (λf s5 z=>?_) λ_ _ z=>fE z
  have hc:X.calm=true->X.A.handled=none:=J1.ok.hd
  cases f with
  |next=>
   obtain⟨σ',H',J,z⟩:=z
   exact p9 (Inv.yO hc J) hN hi hl λs6 J6=>⟨_,H',J6,z⟩
  |brk=>
   obtain⟨σ',H',J,z⟩:=z
   exact p9 (Inv.yO hc J) hN hi hl λs6 J6=>⟨_,H',J6,z⟩
  |cont=>
   obtain⟨σ',H',J,z⟩:=z
   exact p9 (Inv.yO hc J) hN hi hl λs6 J6=>⟨_,H',J6,z⟩
  |ret u=>
   obtain⟨v,σ',H',J,r,z⟩:=z
   exact p9 (Inv.yO hc J) hN hi hl λs6 J6=>⟨v,_,H',J6,r,z⟩
 ·cases f with
  |next=>
   obtain⟨σ',H',J,z⟩:=z
   exact wpAny_execs_nil ⟨σ',H',Inv.vi J,z⟩
  |brk=>obtain⟨σ',H',J,z⟩:=z;exact⟨σ',H',Inv.vi J,z⟩
  |cont=>obtain⟨σ',H',J,z⟩:=z;exact⟨σ',H',Inv.vi J,z⟩
  |ret u=>obtain⟨v,σ',H',J,r,z⟩:=z;exact⟨v,σ',H',Inv.vi J,r,z⟩
end
end L2.Bx
set_option Elab.async false
set_option linter.all false
set_option maxRecDepth 100000
namespace Bp
open PySem PySem.Spec PyProof.Rows L2
def top(i:Nat):Stmt:=PySem.Challenge.pw_boxranks_s01_answers.main.body.getD i (.Pass ⟨0,0,0,0⟩)
abbrev Ck:Stmt:=top 13
theorem KR:aW ["numbers","calls","at","begin","end"] ["numbers"] (aH Ck):=⟨rfl,rfl,rfl,by decide+kernel,rfl,by decide+kernel,by decide+kernel⟩
abbrev Cm:Stmt:=top 14
theorem Wb:aW ["numbers","at"] ["numbers","at"] (aH Cm):=⟨rfl,rfl,rfl,by decide+kernel,rfl,by decide+kernel,by decide+kernel⟩
abbrev Cn:Stmt:=top 15
theorem Wc:aW ["numbers","at"] ["numbers","at"] (aH Cn):=⟨rfl,rfl,rfl,by decide+kernel,rfl,by decide+kernel,by decide+kernel⟩
abbrev sS:Stmt:=inClass (top 17) 0
theorem Wd:aW ["self","code","place"] ["self","code","place"] (aH sS):=⟨rfl,rfl,rfl,by decide+kernel,rfl,by decide+kernel,by decide+kernel⟩
abbrev Co:Stmt:=top 19
theorem KS:aW ["boxes","edges","least","changed","begin","end","lesser"] ["boxes","edges"] (aH Co):=⟨rfl,rfl,rfl,by decide+kernel,rfl,by decide+kernel,by decide+kernel⟩
abbrev Cp:Stmt:=top 21
theorem We:aW ["first_ranks","edges","wishes"] ["first_ranks","edges","wishes"] (aH Cp):=⟨rfl,rfl,rfl,by decide+kernel,rfl,by decide+kernel,by decide+kernel⟩
abbrev Cq:Stmt:=top 22
theorem KU:aW ["boxes","arcs","ranks","changed","begin","end"] ["boxes","arcs"] (aH Cq):=⟨rfl,rfl,rfl,by decide+kernel,rfl,by decide+kernel,by decide+kernel⟩
abbrev Cr:Stmt:=top 23
theorem KW:aW ["first_ranks","edges","wishes","ranks","boxes","surplus","arcs","moved","box","rank"] ["first_ranks","edges","wishes"] (aH Cr):=⟨rfl,rfl,rfl,by decide+kernel,rfl,by decide+kernel,by decide+kernel⟩
abbrev Cs:Stmt:=top 24
theorem KY:aW ["boxes","edges","surplus","begin","end"] ["boxes","edges"] (aH Cs):=⟨rfl,rfl,rfl,by decide+kernel,rfl,by decide+kernel,by decide+kernel⟩
abbrev Ct:Stmt:=top 25
theorem KZ:aW ["box","surplus","ranks","arcs","arc"] ["box","surplus","ranks","arcs"] (aH Ct):=⟨rfl,rfl,rfl,by decide+kernel,rfl,by decide+kernel,by decide+kernel⟩
abbrev Cu:Stmt:=top 26
theorem K0:aW ["ranks","used","rank"] ["ranks"] (aH Cu):=⟨rfl,rfl,rfl,by decide+kernel,rfl,by decide+kernel,by decide+kernel⟩
abbrev Cv:Stmt:=top 27
theorem Wf:aW ["edge","ranks"] ["edge","ranks"] (aH Cv):=⟨rfl,rfl,rfl,by decide+kernel,rfl,by decide+kernel,by decide+kernel⟩
abbrev Cw:Stmt:=top 28
theorem K1:aW ["edges","ranks","edge"] ["edges","ranks"] (aH Cw):=⟨rfl,rfl,rfl,by decide+kernel,rfl,by decide+kernel,by decide+kernel⟩
abbrev Cy:Stmt:=top 30
theorem K2:aW ["arcs","start","goal","came_from","come_to","at","here","box"] ["arcs","start","goal"] (aH Cy):=⟨rfl,rfl,rfl,by decide+kernel,rfl,by decide+kernel,by decide+kernel⟩
abbrev Cz:Stmt:=top 31
theorem CA:aW ["arcs","box","arc"] ["arcs","box"] (aH Cz):=⟨rfl,rfl,rfl,by decide+kernel,rfl,by decide+kernel,by decide+kernel⟩
abbrev CB:Stmt:=top 32
theorem K3:aW ["came_from","start","goal","way"] ["came_from","start","goal"] (aH CB):=⟨rfl,rfl,rfl,by decide+kernel,rfl,by decide+kernel,by decide+kernel⟩
abbrev CC:Stmt:=top 33
theorem Wg:aW ["arcs","start","goal"] ["arcs","start","goal"] (aH CC):=⟨rfl,rfl,rfl,by decide+kernel,rfl,by decide+kernel,by decide+kernel⟩
abbrev CI:Stmt:=top 36
theorem K4:aW ["edges","wishes","arcs","number","edge"] ["edges","wishes"] (aH CI):=⟨rfl,rfl,rfl,by decide+kernel,rfl,by decide+kernel,by decide+kernel⟩
abbrev CJ:Stmt:=top 37
theorem Wh:aW ["circling"] ["circling"] (aH CJ):=⟨rfl,rfl,rfl,by decide+kernel,rfl,by decide+kernel,by decide+kernel⟩
abbrev CK:Stmt:=top 38
theorem K5:aW ["edges","wishes","kept","not_kept","number","edge"] ["edges","wishes"] (aH CK):=⟨rfl,rfl,rfl,by decide+kernel,rfl,by decide+kernel,by decide+kernel⟩
abbrev CL:Stmt:=top 39
theorem K6:aW ["edges","wishes","circling","arcs","fixed","tried","found","wish"] ["edges","wishes","circling"] (aH CL):=⟨rfl,rfl,rfl,by decide+kernel,rfl,by decide+kernel,by decide+kernel⟩
abbrev CM:Stmt:=top 40
theorem K7:aW ["edges","fixed","circling","tried","chosen","left","number"] ["edges","fixed","circling","tried"] (aH CM):=⟨rfl,rfl,rfl,by decide+kernel,rfl,by decide+kernel,by decide+kernel⟩
abbrev CN:Stmt:=top 41
theorem K8:aW ["tried","circling","larger","chosen","number"] ["tried","circling"] (aH CN):=⟨rfl,rfl,rfl,by decide+kernel,rfl,by decide+kernel,by decide+kernel⟩
abbrev CO:Stmt:=top 42
theorem K9:aW ["arcs","left","before","ends","arc"] ["arcs"] (aH CO):=⟨rfl,rfl,rfl,by decide+kernel,rfl,by decide+kernel,by decide+kernel⟩
abbrev CP:Stmt:=top 43
theorem K_:aW ["edges","turned","down","number"] ["edges","turned"] (aH CP):=⟨rfl,rfl,rfl,by decide+kernel,rfl,by decide+kernel,by decide+kernel⟩
abbrev CQ:Stmt:=inClass (top 58) 0
theorem Wi:aW ["self","kind","spelling","place"] ["self","kind","spelling","place"] (aH CQ):=⟨rfl,rfl,rfl,by decide+kernel,rfl,by decide+kernel,by decide+kernel⟩
abbrev CS:Stmt:=top 59
theorem La:aW ["signs","sign"] ["signs"] (aH CS):=⟨rfl,rfl,rfl,by decide+kernel,rfl,by decide+kernel,by decide+kernel⟩
abbrev CU:Stmt:=top 60
theorem Lb:aW ["spelling","number","byte"] ["spelling"] (aH CU):=⟨rfl,rfl,rfl,by decide+kernel,rfl,by decide+kernel,by decide+kernel⟩
abbrev yP:Stmt:=top 61
theorem Lc:aW ["text","tokens","place","token"] ["text"] (aH yP):=⟨rfl,rfl,rfl,by decide+kernel,rfl,by decide+kernel,by decide+kernel⟩
abbrev CV:Stmt:=top 62
theorem Ld:aW ["text","place"] ["text","place"] (aH CV):=⟨rfl,rfl,rfl,by decide+kernel,rfl,by decide+kernel,by decide+kernel⟩
abbrev CW:Stmt:=top 63
theorem Le:aW ["text","place"] ["text","place"] (aH CW):=⟨rfl,rfl,rfl,by decide+kernel,rfl,by decide+kernel,by decide+kernel⟩
abbrev yQ:Stmt:=top 64
theorem Wj:aW ["text","place"] ["text","place"] (aH yQ):=⟨rfl,rfl,rfl,by decide+kernel,rfl,by decide+kernel,by decide+kernel⟩
abbrev CY:Stmt:=top 65
theorem Wk:aW ["byte"] ["byte"] (aH CY):=⟨rfl,rfl,rfl,by decide+kernel,rfl,by decide+kernel,by decide+kernel⟩
abbrev CZ:Stmt:=top 66
theorem Wl:aW ["byte"] ["byte"] (aH CZ):=⟨rfl,rfl,rfl,by decide+kernel,rfl,by decide+kernel,by decide+kernel⟩
abbrev C0:Stmt:=top 67
theorem Lf:aW ["text","place","end","spelling","word"] ["text","place"] (aH C0):=⟨rfl,rfl,rfl,by decide+kernel,rfl,by decide+kernel,by decide+kernel⟩
abbrev C1:Stmt:=top 68
theorem Lg:aW ["text","place","end","spelling"] ["text","place"] (aH C1):=⟨rfl,rfl,rfl,by decide+kernel,rfl,by decide+kernel,by decide+kernel⟩
abbrev C2:Stmt:=top 69
theorem Lh:aW ["text","place","sign","spelling"] ["text","place"] (aH C2):=⟨rfl,rfl,rfl,by decide+kernel,rfl,by decide+kernel,by decide+kernel⟩
abbrev C3:Stmt:=inClass (top 82) 0
theorem Wm:aW ["self"] ["self"] (aH C3):=⟨rfl,rfl,rfl,by decide+kernel,rfl,by decide+kernel,by decide+kernel⟩
abbrev C4:Stmt:=inClass (top 83) 0
theorem Wn:aW ["self","tokens"] ["self","tokens"] (aH C4):=⟨rfl,rfl,rfl,by decide+kernel,rfl,by decide+kernel,by decide+kernel⟩
abbrev C5:Stmt:=inClass (top 83) 1
theorem Wo:aW ["self","kind"] ["self","kind"] (aH C5):=⟨rfl,rfl,rfl,by decide+kernel,rfl,by decide+kernel,by decide+kernel⟩
abbrev C6:Stmt:=inClass (top 83) 2
theorem Wq:aW ["self","code"] ["self","code"] (aH C6):=⟨rfl,rfl,rfl,by decide+kernel,rfl,by decide+kernel,by decide+kernel⟩
abbrev C7:Stmt:=inClass (top 83) 3
theorem Li:aW ["self","kind","token"] ["self","kind"] (aH C7):=⟨rfl,rfl,rfl,by decide+kernel,rfl,by decide+kernel,by decide+kernel⟩
abbrev C8:Stmt:=inClass (top 83) 4
theorem Wr:aW ["self","word","before","most"] ["self","word","before","most"] (aH C8):=⟨rfl,rfl,rfl,by decide+kernel,rfl,by decide+kernel,by decide+kernel⟩
abbrev yR:Stmt:=inClass (top 83) 5
theorem Lj:aW ["self","least","greatest","token","number"] ["self","least","greatest"] (aH yR):=⟨rfl,rfl,rfl,by decide+kernel,rfl,by decide+kernel,by decide+kernel⟩
abbrev yS:Stmt:=top 84
theorem Lk:aW ["tokens","reader","draft"] ["tokens"] (aH yS):=⟨rfl,rfl,rfl,by decide+kernel,rfl,by decide+kernel,by decide+kernel⟩
abbrev yT:Stmt:=top 85
theorem Ll:aW ["reader","name","width","height"] ["reader"] (aH yT):=⟨rfl,rfl,rfl,by decide+kernel,rfl,by decide+kernel,by decide+kernel⟩
abbrev yU:Stmt:=top 86
theorem Lm:aW ["reader","begin","end","label"] ["reader"] (aH yU):=⟨rfl,rfl,rfl,by decide+kernel,rfl,by decide+kernel,by decide+kernel⟩
abbrev yV:Stmt:=top 87
theorem Ln:aW ["reader","upper","lower"] ["reader"] (aH yV):=⟨rfl,rfl,rfl,by decide+kernel,rfl,by decide+kernel,by decide+kernel⟩
abbrev C9:Stmt:=inClass (top 95) 0
theorem Ws:aW ["self","boxes","edges","labels","wishes"] ["self","boxes","edges","labels","wishes"] (aH C9):=⟨rfl,rfl,rfl,by decide+kernel,rfl,by decide+kernel,by decide+kernel⟩
abbrev yW:Stmt:=top 96
theorem Lo:aW ["text","draft","numbers","pairs","wishes","boxes","edge","box"] ["text"] (aH yW):=⟨rfl,rfl,rfl,by decide+kernel,rfl,by decide+kernel,by decide+kernel⟩
abbrev C_:Stmt:=top 97
theorem Lp:aW ["boxes","numbers","number","box"] ["boxes"] (aH C_):=⟨rfl,rfl,rfl,by decide+kernel,rfl,by decide+kernel,by decide+kernel⟩
abbrev Dc:Stmt:=top 98
theorem Lq:aW ["pairs","numbers","pair","name"] ["pairs","numbers"] (aH Dc):=⟨rfl,rfl,rfl,by decide+kernel,rfl,by decide+kernel,by decide+kernel⟩
abbrev Dd:Stmt:=top 99
theorem Lr:aW ["pairs","first","second"] ["pairs"] (aH Dd):=⟨rfl,rfl,rfl,by decide+kernel,rfl,by decide+kernel,by decide+kernel⟩
abbrev De:Stmt:=top 100
theorem Ls:aW ["pairs","wishes","number","wish"] ["pairs","wishes"] (aH De):=⟨rfl,rfl,rfl,by decide+kernel,rfl,by decide+kernel,by decide+kernel⟩
abbrev Df:Stmt:=top 101
theorem Lu:aW ["pairs","numbers","first","second"] ["pairs","numbers"] (aH Df):=⟨rfl,rfl,rfl,by decide+kernel,rfl,by decide+kernel,by decide+kernel⟩
abbrev Dg:Stmt:=top 102
theorem Lv:aW ["diagram","shown","name","width","height","number","edge","upper","lower"] ["diagram"] (aH Dg):=⟨rfl,rfl,rfl,by decide+kernel,rfl,by decide+kernel,by decide+kernel⟩
abbrev Dh:Stmt:=top 103
theorem Lw:aW ["diagram","edge","label","tokens"] ["diagram","edge","label"] (aH Dh):=⟨rfl,rfl,rfl,by decide+kernel,rfl,by decide+kernel,by decide+kernel⟩
abbrev Di:Stmt:=top 104
theorem Lx:aW ["tokens","line","token"] ["tokens"] (aH Di):=⟨rfl,rfl,rfl,by decide+kernel,rfl,by decide+kernel,by decide+kernel⟩
abbrev Dj:Stmt:=inClass (top 108) 0
theorem Wt:aW ["self"] ["self"] (aH Dj):=⟨rfl,rfl,rfl,by decide+kernel,rfl,by decide+kernel,by decide+kernel⟩
abbrev Dk:Stmt:=inClass (top 108) 1
theorem Wu:aW ["self","call","given"] ["self","call","given"] (aH Dk):=⟨rfl,rfl,rfl,by decide+kernel,rfl,by decide+kernel,by decide+kernel⟩
abbrev Dl:Stmt:=inClass (top 108) 2
theorem Ly:aW ["self","text","diagram","fault"] ["self","text"] (aH Dl):=⟨rfl,rfl,rfl,by decide+kernel,rfl,by decide+kernel,by decide+kernel⟩
abbrev Dm:Stmt:=top 109
theorem Lz:aW ["calls","holder","told","call","given","answer"] ["calls"] (aH Dm):=⟨rfl,rfl,rfl,by decide+kernel,rfl,by decide+kernel,by decide+kernel⟩
abbrev Dn:Stmt:=top 110
theorem Wv:aW ["diagram","call","given"] ["diagram","call","given"] (aH Dn):=⟨rfl,rfl,rfl,by decide+kernel,rfl,by decide+kernel,by decide+kernel⟩
abbrev Dq:Stmt:=top 111
theorem Ww:aW ["diagram","call"] ["diagram","call"] (aH Dq):=⟨rfl,rfl,rfl,by decide+kernel,rfl,by decide+kernel,by decide+kernel⟩
abbrev Dr:Stmt:=top 112
theorem Wx:aW ["told"] ["told"] (aH Dr):=⟨rfl,rfl,rfl,by decide+kernel,rfl,by decide+kernel,by decide+kernel⟩
abbrev Ds:Stmt:=top 113
theorem Wy:aW ["number","things"] ["number","things"] (aH Ds):=⟨rfl,rfl,rfl,by decide+kernel,rfl,by decide+kernel,by decide+kernel⟩
abbrev Dt:Stmt:=top 114
theorem LA:aW ["diagram","number","box"] ["diagram","number"] (aH Dt):=⟨rfl,rfl,rfl,by decide+kernel,rfl,by decide+kernel,by decide+kernel⟩
abbrev Du:Stmt:=top 115
theorem LB:aW ["diagram","number","told","turned","length"] ["diagram","number"] (aH Du):=⟨rfl,rfl,rfl,by decide+kernel,rfl,by decide+kernel,by decide+kernel⟩
abbrev Dv:Stmt:=top 116
theorem LC:aW ["diagram","number","edge"] ["diagram","number"] (aH Dv):=⟨rfl,rfl,rfl,by decide+kernel,rfl,by decide+kernel,by decide+kernel⟩
abbrev Dx:Stmt:=top 117
theorem Wz:aW ["diagram"] ["diagram"] (aH Dx):=⟨rfl,rfl,rfl,by decide+kernel,rfl,by decide+kernel,by decide+kernel⟩
abbrev Dy:Stmt:=top 118
theorem LD:aW ["diagram","number","standing","box","rank"] ["diagram","number"] (aH Dy):=⟨rfl,rfl,rfl,by decide+kernel,rfl,by decide+kernel,by decide+kernel⟩
abbrev Dz:Stmt:=top 119
theorem WA:aW ["diagram"] ["diagram"] (aH Dz):=⟨rfl,rfl,rfl,by decide+kernel,rfl,by decide+kernel,by decide+kernel⟩
abbrev DH:Stmt:=top 120
theorem WB:aW ["diagram","start","goal"] ["diagram","start","goal"] (aH DH):=⟨rfl,rfl,rfl,by decide+kernel,rfl,by decide+kernel,by decide+kernel⟩
abbrev DJ:Stmt:=top 121
theorem LF:aW ["diagram","least"] ["diagram"] (aH DJ):=⟨rfl,rfl,rfl,by decide+kernel,rfl,by decide+kernel,by decide+kernel⟩
abbrev DK:Stmt:=top 122
theorem WC:aW ["diagram"] ["diagram"] (aH DK):=⟨rfl,rfl,rfl,by decide+kernel,rfl,by decide+kernel,by decide+kernel⟩
end Bp
set_option Elab.async false
set_option linter.all false
set_option maxRecDepth 100000
namespace Bp
open PySem PySem.Spec PyProof.Rows L2
open Vadiaa (Arc)
def aS(P:Program)(w:World)(K:ai)(mg:Str->Option Value)(base:Heap)(CX:eP)(k:Nat)(x:Str)(ps:List Str)(sp:Sp):Prop:=
 ∃f fd,aK P w K mg base CX k f fd ps sp/\mg x=some (.ref f)/\ib K (.ref f)=true/\Binds K fd ps []
section
variable{X:Cx}{CX:eP}{k j:Nat}{x:Str}{ps:List Str}{sp:Sp}{E:XK}{p pos:Pos}{e:Expr}{es:List Expr}{t:TA}
theorem aL(D:aS X.prog X.w X.K X.mg X.base CX k x ps sp)(hr:bc k X.A)(hx:Passes CX X E)(ha:PA X (e::es) t)(hg:Gl X x:=by rfl)(fN:(x==("__debug__":Str))=false:=by decide)
  (he:starEach (e::es) X.env=(false,eval e X.env)::starEach es X.env:=by rfl) (dE:(backTo pos (starEach es X.env)).any (·.1)=false:=by rfl):PE X (.Call (.Name x p) (e::es) [] pos) (jn sp [] E t):=by
 obtain⟨f,fd,F,hm,kp,b⟩:=D
 exact S9 F hr hg hm kp b .nil hx ha fN he dE
end
theorem bQ(K:ai){X:Cx}(h:X.K=K:=by rfl):uR X (ye K):=h▸Ts
theorem bj(K:ai){X:Cx}(h:X.K=K:=by rfl):uR X (yd K):=h▸Tr
theorem aa.tup{K:ai}{H H':Hp}{a:Addr}{xs:List V}(e:aa H H')(h:aB K H a xs):aB K H' a xs:=by
 rcases h with(h|⟨o,h⟩)|h
 ·exact .inl (.inl (e _ _ h))
 ·exact .inl (.inr ⟨o,e _ _ h⟩)
 ·exact .inr h
theorem aa.new{H:Hp}{a:Addr}{o:HO}(h:H a=none):aa H (upd H a o):=λb u q=>by rw[ao (aF q h)];exact q
def aE(H H':Hp)(as:List Addr):Prop:=∀b o,H b=some o->b∉as->H' b=some o
theorem aE.of{H H':Hp}(h:aa H H')(as:List Addr):aE H H' as:=λb o q _=>h b o q
theorem aE.trans{H H1 H2:Hp}{as:List Addr}(a:aE H H1 as)(b:aE H1 H2 as):aE H H2 as:=λc o q n=>b c o (a c o q n) n
def vN(l:List Nat):List V:=l.map λ(n:Nat)=>V.int (n:Int)
theorem yX{l:List Nat}{i n:Nat}(h:l[i]? =some n):(vN l)[i]? =some (V.int n):=by unfold vN;rw[ck,h];rfl
theorem qE{l:List Nat}{i:Nat}{v:V}(h:(vN l)[i]? =some v):∃n,l[i]? =some n/\v=V.int n:=by
 unfold vN at h
 rw[ck]at h
 cases e:l[i]? with
 |none=>rw[e]at h;cases h
 |some n=>rw[e]at h;exact⟨n,rfl,(cZ h).symm⟩
theorem cA(l:List Nat):(vN l).length=l.length:=by unfold vN;simp
theorem kb(l m:List Nat):vN (l++m)=vN l++vN m:=by unfold vN;simp
theorem Paired.at{α β:Type}{F:α->β->Prop}:∀{l:List α}{m:List β}{i:Nat}{b:β},Paired F l m->m[i]? =some b->∃a,l[i]? =some a/\F a b
 |_,_,_,_,.nil,h=>by simp at h
 |_,_,0,_,.cons r _,h=>by simp at h;subst h;exact⟨_,rfl,r⟩
 |_,_,i+1,b,.cons _ t,h=>by
  obtain⟨a,h1,h2⟩:=Paired.at (i:=i) t (by simpa using h)
  exact⟨a,by simpa using h1,h2⟩
theorem Paired.at'{α β:Type}{F:α->β->Prop}:∀{l:List α}{m:List β}{i:Nat}{a:α},Paired F l m->l[i]? =some a->∃b,m[i]? =some b/\F a b
 |_,_,_,_,.nil,h=>by simp at h
 |_,_,0,_,.cons r _,h=>by simp at h;subst h;exact⟨_,rfl,r⟩
 |_,_,i+1,a,.cons _ t,h=>by
  obtain⟨b,h1,h2⟩:=Paired.at' (i:=i) t (by simpa using h)
  exact⟨b,by simpa using h1,h2⟩
theorem Paired.app{α β:Type}{F:α->β->Prop}:∀{l l':List α}{m m':List β},Paired F l m->Paired F l' m'->Paired F (l++l') (m++m')
 |_,_,_,_,.nil,q=>q
 |_,_,_,_,.cons r t,q=>.cons r (Paired.app t q)
def oX(K:ai)(H:Hp)(p:Addr)(x:Arc):Prop:=aB K H p [.int x.1,.int x.2]
def fQ(K:ai)(H:Hp)(a:Addr)(l:List Arc):Prop:=∃ps:List Addr,ah K H a (ps.map V.ref)/\Paired (oX K H) ps l
theorem fQ.same{K:ai}{H H':Hp}{a:Addr}{l:List Arc}(e:aa H H'):fQ K H a l->fQ K H' a l:=λ⟨ps,h1,h2⟩=>⟨ps,e.seq h1,L2.Paired.aX h2 λ_ _ q=>aa.tup e q⟩
theorem dO{ps:List Addr}{i:Nat}{y:V}(h:(ps.map V.ref)[i]? =some y):∃p,ps[i]? =some p/\y=V.ref p:=by
 rw[ck]at h
 cases e:ps[i]? with
 |none=>rw[e]at h;cases h
 |some p=>rw[e]at h;exact⟨p,rfl,(cZ h).symm⟩
theorem dC{x:V}{r:List V}:gp (x::r) 0=some x:=du (j:=0) rfl
theorem gv{x y:V}{r:List V}:gp (x::y::r) 1=some y:=du (j:=1) rfl
theorem take_one{α:Type}{l:List α}{i:Nat}{x:α}(h:l[i]? =some x):l.take (i+1)=l.take i++[x]:=by
 rw[P7,h]
 rfl
theorem yY{J:It}{n:Nat}{g:TG}{tb:TS}{D:Ends}{σ:L2.St}{H:Hp}(Pv:Nat->L2.St->Hp->Prop)(h0:Pv 0 σ H)(DQ:∀i σ H,i<n->Pv i σ H->J.go i H)(d_:∀σ H,Pv n σ H->J.stop n H)
  (hs:∀i σ H x H',i<n->Pv i σ H->J.kM i H x H'->g x σ H' λσ2 H2=>tb {D with nx:=Pv (i+1),ct:=Pv (i+1),bk:=D.nx} σ2 H2) (hd:∀σ H,Pv n σ H->D.nx σ H):
  ∃W:Nat->Nat->L2.St->Hp->Prop,(∃m,W 0 m σ H)/\∀i m σ H,W i m σ H->
   (J.stop i H/\D.nx σ H)\/(J.go i H/\∃N:L2.St->Hp->Prop,(∀σ' H',N σ' H'->∃m',m'<m/\W (i+1) m' σ' H')/\∀x H',J.kM i H x H'->g x σ H' λσ2 H2=>tb {D with nx:=N,ct:=N,bk:=D.nx} σ2 H2):=by
 refine⟨λi m σ H=>m=n-i/\i<=n/\Pv i σ H,⟨n,by simp,cw _,h0⟩,?_⟩
 rintro i m σ H ⟨rfl,hi,p⟩
 by_cases aV:i<n
 ·exact .inr ⟨DQ i σ H aV p,Pv (i+1),λσ' H' p'=>⟨n-(i+1),by omega,rfl,aV,p'⟩,λx H' y=>hs i σ H x H' aV p y⟩
 ·have e:i=n:=by omega
  subst e
  exact .inl ⟨d_ σ H p,hd σ H p⟩
theorem DU{J:It}{n:Nat}{g:TG}{tt:TT}{te:TE}{vs:List Nat}{σ:L2.St}{H1:Hp}{D:Addr}{Qd:Hp->Prop}(Pv:Nat->Hp->Prop)(h0:Pv 0 (upd H1 D (.lst [])))(DQ:∀i H,i<n->Pv i H->J.go i H)(d_:∀H,Pv n H->J.stop n H)
  (hs:∀i H x H',i<n->Pv i H->J.kM i H x H'->g x (wipe σ vs) H' λσ2 H2=>wipe σ2 vs=wipe σ vs/\tt σ2 H2 λb H3=>
   if b=true then te σ2 H3 λy H4=>∃acc,H4 D=some (.lst acc)/\acc.length<sizeLine/\Pv (i+1) (upd H4 D (.lst (acc++[y])))else Pv (i+1) H3) (hd:∀H,Pv n H->Qd H):
  ∃W:Nat->Nat->Hp->Prop,(∃m,W 0 m (upd H1 D (.lst [])))/\∀i m H,W i m H->
   (J.stop i H/\Qd H)\/(J.go i H/\∃Nx:Hp->Prop,(∀H',Nx H'->∃m',m'<m/\W (i+1) m' H')/\∀x H',J.kM i H x H'->g x (wipe σ vs) H' λσ2 H2=>wipe σ2 vs=wipe σ vs/\tt σ2 H2 λb H3=>
    if b=true then te σ2 H3 λy H4=>∃acc,H4 D=some (.lst acc)/\acc.length<sizeLine/\Nx (upd H4 D (.lst (acc++[y])))else Nx H3):=by
 refine⟨λi m H=>m=n-i/\i<=n/\Pv i H,⟨n,by simp,cw _,h0⟩,?_⟩
 rintro i m H ⟨rfl,hi,p⟩
 by_cases aV:i<n
 ·exact .inr ⟨DQ i H aV p,Pv (i+1),λH' p'=>⟨n-(i+1),by omega,rfl,aV,p'⟩,λx H' y=>hs i H x H' aV p y⟩
 ·have e:i=n:=by omega
  subst e
  exact .inl ⟨d_ H p,hd H p⟩
theorem sU{K:ai}{H:Hp}{a:Addr}{xs:List V}{i:Nat}(h:ah K H a xs)(hi:i<xs.length):(yx K a).go i H:=⟨xs,xs[i],h,bX hi⟩
theorem sV{K:ai}{H:Hp}{a:Addr}{xs:List V}(h:ah K H a xs):(yx K a).stop xs.length H:=⟨xs,h,aT _⟩
theorem iZ(K:ai)(n:Nat){X:Cx}{pos:Pos}{es:List Expr}{k:Nat}{t:oO}(hc:X.calm=true)(h:uK X es t)(hK:X.K=K:=by rfl)
  (hn:(assignEach es X.env).length=n:=by rfl) (d_:(assignEach es X.env).findIdx? (·.1)=none:=by rfl):PG X (.Tuple es k pos) (I_ K n t):=hK▸Sq hc h hn d_
def bD(K:ai)(H:Hp)(a:Addr)(l:List Arc):Prop:=∃ps:List Addr,H a=some (.lst (ps.map V.ref))/\Paired (oX K H) ps l
theorem bD.at_{K:ai}{H:Hp}{a:Addr}{l:List Arc}:bD K H a l->fQ K H a l:=λ⟨ps,h1,h2⟩=>⟨ps,ah.of h1,h2⟩
theorem bD.same{K:ai}{H H':Hp}{a:Addr}{l:List Arc}(e:aa H H'):bD K H a l->bD K H' a l:=λ⟨ps,h1,h2⟩=>⟨ps,e _ _ h1,L2.Paired.aX h2 λ_ _ q=>aa.tup e q⟩
def sel{β:Type}(g:β->Bool):List Addr->List β->List Addr
 |p::ps,a::l=>if g a=true then p::sel g ps l else sel g ps l
 |_,_=>[]
theorem yZ{β:Type}{F:Addr->β->Prop}{g:β->Bool}:∀{ps:List Addr}{l:List β},Paired F ps l->Paired F (sel g ps l) (l.filter g)
 |_,_,.nil=>.nil
 |_,_,.cons (a:=p) (b:=a) r t=>by
  rw[f_]
  unfold sel
  by_cases h:g a=true
  ·rw[if_pos h,if_pos h];exact .cons r (yZ t)
  ·rw[if_neg h,if_neg h];exact yZ t
theorem DV{β:Type}{g:β->Bool}:∀{ps:List Addr}{l:List β}{i:Nat}{p:Addr}{a:β},ps[i]? =some p->l[i]? =some a->sel g (ps.take (i+1)) (l.take (i+1))=sel g (ps.take i) (l.take i)++(if g a=true then[p]else[])
 |[],_,i,_,_,h,_=>by simp at h
 |_::_,[],i,_,_,_,h=>by simp at h
 |q::ps,c::l,0,p,a,h1,h2=>by
  have e1:q=p:=cZ h1
  have e2:c=a:=cZ h2
  subst e1;subst e2
  show sel g [q] [c]=sel g [] []++_
  unfold sel
  by_cases h:g c=true
  ·rw[if_pos h,if_pos h];rfl
  ·rw[if_neg h,if_neg h];rfl
 |q::ps,c::l,i+1,p,a,h1,h2=>by
  have ih:=DV (g:=g) (ps:=ps) (l:=l) (i:=i) h1 h2
  rw[Ac,Ac,Ac,Ac]
  show(if g c=true then q::sel g (ps.take (i+1)) (l.take (i+1))else sel g (ps.take (i+1)) (l.take (i+1)))=(if g c=true then q::sel g (ps.take i) (l.take i)else sel g (ps.take i) (l.take i))++_
  rw[ih]
  split<;>rfl
theorem DX{β:Type}{g:β->Bool}:∀(ps:List Addr)(l:List β),(sel g ps l).length<=ps.length
 |[],_=>by unfold sel;simp
 |_::_,[]=>by unfold sel;simp
 |p::ps,a::l=>by
  have:=DX (g:=g) ps l
  unfold sel
  split
  ·rw[bJ,bJ];omega
  ·rw[bJ];omega
def GI(mg:Str->Option Value)(x:Str)(i:Int):Prop:=∃t,mg x=some (.int i t)
def GS(mg:Str->Option Value)(x:Str)(y:Str):Prop:=∃t,mg x=some (.str y t)
theorem bG{X:Cx}{x:Str}{i:Int}{pos:Pos}(h:GI X.mg x i)(hg:Gl X x:=by rfl)(hd:(x==("__debug__":Str))=false:=by decide):PE X (.Name x pos) (tC (.int i)):=by
 obtain⟨t,e⟩:=h
 exact sk hg e ⟨t,rfl⟩ hd
theorem ke{X:Cx}{x y:Str}{pos:Pos}(h:GS X.mg x y)(hg:Gl X x:=by rfl)(hd:(x==("__debug__":Str))=false:=by decide):PE X (.Name x pos) (tC (.str y)):=by
 obtain⟨t,e⟩:=h
 exact sk hg e ⟨t,rfl⟩ hd
theorem WD(K:ai){X:Cx}(h:X.K=K:=by rfl):eh X (compareOp .NotIn) (yg K true):=h▸TH
theorem LG(K:ai){X:Cx}(h:X.K=K:=by rfl):eh X (compareOp .In) (yg K false):=h▸TF
theorem LH(n:Nat)(s:List Nat):iw (.int (n:Int)) (vN s)=s.contains n:=by
 unfold iw vN
 rw[List.any_map]
 rw[gb]
 simp only[GV,Function.comp,js,beq_iff_eq,PJ]
 constructor
 ·rintro ⟨x,hx,e⟩
  have:x=n:=by omega
  rw[<-this];exact hx
 ·intro h
  exact⟨n,h,rfl⟩
theorem DY(s:List Nat):(vN s).all jr=true:=by
 unfold vN
 rw[List.all_map]
 exact rE.mpr λ_ _=>rfl
end Bp
namespace L2
open PySem PySem.Spec PyProof.Rows
theorem aQ.bo{P:Program}{w:World}{K:ai}{mg:Str->Option Value}{base:Heap}{x qual:Str}{st:Stmt}{f:Addr}{fd:FuncData}{N ps:List Str}{k:Nat}{sp:Sp}(F:aQ K x qual st f fd)(S:aW N ps (aH st))(len:∀vs H Q E,sp vs H Q E->vs.length=ps.length)
  (nh:∀(aC:Value)(A:Around)(outer:List Env)(s:Shared)(H:Hp)(vs:List V)(Q:VK)(E:XK),bc k (A.deeper (envOfC qual (aH st) s.heap.objs.size f aC))->sp vs H Q E->
   let X:=(fT ax P w K mg base N qual (aH st) f aC A outer s H E).uJ
   ∃t,gh X (jt st) t/\t {nx:=λ_ H'=>Q .aO H',rt:=Q} (start N vs) H):aK P w K mg base ax (k+1) f fd ps sp:=F.ok S len nh
end L2
namespace Bs
open PySem
def eR(xs:Array Nat):Prop:=∀i j,i<j->j<xs.size->xs.getD i 0<xs.getD j 0
theorem WE(xs:Array Nat)(i a b:Nat)(h:i<xs.size):xs.getD i a=xs.getD i b:=by
 simp[pX,h]
def LI(xs:Array Nat)(j r:Nat):Prop:=r<=xs.size/\(∀i,i<r->xs.getD i 0<j)/\∀i,r<=i->i<xs.size->j<=xs.getD i 0
theorem DZ{xs:Array Nat}(R:eR xs)(j:Nat):∀(fuel lo hi:Nat),lo<=hi->hi<=xs.size->hi-lo<=fuel->
  (∀i,i<lo->xs.getD i 0<j)->(∀i,hi<=i->i<xs.size->j<=xs.getD i 0)->LI xs j (agZ xs j fuel lo hi)
 |0,lo,hi,h1,h2,h3,h4,h5=>by
  have:lo=hi:=by omega
  subst this
  exact⟨h2,h4,h5⟩
 |fuel+1,lo,hi,h1,h2,h3,h4,h5=>by
  unfold agZ
  by_cases hl:lo<hi
  ·rw[if_pos hl]
   have hm:(lo+hi) / 2<xs.size:=by omega
   dsimp only
   rw[WE xs _ j 0 hm]
   by_cases hc:xs.getD ((lo+hi) / 2) 0<j
   ·rw[if_pos hc]
    refine DZ R j fuel _ hi (by omega) h2 (by omega) (λi rW=>?_) h5
    by_cases he:i=(lo+hi) / 2
    ·rw[he];exact hc
    ·exact Hl (R i _ (by omega) hm) hc
   ·rw[if_neg hc]
    refine DZ R j fuel lo _ (by omega) (by omega) (by omega) h4 (λi h6 h7=>?_)
    by_cases he:i=(lo+hi) / 2
    ·rw[he];omega
    ·have:=R _ i (by omega:(lo+hi) / 2<i) h7
     omega
  ·rw[if_neg hl]
   have:lo=hi:=by omega
   subst this
   exact⟨h2,h4,h5⟩
theorem y0{xs:Array Nat}(R:eR xs)(j:Nat):LI xs j (lR xs j):=
 DZ R j xs.size 0 xs.size (cw _) (aT _) (by omega) (λi h=>absurd h (Ql _)) (λi h1 h2=>absurd h2 (by omega))
theorem WG{xs:Array Nat}(R:eR xs){i:Nat}(h:i<xs.size):lR xs (xs.getD i 0+1)=i+1:=by
 obtain⟨h1,h2,h3⟩:=y0 R (xs.getD i 0+1)
 generalize lR xs (xs.getD i 0+1)=r at h1 h2 h3
 rcases Qa r (i+1)with hr|hr|hr
 ·have:=h3 i (by omega) h
  omega
 ·exact hr
 ·have a:=h2 (i+1) hr
  have b:=R i (i+1) (pP _) (by omega)
  omega
theorem WH{xs:Array Nat}(R:eR xs):lR xs 0=0:=by
 obtain⟨h1,h2,h3⟩:=y0 R 0
 rcases Nat.eq_zero_or_pos (lR xs 0)with h|h
 ·exact h
 ·exact absurd (h2 0 h) (Ql _)
theorem WI{α:Type}(xs:Array α)(p:Nat)(x:α):(PM xs p x).toList=xs.toList.take p++x::xs.toList.drop p:=by
 unfold PM
 simp[Array.toList_extract,List.extract,Gu]
theorem eR.iff(xs:Array Nat):eR xs↔xs.toList.Pairwise (· < ·):=by
 rw[List.pairwise_iff_getElem]
 constructor
 ·intro R i j hi hj ji
  rw[fg]at hi hj
  have:=R i j ji hj
  simpa[pX,hi,hj]using this
 ·intro R i j ji hj
  have hi:i<xs.size:=by omega
  have:=R i j (by rwa [fg]) (by rwa [fg]) ji
  simpa[pX,hi,hj]using this
theorem WJ{l:List Nat}{r j:Nat}(h:∀i,i<r->(hi:i<l.length)->l[i]<j):∀a∈l.take r,a<j:=by
 intro a ha
 obtain⟨i,hi,rfl⟩:=wK ha
 rw[List.getElem_take]
 rw[fC]at hi
 exact h i (by omega) (by omega)
theorem WK{l:List Nat}{r j:Nat}(h:∀i,r<=i->(hi:i<l.length)->j<=l[i]):∀a∈l.drop r,j<=a:=by
 intro a ha
 obtain⟨i,hi,rfl⟩:=wK ha
 rw[List.getElem_drop]
 rw[lQ]at hi
 exact h (r+i) (by omega) (by omega)
theorem eR.insert{xs:Array Nat}(R:eR xs){j:Nat}(hj:j∉xs.toList):eR (PM xs (lR xs j) j):=by
 obtain⟨h1,h2,h3⟩:=y0 R j
 generalize lR xs j=r at h1 h2 h3
 have P:=(eR.iff xs).mp R
 refine(eR.iff _).mpr ?_
 rw[WI]
 have a1:∀a∈xs.toList.take r,a<j:=WJ λi hi hl=>by
  have hs:i<xs.size:=by rwa [fg]at hl
  simpa[pX,hs]using h2 i hi
 have a2:∀a∈xs.toList.drop r,j<a:=λa ha=>by
  have:j<=a:=WK (λi hi hl=>by
   have hs:i<xs.size:=by rwa [fg]at hl
   simpa[pX,hs]using h3 i hi hs) a ha
  rcases Nat.lt_or_ge j a with h|h
  ·exact h
  ·exact absurd (List.mem_of_mem_drop ha) (by rw[show a=j by omega];exact hj)
 rw[List.pairwise_append]
 refine⟨P.sublist (List.take_sublist _ _),?_,?_⟩
 ·exact wL.mpr ⟨a2,P.sublist (List.drop_sublist _ _)⟩
 ·intro a ha b hb
  rcases bz.mp hb with rfl|hb
  ·exact a1 a ha
  ·exact Hl (a1 a ha) (a2 b hb)
theorem D_{α:Type}:∀{l:List α}{i:Nat}(h:i<l.length),(l[i]::l.eraseIdx i).Perm l
 |a::l,0,_=>by simp
 |a::l,i+1,h=>by
  have h':i<l.length:=by simpa using h
  simp only[List.getElem_cons_succ,List.eraseIdx_cons_succ]
  exact(List.Perm.swap _ _ _).trans ((D_ h').cons a)
theorem LJ{α:Type}(next:Nat->Nat):∀(fuel k:Nat)(left:List α)(out:Array α),left.length=fuel->
  (Qk next fuel k left out).toList.Perm (out.toList++left)
 |0,k,left,out,h=>by
  have:left=[]:=rA.mp h
  subst this
  simp[Qk]
 |fuel+1,k,left,out,h=>by
  unfold Qk
  have aV:next k % left.length<left.length:=Nat.mod_lt _ (by omega)
  rw[bX aV]
  dsimp only
  refine(LJ next fuel (k+1) _ _ (by rw[ag7 aV];omega)).trans ?_
  rw[ahE,mP]
  refine List.Perm.append_left _ ?_
  exact D_ aV
theorem WL{α:Type}(next:Nat->Nat)(xs:Array α):(pickOrder next xs).toList.Perm xs.toList:=by
 have:=LJ next xs.size 0 xs.toList #[] (by simp)
 simpa[pickOrder]using this
end Bs
namespace Bs
open PySem
def eS(b:Bool)(t:SetTable):Prop:=t.led=b/\eR t.place
theorem eR.range(n:Nat):eR (Array.range n):=by
 intro i j ji hj
 rw[Array.size_range]at hj
 have hi:i<n:=by omega
 simp[pX,hi,hj,ji]
theorem eR.empty:eR #[]:=λ_ _ _ h=>absurd h (Ql _)
theorem eS.fresh(f m:Nat)(b:Bool):eS b (SetTable.fresh f m b):=⟨rfl,eR.empty⟩
theorem eS.standIn{b:Bool}{t:SetTable}(h:eS b t)(n:Nat):eS b (t.standIn n):=⟨h.1,eR.range n⟩
theorem eS.orStandIn{b:Bool}{t:SetTable}(h:eS b t)(n:Nat):eS b (t.orStandIn n):=by
 unfold SetTable.orStandIn
 split
 ·exact h
 ·exact h.standIn n
theorem LK{t:SetTable}(R:eR t.place){j:Nat}(h:∀i,t.slot j≠.live i):j∉t.place.toList:=by
 intro hm
 obtain⟨i,hi,e⟩:=wK hm
 rw[fg]at hi
 rw[Array.getElem_toList]at e
 have hb:lR t.place j=i:=by
  obtain⟨h1,h2,h3⟩:=y0 R j
  generalize lR t.place j=r at h1 h2 h3
  have hg:t.place.getD i 0=j:=by simp[pX,hi,e]
  rcases Qa r i with hr|hr|hr
  ·have a:=h3 r (aT _) (by omega)
   have b:=R r i hr hi
   omega
  ·exact hr
  ·have a:=h2 i hr
   omega
 refine h i ?_
 unfold SetTable.slot
 dsimp only
 rw[hb,rq hi,e]
 simp
theorem Ea{t:SetTable}(R:eR t.place)(g:Nat->Int)(h:Int):∀(fuel:Nat)(p:ahB),
  (∀d,p.dummy=some d->d∉t.place.toList)->∀j dm,PD t g h fuel p=some (.empty j dm)->
  dm.getD j∉t.place.toList
 |0,p,hp,j,dm,e=>by
  unfold PD at e
  cases e
 |fuel+1,p,hp,j,dm,e=>by
  unfold PD at e
  have LL:∀q:ahB,(t.advance q).dummy=q.dummy:=λq=>by
   unfold SetTable.advance
   split<;>rfl
  cases hs:t.slot p.j with
  |empty=>
   rw[hs]at e
   dsimp only at e
   cases e
   cases hd:p.dummy with
   |none=>exact LK R λi hi=>by rw[P6,hs]at hi;cases hi
   |some d=>exact hp d hd
  |dummy=>
   rw[hs]at e
   dsimp only at e
   refine Ea R g h fuel _ (λd hd=>?_) j dm e
   rw[LL]at hd
   cases hd
   exact LK R λi hi=>by rw[hs]at hi;cases hi
  |live i=>
   rw[hs]at e
   dsimp only at e
   split at e
   ·cases e
   ·refine Ea R g h fuel _ (λd hd=>?_) j dm e
    rw[LL]at hd
    exact hp d hd
theorem WM{t:SetTable}(R:eR t.place){h:Int}{j:Nat}{b:Bool}(e:t.freeSlot h=some (j,b)):j∉t.place.toList:=by
 unfold SetTable.freeSlot at e
 split at e
 ·rename_i j' dm hp
  cases e
  exact Ea R _ h _ _ (λd hd=>by cases hd) j' dm hp
 ·cases e
theorem WN{b:Bool}{t:SetTable}(T:eS b t)(es:Array (Int×Value))(h:Int)(x:Value):eS b (layNew t es h x).2.1:=by
 unfold layNew
 cases e:t.freeSlot h with
 |none=>exact T.standIn _
 |some q=>
  obtain⟨slot,wd⟩:=q
  dsimp only
  refine eS.orStandIn (t:=(t.put slot).1) ⟨T.1,?_⟩ _
  exact T.2.insert (WM T.2 e)
theorem WO(f:Nat->Option (Nat×Nat))(hf:∀j q,f j=some q->q.1=j)(n:Nat):
  (((cW n).filterMap f).map (·.1)).Pairwise (· < ·):=by
 rw[List.pairwise_map,List.pairwise_filterMap]
 refine List.Pairwise.imp ?_ (Gv (n:=n))
 intro a c WQ q hq r hr
 rw[hf a q hq,hf c r hr]
 exact WQ
theorem WR{mask finger moves:Nat}{led plain:Bool}{hashes:Array Int}{t:SetTable}{order:Array Nat}
  (e:SetTable.laid mask finger moves led plain hashes=some (t,order)):eS led t:=by
 unfold SetTable.laid at e
 cases ho:SetTable.layClean mask hashes with
 |none=>rw[ho]at e;cases e
 |some owner=>
  rw[ho]at e
  cases e
  refine⟨rfl,(eR.iff _).mpr ?_⟩
  refine WO _ (λj q hq=>?_) _
  cases hw:owner.getD j none with
  |none=>rw[hw]at hq;cases hq
  |some k=>rw[hw]at hq;cases hq;rfl
theorem WS{b:Bool}{t:SetTable}(T:eS b t)(es:Array (Int×Value))(wanted:Nat):eS b (relayAll t es wanted).2.1:=by
 unfold relayAll
 cases e:t.relaid (es.map (·.1)) wanted with
 |none=>exact T.standIn _
 |some q=>
  obtain⟨t',order⟩:=q
  dsimp only
  have T':=WR e
  rw[T.1]at T'
  split
  ·exact T'
  ·exact T.standIn _
end Bs
namespace Bs
open PySem
set_option maxRecDepth 100000
section
variable{prog:Program}{w:World}{A:Around}{E:Value->Shared->Prop}{s:Shared}
def dS(prog:Program)(w:World)(b:Bool)(h:Heap)(a:Addr)(S:Int->Bool)(n:Nat):Prop:=
 ∃(o:Obj)(es:Array (Int×Value))(ep:Nat)(t:SetTable),
  (h.get? a=some o/\o.ExactSet/\o.data=.set es ep t)/\
  (ElemsOf (intKind prog w) es.toList/\∀k,S k=true↔∃e∈es.toList,(intKind prog w).is k e.2=true)/\
  (es.size<scanBound/\t.fits es.size=true/\es.size=n)/\eS b t
theorem dS.moved{b:Bool}{h h':Heap}{a:Addr}{S:Int->Bool}{n:Nat}(W:dS prog w b h a S n)(hk:∀o,h.get? a=some o->h'.get? a=some o):dS prog w b h' a S n:=by
 obtain⟨o,es,ep,t,⟨h1,h2⟩,r⟩:=W
 exact⟨o,es,ep,t,⟨hk o h1,h2⟩,r⟩
theorem dS.congr{b:Bool}{h:Heap}{a:Addr}{S S':Int->Bool}{n n':Nat}(W:dS prog w b h a S n)(e:∀k,S k=S' k)(en:n=n'):dS prog w b h a S' n':=by
 have e':S=S':=funext e
 rw[<-e',<-en]
 exact W
theorem LM{b:Bool}{h:Heap}{a:Addr}{o:Obj}{es jm:Array (Int×Value)}{ep:Nat}{t t':SetTable}{S':Int->Bool}
  (ho:h.get? a=some o) (hx:o.ExactSet) (hd:o.data=.set es ep t)
  (m:ElemsOf (intKind prog w) jm.toList/\∀k,S' k=true↔∃e∈jm.toList,(intKind prog w).is k e.2=true)
  (z:jm.size<scanBound) (f:t'.fits jm.size=true) (T:eS b t'):
  dS prog w b (h.update a (Obj.putSet jm t')) a S' jm.size/\(h.update a (Obj.putSet jm t')).get? a=some {o with data:=.set jm (ep+1) t'}:=
 have q:=(SetOf_store (knd:=intKind prog w) ho hx hd m.1 m.2 z f).1
 ⟨⟨_,jm,ep+1,t',⟨q,hx,rfl⟩,m,⟨z,f,rfl⟩,T⟩,q⟩
theorem eS.off{b:Bool}{t:SetTable}(T:eS b t):eS b {t with plain:=false}:=T
theorem LN{g:Bool->Sem Unit}(hg:∀(c:Bool)(bA:Shared)(Q':Unit->Shared->Prop),Q' () bA->wpAny (model prog w) A (g c) Q' E bA)
  {b:Bool} {a:Addr} {o:Obj} {es dF:Array (Int×Value)} {ep:Nat} {t t2:SetTable} {S':Int->Bool}
  (ho:s.heap.get? a=some o) (hx:o.ExactSet) (hd:o.data=.set es ep t)
  (m:ElemsOf (intKind prog w) dF.toList/\∀k,S' k=true↔∃e∈dF.toList,(intKind prog w).is k e.2=true)
  (z:dF.size<scanBound) (f:t2.fits dF.size=true) (T:eS b t2) {wd:Bool} {R:Option Bool->Shared->Prop}
  (h:∀h',ox a s.heap h'->dS prog w b h' a S' dF.size->R (some true) {s with heap:=h'}):
  wpAny (model prog w) A (do
    storeSet a dF t2
    if(!wd&&t2.tooFull)=true then do
      g (relayAll t2 dF (uj dF.size)).2.2
      storeSet a (relayAll t2 dF (uj dF.size)).1 (relayAll t2 dF (uj dF.size)).2.1
      pure (some true)
     else pure (some true)) R E s:=by
 obtain⟨W1,LO⟩:=LM (prog:=prog) (w:=w) ho hx hd m z f T
 have b1:=ag1 s.heap a (Obj.putSet dF t2)
 refine wpAny_bind (wpAny_storeSet_of ho hd ?_ (fits_of_scanBound z))
 by_cases hc:(!wd&&t2.tooFull)=true
 ·rw[if_pos hc]
  have T3:=WS T dF (uj dF.size)
  have f3:=relayAll_fits t2 dF (uj dF.size)
  have p3:=relayAll_perm t2 dF (uj dF.size)
  generalize relayAll t2 dF (uj dF.size)=X at T3 f3 p3
  rcases X with⟨y3,t3,Eb⟩
  dsimp only at T3 f3 p3
  have z3:y3.size=dF.size:=by
   have:=p3.length_eq
   rwa [fg,fg]at this
  have m3:ElemsOf (intKind prog w) y3.toList/\∀k,S' k=true↔∃e∈y3.toList,(intKind prog w).is k e.2=true:=by
   refine⟨m.1.perm p3,λk=>(m.2 k).trans ?_⟩
   exact⟨λ⟨e,he,q⟩=>⟨e,p3.mem_iff.mpr he,q⟩,λ⟨e,he,q⟩=>⟨e,p3.mem_iff.mp he,q⟩⟩
  have zz:y3.size<scanBound:=by omega
  obtain⟨W2,_⟩:=LM (prog:=prog) (w:=w) LO hx rfl m3 zz f3 T3
  rw[z3]at W2
  refine wpAny_bind (hg Eb _ _ ?_)
  exact wpAny_bind (wpAny_storeSet_of LO rfl (wpAny_pure (h _ (b1.trans (ag1 _ a _)) W2)) (fits_of_scanBound zz))
 ·rw[if_neg hc]
  exact wpAny_pure (h _ b1 W1)
theorem add_int{b:Bool}{a:Addr}{S:Int->Bool}{n:Nat}{k:Int}{x:Value}{Q:Bool->Shared->Prop}(hk:(intKind prog w).is k x=true)(hs:x.scannable=true)
  (W:dS prog w b s.heap a S n) (room:n+1<scanBound)
  (h:∀h',ox a s.heap h'->dS prog w b h' a (λj=>S j||decide (j=k)) (if S k then n else n+1)->Q (!S k) {s with heap:=h'}):
  wpAny (model prog w) A (setAddHashed a x ((intKind prog w).hash k)) Q E s:=by
 obtain⟨o,es,ep,t,⟨ho,hx,hd⟩,⟨m1,m2⟩,⟨z,f,hn⟩,T⟩:=W
 unfold setAddHashed setAddHashedIn
 refine wpAny_holding (wpAny_bind (wpAny_setState_of ho hd f ?_))
 dsimp only
 rw[byScan_of hs z m1,if_pos rfl]
 unfold setAddByScan
 refine wpAny_bind (wpAny_bind (wpAny_rule (wpAny_bind (wpAny_setScan_of hk ho hd f m1 ?_))))
 cases hr:List.findIdx? (λe=>(intKind prog w).is k e.2) es.toList with
 |some j=>
  obtain⟨hj,q,_⟩:=agP.mp hr
  have hS:S k=true:=(m2 k).mpr ⟨_,Ai hj,q⟩
  have fin:=h s.heap (Heap.SameBut.refl a s.heap)
  rw[hS]at fin
  refine wpAny_pure (wpAny_pure (fin ⟨o,es,ep,t,⟨ho,hx,hd⟩,⟨m1,λi=>?_⟩,⟨z,f,hn⟩,T⟩))
  rw[<-m2 i,Al,decide_eq_true_eq]
  constructor
  ·rintro (q|rfl)
   ·exact q
   ·exact hS
  ·exact ay
 |none=>
  have hS:S k=false:=by
   rcases hb:S k with _|_
   ·rfl
   ·obtain⟨e,he,q⟩:=(m2 k).mp hb
    have:=ahd.mp hr e he
    rw[q]at this
    cases this
  have T1:=WN T es ((intKind prog w).hash k) x
  have p1:=layNew_perm t es ((intKind prog w).hash k) x
  have f1:=layNew_fits t es ((intKind prog w).hash k) x
  generalize layNew t es ((intKind prog w).hash k) x=L at T1 p1 f1
  rcases L with⟨dF,t1,wd,Eb⟩
  dsimp only at T1 p1 f1⊢
  rw[ahE]at p1
  have m':ElemsOf (intKind prog w) dF.toList/\∀i,(S i||decide (i=k))=true↔∃e∈dF.toList,(intKind prog w).is i e.2=true:=
   ⟨(m1.push hk hs).perm p1,mem_push_iff hk m2 p1⟩
  have z1:dF.size=n+1:=by
   have:=p1.length_eq
   rw[bf,fg,fg]at this
   simp only[bJ,uh]at this
   omega
  have zz:dF.size<scanBound:=by omega
  have fin:∀h',ox a s.heap h'->dS prog w b h' a (λj=>S j||decide (j=k)) dF.size->Q true {s with heap:=h'}:=by
   intro h' hb W'
   have:=h h' hb
   rw[hS]at this
   rw[z1]at W'
   exact this W'
  refine wpAny_bind ?_
  have gw:∀(c:Bool)(bA:Shared)(Q':Unit->Shared->Prop),Q' () bA->wpAny (model prog w) A (match c with|true=>rule "set.scan.the-table-gave-way"|false=>pure ()) Q' E bA:=by
   intro c bA Q' q
   cases c
   ·exact wpAny_pure q
   ·exact wpAny_rule q
  refine gw Eb _ _ ?_
  split
  ·refine wpAny_bind ?_
   rw[hashByValue_scannable 8 hs]
   refine wpAny_pure (LN (b:=b) gw ho hx hd m' zz ?_ ?_ ?_)
   ·split
    ·exact f1
    ·exact SetTable.fits_plain_off f1
   ·split
    ·exact T1
    ·exact T1.off
   ·intro h' hb W'
    exact wpAny_pure (fin h' hb W')
  ·refine wpAny_bind (wpAny_pure ?_)
   rw[if_pos rfl]
   refine LN (b:=b) gw ho hx hd m' zz f1 T1 ?_
   intro h' hb W'
   exact wpAny_pure (fin h' hb W')
end
end Bs
namespace Bs
open PySem
open PyProof.Rows (firstMet firstMet_succ firstMet_length_le step_any step_length)
set_option maxRecDepth 100000
section
variable{prog:Program}{w:World}{A:Around}{R:Result->Shared->Prop}{I:Addr}{fp wr:List Addr}{G:Array GenState->Array GenState->Prop}{n:Nat}{P:Nat->Value->Prop}{St:Nat->Shared->Prop}
def Met(val:Nat->Int)(i:Nat):Int->Bool:=λj=>(firstMet val i).any (· ==j)
theorem WT(W:WalksS prog w A.in1 I fp wr G n P St){b:Bool}(T:Addr)(hT:T∉fp)(val:Nat->Int)
  (hv:∀i v,P i v->∃t,v=.int (val i) t) (hb:n+1<scanBound):
  ∀(k i:Nat)(s:Shared),i+k=n->St i s->dS prog w b s.heap T (Met val i) (firstMet val i).length->
   (∀s',Moved (T::wr) G s s'->dS prog w b s'.heap T (Met val n) (firstMet val n).length->R (.ok (.ret .none)) s')->
   codeAny (model prog w) A (.builtin "set.update.loop" ⟨[.ref T,.ref I],[]⟩) R s:=by
 have LP:T∉wr:=λz=>hT (W.sub _ z)
 have inc:∀c∈wr,c∈T::wr:=λc hc=>bR _ hc
 intro k
 induction k with
 |zero=>
  intro i s hk d_ hS hR
  obtain rfl:i=n:=hk
  refine codeAny_builtin agK ?_
  rw[Aa Pq _]
  refine wpAny_bind (m:=pyNext (.ref I)) (W.done s _ _ d_ λs' mv=>?_)
  exact wpAny_pure (hR s' (mv.mono inc) (hS.moved λo e=>mv.heap T o LP e))
 |succ k ih=>
  intro i s hk d_ hS hR
  refine codeAny_builtin agK ?_
  rw[Aa Pq _]
  refine wpAny_bind (m:=pyNext (.ref I)) (W.item i s _ _ (by omega) d_ λv s' hP WU mv=>?_)
  obtain⟨t,rfl⟩:=hv i v hP
  have vk:=hS.moved (h':=s'.heap) λo e=>mv.heap T o LP e
  have room:(firstMet val i).length+1<scanBound:=by
   have:=firstMet_length_le val i
   omega
  refine wpAny_bind (m:=holding [xf (val i) t] (setAdd T (.int (val i) t))) (wpAny_holding ?_)
  unfold setAdd
  refine wpAny_holding (wpAny_bind ((intKind prog w).pyHash (k:=val i) (intKind_is _ _ _ _) ?_))
  refine add_int (b:=b) (s:={s' with toks:=s'.toks+1}) (intKind_is _ _ _ _) rfl vk room λh' sb WV=>?_
  have Ec:dS prog w b h' T (Met val (i+1)) (firstMet val (i+1)).length:=by
   refine WV.congr (λj=>?_) ?_
   ·unfold Met
    rw[firstMet_succ,step_any]
   ·rw[firstMet_succ,step_length]
    rfl
  refine wpAny_pure ⟨plainId_quiet Pq _,ih (i+1) _ (by omega) (W.frame _ s' _ _ WU (mS _) ?_) Ec ?_⟩
  ·intro c hc o e
   rw[sb.2 c (λz:c=T=>hT (z▸hc))]
   exact e
  ·intro kY WW WX
   refine hR kY (Moved.trans W.gtrans ((mv.mono inc).then_heap (mS _) ?_) WW) WX
   intro c o hc e
   rw[sb.2 c (λz:c=T=>hc (z▸bY))]
   exact e
end
end Bs
namespace Bs
open PySem
open PyProof.Rows (firstMet IntsAre)
set_option maxRecDepth 100000
def eZ(w:World):Bool:= !w.params.followText "set-order"
def kZ(b:Bool):Obj:={cls:=.type "set",dict:=none,data:=.set #[] 0 (.fresh 0 0 b)}
section
variable{prog:Program}{w:World}{A:Around}{E:Value->Shared->Prop}{s:Shared}
theorem Ed{K:Value->Shared->Prop}(a:Value)(h:K (.ref s.heap.objs.size) {s with heap:=s.heap.push (kZ (eZ w))}):
  codeAny (model prog w) A (.call (.builtin "set.__new__") ⟨[.type "set",a],[]⟩) (wants K E) s:=by
 refine codeAny_of_tree ?_
 refine wpAny_bind (m:=checkBuiltinCall "set.__new__" ⟨[.type "set",a],[]⟩) (wpAny_of_eq (F.newCall_set_1 a) (wpAny_pure ?_))
 refine⟨plainId_quiet F.plain_set_new _,codeAny_builtin F.entry_set_new ?_⟩
 rw[Aa F.plain_set_new _]
 unfold Builtin.«set.__new__» Builtin.Frozenset.newClass
 have sub:=sub_set_self
 rcases s with⟨hp,g,d,tk,os⟩
 dsimp only
 wp_walk
 refine wpAny_askSetting (wpAny_pure ?_)
 dsimp only
 simp only[newObj]
 exact wpAny_bind (wpAny_alloc (wpAny_pure (wpAny_pure h)))
theorem dS.Ed(h:Heap)(b:Bool):dS prog w b (h.push (kZ b)) h.objs.size (λ_=>false) 0:=by
 refine⟨_,#[],0,_,⟨dG _ rfl,⟨rfl,rfl,rfl⟩,rfl⟩,⟨λe he=>?_,λk=>?_⟩,⟨by decide,rfl,rfl⟩,eS.fresh _ _ _⟩
 ·simp at he
 ·simp
def Old(h h':Heap):Prop:=∀c o,c<h.objs.size->h.get? c=some o->h'.get? c=some o
set_option maxHeartbeats 3200000 in
theorem WY{l:Addr}{xs:Array Value}{ns:List Int}{Q:Value->Shared->Prop}
  (hh:A.handled=none) (hl:s.heap.IsList l xs) (hi:IntsAre xs.toList ns) (hb:xs.size+1<scanBound)
  (h:∀(h':Heap)(tk:Nat),dS prog w (eZ w) h' s.heap.objs.size (Met (λi=>ns.getD i 0) xs.size) (firstMet (λi=>ns.getD i 0) xs.size).length->
   Old s.heap h'->Q (.ref s.heap.objs.size) {s with heap:=h',toks:=tk}):
  wpAny (model prog w) A (call (.type "set") [.ref l]) Q E s:=by
 obtain⟨c,tl,ahW⟩:=F.called_set.mro
 have c1:=F.called_set.made
 have c2:=F.called_set.sub
 have c3:=F.called_set.notType
 have c4:=F.called_set.canCreate
 have c5:=F.typeCall_set_1 (.ref l)
 refine wpAny_call (codeAny_of_tree ?_)
 show wpAny _ _ (callAny (.type "set") _) _ _ _
 refine wpAny_pure ⟨PZ _ (by decide+kernel),codeAny_builtin F.entry_type_call ?_⟩
 rw[Around.under_plain (weight_type_call_type "set" [.ref l] []) rfl]
 repeat (any_goals (first|assumption|wp_step))
 refine codeAny_mono (Ed (.ref l) (E:=E) (K:=λv bA=>v=.ref s.heap.objs.size/\bA={s with heap:=s.heap.push (kZ (eZ w))}) ⟨rfl,rfl⟩) λr bA hr=>?_
 cases r with
 |error e=>exact hr
 |ok fl=>
  cases fl with
  |ret v=>
   obtain⟨rfl,rfl⟩:=hr
   have vm:(s.heap.push (kZ (eZ w))).get? s.heap.objs.size=some (kZ (eZ w)):=dG _ rfl
   have ty:Shared.TypeIs {s with heap:=s.heap.push (kZ (eZ w))} (.ref s.heap.objs.size) "set":=⟨_,vm,rfl⟩
   have i1:=F.called_set.init.lookup
   have i2:=F.called_set.init.bind (.ref s.heap.objs.size)
   repeat (any_goals (first|assumption|wp_step))
   refine codeAny_mono (codeAny_call_builtin (R:=wants (λr iS=>r=.none/\∃h' tk,iS={s with heap:=h',toks:=tk}/\
     dS prog w (eZ w) h' s.heap.objs.size (Met (λi=>ns.getD i 0) xs.size) (firstMet (λi=>ns.getD i 0) xs.size).length/\Old s.heap h') E)
    F.called_set.init.plain F.entry_set_init (check_set_init_1 ty ?_)) λWZ iS Ee=>?_
   ·obtain⟨ol,e0,cl,nl,dl⟩:=hl
    rcases ol with⟨oc,od,VW,fj⟩
    simp only at cl dl
    subst cl dl
    have e1:(s.heap.push (kZ (eZ w))).get? l=some {cls:=.type "list",dict:=od,data:=.seq xs nl,slots:=fj}:=bH _ e0
    have LQ:(s.heap.push (kZ (eZ w))).IsList l xs:=⟨_,e1,rfl,nl,rfl⟩
    have n1:=F.sub_list_set
    have n2:=F.sub_list_frozenset
    have n3:(pW "list"==pW "dict")=false:=by decide
    unfold Builtin.«set.__init__» noKeywords Builtin.Frozenset.updateFrom
    generalize W0:pyIter=PI
    wp_walk
    subst W0
    refine wpAny_pyIter_list LQ (wpAny_bind (wpAny_runValue ?_))
    have lt:l<s.heap.objs.size:=bO e0
    have sz:(s.heap.push (kZ (eZ w))).objs.size=s.heap.objs.size+1:=fD _ _
    have ne1:l≠(s.heap.push (kZ (eZ w))).objs.size:=by rw[sz];exact cV (jM lt)
    have off:s.heap.objs.size∉[(s.heap.push (kZ (eZ w))).objs.size,l]:=by
     intro z
     rcases bz.mp z with z|z
     ·omega
     ·exact pV lt (cY.mp z)
    have hv:∀(i:Nat)(v:Value),xs[i]? =some v->∃t,v=.int ((λi=>ns.getD i 0) i) t:=by
     intro i v e
     exact hi.int_at i v (by rw[Gx];exact e)
    have W4:A.in1.in1.in1.handled=none:=by simp[hh]
    have base:=dS.Ed (prog:=prog) (w:=w) s.heap (eZ w)
    refine WT (b:=eZ w) ((Walks.list W4 _ l ne1 xs).toS) s.heap.objs.size off (λi=>ns.getD i 0) hv hb xs.size 0 _ (Nat.zero_add _)
     ⟨⟨_,dG _ rfl,rfl,rfl⟩,LQ.push _⟩ ?_ ?_
    ·exact(base.moved λo e=>bH _ e).congr (λ_=>rfl) rfl
    ·intro s' mv W'
     rcases s' with⟨h',g',d',iY,x_⟩
     have eg:g'=s.gens:=mv.gens
     have ed:d'=s.drawn:=mv.drawn
     have eo:x_=s.os:=mv.os
     subst eg ed eo
     refine wpAny_pure (wpAny_pure ⟨rfl,h',iY,rfl,W',λc o hc e=>?_⟩)
     refine mv.heap c o (λz=>?_) (bH _ (bH _ e))
     rcases bz.mp z with z|z
     ·exact cV hc z
     ·exact cV (jM hc) ((cY.mp z).trans sz)
   ·cases WZ with
    |error e=>exact Ee
    |ok W5=>
     cases W5 with
     |ret r=>
      obtain⟨rfl,h',tk,rfl,W',k'⟩:=Ee
      repeat (any_goals (first|assumption|wp_step))
      exact h _ _ W' k'
     |_=>exact Ee.elim
  |_=>exact hr.elim
end
end Bs
namespace Bs
open PySem
set_option maxRecDepth 100000
theorem k4:Slot "set_iterator" "__next__" "set_iterator.__next__":=
 .of (owner:="set_iterator") (n:="__next__") (by rw[typeLookup_type,builtinLookup_eq_fast];kernel_rfl) (by decide+kernel)
  (by decide+kernel) (by decide+kernel) (by first|exact .inl (by decide+kernel)|exact .inr (by decide+kernel)) (by rw[isSubtype_type];kernel_rfl)
theorem LS:Slot "set_iterator" "__iter__" "set_iterator.__iter__":=
 .of (owner:="set_iterator") (n:="__iter__") (by rw[typeLookup_type,builtinLookup_eq_fast];kernel_rfl) (by decide+kernel)
  (by decide+kernel) (by decide+kernel) (by first|exact .inl (by decide+kernel)|exact .inr (by decide+kernel)) (by rw[isSubtype_type];kernel_rfl)
theorem y4:entryFor table "set_iterator.__next__"=some Builtin.«set_iterator.__next__»:=entryFor_of_tree (by kernel_rfl)
theorem W6:entryFor table "set_iterator.__iter__"=some Builtin.«dict_keyiterator.__iter__»:=
 entryFor_alias (id':="dict_keyiterator.__iter__") (by kernel_rfl) rfl (by decide+kernel) (by kernel_rfl)
theorem LU:entryFor table "set.__iter__"=some Builtin.«frozenset.__iter__»:=
 entryFor_alias (id':="frozenset.__iter__") (by kernel_rfl) rfl (by decide+kernel) (by kernel_rfl)
theorem y6(a:Value):argsOk "set_iterator.__next__" ⟨[a],[]⟩:=by unfold argsOk;kernel_rfl
theorem W7(a:Value):argsOk "set_iterator.__iter__" ⟨[a],[]⟩:=by unfold argsOk;kernel_rfl
theorem W8:typeLookup (.type "set") "__len__"=pure (some (.builtin "set.__len__")):=by rw[typeLookup_type,builtinLookup_eq_fast];kernel_rfl
end Bs
namespace Bs
open PySem
set_option maxRecDepth 100000
section
variable{prog:Program}{w:World}{A:Around}{E:Value->Shared->Prop}
theorem W9{src:Source}{n:Nat}{s:Shared}{Q:Nat->Shared->Prop}(hn:n≠0)(h:∀i d',i<n->Q i {s with drawn:=d'}):
  wpAny (model prog w) A (choose src n) Q E s:=by
 intro Γ p hΓ
 refine⟨hn,?_⟩
 exact h _ _ (Nat.mod_lt _ (Nat.pos_of_ne_zero hn))
theorem LV{α:Type}:∀(n:Nat)(xs:List α)(s:Shared)(Q:List α->Shared->Prop),xs.length=n->
  (∀ys d',ys.Perm xs->Q ys {s with drawn:=d'})->wpAny (model prog w) A (drawOrder n xs) Q E s
 |0,xs,s,Q,hl,h=>by
  have:xs=[]:=rA.mp hl
  subst this
  unfold drawOrder
  exact wpAny_pure (h [] s.drawn (ahw _))
 |n+1,[],s,Q,hl,h=>by cases hl
 |n+1,x::xs,s,Q,hl,h=>by
  unfold drawOrder
  refine wpAny_bind (W9 (by simp) λi d' hi=>?_)
  rw[bX hi]
  dsimp only
  refine wpAny_bind (LV n _ _ _ (by rw[ag7 hi];simpa using hl) λys W_ p=>?_)
  exact wpAny_pure (h _ W_ ((p.cons _).trans (D_ hi)))
end
end Bs
namespace Bs
open PySem
set_option maxRecDepth 100000
def qF(w:World)(es:Array (Int×Value))(t:SetTable):Bool:= !w.params.followText "set-order"&&(!t.plain&&decide (es.size>1))
def gy(first:Value)(i:Nat)(a:Value)(n ep:Nat):Obj:={cls:=.type "set_iterator",data:=.fields #[first,rawInt i,a,rawInt n,rawInt ep]}
section
variable{prog:Program}{w:World}{A:Around}{E:Value->Shared->Prop}{s:Shared}
theorem LW{a:Addr}{o:Obj}{es:Array (Int×Value)}{ep:Nat}{t:SetTable}{Q:Bool->Shared->Prop}
  (ho:s.heap.get? a=some o) (hd:o.data=.set es ep t) (hf:t.fits es.size=true) (h:Q (qF w es t) s):wpAny (model prog w) A (setDrawn a) Q E s:=by
 unfold setDrawn
 refine wpAny_bind (wpAny_setState_of ho hd hf ?_)
 refine wpAny_bind (m:=setsByText) ?_
 unfold setsByText
 exact wpAny_bind (wpAny_askSetting (wpAny_pure (wpAny_pure h)))
theorem Xa{a:Addr}{o:Obj}{es:Array (Int×Value)}{ep:Nat}{t:SetTable}{Q:Value->Shared->Prop}
  (ho:s.heap.get? a=some o) (hc:o.cls=.type "set") (hd:o.data=.set es ep t) (hf:t.fits es.size=true) (hn:qF w es t=false)
  (h:Q (.ref s.heap.objs.size) {s with heap:=s.heap.push (gy (rawInt 0) 0 (.ref a) es.size ep)}):wpAny (model prog w) A (pyIter (.ref a)) Q E s:=by
 have ty:s.TypeIs (.ref a) "set":=⟨o,ho,hc⟩
 refine wpAny_pyIter_slot ty F.slot_set_iter (wpAny_call_entry F.slot_set_iter ty LU ?_ (F.args_set_iter_1 _))
 unfold Builtin.«frozenset.__iter__»
 refine wpAny_bind (m:=agM "__iter__" _) (wpAny_pure ?_)
 refine wpAny_bind (m:=agL a) (wpAny_bind (wpAny_setEntries_of ho hd hf (wpAny_pure ?_)))
 refine wpAny_bind (LW ho hd hf ?_)
 rw[hn,if_neg cG]
 refine wpAny_bind (wpAny_pure ?_)
 refine wpAny_bind (m:=setEpoch a) (wpAny_bind (wpAny_setState_of ho hd hf (wpAny_pure ?_)))
 refine wpAny_bind (m:=newFields "set_iterator" _) ?_
 unfold newFields
 refine wpAny_newObj_type ?_
 refine wpAny_pure ⟨_,rfl,"set_iterator",_,⟨_,dG _ rfl,rfl⟩,k4.lookup,?_⟩
 exact h
end
end Bs
namespace Bs
open PySem
set_option maxRecDepth 100000
section
variable{prog:Program}{w:World}{A:Around}{E:Value->Shared->Prop}{s:Shared}
theorem LX{a:Addr}{o:Obj}{es:Array (Int×Value)}{ep:Nat}{t:SetTable}{slot g e0:Nat}{Q:Option (Value×Nat)->Shared->Prop}
  (ho:s.heap.get? a=some o) (hd:o.data=.set es ep t) (hf:t.fits es.size=true) (hb:w.params.followText "set-order"=false) (hn:qF w es t=false) (hl:t.led=true)
  (h:Q (match es[lR t.place slot]?,t.place[lR t.place slot]? with
   |some (_,x),some j=>some (x,j+1)
   |_,_=>none) s):wpAny (model prog w) A (setNext a slot g e0) Q E s:=by
 unfold setNext
 refine wpAny_bind (wpAny_setState_of ho hd hf ?_)
 dsimp only
 refine wpAny_bind (m:=setsByText) ?_
 unfold setsByText
 refine wpAny_bind (wpAny_askSetting (wpAny_pure ?_))
 show wpAny _ _ (if w.params.followText "set-order"=true then _ else _) _ _ _
 rw[hb,if_neg cG]
 have gS:(!t.plain&&decide (es.size>1))=false:=by
  unfold qF at hn
  rw[hb]at hn
  simpa using hn
 show wpAny _ _ (if(!t.plain&&decide (es.size>1))=true then _ else _) _ _ _
 rw[gS,if_neg cG]
 refine wpAny_bind ?_
 show wpAny _ _ (if(!t.led&& !es.isEmpty)=true then _ else _) _ _ _
 rw[hl]
 rw[if_neg (by simp)]
 exact wpAny_pure (wpAny_pure h)
theorem LY{a:Addr}{o:Obj}{es:Array (Int×Value)}{ep:Nat}{t:SetTable}{slot g:Nat}{Q:Option (Value×Nat)->Shared->Prop}
  (ho:s.heap.get? a=some o) (hd:o.data=.set es ep t) (hf:t.fits es.size=true) (hb:w.params.followText "set-order"=true)
  (h:Q (((pickOrder (w.params.setOrder a ep) es)[g]?).map λe=>(e.2,slot)) s):wpAny (model prog w) A (setNext a slot g ep) Q E s:=by
 unfold setNext
 refine wpAny_bind (wpAny_setState_of ho hd hf ?_)
 dsimp only
 refine wpAny_bind (m:=setsByText) ?_
 unfold setsByText
 refine wpAny_bind (wpAny_askSetting (wpAny_pure ?_))
 show wpAny _ _ (if w.params.followText "set-order"=true then _ else _) _ _ _
 rw[hb,if_pos rfl]
 rw[if_neg (by simp)]
 refine wpAny_bind (m:=setWalk a) ?_
 unfold setWalk
 refine wpAny_bind (wpAny_setState_of ho hd hf ?_)
 dsimp only
 refine wpAny_bind (m:=setsByText) ?_
 unfold setsByText
 refine wpAny_bind (wpAny_askSetting (wpAny_pure ?_))
 show wpAny _ _ (if w.params.followText "set-order"=true then _ else _) _ _ _
 rw[hb,if_pos rfl]
 exact wpAny_bind (wpAny_askSetting (wpAny_pure (wpAny_pure h)))
end
end Bs
namespace Bs
open PySem
set_option maxRecDepth 100000
section
variable{prog:Program}{w:World}{A:Around}{E:Value->Shared->Prop}{s:Shared}
theorem LZ{I a:Addr}{o:Obj}{es:Array (Int×Value)}{ep:Nat}{t:SetTable}{slot i nx:Nat}{x:Value}{Q:Option Value->Shared->Prop}
  (hi:s.heap.get? I=some (gy (rawInt slot) i (.ref a) es.size ep)) (ho:s.heap.get? a=some o) (hd:o.data=.set es ep t) (hf:t.fits es.size=true)
  (hs:∀(Q':Option (Value×Nat)->Shared->Prop)(A':Around)(E':Value->Shared->Prop),Q' (some (x,nx)) s->wpAny (model prog w) A' (setNext a slot i ep) Q' E' s)
  (h:∀h',h'.get? I=some (gy (rawInt nx) (i+1) (.ref a) es.size ep)->ox I s.heap h'->Q (some x) {s with heap:=h'}):
  wpAny (model prog w) A (pyNext (.ref I)) Q E s:=by
 have ty:s.TypeIs (.ref I) "set_iterator":=⟨_,hi,rfl⟩
 unfold pyNext
 refine wpAny_bind (wpAny_attempt (wpAny_callSpecial?_slot (name:=w9 "__next__") ty k4 (wpAny_call_entry k4 ty y4 ?_ (y6 _))))
 unfold Builtin.«set_iterator.__next__»
 refine wpAny_bind (m:=slotArgs "__next__" 0 _) (wpAny_pure ?_)
 refine wpAny_bind (wpAny_fieldsOf hi rfl ?_)
 refine wpAny_bind (wpAny_setEntries_of ho hd hf ?_)
 show wpAny _ _ (if((es.size:Int) != (es.size:Int))=true then _ else _) _ _ _
 rw[if_neg (by simp)]
 refine wpAny_bind (m:=setNext a _ _ _) (hs _ _ _ ?_)
 refine wpAny_bind (m:=setField (.ref I) 0 (rawInt nx)) (wpAny_setField_rec hi (by simp) λh1 e1 b1=>?_)
 refine wpAny_bind (m:=setField (.ref I) 1 _) (wpAny_setField_rec (s:={s with heap:=h1}) e1 (by simp) λh2 e2 b2=>?_)
 refine wpAny_pure ⟨_,rfl,wpAny_pure (h h2 ?_ (b1.trans b2))⟩
 exact e2
theorem L0{I a:Addr}{o:Obj}{es:Array (Int×Value)}{ep:Nat}{t:SetTable}{slot i:Nat}{Q:Option Value->Shared->Prop}(hh:A.handled=none)
  (hi:s.heap.get? I=some (gy (rawInt slot) i (.ref a) es.size ep)) (ho:s.heap.get? a=some o) (hd:o.data=.set es ep t) (hf:t.fits es.size=true)
  (hs:∀(Q':Option (Value×Nat)->Shared->Prop)(A':Around)(E':Value->Shared->Prop),Q' none s->wpAny (model prog w) A' (setNext a slot i ep) Q' E' s)
  (h:∀h',(∀b o,b≠I->s.heap.get? b=some o->h'.get? b=some o)->Q none {s with heap:=h'}):
  wpAny (model prog w) A (pyNext (.ref I)) Q E s:=by
 have ty:s.TypeIs (.ref I) "set_iterator":=⟨_,hi,rfl⟩
 unfold pyNext
 refine wpAny_bind (wpAny_attempt (wpAny_callSpecial?_slot (name:=w9 "__next__") ty k4 (wpAny_call_entry k4 ty y4 ?_ (y6 _))))
 unfold Builtin.«set_iterator.__next__»
 refine wpAny_bind (m:=slotArgs "__next__" 0 _) (wpAny_pure ?_)
 refine wpAny_bind (wpAny_fieldsOf hi rfl ?_)
 refine wpAny_bind (wpAny_setEntries_of ho hd hf ?_)
 show wpAny _ _ (if((es.size:Int) != (es.size:Int))=true then _ else _) _ _ _
 rw[if_neg (by simp)]
 refine wpAny_bind (m:=setNext a _ _ _) (hs _ _ _ ?_)
 refine wpAny_bind (m:=setField (.ref I) 2 .none) (wpAny_setField_rec hi (by simp) λh1 e1 b1=>?_)
 refine wpAny_bind ?_
 simp only[newExc,newTuple]
 refine wpAny_bind (wpAny_newObj_type ?_ (by size_fits))
 refine wpAny_bind (m:=firstArgMember _ _) (wpAny_of_eq (a:=d7) (by first|rfl|(simp only[firstArgMember];rfl)) ?_)
 refine wpAny_newObj_type ?_ (by size_fits)
 simp only[raiseNew]
 refine wpAny_bind (wpAny_handled ?_)
 rw[show A.in1.handled=none from hh]
 refine wpAny_bind (wpAny_pure (wpAny_throw ?_))
 refine wpAny_bind (wpAny_isInstance (T:="StopIteration") (b:=true) ⟨_,dG _ rfl,rfl⟩ isSubtype_stop ?_)
 exact wpAny_pure (h _ λb o hb e=>bH _ (bH _ (by rw[b1.2 b hb];exact e)))
end
end Bs
namespace Bs
open PySem
set_option maxRecDepth 100000
def i3(ps:List Nat):Obj:={cls:=.type "tuple",data:=.seq (ps.map λ(i:Nat)=>rawInt i).toArray}
section
variable{prog:Program}{w:World}{A:Around}{E:Value->Shared->Prop}{s:Shared}
theorem Xb{a:Addr}{o:Obj}{es:Array (Int×Value)}{ep:Nat}{t:SetTable}{Q:Value->Shared->Prop}
  (ho:s.heap.get? a=some o) (hc:o.cls=.type "set") (hd:o.data=.set es ep t) (hf:t.fits es.size=true) (hn:qF w es t=true) (hz:es.size<=sizeLine)
  (h:∀ps d',ps.Perm (cW es.size)->Q (.ref (s.heap.objs.size+1))
   {s with heap:=(s.heap.push (i3 ps)).push (gy (.ref s.heap.objs.size) 0 (.ref a) es.size ep),drawn:=d'}):wpAny (model prog w) A (pyIter (.ref a)) Q E s:=by
 have ty:s.TypeIs (.ref a) "set":=⟨o,ho,hc⟩
 refine wpAny_pyIter_slot ty F.slot_set_iter (wpAny_call_entry F.slot_set_iter ty LU ?_ (F.args_set_iter_1 _))
 unfold Builtin.«frozenset.__iter__»
 refine wpAny_bind (m:=agM "__iter__" _) (wpAny_pure ?_)
 refine wpAny_bind (m:=agL a) (wpAny_bind (wpAny_setEntries_of ho hd hf (wpAny_pure ?_)))
 refine wpAny_bind (LW ho hd hf ?_)
 rw[hn,if_pos rfl]
 refine wpAny_bind (LV es.size (cW es.size) _ _ (by simp) λps d' hp=>?_)
 have hlen:ps.length=es.size:=by rw[hp.length_eq,GJ]
 refine wpAny_bind (wpAny_newTuple ?_ (by rw[aA];omega))
 have ip:(s.heap.push (i3 ps)).get? a=some o:=bH _ ho
 refine wpAny_bind (m:=setEpoch a) (wpAny_bind (wpAny_setState_of (s:={s with heap:=s.heap.push (i3 ps),drawn:=d'}) ip hd hf (wpAny_pure ?_)))
 refine wpAny_bind (m:=newFields "set_iterator" _) ?_
 unfold newFields
 refine wpAny_newObj_type ?_
 refine wpAny_pure ⟨_,rfl,"set_iterator",_,⟨_,dG _ rfl,rfl⟩,k4.lookup,?_⟩
 have:=h ps d' hp
 rw[<-fD s.heap (i3 ps)]at this
 exact this
theorem Xc{I a T:Addr}{o:Obj}{es:Array (Int×Value)}{ep:Nat}{t:SetTable}{i p:Nat}{ps:List Nat}{e:Int×Value}{Q:Option Value->Shared->Prop}
  (hi:s.heap.get? I=some (gy (.ref T) i (.ref a) es.size ep)) (hT:s.heap.get? T=some (i3 ps)) (ho:s.heap.get? a=some o) (hd:o.data=.set es ep t) (hf:t.fits es.size=true)
  (hp:ps[i]? =some p) (he:es[p]? =some e)
  (h:∀h',h'.get? I=some (gy (.ref T) (i+1) (.ref a) es.size ep)->ox I s.heap h'->Q (some e.2) {s with heap:=h'}):
  wpAny (model prog w) A (pyNext (.ref I)) Q E s:=by
 have ty:s.TypeIs (.ref I) "set_iterator":=⟨_,hi,rfl⟩
 unfold pyNext
 refine wpAny_bind (wpAny_attempt (wpAny_callSpecial?_slot (name:=w9 "__next__") ty k4 (wpAny_call_entry k4 ty y4 ?_ (y6 _))))
 unfold Builtin.«set_iterator.__next__»
 refine wpAny_bind (m:=slotArgs "__next__" 0 _) (wpAny_pure ?_)
 refine wpAny_bind (wpAny_fieldsOf hi rfl ?_)
 refine wpAny_bind (wpAny_setEntries_of ho hd hf ?_)
 show wpAny _ _ (if((es.size:Int) != (es.size:Int))=true then _ else _) _ _ _
 rw[if_neg (by simp)]
 refine wpAny_bind (m:=seqItems? (.ref T)) (wpAny_seqItems hT rfl ?_)
 have hg:((ps.map λ(i:Nat)=>rawInt i).toArray)[((i:Nat):Int).toNat]? =some (rawInt p):=by
  rw[Ah,ahl,ck,hp]
  rfl
 dsimp only
 rw[hg]
 refine wpAny_bind (m:=setNextDrawn a _ _) ?_
 unfold setNextDrawn
 refine wpAny_bind (wpAny_setState_of ho hd hf ?_)
 show wpAny _ _ (if(ep != ((ep:Nat):Int).toNat)=true then _ else _) _ _ _
 rw[if_neg (by simp)]
 rw[Ah,he]
 refine wpAny_pure ?_
 refine wpAny_bind (m:=setField (.ref I) 1 _) (wpAny_setField_rec hi (by simp) λh1 e1 b1=>?_)
 refine wpAny_pure ⟨_,rfl,wpAny_pure (h h1 ?_ b1)⟩
 exact e1
theorem Xd{I a T:Addr}{o:Obj}{es:Array (Int×Value)}{ep:Nat}{t:SetTable}{i:Nat}{ps:List Nat}{Q:Option Value->Shared->Prop}(hh:A.handled=none)
  (hi:s.heap.get? I=some (gy (.ref T) i (.ref a) es.size ep)) (hT:s.heap.get? T=some (i3 ps)) (ho:s.heap.get? a=some o) (hd:o.data=.set es ep t) (hf:t.fits es.size=true)
  (hp:ps[i]? =none)
  (h:∀h',(∀b o,b≠I->s.heap.get? b=some o->h'.get? b=some o)->Q none {s with heap:=h'}):
  wpAny (model prog w) A (pyNext (.ref I)) Q E s:=by
 have ty:s.TypeIs (.ref I) "set_iterator":=⟨_,hi,rfl⟩
 unfold pyNext
 refine wpAny_bind (wpAny_attempt (wpAny_callSpecial?_slot (name:=w9 "__next__") ty k4 (wpAny_call_entry k4 ty y4 ?_ (y6 _))))
 unfold Builtin.«set_iterator.__next__»
 refine wpAny_bind (m:=slotArgs "__next__" 0 _) (wpAny_pure ?_)
 refine wpAny_bind (wpAny_fieldsOf hi rfl ?_)
 refine wpAny_bind (wpAny_setEntries_of ho hd hf ?_)
 show wpAny _ _ (if((es.size:Int) != (es.size:Int))=true then _ else _) _ _ _
 rw[if_neg (by simp)]
 refine wpAny_bind (m:=seqItems? (.ref T)) (wpAny_seqItems hT rfl ?_)
 have hg:((ps.map λ(i:Nat)=>rawInt i).toArray)[((i:Nat):Int).toNat]? =none:=by
  rw[Ah,ahl,ck,hp]
  rfl
 dsimp only
 rw[hg]
 refine wpAny_bind (m:=setField (.ref I) 0 _) (wpAny_setField_rec hi (by simp) λh0 e0 b0=>?_)
 refine wpAny_bind (m:=setField (.ref I) 2 .none) (wpAny_setField_rec (s:={s with heap:=h0}) e0 (by simp) λh1 e1 b1=>?_)
 refine wpAny_bind ?_
 simp only[newExc,newTuple]
 refine wpAny_bind (wpAny_newObj_type ?_ (by size_fits))
 refine wpAny_bind (m:=firstArgMember _ _) (wpAny_of_eq (a:=d7) (by first|rfl|(simp only[firstArgMember];rfl)) ?_)
 refine wpAny_newObj_type ?_ (by size_fits)
 simp only[raiseNew]
 refine wpAny_bind (wpAny_handled ?_)
 rw[show A.in1.handled=none from hh]
 refine wpAny_bind (wpAny_pure (wpAny_throw ?_))
 refine wpAny_bind (wpAny_isInstance (T:="StopIteration") (b:=true) ⟨_,dG _ rfl,rfl⟩ isSubtype_stop ?_)
 exact wpAny_pure (h _ λb o hb e=>bH _ (bH _ (by rw[b1.2 b hb];exact(b0.2 b hb).trans e)))
end
end Bs
namespace Bs
open PySem
set_option maxRecDepth 100000
section
variable{prog:Program}{w:World}{A:Around}{E:Value->Shared->Prop}{s:Shared}
theorem Xe{I:Addr}{o:Obj}{Q:Value->Shared->Prop}(hi:s.heap.get? I=some o)(hc:o.cls=.type "set_iterator")(h:Q (.ref I) s):wpAny (model prog w) A (pyIter (.ref I)) Q E s:=by
 have ty:s.TypeIs (.ref I) "set_iterator":=⟨o,hi,hc⟩
 refine wpAny_pyIter_slot ty LS (wpAny_call_entry LS ty W6 ?_ (W7 _))
 exact wpAny_pure ⟨_,rfl,"set_iterator",_,ty,k4.lookup,h⟩
def sW(I:Addr)(ob:Nat->Obj)(rest:List (Addr×Obj))(i:Nat)(s:Shared):Prop:=s.heap.get? I=some (ob i)/\∀p∈rest,s.heap.get? p.1=some p.2
theorem Ef{I:Addr}{ob:Nat->Obj}{rest:List (Addr×Obj)}{vs:List Value}(a8:∀p∈rest,p.1≠I)(hc:∀i,(ob i).cls=.type "set_iterator")
  (item:∀i (s:Shared) (Q:Option Value->Shared->Prop) (E:Value->Shared->Prop) (hl:i<vs.length),sW I ob rest i s->
   (∀h',h'.get? I=some (ob (i+1))->ox I s.heap h'->Q (some vs[i]) {s with heap:=h'})->wpAny (model prog w) A (pyNext (.ref I)) Q E s)
  (done:∀(s:Shared)(Q:Option Value->Shared->Prop)(E:Value->Shared->Prop),sW I ob rest vs.length s->
   (∀h',(∀b o,b≠I->s.heap.get? b=some o->h'.get? b=some o)->Q none {s with heap:=h'})->wpAny (model prog w) A (pyNext (.ref I)) Q E s):
  WalksS prog w A I (I::rest.map (·.1)) [I] (λx y=>y=x) vs.length (λi v=>vs[i]? =some v) (sW I ob rest) where
 sub:=λb hb=>by
  rw[cY.mp hb]
  exact bY
 grefl:=λ_=>rfl
 gtrans:=λ_ _ _ h1 h2=>h2.trans h1
 frame:=λi s h' tk st _ hk=>⟨hk I bY _ st.1,λp hp=>hk p.1 (bR _ (GC hp)) _ (st.2 p hp)⟩
 item:=λi s Q E hl st hQ=>by
  refine item i s Q E hl st λh' e b=>hQ _ _ (bX hl) ⟨e,λp hp=>?_⟩ ⟨λc o hc e=>?_,rfl,rfl,rfl,aT _⟩
  ·exact(b.2 p.1 (a8 p hp)).trans (st.2 p hp)
  ·exact(b.2 c λz=>hc (cY.mpr z)).trans e
 done:=λs Q E st hQ=>done s Q E st λh' k=>hQ _ ⟨λc o hc e=>k c o (λz=>hc (cY.mpr z)) e,rfl,rfl,rfl,aT _⟩
 self:=λi s Q E st hQ=>Xe st.1 (hc i) hQ
def slotAt(t:SetTable):Nat->Nat
 |0=>0
 |i+1=>t.place.getD i 0+1
theorem L1{t:SetTable}(R:eR t.place):∀{i:Nat},i<=t.place.size->lR t.place (slotAt t i)=i
 |0,_=>WH R
 |_+1,h=>WG R h
theorem Xf{t:SetTable}{n:Nat}(h:t.fits n=true):t.place.size=n:=by
 unfold SetTable.fits at h
 rw[iM]at h
 exact eq_of_beq h.1
theorem Xg{I a:Addr}{o:Obj}{es:Array (Int×Value)}{ep:Nat}{t:SetTable}(hh:A.handled=none)(a8:a≠I)(hd:o.data=.set es ep t)(hf:t.fits es.size=true)
  (hb:w.params.followText "set-order"=false) (hn:qF w es t=false) (T:eS true t):
  WalksS prog w A I (I::[a]) [I] (λx y=>y=x) (es.toList.map (·.2)).length (λi v=>(es.toList.map (·.2))[i]? =some v)
   (sW I (λi=>gy (rawInt (slotAt t i)) i (.ref a) es.size ep) [(a,o)]):=by
 have hsz:=Xf hf
 refine Ef (rest:=[(a,o)]) (λp hp=>by rw[cY.mp hp];exact a8) (λ_=>rfl) ?_ ?_
 ·intro i s Q E hl st hQ
  have jZ:i<es.size:=by simpa using hl
  have ho:=st.2 (a,o) (cY.mpr rfl)
  refine LZ (x:=es[i].2) (nx:=slotAt t (i+1)) st.1 ho hd hf (λQ' A' E' q=>?_) λh' e b=>?_
  ·refine LX ho hd hf hb hn T.1 ?_
   rw[L1 T.2 (by omega),rq jZ,rq (by omega:i<t.place.size)]
   have:slotAt t (i+1)=t.place[i]+1:=by
    show t.place.getD i 0+1=_
    rw[Array.getD_eq_getD_getElem?,rq (by omega:i<t.place.size),P5]
   rw[this]at q
   exact q
  ·have:=hQ h' e b
   simpa using this
 ·intro s Q E st hQ
  have ho:=st.2 (a,o) (cY.mpr rfl)
  have hlen:(es.toList.map (·.2)).length=es.size:=by simp
  have Xh:=st.1
  refine L0 hh Xh ho hd hf (λQ' A' E' q=>?_) hQ
  refine LX ho hd hf hb hn T.1 ?_
  rw[L1 T.2 (by omega),hlen,Gs (aT _)]
  exact q
theorem Xi{I a:Addr}{o:Obj}{es:Array (Int×Value)}{ep:Nat}{t:SetTable}(hh:A.handled=none)(a8:a≠I)(hd:o.data=.set es ep t)(hf:t.fits es.size=true)
  (hb:w.params.followText "set-order"=true):
  WalksS prog w A I (I::[a]) [I] (λx y=>y=x) ((pickOrder (w.params.setOrder a ep) es).toList.map (·.2)).length (λi v=>((pickOrder (w.params.setOrder a ep) es).toList.map (·.2))[i]? =some v)
   (sW I (λi=>gy (rawInt (0:Nat)) i (.ref a) es.size ep) [(a,o)]):=by
 refine Ef (rest:=[(a,o)]) (λp hp=>by rw[cY.mp hp];exact a8) (λ_=>rfl) ?_ ?_
 ·intro i s Q E hl st hQ
  have jZ:i<(pickOrder (w.params.setOrder a ep) es).size:=by simpa using hl
  have ho:=st.2 (a,o) (cY.mpr rfl)
  refine LZ (x:=((pickOrder (w.params.setOrder a ep) es)[i]).2) (nx:=0) st.1 ho hd hf (λQ' A' E' q=>?_) λh' e b=>?_
  ·refine LY ho hd hf hb ?_
   rw[rq jZ]
   exact q
  ·have:=hQ h' e b
   simpa using this
 ·intro s Q E st hQ
  have ho:=st.2 (a,o) (cY.mpr rfl)
  refine L0 hh st.1 ho hd hf (λQ' A' E' q=>?_) hQ
  refine LY ho hd hf hb ?_
  rw[Gs (by simp)]
  exact q
theorem Xj{I a T:Addr}{o:Obj}{es:Array (Int×Value)}{ep:Nat}{t:SetTable}{ps:List Nat}(hh:A.handled=none)(a8:a≠I)(Xk:T≠I)(hd:o.data=.set es ep t)(hf:t.fits es.size=true)
  (hp:ps.Perm (cW es.size)):
  WalksS prog w A I (I::[a,T]) [I] (λx y=>y=x) (ps.map λp=>(es.getD p (0,.none)).2).length (λi v=>(ps.map λp=>(es.getD p (0,.none)).2)[i]? =some v)
   (sW I (λi=>gy (.ref T) i (.ref a) es.size ep) [(a,o),(T,i3 ps)]):=by
 refine Ef (rest:=[(a,o),(T,i3 ps)]) (λp hp=>?_) (λ_=>rfl) ?_ ?_
 ·rcases bz.mp hp with rfl|hp
  ·exact a8
  ·rw[cY.mp hp]
   exact Xk
 ·intro i s Q E hl st hQ
  have jZ:i<ps.length:=by simpa using hl
  have ho:=st.2 (a,o) bY
  have hT:=st.2 (T,i3 ps) (bR _ bY)
  have hm:ps[i]<es.size:=gQ.mp (hp.mem_iff.mp (Ai jZ))
  refine Xc (p:=ps[i]) (e:=es[ps[i]]) st.1 hT ho hd hf (bX jZ) (rq hm) λh' e b=>?_
  have:=hQ h' e b
  simpa[pX,hm]using this
 ·intro s Q E st hQ
  have ho:=st.2 (a,o) bY
  have hT:=st.2 (T,i3 ps) (bR _ bY)
  exact Xd hh st.1 hT ho hd hf (PH (by simp)) hQ
end
end Bs
namespace Bs
open PySem
open PyProof.Rows (IntsAre)
set_option maxRecDepth 100000
section
variable{prog:Program}{w:World}{A:Around}{E:Value->Shared->Prop}{s:Shared}
theorem ints_of{l:List Value}(h:∀v∈l,∃k,Hm k v=true):∃ns,IntsAre l ns/\∀k,k∈ns↔∃v∈l,Hm k v=true:=by
 induction l with
 |nil=>exact⟨[],.nil,λk=>by simp⟩
 |cons v l ih=>
  obtain⟨ns,h1,h2⟩:=ih λu hu=>h u (bR _ hu)
  obtain⟨k,hk⟩:=h v bY
  obtain⟨t,rfl⟩:=ahz hk
  refine⟨k::ns,.cons k t h1,λj=>?_⟩
  rw[bz,h2 j]
  constructor
  ·rintro (rfl|⟨u,hu,q⟩)
   ·exact⟨_,bY,hk⟩
   ·exact⟨u,bR _ hu,q⟩
  ·rintro ⟨u,hu,q⟩
   rcases bz.mp hu with rfl|hu
   ·exact .inl (Value.isInt_inj _ _ _ q hk)
   ·exact .inr ⟨u,hu,q⟩
def Eg(S:Int->Bool)(n:Nat)(vs:List Value):Prop:=∃ns:List Int,IntsAre vs ns/\vs.length=n/\∀k,S k=true↔k∈ns
theorem Eh{es:List (Int×Value)}{S:Int->Bool}{n:Nat}{vs:List Value}(m1:ElemsOf (intKind prog w) es)(m2:∀k,S k=true↔∃e∈es,(intKind prog w).is k e.2=true)
  (hn:es.length=n) (hp:vs.Perm (es.map (·.2))):Eg S n vs:=by
 obtain⟨ns,h1,h2⟩:=ints_of (l:=vs) λv hv=>by
  obtain⟨e,he,rfl⟩:=cJ.mp (hp.mem_iff.mp hv)
  obtain⟨⟨k,hk,_⟩,_⟩:=m1 e he
  exact⟨k,hk⟩
 refine⟨ns,h1,by rw[hp.length_eq,aA,hn],λk=>?_⟩
 rw[m2 k,h2 k]
 constructor
 ·rintro ⟨e,he,q⟩
  exact⟨e.2,hp.mem_iff.mpr (GC he),q⟩
 ·rintro ⟨v,hv,q⟩
  obtain⟨e,he,rfl⟩:=cJ.mp (hp.mem_iff.mp hv)
  exact⟨e,he,q⟩
def vn(s s':Shared):Prop:=(∀b o,s.heap.get? b=some o->s'.heap.get? b=some o)/\s'.gens=s.gens/\s'.os=s.os/\s.toks<=s'.toks/\s.heap.objs.size<=s'.heap.objs.size
theorem Xl{a:Addr}{S:Int->Bool}{n:Nat}{Q:Value->Shared->Prop}(W:dS prog w (eZ w) s.heap a S n)
  (h:∀(I:Addr)(fp:List Addr)(vs:List Value)(St:Nat->Shared->Prop)(s':Shared),s.heap.objs.size<=I->(∀b∈fp,b=a\/s.heap.objs.size<=b)->I∈fp->(∀b∈fp,b<s'.heap.objs.size)->
   (∀A':Around,A'.handled=none->WalksS prog w A' I fp [I] (λx y=>y=x) vs.length (λi v=>vs[i]? =some v) St)->St 0 s'->vn s s'->Eg S n vs->Q (.ref I) s'):
  wpAny (model prog w) A (pyIter (.ref a)) Q E s:=by
 obtain⟨o,es,ep,t,⟨ho,hx,hd⟩,⟨m1,m2⟩,⟨z,hf,hn⟩,T⟩:=W
 have lt:a<s.heap.objs.size:=bO ho
 have gS:es.toList.length=n:=by rw[fg,hn]
 have ne:a≠s.heap.objs.size:=cV lt
 cases hD:qF w es t with
 |true=>
  refine Xb ho hx.1 hd hf hD (fits_of_scanBound z) λps d' hp=>?_
  have e2:((s.heap.push (i3 ps)).push (gy (.ref s.heap.objs.size) 0 (.ref a) es.size ep)).objs.size=s.heap.objs.size+2:=by
   rw[fD,fD]
  refine h (s.heap.objs.size+1) _ _ _ _ (mS _) (λb hb=>?_) bY ?_ (λA' hh=>Xj (o:=o) (T:=s.heap.objs.size) hh (cV (jM lt)) (cV (pP _)) hd hf hp) ⟨?_,?_⟩ ?_ ?_
  ·rcases bz.mp hb with rfl|hb
   ·exact .inr (mS _)
   ·rcases bz.mp hb with rfl|hb
    ·exact .inl rfl
    ·exact .inr (As (cY.mp hb).symm)
  ·intro b hb
   show b<((s.heap.push (i3 ps)).push (gy (.ref s.heap.objs.size) 0 (.ref a) es.size ep)).objs.size
   rw[e2]
   rcases bz.mp hb with rfl|hb
   ·exact pP _
   ·rcases bz.mp hb with rfl|hb
    ·exact jM (jM lt)
    ·rw[cY.mp hb]
     exact jM (pP _)
  ·show((s.heap.push (i3 ps)).push _).get? (s.heap.objs.size+1)=_
   rw[<-fD s.heap (i3 ps)]
   exact dG _ rfl
  ·intro p ij
   rcases bz.mp ij with rfl|ij
   ·exact bH _ (bH _ ho)
   ·rw[cY.mp ij]
    exact bH _ (dG _ rfl)
  ·exact⟨λb o e=>bH _ (bH _ e),rfl,rfl,aT _,by rw[e2];exact Nat.le_add_right _ _⟩
  ·refine Eh m1 m2 gS ?_
   refine(hp.map _).trans ?_
   have:(cW es.size).map (λp=>(es.getD p (0,.none)).2)=es.toList.map (·.2):=by
    apply List.ext_getElem
    ·simp
    ·intro i h1 h2
     have hi:i<es.size:=by simpa using h1
     simp[pX,hi]
   rw[this]
 |false=>
  refine Xa ho hx.1 hd hf hD ?_
  have e1:(s.heap.push (gy (rawInt 0) 0 (.ref a) es.size ep)).objs.size=s.heap.objs.size+1:=fD _ _
  have L3:∀b∈s.heap.objs.size::[a],b<(s.heap.push (gy (rawInt 0) 0 (.ref a) es.size ep)).objs.size:=by
   intro b hb
   rw[e1]
   rcases bz.mp hb with rfl|hb
   ·exact pP _
   ·rw[cY.mp hb]
    exact jM lt
  have gr:vn s {s with heap:=s.heap.push (gy (rawInt 0) 0 (.ref a) es.size ep)}:=
   ⟨λb o e=>bH _ e,rfl,rfl,aT _,by rw[e1];exact mS _⟩
  have keep:∀p∈[(a,o)],(s.heap.push (gy (rawInt 0) 0 (.ref a) es.size ep)).get? p.1=some p.2:=λp hp=>by
   rw[cY.mp hp]
   exact bH _ ho
  have off:∀b∈s.heap.objs.size::[a],b=a\/s.heap.objs.size<=b:=by
   intro b hb
   rcases bz.mp hb with rfl|hb
   ·exact .inr (aT _)
   ·exact .inl (cY.mp hb)
  cases hb:w.params.followText "set-order" with
  |true=>
   refine h _ _ _ _ _ (aT _) off bY L3 (λA' hh=>Xi (o:=o) hh ne hd hf hb) ⟨dG _ rfl,keep⟩ gr (Eh m1 m2 gS ?_)
   exact(WL _ es).map _
  |false=>
   have T':eS true t:=by
    unfold eZ at T
    rw[hb]at T
    exact T
   exact h _ _ _ _ _ (aT _) off bY L3 (λA' hh=>Xg (o:=o) hh ne hd hf hb hD T') ⟨dG _ rfl,keep⟩ gr (Eh m1 m2 gS (ahw _))
end
end Bs
namespace Bs
open PySem
open PyProof.Rows (IntsAre)
set_option maxRecDepth 100000
section
variable{prog:Program}{w:World}{A:Around}{E:Value->Shared->Prop}{s:Shared}
theorem Xm{a:Addr}{Q:Bool->Shared->Prop}(ty:s.TypeIs (.ref a) "set")(h:Q false s):wpAny (model prog w) A (agN (.ref a)) Q E s:=by
 unfold agN
 refine wpAny_bind (wpAny_specialOf ty W8 ?_)
 (generalize Ei:("set.__len__":String)=L4;(fail_if_success (clear Ei L4));wp_delta;rw[show splitId L4=some ("set","__len__")from by subst Ei;decide+kernel];subst Ei)
 refine wpAny_bind (wpAny_isInstance (b:=true) ty sub_set_self ?_)
 refine wpAny_bind (wpAny_typeOf ty ?_)
 exact wpAny_pure h
def me:Obj:={cls:=.type "list",data:=.seq ([]:List Value).toArray}
theorem vn.push{s s':Shared}(g:vn s s')(o:Obj):vn s {s' with heap:=s'.heap.push o}:=
 ⟨λb o e=>bH _ (g.1 b o e),g.2.1,g.2.2.1,g.2.2.2.1,cp g.2.2.2.2 (by rw[fD];exact mS _)⟩
theorem Xn{a:Addr}{S:Int->Bool}{n:Nat}{Q:List Value->Shared->Prop}(hh:A.handled=none)(W:dS prog w (eZ w) s.heap a S n)(hn:n<=sizeLine)
  (h:∀vs s',Eg S n vs->(∀b o,s.heap.get? b=some o->s'.heap.get? b=some o)->s'.gens=s.gens->s'.os=s.os->s.heap.objs.size<s'.heap.objs.size->Q vs s'):wpAny (model prog w) A (collect (.ref a)) Q E s:=by
 obtain⟨o,_,_,_,⟨ho,hx,_⟩,_⟩:=id W
 have lt:a<s.heap.objs.size:=bO ho
 unfold collect
 refine wpAny_bind (wpAny_runValue (codeAny_builtin F.entry_proto_collect ?_))
 rw[Aa F.plain_proto_collect _]
 refine wpAny_bind (m:=newList []) (wpAny_newObj_type ?_)
 refine wpAny_pure ⟨plainId_quiet F.plain_list_iadd _,codeAny_builtin F.entry_list_iadd ?_⟩
 rw[Aa F.plain_list_iadd _]
 have ty:Shared.TypeIs {s with heap:=s.heap.push me} (.ref a) "set":=⟨o,bH _ ho,hx.1⟩
 have D0:(s.heap.push me).get? s.heap.objs.size=some me:=dG _ rfl
 show wpAny _ A.in1 (agO (.ref s.heap.objs.size) (.ref a) (.ref s.heap.objs.size)) _ _ {s with heap:=s.heap.push me}
 unfold agO
 refine wpAny_bind (wpAny_typeOf ty ?_)
 have a8:agR (.ref s.heap.objs.size) (.ref a)=false:=by
  have:s.heap.objs.size≠a:=pV lt
  simp[agR,this]
 rw[if_neg (by rw[a8];decide)]
 have W1:dS prog w (eZ w) (s.heap.push me) a S n:=W.moved λo e=>bH _ e
 refine wpAny_bind (Xl (s:={s with heap:=s.heap.push me}) W1 ?_)
 intro I fp vs St s1 L5 hI hIf qu hW d_ g1 it
 have sz:(s.heap.push me).objs.size=s.heap.objs.size+1:=fD _ _
 refine wpAny_bind (wpAny_holding (Xm (g1.1 _ _ |> λk=>⟨o,k (bH _ ho),hx.1⟩) ?_))
 rw[if_pos (by decide)]
 refine wpAny_bind (wpAny_rule ?_)
 refine wpAny_bind ?_
 have D1:s1.heap.get? s.heap.objs.size=some me:=g1.1 _ _ D0
 show wpAny _ A.in1 (updateSeq s.heap.objs.size (·.push .none) >>= λ_=>updateSeq s.heap.objs.size (·.pop)) _ _ _
 refine wpAny_bind (wpAny_updateSeq D1 rfl ?_)
 have D2:=rB (oB (·.push d7)) D1 rfl
 refine wpAny_updateSeq D2 rfl ?_
 have D3:=rB (oB (·.pop)) D2 rfl
 have qB:∀b o,b≠s.heap.objs.size->s1.heap.get? b=some o->((s1.heap.update s.heap.objs.size (oB (·.push d7))).update s.heap.objs.size (oB (·.pop))).get? b=some o:=by
  intro b o hb e
  rw[lK _ _ (Ne.symm hb),lK _ _ (Ne.symm hb)]
  exact e
 have L6:s.heap.objs.size∉fp:=by
  intro z
  rcases hI _ z with e|e
  ·exact pV lt e
  ·rw[show(({s with heap:=s.heap.push me}:Shared).heap.objs.size)=s.heap.objs.size+1 from sz]at e
   exact iP _ e
 have hlen:vs.length=n:=by
  obtain⟨_,_,e,_⟩:=it
  exact e
 have L7:=hW A.in1 hh
 refine wpAny_pure ⟨plainId_quiet F.plain_extend_loop _,codeAny_extend_loopS L7 (by omega) _ L6 _ vs.length 0 _ _ _ rfl (cw _)
  (L7.frame 0 s1 _ s1.toks d_ (aT _) λb hb o e=>qB b o (λz=>L6 (z▸hb)) e) D3 (ItemsOf.nil _) λs' acc c' mv e' ia=>?_⟩
 refine wpAny_bind (wpAny_load e' (wpAny_pure ?_))
 have Xo:acc.toList=vs:=by
  apply wQ
  intro i
  rw[Gx]
  rcases Nat.lt_or_ge i vs.length with hi|hi
  ·have rW:i<acc.size:=by rw[ia.1];exact hi
   rw[rq rW]
   exact(ia.2 i _ (rq rW)).symm
  ·rw[PH hi,Gs (by rw[ia.1];exact hi)]
 rw[Xo]
 refine h vs s' it (λb o e=>?_) (mv.gens.trans g1.2.1) (mv.os.trans g1.2.2.1) (bO e')
 have hb:b<s.heap.objs.size:=bO e
 refine mv.heap b o (λz=>?_) (qB b o (cV hb) (g1.1 b o (bH _ e)))
 rcases bz.mp z with z|z
 ·exact cV hb z
 ·rw[show(({s with heap:=s.heap.push me}:Shared).heap.objs.size)=s.heap.objs.size+1 from sz]at L5
  rw[cY.mp z]at hb
  exact iP _ (eM (jM hb) L5)
theorem Xp{a:Addr}{S:Int->Bool}{n:Nat}{Q:Value->Shared->Prop}(hh:A.handled=none)(W:dS prog w (eZ w) s.heap a S n)(hn:n<64)
  (h:∀(p:Addr)(ns:List Int)(out:List Value)(e:Nat)(s':Shared),s.heap.objs.size<=p->IntsAre out ns->ns.Pairwise (· <= ·)->ns.length=n->(∀k,S k=true↔k∈ns)->
   s'.heap.get? p=some (z_ "list" out.toArray e)->(∀b o,s.heap.get? b=some o->s'.heap.get? b=some o)->s'.gens=s.gens->s'.os=s.os->Q (.ref p) s'):
  wpAny (model prog w) A (call (.builtin "sorted") [.ref a]) Q E s:=by
 refine Calls.call_function_entry PyProof.Rows.kind_sorted PyProof.Rows.plain_sorted PyProof.Rows.entry_sorted (PyProof.Rows.args_sorted1 _) ?_
 unfold Builtin.«sorted»
 refine wpAny_bind (m:=checkCount "sorted" 1 1 _) (wpAny_pure ?_)
 refine wpAny_bind (Xn (by first|exact hh|simp[hh]) W (by rw[sizeLine_eq];omega) λvs s1 it old eg eo lt=>?_)
 obtain⟨ns,hI,hlen,hm⟩:=it
 refine wpAny_bind (wpAny_newList ?_ (by rw[sizeLine_eq];omega))
 have vm:(s1.heap.push (z_ "list" vs.toArray 0)).get? s1.heap.objs.size=some (z_ "list" vs.toArray 0):=dG _ rfl
 show wpAny _ _ _ _ _ {s1 with heap:=s1.heap.push (z_ "list" vs.toArray 0)}
 refine wpAny_bind (wpAny_holding (wpAny_call_entry PyProof.Rows.slot_list_sort ⟨_,vm,rfl⟩ PyProof.Rows.entry_list_sort
  (PyProof.Rows.list_sort_tree vm hI (by omega) λout yN a1 a2 a3=>⟨_,rfl,?_⟩) (PyProof.Rows.args_list_sort _)))
 obtain⟨e,he⟩:=PyProof.Rows.sortedHeap_at (out:=out) vm
 refine wpAny_pure ⟨_,rfl,h _ yN out.toList e _ (uk lt) a1 a3 ?_ (λk=>(hm k).trans a2.mem_iff.symm) he (λb o eb=>?_) eg eo⟩
 ·rw[a2.length_eq,<-hI.length,hlen]
 ·have hb:b<s1.heap.objs.size:=bO (old b o eb)
  have eY:b<(s1.heap.push (z_ "list" vs.toArray 0)).objs.size:=by
   rw[fD]
   exact jM hb
  refine(PyProof.Rows.sortedHeap_old (cV hb) eY).trans ?_
  exact bH _ (old b o eb)
end
end Bs
namespace L2
open PySem
open Bs (dS Met eZ)
open PyProof.Rows (firstMet)
set_option maxRecDepth 100000
def i4(P:Program)(w:World)(a:Addr)(S:Int->Bool)(n:Nat):HO:=.ext λh=>dS P w (eZ w) h a S n
theorem Xq{P:Program}{w:World}{H:Hp}{h:Heap}{a:Addr}{S:Int->Bool}{n:Nat}(W:dS P w (eZ w) h a S n):b_ P w H h a (i4 P w a S n):=by
 obtain⟨o,_,_,_,⟨ho,_⟩,_⟩:=id W
 exact⟨W,⟨o,ho⟩,λh1 h2 w1 k=>w1.moved k⟩
section
variable{X:Cx}
def Xr(X:Cx):List V->Hp->VK->Prop:=λvs H Q=>∃(l:Addr)(ns:List Int),vs=[V.ref l]/\ah X.K H l (ns.map V.int)/\ns.length<1000/\
 ∀(S:Int->Bool)(n:Nat)(a:Addr),(∀k,S k=true↔k∈ns)->n<=ns.length->(∃ds:List Int,ds.Nodup/\ds.length=n/\∀k,k∈ds↔k∈ns)->H a=none->Q (.ref a) (upd H a (i4 X.prog X.w a S n))
theorem L8(ns:List Int)(k:Int):Met (λi=>ns.getD i 0) ns.length k=true↔k∈ns:=by
 unfold Met
 rw[PyProof.Rows.firstMet_any]
 rw[GV]
 constructor
 ·rintro ⟨x,hx,e⟩
  obtain⟨i,hi,rfl⟩:=cJ.mp hx
  have hl:=gQ.mp hi
  rw[<-eq_of_beq e]
  rw[ag9,bX hl,P5]
  exact Ai hl
 ·intro hk
  obtain⟨i,hi,rfl⟩:=wK hk
  refine⟨ns[i],cJ.mpr ⟨i,gQ.mpr hi,?_⟩,by simp⟩
  rw[ag9,bX hi,P5]
theorem L9(val:Nat->Int):∀i,(firstMet val i).Nodup
 |0=>Qo
 |i+1=>by
  rw[PyProof.Rows.firstMet_succ]
  unfold PyProof.Rows.step_dedup
  have ih:=L9 val i
  split
  ·exact ih
  ·rename_i h
   rw[P8]
   refine⟨ih,by simp,λa ha b hb z=>h ?_⟩
   rw[cY.mp hb]at z
   rw[GV]
   exact⟨a,ha,by rw[z];exact beq_self_eq_true _⟩
theorem Xs(ns:List Int):∃ds:List Int,ds.Nodup/\ds.length=(firstMet (λi=>ns.getD i 0) ns.length).length/\∀k,k∈ds↔k∈ns:=by
 refine⟨_,L9 _ _,rfl,λk=>?_⟩
 have h:=L8 ns k
 unfold Met at h
 rw[<-h,GV]
 constructor
 ·intro q
  exact⟨k,q,beq_self_eq_true _⟩
 ·rintro ⟨x,hx,e⟩
  rw[<-eq_of_beq e]
  exact hx
theorem Ej(hc:X.calm=true):gT X (.type "set") (Xr X):=by
 intro pins s σ H vs us Q I r h
 obtain⟨l,ns,rfl,hs,aV,q⟩:=h
 obtain⟨ak,rv,hl,_⟩:=I.list hs
 rw[Vals.qr r]
 have hi:=rv.ints
 have hsz:ak.length=ns.length:=hi.length
 refine Bs.WY (I.ok.hd hc) hl.isList hi (by show ak.toArray.size+1<scanBound;rw[cI,hsz];unfold scanBound;omega) λh' tk W old=>?_
 have fr:H s.heap.objs.size=none:=I.az.fresh (aT _)
 refine⟨.ref _,upd H s.heap.objs.size (i4 X.prog X.w s.heap.objs.size _ _),I.laid (t':=tk) (λb u e=>old b u (bO e) e) (aT _) (Xq W),rfl,q _ _ _ (λk=>?_) ?_ ?_ fr⟩
 ·rw[cI,hsz]
  exact L8 ns k
 ·have:=PyProof.Rows.firstMet_length_le (λi=>ns.getD i 0) ak.toArray.size
  rw[cI,hsz]at this
  rw[cI,hsz]
  exact this
 ·rw[cI,hsz]
  exact Xs ns
theorem L_:gT X (.builtin "len") (λvs H Q=>∃(a:Addr)(S:Int->Bool)(n:Nat),vs=[V.ref a]/\H a=some (i4 X.prog X.w a S n)/\Q (.int n) H):=by
 intro pins s σ H vs us Q I r h
 obtain⟨a,S,n,rfl,ha,q⟩:=h
 rw[Vals.qr r]
 obtain⟨W,_⟩:=(show b_ X.prog X.w H s.heap a (i4 X.prog X.w a S n)from I.az a _ ha)
 obtain⟨o,es,ep,t,⟨h1,h2,h3⟩,_,⟨h4,h5,h6⟩,_⟩:=W
 refine call_len_set h1 h2 h3 h5 (by unfold scanBound at h4;omega) ⟨.int n,H,I.tok _,⟨s.toks+1,by rw[h6]⟩,q⟩
def Xt(X:Cx):List V->Hp->VK->Prop:=λvs H Q=>∃(a:Addr)(S:Int->Bool)(n:Nat),vs=[V.ref a]/\H a=some (i4 X.prog X.w a S n)/\n<64/\
 ∀(ns:List Int)(p:Addr),ns.Pairwise (· <= ·)->ns.length=n->(∀k,S k=true↔k∈ns)->H p=none->Q (.ref p) (upd H p (.lst (ns.map V.int)))
theorem Xu(hc:X.calm=true):gT X (.builtin "sorted") (Xt X):=by
 intro pins s σ H vs us Q I r h
 obtain⟨a,S,n,rfl,ha,Ma,q⟩:=h
 rw[Vals.qr r]
 obtain⟨W,_⟩:=(show b_ X.prog X.w H s.heap a (i4 X.prog X.w a S n)from I.az a _ ha)
 refine Bs.Xp (I.ok.hd hc) W Ma λp ns out e s' hp hi hs hl hm md old eg eo=>?_
 have fr:H p=none:=I.az.fresh hp
 have hlen:(ns.map V.int).length<=sizeLine:=by rw[aA,hl];exact Ua Ma
 have I':Inv X pins σ (upd H p (.lst (ns.map V.int))) s':=by
  have J:=I.laid (t':=s'.toks) (o:=.lst (ns.map V.int)) old hp ⟨hlen,out,e,JG hi,md⟩
  rcases s' with⟨h',g',d',iY,x_⟩
  dsimp only at eg eo J
  subst eg eo
  exact⟨J.ok,J.os,J.bare,J.base,J.loc,J.cell,J.free,J.fK,J.pin,J.az,J.len⟩
 exact⟨.ref p,_,I',rfl,q ns p hs hl hm fr⟩
end
end L2
set_option Elab.async false
set_option linter.all false
set_option maxRecDepth 100000
set_option maxHeartbeats 2000000
namespace Bp
open PySem PySem.Spec PyProof.Rows L2
open Vadiaa (Arc)
open Br (outs)
section
variable{P:Program}{w:World}{K:ai}{mg:Str->Option Value}{base:Heap}
def Mb(K:ai):Sp:=λvs H Q _=>∃(a:Addr)(l:List Arc)(v:Nat),vs=[.ref a,.int v]/\fQ K H a l/\l.length<=1000/\∀(H':Hp)(r:Addr),aa H H'->H r=none->H' r=some (.lst (vN (outs l v)))->Q (.ref r) H'
theorem Xv{f:Addr}{fd:FuncData}(F:aQ K "ends_of_arcs_from" "ends_of_arcs_from" Cz f fd):aK P w K mg base ax 1 f fd ["arcs","box"] (Mb K):=by
 refine F.bo CA (λvs H Q E h=>?_) (λaC A outer s H vs Q E hr h=>?_)
 ·obtain⟨a,l,v,rfl,_⟩:=h
  rfl
 ·intro XX
  obtain⟨a,l,v,rfl,⟨ps,hS,hP⟩,hn,k⟩:=h
  refine⟨_,au (aM (nu rfl CA.nd (dM (pv 0)) (iz (own:=[("arc",2)]) rfl)
   (λs H C cl fp=>bB (i:=2) CA.nd rfl (ay rfl))
   (λs H C cl fp=>oS (bC ei (aG (bQ K) (pv 2) aJ (λ_ _=>rfl)) (pv 1) (bw _)))
   (λs H C cl fp=>aG (bQ K) (pv 2) aJ (λ_ _=>rfl)))),?_⟩
  refine⟨_,rfl,a,rfl,⟨_,hS⟩,λD hD=>?_⟩
  have sm:aa H (upd H D (.lst [])):=aa.new hD
  refine j6 (K:=K) (xs:=ps.map V.ref) (λi H'=>H'=upd H D (.lst (vN (outs (l.take i) v)))) rfl (λi H' hi e=>?_) ?_ ?_
  ·subst e
   exact(aa.new hD).seq hS
  ·rintro i y H' hi rfl
   obtain⟨p,hp,rfl⟩:=dO hi
   obtain⟨x,hx,hT⟩:=Paired.at' hP hp
   have g_:=aa.tup (aa.new (o:=.lst (vN (outs (l.take i) v))) hD) hT
   have aV:i<l.length:=(bE.mp hx).1
   refine⟨rfl,_,rfl,p,_,0,_,rfl,rfl,g_,dC,_,rfl,rfl,_,rfl,?_⟩
   have eo:outs (l.take (i+1)) v=outs (l.take i) v++(if x.1=v then[x.2]else[]):=by
    rw[take_one hx]
    unfold outs
    rw[ou,bI,f_]
    by_cases h:x.1=v
    ·simp[h]
    ·simp[h]
   refine B4 (λh=>?_) (λh=>?_)
   ·have hv:x.1=v:=by
     have:=of_decide_eq_true h
     injection this with this
     omega
    rw[if_pos hv]at eo
    refine⟨_,rfl,p,_,1,_,rfl,rfl,g_,gv,_,aj,?_,?_⟩
    ·rw[cA]
     refine eA (cp ?_ hn)
     unfold outs
     rw[aA]
     exact cp (ot _ _) (by rw[fC];omega)
    ·rw[fJ,eo,kb]
     rfl
   ·have hv:¬x.1=v:=λe=>h (by rw[e];exact decide_eq_true rfl)
    rw[if_neg hv,gP]at eo
    rw[eo]
  ·rintro H' rfl
   have el:(ps.map V.ref).length=l.length:=by rw[aA];exact a7 hP
   rw[el,cO]
   exact k _ D (aa.new hD) hD aj
def Ek(K:ai):Sp:=λvs H Q _=>∃(d:Addr)(ag:List (Key×V))(s t:Nat)(w tl:List Nat),vs=[.ref d,.int s,.int t]/\H d=some (.dK ag)/\w=s::tl/\s∉tl/\Br.lastOf w=t/\w.length<=1000/\
 (∀(p:List Nat)(x y:Nat)(q:List Nat),w=p++x::y::q->cz ag (cK (y:Int))=some (.int (x:Int)))/\∀(H':Hp)(r:Addr),aa H H'->H r=none->H' r=some (.lst (vN w))->Q (.ref r) H'
theorem Xw{f:Addr}{fd:FuncData}(F:aQ K "way_walked" "way_walked" CB f fd):aK P w K mg base ax 1 f fd ["came_from","start","goal"] (Ek K):=by
 refine F.bo K3 (λvs H Q E h=>?_) (λaC A outer s H vs Q E hr h=>?_)
 ·obtain⟨d,ag,s,t,w,tl,rfl,_⟩:=h
  rfl
 ·intro XX
  obtain⟨d,ag,s0,t,w,tl,rfl,hd,ew,oW,aV,hlen,fb,k⟩:=h
  have hu:=sP hr
  refine⟨_,aq (aN (i:=3) K3.nd rfl (ay rfl) (cy (ae (pv 2) af)))
   (aq (iU d5 (bC xX (aG (bj K) (pv 3) (Bl Bq aJ) (λ_ _=>rfl)) (pv 1) (bw _))
    (au (cM (fk fA lJ lI j5 (pv 3) (ae (B0 hu (pv 0) (aG (bj K) (pv 3) (Bl Bq aJ) (λ_ _=>rfl)) (λ_ _=>rfl)) af)))))
   (aq (cM (TK fA PySem.F.slot_list_reverse PySem.F.type_list_reverse TQ (pv 3)))
   (au (aM (pv 3))))),?_⟩
  refine⟨_,rfl,by show 1<=sizeLine;decide,λl hl=>?_⟩
  have El:w≠[]:=by rw[ew];simp
  obtain⟨p0,Xx⟩:∃p,w=p++[t]:=by
   refine⟨w.dropLast,?_⟩
   have e1:w.getLast El=t:=by
    have e2:=Gp El
    unfold Br.lastOf at aV
    rw[e2]at aV
    exact aV
   rw[<-e1]
   exact(Gq El).symm
  refine⟨λm σ H'=>∃p q,m=p.length/\w=p++q/\q≠[]/\σ=[some (.ref d),some (.int s0),some (.int t),some (.ref l)]/\H'=upd H l (.lst (vN q.reverse)),⟨_,p0,[t],rfl,Xx,by simp,rfl,rfl⟩,?_⟩
  rintro m σ H' ⟨p,q,rfl,e,hq,rfl,rfl⟩
  obtain⟨y,q',rfl⟩:∃y q',q=y::q':=by
   cases q with
   |nil=>exact absurd rfl hq
   |cons y q'=>exact⟨y,q',rfl⟩
  have el:vN (y::q').reverse=vN q'.reverse++[.int (y:Int)]:=by
   rw[GH,kb]
   rfl
  have sX:upd H l (.lst (vN (y::q').reverse)) l=some (.lst (vN q'.reverse++[.int (y:Int)])):=by rw[aj,el]
  have qf:upd H l (.lst (vN (y::q').reverse)) d=some (.dK ag):=by rw[ao (aF hd hl)];exact hd
  refine⟨_,rfl,1,rfl,l,_, -1,_,rfl,rfl,ah.of sX,BD _ _,_,rfl,rfl,_,rfl,?_⟩
  have Xy:(!decide (V.int (y:Int)=V.int (s0:Int)))= !decide (y=s0):=by
   congr 1
   refine decide_eq_decide.mpr ⟨λz=>?_,λz=>by rw[z]⟩
   injection z with z
   omega
  rw[Xy]
  by_cases hy:y=s0
  ·
   rw[decide_eq_true hy]
   refine aZ ?_
   have pe:p=[]:=by
    cases p with
    |nil=>rfl
    |cons a p'=>
     exfalso
     rw[ew]at e
     have e2:tl=p'++y::q':=(Am e).2
     exact oW (by rw[e2,hy];simp)
   rw[pe,ug]at e
   refine⟨_,rfl,.inl ⟨rfl,_,ah.of sX⟩,l,_,rfl,rfl,sX,_,rfl,?_⟩
   refine k _ l (λb o z=>?_) hl ?_
   ·rw[ao (aF z hl),ao (aF z hl)];exact z
   ·rw[aj,<-el]
    unfold vN
    rw[<-List.map_reverse,List.reverse_reverse,e]
  ·
   rw[decide_eq_false hy]
   refine aY ?_
   have Mc:p≠[]:=λz=>by
    rw[z,ug,ew]at e
    exact hy (Am e).1.symm
   obtain⟨p',x,rfl⟩:∃p' x,p=p'++[x]:=⟨p.dropLast,p.getLast Mc,(Gq Mc).symm⟩
   have e':w=p'++x::y::q':=by rw[e];simp
   have hv:=fb p' x y q' e'
   refine⟨λσ' H'=>σ'=[some (.ref d),some (.int s0),some (.int t),some (.ref l)]/\H'=upd H l (.lst (vN (x::y::q').reverse)),?_,?_⟩
   ·rintro σ' H' ⟨rfl,rfl⟩
    exact⟨p'.length,by simp,p',x::y::q',rfl,e',by simp,rfl,rfl⟩
   ·refine⟨_,rfl,.inl ⟨rfl,_,ah.of sX⟩,_,rfl,_,rfl,1,rfl,l,_, -1,_,rfl,rfl,ah.of sX,BD _ _,d,_,rfl,hv▸fo.k (k:=cK (y:Int)) qf,l,_,_,rfl,rfl,sX,?_,rfl,?_⟩
    ·have l1:=congrArg w_ e'
     rw[bf,bJ,bJ]at l1
     rw[bf,cA,ahv]
     refine eA ?_
     show q'.length+1<=1000
     omega
    ·rw[fJ]
     congr 2
     rw[GH,kb,el]
     rfl
def CF(ag:List (Key×V))(cf:Nat->Option Nat):Prop:=∀x:Nat,cz ag (cK (x:Int))=(cf x).map λ(z:Nat)=>V.int (z:Int)
theorem CF.put{ag:List (Key×V)}{cf:Nat->Option Nat}(h:CF ag cf)(b v:Nat):CF (putK ag (cK (b:Int)) (.int (v:Int))) (λx=>if x=b then some v else cf x):=λx=>by
 rw[BW]
 show _=((if x=b then some v else cf x).map λ(z:Nat)=>V.int (z:Int))
 by_cases e:x=b
 ·rw[e,if_pos rfl,if_pos rfl]
  rfl
 ·rw[if_neg e,if_neg (λz=>e (by injection z with z;omega))]
  exact h x
def y8(K:ai):Sp:=λvs H Q _=>∃(a:Addr)(l:List Arc)(n s t:Nat),vs=[.ref a,.int s,.int t]/\fQ K H a l/\l.length<=1000/\Br.bt n l/\s<n/\n<=999/\
 ∀(H':Hp)(r:Addr),aa H H'->H r=none->H' r=some (.lst (vN ((oz n l s t).getD [])))->Q (.ref r) H'
structure cq(mg:Str->Option Value):Prop where
 len:mg "len"=none
 range:mg "range"=none
 enum:mg "enumerate"=none
 list:mg "list"=none
 tuple:mg "tuple"=none
 min:mg "min"=none
 max:mg "max"=none
 sorted:mg "sorted"=none
 set:mg "set"=none
 ord:mg "ord"=none
 str:mg "str"=none
structure Em(H:Hp)(l:List Arc)(n s t:Nat)(d c:Addr)(i:Nat)(ws:List (List Nat))(cf:Nat->Option Nat)(ag:List (Key×V))(H':Hp):Prop where
 k6:Br.Bfs n l s ws cf
 sY:CF ag cf
 hd:H' d=some (.dK ag)
 hc:H' c=some (.lst (vN (ws.map Br.lastOf)))
 same:aa H H'
 len:ag.length=ws.length
theorem Xz{f:Addr}{fd:FuncData}(B:cq mg)(F:aQ K "first_way" "first_way" Cy f fd)(DE:aS P w K mg base ax 1 "ends_of_arcs_from" ["arcs","box"] (Mb K))(DW:aS P w K mg base ax 1 "way_walked" ["came_from","start","goal"] (Ek K)):
  aK P w K mg base ax 2 f fd ["arcs","start","goal"] (y8 K):=by
 refine F.bo K2 (λvs H Q E h=>?_) (λaC A outer s H vs Q E hr h=>?_)
 ·obtain⟨a,l,n,s,t,rfl,_⟩:=h
  rfl
 ·intro XX
  obtain⟨a,l,n,s0,t,rfl,hA,hlen,hn,hs,k7,k⟩:=h
  have hu:=sP hr
  have nd:=K2.nd
  refine⟨_,aq (aN (i:=3) nd rfl (ay rfl) (U9 (U7 (pv 1) (pv 1) U6) rfl rfl (by simp) (by decide)))
   (aq (aN (i:=4) nd rfl (ay rfl) (cy (ae (pv 1) af)))
   (aq (aN (i:=5) nd rfl (ay rfl) aJ)
   (aq (iU d5 (sq (bC kT (pv 5) (bK cb (by rfl) B.len bZ (ae (pv 4) af)) (bw _)) (so (oJ (yu hu (pv 2) (pv 3))))).pt
    (aq (aN (i:=6) nd rfl (ay rfl) (aG (bj K) (pv 4) (pv 5) (λ_ _=>rfl)))
    (aq (eJ d5 rfl (dM (aL DE hr aI (ae (pv 0) (ae (pv 6) af)))) (bB (i:=7) nd rfl (ay rfl))
     (au (bF (oJ (yu hu (pv 7) (pv 3))) (aq (B1 hu (pv 3) (pv 7) (pv 6) rfl) (au (cM (fk fA lJ lI j5 (pv 4) (ae (pv 7) af))))) bM)))
    (au (aN (i:=5) nd rfl (ay rfl) (bW fM (pv 5) aJ))))))
   (aq (bF (oJ (yu hu (pv 2) (pv 3))) (au (aM (cy af))) bM)
   (au (aM (aL DW hr aI (ae (pv 3) (ae (pv 1) (ae (pv 2) af)))))))))),?_⟩
  intro d hd
  refine⟨_,rfl,_,rfl,aj,[(cK (s0:Int),.int (s0:Int))],rfl,(by show 1<=15;decide),?_⟩
  refine⟨_,rfl,(by show 1<=sizeLine;decide),λc hc=>?_⟩
  have dc:d≠c:=λz=>by rw[z,aj]at hc;cases hc
  have mf:H c=none:=by rw[ao (Ne.symm dc),ao (Ne.symm dc)]at hc;exact hc
  have XA:sN [] [((cK (s0:Int):Key),V.int (s0:Int))]=[(cK (s0:Int),.int (s0:Int))]:=rfl
  refine⟨λm σ H'=>∃i ws cf ag v6 v7,m=n+1-i/\σ=[some (.ref a),some (.int s0),some (.int t),some (.ref d),some (.ref c),some (.int (i:Int)),v6,v7]/\Em H l n s0 t d c i ws cf ag H'/\Br.fF n l s0 t i ws cf,
   ⟨_,0,[[s0]],(λx=>if x=s0 then some s0 else none),[(cK (s0:Int),.int (s0:Int))],none,none,rfl,rfl,⟨Br.Bfs.start hs,λx=>?_,?_,?_,?_,rfl⟩,Br.fF.start hs⟩,?_⟩
  ·by_cases e:x=s0
   ·rw[e,if_pos rfl]
    exact j7 (p:=((cK (s0:Int):Key),V.int (s0:Int))) rfl
   ·rw[if_neg e]
    exact j8 (p:=((cK (s0:Int):Key),V.int (s0:Int))) (λz=>e (by injection z with z;omega))
  ·rw[ao dc,aj,XA]
  ·rw[aj]
   rfl
  ·intro b o z
   rw[ao (aF z mf),ao (aF z hd),ao (aF z hd)]
   exact z
  rintro m σ H' ⟨i,ws,cf,ag,v6,v7,rfl,rfl,W,S⟩
  have ahZ:ws.length<=n:=W.k6.len
  have y9:∀x:Nat,(cz ag (cK (x:Int))).isSome=true↔x∈ws.map Br.lastOf:=λx=>by
   rw[W.sY x,wO]
   exact W.k6.rS x
  have fin:∀(v6 v7:Option V),(t∈ws.map Br.lastOf\/ws.length<=i)->l6 (xP (tB (BZ (bu 2) (bu 3))) (qg (x9 dR)) xN) (qg (jn (Ek K) [] E0 (bT (bu 3) (bT (bu 1) (bT (bu 2) dR))))) {nx:=λ_ H'=>Q .aO H',rt:=Q}
    [some (.ref a),some (.int s0),some (.int t),some (.ref d),some (.ref c),some (.int (i:Int)),v6,v7] H':=by
   intro v6 v7 mh
   refine⟨_,rfl,_,rfl,d,_,rfl,fo.k (k:=cK (t:Int)) W.hd,_,rfl,?_⟩
   by_cases ht:t∈ws.map Br.lastOf
   ·rw[(y9 t).mpr ht]
    refine aZ ?_
    obtain⟨v,hv,ev⟩:=cJ.mp ht
    obtain⟨tl,e1,e2⟩:=W.k6.head v hv
    have hw:=S.found hv ev
    refine⟨_,rfl,_,rfl,_,rfl,d,ag,s0,t,v,tl,rfl,W.hd,e1,e2,ev,?_,λp x y q e=>?_,λH2 r sm dU e7=>?_⟩
    ·have:=W.k6.wl v hv
     omega
    ·rw[W.sY y,W.k6.chain v hv p x y q e]
     rfl
    ·refine k H2 r (W.same.trans sm) (W.same.free dU) ?_
     rw[hw]
     exact e7
   ·have hf:(cz ag (cK (t:Int))).isSome=false:=by
     cases q:(cz ag (cK (t:Int))).isSome with
     |false=>rfl
     |true=>exact absurd ((y9 t).mp q) ht
    rw[hf]
    refine aY ⟨cw _,λr dU=>?_⟩
    refine k _ r (W.same.trans (aa.new dU)) (W.same.free dU) ?_
    rw[aj,(S.none (mh.resolve_left ht)).1]
    rfl
  refine⟨_,rfl,_,rfl,c,_,rfl,.inl (ah.of W.hc),_,_,rfl,rfl,_,rfl,?_⟩
  have En:decide ((i:Int)<((vN (ws.map Br.lastOf)).length:Int))=decide (i<ws.length):=by
   rw[cA,aA]
   exact decide_eq_decide.mpr ⟨λz=>by omega,λz=>by omega⟩
  rw[En]
  by_cases hi:i<ws.length
  ·rw[decide_eq_true hi]
   refine aY ⟨_,rfl,_,rfl,d,_,rfl,fo.k (k:=cK (t:Int)) W.hd,_,rfl,?_⟩
   by_cases ht:t∈ws.map Br.lastOf
   ·rw[(y9 t).mpr ht]
    exact aZ (fin v6 v7 (.inl ht))
   ·have hf:(cz ag (cK (t:Int))).isSome=false:=by
     cases q:(cz ag (cK (t:Int))).isSome with
     |false=>rfl
     |true=>exact absurd ((y9 t).mp q) ht
    rw[hf]
    refine aY ?_
    have qy:ws[i]? =some ws[i]:=bX hi
    have XB:ws[i]∈ws:=Ai hi
    have vp:(vN (ws.map Br.lastOf))[i]? =some (.int (Br.lastOf ws[i]:Int)):=yX (by rw[ck,qy];rfl)
    generalize hv:Br.lastOf ws[i]=v at vp
    refine⟨λσ' H2=>∃cS eW iE oY,σ'=[some (.ref a),some (.int s0),some (.int t),some (.ref d),some (.ref c),some (.int ((i:Int)+1)),some (.int (v:Int)),oY]/\Em H l n s0 t d c (i+1) cS eW iE H2/\Br.fF n l s0 t (i+1) cS eW,?_,?_⟩
    ·rintro σ' H2 ⟨cS,eW,iE,oY,rfl,W',S'⟩
     exact⟨n+1-(i+1),by omega,i+1,cS,eW,iE,_,oY,rfl,rfl,W',S'⟩
    refine⟨_,rfl,_,rfl,c,_,(i:Int),_,rfl,rfl,ah.of W.hc,du vp,?_⟩
    refine⟨_,rfl,_,rfl,a,l,v,rfl,hA.same W.same,hlen,λH2 e sm y_ nG=>⟨e,rfl,⟨_,ah.of nG⟩,?_⟩⟩
    have hd2:H2 d=some (.dK ag):=sm _ _ W.hd
    have qo:=sm _ _ W.hc
    refine iq (K:=K) (a:=e) (xs:=vN (outs l v)) (λj σ' H3=>∃cS eW iE oY,σ'=[some (.ref a),some (.int s0),some (.int t),some (.ref d),some (.ref c),some (.int (i:Int)),some (.int (v:Int)),oY]/\Em H l n s0 t d c i cS eW iE H3/\H3 e=some (.lst (vN (outs l v)))/\
     ((outs l v).take j).foldl (Br.ext ws[i]) (ws,ws.map Br.lastOf)=(cS,cS.map Br.lastOf)/\(∃u,cS=ws++u)/\∀b∈(outs l v).take j,b∈cS.map Br.lastOf) ?_ ?_ ?_ ?_
    ·exact⟨ws,cf,ag,v7,rfl,⟨W.k6,W.sY,hd2,qo,W.same.trans sm,W.len⟩,nG,rfl,⟨[],by simp⟩,by simp⟩
    ·rintro j σ' H3 _ ⟨_,_,_,_,_,_,he,_⟩
     exact ah.of he
    ·rintro j y σ' H3 hj ⟨cS,eW,iE,oY,rfl,W3,vq,za,⟨u,vt⟩,dy⟩
     obtain⟨b,hb,rfl⟩:=qE hj
     have xC:(v,b)∈l:=Br.AE.mp (bL hb)
     have XC:ws[i]∈cS:=by rw[vt];exact dZ _ XB
     have Md:(cz iE (cK (b:Int))).isSome=true↔b∈cS.map Br.lastOf:=by
      rw[W3.sY b,wO]
      exact W3.k6.rS b
     have Me:((outs l v).take (j+1)).foldl (Br.ext ws[i]) (ws,ws.map Br.lastOf)=Br.ext ws[i] (cS,cS.map Br.lastOf) b:=by
      rw[take_one hb,GK,za]
      rfl
     refine⟨_,rfl,_,rfl,d,_,rfl,fo.k (k:=cK (b:Int)) W3.hd,_,rfl,?_⟩
     by_cases sZ:b∈cS.map Br.lastOf
     ·rw[Md.mpr sZ]
      refine aZ ⟨cS,eW,iE,_,rfl,W3,vq,?_,⟨u,vt⟩,λb' eY=>?_⟩
      ·rw[Me]
       unfold Br.ext
       rw[if_pos (by simpa using sZ)]
      ·rw[take_one hb]at eY
       rcases cP.mp eY with eY|eY
       ·exact dy b' eY
       ·rw[cY.mp eY];exact sZ
     ·have Eo:(cz iE (cK (b:Int))).isSome=false:=by
       cases q:(cz iE (cK (b:Int))).isSome with
       |false=>rfl
       |true=>exact absurd (Md.mp q) sZ
      rw[Eo]
      have s_:cz iE (cK (b:Int))=none:=by
       cases q:cz iE (cK (b:Int))with
       |none=>rfl
       |some z=>rw[q]at Eo;cases Eo
      have wl3:=W3.k6.len
      refine aY ⟨_,rfl,_,rfl,_,rfl,d,_,rfl,nz.k (k:=cK (b:Int)) W3.hd (by rw[W3.len];exact eA (by omega)),?_⟩
      have XE:c≠d:=Ne.symm dc
      have Mf:upd H3 d (.dK (putK iE (cK (b:Int)) (.int (v:Int)))) c=some (.lst (vN (cS.map Br.lastOf))):=by rw[ao XE];exact W3.hc
      refine⟨_,rfl,.inl ⟨rfl,_,ah.of Mf⟩,_,rfl,c,_,_,rfl,rfl,Mf,by rw[cA,aA];exact eA (by omega),?_⟩
      have Bn:=W3.k6.add XC (by rw[hv];exact xC) (hn _ xC).2 sZ
      rw[hv]at Bn
      have emap:(cS++[ws[i]++[b]]).map Br.lastOf=cS.map Br.lastOf++[b]:=by
       rw[bI]
       show _++[Br.lastOf (ws[i]++[b])]=_
       rw[Br.mU]
      have ne:e≠d:=λz=>by rw[z,W3.hd]at vq;cases vq
      have XF:e≠c:=λz=>by
       rw[<-z,nG]at qo
       have hx:=sm _ _ W.hc
       rw[<-z]at hx
       have:=y_
       rw[z,W.hc]at this
       cases this
      refine⟨cS++[ws[i]++[b]],_,_,_,rfl,⟨Bn,W3.sY.put b v,?_,?_,?_,?_⟩,?_,?_,⟨u++[ws[i]++[b]],by rw[vt];simp⟩,λb' eY=>?_⟩
      ·rw[ao dc,aj]
      ·rw[aj,emap,kb]
       rfl
      ·intro b' o z
       rw[ao (aF z mf),ao (aF z hd)]
       exact W3.same _ _ z
      ·rw[UP _ s_,bf,bf,W3.len]
       rfl
      ·rw[ao XF,ao ne]
       exact vq
      ·rw[Me]
       unfold Br.ext
       rw[if_neg (by simpa using sZ),emap]
      ·rw[emap]
       rw[take_one hb]at eY
       rcases cP.mp eY with eY|eY
       ·exact dZ _ (dy b' eY)
       ·rw[cY.mp eY];exact eL _ (by simp)
    ·rintro σ' H3 ⟨cS,eW,iE,oY,rfl,W3,vq,za,vt,dy⟩
     have el:(vN (outs l v)).length=(outs l v).length:=cA _
     rw[el,cO]at za dy
     refine⟨_,rfl,(i:Int),1,rfl,rfl,cS,eW,iE,oY,rfl,⟨W3.k6,W3.sY,W3.hd,W3.hc,W3.same,W3.len⟩,?_⟩
     exact S.turn qy ht (by rw[hv];exact za) vt W3.k6 (by rw[hv];exact dy)
  ·rw[decide_eq_false hi]
   exact aZ (fin v6 v7 (.inr (by omega)))
def vv(K:ai):Sp:=λvs H Q _=>∃(a:Addr)(l:List Arc)(n s t:Nat),vs=[.ref a,.int s,.int t]/\fQ K H a l/\l.length<=1000/\Br.bt n l/\s<n/\n<=999/\
 ∀(H':Hp)(b:Bool),aa H H'->(b=true↔Br.Reach l s t)->Q (.bl b) H'
theorem XG{f:Addr}{fd:FuncData}(B:cq mg)(F:aQ K "leads" "leads" CC f fd)(DW:aS P w K mg base ax 2 "first_way" ["arcs","start","goal"] (y8 K)):
  aK P w K mg base ax 3 f fd ["arcs","start","goal"] (vv K):=by
 refine F.bo Wg (λvs H Q E h=>?_) (λaC A outer s H vs Q E hr h=>?_)
 ·obtain⟨a,l,n,s,t,rfl,_⟩:=h
  rfl
 ·intro XX
  obtain⟨a,l,n,s0,t,rfl,hA,hlen,hn,hs,k7,k⟩:=h
  refine⟨_,au (aM (xY kU (bK cb (by rfl) B.len bZ (ae (aL DW hr aI (ae (pv 0) (ae (pv 1) (ae (pv 2) af)))) af)) aJ (bw _))),?_⟩
  refine⟨_,rfl,_,rfl,_,rfl,a,l,n,s0,t,rfl,hA,hlen,hn,hs,k7,λH' r sm h1 h2=>⟨r,_,rfl,.inl (ah.of h2),_,0,rfl,rfl,k H' _ sm ?_⟩⟩
  rw[<-Br.QO hn hs,decide_eq_true_iff,cA]
  cases e:oz n l s0 t with
  |none=>simp
  |some v=>
   have:=Br.QP hn hs e
   have:0<v.length:=PQ.mpr this
   simp
   omega
end
end Bp
set_option Elab.async false
set_option linter.all false
set_option maxRecDepth 100000
set_option maxHeartbeats 2000000
namespace Bp
open PySem PySem.Spec PyProof.Rows L2
open Vadiaa (Arc)
section
variable{P:Program}{w:World}{K:ai}{mg:Str->Option Value}{base:Heap}
def nH(n:Nat)(F l:List Arc)(k:Nat):List Nat:=(cW k).filter λi=>match l[i]? with
 |none=>false
 |some a=>(G_ n F a.2).contains a.1
theorem XH{n:Nat}{F l:List Arc}(hF:Br.bt n F){k:Nat}{a:Arc}(h:l[k]? =some a)(ha:a∈F){b:Bool}(hb:b=true↔Br.Reach F a.2 a.1):nH n F l (k+1)=if b=true then nH n F l k++[k]else nH n F l k:=by
 have e:(G_ n F a.2).contains a.1=b:=by
  have h1:=Br.oC (u:=a.1) hF (hF a ha).2
  cases b with
  |true=>simpa using h1.mpr (hb.mp rfl)
  |false=>
   have:¬a.1∈G_ n F a.2:=λz=>by have:=hb.mpr (h1.mp z);cases this
   simpa using this
 unfold nH
 rw[G3,ou,f_]
 simp only[h,e]
 cases b with
 |true=>simp
 |false=>simp
theorem XI(d:d6):iO d=nH d.boxes.length (eF d++eN d) (eF d) d.edges.length:=rfl
def Mg(K:ai):Sp:=λvs H Q _=>∃(a b:Addr)(l m:List Arc)(n:Nat),vs=[.ref a,.ref b]/\bD K H a l/\bD K H b m/\l.length<=100/\m.length<=100/\Br.bt n (l++m)/\n<=999/\
 ∀(H':Hp)(r:Addr),aa H H'->H r=none->H' r=some (.lst (vN (nH n (l++m) l l.length)))->Q (.ref r) H'
theorem XJ{f:Addr}{fd:FuncData}(B:cq mg)(F:aQ K "edges_on_circles" "edges_on_circles" CI f fd)(DL:aS P w K mg base ax 3 "leads" ["arcs","start","goal"] (vv K)):
  aK P w K mg base ax 4 f fd ["edges","wishes"] (Mg K):=by
 refine F.bo K4 (λvs H Q E h=>?_) (λaC A outer s H vs Q E hr h=>?_)
 ·obtain⟨a,b,l,m,n,rfl,_⟩:=h
  rfl
 ·intro XX
  obtain⟨a,b,l,m,n,rfl,hA,hB,hl,hm,hn,k7,k⟩:=h
  have nd:=K4.nd
  refine⟨_,aq (aN (i:=2) nd rfl (rQ rfl) (bW iy (pv 0) (pv 1)))
   (au (aM (nu rfl nd (sO (by rfl) B.enum (ae (pv 0) af)) (iz (own:=[("number",3),("edge",4)]) rfl)
    (λs H C cl fp=>iZ K 2 rfl (dA (bB (i:=3) nd rfl (ay rfl)) (dA (bB (i:=4) nd rfl (ay rfl)) iT)))
    (λs H C cl fp=>oS (dJ (aL DL hr aI (ae (pv 2) (ae (aG (bQ K) (pv 4) aJ (λ_ _=>rfl)) (ae (aG (bQ K) (pv 4) aJ (λ_ _=>rfl)) af))))))
    (λs H C cl fp=>pv 3)))),?_⟩
  obtain⟨ps,vw,vx⟩:=hA
  obtain⟨qs,vy,zb⟩:=hB
  have ft:ps.length=l.length:=a7 vx
  have i5:qs.length=m.length:=a7 zb
  refine⟨_,rfl,_,rfl,a,b,_,_,rfl,rfl,vw,vy,?_,λc hc=>?_⟩
  ·rw[aA,aA,ft,i5,sizeLine_eq]
   omega
  have s1:aa H (upd H c (.lst (ps.map V.ref++qs.map V.ref))):=aa.new hc
  have hC:fQ K (upd H c (.lst (ps.map V.ref++qs.map V.ref))) c (l++m):=by
   refine⟨ps++qs,ah.of (by rw[aj,bI]),Paired.app (L2.Paired.aX vx λ_ _ q=>aa.tup s1 q) (L2.Paired.aX zb λ_ _ q=>aa.tup s1 q)⟩
  refine⟨_,rfl,a,_,rfl,ah.of (s1 _ _ vw),λD hD=>?_⟩
  have vz:H D=none:=s1.free hD
  refine DU (n:=l.length) (λi H'=>(∀b' o,upd H c (.lst (ps.map V.ref++qs.map V.ref)) b'=some o->H' b'=some o)/\H' D=some (.lst (vN (nH n (l++m) l i)))) ⟨aa.new hD,by rw[aj];rfl⟩ ?_ ?_ ?_ ?_
  ·rintro i H' hi ⟨sm,_⟩
   exact sU (ah.of (sm _ _ (s1 _ _ vw))) (by rw[aA,ft];exact hi)
  ·rintro H' ⟨sm,_⟩
   have:=sV (K:=K) (ah.of (sm _ _ (s1 _ _ vw)))
   rw[aA,ft]at this
   exact this
  ·rintro i H' x H2 hi ⟨sm,mi⟩ ⟨T,y,rfl,hT,rfl,hy⟩
   obtain⟨p,hp,rfl⟩:=dO (hy _ (ah.of (sm _ _ (s1 _ _ vw))))
   obtain⟨aD,dW,hJ⟩:=Paired.at' vx hp
   have sT:aa H' (upd H' T (.tup [.int (i:Nat),.ref p])):=aa.new hT
   have sH:aa (upd H c (.lst (ps.map V.ref++qs.map V.ref))) (upd H' T (.tup [.int (i:Nat),.ref p])):=aa.trans sm sT
   have k8:aB K (upd H' T (.tup [.int (i:Nat),.ref p])) p [.int aD.1,.int aD.2]:=aa.tup sH (aa.tup s1 hJ)
   have mem:aD∈l++m:=dZ _ (bL dW)
   refine⟨T,_,rfl,aB.of aj,rfl,_,_,rfl,_,_,rfl,rfl,rfl,?_⟩
   refine⟨_,rfl,_,rfl,p,_,1,_,rfl,rfl,k8,gv,_,rfl,p,_,0,_,rfl,rfl,k8,dC,c,l++m,n,aD.2,aD.1,rfl,hC.same sH,by rw[bf];omega,hn,(hn _ mem).2,k7,λH3 bb s3 hb=>⟨bb,rfl,?_⟩⟩
   have e:=XH (l:=l) hn dW mem hb
   have s4:aa H' H3:=sT.trans s3
   cases bb with
   |true=>
    rw[if_pos rfl]at e
    refine aY ⟨_,rfl,_,s4 _ _ mi,?_,?_,?_⟩
    ·rw[cA]
     refine eA ?_
     have:(nH n (l++m) l i).length<=i:=by
      unfold nH
      exact cp (ot _ _) (by simp)
     omega
    ·intro b' o q
     have xA:b'≠D:=aF q hD
     rw[ao xA]
     exact s4 _ _ (sm _ _ q)
    ·rw[aj,e,kb]
     rfl
   |false=>
    rw[if_neg cG]at e
    refine aZ ⟨λb' o q=>s4 _ _ (sm _ _ q),?_⟩
    rw[e]
    exact s4 _ _ mi
  ·rintro H' ⟨sm,mi⟩
   exact k H' D (s1.trans sm) vz mi
def Mh(K:ai):Sp:=λvs H Q _=>∃(a:Addr)(xs:List V),vs=[.ref a]/\ah K H a xs/\Q (.bl (decide (xs.length<=10))) H
theorem XM{f:Addr}{fd:FuncData}(B:cq mg)(g1:GI mg "MOST_FOR_LEAST_SET" 10)(F:aQ K "is_least_set_told" "is_least_set_told" CJ f fd):aK P w K mg base ax 1 f fd ["circling"] (Mh K):=by
 refine F.bo Wh (λvs H Q E h=>?_) (λaC A outer s H vs Q E hr h=>?_)
 ·obtain⟨a,xs,rfl,_⟩:=h
  rfl
 ·intro XX
  obtain⟨a,xs,rfl,hS,k⟩:=h
  refine⟨_,au (aM (xY m_ (bK cb (by rfl) B.len bZ (ae (pv 0) af)) (bG g1) (bw _))),?_⟩
  refine⟨_,rfl,a,xs,rfl,.inl hS,_,_,rfl,rfl,?_⟩
  have e:decide ((xs.length:Int)<=10)=decide (xs.length<=10):=decide_eq_decide.mpr ⟨λz=>by omega,λz=>by omega⟩
  show Q (V.bl (decide ((xs.length:Int)<=10))) H
  rw[e]
  exact k
def Mj(K:ai):Sp:=λvs H Q _=>∃(a:Addr)(l:List Arc),vs=[.ref a]/\fQ K H a l/\l.length<=500/\∀(H':Hp)(b:Bool),aa H H'->(b=true↔¬Br.bg l)->Q (.bl b) H'
theorem XN{f:Addr}{fd:FuncData}(B:cq mg)(F:aQ K "has_circle" "has_circle" CO f fd):aK P w K mg base ax 1 f fd ["arcs"] (Mj K):=by
 refine F.bo K9 (λvs H Q E h=>?_) (λaC A outer s H vs Q E hr h=>?_)
 ·obtain⟨a,l,rfl,_⟩:=h
  rfl
 ·intro XX
  obtain⟨a,l,rfl,hA,hl,k⟩:=h
  have nd:=K9.nd
  have hu:=sP hr
  refine⟨_,aq (aN (i:=1) nd rfl (ay rfl) (pv 0))
   (aq (aN (i:=2) nd rfl (ay rfl) (bW fM (bK cb (by rfl) B.len bZ (ae (pv 1) af)) aJ))
   (aq (iU d5 (bC kT (bK cb (by rfl) B.len bZ (ae (pv 1) af)) (pv 2) (bw _))
    (aq (aN (i:=2) nd rfl (ay rfl) (bK cb (by rfl) B.len bZ (ae (pv 1) af)))
    (aq (aN (i:=3) nd rfl (rQ rfl) U4)
    (aq (eJ d5 rfl (dM (pv 1)) (bB (i:=4) nd rfl (ay rfl))
     (au (B1 hu (pv 3) (aG (bQ K) (pv 4) aJ (λ_ _=>rfl)) lY rfl)))
    (au (sJ rfl nd (i:=1) rfl rfl (sL rfl rfl rfl rfl) (dM (pv 1)) (iz (own:=[("arc",4)]) rfl)
     (λs H C cl fp=>bB (i:=4) nd rfl (ay rfl))
     (λs H C cl fp=>oS (oJ (Kc hu (aG (bQ K) (pv 4) aJ (λ_ _=>rfl)) (pv 3))))
     (λs H C cl fp=>pv 4)))))))
   (au (aM (xY kU (bK cb (by rfl) B.len bZ (ae (pv 1) af)) aJ (bw _)))))),?_⟩
  obtain⟨XQ,XR,XS⟩:=id hA
  have l0:XQ.length=l.length:=a7 XS
  refine⟨_,rfl,_,rfl,a,_,rfl,.inl XR,_,_,rfl,rfl,?_⟩
  refine⟨λm σ H'=>∃(lf:Addr)(l':List Arc)(v3 v4:Option V),σ=[some (.ref a),some (.ref lf),some (.int (m:Int)),v3,v4]/\fQ K H' lf l'/\aa H H'/\l'.length<=500/\(Br.bg l'↔Br.bg l)/\(m=l'.length+1\/∃prev,l'=Br.pa prev/\m=prev.length),
   ⟨l.length+1,a,l,none,none,?_,hA,aa.refl H,hl,Iff.rfl,.inl rfl⟩,?_⟩
  ·rw[aA,l0]
   rfl
  rintro m σ H' ⟨lf,l',v3,v4,rfl,XT,sm,jZ,hdag,hm⟩
  obtain⟨ps,hS,hP⟩:=id XT
  have ft:ps.length=l'.length:=a7 hP
  refine⟨_,rfl,lf,_,rfl,.inl hS,_,rfl,_,_,rfl,rfl,_,rfl,?_⟩
  have En:decide (((ps.map V.ref).length:Int)<(m:Int))=decide (l'.length<m):=by
   rw[aA,ft]
   exact decide_eq_decide.mpr ⟨λz=>by omega,λz=>by omega⟩
  rw[En]
  by_cases aV:l'.length<m
  ·rw[decide_eq_true aV]
   refine aY ⟨λσ' H2=>∃(zf:Addr)(v3 v4:Option V),σ'=[some (.ref a),some (.ref zf),some (.int (l'.length:Int)),v3,v4]/\fQ K H2 zf (Br.pa l')/\aa H H2,?_,?_⟩
   ·rintro σ' H2 ⟨zf,vA,hX,rfl,vx,cu⟩
    refine⟨l'.length,aV,zf,Br.pa l',vA,hX,rfl,vx,cu,?_,Br.HB.trans hdag,.inr ⟨l',rfl,rfl⟩⟩
    have:(Br.pa l').length<=l'.length:=ot _ _
    omega
   refine⟨_,rfl,lf,_,rfl,.inl hS,?_⟩
   intro e he
   have s1:aa H' (upd H' e (.dK [])):=aa.new he
   refine⟨_,rfl,lf,rfl,⟨_,s1.seq hS⟩,?_⟩
   refine iq (K:=K) (a:=lf) (xs:=ps.map V.ref) (λj σ' H2=>∃(ag:List (Key×V))(hX:Option V),σ'=[some (.ref a),some (.ref lf),some (.int ((ps.map V.ref).length:Int)),some (.ref e),hX]/\H2=upd H' e (.dK ag)/\ag.length<=j/\∀x:Nat,(cz ag (cK (x:Int))).isSome=true↔∃b∈l'.take j,b.2=x) ?_ ?_ ?_ ?_
   ·exact⟨[],_,rfl,rfl,aT _,λx=>⟨λz=>(by rw[UO]at z;cases z),λ⟨b,hb,_⟩=>(by simp at hb)⟩⟩
   ·rintro j σ' H2 _ ⟨ag,hX,rfl,rfl,_⟩
    exact(aa.new he).seq hS
   ·rintro j y σ' H2 hj ⟨ag,hX,rfl,rfl,hk,mj⟩
    obtain⟨p,hp,rfl⟩:=dO hj
    obtain⟨aD,dW,hT⟩:=Paired.at' hP hp
    have rT:j<l'.length:=(bE.mp dW).1
    refine⟨_,rfl,_,rfl,p,_,1,_,rfl,rfl,aa.tup (aa.new he) hT,gv,e,_,rfl,nz.k (k:=cK (aD.2:Int)) aj (eA (by omega)),?_⟩
    refine⟨_,_,rfl,fJ,cp (yt _ _ _) (by omega),λx=>?_⟩
    rw[BW,take_one dW]
    by_cases ex:x=aD.2
    ·rw[ex,if_pos rfl]
     exact⟨λ_=>⟨aD,by simp,rfl⟩,λ_=>rfl⟩
    ·rw[if_neg (λz=>ex (by injection z with z;omega)),mj x]
     constructor
     ·rintro ⟨b,hb,eb⟩
      exact⟨b,dZ _ hb,eb⟩
     ·rintro ⟨b,hb,eb⟩
      rcases cP.mp hb with hb|hb
      ·exact⟨b,hb,eb⟩
      ·rw[cY.mp hb]at eb
       exact absurd eb.symm ex
   ·rintro σ' H2 ⟨ag,hX,rfl,rfl,hk,mj⟩
    rw[aA,ft,cO]at mj
    refine⟨_,rfl,lf,rfl,⟨_,(aa.new he).seq hS⟩,λD hD=>?_⟩
    have Ml:e≠D:=λz=>by rw[<-z,aj]at hD;cases hD
    have vz:H' D=none:=by rw[ao (Ne.symm Ml)]at hD;exact hD
    have s2:∀o,aa H' (upd (upd H' e (.dK ag)) D o):=λo b' u q=>by
     rw[ao (aF q vz),ao (aF q he)]
     exact q
    refine j6 (K:=K) (xs:=ps.map V.ref) (λi H3=>H3=upd (upd H' e (.dK ag)) D (.lst ((sel (λc=>l'.any λb=>b.2==c.1) (ps.take i) (l'.take i)).map V.ref))) rfl ?_ ?_ ?_
    ·rintro i H3 _ rfl
     exact(s2 _).seq hS
    ·rintro i y H3 hi rfl
     obtain⟨p,hp,rfl⟩:=dO hi
     obtain⟨aD,dW,hT⟩:=Paired.at' hP hp
     have g_:=aa.tup (s2 (.lst ((sel (λc=>l'.any λb=>b.2==c.1) (ps.take i) (l'.take i)).map V.ref))) hT
     have XU:∀o,upd (upd H' e (.dK ag)) D o e=some (.dK ag):=λo=>by rw[ao Ml,aj]
     refine⟨rfl,_,rfl,p,_,0,_,rfl,rfl,g_,dC,_,rfl,e,_,rfl,fo.k (k:=cK (aD.1:Int)) (XU _),_,rfl,?_⟩
     have l9:i<ps.length:=(bE.mp hp).1
     have XW:(cz ag (cK (aD.1:Int))).isSome=(l'.any λb=>b.2==aD.1):=by
      rw[gb,mj aD.1]
      simp
     have fu:=DV (g:=λc:Arc=>l'.any λb=>b.2==c.1) hp dW
     rw[XW]
     by_cases hb:(l'.any λb=>b.2==aD.1)=true
     ·rw[if_pos hb]at fu
      rw[hb]
      refine aY ⟨_,rfl,_,aj,?_,?_⟩
      ·rw[aA]
       refine eA (cp (DX _ _) ?_)
       rw[fC]
       omega
      ·rw[fJ,fu,bI]
       rfl
     ·have eY:(l'.any λb=>b.2==aD.1)=false:=P9.mpr hb
      rw[if_neg hb,gP]at fu
      rw[eY]
      refine aZ ?_
      rw[fu]
    ·rintro H3 rfl
     refine⟨D,_,_,by rw[aA,ft];rfl,⟨sel (λc=>l'.any λb=>b.2==c.1) ps l',ah.of ?_,?_⟩,?_⟩
     ·have e1:ps.take (ps.map V.ref).length=ps:=by rw[aA,cO]
      have e2:l'.take (ps.map V.ref).length=l':=by rw[aA,ft,cO]
      rw[e1,e2,aj]
     ·exact yZ (L2.Paired.aX hP λ_ _ q=>aa.tup (s2 _) q)
     ·exact sm.trans (s2 _)
  ·rw[decide_eq_false aV]
   refine aZ ⟨_,rfl,lf,_,rfl,.inl hS,_,_,rfl,rfl,?_⟩
   show Q (V.bl (decide ((0:Int)<((ps.map V.ref).length:Int)))) H'
   refine k H' _ sm ?_
   rw[decide_eq_true_iff,aA,ft]
   rcases hm with hm|⟨prev,e1,e2⟩
   ·omega
   ·have XY:=Br.QQ (l:=prev) (by rw[<-e1];omega)
    have ml:Br.bg l'↔Br.bg prev:=by rw[e1];exact Br.HB
    have XZ:Br.bg l↔prev=[]:=hdag.symm.trans (ml.trans XY)
    rw[XZ]
    have hle:l'.length<=prev.length:=by rw[e1];exact ot _ _
    constructor
    ·intro z e3
     rw[e3]at hle
     simp at hle
     rw[hle]at z
     simp at z
    ·intro z
     have:0<prev.length:=PQ.mpr z
     omega
def k9(l:List Arc)(cs s:List Nat):List Arc:=(cs.filter λi=> !s.contains i).map λi=>l[i]?.getD (0,0)
theorem X0{l:List Arc}{cs s:List Nat}{i c:Nat}(h:cs[i]? =some c):k9 l (cs.take (i+1)) s=k9 l (cs.take i) s++(if s.contains c=true then[]else[l[c]?.getD (0,0)]):=by
 rw[take_one h]
 unfold k9
 rw[ou,bI,f_]
 cases s.contains c<;>simp
def k_(ok:Addr->Prop)(H:Hp)(a:Addr)(ss:List (List Nat)):Prop:=∃ps:List Addr,H a=some (.lst (ps.map V.ref))/\Paired (λp s=>ok p/\H p=some (.lst (vN s))) ps ss
theorem k_.same{ok:Addr->Prop}{H H':Hp}{a:Addr}{ss:List (List Nat)}(s:aa H H'):k_ ok H a ss->k_ ok H' a ss:=λ⟨ps,h1,h2⟩=>⟨ps,s _ _ h1,L2.Paired.aX h2 λ_ _ z=>⟨z.1,s _ _ z.2⟩⟩
def zg(K:ai):Sp:=λvs H Q _=>∃(e fx c t:Addr)(l m:List Arc)(cs:List Nat)(ss:List (List Nat))(pr:List Nat->Bool)(ok:Addr->Prop),vs=[.ref e,.ref fx,.ref c,.ref t]/\bD K H e l/\bD K H fx m/\H c=some (.lst (vN cs))/\k_ ok H t ss/\
 l.length<=100/\m.length<=100/\cs.length<=100/\(∀i∈cs,i<l.length)/\(∀s∈ss,pr s=true↔Br.bg (m++k9 l cs s))/\
 ∀(H':Hp),aa H H'->(ss.find? pr=none->Q .aO H')/\∀(s:List Nat)(p:Addr),ss.find? pr=some s->ok p->H p=some (.lst (vN s))->Q (.ref p) H'
theorem X1{f:Addr}{fd:FuncData}(B:cq mg)(F:aQ K "first_that_breaks" "first_that_breaks" CM f fd)(DC:aS P w K mg base ax 1 "has_circle" ["arcs"] (Mj K)):aK P w K mg base ax 2 f fd ["edges","fixed","circling","tried"] (zg K):=by
 refine F.bo K7 (λvs H Q E h=>?_) (λaC A outer s H vs Q E hr h=>?_)
 ·obtain⟨e,fx,c,t,l,m,cs,ss,pr,ok,rfl,_⟩:=h
  rfl
 ·intro XX
  obtain⟨e,fx,c,t,l,m,cs,ss,pr,ok,rfl,hE,hF,hC,⟨ts,vC,gq⟩,ll,lm,lc,nI,gz,k⟩:=h
  have nd:=K7.nd
  obtain⟨es,i6,iF⟩:=id hE
  obtain⟨fs,X2,Mm⟩:=id hF
  have fw:es.length=l.length:=a7 iF
  have X3:fs.length=m.length:=a7 Mm
  have zh:ts.length=ss.length:=a7 gq
  refine⟨_,aq (eJ d5 rfl (dM (pv 3)) (bB (i:=4) nd rfl (rQ rfl))
    (aq (sJ rfl nd (i:=5) rfl rfl (sL rfl rfl rfl rfl) (dM (pv 2)) (iz (own:=[("number",6)]) rfl)
     (λs H C cl fp=>bB (i:=6) nd rfl (ay rfl))
     (λs H C cl fp=>oS (bC (WD K) (pv 6) (pv 4) (by rfl)))
     (λs H C cl fp=>aG (bj K) (pv 0) (pv 6) (λ_ _=>rfl)))
    (au (bF (oK (dJ (aL DC hr aI (ae (bW iy (pv 1) (pv 5)) af)))) (au (aM (pv 4))) bM))))
   (au (aM IV)),?_⟩
  refine⟨_,rfl,t,rfl,⟨_,ah.of vC⟩,?_⟩
  refine iq (K:=K) (a:=t) (xs:=ts.map V.ref) (λi σ H'=>∃v4 v5 v6:Option V,σ=[some (.ref e),some (.ref fx),some (.ref c),some (.ref t),v4,v5,v6]/\aa H H'/\∀s∈ss.take i,pr s=false) ⟨none,none,none,rfl,aa.refl H,by simp⟩ ?_ ?_ ?_
  ·rintro i σ H' _ ⟨_,_,_,_,sm,_⟩
   exact ah.of (sm _ _ vC)
  ·rintro i y σ H' hi ⟨v4,v5,v6,rfl,sm,a6⟩
   obtain⟨p,hp,rfl⟩:=dO hi
   obtain⟨s,hs,Ep,zi⟩:=Paired.at' gq hp
   refine⟨_,rfl,c,rfl,⟨_,ah.of (sm _ _ hC)⟩,λD hD=>?_⟩
   have vz:H D=none:=sm.free hD
   have s2:∀o,aa H (upd H' D o):=λo b u q=>by rw[ao (aF (sm _ _ q) hD)];exact sm _ _ q
   refine j6 (K:=K) (xs:=vN cs) (λj H3=>∃qs:List Addr,H3=upd H' D (.lst (qs.map V.ref))/\Paired (oX K H3) qs (k9 l (cs.take j) s)/\qs.length<=j) ⟨[],rfl,.nil,aT _⟩ ?_ ?_ ?_
   ·rintro j H3 _ ⟨qs,rfl,_⟩
    exact ah.of (s2 _ _ _ hC)
   ·rintro j y H3 hj ⟨qs,rfl,hq,lq⟩
    obtain⟨n,hn,rfl⟩:=qE hj
    have rT:j<cs.length:=(bE.mp hn).1
    have vD:n<l.length:=nI n (bL hn)
    obtain⟨ea,vE,X4⟩:=Paired.at iF (bX vD)
    have elt:=X0 (l:=l) (s:=s) hn
    refine⟨rfl,_,rfl,_,rfl,p,_,rfl,.inl (ah.of (s2 _ _ _ zi)),rfl,DY s,_,rfl,?_⟩
    show if(!iw (.int (n:Int)) (vN s))=true then _ else _
    rw[LH]
    cases hc:s.contains n with
    |true=>
     rw[hc,if_pos rfl,gP]at elt
     refine aZ ⟨qs,rfl,?_,by omega⟩
     rw[elt]
     exact hq
    |false=>
     rw[hc,if_neg cG]at elt
     refine aY ⟨_,rfl,_,rfl,e,_,(n:Int),_,rfl,rfl,ah.of (s2 _ _ _ i6),du (v:=V.ref ea) (by rw[ck,vE];rfl),_,aj,?_,qs++[ea],?_,?_,?_⟩
     ·rw[aA];exact eA (by omega)
     ·rw[fJ,bI];rfl
     ·rw[elt]
      refine Paired.app ?_ (.cons ?_ .nil)
      ·refine L2.Paired.aX hq λx y z=>?_
       have z':aB K (upd H' D (.lst (qs.map V.ref))) x [.int y.1,.int y.2]:=z
       rcases z' with(z'|⟨o,z'⟩)|z'
       ·refine .inl (.inl ?_)
        by_cases hx:x=D
        ·rw[hx,aj]at z';cases z'
        ·rw[ao hx]at z'⊢;rw[ao hx];exact z'
       ·refine .inl (.inr ⟨o,?_⟩)
        by_cases hx:x=D
        ·rw[hx,aj]at z';cases z'
        ·rw[ao hx]at z'⊢;rw[ao hx];exact z'
       ·exact .inr z'
      ·rw[bX vD]
       have z:=aa.tup (s2 (.lst (qs.map V.ref))) X4
       rcases z with(z'|⟨o,z'⟩)|z'
       ·refine .inl (.inl ?_)
        by_cases hx:ea=D
        ·rw[hx,aj]at z';cases z'
        ·rw[ao hx]at z'⊢;rw[ao hx];exact z'
       ·refine .inl (.inr ⟨o,?_⟩)
        by_cases hx:ea=D
        ·rw[hx,aj]at z';cases z'
        ·rw[ao hx]at z'⊢;rw[ao hx];exact z'
       ·exact .inr z'
     ·rw[bf,fZ];omega
   ·rintro H3 ⟨qs,rfl,hq,lq⟩
    rw[cA,cO]at hq
    rw[cA]at lq
    have Er:upd H' D (.lst (qs.map V.ref)) fx=some (.lst (fs.map V.ref)):=s2 _ _ _ X2
    refine⟨_,rfl,_,rfl,fx,D,_,_,rfl,rfl,Er,aj,?_,λg hg=>?_⟩
    ·rw[aA,aA,X3,sizeLine_eq]
     omega
    have X5:qs.length=(k9 l cs s).length:=a7 hq
    have s3:∀o,aa (upd H' D (.lst (qs.map V.ref))) (upd (upd H' D (.lst (qs.map V.ref))) g o):=λo=>aa.new hg
    refine⟨g,m++k9 l cs s,rfl,⟨fs++qs,ah.of (by rw[aj,bI]),Paired.app (L2.Paired.aX Mm λ_ _ q=>aa.tup ((s2 _).trans (s3 _)) q) (L2.Paired.aX hq λ_ _ q=>aa.tup (s3 _) q)⟩,?_,λH4 b s4 hb=>⟨b,rfl,?_⟩⟩
    ·rw[bf,<-X5]
     omega
    have Mo:aa H H4:=((s2 _).trans (s3 _)).trans s4
    have oZ:s∈ss:=bL hs
    have nA:=gz s oZ
    cases b with
    |true=>
     refine aZ ⟨_,_,_,rfl,Mo,λs' e8=>?_⟩
     rw[take_one hs]at e8
     rcases cP.mp e8 with e8|e8
     ·exact a6 s' e8
     ·rw[cY.mp e8]
      cases q:pr s with
      |false=>rfl
      |true=>exact absurd (nA.mp q) (hb.mp rfl)
    |false=>
     refine aY ⟨_,rfl,?_⟩
     have hd:Br.bg (m++k9 l cs s):=agU λz=>by have:=hb.mpr z;cases this
     refine(k H4 Mo).2 s p ?_ Ep zi
     have e1:ss=ss.take i++s::ss.drop (i+1):=by
      have l9:=(bE.mp hs).1
      have e2:ss[i]=s:=(bE.mp hs).2
      rw[<-e2,<-wJ l9,PF]
     rw[e1,GL]
     have e3:(ss.take i).find? pr=none:=lO.mpr λs' e8=>by rw[a6 s' e8];exact cG
     rw[e3,jP,nA.mpr hd]
     rfl
  ·rintro σ H' ⟨v4,v5,v6,rfl,sm,a6⟩
   rw[aA,zh,cO]at a6
   refine(k H' sm).1 (lO.mpr λs hs=>?_)
   rw[a6 s hs]
   exact cG
def Es(K:ai):Sp:=λvs H Q _=>∃(t c:Addr)(ss:List (List Nat))(cs:List Nat)(ok:Addr->Prop),vs=[.ref t,.ref c]/\k_ ok H t ss/\H c=some (.lst (vN cs))/\cs.length<=100/\ss.length<=2000/\(∀s∈ss,s.length<=100)/\
 ∀(H':Hp)(r:Addr),aa H H'->H r=none->k_ (λp=>H p=none) H' r (Br.dQ ss cs)->Q (.ref r) H'
theorem Mp(cs:List Nat):∀(ss:List (List Nat)),(Br.dQ ss cs).length<=ss.length*cs.length
 |[]=>by unfold Br.dQ;simp
 |s::ss=>by
  have ih:=Mp cs ss
  unfold Br.dQ at ih⊢
  rw[mO,bf,aA,bJ,QF]
  have:(Br.after s cs).length<=cs.length:=ot _ _
  omega
theorem X6(ss:List (List Nat))(s cs:List Nat):Br.dQ (ss++[s]) cs=Br.dQ ss cs++(Br.after s cs).map λx=>s++[x]:=by
 unfold Br.dQ
 rw[pM]
 simp
theorem X7{f:Addr}{fd:FuncData}(B:cq mg)(F:aQ K "one_larger" "one_larger" CN f fd):aK P w K mg base ax 1 f fd ["tried","circling"] (Es K):=by
 refine F.bo K8 (λvs H Q E h=>?_) (λaC A outer s H vs Q E hr h=>?_)
 ·obtain⟨t,c,ss,cs,ok,rfl,_⟩:=h
  rfl
 ·intro XX
  obtain⟨t,c,ss,cs,ok,rfl,⟨ts,vC,gq⟩,hC,lc,lss,hlen,k⟩:=h
  have nd:=K8.nd
  have zh:ts.length=ss.length:=a7 gq
  refine⟨_,aq (aN (i:=2) nd rfl (ay rfl) (cy af))
   (aq (eJ d5 rfl (dM (pv 0)) (bB (i:=3) nd rfl (ay rfl))
    (au (eJ d5 rfl (dM (pv 1)) (bB (i:=4) nd rfl (ay rfl))
     (au (bF (uI (bC ei (bK cb (by rfl) B.len bZ (ae (pv 3) af)) aJ (bw _)) (uH (bC kU (pv 4) (aG (bj K) (pv 3) (Bl Bq aJ) (λ_ _=>rfl)) (bw _)))).pt
      (au (cM (fk fA lJ lI j5 (pv 2) (ae (bW iy (pv 3) (cy (ae (pv 4) af))) af)))) bM)))))
   (au (aM (pv 2)))),?_⟩
  refine⟨cw _,λg hg=>?_⟩
  have s1:aa H (upd H g (.lst [])):=aa.new hg
  refine⟨_,rfl,t,rfl,⟨_,ah.of (s1 _ _ vC)⟩,?_⟩
  refine iq (K:=K) (a:=t) (xs:=ts.map V.ref) (λi σ H'=>∃(v3 v4:Option V)(rs:List Addr),σ=[some (.ref t),some (.ref c),some (.ref g),v3,v4]/\aa H H'/\H' g=some (.lst (rs.map V.ref))/\Paired (λp s=>(p≠g/\H p=none)/\H' p=some (.lst (vN s))) rs (Br.dQ (ss.take i) cs))
   ⟨none,none,[],rfl,s1,aj,.nil⟩ ?_ ?_ ?_
  ·rintro i σ H' _ ⟨_,_,_,_,sm,_⟩
   exact ah.of (sm _ _ vC)
  ·rintro i y σ H' hi ⟨v3,v4,rs,rfl,sm,hG,hP⟩
   obtain⟨p,hp,rfl⟩:=dO hi
   obtain⟨s,hs,_,zi⟩:=Paired.at' gq hp
   have mV:i<ss.length:=(bE.mp hs).1
   have oZ:s∈ss:=bL hs
   have lsz:=hlen s oZ
   refine⟨_,rfl,c,rfl,⟨_,ah.of (sm _ _ hC)⟩,?_⟩
   refine iq (K:=K) (a:=c) (xs:=vN cs) (λj σ' H2=>∃(v4:Option V)(rs:List Addr),σ'=[some (.ref t),some (.ref c),some (.ref g),some (.ref p),v4]/\aa H H2/\H2 g=some (.lst (rs.map V.ref))/\Paired (λp s=>(p≠g/\H p=none)/\H2 p=some (.lst (vN s))) rs (Br.dQ (ss.take i) cs++(Br.after s (cs.take j)).map λx=>s++[x]))
    ⟨_,rs,rfl,sm,hG,?_⟩ ?_ ?_ ?_
   ·have e0:(Br.after s (cs.take 0)).map (λx=>s++[x])=[]:=by unfold Br.after;simp
    rw[e0,gP]
    exact hP
   ·rintro j σ' H2 _ ⟨_,_,_,cu,_⟩
    exact ah.of (cu _ _ hC)
   ·rintro j y σ' H2 hj ⟨v4,rs,rfl,cu,qG,o_⟩
    obtain⟨n,hn,rfl⟩:=qE hj
    have nA:=cu _ _ zi
    have rT:j<cs.length:=(bE.mp hn).1
    have Mq:Br.after s (cs.take (j+1))=Br.after s (cs.take j)++(if(decide (s=[])||decide (Br.lastOf s<n))=true then[n]else[]):=by
     rw[take_one hn]
     unfold Br.after
     rw[ou,f_]
     rfl
    have app:(decide (s=[])||decide (Br.lastOf s<n))=true->xO (BF K "list" JD (bu 2) (bT (kS yl (bu 3) (x9 (bT (bu 4) dR))) dR)) {nx:=λσ' H3=>∃(v4:Option V)(rs:List Addr),σ'=[some (.ref t),some (.ref c),some (.ref g),some (.ref p),v4]/\aa H H3/\H3 g=some (.lst (rs.map V.ref))/\Paired (λp s=>(p≠g/\H p=none)/\H3 p=some (.lst (vN s))) rs (Br.dQ (ss.take i) cs++(Br.after s (cs.take (j+1))).map λx=>s++[x]),rt:=λ_ _=>False} [some (.ref t),some (.ref c),some (.ref g),some (.ref p),some (.int (n:Int))] H2:=by
     intro gC
     refine⟨_,rfl,.inl ⟨rfl,_,ah.of qG⟩,_,rfl,_,rfl,by show 1<=sizeLine;decide,λn1 qH=>?_⟩
     have X8:upd H2 n1 (.lst [.int (n:Int)]) p=some (.lst (vN s)):=by rw[ao (aF nA qH)];exact nA
     refine⟨p,n1,_,_,rfl,rfl,X8,aj,?_,λn2 ql=>?_⟩
     ·rw[cA,sizeLine_eq]
      show s.length+1<=_
      omega
     have X9:n1≠n2:=λz=>by rw[<-z,aj]at ql;cases ql
     have Et:H2 n2=none:=by rw[ao (Ne.symm X9)]at ql;exact ql
     have X_:g≠n1:=aF qG qH
     have Eu:g≠n2:=aF qG Et
     have Ya:upd (upd H2 n1 (.lst [.int (n:Int)])) n2 (.lst (vN s++[.int (n:Int)])) g=some (.lst (rs.map V.ref)):=by rw[ao Eu,ao X_];exact qG
     have lrs:rs.length<=2000*100+100:=by
      rw[a7 o_,bf,aA]
      have h1:=Mp cs (ss.take i)
      have h2:(Br.after s (cs.take j)).length<=cs.length:=cp (ot _ _) (by rw[fC];omega)
      have h3:(ss.take i).length*cs.length<=2000*100:=Nat.mul_le_mul (by rw[fC];omega) lc
      omega
     refine⟨g,_,_,rfl,rfl,Ya,by rw[aA,sizeLine_eq];omega,?_⟩
     have s3:∀o b u,H2 b=some u->b≠g->upd (upd (upd H2 n1 (.lst [.int (n:Int)])) n2 (.lst (vN s++[.int (n:Int)]))) g o b=some u:=λo b u q nb=>by
      rw[ao nb,ao (aF q Et),ao (aF q qH)]
      exact q
     refine⟨_,rs++[n2],rfl,λb u q=>s3 _ b u (cu _ _ q) (aF q hg),?_,?_⟩
     ·rw[aj,bI]
      rfl
     ·rw[Mq,if_pos gC,bI,<-mP]
      refine Paired.app (L2.Paired.aX o_ λx y z=>⟨z.1,s3 _ x _ z.2 z.1.1⟩) (.cons ⟨⟨Ne.symm Eu,cu.free Et⟩,?_⟩ .nil)
      rw[ao (Ne.symm Eu),aj,kb]
      rfl
    have jX:¬(decide (s=[])||decide (Br.lastOf s<n))=true->∃(v4:Option V)(rs:List Addr),([some (.ref t),some (.ref c),some (.ref g),some (.ref p),some (.int (n:Int))]:L2.St)=[some (.ref t),some (.ref c),some (.ref g),some (.ref p),v4]/\aa H H2/\H2 g=some (.lst (rs.map V.ref))/\Paired (λp s=>(p≠g/\H p=none)/\H2 p=some (.lst (vN s))) rs (Br.dQ (ss.take i) cs++(Br.after s (cs.take (j+1))).map λx=>s++[x]):=by
     intro a6
     refine⟨_,rs,rfl,cu,qG,?_⟩
     rw[Mq,if_neg a6,gP]
     exact o_
    refine⟨_,rfl,p,_,rfl,.inl (ah.of nA),rfl,_,rfl,?_⟩
    have d0:decide (V.int ((vN s).length:Int)=V.int 0)=decide (s=[]):=by
     rw[cA]
     refine decide_eq_decide.mpr ⟨λz=>?_,λz=>by rw[z];rfl⟩
     injection z with z
     exact rA.mp (by omega)
    rw[d0]
    by_cases pd:s=[]
    ·rw[decide_eq_true pd]
     exact aY (aY (app (by rw[decide_eq_true pd];rfl)))
    ·rw[decide_eq_false pd]
     have xk:vN s=vN s.dropLast++[.int (Br.lastOf s:Int)]:=by
      have e1:=Gq pd
      have e2:Br.lastOf s=s.getLast pd:=by unfold Br.lastOf;rw[Gp pd];rfl
      rw[e2]
      have e3:vN s=vN (s.dropLast++[s.getLast pd]):=by rw[e1]
      rw[e3,kb]
      rfl
     refine aZ ⟨_,rfl,_,rfl,1,rfl,p,_, -1,_,rfl,rfl,ah.of nA,(by rw[xk];exact BD _ _),_,_,rfl,rfl,_,rfl,?_⟩
     have d1:decide ((Br.lastOf s:Int)<(n:Int))=decide (Br.lastOf s<n):=decide_eq_decide.mpr ⟨λz=>by omega,λz=>by omega⟩
     show if decide ((Br.lastOf s:Int)<(n:Int))=true then _ else _
     rw[d1]
     by_cases gS:Br.lastOf s<n
     ·rw[decide_eq_true gS]
      exact aY (app (by rw[decide_eq_true gS,QB]))
     ·rw[decide_eq_false gS]
      exact aZ (jX (by rw[decide_eq_false gS,decide_eq_false pd];exact cG))
   ·rintro σ' H2 ⟨v4,rs,rfl,cu,qG,o_⟩
    rw[cA,cO]at o_
    refine⟨_,_,rs,rfl,cu,qG,?_⟩
    rw[take_one hs,X6]
    exact o_
  ·rintro σ H' ⟨v3,v4,rs,rfl,sm,hG,hP⟩
   rw[aA,zh,cO]at hP
   refine⟨_,rfl,k H' g sm hg ⟨rs,hG,L2.Paired.aX hP λ_ _ z=>⟨z.1.2,z.2⟩⟩⟩
end
end Bp
set_option Elab.async false
set_option linter.all false
set_option maxRecDepth 100000
set_option maxHeartbeats 2000000
namespace Bp
open PySem PySem.Spec PyProof.Rows L2
open Vadiaa (Arc)
section
variable{P:Program}{w:World}{K:ai}{mg:Str->Option Value}{base:Heap}
theorem Ew:∀(k:Nat)(c:List Nat),(lS k c).length<=2 ^ c.length
 |0,c=>by
  have e:lS 0 c=[[]]:=by cases c<;>rfl
  rw[e]
  exact Nat.one_le_two_pow
 |_+1,[]=>cw _
 |k+1,x::r=>by
  show((lS k r).map (λl=>x::l)++lS (k+1) r).length<=2 ^ (r.length+1)
  have h1:=Ew k r
  have h2:=Ew (k+1) r
  rw[bf,aA,Nat.pow_succ]
  omega
def pf(n:Nat)(F:List Arc)(a:Arc):Bool:=(G_ n F a.2).contains a.1
theorem Ex{n:Nat}{F:List Arc}(hF:Br.bt n F){a:Arc}(ha:a∈F):pf n F a=true↔Br.Reach F a.2 a.1:=by
 unfold pf
 rw[PJ]
 exact Br.oC hF (hF a ha).2
def Ey(K:ai):Sp:=λvs H Q _=>∃(e wv c:Addr)(l m:List Arc)(cs s0:List Nat)(n k0:Nat)(pr:List Nat->Bool),vs=[.ref e,.ref wv,.ref c]/\bD K H e l/\bD K H wv m/\H c=some (.lst (vN cs))/\
 l.length<=100/\m.length<=100/\cs.length<=10/\cs.Pairwise (· < ·)/\(∀i∈cs,i<l.length)/\Br.bt n (l++m)/\n<=999/\(∀s,pr s=true↔Br.bg (m.filter (pf n (l++m))++k9 l cs s))/\
 (∀j,j<k0->(lS j cs).find? pr=none)/\(lS k0 cs).find? pr=some s0/\∀(H':Hp)(r:Addr),aa H H'->H r=none->H' r=some (.lst (vN s0))->Q (.ref r) H'
theorem Yb{f:Addr}{fd:FuncData}(B:cq mg)(F:aQ K "least_set" "least_set" CL f fd)(DL:aS P w K mg base ax 3 "leads" ["arcs","start","goal"] (vv K))
  (DB:aS P w K mg base ax 2 "first_that_breaks" ["edges","fixed","circling","tried"] (zg K)) (DO:aS P w K mg base ax 1 "one_larger" ["tried","circling"] (Es K)):
  aK P w K mg base ax 4 f fd ["edges","wishes","circling"] (Ey K):=by
 refine F.bo K6 (λvs H Q E h=>?_) (λaC A outer s H vs Q E hr h=>?_)
 ·obtain⟨e,wv,c,l,m,cs,s0,n,k0,pr,rfl,_⟩:=h
  rfl
 ·intro XX
  obtain⟨e,wv,c,l,m,cs,s0,n,k0,pr,rfl,hE,hW,hC,ll,lm,lc,Yc,nI,hn,k7,gz,Mr,qI,k⟩:=h
  have nd:=K6.nd
  have dU:=hr.mono (show 2<=3 by decide)
  have bq:=hr.mono (show 1<=3 by decide)
  obtain⟨es,i6,iF⟩:=id hE
  obtain⟨qs,qJ,mn⟩:=id hW
  have fw:es.length=l.length:=a7 iF
  have i5:qs.length=m.length:=a7 mn
  refine⟨_,aq (aN (i:=3) nd rfl (rQ rfl) (bW iy (pv 0) (pv 1)))
   (aq (sJ rfl nd (i:=4) rfl rfl (sL rfl rfl rfl rfl) (dM (pv 1)) (iz (own:=[("wish",7)]) rfl)
     (λs H C cl fp=>bB (i:=7) nd rfl (ay rfl))
     (λs H C cl fp=>oS (dJ (aL DL hr aI (ae (pv 3) (ae (aG (bQ K) (pv 7) aJ (λ_ _=>rfl)) (ae (aG (bQ K) (pv 7) aJ (λ_ _=>rfl)) af))))))
     (λs H C cl fp=>pv 7))
   (aq (aN (i:=5) nd rfl (ay rfl) (cy (ae (cy af) af)))
   (aq (aN (i:=6) nd rfl (ay rfl) (aL DB dU aI (ae (pv 0) (ae (pv 4) (ae (pv 2) (ae (pv 5) af))))))
   (aq (iU d5 (oJ (IX (pv 6)))
    (aq (aN (i:=5) nd rfl (ay rfl) (aL DO bq aI (ae (pv 5) (ae (pv 2) af))))
    (au (aN (i:=6) nd rfl (ay rfl) (aL DB dU aI (ae (pv 0) (ae (pv 4) (ae (pv 2) (ae (pv 5) af)))))))))
   (au (aM (pv 6))))))),?_⟩
  refine⟨_,rfl,_,rfl,e,wv,_,_,rfl,rfl,i6,qJ,?_,λa ha=>?_⟩
  ·rw[aA,aA,fw,i5,sizeLine_eq]
   omega
  have s1:aa H (upd H a (.lst (es.map V.ref++qs.map V.ref))):=aa.new ha
  have hA:fQ K (upd H a (.lst (es.map V.ref++qs.map V.ref))) a (l++m):=by
   refine⟨es++qs,ah.of (by rw[aj,bI]),Paired.app (L2.Paired.aX iF λ_ _ q=>aa.tup s1 q) (L2.Paired.aX mn λ_ _ q=>aa.tup s1 q)⟩
  refine⟨_,rfl,wv,rfl,⟨_,ah.of (s1 _ _ qJ)⟩,λD hD=>?_⟩
  have vz:H D=none:=s1.free hD
  refine j6 (K:=K) (xs:=qs.map V.ref) (λi H'=>(∀b o,upd H a (.lst (es.map V.ref++qs.map V.ref)) b=some o->H' b=some o)/\H' D=some (.lst ((sel (pf n (l++m)) (qs.take i) (m.take i)).map V.ref))) ⟨aa.new hD,by rw[aj];rfl⟩ ?_ ?_ ?_
  ·rintro i H' _ ⟨sm,_⟩
   exact ah.of (sm _ _ (s1 _ _ qJ))
  ·rintro i y H' hi ⟨sm,mi⟩
   obtain⟨p,hp,rfl⟩:=dO hi
   obtain⟨aD,dW,hJ⟩:=Paired.at' mn hp
   have k8:=aa.tup sm (aa.tup s1 hJ)
   have mem:aD∈l++m:=eL _ (bL dW)
   have l9:i<m.length:=(bE.mp dW).1
   refine⟨rfl,_,rfl,_,rfl,p,_,1,_,rfl,rfl,k8,gv,_,rfl,p,_,0,_,rfl,rfl,k8,dC,a,l++m,n,aD.2,aD.1,rfl,hA.same sm,by rw[bf];omega,hn,(hn _ mem).2,k7,λH3 bb s3 hb=>⟨bb,rfl,?_⟩⟩
   have fu:=DV (g:=pf n (l++m)) hp dW
   have eb:pf n (l++m) aD=bb:=by
    rw[gb,Ex hn mem,hb]
   rw[eb]at fu
   cases bb with
   |true=>
    rw[if_pos rfl]at fu
    refine aY ⟨_,rfl,_,s3 _ _ mi,?_,λb' o q=>?_,?_⟩
    ·rw[aA]
     refine eA (cp (DX _ _) ?_)
     rw[fC]
     omega
    ·rw[ao (aF q hD)]
     exact s3 _ _ (sm _ _ q)
    ·rw[aj,fu,bI]
     rfl
   |false=>
    rw[if_neg cG,gP]at fu
    refine aZ ⟨λb' o q=>s3 _ _ (sm _ _ q),?_⟩
    rw[fu]
    exact s3 _ _ mi
  ·rintro H' ⟨sm,mi⟩
   have e1:qs.take (qs.map V.ref).length=qs:=by rw[aA,cO]
   have e2:m.take (qs.map V.ref).length=m:=by rw[aA,i5,cO]
   rw[e1,e2]at mi
   have sH:aa H H':=s1.trans sm
   have Er:bD K H' D (m.filter (pf n (l++m))):=⟨_,mi,yZ (L2.Paired.aX mn λ_ _ q=>aa.tup sH q)⟩
   have Yd:(m.filter (pf n (l++m))).length<=100:=cp (ot _ _) lm
   refine⟨cw _,λt0 Ms=>⟨by show 1<=sizeLine;decide,λt1 Ez=>?_⟩⟩
   have s2:aa H' (upd (upd H' t0 (.lst [])) t1 (.lst [.ref t0])):=(aa.new Ms).trans (aa.new Ez)
   have nt:t0≠t1:=λz=>by rw[<-z,aj]at Ez;cases Ez
   have qK:k_ (λp=>H p=none) (upd (upd H' t0 (.lst [])) t1 (.lst [.ref t0])) t1 (lS 0 cs):=by
    have ec:lS 0 cs=[[]]:=by cases cs<;>rfl
    rw[ec]
    refine⟨[t0],by rw[aj];rfl,.cons ⟨sH.free Ms,?_⟩ .nil⟩
    rw[ao nt,aj]
    rfl
   have search:∀(j:Nat)(t:Addr)(H2:Hp)(v6 v7:Option V),j<=k0->aa H' H2->k_ (λp=>H p=none) H2 t (lS j cs)->∀(R:V->Hp->Prop),(∀H3,aa H2 H3->(j<k0->R .aO H3)/\∀r,H r=none->H3 r=some (.lst (vN s0))->R (.ref r) H3)->
     jn (zg K) [] E0 (bT (bu 0) (bT (bu 4) (bT (bu 2) (bT (bu 5) dR)))) [some (.ref e),some (.ref wv),some (.ref c),some (.ref a),some (.ref D),some (.ref t),v6,v7] H2 R:=by
    intro j t H2 v6 v7 hj cu hT R hR
    refine⟨_,rfl,_,rfl,_,rfl,_,rfl,e,D,c,t,l,_,cs,_,pr,(λp=>H p=none),rfl,hE.same (sH.trans cu),Er.same cu,cu _ _ (sH _ _ hC),hT,ll,Yd,by omega,nI,λs _=>gz s,λH3 s3=>⟨λs_=>?_,λs p zj Ep hp=>?_⟩⟩
    ·refine(hR H3 s3).1 (Nat.lt_of_le_of_ne hj λz=>?_)
     rw[z,qI]at s_
     cases s_
    ·have ej:j=k0:=by
      by_cases z:j<k0
      ·rw[Mr j z]at zj
       cases zj
      ·omega
     rw[ej,qI]at zj
     cases zj
     exact(hR H3 s3).2 p Ep (s3 _ _ hp)
   refine search 0 t1 _ _ _ (cw _) s2 qK _ λH3 s3=>?_
   have loop:∀(fv:V),((fv=.aO/\0<k0)\/∃r,fv=.ref r/\H r=none/\H3 r=some (.lst (vN s0)))->Ja (tB (IW (bu 6))) (l6 (sr (jn (Es K) [] E0 (bT (bu 5) (bT (bu 2) dR))) (m8 5)) (sr (jn (zg K) [] E0 (bT (bu 0) (bT (bu 4) (bT (bu 2) (bT (bu 5) dR))))) (m8 6)))
     {nx:=qg (bu 6) {nx:=λ_ H'=>Q .aO H',rt:=Q},rt:=Q} [some (.ref e),some (.ref wv),some (.ref c),some (.ref a),some (.ref D),some (.ref t1),some fv,none] H3:=by
    intro fv EA
    refine⟨λmm σ H4=>∃(t:Addr)(fv:V)(j:Nat),mm=k0-j/\σ=[some (.ref e),some (.ref wv),some (.ref c),some (.ref a),some (.ref D),some (.ref t),some fv,none]/\aa H' H4/\k_ (λp=>H p=none) H4 t (lS j cs)/\j<=k0/\((fv=.aO/\j<k0)\/∃r,fv=.ref r/\H r=none/\H4 r=some (.lst (vN s0))),
     ⟨_,t1,fv,0,rfl,rfl,s2.trans s3,?_,cw _,EA⟩,?_⟩
    ·exact qK.same s3
    ·rintro mm σ H4 ⟨t,fv,j,rfl,rfl,kf,lg,hj,EA⟩
     rcases EA with⟨rfl,jh⟩|⟨r,rfl,vF,lh⟩
     ·refine⟨_,rfl,_,rfl,aY ⟨λσ' H5=>∃(t:Addr)(fv:V),σ'=[some (.ref e),some (.ref wv),some (.ref c),some (.ref a),some (.ref D),some (.ref t),some fv,none]/\aa H' H5/\k_ (λp=>H p=none) H5 t (lS (j+1) cs)/\((fv=.aO/\j+1<k0)\/∃r,fv=.ref r/\H r=none/\H5 r=some (.lst (vN s0))),?_,?_⟩⟩
      ·rintro σ' H5 ⟨t',Ye,rfl,Yf,ph,Yg⟩
       exact⟨k0-(j+1),by omega,t',Ye,j+1,rfl,rfl,Yf,ph,jh,Yg⟩
      ·refine⟨_,rfl,_,rfl,t,c,_,cs,_,rfl,lg,kf _ _ (sH _ _ hC),by omega,?_,λs hs=>?_,λH5 t' s5 vG ph=>?_⟩
       ·have:=Ew j cs
        have h2:2 ^ cs.length<=2 ^ 10:=ahu (by decide) lc
        omega
       ·have:=(Br.jk.mp hs).1.length_le
        omega
       ·rw[Br.AH j cs Yc]at ph
        have ph:k_ (λp=>H p=none) H5 t' (lS (j+1) cs):=by
         obtain⟨ps,h1,h2⟩:=ph
         exact⟨ps,h1,L2.Paired.aX h2 λ_ _ z=>⟨(sH.trans kf).free z.1,z.2⟩⟩
        refine search (j+1) t' H5 _ _ jh (kf.trans s5) ph _ λH6 s6=>⟨λaV=>?_,λr vF EB=>?_⟩
        ·exact⟨t',.aO,rfl,(kf.trans s5).trans s6,ph.same s6,.inl ⟨rfl,aV⟩⟩
        ·exact⟨t',.ref r,rfl,(kf.trans s5).trans s6,ph.same s6,.inr ⟨r,rfl,vF,EB⟩⟩
     ·exact⟨_,rfl,_,rfl,aZ ⟨_,rfl,k H4 r (sH.trans kf) vF lh⟩⟩
   exact⟨λh0=>loop .aO (.inl ⟨rfl,h0⟩),λr vF e7=>loop (.ref r) (.inr ⟨r,rfl,vF,e7⟩)⟩
def Mt(K:ai):Sp:=λvs H Q _=>∃(e wv:Addr)(d:d6),vs=[.ref e,.ref wv]/\Br.gf d/\bD K H e (eF d)/\bD K H wv (eN d)/\
 ∀(H':Hp)(r:Addr),aa H H'->H r=none->H' r=some (.lst (vN (lP d)))->Q (.ref r) H'
theorem kg(d:d6):(eN d).length=d.wishes.length:=by unfold eN;simp
theorem Yh{l l':List Arc}(h:∀a,a∈l↔a∈l'){u v:Nat}:Br.Reach l u v↔Br.Reach l' u v:=⟨λr=>r.mono λa ha=>(h a).mp ha,λr=>r.mono λa ha=>(h a).mpr ha⟩
theorem Yi{f:Addr}{fd:FuncData}(B:cq mg)(F:aQ K "edges_not_kept" "edges_not_kept" CK f fd)(DL:aS P w K mg base ax 3 "leads" ["arcs","start","goal"] (vv K)):
  aK P w K mg base ax 4 f fd ["edges","wishes"] (Mt K):=by
 refine F.bo K5 (λvs H Q E h=>?_) (λaC A outer s H vs Q E hr h=>?_)
 ·obtain⟨e,wv,d,rfl,_⟩:=h
  rfl
 ·intro XX
  obtain⟨e,wv,d,rfl,G,hE,hW,k⟩:=h
  have nd:=K5.nd
  obtain⟨es,i6,iF⟩:=id hE
  obtain⟨qs,qJ,mn⟩:=id hW
  have fw:es.length=(eF d).length:=a7 iF
  have i5:qs.length=(eN d).length:=a7 mn
  have lE:(eF d).length<=40:=by rw[Br.ie];exact G.ne
  have lW:(eN d).length<=16:=by rw[kg];exact G.nw
  refine⟨_,aq (aN (i:=2) nd rfl (ay rfl) (iu yh (by rfl) B.list (by decide+kernel) (ae (pv 1) af)))
   (aq (aN (i:=3) nd rfl (ay rfl) (cy af))
   (aq (eJ d5 rfl (sO (by rfl) B.enum (ae (pv 0) af)) (iZ K 2 rfl (dA (bB (i:=4) nd rfl (ay rfl)) (dA (bB (i:=5) nd rfl (ay rfl)) iT)))
    (au (bF (dJ (aL DL hr aI (ae (pv 2) (ae (aG (bQ K) (pv 5) aJ (λ_ _=>rfl)) (ae (aG (bQ K) (pv 5) aJ (λ_ _=>rfl)) af)))))
     (au (cM (fk fA lJ lI j5 (pv 3) (ae (pv 4) af))))
     (au (cM (fk fA lJ lI j5 (pv 2) (ae (pv 5) af)))))))
   (au (aM (pv 3))))),?_⟩
  refine⟨_,rfl,wv,_,rfl,.inl (ah.of qJ),λc hc=>?_⟩
  refine⟨cw _,λg hg=>?_⟩
  have cg:c≠g:=λz=>by rw[<-z,aj]at hg;cases hg
  have Mu:H g=none:=by rw[ao (Ne.symm cg)]at hg;exact hg
  have s1:aa H (upd (upd H c (.lst (qs.map V.ref))) g (.lst [])):=(aa.new hc).trans (aa.new hg)
  refine⟨_,rfl,e,_,rfl,ah.of (s1 _ _ i6),?_⟩
  refine yY (n:=(eF d).length) (λi σ H'=>∃(v4 v5:Option V)(kp:List Arc)(ks:List Addr)(kept:List Arc)(nk:List Nat),σ=[some (.ref e),some (.ref wv),some (.ref c),some (.ref g),v4,v5]/\aa H H'/\H' c=some (.lst (ks.map V.ref))/\Paired (oX K H') ks kp/\H' g=some (.lst (vN nk))/\(∀a,a∈kp↔a∈kept)/\kp.length<=16+i/\nk.length<=i/\Br.jU d i kept nk)
   ⟨none,none,eN d,qs,eN d,[],rfl,s1,?_,?_,by rw[aj];rfl,λa=>Iff.rfl,by omega,aT _,Br.jU.start G.toGood⟩ ?_ ?_ ?_ ?_
  ·rw[ao cg,aj]
  ·exact L2.Paired.aX mn λ_ _ q=>aa.tup s1 q
  ·rintro i σ H' hi ⟨_,_,_,_,_,_,_,sm,_⟩
   exact sU (ah.of (sm _ _ i6)) (by rw[aA,fw];exact hi)
  ·rintro σ H' ⟨_,_,_,_,_,_,_,sm,_⟩
   have:=sV (K:=K) (ah.of (sm _ _ i6))
   rw[aA,fw]at this
   exact this
  ·rintro i σ H' x H2 hi ⟨v4,v5,kp,ks,kept,nk,rfl,sm,fS,qL,EC,bV,Yj,Yk,gr⟩ ⟨T,y,rfl,hT,rfl,hy⟩
   obtain⟨p,hp,rfl⟩:=dO (hy _ (ah.of (sm _ _ i6)))
   obtain⟨aD,dW,hJ⟩:=Paired.at' iF hp
   have sT:aa H' (upd H' T (.tup [.int (i:Nat),.ref p])):=aa.new hT
   have k8:aB K (upd H' T (.tup [.int (i:Nat),.ref p])) p [.int aD.1,.int aD.2]:=aa.tup (sm.trans sT) hJ
   have mW:=G.jS aD (bL dW)
   have e_:Br.bt d.boxes.length kp:=λa ha=>gr.jV a ((bV a).mp ha)
   have lks:ks.length=kp.length:=a7 qL
   refine⟨T,_,rfl,aB.of aj,rfl,_,_,rfl,_,_,rfl,rfl,?_⟩
   refine⟨_,rfl,_,rfl,p,_,1,_,rfl,rfl,k8,gv,_,rfl,p,_,0,_,rfl,rfl,k8,dC,c,kp,d.boxes.length,aD.2,aD.1,rfl,⟨ks,ah.of (sT _ _ fS),L2.Paired.aX qL λ_ _ q=>aa.tup sT q⟩,by omega,e_,mW.2,by have:=G.nb;omega,λH3 bb s3 hb=>⟨bb,rfl,?_⟩⟩
   have s4:aa H' H3:=sT.trans s3
   have eY:bb=true↔Br.Reach kept aD.2 aD.1:=hb.trans (Yh bV)
   obtain⟨t1,t2⟩:=gr.turn G.toGood dW
   have qM:=s4 _ _ fS
   have zk:=s4 _ _ EC
   have nt:∀(q:Addr)(ys:List V)(D:Addr)(o:List V)(o':List V),aB K H3 q ys->H3 D=some (.lst o)->aB K (upd H3 D (.lst o')) q ys:=by
    intro q ys D o o' z hD
    rcases z with(z|⟨ob,z⟩)|z
    ·refine .inl (.inl ?_)
     rw[ao (dq z hD (by intro q;cases q))]
     exact z
    ·refine .inl (.inr ⟨ob,?_⟩)
     rw[ao (dq z hD (by intro q;cases q))]
     exact z
    ·exact .inr z
   cases bb with
   |true=>
    refine aY ⟨_,rfl,.inl ⟨rfl,_,ah.of zk⟩,_,rfl,g,_,_,rfl,rfl,zk,by rw[cA];exact eA (by omega),?_⟩
    refine⟨_,_,kp,ks,kept,nk++[i],rfl,λb o q=>?_,?_,?_,?_,bV,by omega,by rw[bf,fZ];omega,t1 (eY.mp rfl)⟩
    ·rw[ao (aF q Mu)];exact s4 _ _ (sm _ _ q)
    ·rw[ao cg];exact qM
    ·exact L2.Paired.aX qL λ_ _ q=>nt _ _ _ _ _ (aa.tup s4 q) zk
    ·rw[aj,kb];rfl
   |false=>
    refine aZ ⟨_,rfl,.inl ⟨rfl,_,ah.of qM⟩,_,rfl,c,_,_,rfl,rfl,qM,by rw[aA];exact eA (by omega),?_⟩
    have nr:¬Br.Reach kept aD.2 aD.1:=λz=>by have:=eY.mpr z;cases this
    refine⟨_,_,kp++[aD],ks++[p],aD::kept,nk,rfl,λb o q=>?_,?_,?_,?_,λa=>?_,by rw[bf,fZ];omega,by omega,t2 nr⟩
    ·rw[ao (aF q hc)];exact s4 _ _ (sm _ _ q)
    ·rw[aj,bI];rfl
    ·exact Paired.app (L2.Paired.aX qL λ_ _ q=>nt _ _ _ _ _ (aa.tup s4 q) qM) (.cons (nt _ _ _ _ _ (aa.tup (sm.trans s4) hJ) qM) .nil)
    ·rw[ao (Ne.symm cg)];exact zk
    ·rw[cP,cY,bz,bV a]
     exact Or.comm
  ·rintro σ H' ⟨v4,v5,kp,ks,kept,nk,rfl,sm,fS,qL,EC,bV,Yj,Yk,gr⟩
   refine⟨_,rfl,k H' g sm Mu ?_⟩
   rw[gr.done]
   exact EC
theorem Yl{l:List Arc}{cs s:List Nat}(h:∀i∈cs,i<l.length)(a:Arc):a∈k9 l cs s↔∃i,i∈cs/\i∉s/\l[i]? =some a:=by
 unfold k9
 rw[cJ]
 constructor
 ·rintro ⟨i,hi,e⟩
  obtain⟨h1,h2⟩:=dh.mp hi
  refine⟨i,h1,by simpa using h2,?_⟩
  rw[bX (h i h1)]at e⊢
  exact congrArg some e
 ·rintro ⟨i,h1,h2,e⟩
  exact⟨i,dh.mpr ⟨h1,by simpa using h2⟩,by rw[e];rfl⟩
theorem ED{d:d6}:∀i∈iO d,i<(eF d).length:=λi hi=>by
 unfold iO at hi
 have:=(dh.mp hi).1
 rw[Br.ie]
 simpa using this
theorem Ym{H:Hp}{e wv c:Addr}{d:d6}{Q:VK}{E:XK}(G:Br.gf d)(hE:bD K H e (eF d))(hW:bD K H wv (eN d))(hC:H c=some (.lst (vN (iO d))))(fi:(iO d).length<=10)
  (k:∀(H':Hp)(r:Addr),aa H H'->H r=none->H' r=some (.lst (vN (eE d)))->Q (.ref r) H'):Ey K [.ref e,.ref wv,.ref c] H Q E:=by
 have lE:(eF d).length<=40:=by rw[Br.ie];exact G.ne
 have lW:(eN d).length<=16:=by rw[kg];exact G.nw
 have ex:iQ d=true:=decide_eq_true fi
 obtain⟨k0,s0,h2,h3,h4,h5⟩:=Br.xn G.toGood
 have et:eE d=s0:=by unfold eE;rw[if_pos ex];exact h5
 refine⟨e,wv,c,_,_,_,s0,d.boxes.length,k0,Vadiaa.breaks d,rfl,hE,hW,hC,by omega,by omega,fi,Br.HJ d,ED,G.kI,by have:=G.nb;omega,λs=>?_,h3,h4,λH' r sm gS cT=>k H' r sm gS (by rw[et];exact cT)⟩
 refine(Br.QU G.toGood (λa=>?_) (Yl ED)).symm
 rw[dh]
 constructor
 ·rintro ⟨z1,z2⟩
  exact⟨z1,(Ex G.kI (eL _ z1)).mp z2⟩
 ·rintro ⟨z1,z2⟩
  exact⟨z1,(Ex G.kI (eL _ z1)).mpr z2⟩
def EE(K:ai):Sp:=λvs H Q _=>∃(e t:Addr)(l:List Arc)(ts:List Nat),vs=[.ref e,.ref t]/\bD K H e l/\H t=some (.lst (vN ts))/\l.length<=100/\(∀i∈ts,i<l.length)/\
 ∀(H':Hp)(r:Addr),aa H H'->H r=none->bD K H' r (l.zipIdx.map (Br.flip ts))->Q (.ref r) H'
theorem Paired.set{α β:Type}{F:α->β->Prop}:∀{l:List α}{m:List β}{i:Nat}{a:α}{b:β},Paired F l m->F a b->Paired F (l.set i a) (m.set i b)
 |_,_,_,_,_,.nil,_=>.nil
 |_,_,0,_,_,.cons _ t,h=>.cons h t
 |_,_,i+1,_,_,.cons r t,h=>.cons r (Paired.set t h)
theorem Yn{l:List Arc}{ts:List Nat}{j n:Nat}{x:Arc}(h:ts[j]? =some n)(hx:l[n]? =some x):(l.zipIdx.map (Br.flip (ts.take j))).set n (x.2,x.1)=l.zipIdx.map (Br.flip (ts.take (j+1))):=by
 refine wQ λi=>?_
 have g:∀t,(l.zipIdx.map (Br.flip t))[i]? =(l[i]?).map λa=>Br.flip t (a,i):=λt=>by
  rw[ck,PL]
  cases l[i]? with
  |none=>rfl
  |some a=>simp
 by_cases e:i=n
 ·subst e
  have aV:i<(l.zipIdx.map (Br.flip (ts.take j))).length:=by rw[aA,GD];exact(bE.mp hx).1
  rw[pJ aV,g,hx,take_one h]
  unfold Br.flip
  simp
 ·rw[pL (λz=>e z.symm),g,g,take_one h]
  congr 1
  funext a
  unfold Br.flip
  have:(ts.take j++[n]).contains i=(ts.take j).contains i:=by
   rw[gb]
   simp[e]
  rw[this]
theorem Yo{f:Addr}{fd:FuncData}(B:cq mg)(F:aQ K "going_down" "going_down" CP f fd):aK P w K mg base ax 1 f fd ["edges","turned"] (EE K):=by
 refine F.bo K_ (λvs H Q E h=>?_) (λaC A outer s H vs Q E hr h=>?_)
 ·obtain⟨e,t,l,ts,rfl,_⟩:=h
  rfl
 ·intro XX
  obtain⟨e,t,l,ts,rfl,hE,hT,ll,qN,k⟩:=h
  have nd:=K_.nd
  obtain⟨es,i6,iF⟩:=id hE
  have fw:es.length=l.length:=a7 iF
  refine⟨_,aq (aN (i:=2) nd rfl (ay rfl) (iu yh (by rfl) B.list (by decide+kernel) (ae (pv 0) af)))
   (aq (eJ d5 rfl (dM (pv 1)) (bB (i:=3) nd rfl (ay rfl))
    (au (qi (l7 (ae (aG (bQ K) (aG (bj K) (pv 0) (pv 3) (λ_ _=>rfl)) aJ (λ_ _=>rfl)) (ae (aG (bQ K) (aG (bj K) (pv 0) (pv 3) (λ_ _=>rfl)) aJ (λ_ _=>rfl)) af))) (qh (pv 2) (pv 3) set_list))))
   (au (aM (pv 2)))),?_⟩
  refine⟨_,rfl,e,_,rfl,.inl (ah.of i6),λc hc=>?_⟩
  have s1:aa H (upd H c (.lst (es.map V.ref))):=aa.new hc
  refine⟨_,rfl,t,rfl,⟨_,ah.of (s1 _ _ hT)⟩,?_⟩
  refine iq (K:=K) (a:=t) (xs:=vN ts) (λj σ H'=>∃(v3:Option V)(ds:List Addr),σ=[some (.ref e),some (.ref t),some (.ref c),v3]/\aa H H'/\H' c=some (.lst (ds.map V.ref))/\Paired (oX K H') ds (l.zipIdx.map (Br.flip (ts.take j)))) ⟨none,es,rfl,s1,aj,?_⟩ ?_ ?_ ?_
  ·have e0:l.zipIdx.map (Br.flip (ts.take 0))=l:=by
    refine wQ λi=>?_
    rw[ck,PL]
    cases l[i]? with
    |none=>rfl
    |some a=>simp[Br.flip]
   rw[e0]
   exact L2.Paired.aX iF λ_ _ q=>aa.tup s1 q
  ·rintro j σ H' _ ⟨_,_,_,sm,_⟩
   exact ah.of (sm _ _ hT)
  ·rintro j y σ H' hj ⟨v3,ds,rfl,sm,fS,hP⟩
   obtain⟨n,hn,rfl⟩:=qE hj
   have vD:=qN n (bL hn)
   obtain⟨p,hp,hJ⟩:=Paired.at iF (bX vD)
   have k8:=aa.tup sm hJ
   have jx:gp (es.map V.ref) (n:Int)=some (V.ref p):=du (by rw[ck,hp];rfl)
   have Yp:ds.length=l.length:=by rw[a7 hP,aA,GD]
   refine⟨_,rfl,_,rfl,e,_,(n:Int),_,rfl,rfl,ah.of (sm _ _ i6),jx,p,_,1,_,rfl,rfl,k8,gv,_,rfl,_,rfl,e,_,(n:Int),_,rfl,rfl,ah.of (sm _ _ i6),jx,p,_,0,_,rfl,rfl,k8,dC,by show 2<=sizeLine;decide,λT qK=>?_⟩
   have Mv:c≠T:=aF fS qK
   have qM:upd H' T (.tup [.int ((l[n]).2:Int),.int ((l[n]).1:Int)]) c=some (.lst (ds.map V.ref)):=by rw[ao Mv];exact fS
   have Yq:cx (ds.map V.ref).length (n:Int)=some n:=by
    unfold cx
    rw[aA,Yp,if_pos (by omega),if_pos (by omega)]
    simp
   refine⟨_,rfl,_,rfl,c,_,(n:Int),n,rfl,rfl,qM,Yq,?_⟩
   refine⟨_,ds.set n T,rfl,λb o q=>?_,?_,?_⟩
   ·rw[ao (aF q hc),ao (aF (sm _ _ q) qK)];exact sm _ _ q
   ·rw[aj,Hi]
   ·rw[<-Yn hn (bX vD)]
    refine Paired.set (L2.Paired.aX hP λx y z=>?_) (aB.of ?_)
    ·have z':aB K H' x [.int y.1,.int y.2]:=z
     rcases z' with(z'|⟨ob,z'⟩)|z'
     ·refine .inl (.inl ?_)
      rw[ao (dq z' fS (by intro q;cases q)),ao (aF z' qK)]
      exact z'
     ·refine .inl (.inr ⟨ob,?_⟩)
      rw[ao (dq z' fS (by intro q;cases q)),ao (aF z' qK)]
      exact z'
     ·exact .inr z'
    ·rw[ao (Ne.symm Mv),aj]
  ·rintro σ H' ⟨v3,ds,rfl,sm,fS,hP⟩
   rw[cA,cO]at hP
   exact⟨_,rfl,k H' c sm hc ⟨ds,fS,hP⟩⟩
end
end Bp
set_option Elab.async false
set_option linter.all false
set_option maxRecDepth 100000
set_option maxHeartbeats 2000000
namespace Bp
open PySem PySem.Spec PyProof.Rows L2
open Vadiaa (Arc rankOf)
theorem i7{rs:List Nat}{v:Nat}(h:v<rs.length):gp (vN rs) (v:Int)=some (.int (rankOf rs v:Int)):=du (yX (Br.xp h))
theorem zl(rs:List Nat)(v x:Nat):(vN rs).set v (.int (x:Int))=vN (rs.set v x):=by
 unfold vN
 rw[Hi]
theorem zm{rs:List Nat}{v:Nat}(h:v<rs.length):cx (vN rs).length (v:Int)=some v:=by
 unfold cx
 rw[cA,if_pos (by omega),if_pos (by omega)]
 simp
theorem Mw(n:Nat):(eO n [V.int 0]).flatten=vN (eO n 0):=by
 induction n with
 |zero=>rfl
 |succ n ih=>
  rw[ub,Ag,ih,ub]
  rfl
section
variable{P:Program}{w:World}{K:ai}{mg:Str->Option Value}{base:Heap}
def EF(K:ai):Sp:=λvs H Q _=>∃(n:Nat)(a:Addr)(l:List Arc),vs=[.int n,.ref a]/\fQ K H a l/\Br.bt n l/\Br.bg l/\n<=999/\
 ∀(H':Hp)(r:Addr),aa H H'->H r=none->H' r=some (.lst (vN (Br.LR n l)))->Q (.ref r) H'
theorem Yr{f:Addr}{fd:FuncData}(F:aQ K "longest_ranks" "longest_ranks" Cq f fd):aK P w K mg base ax 1 f fd ["boxes","arcs"] (EF K):=by
 refine F.bo KU (λvs H Q E h=>?_) (λaC A outer s H vs Q E hr h=>?_)
 ·obtain⟨n,a,l,rfl,_⟩:=h
  rfl
 ·intro XX
  obtain⟨n,a,l,rfl,hA,hn,hdag,k7,k⟩:=h
  have nd:=KU.nd
  obtain⟨ps,hS,hP⟩:=id hA
  have ft:ps.length=l.length:=a7 hP
  refine⟨_,aq (aN (i:=2) nd rfl (ay rfl) (bW JF (cy (ae aJ af)) (pv 0)))
   (aq (aN (i:=3) nd rfl (ay rfl) lY)
   (aq (iU d5 (dJ (pv 3))
    (aq (aN (i:=3) nd rfl (ay rfl) lY)
    (au (eJ d5 rfl (dM (pv 1)) (iZ K 2 rfl (dA (bB (i:=4) nd rfl (ay rfl)) (dA (bB (i:=5) nd rfl (ay rfl)) iT)))
     (au (bF (bC m_ (aG (bj K) (pv 2) (pv 5) (λ_ _=>rfl)) (aG (bj K) (pv 2) (pv 4) (λ_ _=>rfl)) (bw _))
      (aq (qi (bW fM (aG (bj K) (pv 2) (pv 4) (λ_ _=>rfl)) aJ) (qh (pv 2) (pv 5) set_list)) (au (aN (i:=3) nd rfl (ay rfl) lY))) bM))))))
   (au (aM (pv 2))))),?_⟩
  refine⟨by show 1<=sizeLine;decide,λt ht=>⟨_,rfl,t,(n:Int),_,rfl,rfl,aj,by omega,by omega,?_,λr de=>?_⟩⟩
  ·show 1*((n:Int).toNat)<=sizeLine
   rw[sizeLine_eq]
   omega
  have EG:t≠r:=λz=>by rw[<-z,aj]at de;cases de
  have bq:H r=none:=by rw[ao (Ne.symm EG)]at de;exact de
  have s0:aa H (upd (upd H t (.lst [.int 0])) r (.lst ((eO (n:Int).toNat [V.int 0]).flatten))):=(aa.new ht).trans (aa.new de)
  refine⟨λmm σ H'=>∃(rs:List Nat)(ch:Bool)(v4 v5:Option V),mm=2*(n*n-rs.sum)+(if ch=true then 1 else 0)/\σ=[some (.int n),some (.ref a),some (.ref r),some (.bl ch),v4,v5]/\aa H H'/\H' r=some (.lst (vN rs))/\rs.length=n/\(∀v,v<n->rankOf rs v<=rankOf (Br.LR n l) v)/\(ch=false->Br.Val l rs),
   ⟨_,eO n 0,true,none,none,rfl,rfl,s0,?_,by simp,λv hv=>by rw[Br.AS];omega,λz=>nomatch z⟩,?_⟩
  ·rw[aj]
   show some (HO.lst ((eO n [V.int 0]).flatten))=_
   rw[Mw]
  rintro mm σ H' ⟨rs,ch,v4,v5,rfl,rfl,sm,hR,hlen,hle,mj⟩
  refine⟨_,rfl,ch,rfl,?_⟩
  cases ch with
  |false=>exact aZ ⟨_,rfl,k H' r sm bq (by rw[<-Br.Q5 hn hlen hle (mj rfl)];exact hR)⟩
  |true=>
   refine aY ⟨λσ' H2=>∃(a9:List Nat)(cN:Bool)(v4 v5:Option V),σ'=[some (.int n),some (.ref a),some (.ref r),some (.bl cN),v4,v5]/\aa H H2/\H2 r=some (.lst (vN a9))/\a9.length=n/\(∀v,v<n->rankOf a9 v<=rankOf (Br.LR n l) v)/\(cN=false->a9=rs/\Br.Val l rs)/\(cN=true->rs.sum<a9.sum),?_,?_⟩
   ·rintro σ' H2 ⟨a9,cN,hX,nJ,rfl,cu,eB,kh,qO,a6,gC⟩
    have bound:a9.sum<=n*n:=by
     have h1:=Br.HW (rs:=a9) (m:=n) λv hv=>by
      have h2:=qO v (by omega)
      have h3:=Br.HU hn hdag (v:=v) (by omega)
      omega
     rw[kh]at h1
     exact h1
    refine⟨_,?_,a9,cN,hX,nJ,rfl,rfl,cu,eB,kh,qO,λz=>by rw[(a6 z).1];exact(a6 z).2⟩
    cases cN with
    |true=>
     have:=gC rfl
     simp only[if_true]
     omega
    |false=>
     rw[(a6 rfl).1]
     simp
   refine⟨_,rfl,a,rfl,⟨_,sm.seq hS⟩,?_⟩
   refine iq (K:=K) (a:=a) (xs:=ps.map V.ref) (λj σ' H2=>∃(a9:List Nat)(cN:Bool)(v4 v5:Option V),σ'=[some (.int n),some (.ref a),some (.ref r),some (.bl cN),v4,v5]/\aa H H2/\H2 r=some (.lst (vN a9))/\a9.length=n/\(∀v,v<n->rankOf a9 v<=rankOf (Br.LR n l) v)/\(cN=false->a9=rs/\∀b∈l.take j,rankOf rs b.1<rankOf rs b.2)/\(cN=true->rs.sum<a9.sum))
    ⟨rs,false,v4,v5,rfl,sm,hR,hlen,hle,λ_=>⟨rfl,by simp⟩,λz=>nomatch z⟩ ?_ ?_ ?_
   ·rintro j σ' H2 _ ⟨_,_,_,_,_,cu,_⟩
    exact cu.seq hS
   ·rintro j y σ' H2 hj ⟨a9,cN,hX,nJ,rfl,cu,eB,kh,qO,a6,gC⟩
    obtain⟨p,hp,rfl⟩:=dO hj
    obtain⟨aD,dW,hJ⟩:=Paired.at' hP hp
    have bV:aD∈l:=bL dW
    obtain⟨jy,fU⟩:=hn aD bV
    refine⟨p,_,rfl,aa.tup cu hJ,rfl,_,_,rfl,_,_,rfl,rfl,?_⟩
    refine⟨_,rfl,_,rfl,r,_,(aD.2:Int),_,rfl,rfl,ah.of eB,i7 (by omega),_,rfl,_,rfl,r,_,(aD.1:Int),_,rfl,rfl,ah.of eB,i7 (by omega),_,_,rfl,rfl,_,rfl,?_⟩
    have dd:decide ((rankOf a9 aD.2:Int)<=(rankOf a9 aD.1:Int))=decide (rankOf a9 aD.2<=rankOf a9 aD.1):=decide_eq_decide.mpr ⟨λz=>by omega,λz=>by omega⟩
    show if decide ((rankOf a9 aD.2:Int)<=(rankOf a9 aD.1:Int))=true then _ else _
    rw[dd]
    by_cases hc:rankOf a9 aD.2<=rankOf a9 aD.1
    ·rw[decide_eq_true hc]
     refine aY ⟨_,rfl,_,rfl,r,_,(aD.1:Int),_,rfl,rfl,ah.of eB,i7 (by omega),_,_,rfl,rfl,_,rfl,_,rfl,r,_,(aD.2:Int),aD.2,rfl,rfl,eB,zm (by omega),?_⟩
     have er:Br.mX a9 aD=a9.set aD.2 (rankOf a9 aD.1+1):=by unfold Br.mX;rw[if_pos hc]
     refine⟨Br.mX a9 aD,true,_,_,rfl,λb o q=>?_,?_,by rw[Br.Q3];exact kh,Br.Q4 hn hdag kh qO bV,(λz=>nomatch z),λ_=>?_⟩
     ·rw[ao (aF q bq)];exact cu _ _ q
     ·rw[aj,er,<-zl]
      rfl
     ·have h1:=Br.Q6 kh fU hc
      cases fb:cN with
      |true=>have:=gC fb;omega
      |false=>rw[(a6 fb).1]at h1⊢;exact h1
    ·rw[decide_eq_false hc]
     refine aZ ⟨a9,cN,_,_,rfl,cu,eB,kh,qO,λz=>⟨(a6 z).1,λb hb=>?_⟩,gC⟩
     rw[take_one dW]at hb
     rcases cP.mp hb with hb|hb
     ·exact(a6 z).2 b hb
     ·rw[cY.mp hb]
      rw[(a6 z).1]at hc
      omega
   ·rintro σ' H2 ⟨a9,cN,hX,nJ,rfl,cu,eB,kh,qO,a6,gC⟩
    rw[aA,ft,cO]at a6
    exact⟨a9,cN,hX,nJ,rfl,cu,eB,kh,qO,λz=>⟨(a6 z).1,λb hb=>(a6 z).2 b hb⟩,gC⟩
def dX(es:List Arc)(v:Nat):Int:=(Br.eG es v:Int)-(Br.eI es v:Int)
theorem Ys(es:List Arc)(a:Arc)(v:Nat):dX (es++[a]) v=dX es v+(if a.1=v then 1 else 0)-(if a.2=v then 1 else 0):=by
 unfold dX Br.eG Br.eI
 rw[ou,ou,bf,bf,f_,f_]
 by_cases h1:a.1=v
 ·by_cases h2:a.2=v
  ·simp[h1,h2];omega
  ·simp[h1,h2];omega
 ·by_cases h2:a.2=v
  ·simp[h1,h2];omega
  ·simp[h1,h2]
def gF(n:Nat)(es:List Arc):List Int:=(cW n).map (dX es)
theorem vH{n:Nat}{es:List Arc}{v:Nat}(h:v<n):(gF n es)[v]? =some (dX es v):=by
 unfold gF
 rw[ck,uc h]
 rfl
theorem tj(n:Nat)(es:List Arc):(gF n es).length=n:=by unfold gF;simp
def Mx(K:ai):Sp:=λvs H Q _=>∃(n:Nat)(a:Addr)(l:List Arc),vs=[.int n,.ref a]/\fQ K H a l/\Br.bt n l/\(∀x∈l,x.1≠x.2)/\n<=999/\∀(H':Hp)(r:Addr),aa H H'->H r=none->H' r=some (.lst ((gF n l).map V.int))->Q (.ref r) H'
theorem Yt{f:Addr}{fd:FuncData}(F:aQ K "edges_out_less_in" "edges_out_less_in" Cs f fd):aK P w K mg base ax 1 f fd ["boxes","edges"] (Mx K):=by
 refine F.bo KY (λvs H Q E h=>?_) (λaC A outer s H vs Q E hr h=>?_)
 ·obtain⟨n,a,l,rfl,_⟩:=h
  rfl
 ·intro XX
  obtain⟨n,a,l,rfl,hA,hn,EH,k7,k⟩:=h
  have nd:=KY.nd
  obtain⟨ps,hS,hP⟩:=id hA
  have ft:ps.length=l.length:=a7 hP
  refine⟨_,aq (aN (i:=2) nd rfl (ay rfl) (bW JF (cy (ae aJ af)) (pv 0)))
   (aq (eJ d5 rfl (dM (pv 1)) (iZ K 2 rfl (dA (bB (i:=3) nd rfl (ay rfl)) (dA (bB (i:=4) nd rfl (ay rfl)) iT)))
    (aq (qi (bW fM (aG (bj K) (pv 2) (pv 3) (λ_ _=>rfl)) aJ) (qh (pv 2) (pv 3) set_list))
    (au (qi (bW xW (aG (bj K) (pv 2) (pv 4) (λ_ _=>rfl)) aJ) (qh (pv 2) (pv 4) set_list)))))
   (au (aM (pv 2)))),?_⟩
  refine⟨by show 1<=sizeLine;decide,λt ht=>⟨_,rfl,t,(n:Int),_,rfl,rfl,aj,by omega,by omega,?_,λr de=>?_⟩⟩
  ·show 1*((n:Int).toNat)<=sizeLine
   rw[sizeLine_eq]
   omega
  have EG:t≠r:=λz=>by rw[<-z,aj]at de;cases de
  have bq:H r=none:=by rw[ao (Ne.symm EG)]at de;exact de
  have s0:aa H (upd (upd H t (.lst [.int 0])) r (.lst ((eO (n:Int).toNat [V.int 0]).flatten))):=(aa.new ht).trans (aa.new de)
  refine⟨_,rfl,a,rfl,⟨_,s0.seq hS⟩,?_⟩
  refine iq (K:=K) (a:=a) (xs:=ps.map V.ref) (λj σ H'=>∃v3 v4:Option V,σ=[some (.int n),some (.ref a),some (.ref r),v3,v4]/\aa H H'/\H' r=some (.lst ((gF n (l.take j)).map V.int))) ⟨none,none,rfl,s0,?_⟩ ?_ ?_ ?_
  ·rw[aj]
   show some (HO.lst ((eO n [V.int 0]).flatten))=_
   rw[Mw]
   congr 2
   refine wQ λi=>?_
   unfold vN gF
   rw[ck,ck,ck,Pz]
   by_cases hi:i<n
   ·rw[if_pos hi,uc hi]
    rfl
   ·rw[if_neg hi,lH.mpr (by simpa using hi)]
    rfl
  ·rintro j σ H' _ ⟨_,_,_,sm,_⟩
   exact sm.seq hS
  ·rintro j y σ H' hj ⟨v3,v4,rfl,sm,hR⟩
   obtain⟨p,hp,rfl⟩:=dO hj
   obtain⟨aD,dW,hJ⟩:=Paired.at' hP hp
   have bV:aD∈l:=bL dW
   obtain⟨jy,fU⟩:=hn aD bV
   have a8:=EH aD bV
   have ix:∀(zs:List Int)(v:Nat),zs.length=n->v<n->cx (zs.map V.int).length (v:Int)=some v:=λzs v hz hv=>by
    unfold cx
    rw[aA,hz,if_pos (by omega),if_pos (by omega)]
    simp
   have g1:gp ((gF n (l.take j)).map V.int) (aD.1:Int)=some (.int (dX (l.take j) aD.1)):=du (by rw[ck,vH jy];rfl)
   refine⟨p,_,rfl,aa.tup sm hJ,rfl,_,_,rfl,_,_,rfl,rfl,?_⟩
   refine⟨_,rfl,_,rfl,r,_,(aD.1:Int),_,rfl,rfl,ah.of hR,g1,_,_,rfl,rfl,_,rfl,_,rfl,r,_,(aD.1:Int),aD.1,rfl,rfl,hR,ix _ _ (tj _ _) jy,?_⟩
   have e1:((gF n (l.take j)).map V.int).set aD.1 (V.int (dX (l.take j) aD.1+1))=((gF n (l.take j)).set aD.1 (dX (l.take j) aD.1+1)).map V.int:=by rw[Hi]
   have eB:upd H' r (.lst (((gF n (l.take j)).map V.int).set aD.1 (V.int (dX (l.take j) aD.1+1)))) r=some (.lst (((gF n (l.take j)).set aD.1 (dX (l.take j) aD.1+1)).map V.int)):=by rw[aj,e1]
   have g2:gp (((gF n (l.take j)).set aD.1 (dX (l.take j) aD.1+1)).map V.int) (aD.2:Int)=some (.int (dX (l.take j) aD.2)):=du (by rw[ck,pL a8,vH fU];rfl)
   refine⟨_,rfl,_,rfl,r,_,(aD.2:Int),_,rfl,rfl,ah.of eB,g2,_,_,rfl,rfl,_,rfl,_,rfl,r,_,(aD.2:Int),aD.2,rfl,rfl,eB,ix _ _ (by rw[jO];exact tj _ _) fU,?_⟩
   refine⟨_,_,rfl,λb o q=>?_,?_⟩
   ·rw[ao (aF q bq),ao (aF q bq)];exact sm _ _ q
   ·rw[aj]
    show some (HO.lst (((((gF n (l.take j)).set aD.1 (dX (l.take j) aD.1+1)).map V.int).set aD.2 (V.int (dX (l.take j) aD.2-1)))))=_
    rw[<-Hi]
    congr 3
    refine wQ λi=>?_
    by_cases hi:i<n
    ·rw[vH hi,take_one dW,Ys]
     by_cases h2:aD.2=i
     ·subst h2
      rw[pJ (by rw[jO,tj];exact fU),if_neg a8,if_pos rfl]
      congr 1
      omega
     ·rw[pL h2,if_neg h2]
      by_cases h1:aD.1=i
      ·subst h1
       rw[pJ (by rw[tj];exact jy),if_pos rfl]
       congr 1
       omega
      ·rw[pL h1,if_neg h1,vH hi]
       congr 1
       omega
    ·rw[lH.mpr (by rw[jO,jO,tj];omega),lH.mpr (by rw[tj];omega)]
  ·rintro σ H' ⟨v3,v4,rfl,sm,hR⟩
   rw[aA,ft,cO]at hR
   exact⟨_,rfl,k H' r sm bq hR⟩
theorem Yu{l:List Arc}{rs:List Nat}{v i:Nat}{x:Arc}(h:l[i]? =some x):Br.below (l.take (i+1)) rs v=Br.below (l.take i) rs v++(if x.1=v then[rankOf rs x.2]else[]):=by
 rw[take_one h]
 unfold Br.below
 rw[ou,bI,f_]
 by_cases e:x.1=v
 ·simp[e]
 ·simp[e]
theorem Yv{l:List Arc}{rs:List Nat}{v i:Nat}{x:Arc}(h:l[i]? =some x):Br.over (l.take (i+1)) rs v=Br.over (l.take i) rs v++(if x.2=v then[rankOf rs x.1]else[]):=by
 rw[take_one h]
 unfold Br.over
 rw[ou,bI,f_]
 by_cases e:x.2=v
 ·simp[e]
 ·simp[e]
theorem EI{l:List Arc}{rs:List Nat}{v x:Nat}:x∈Br.over l rs v↔∃a∈l,a.2=v/\rankOf rs a.1=x:=by
 unfold Br.over
 rw[cJ]
 constructor
 ·rintro ⟨a,ha,e⟩
  obtain⟨h1,h2⟩:=dh.mp ha
  exact⟨a,h1,by simpa using h2,e⟩
 ·rintro ⟨a,h1,h2,e⟩
  exact⟨a,dh.mpr ⟨h1,by simp[h2]⟩,e⟩
theorem My(l:List Nat):vN l=(l.map λ(n:Nat)=>(n:Int)).map V.int:=by unfold vN;rw[lU];rfl
theorem Mz{l:List Nat}{z:Int}(h:z∈l.map λ(n:Nat)=>(n:Int)):∃n,n∈l/\z=(n:Int):=by
 obtain⟨n,h1,h2⟩:=cJ.mp h
 exact⟨n,h1,h2.symm⟩
def MA(K:ai):Sp:=λvs H Q _=>∃(v n m:Nat)(r a:Addr)(es l:List Arc)(rs:List Nat),vs=[.int v,.int (dX es v),.ref r,.ref a]/\H r=some (.lst (vN rs))/\fQ K H a l/\l.length<=500/\Br.gc n m es l rs/\v<n/\
 ∀(H':Hp),aa H H'->Q (.int (Br.dD es l rs v:Int)) H'
theorem Yw{f:Addr}{fd:FuncData}(B:cq mg)(F:aQ K "rank_moved_to" "rank_moved_to" Ct f fd):aK P w K mg base ax 1 f fd ["box","surplus","ranks","arcs"] (MA K):=by
 refine F.bo KZ (λvs H Q E h=>?_) (λaC A outer s H vs Q E hr h=>?_)
 ·obtain⟨v,n,m,r,a,es,l,rs,rfl,_⟩:=h
  rfl
 ·intro XX
  obtain⟨v,n,m,r,a,es,l,rs,rfl,hR,⟨ps,hS,hP⟩,ll,M,hv,k⟩:=h
  have nd:=KZ.nd
  have ft:ps.length=l.length:=a7 hP
  have hlen:=M.len
  refine⟨_,aq (bF (bC kU (pv 1) aJ (bw _)) (au (aM (bW xW (bK (T_ rfl) (by rfl) B.min (by decide+kernel) (ae
     (nu rfl nd (dM (pv 3)) (iz (own:=[("arc",4)]) rfl)
      (λs H C cl fp=>bB (i:=4) nd rfl (ay rfl))
      (λs H C cl fp=>oS (bC ei (aG (bQ K) (pv 4) aJ (λ_ _=>rfl)) (pv 0) (bw _)))
      (λs H C cl fp=>aG (bj K) (pv 2) (aG (bQ K) (pv 4) aJ (λ_ _=>rfl)) (λ_ _=>rfl))) af)) aJ))) bM)
   (aq (bF (bC kT (pv 1) aJ (bw _)) (au (aM (bW fM (bK (T9 rfl) (by rfl) B.max (by decide+kernel) (ae
     (nu rfl nd (dM (pv 3)) (iz (own:=[("arc",4)]) rfl)
      (λs H C cl fp=>bB (i:=4) nd rfl (ay rfl))
      (λs H C cl fp=>oS (bC ei (aG (bQ K) (pv 4) aJ (λ_ _=>rfl)) (pv 0) (bw _)))
      (λs H C cl fp=>aG (bj K) (pv 2) (aG (bQ K) (pv 4) aJ (λ_ _=>rfl)) (λ_ _=>rfl))) af)) aJ))) bM)
   (au (aM (aG (bj K) (pv 2) (pv 0) (λ_ _=>rfl))))),?_⟩
  refine⟨_,rfl,_,_,rfl,rfl,_,rfl,?_⟩
  show if decide ((0:Int)<dX es v)=true then _ else _
  by_cases h1:Br.eI es v<Br.eG es v
  ·rw[decide_eq_true (show(0:Int)<dX es v by unfold dX;omega)]
   refine aY ⟨_,rfl,a,rfl,⟨_,hS⟩,λD hD=>?_⟩
   have s2:∀o,aa H (upd H D o):=λo=>aa.new hD
   refine j6 (K:=K) (xs:=ps.map V.ref) (λi H'=>H'=upd H D (.lst (vN (Br.below (l.take i) rs v)))) rfl ?_ ?_ ?_
   ·rintro i H' _ rfl
    exact(s2 _).seq hS
   ·rintro i y H' hi rfl
    obtain⟨p,hp,rfl⟩:=dO hi
    obtain⟨x,hx,hT⟩:=Paired.at' hP hp
    have g_:=aa.tup (s2 (.lst (vN (Br.below (l.take i) rs v)))) hT
    have l9:i<l.length:=(bE.mp hx).1
    have zo:=M.jV x (bL hx)
    refine⟨rfl,_,rfl,p,_,0,_,rfl,rfl,g_,dC,_,rfl,rfl,_,rfl,?_⟩
    have eo:=Yu (rs:=rs) (v:=v) hx
    refine B4 (λh=>?_) (λh=>?_)
    ·have qP:x.1=v:=by
      have:=of_decide_eq_true h
      injection this with this
      omega
     rw[if_pos qP]at eo
     refine⟨_,rfl,_,rfl,p,_,1,_,rfl,rfl,g_,gv,r,_,(x.2:Int),_,rfl,rfl,ah.of (s2 _ _ _ hR),i7 (by omega),_,aj,?_,?_⟩
     ·rw[cA]
      refine eA ?_
      unfold Br.below
      rw[aA]
      exact cp (ot _ _) (by rw[fC];omega)
     ·rw[fJ,eo,kb]
      rfl
    ·have qP:¬x.1=v:=λe=>h (by rw[e];exact decide_eq_true rfl)
     rw[if_neg qP,gP]at eo
     rw[eo]
   ·rintro H' rfl
    have el:(ps.map V.ref).length=l.length:=by rw[aA,ft]
    rw[el,cO]
    obtain⟨hm,aV⟩:=Br.HX M hv h1
    refine⟨D,_,rfl,ah.of (by rw[aj,My]),?_,λz EJ EK=>⟨_,1,rfl,rfl,?_⟩⟩
    ·rw[aA]
     exact Gw hm
    ·have ez:z=((Br.below l rs v).foldl dP (rankOf rs v+1000):Nat):=by
      obtain⟨z0,EL,e0⟩:=Mz EJ
      have h3:=EK _ (cJ.mpr ⟨_,hm,rfl⟩)
      have h4:=(Br.min_le (Br.below l rs v) (rankOf rs v+1000)).2 z0 EL
      omega
     have eg:Br.dD es l rs v=(Br.below l rs v).foldl dP (rankOf rs v+1000)-1:=by unfold Br.dD;rw[if_pos h1]
     have:=k _ (s2 (.lst (vN (Br.below l rs v))))
     rw[eg]at this
     show Q (V.int (z-1)) _
     rw[ez]
     have e5:(((Br.below l rs v).foldl dP (rankOf rs v+1000):Nat):Int)-1=(((Br.below l rs v).foldl dP (rankOf rs v+1000)-1:Nat):Int):=by omega
     rw[e5]
     exact this
  ·rw[decide_eq_false (show ¬(0:Int)<dX es v by unfold dX;omega)]
   refine aZ ⟨_,rfl,_,_,rfl,rfl,_,rfl,?_⟩
   show if decide (dX es v<(0:Int))=true then _ else _
   by_cases h2:Br.eG es v<Br.eI es v
   ·rw[decide_eq_true (show dX es v<(0:Int) by unfold dX;omega)]
    refine aY ⟨_,rfl,a,rfl,⟨_,hS⟩,λD hD=>?_⟩
    have s2:∀o,aa H (upd H D o):=λo=>aa.new hD
    refine j6 (K:=K) (xs:=ps.map V.ref) (λi H'=>H'=upd H D (.lst (vN (Br.over (l.take i) rs v)))) rfl ?_ ?_ ?_
    ·rintro i H' _ rfl
     exact(s2 _).seq hS
    ·rintro i y H' hi rfl
     obtain⟨p,hp,rfl⟩:=dO hi
     obtain⟨x,hx,hT⟩:=Paired.at' hP hp
     have g_:=aa.tup (s2 (.lst (vN (Br.over (l.take i) rs v)))) hT
     have l9:i<l.length:=(bE.mp hx).1
     have zo:=M.jV x (bL hx)
     refine⟨rfl,_,rfl,p,_,1,_,rfl,rfl,g_,gv,_,rfl,rfl,_,rfl,?_⟩
     have eo:=Yv (rs:=rs) (v:=v) hx
     refine B4 (λh=>?_) (λh=>?_)
     ·have qP:x.2=v:=by
       have:=of_decide_eq_true h
       injection this with this
       omega
      rw[if_pos qP]at eo
      refine⟨_,rfl,_,rfl,p,_,0,_,rfl,rfl,g_,dC,r,_,(x.1:Int),_,rfl,rfl,ah.of (s2 _ _ _ hR),i7 (by omega),_,aj,?_,?_⟩
      ·rw[cA]
       refine eA ?_
       unfold Br.over
       rw[aA]
       exact cp (ot _ _) (by rw[fC];omega)
      ·rw[fJ,eo,kb]
       rfl
     ·have qP:¬x.2=v:=λe=>h (by rw[e];exact decide_eq_true rfl)
      rw[if_neg qP,gP]at eo
      rw[eo]
    ·rintro H' rfl
     have el:(ps.map V.ref).length=l.length:=by rw[aA,ft]
     rw[el,cO]
     obtain⟨y,hy⟩:∃y,y∈Br.over l rs v:=by
      have h3:0<Br.eI es v:=by omega
      obtain⟨b,hb⟩:=agW h3
      obtain⟨h4,h5⟩:=dh.mp hb
      exact⟨_,EI.mpr ⟨b,M.sub b h4,by simpa using h5,rfl⟩⟩
     refine⟨D,_,rfl,ah.of (by rw[aj,My]),?_,λz EJ EK=>⟨_,1,rfl,rfl,?_⟩⟩
     ·rw[aA]
      exact Gw hy
     ·have eg:Br.dD es l rs v=Br.mx l rs v:=by unfold Br.dD;rw[if_neg h1,if_pos h2]
      have ez:z+1=((Br.mx l rs v:Nat):Int):=by
       obtain⟨z0,EL,e0⟩:=Mz EJ
       obtain⟨b,jy,fU,hb3⟩:=EI.mp EL
       have h6:=Br.xq (rs:=rs) jy
       rw[fU]at h6
       rcases Br.uu (l:=l) (rs:=rs) (v:=v)with h7|⟨b',g1,g2,g3⟩
       ·omega
       ·have h8:=EK _ (cJ.mpr ⟨_,EI.mpr ⟨b',g1,g2,rfl⟩,rfl⟩)
        omega
      have:=k _ (s2 (.lst (vN (Br.over l rs v))))
      rw[eg]at this
      show Q (V.int (z+1)) _
      rw[ez]
      exact this
   ·rw[decide_eq_false (show ¬dX es v<(0:Int) by unfold dX;omega)]
    have eg:Br.dD es l rs v=rankOf rs v:=by unfold Br.dD;rw[if_neg h1,if_neg h2]
    refine aZ ⟨_,rfl,_,rfl,r,_,(v:Int),_,rfl,rfl,ah.of hR,i7 (by omega),?_⟩
    have:=k H (aa.refl H)
    rw[eg]at this
    exact this
def MB(K:ai):Sp:=λvs H Q _=>∃(f0 e wv:Addr)(n m kk:Nat)(es ms:List Arc)(jz:List Nat),vs=[.ref f0,.ref e,.ref wv]/\H f0=some (.lst (vN jz))/\bD K H e es/\bD K H wv ms/\es.length<=100/\ms.length<=100/\Br.gc n m es (es++ms) jz/\n<=999/\pU es jz<kk/\
 ∀(H':Hp)(r:Addr),aa H H'->H r=none->H' r=some (.lst (vN (G4 n es (es++ms) kk jz)))->Q (.ref r) H'
theorem Yx{f:Addr}{fd:FuncData}(B:cq mg)(F:aQ K "moved_ranks" "moved_ranks" Cr f fd)(DS:aS P w K mg base ax 1 "edges_out_less_in" ["boxes","edges"] (Mx K))(DG:aS P w K mg base ax 1 "rank_moved_to" ["box","surplus","ranks","arcs"] (MA K)):
  aK P w K mg base ax 2 f fd ["first_ranks","edges","wishes"] (MB K):=by
 refine F.bo KW (λvs H Q E h=>?_) (λaC A outer s H vs Q E hr h=>?_)
 ·obtain⟨f0,e,wv,n,m,kk,es,ms,jz,rfl,_⟩:=h
  rfl
 ·intro XX
  obtain⟨f0,e,wv,n,m,kk,es,ms,jz,rfl,hF,hE,hW,le,lm,M0,k7,Yy,k⟩:=h
  have nd:=KW.nd
  obtain⟨ps,i6,iF⟩:=id hE
  obtain⟨qs,qJ,mn⟩:=id hW
  have ft:ps.length=es.length:=a7 iF
  have i5:qs.length=ms.length:=a7 mn
  have Yz:=M0.len
  refine⟨_,aq (aN (i:=3) nd rfl (ay rfl) (iu yh (by rfl) B.list (by decide+kernel) (ae (pv 0) af)))
   (aq (aN (i:=4) nd rfl (ay rfl) (bK cb (by rfl) B.len bZ (ae (pv 0) af)))
   (aq (aN (i:=5) nd rfl (ay rfl) (aL DS hr aI (ae (pv 4) (ae (pv 1) af))))
   (aq (aN (i:=6) nd rfl (ay rfl) (bW iy (pv 1) (pv 2)))
   (aq (aN (i:=7) nd rfl (ay rfl) lY)
   (aq (iU d5 (dJ (pv 7))
    (aq (aN (i:=7) nd rfl (ay rfl) lY)
    (au (eJ d5 rfl (SA (by rfl) B.range (ae (pv 4) af)) (bB (i:=8) nd rfl (ay rfl))
     (aq (aN (i:=9) nd rfl (ay rfl) (aL DG hr aI (ae (pv 8) (ae (aG (bj K) (pv 5) (pv 8) (λ_ _=>rfl)) (ae (pv 3) (ae (pv 6) af))))))
     (au (bF (bC xX (pv 9) (aG (bj K) (pv 3) (pv 8) (λ_ _=>rfl)) (bw _))
      (aq (qi (pv 9) (qh (pv 3) (pv 8) set_list)) (au (aN (i:=7) nd rfl (ay rfl) lY))) bM)))))))
   (au (aM (pv 3)))))))),?_⟩
  refine⟨_,rfl,f0,_,rfl,.inl (ah.of hF),λr de=>?_⟩
  have s1:aa H (upd H r (.lst (vN jz))):=aa.new de
  refine⟨_,rfl,f0,_,rfl,.inl (ah.of (s1 _ _ hF)),?_⟩
  have jA:((vN jz).length:Int)=(n:Int):=by rw[cA,Yz]
  rw[jA]
  have jS:Br.bt n es:=λa ha=>M0.jV a (M0.sub a ha)
  have YA:∀x∈es,x.1≠x.2:=λx hx z=>by
   have:=M0.val x (M0.sub x hx)
   rw[z]at this
   exact iP _ this
  refine⟨_,rfl,_,rfl,n,e,es,rfl,(hE.same s1).at_,jS,YA,k7,λH2 su s2 MC YB=>?_⟩
  refine⟨_,rfl,_,rfl,e,wv,_,_,rfl,rfl,s2 _ _ (s1 _ _ i6),s2 _ _ (s1 _ _ qJ),by rw[aA,aA,ft,i5,sizeLine_eq];omega,λc hc=>?_⟩
  have s3:aa H2 (upd H2 c (.lst (ps.map V.ref++qs.map V.ref))):=aa.new hc
  have sA:aa H (upd H2 c (.lst (ps.map V.ref++qs.map V.ref))):=(s1.trans s2).trans s3
  have hA:fQ K (upd H2 c (.lst (ps.map V.ref++qs.map V.ref))) c (es++ms):=⟨ps++qs,ah.of (by rw[aj,bI]),Paired.app (L2.Paired.aX iF λ_ _ q=>aa.tup sA q) (L2.Paired.aX mn λ_ _ q=>aa.tup sA q)⟩
  generalize vJ:upd H2 c (.lst (ps.map V.ref++qs.map V.ref))=Hb at sA hA s3
  have zp:Hb r=some (.lst (vN jz)):=s3 _ _ (s2 _ _ aj)
  have YC:Hb su=some (.lst ((gF n es).map V.int)):=s3 _ _ YB
  have YD:su≠r:=λz=>by rw[z,aj]at MC;cases MC
  refine⟨λmm σ H'=>∃(rs:List Nat)(mv:Bool)(kx:Nat)(v8 v9:Option V),mm=(if mv=true then pU es rs+1 else 0)/\σ=[some (.ref f0),some (.ref e),some (.ref wv),some (.ref r),some (.int n),some (.ref su),some (.ref c),some (.bl mv),v8,v9]/\aE Hb H' [r]/\H' r=some (.lst (vN rs))/\Br.gc n m es (es++ms) rs/\
    (mv=true->pU es rs<kx/\G4 n es (es++ms) kk jz=G4 n es (es++ms) kx rs)/\(mv=false->G4 n es (es++ms) kk jz=rs),
   ⟨_,jz,true,kk,none,none,rfl,rfl,aE.of (aa.refl Hb) _,zp,M0,λ_=>⟨Yy,rfl⟩,λz=>nomatch z⟩,?_⟩
  have YE:∀{H':Hp},aE Hb H' [r]->aa H H':=λ{H'} bar b o q=>bar b o (sA _ _ q) (by simpa using aF q de)
  rintro mm σ H' ⟨rs,mv,kx,v8,v9,rfl,rfl,bar,hR,M,gC,a6⟩
  refine⟨_,rfl,mv,rfl,?_⟩
  cases mv with
  |false=>exact aZ ⟨_,rfl,k H' r (YE bar) de (by rw[a6 rfl];exact hR)⟩
  |true=>
   obtain⟨Mr,qI⟩:=gC rfl
   refine aY ⟨λσ' H3=>∃(i8:Bool)(v8 v9:Option V),σ'=[some (.ref f0),some (.ref e),some (.ref wv),some (.ref r),some (.int n),some (.ref su),some (.ref c),some (.bl i8),v8,v9]/\aE Hb H3 [r]/\H3 r=some (.lst (vN (Br.upTo es (es++ms) rs n)))/\(i8=false->Br.upTo es (es++ms) rs n=rs)/\(i8=true->pU es (Br.upTo es (es++ms) rs n)<pU es rs),?_,?_⟩
   ·rintro σ' H3 ⟨i8,vK,vL,rfl,eT,nM,tm,tq⟩
    have Mn:=M.upTo n (aT _)
    cases i8 with
    |false=>
     have ME:=tm rfl
     refine⟨0,by simp,Br.upTo es (es++ms) rs n,false,kx,vK,vL,rfl,rfl,eT,nM,Mn,(λz=>nomatch z),λ_=>?_⟩
     rw[qI,ME,Br.HY ME]
    |true=>
     have aV:=tq rfl
     have a8:Br.upTo es (es++ms) rs n≠rs:=λz=>by rw[z]at aV;exact iP _ aV
     obtain⟨EM,rfl⟩:∃EM,kx=EM+1:=⟨kx-1,by omega⟩
     refine⟨_,by simpa using aV,Br.upTo es (es++ms) rs n,true,EM,vK,vL,rfl,rfl,eT,nM,Mn,λ_=>⟨by omega,?_⟩,λz=>nomatch z⟩
     rw[qI,Br.HZ a8]
   ·refine⟨_,rfl,(n:Int),rfl,by omega,by omega,?_⟩
    rw[Ah]
    refine SI (lo:=0) (n:=n) (λi σ' H3=>∃(i8:Bool)(v8 v9:Option V),σ'=[some (.ref f0),some (.ref e),some (.ref wv),some (.ref r),some (.int n),some (.ref su),some (.ref c),some (.bl i8),v8,v9]/\aE Hb H3 [r]/\H3 r=some (.lst (vN (Br.upTo es (es++ms) rs i)))/\(i8=false->Br.upTo es (es++ms) rs i=rs)/\(i8=true->pU es (Br.upTo es (es++ms) rs i)<pU es rs))
     ⟨false,v8,v9,rfl,bar,by rw[Br.Ra];exact hR,λ_=>rfl,λz=>nomatch z⟩ ?_ ?_
    ·rintro i σ' H3 hi ⟨i8,vK,vL,rfl,eT,nM,tm,tq⟩
     have Mi:=M.upTo i (by omega)
     have MF:=Mi.len
     have e0:(0:Int)+(i:Int)=(i:Int):=by omega
     rw[e0]
     have Ec:H3 su=some (.lst ((gF n es).map V.int)):=eT _ _ YC (by simpa using YD)
     have YF:fQ K H3 c (es++ms):=by
      obtain⟨zs,z1,z2⟩:=hA
      have MI:c≠r:=λz=>by
       have z3:=zp
       rw[<-z,<-vJ,aj]at z3
       have z4:=s2 _ _ (aj (H:=H) (a:=r) (o:=.lst (vN jz)))
       rw[<-z,hc]at z4
       cases z4
      have YG:∀q ys,aB K Hb q ys->aB K H3 q ys:=λq ys z=>by
       rcases z with(z|⟨ob,z⟩)|z
       ·exact .inl (.inl (eT _ _ z (by simpa using dq z zp (by intro x;cases x))))
       ·exact .inl (.inr ⟨ob,eT _ _ z (by simpa using dq z zp (by intro x;cases x))⟩)
       ·exact .inr z
      refine⟨zs,?_,L2.Paired.aX z2 λ_ _ z=>YG _ _ z⟩
      rcases z1 with(z|⟨ob,z⟩)|z
      ·exact .inl (.inl (eT _ _ z (by simpa using MI)))
      ·exact .inl (.inr ⟨ob,eT _ _ z (by simpa using MI)⟩)
      ·exact .inr z
     have g1:gp ((gF n es).map V.int) (i:Int)=some (.int (dX es i)):=du (by rw[ck,vH hi];rfl)
     refine⟨_,rfl,_,rfl,_,rfl,su,_,(i:Int),_,rfl,rfl,ah.of Ec,g1,_,rfl,_,rfl,i,n,m,r,c,es,es++ms,_,rfl,nM,YF,by rw[bf];omega,Mi,hi,λH4 s4=>?_⟩
     have EN:=s4 _ _ nM
     have e9:aE Hb H4 [r]:=λb o q nb=>s4 _ _ (eT b o q nb)
     refine⟨_,rfl,_,rfl,_,rfl,r,_,(i:Int),_,rfl,rfl,ah.of EN,i7 (by omega),rfl,_,rfl,?_⟩
     have dd:(!decide (V.int (Br.dD es (es++ms) (Br.upTo es (es++ms) rs i) i:Int)=V.int (rankOf (Br.upTo es (es++ms) rs i) i:Int)))= !decide (Br.dD es (es++ms) (Br.upTo es (es++ms) rs i) i=rankOf (Br.upTo es (es++ms) rs i) i):=by
      congr 1
      refine decide_eq_decide.mpr ⟨λz=>?_,λz=>by rw[z]⟩
      injection z with z
      omega
     rw[dd]
     by_cases hg:Br.dD es (es++ms) (Br.upTo es (es++ms) rs i) i=rankOf (Br.upTo es (es++ms) rs i) i
     ·rw[decide_eq_true hg]
      have fu:Br.upTo es (es++ms) rs (i+1)=Br.upTo es (es++ms) rs i:=by rw[Br.xt,Br.Q_ (by omega) hg]
      refine aZ ⟨i8,_,_,rfl,e9,?_,?_,?_⟩
      ·rw[fu];exact EN
      ·rw[fu];exact tm
      ·rw[fu];exact tq
     ·rw[decide_eq_false hg]
      have fu:Br.upTo es (es++ms) rs (i+1)=(Br.upTo es (es++ms) rs i).set i (Br.dD es (es++ms) (Br.upTo es (es++ms) rs i) i):=by rw[Br.xt,Br.uw (by omega)]
      refine aY ⟨_,rfl,_,rfl,_,rfl,r,_,(i:Int),i,rfl,rfl,EN,zm (by omega),?_⟩
      refine⟨true,_,_,rfl,λb o q nb=>?_,?_,(λz=>nomatch z),λ_=>?_⟩
      ·rw[ao (by simpa using nb)];exact e9 b o q nb
      ·rw[aj,fu,<-zl]
      ·have h5:=Br.Q9 Mi hi hg
       rw[<-Br.xt]at h5
       cases MJ:i8 with
       |true=>have:=tq MJ;omega
       |false=>rw[tm MJ]at h5;exact h5
    ·rintro σ' H3 ⟨i8,vK,vL,rfl,eT,nM,tm,tq⟩
     exact⟨i8,vK,vL,rfl,eT,nM,tm,tq⟩
end
end Bp
set_option Elab.async false
set_option linter.all false
set_option maxRecDepth 100000
set_option maxHeartbeats 2000000
namespace Bp
open PySem PySem.Spec PyProof.Rows L2
open Vadiaa (Arc rankOf)
theorem YH(K:ai){X:Cx}(h:X.K=K:=by rfl):uS X "list.index" (JH K):=h▸Ub
theorem YI(K:ai){X:Cx}{o e:Expr}{es:List Expr}{to:TE}{t:TA}{name:Str}{apos eu:Pos}{T id:String}{r:V->List V->Hp->VK->Prop}(pa:PlainAttrs T)(slot:Slot T name id)(l8:typeOf (.builtin id)=pure (.type "method_descriptor"))(hm:uS X id r)(ho:PE X o to)(ha:PA X (e::es) t)(hK:X.K=K:=by rfl)
  (uV:attributeBase o name X.env (eval o X.env)=eval o X.env:=by rfl)
  (BG:((backTo eu (starEach (e::es) X.env)).all (λx=> !x.1)&&(backToKw eu (keywordEach [] X.env)).all (λx=>x.1.isSome)
   &&decide ((e::es).length+([]:List Keyword).length+(if([]:List Keyword).isEmpty then 0 else 1)<30))=true:=by rfl)
  (uW:(apos.endLine==eu.line)=true:=by rfl) (hs:starEach (e::es) X.env=(false,eval e X.env)::starEach es X.env:=by rfl) (BH:(backTo eu (starEach es X.env)).any (·.1)=false:=by rfl):
  PE X (.Call (.Attribute o name apos) (e::es) [] eu) (BF K T r to t):=hK▸fk pa slot l8 hm ho ha uV BG uW hs BH
theorem qQ{te:TE}{σ:L2.St}{H:Hp}{Q:V->Hp->Prop}{R:Hp->Prop}(h:te σ H Q):JN σ H (λb H3=>if b=true then te σ H3 Q else R H3):=by
 show(if true=true then te σ H Q else R H)
 rw[if_pos rfl]
 exact h
theorem zq(l:List Nat):vN l=(l.map λ(n:Nat)=>(n:Int)).map V.int:=by unfold vN;rw[lU];rfl
section
variable{P:Program}{w:World}{K:ai}{mg:Str->Option Value}{base:Heap}
def MK(K:ai):Sp:=λvs H Q _=>∃(a:Addr)(rs:List Nat),vs=[.ref a]/\ah K H a (vN rs)/\rs.length<64/\
 ∀(H':Hp)(r:Addr),aa H H'->H r=none->H' r=some (.lst (vN (Vadiaa.packed rs)))->Q (.ref r) H'
theorem YJ{f:Addr}{fd:FuncData}(B:cq mg)(F:aQ K "without_empty_ranks" "without_empty_ranks" Cu f fd):aK P w K mg base ax 1 f fd ["ranks"] (MK K):=by
 refine F.bo K0 (λvs H Q E h=>?_) (λaC A outer s H vs Q E hr h=>?_)
 ·obtain⟨a,rs,rfl,_⟩:=h
  rfl
 ·intro XX
  obtain⟨a,rs,rfl,hS,hn,k⟩:=h
  have nd:=K0.nd
  refine⟨_,aq (aN (i:=1) nd rfl (rQ rfl) (bK (Xu rfl) (by rfl) B.sorted (by decide+kernel) (ae (iu (Ej rfl) (by rfl) B.set (by decide+kernel) (ae (pv 0) af)) af)))
   (au (aM (nu rfl nd (dM (pv 0)) (iz (own:=[("rank",2)]) rfl)
    (λs H C cl fp=>bB (i:=2) nd rfl (ay rfl))
    (λs H C cl fp=>qw)
    (λs H C cl fp=>YI K fA ag4 PySem.F.type_list_index (YH K) (pv 1) (ae (pv 2) af))))),?_⟩
  refine⟨_,rfl,a,rs.map λ(n:Nat)=>(n:Int),rfl,by rw[<-zq];exact hS,by rw[aA];omega,λS n st vk qH ⟨ds,ml,hd2,vM⟩ d_=>?_⟩
  rw[aA]at qH
  have s1:aa H (upd H st (i4 P w st S n)):=aa.new d_
  refine⟨st,S,n,rfl,aj,by omega,λns u hp hl hm hu=>?_⟩
  have s2:aa H (upd (upd H st (i4 P w st S n)) u (.lst (ns.map V.int))):=s1.trans (aa.new hu)
  have bV:∀k,k∈ns↔k∈rs.map λ(n:Nat)=>(n:Int):=λk=>(hm k).symm.trans (vk k)
  have YK:ns.Nodup:=Br.Im ml (by omega) λx hx=>(bV x).mpr ((vM x).mp hx)
  have aV:=Br.Rl hp YK
  obtain⟨us,rfl⟩:∃us:List Nat,ns=us.map λ(n:Nat)=>(n:Int):=by
   refine⟨ns.map Int.toNat,?_⟩
   rw[lU]
   refine(List.map_id ns).symm.trans (PN λx hx=>?_)
   obtain⟨m,_,e⟩:=cJ.mp ((bV x).mp hx)
   show x=((x.toNat:Nat):Int)
   rw[<-e]
   rfl
  have ult:us.Pairwise (· < ·):=(List.pairwise_map.mp aV).imp λ{a b} h=>by omega
  have ML:∀k,k∈us↔k∈rs:=λk=>by
   have:=bV (k:Int)
   rw[cJ,cJ]at this
   constructor
   ·intro h
    obtain⟨m,h1,h2⟩:=this.mp ⟨k,h,rfl⟩
    have:m=k:=by omega
    rw[<-this];exact h1
   ·intro h
    obtain⟨m,h1,h2⟩:=this.mpr ⟨k,h,rfl⟩
    have:m=k:=by omega
    rw[<-this];exact h1
  rw[<-zq]at s2⊢
  refine⟨_,rfl,a,rfl,⟨_,s2.seq hS⟩,λD hD=>?_⟩
  generalize vJ:upd (upd H st (i4 P w st S n)) u (.lst (vN us))=Hb at s2⊢
  have hD:Hb D=none:=by rw[<-vJ];exact hD
  have hU:Hb u=some (.lst (vN us)):=by rw[<-vJ,aj]
  refine j6 (K:=K) (xs:=vN rs) (λi H'=>H'=upd Hb D (.lst (vN ((rs.take i).map (Br.cnt rs))))) (by rw[<-vJ];rfl) ?_ ?_ ?_
  ·rintro i H' _ rfl
   exact(s2.trans (aa.new hD)).seq hS
  ·rintro i y H' hi rfl
   obtain⟨r,cT,rfl⟩:=qE hi
   have e_:r∈us:=(ML r).mpr (bL cT)
   obtain⟨j,hj,ej⟩:=wK e_
   have jh:us[j]? =some r:=by rw[bX hj,ej]
   have hc:=Br.Rh ult ML jh
   refine⟨rfl,qQ ?_⟩
   refine⟨_,rfl,.inl ⟨rfl,_,ah.of (aa.new hD _ _ hU)⟩,_,rfl,u,_,_,j,_,rfl,rfl,ah.of (aa.new hD _ _ hU),rfl,DY us,yX jh,by simp[js],λm z' Rr JM=>?_,_,aj,?_,?_⟩
   ·obtain⟨q,hq,rfl⟩:=qE JM
    have a8:q≠r:=λz=>by
     rw[z]at hq
     have:=Br.Hy (ult.imp λh=>cV h) hq jh
     omega
    show((q:Int)==(r:Int))=false
    rw[beq_eq_false_iff_ne]
    omega
   ·rw[cA,aA,fC]
    exact eA (by omega)
   ·rw[fJ]
    congr 2
    rw[take_one cT,bI,kb]
    show _=_++[V.int (Br.cnt rs r:Int)]
    rw[hc]
  ·rintro H' rfl
   rw[cA,cO]
   refine k _ D (s2.trans (aa.new hD)) (s2.free hD) ?_
   rw[aj,Br.xu]
def EO(K:ai):Sp:=λvs H Q _=>∃(f0 e wv:Addr)(d:d6),vs=[.ref f0,.ref e,.ref wv]/\Br.gf d/\H f0=some (.lst (vN (wR d)))/\bD K H e (kG d)/\bD K H wv (eN d)/\
 ∀(H':Hp)(r:Addr),aa H H'->H r=none->H' r=some (.lst (vN (cR d)))->Q (.ref r) H'
theorem YL{f:Addr}{fd:FuncData}(F:aQ K "box_ranks" "box_ranks" Cp f fd)(DM:aS P w K mg base ax 2 "moved_ranks" ["first_ranks","edges","wishes"] (MB K))(DP:aS P w K mg base ax 1 "without_empty_ranks" ["ranks"] (MK K)):
  aK P w K mg base ax 3 f fd ["first_ranks","edges","wishes"] (EO K):=by
 refine F.bo We (λvs H Q E h=>?_) (λaC A outer s H vs Q E hr h=>?_)
 ·obtain⟨f0,e,wv,d,rfl,_⟩:=h
  rfl
 ·intro XX
  obtain⟨f0,e,wv,d,rfl,G,hF,hE,hW,k⟩:=h
  refine⟨_,au (aM (aL DP (hr.mono (by decide)) aI (ae (aL DM hr aI (ae (pv 0) (ae (pv 1) (ae (pv 2) af)))) af))),?_⟩
  have nb:=G.nb
  refine⟨_,rfl,_,rfl,_,rfl,f0,e,wv,d.boxes.length,23,Vadiaa.PASSES,kG d,eN d,wR d,rfl,hF,hE,hW,by rw[Br.p5];have:=G.ne;omega,by rw[kg];have:=G.nw;omega,G.uz,by omega,Br.Ri G,λH1 r1 s1 n1 h1=>?_⟩
  refine⟨r1,Br.AX d,rfl,ah.of h1,by rw[G.xw.len];omega,λH2 r2 s2 n2 h2=>?_⟩
  exact k H2 r2 (s1.trans s2) (s1.free n2) h2
def zr(K:ai):Sp:=λvs H Q _=>∃(e r:Addr)(x:Arc)(rs:List Nat),vs=[.ref e,.ref r]/\oX K H e x/\ah K H r (vN rs)/\x.1<rs.length/\x.2<rs.length/\Q (.int ((rankOf rs x.2:Int)-(rankOf rs x.1:Int))) H
theorem YM{f:Addr}{fd:FuncData}(F:aQ K "edge_length" "edge_length" Cv f fd):aK P w K mg base ax 1 f fd ["edge","ranks"] (zr K):=by
 refine F.bo Wf (λvs H Q E h=>?_) (λaC A outer s H vs Q E hr h=>?_)
 ·obtain⟨e,r,x,rs,rfl,_⟩:=h
  rfl
 ·intro XX
  obtain⟨e,r,x,rs,rfl,hT,hR,h1,h2,k⟩:=h
  refine⟨_,au (aM (bW xW (aG (bj K) (pv 1) (aG (bQ K) (pv 0) aJ (λ_ _=>rfl)) (λ_ _=>rfl)) (aG (bj K) (pv 1) (aG (bQ K) (pv 0) aJ (λ_ _=>rfl)) (λ_ _=>rfl)))),?_⟩
  exact⟨_,rfl,_,rfl,e,_,1,_,rfl,rfl,hT,gv,r,_,_,_,rfl,rfl,hR,i7 h2,_,rfl,_,rfl,e,_,0,_,rfl,rfl,hT,dC,r,_,_,_,rfl,rfl,hR,i7 h1,_,_,rfl,rfl,k⟩
def MM(K:ai):Sp:=λvs H Q _=>∃(e r:Addr)(l:List Arc)(rs:List Nat),vs=[.ref e,.ref r]/\fQ K H e l/\l.length<=900/\ah K H r (vN rs)/\Br.bt rs.length l/\(∀a∈l,rankOf rs a.1<rankOf rs a.2)/\∀H':Hp,aa H H'->Q (.int (pU l rs:Int)) H'
theorem YN{f:Addr}{fd:FuncData}(ER:mg "sum"=none)(F:aQ K "lengths_together" "lengths_together" Cw f fd)(DL:aS P w K mg base ax 1 "edge_length" ["edge","ranks"] (zr K)):aK P w K mg base ax 2 f fd ["edges","ranks"] (MM K):=by
 refine F.bo K1 (λvs H Q E h=>?_) (λaC A outer s H vs Q E hr h=>?_)
 ·obtain⟨e,r,l,rs,rfl,_⟩:=h
  rfl
 ·intro XX
  obtain⟨e,r,l,rs,rfl,⟨ps,hS,hP⟩,hn,hR,e_,mj,k⟩:=h
  have nd:=K1.nd
  refine⟨_,au (aM (bK (T8 rfl) (by rfl) ER (by decide+kernel) (ae (nu rfl nd (dM (pv 0)) (iz (own:=[("edge",2)]) rfl)
    (λs H C cl fp=>bB (i:=2) nd rfl (ay rfl))
    (λs H C cl fp=>qw)
    (λs H C cl fp=>aL DL hr aI (ae (pv 2) (ae (pv 1) af)))) af))),?_⟩
  refine⟨_,rfl,e,rfl,⟨_,hS⟩,λD hD=>?_⟩
  have s2:∀o,aa H (upd H D o):=λo=>aa.new hD
  refine j6 (K:=K) (xs:=ps.map V.ref) (λi H'=>H'=upd H D (.lst (((l.take i).map λa=>(rankOf rs a.2:Int)-(rankOf rs a.1:Int)).map V.int))) rfl ?_ ?_ ?_
  ·rintro i H' _ rfl
   exact(aa.new hD).seq hS
  ·rintro i y H' hi rfl
   obtain⟨p,hp,rfl⟩:=dO hi
   obtain⟨x,hx,hT⟩:=Paired.at' hP hp
   have zo:=e_ x (bL hx)
   refine⟨rfl,qQ ?_⟩
   refine⟨_,rfl,_,rfl,p,r,x,rs,rfl,aa.tup (s2 _) hT,(s2 _).seq hR,zo.1,zo.2,_,aj,?_,?_⟩
   ·rw[aA,aA,fC]
    exact eA (by omega)
   ·rw[fJ]
    congr 2
    rw[take_one hx,bI,bI]
    rfl
  ·rintro H' rfl
   rw[aA,a7 hP,cO]
   refine⟨D,_,rfl,ah.of aj,?_⟩
   have e:((l.map λa=>(rankOf rs a.2:Int)-(rankOf rs a.1:Int)).sum)=(pU l rs:Int):=Br.AU mj
   rw[e]
   exact k _ (aa.new hD)
end
end Bp
set_option Elab.async false
set_option linter.all false
set_option maxRecDepth 100000
set_option maxHeartbeats 2000000
namespace L2
open PySem PyProof.Rows
def tw(a:Addr)(j:Int):HO:=.ext λh=>∃t u v,IsRange h a 0 j 1 t u v
section
variable{X:Cx}
theorem YO:gT X (.type "range") (λvs H Q=>∃j:Int,vs=[.int j]/\∀a,H a=none->Q (.ref a) (upd H a (tw a j))):=by
 intro pins s σ H vs us Q I r h
 obtain⟨j,rfl,q⟩:=h
 obtain⟨u,rfl,rx⟩:=vals1 r
 obtain⟨t,rfl⟩:=rx
 refine call_range_1 ⟨.ref s.heap.objs.size,_,I.laid (o:=tw s.heap.objs.size j) (λb o e=>bH _ e) (aT _) ?_,rfl,q _ (I.az.fresh (aT _))⟩
 have hg:(s.heap.push {cls:=.type "range",data:=.fields #[.int 0 s.toks,.int j t,.int 1 (s.toks+1)]}).get? s.heap.objs.size=some {cls:=.type "range",dict:=none,data:=.fields #[.int 0 s.toks,.int j t,.int 1 (s.toks+1)],slots:= #[]}:=dG _ rfl
 exact⟨⟨_,_,_,hg⟩,⟨_,hg⟩,λh1 h2 ⟨t,u,v,e⟩ k=>⟨t,u,v,k _ e⟩⟩
theorem YQ(hc:X.calm=true):gT X (.type "list") (λvs H Q=>∃(a:Addr)(n:Nat),vs=[.ref a]/\H a=some (tw a (n:Int))/\n<=1000/\∀l,H l=none->Q (.ref l) (upd H l (.lst ((cW n).map λ(k:Nat)=>V.int (k:Int))))):=by
 intro pins s σ H vs us Q I r h
 obtain⟨a,n,rfl,ha,hn,q⟩:=h
 rw[Vals.qr r]
 obtain⟨⟨t,u,v,W⟩,_⟩:=(show b_ X.prog X.w H s.heap a (tw a (n:Int))from I.az a _ ha)
 have hs:agQ 0 (n:Int) 1=(n:Int):=by rw[rangeSize_one];split<;>omega
 refine call_list_range (I.ok.hd hc) W (small_one (by omega) (by omega) (by omega) (by omega)) hs (by omega) λh' tk acc c kp e it=>?_
 have hv:Vals ((cW n).map λ(k:Nat)=>V.int (k:Int)) acc.toList:=by
  have key:∀(m:Nat)(f:Nat->V)(l:List Value),l.length=m->(∀j v,l[j]? =some v->RelV (f j) v)->Vals ((cW m).map f) l:=by
   intro m
   induction m with
   |zero=>
    intro f l hl _
    cases l with
    |nil=>exact .nil
    |cons a b=>simp at hl
   |succ m ih=>
    intro f l hl hr
    cases l with
    |nil=>simp at hl
    |cons a b=>
     rw[ahj,eV,lU]
     refine .cons (hr 0 a rfl) (ih (f∘Nat.succ) b (by simpa using hl) λj v hj=>hr (j+1) v (by simpa using hj))
  refine key n _ _ (by rw[fg];exact it.1) λj v hj=>?_
  obtain⟨t',e'⟩:=it.2 j v (by rw[<-Gx];exact hj)
  refine⟨t',?_⟩
  rw[e']
  congr 1
  omega
 have hl:((cW n).map λ(k:Nat)=>V.int (k:Int)).length<=sizeLine:=by rw[aA,GJ,sizeLine_eq];omega
 exact⟨.ref s.heap.objs.size,_,I.laid (t':=tk) kp (aT _) (show b_ X.prog X.w _ h' _ (.lst _)from⟨hl,acc.toList,c,hv,e⟩),rfl,q _ (I.az.fresh (aT _))⟩
end
end L2
namespace Bp
open PySem PySem.Spec PyProof.Rows L2
open Vadiaa (Arc rankOf)
section
variable{P:Program}{w:World}{K:ai}{mg:Str->Option Value}{base:Heap}
def MN(K:ai):Sp:=λvs H Q _=>∃(n:Nat)(a:Addr)(l:List Arc),vs=[.int n,.ref a]/\fQ K H a l/\Br.bt n l/\n<=999/\
 ∀(H':Hp)(r:Addr),aa H H'->H r=none->H' r=some (.lst (vN ((cW n).map (Br.iR n l))))->Q (.ref r) H'
theorem YR{f:Addr}{fd:FuncData}(B:cq mg)(F:aQ K "least_together" "least_together" Co f fd):aK P w K mg base ax 1 f fd ["boxes","edges"] (MN K):=by
 refine F.bo KS (λvs H Q E h=>?_) (λaC A outer s H vs Q E hr h=>?_)
 ·obtain⟨n,a,l,rfl,_⟩:=h
  rfl
 ·intro XX
  obtain⟨n,a,l,rfl,hA,hn,k7,k⟩:=h
  have nd:=KS.nd
  obtain⟨ps,hS,hP⟩:=id hA
  have ft:ps.length=l.length:=a7 hP
  refine⟨_,aq (aN (i:=2) nd rfl (ay rfl) (iu (YQ rfl) (by rfl) B.list (by decide+kernel) (ae (iu YO (by rfl) B.range (by decide+kernel) (ae (pv 0) af)) af)))
   (aq (aN (i:=3) nd rfl (ay rfl) lY)
   (aq (iU d5 (dJ (pv 3))
    (aq (aN (i:=3) nd rfl (ay rfl) lY)
    (au (eJ d5 rfl (dM (pv 1)) (iZ K 2 rfl (dA (bB (i:=4) nd rfl (ay rfl)) (dA (bB (i:=5) nd rfl (ay rfl)) iT)))
     (au (bF (bC xX (aG (bj K) (pv 2) (pv 4) (λ_ _=>rfl)) (aG (bj K) (pv 2) (pv 5) (λ_ _=>rfl)) (bw _))
      (aq (aN (i:=6) nd rfl (ay rfl) (bK (SS rfl) (by rfl) B.min (by decide+kernel) (ae (aG (bj K) (pv 2) (pv 4) (λ_ _=>rfl)) (ae (aG (bj K) (pv 2) (pv 5) (λ_ _=>rfl)) af))))
      (aq (qi (pv 6) (qh (pv 2) (pv 4) set_list))
      (aq (qi (pv 6) (qh (pv 2) (pv 5) set_list)) (au (aN (i:=3) nd rfl (ay rfl) lY))))) bM))))))
   (au (aM (pv 2))))),?_⟩
  refine⟨_,rfl,(n:Int),rfl,λt ht=>⟨t,n,rfl,aj,by omega,λr de=>?_⟩⟩
  have s1:aa H (upd H t (tw t (n:Int))):=aa.new ht
  have bq:H r=none:=s1.free de
  have s0:aa H (upd (upd H t (tw t (n:Int))) r (.lst ((cW n).map λ(k:Nat)=>V.int (k:Int)))):=s1.trans (aa.new de)
  refine⟨λmm σ H'=>∃(rs:List Nat)(ch:Bool)(v4 v5 v6:Option V),mm=2*rs.sum+(if ch=true then 1 else 0)/\σ=[some (.int n),some (.ref a),some (.ref r),some (.bl ch),v4,v5,v6]/\aa H H'/\H' r=some (.lst (vN rs))/\Br.jW n l rs/\(ch=false->∀b∈l,rankOf rs b.1=rankOf rs b.2),
   ⟨_,cW n,true,none,none,none,rfl,rfl,s0,aj,Br.jW.start n l,λz=>nomatch z⟩,?_⟩
  rintro mm σ H' ⟨rs,ch,v4,v5,v6,rfl,rfl,sm,hR,L,mj⟩
  refine⟨_,rfl,ch,rfl,?_⟩
  cases ch with
  |false=>exact aZ ⟨_,rfl,k H' r sm bq (by rw[<-L.done hn (mj rfl)];exact hR)⟩
  |true=>
   refine aY ⟨λσ' H2=>∃(a9:List Nat)(cN:Bool)(v4 v5 v6:Option V),σ'=[some (.int n),some (.ref a),some (.ref r),some (.bl cN),v4,v5,v6]/\aa H H2/\H2 r=some (.lst (vN a9))/\Br.jW n l a9/\(cN=false->a9=rs/\∀b∈l,rankOf rs b.1=rankOf rs b.2)/\(cN=true->a9.sum<rs.sum),?_,?_⟩
   ·rintro σ' H2 ⟨a9,cN,hX,nJ,zt,rfl,cu,eB,L2,a6,gC⟩
    refine⟨_,?_,a9,cN,hX,nJ,zt,rfl,rfl,cu,eB,L2,λz=>by rw[(a6 z).1];exact(a6 z).2⟩
    cases cN with
    |true=>
     have:=gC rfl
     simp only[if_true]
     omega
    |false=>
     rw[(a6 rfl).1]
     simp
   refine⟨_,rfl,a,rfl,⟨_,sm.seq hS⟩,?_⟩
   refine iq (K:=K) (a:=a) (xs:=ps.map V.ref) (λj σ' H2=>∃(a9:List Nat)(cN:Bool)(v4 v5 v6:Option V),σ'=[some (.int n),some (.ref a),some (.ref r),some (.bl cN),v4,v5,v6]/\aa H H2/\H2 r=some (.lst (vN a9))/\Br.jW n l a9/\(cN=false->a9=rs/\∀b∈l.take j,rankOf rs b.1=rankOf rs b.2)/\(cN=true->a9.sum<rs.sum))
    ⟨rs,false,v4,v5,v6,rfl,sm,hR,L,λ_=>⟨rfl,by simp⟩,λz=>nomatch z⟩ ?_ ?_ ?_
   ·rintro j σ' H2 _ ⟨_,_,_,_,_,_,cu,_⟩
    exact cu.seq hS
   ·rintro j y σ' H2 hj ⟨a9,cN,hX,nJ,zt,rfl,cu,eB,L2,a6,gC⟩
    obtain⟨p,hp,rfl⟩:=dO hj
    obtain⟨aD,dW,hJ⟩:=Paired.at' hP hp
    have bV:aD∈l:=bL dW
    obtain⟨jy,fU⟩:=hn aD bV
    have kh:=L2.len
    refine⟨p,_,rfl,aa.tup cu hJ,rfl,_,_,rfl,_,_,rfl,rfl,?_⟩
    refine⟨_,rfl,_,rfl,r,_,(aD.1:Int),_,rfl,rfl,ah.of eB,i7 (by omega),_,rfl,_,rfl,r,_,(aD.2:Int),_,rfl,rfl,ah.of eB,i7 (by omega),rfl,_,rfl,?_⟩
    have dd:(!decide (V.int (rankOf a9 aD.1:Int)=V.int (rankOf a9 aD.2:Int)))= !decide (rankOf a9 aD.1=rankOf a9 aD.2):=by
     congr 1
     refine decide_eq_decide.mpr ⟨λz=>?_,λz=>by rw[z]⟩
     injection z with z
     omega
    rw[dd]
    by_cases hc:rankOf a9 aD.1=rankOf a9 aD.2
    ·rw[decide_eq_true hc]
     refine aZ ⟨a9,cN,_,_,_,rfl,cu,eB,L2,λz=>⟨(a6 z).1,λb hb=>?_⟩,gC⟩
     rw[take_one dW]at hb
     rcases cP.mp hb with hb|hb
     ·exact(a6 z).2 b hb
     ·rw[cY.mp hb]
      rw[(a6 z).1]at hc
      exact hc
    ·rw[decide_eq_false hc]
     have em:(if(rankOf a9 aD.2:Int)<(rankOf a9 aD.1:Int)then(rankOf a9 aD.2:Int)else(rankOf a9 aD.1:Int))=((dP (rankOf a9 aD.1) (rankOf a9 aD.2):Nat):Int):=by
      show _=((min (rankOf a9 aD.1) (rankOf a9 aD.2):Nat):Int)
      split<;>omega
     refine aY ⟨_,rfl,_,rfl,r,_,(aD.1:Int),_,rfl,rfl,ah.of eB,i7 (by omega),_,rfl,_,rfl,r,_,(aD.2:Int),_,rfl,rfl,ah.of eB,i7 (by omega),_,_,rfl,?_⟩
     rw[em]
     generalize hm:dP (rankOf a9 aD.1) (rankOf a9 aD.2)=m
     have nM:upd H2 r (.lst ((vN a9).set aD.1 (.int (m:Int)))) r=some (.lst (vN (a9.set aD.1 m))):=by rw[aj,zl]
     refine⟨_,rfl,_,rfl,_,rfl,r,_,(aD.1:Int),aD.1,rfl,rfl,eB,zm (by omega),?_⟩
     refine⟨_,rfl,_,rfl,_,rfl,r,_,(aD.2:Int),aD.2,rfl,rfl,nM,zm (by rw[jO];omega),?_⟩
     refine⟨Br.join a9 aD,true,_,_,_,rfl,λb o q=>?_,?_,L2.join hn bV,(λz=>nomatch z),λ_=>?_⟩
     ·rw[ao (aF q bq),ao (aF q bq)];exact cu _ _ q
     ·rw[aj]
      unfold Br.join
      rw[hm,zl]
     ·have h1:=Br.Rq L2 hn bV hc
      cases fb:cN with
      |true=>have:=gC fb;omega
      |false=>rw[(a6 fb).1]at h1⊢;exact h1
   ·rintro σ' H2 ⟨a9,cN,hX,nJ,zt,rfl,cu,eB,L2,a6,gC⟩
    rw[aA,ft,cO]at a6
    exact⟨a9,cN,hX,nJ,zt,rfl,cu,eB,L2,λz=>⟨(a6 z).1,λb hb=>(a6 z).2 b hb⟩,gC⟩
end
end Bp
set_option Elab.async false
set_option linter.all false
set_option maxRecDepth 100000
set_option maxHeartbeats 2000000
namespace L2
open PySem PySem.Spec PyProof.Rows
section
variable{P:Program}{w:World}{K:ai}{mg:Str->Option Value}{base:Heap}
theorem aQ.fV{C:Addr}{x qual:Str}{st:Stmt}{f:Addr}{fd:FuncData}{N ps:List Str}{k:Nat}{sp:Sp}(F:aQ K x qual st f fd)(S:aW N ps (aH st))(len:∀vs H Q E,sp vs H Q E->vs.length=ps.length)
  (nh:∀(aC:Value)(A:Around)(outer:List Env)(s:Shared)(H:Hp)(vs:List V)(Q:VK)(E:XK),bc k (A.deeper (envOfC qual (aH st) s.heap.objs.size f aC))->sp vs H Q E->
   let X:=fT (Bx.aU P w C) P w K mg base N qual (aH st) f aC A outer s H E
   ∃t,gh X (jt st) t/\t {nx:=λ_ H'=>Q .aO H',rt:=Q} (start N vs) H):aK P w K mg base (Bx.aU P w C) (k+1) f fd ps sp:=by
 obtain⟨oc,od,kV,doc,pm,an,aC,ct,fj,rfl,lk,j0⟩:=F.ex
 exact Jv lk j0 S len λA outer s H vs Q E hr eQ=>nh aC A outer s H vs Q E hr eQ
end
theorem MO:∀(ns ms:List Int),Qn (ns.map oA) (ms.map oA)=decide (ns=ms)
 |[],[]=>rfl
 |[],_::_=>rfl
 |_::_,[]=>rfl
 |n::ns,m::ms=>by
  rw[eV,eV]
  unfold Qn
  rw[MO ns ms]
  unfold QE
  rw[gb]
  simp
theorem lay_ints:∀(ns:List Int),PX (ns.map oA)=true
 |[]=>rfl
 |n::ns=>by
  rw[eV]
  unfold PX
  rw[lay_ints ns]
  rfl
theorem MP:∀(ns:List Int),Qb (ns.map oA)=0
 |[]=>rfl
 |n::ns=>by
  rw[eV]
  unfold Qb
  rw[MP ns]
  rfl
theorem ES(K:ai)(H:Hp):∀(ns:List Int),qt K H (ns.map V.int) (ns.map oA)
 |[]=>.nil
 |n::ns=>.cons (.int n) (ES K H ns)
theorem shaped_ints(ns:List Int):Hh (.tuple (ns.map oA))=true:=by
 unfold Hh
 rw[iM]
 refine⟨?_,decide_eq_true ?_⟩
 ·show PX _=true
  exact lay_ints ns
 ·show Qb _+1<=64
  rw[MP]
  decide
def YS(K:ai):R2:=λx y H Q=>∃(a b:Addr)(ns ms:List Int),x=.ref a/\y=.ref b/\aB K H a (ns.map V.int)/\aB K H b (ms.map V.int)/\Q (.bl (decide (ns=ms))) H
theorem ET{X:Cx}(hu:X.A.units+64<cLine):eh X (compareOp .Eq) (YS X.K):=by
 intro pins s σ H x y v u Q I rx ry h
 obtain⟨a,b,ns,ms,rfl,rfl,h1,h2,q⟩:=h
 refine Uo hu pins s σ H _ _ v u Q I rx ry ⟨.tuple (ns.map oA),.tuple (ms.map oA),.tup h1 (ES _ _ ns),.tup h2 (ES _ _ ms),shaped_ints ns,shaped_ints ms,?_⟩
 have e:QE (.tuple (ns.map oA)) (.tuple (ms.map oA))=decide (ns=ms):=by
  show Qn _ _=_
  exact MO ns ms
 rw[e]
 exact q
end L2
namespace Bp
open PySem PySem.Spec PyProof.Rows L2
open VadiBase (Bytes isBlank isDigit isLetter decimal)
def iB(b:Bytes):List Int:=b.map λc=>(c.toNat:Int)
def vB(b:Bytes):List V:=b.map λc=>V.int (c.toNat:Int)
theorem qR(b:Bytes):vB b=(iB b).map V.int:=by unfold vB iB;rw[lU];rfl
theorem cE(b:Bytes):(vB b).length=b.length:=by unfold vB;simp
theorem zu(a b:Bytes):vB (a++b)=vB a++vB b:=by unfold vB;simp
theorem MQ{b:Bytes}{i:Nat}{c:UInt8}(h:b[i]? =some c):(vB b)[i]? =some (.int (c.toNat:Int)):=by unfold vB;rw[ck,h];rfl
theorem YT{l:Bytes}{i:Nat}{v:V}(h:(vB l)[i]? =some v):∃n,l[i]? =some n/\v=V.int (n.toNat:Int):=by
 unfold vB at h
 rw[ck]at h
 cases e:l[i]? with
 |none=>rw[e]at h;cases h
 |some n=>rw[e]at h;exact⟨n,rfl,(cZ h).symm⟩
theorem zv{a b:Bytes}:iB a=iB b↔a=b:=by
 constructor
 ·intro h
  unfold iB at h
  refine Af ?_ |>.mp h
  intro x y e
  exact GY.mp (by omega)
 ·intro h;rw[h]
theorem MS{n:Nat}(h:n<=16384):n<sizeLine:=GG h (by rw[sizeLine_eq];omega)
def GT(K:ai)(mg:Str->Option Value)(x:Str)(xs:List V):Prop:=∃a,mg x=some (.ref a)/\∀H,aB K H a xs
section
variable{P:Program}{w:World}{K:ai}{mg:Str->Option Value}{base:Heap}
def zw:Sp:=λvs H Q _=>∃c:UInt8,vs=[.int (c.toNat:Int)]/\Q (.bl (isDigit c)) H
def EU:Sp:=λvs H Q _=>∃c:UInt8,vs=[.int (c.toNat:Int)]/\Q (.bl (isLetter c)) H
theorem EV{lo hi v:Int}{σ:L2.St}{H:Hp}{Q:VK}{i:Nat}(vO:σ[i]? =some (some (.int v)))(k:Q (.bl (decide (lo<=v)&&decide (v<=hi))) H):Ji (m9 λi j=>.bl (decide (i<=j))) (m9 λi j=>.bl (decide (i<=j))) (tC (.int lo)) (bu i) (tC (.int hi)) σ H Q:=by
 refine⟨_,vO,_,_,rfl,rfl,_,rfl,?_⟩
 by_cases h1:lo<=v
 ·rw[decide_eq_true h1]at k⊢
  rw[Bool.true_and]at k
  exact aY ⟨_,_,rfl,rfl,k⟩
 ·rw[decide_eq_false h1]at k⊢
  rw[Qp]at k
  exact aZ k
theorem YU{f:Addr}{fd:FuncData}(F:aQ K "is_digit" "is_digit" CZ f fd):aK P w K mg base ax 1 f fd ["byte"] zw:=by
 refine F.bo Wl (λvs H Q E h=>?_) (λaC A outer s H vs Q E hr h=>?_)
 ·obtain⟨c,rfl,_⟩:=h
  rfl
 ·intro XX
  obtain⟨c,rfl,k⟩:=h
  refine⟨_,au (aM (xZ m_ m_ aJ (pv 0) aJ)),?_⟩
  have e:isDigit c=(decide ((48:Int)<=(c.toNat:Int))&&decide ((c.toNat:Int)<=(57:Int))):=by
   unfold isDigit
   rw[gb]
   simp only[decide_eq_true_eq,iM]
   omega
  exact EV rfl (by rw[<-e];exact k)
theorem YV{f:Addr}{fd:FuncData}(F:aQ K "is_letter" "is_letter" CY f fd):aK P w K mg base ax 1 f fd ["byte"] EU:=by
 refine F.bo Wk (λvs H Q E h=>?_) (λaC A outer s H vs Q E hr h=>?_)
 ·obtain⟨c,rfl,_⟩:=h
  rfl
 ·intro XX
  obtain⟨c,rfl,k⟩:=h
  refine⟨_,au (aM (Sj (xZ m_ m_ aJ (pv 0) aJ) (Si (xZ m_ m_ aJ (pv 0) aJ)))),?_⟩
  have e:isLetter c=((decide ((97:Int)<=(c.toNat:Int))&&decide ((c.toNat:Int)<=(122:Int)))||(decide ((65:Int)<=(c.toNat:Int))&&decide ((c.toNat:Int)<=(90:Int)))):=by
   unfold isLetter
   rw[gb]
   simp only[decide_eq_true_eq,iM,Al]
   omega
  refine EV rfl ⟨_,rfl,?_⟩
  cases h:(decide ((97:Int)<=(c.toNat:Int))&&decide ((c.toNat:Int)<=(122:Int)))with
  |true=>
   rw[h,QA]at e
   rw[e]at k
   exact aY k
  |false=>
   rw[h,He]at e
   exact aZ (EV rfl (by rw[<-e];exact k))
theorem mq{b:Bytes}{p:Nat}{c:UInt8}(h:b[p]? =some c):gp (vB b) (p:Int)=some (.int (c.toNat:Int)):=du (MQ h)
def MT(K:ai):Sp:=λvs H Q _=>∃(a:Addr)(b:Bytes)(p:Nat),vs=[.ref a,.int p]/\ah K H a (vB b)/\p<=b.length/\Q (.int ((p+((b.drop p).takeWhile (· != 10)).length:Nat):Int)) H
theorem YW{f:Addr}{fd:FuncData}(B:cq mg)(g1:GI mg "LINE_END" 10)(F:aQ K "remark_end" "remark_end" CW f fd):aK P w K mg base ax 1 f fd ["text","place"] (MT K):=by
 refine F.bo Le (λvs H Q E h=>?_) (λaC A outer s H vs Q E hr h=>?_)
 ·obtain⟨a,b,p,rfl,_⟩:=h
  rfl
 ·intro XX
  obtain⟨a,b,p,rfl,hS,hp,k⟩:=h
  have nd:=Le.nd
  refine⟨_,aq (iU d5 (sq (bC kT (pv 1) (bK cb (by rfl) B.len bZ (ae (pv 0) af)) (bw _)) (so (bC xX (aG (bj K) (pv 0) (pv 1) (λ_ _=>rfl)) (bG g1) (bw _)))).pt
    (au (aN (i:=1) nd rfl (ay rfl) (bW fM (pv 1) aJ))))
   (au (aM (pv 1))),?_⟩
  refine⟨λm σ H'=>∃q:Nat,m=b.length-q/\q<=b.length/\σ=[some (.ref a),some (.int (q:Int))]/\H'=H/\p+((b.drop p).takeWhile (· != 10)).length=q+((b.drop q).takeWhile (· != 10)).length,⟨_,p,rfl,hp,rfl,rfl,rfl⟩,?_⟩
  rintro m σ H' ⟨q,rfl,hq,rfl,rfl,e⟩
  refine⟨_,rfl,_,rfl,a,_,rfl,.inl hS,_,_,rfl,rfl,_,rfl,?_⟩
  rw[cE]
  by_cases aV:q<b.length
  ·show if decide ((q:Int)<(b.length:Int))=true then _ else _
   rw[decide_eq_true (by omega:(q:Int)<(b.length:Int))]
   obtain⟨c,hc⟩:∃c,b[q]? =some c:=⟨_,bX aV⟩
   have hd:b.drop q=c::b.drop (q+1):=by
    rw[wJ aV]
    rw[bX aV]at hc
    rw[cZ hc]
   refine aY ⟨_,rfl,_,rfl,a,_,(q:Int),_,rfl,rfl,hS,mq hc,rfl,_,rfl,?_⟩
   have dd:(!decide (V.int (c.toNat:Int)=V.int 10))=(c != 10):=by
    rw[gb]
    simp only[Bool.not_eq_true',decide_eq_false_iff_not,bne_iff_ne,ne_eq]
    constructor
    ·intro h z
     rw[z]at h
     exact h rfl
    ·intro h z
     injection z with z
     exact h (GY.mp (by show c.toNat=10;omega))
   rw[dd]
   rw[hd,jL]at e
   cases fi:(c != 10)with
   |true=>
    rw[fi,if_pos rfl,bJ]at e
    refine aY ⟨λσ' H2=>σ'=[some (.ref a),some (.int ((q:Int)+1))]/\H2=H',?_,?_⟩
    ·rintro σ' H2 ⟨rfl,rfl⟩
     exact⟨b.length-(q+1),by omega,q+1,rfl,by omega,rfl,rfl,by omega⟩
    ·exact⟨_,rfl,_,_,rfl,rfl,rfl,rfl⟩
   |false=>
    rw[fi,if_neg (by decide)]at e
    refine aZ ⟨_,rfl,?_⟩
    rw[e]at k
    exact k
  ·show if decide ((q:Int)<(b.length:Int))=true then _ else _
   rw[decide_eq_false (by omega:¬(q:Int)<(b.length:Int))]
   refine aZ ⟨_,rfl,?_⟩
   have:b.drop q=[]:=Gz.mpr (by omega)
   rw[this]at e
   rw[e]at k
   exact k
end
end Bp
set_option Elab.async false
set_option linter.all false
set_option maxRecDepth 100000
set_option maxHeartbeats 2000000
namespace Bp
open PySem PySem.Spec PyProof.Rows L2
open L2.Bx (dB XO XD fq gu iD iA iC aU cU)
open VadiBase (Bytes isBlank isDigit isLetter decimal)
open Br (bS)
section
variable{P:Program}{w:World}{K:ai}{mg:Str->Option Value}{base:Heap}
theorem YX(c:UInt8):iw (.int (c.toNat:Int)) [.int 32,.int 9,.int 10]=isBlank c:=by
 unfold iw isBlank
 rw[gb]
 simp only[wZ,List.any_nil,js,Bool.or_false,Al,beq_iff_eq]
 have h:∀n:Nat,n<256->((n:Int)=(c.toNat:Int)↔c=QC n):=λn hn=>by
  constructor
  ·intro e
   have e2:n=c.toNat:=by omega
   rw[e2,UInt8.ofNat_toNat]
  ·intro e
   have e2:c.toNat=n % 256:=by rw[e];exact ahr
   omega
 have h1:=h 32 (by decide)
 have h2:=h 9 (by decide)
 have h3:=h 10 (by decide)
 constructor
 ·rintro (e|e|e)
  ·exact .inl (h1.mp e)
  ·exact .inr (.inl (h2.mp e))
  ·exact .inr (.inr (h3.mp e))
 ·rintro (e|e|e)
  ·exact .inl (h1.mpr e)
  ·exact .inr (.inl (h2.mpr e))
  ·exact .inr (.inr (h3.mpr e))
theorem drop_cons{b:Bytes}{q:Nat}{c:UInt8}(hc:b[q]? =some c):b.drop q=c::b.drop (q+1):=by
 obtain⟨aV,e⟩:=bE.mp hc
 rw[wJ aV,e]
def MU(K:ai):Sp:=λvs H Q _=>∃(a:Addr)(b:Bytes)(p:Nat),vs=[.ref a,.int p]/\ah K H a (vB b)/\p<=b.length/\
 ∀q:Nat,p<=q->q<=b.length->bS p (b.drop p)=bS q (b.drop q)->(∀c,b[q]? =some c->isBlank c=false/\c≠35)->Q (.int (q:Int)) H
theorem EW(c:UInt8):decide (V.int (c.toNat:Int)=V.int 35)=(c==35):=by
 rw[gb]
 simp only[decide_eq_true_eq,beq_iff_eq]
 constructor
 ·intro z
  injection z with z
  exact GY.mp (by show c.toNat=35;omega)
 ·intro z
  rw[z]
  rfl
theorem YY{f:Addr}{fd:FuncData}(B:cq mg)(g1:GT K mg "BLANKS" [.int 32,.int 9,.int 10])(g2:GI mg "REMARK" 35)(F:aQ K "gap_end" "gap_end" CV f fd)(DR:aS P w K mg base ax 1 "remark_end" ["text","place"] (MT K)):
  aK P w K mg base ax 2 f fd ["text","place"] (MU K):=by
 refine F.bo Ld (λvs H Q E h=>?_) (λaC A outer s H vs Q E hr h=>?_)
 ·obtain⟨a,b,p,rfl,_⟩:=h
  rfl
 ·intro XX
  obtain⟨a,b,p,rfl,hS,hp,k⟩:=h
  have nd:=Ld.nd
  obtain⟨ab,gm,gs⟩:=g1
  refine⟨_,aq (iU d5 (sq (bC kT (pv 1) (bK cb (by rfl) B.len bZ (ae (pv 0) af)) (bw _))
    (so (uI (bC (LG K) (aG (bj K) (pv 0) (pv 1) (λ_ _=>rfl)) (sk (v:=.ref ab) (by rfl) gm rfl (by decide)) (by with_unfolding_all rfl)) (uH (bC ei (aG (bj K) (pv 0) (pv 1) (λ_ _=>rfl)) (bG g2) (bw _)))).pt)).pt
    (au (bF (bC ei (aG (bj K) (pv 0) (pv 1) (λ_ _=>rfl)) (bG g2) (bw _))
     (au (aN (i:=1) nd rfl (ay rfl) (aL DR hr aI (ae (pv 0) (ae (pv 1) af)))))
     (au (aN (i:=1) nd rfl (ay rfl) (bW fM (pv 1) aJ))))))
   (au (aM (pv 1))),?_⟩
  refine⟨λm σ H'=>∃q:Nat,m=b.length-q/\p<=q/\q<=b.length/\σ=[some (.ref a),some (.int (q:Int))]/\H'=H/\bS p (b.drop p)=bS q (b.drop q),⟨_,p,rfl,aT _,hp,rfl,rfl,rfl⟩,?_⟩
  rintro m σ H' ⟨q,rfl,tD,hq,rfl,rfl,e⟩
  refine⟨_,rfl,_,rfl,a,_,rfl,.inl hS,_,_,rfl,rfl,_,rfl,?_⟩
  rw[cE]
  show if decide ((q:Int)<(b.length:Int))=true then _ else _
  by_cases aV:q<b.length
  ·rw[decide_eq_true (by omega:(q:Int)<(b.length:Int))]
   obtain⟨c,hc⟩:∃c,b[q]? =some c:=⟨_,bX aV⟩
   have hd:=drop_cons hc
   have next:∀q2:Nat,q<q2->q2<=b.length->bS q (b.drop q)=bS q2 (b.drop q2)->∀(σ':L2.St)(H2:Hp),(σ'=[some (.ref a),some (.int (q2:Int))]/\H2=H')->∃m',m'<b.length-q/\∃q:Nat,m'=b.length-q/\p<=q/\q<=b.length/\σ'=[some (.ref a),some (.int (q:Int))]/\H2=H'/\bS p (b.drop p)=bS q (b.drop q):=by
    rintro q2 h1 h2 h3 σ' H2 ⟨rfl,rfl⟩
    exact⟨_,by omega,q2,rfl,by omega,h2,rfl,rfl,e.trans h3⟩
   refine aY ⟨_,rfl,_,rfl,a,_,(q:Int),_,rfl,rfl,hS,mq hc,ab,_,rfl,.inr (gs _),rfl,rfl,_,rfl,?_⟩
   have e0:(if false=true then !iw (.int (c.toNat:Int)) [.int 32,.int 9,.int 10]else iw (.int (c.toNat:Int)) [.int 32,.int 9,.int 10])=isBlank c:=by rw[if_neg (by decide)];exact YX c
   show if(if false=true then !iw (.int (c.toNat:Int)) [.int 32,.int 9,.int 10]else iw (.int (c.toNat:Int)) [.int 32,.int 9,.int 10])=true then _ else _
   rw[e0]
   have a8:isBlank c=true->(c==35)=false:=λh=>by
    cases hh:(c==35)with
    |false=>rfl
    |true=>
     rw[eq_of_beq hh]at h
     exact absurd h (by decide)
   cases hb:isBlank c with
   |true=>
    refine aY (aY ⟨λσ' H2=>σ'=[some (.ref a),some (.int ((q+1:Nat):Int))]/\H2=H',next (q+1) (by omega) (by omega) (by rw[hd];exact Br.Ih hb),?_⟩)
    refine⟨_,rfl,_,rfl,a,_,(q:Int),_,rfl,rfl,hS,mq hc,rfl,_,rfl,?_⟩
    rw[EW,a8 hb]
    exact aZ ⟨_,rfl,_,_,rfl,rfl,rfl,rfl⟩
   |false=>
    refine aZ ⟨_,rfl,_,rfl,a,_,(q:Int),_,rfl,rfl,hS,mq hc,rfl,_,rfl,?_⟩
    rw[EW]
    cases p_:(c==35)with
    |true=>
     have ec:c=35:=eq_of_beq p_
     have hd2:b.drop q=35::b.drop (q+1):=by rw[hd,ec]
     have et:((b.drop q).takeWhile (· != 10)).length=1+((b.drop (q+1)).takeWhile (· != 10)).length:=by
      rw[hd2,jL,if_pos (by decide),bJ]
      omega
     have hle:q+((b.drop q).takeWhile (· != 10)).length<=b.length:=by
      have:=Br.takeWhile_len_le (· != 10) (b.drop q)
      rw[lQ]at this
      omega
     refine aY ⟨λσ' H2=>σ'=[some (.ref a),some (.int ((q+((b.drop q).takeWhile (· != 10)).length:Nat):Int))]/\H2=H',next _ (by omega) hle ?_,?_⟩
     ·have e1:q+((b.drop q).takeWhile (· != 10)).length=q+1+((b.drop (q+1)).takeWhile (· != 10)).length:=by omega
      calc bS q (b.drop q)=bS q (35::b.drop (q+1)):=by rw[hd2]
       _=bS (q+1+((b.drop (q+1)).takeWhile (· != 10)).length) ((b.drop (q+1)).dropWhile (· != 10)):=Br.Ii
       _=bS (q+1+((b.drop (q+1)).takeWhile (· != 10)).length) (b.drop (q+1+((b.drop (q+1)).takeWhile (· != 10)).length)):=by rw[<-Br.AZ,wX]
       _=_:=by rw[e1]
     ·refine⟨_,rfl,_,rfl,a,_,(q:Int),_,rfl,rfl,hS,mq hc,rfl,_,rfl,?_⟩
      rw[EW,p_]
      exact aY ⟨_,rfl,_,rfl,a,b,q,rfl,hS,hq,rfl,rfl⟩
    |false=>
     refine aZ ⟨_,rfl,?_⟩
     refine k q tD hq e λc' fS=>?_
     rw[hc]at fS
     cases fS
     exact⟨hb,by simpa using p_⟩
  ·rw[decide_eq_false (by omega:¬(q:Int)<(b.length:Int))]
   refine aZ ⟨_,rfl,?_⟩
   exact k q tD hq e λc hc=>absurd (bE.mp hc).1 aV
def pj:Sp:=λvs H Q _=>∃(y:Str),vs=[.str y]/\y.cps.size<=1000/\∀(H':Hp)(r:Addr),aa H H'->H r=none->H' r=some (.tup (y.cps.toList.map λ(c:Nat)=>V.int (c:Int)))->Q (.ref r) H'
theorem YZ{f:Addr}{fd:FuncData}(B:cq mg)(F:aQ K "spelled" "spelled" CS f fd):aK P w K mg base ax 1 f fd ["signs"] pj:=by
 refine F.bo La (λvs H Q E h=>?_) (λaC A outer s H vs Q E hr h=>?_)
 ·obtain⟨y,rfl,_⟩:=h
  rfl
 ·intro XX
  obtain⟨y,rfl,hy,k⟩:=h
  have nd:=La.nd
  refine⟨_,au (aM (iu yi (by rfl) B.tuple (by decide+kernel) (ae (nu rfl nd (Vd (pv 0)) (iz (own:=[("sign",1)]) rfl)
    (λs H C cl fp=>bB (i:=1) nd rfl (ay rfl))
    (λs H C cl fp=>qw)
    (λs H C cl fp=>bK SU (by rfl) B.ord (by decide+kernel) (ae (pv 1) af))) af))),?_⟩
  refine⟨_,rfl,y,rfl,λD hD=>?_⟩
  refine DU (n:=y.cps.size) (λi H'=>H'=upd H D (.lst ((y.cps.toList.take i).map λ(c:Nat)=>V.int (c:Int)))) rfl (λi H' hi _=>hi) (λH' _=>aT _) ?_ ?_
  ·rintro i H' x H2 hi rfl ⟨rfl,c,hc,rfl⟩
   refine⟨rfl,qQ ?_⟩
   have fS:y.cps.toList[i]? =some c:=by rw[Gx];exact hc
   refine⟨_,rfl,_,rfl,rfl,_,aj,?_,?_⟩
   ·rw[aA,fC]
    exact eA (by have:=y.cps.length_toList;omega)
   ·rw[fJ,take_one fS,bI]
    rfl
  ·rintro H' rfl
   have e:y.cps.toList.take y.cps.size=y.cps.toList:=by rw[<-fg,cO]
   rw[e]
   refine⟨D,_,rfl,.inl ⟨ah.of aj,λr cT=>?_⟩⟩
   exact k _ r ((aa.new hD).trans (aa.new cT)) ((aa.new hD).free cT) aj
def EX(K:ai):Sp:=λvs H Q _=>∃(a:Addr)(b:Bytes),vs=[.ref a]/\aB K H a (vB b)/\b.length<=10/\(∀c∈b,isDigit c=true)/\Q (.int (decimal b:Int)) H
theorem MV(b:Bytes)(c:UInt8):decimal (b++[c])=10*decimal b+(c.toNat-48):=by
 unfold decimal
 rw[GK]
 rfl
theorem MW:∀(n:Nat)(b:Bytes),b.length=n->(∀c∈b,isDigit c=true)->decimal b<10 ^ n
 |0,b,h,_=>by
  rw[rA.mp h]
  decide
 |n+1,b,h,hd=>by
  have a8:b≠[]:=λz=>by rw[z]at h;simp at h
  have e:=Gq a8
  have ih:=MW n b.dropLast (by rw[List.length_dropLast];omega) λc hc=>hd c (List.dropLast_subset b hc)
  have hl:=hd _ (Qc a8)
  unfold isDigit at hl
  have jZ:=of_decide_eq_true hl
  rw[<-e,MV,Nat.pow_succ]
  omega
theorem Y0{f:Addr}{fd:FuncData}(g1:GI mg "ZERO" 48)(F:aQ K "number_spelled" "number_spelled" CU f fd):aK P w K mg base ax 1 f fd ["spelling"] (EX K):=by
 refine F.bo Lb (λvs H Q E h=>?_) (λaC A outer s H vs Q E hr h=>?_)
 ·obtain⟨a,b,rfl,_⟩:=h
  rfl
 ·intro XX
  obtain⟨a,b,rfl,hS,hl,hd,k⟩:=h
  have nd:=Lb.nd
  refine⟨_,aq (aN (i:=1) nd rfl (ay rfl) aJ)
   (aq (eJ d5 rfl (xR (pv 0)) (bB (i:=2) nd rfl (ay rfl))
    (au (aN (i:=1) nd rfl (ay rfl) (bW xW (bW fM (bW SM (pv 1) aJ) (pv 2)) (bG g1)))))
   (au (aM (pv 1)))),?_⟩
  refine⟨_,rfl,a,rfl,⟨_,hS⟩,?_⟩
  refine xV (K:=K) (a:=a) (xs:=vB b) (λi σ H'=>∃v2:Option V,σ=[some (.ref a),some (.int (decimal (b.take i):Int)),v2]/\H'=H) ⟨none,rfl,rfl⟩ ?_ ?_ ?_
  ·rintro i σ H' _ ⟨_,_,rfl⟩
   exact hS
  ·rintro i y σ H' hi ⟨v2,rfl,rfl⟩
   obtain⟨c,hc,rfl⟩:=YT hi
   have MX:=hd c (bL hc)
   unfold isDigit at MX
   have ah6:=of_decide_eq_true MX
   have bound:decimal (b.take i)<10 ^ 10:=by
    have h1:=MW (b.take i).length (b.take i) rfl λc hc=>hd c (rC hc)
    have h2:(b.take i).length<=10:=by rw[fC];omega
    exact eM h1 (ahu (by decide) h2)
   refine⟨_,rfl,_,_,rfl,rfl,.inl ⟨by omega,by omega⟩,_,rfl,_,_,rfl,rfl,_,_,rfl,rfl,?_⟩
   refine⟨some (V.int (c.toNat:Int)),?_,rfl⟩
   have e:(decimal (b.take i):Int)*10+(c.toNat:Int)-48=(decimal (b.take (i+1)):Int):=by
    rw[take_one hc,MV]
    omega
   show[some (V.ref a),some (V.int ((decimal (b.take i):Int)*10+(c.toNat:Int)-48)),some (V.int (c.toNat:Int))]=_
   rw[e]
  ·rintro σ H' ⟨v2,rfl,rfl⟩
   rw[cE,cO]
   exact⟨_,rfl,k⟩
end
end Bp
set_option Elab.async false
set_option linter.all false
set_option maxRecDepth 100000
set_option maxHeartbeats 2000000
namespace Bp
open PySem PySem.Spec PyProof.Rows L2
open L2.Bx (dB XO XD fq gu iD iA iC aU cU)
open VadiBase (Bytes isBlank isDigit isLetter decimal)
open Br (bS)
def Raises(CF:Addr)(E:XK)(H:Hp)(c p:Nat):Prop:=∀(H':Hp)(dx:Addr),aa H H'->H' dx=some (XD dx [("code",.int (c:Int)),("place",.int (p:Int))])->E (.ref CF) (some dx) H'
theorem Raises.same{CF:Addr}{E:XK}{H H1:Hp}{c p:Nat}(r:Raises CF E H c p)(s:aa H H1):Raises CF E H1 c p:=λH' dx h1 h2=>r H' dx (s.trans h1) h2
structure Flt(P:Program)(w:World)(K:ai)(mg:Str->Option Value)(base:Heap)(CF:Addr):Prop where
 ex:∃fI fd,dB K CF fI ["code","place"]/\aK P w K mg base ax 1 fI fd ["self","code","place"] (fq CF "code" "place")/\Binds K fd ["self","code","place"] []
 mg:mg "Fault"=some (.ref CF)
structure lj(P:Program)(w:World)(K:ai)(mg:Str->Option Value)(base:Heap)(CX:eP)(k:Nat)(x:Str)(C:Addr)(ps:List Str)(sp:Sp):Prop where
 ex:∃f fd,Mk K C f/\aK P w K mg base CX k f fd ps sp/\Binds K fd ps []
 mg:mg x=some (.ref C)
section
variable{X:Cx}{CF:Addr}{E:XK}{CX:eP}{k:Nat}{x:Str}{C:Addr}{ps:List Str}{sp:Sp}{a e:Expr}{as es:List Expr}{t:TA}{np eu pos p:Pos}
theorem lu(D:Flt X.prog X.w X.K X.mg X.base CF)(hr:bc 2 X.A)(hx:Passes (aU X.prog X.w CF) X E)(ha:PA X (a::as) t)(hg:Gl X "Fault":=by rfl)(Ci:X.calm=true:=by rfl)
  (he:starEach (a::as) X.env=(false,eval a X.env)::starEach as X.env:=by rfl) (dE:(backTo eu (starEach as X.env)).any (·.1)=false:=by rfl):
  PS X (.Raise (some (.Call (.Name "Fault" np) (a::as) [] eu)) none pos) (gu CF "code" "place" E t):=by
 obtain⟨fI,fd,c,F,b⟩:=D.ex
 exact iD c F hr hg D.mg b hx Ci ha (by decide) he dE
theorem qS(D:lj X.prog X.w X.K X.mg X.base CX k x C ps sp)(hr:bc (k+1) X.A)(hx:Passes CX X E)(ha:PA X (e::es) t)(hg:Gl X x:=by rfl)(fN:(x==("__debug__":Str))=false:=by decide)
  (he:starEach (e::es) X.env=(false,eval e X.env)::starEach es X.env:=by rfl) (dE:(backTo pos (starEach es X.env)).any (·.1)=false:=by rfl):PE X (.Call (.Name x p) (e::es) [] pos) (yb C sp [] E t):=by
 obtain⟨f,fd,M,F,b⟩:=D.ex
 exact Ta M F hr hg D.mg b .nil hx ha fN he dE
end
section
variable{P:Program}{w:World}{K:ai}{mg:Str->Option Value}{base:Heap}{CF CT:Addr}
theorem Y1{fI:Addr}{fd:FuncData}(c:dB K CF fI ["code","place"])(F:aQ K "__init__" "Fault.__init__" sS fI fd):aK P w K mg base ax 1 fI fd ["self","code","place"] (fq CF "code" "place"):=by
 refine F.bo Wd (λvs H Q E h=>?_) (λaC A outer s H vs Q E hr h=>?_)
 ·obtain⟨e,y1,y2,rfl,_⟩:=h
  rfl
 ·intro XX
  obtain⟨e,y1,y2,rfl,he,k⟩:=h
  refine⟨_,aq (iA c (by simp) (pv 0) (pv 1) rfl) (au (iC c (by simp) (pv 0) (pv 2) rfl)),?_⟩
  refine⟨_,rfl,_,rfl,e,true,rfl,he,λdx bU a8=>?_⟩
  have h1:upd (upd H e (XO CF e (some dx) true)) dx (XD dx [("code",y1)]) e=some (XO CF e (some dx) true):=by rw[ao (Ne.symm a8),aj]
  refine⟨_,rfl,_,rfl,e,dx,true,_,rfl,h1,aj,a8,by show 1<1000;decide,?_⟩
  have Y2:bP "place" y2 [(("code":Str),y1)]=[(("code":Str),y1),(("place":Str),y2)]:=by
   show(if("code":Str)="place" then _ else _)=_
   rw[if_neg (by decide+kernel)]
   rfl
  refine k _ dx bU a8 ?_ ?_ λb h1 h2=>?_
  ·rw[ao (Ne.symm a8),ao (Ne.symm a8),aj]
  ·rw[aj,Y2]
  ·rw[ao h2,ao h2,ao h1]
def tf(kd:Str)(t:Addr)(p:Nat):List (Str×V):=[("kind",.str kd),("spelling",.ref t),("place",.int (p:Int))]
structure iG(K:ai)(CT:Addr):Prop where
 cl:ir K CT
 nk:dN K CT "kind"
 ns:dN K CT "spelling"
 np:dN K CT "place"
theorem Y3(kd:Str)(t:Addr)(p:Nat):(tf kd t p).lookup ("kind":Str)=some (.str kd):=rfl
theorem jB(kd:Str)(t:Addr)(p:Nat):(tf kd t p).lookup ("spelling":Str)=some (.ref t):=rfl
theorem tE(kd:Str)(t:Addr)(p:Nat):(tf kd t p).lookup ("place":Str)=some (.int (p:Int)):=rfl
def vP(CT:Addr):Sp:=λvs H Q _=>∃(q dx t:Addr)(kd:Str)(p:Nat),vs=[.ref q,.str kd,.ref t,.int (p:Int)]/\H q=some (.ins CT dx [])/\Q .aO (upd H q (.ins CT dx (tf kd t p)))
theorem Y4{f:Addr}{fd:FuncData}(T:iG K CT)(F:aQ K "__init__" "Token.__init__" CQ f fd):aK P w K mg base ax 1 f fd ["self","kind","spelling","place"] (vP CT):=by
 refine F.bo Wi (λvs H Q E h=>?_) (λaC A outer s H vs Q E hr h=>?_)
 ·obtain⟨q,dx,t,kd,p,rfl,_⟩:=h
  rfl
 ·intro XX
  obtain⟨q,dx,t,kd,p,rfl,hq,k⟩:=h
  refine⟨_,aq (eX (pv 0) (pv 1) rfl) (aq (eX (pv 0) (pv 2) rfl) (au (eX (pv 0) (pv 3) rfl))),?_⟩
  have e1:bP "spelling" (.ref t) [(("kind":Str),V.str kd)]=[(("kind":Str),V.str kd),(("spelling":Str),V.ref t)]:=by
   show(if("kind":Str)="spelling" then _ else _)=_
   rw[if_neg (by decide+kernel)]
   rfl
  have e2:bP "place" (.int (p:Int)) [(("kind":Str),V.str kd),(("spelling":Str),V.ref t)]=tf kd t p:=by
   show(if("kind":Str)="place" then _ else(("kind":Str),V.str kd)::(if("spelling":Str)="place" then _ else _))=_
   rw[if_neg (by decide+kernel),if_neg (by decide+kernel)]
   rfl
  refine⟨_,rfl,_,rfl,q,CT,dx,[],rfl,hq,T.cl,T.nk,(by show 0<1000;decide),?_⟩
  refine⟨_,rfl,_,rfl,q,CT,dx,_,rfl,aj,T.cl,T.ns,(by show 1<1000;decide),?_⟩
  refine⟨_,rfl,_,rfl,q,CT,dx,_,rfl,aj,T.cl,T.np,?_,?_⟩
  ·show(bP "spelling" (.ref t) [(("kind":Str),V.str kd)]).length<1000
   rw[e1]
   show 2<1000
   decide
  ·show Q .aO _
   rw[fJ,fJ]
   have e3:bP "place" (.int (p:Int)) (bP "spelling" (.ref t) (bP "kind" (.str kd) []))=tf kd t p:=by
    show bP "place" (.int (p:Int)) (bP "spelling" (.ref t) [(("kind":Str),V.str kd)])=_
    rw[e1,e2]
   rw[e3]
   exact k
end
end Bp
set_option Elab.async false
set_option linter.all false
set_option maxRecDepth 100000
set_option maxHeartbeats 2000000
namespace Bp
open PySem PySem.Spec PyProof.Rows L2
open L2.Bx (dB XO XD fq gu iD iA iC aU cU)
open VadiBase (Bytes isBlank isDigit isLetter decimal word)
open Br (bS)
def hZ:List (Str×Bytes):=[("box",word "box"),("edge",word "edge"),("above",word "above"),("group",word "group")]
def kindOf(w:Bytes):Str:=((hZ.find? λs=>w==s.2).map (·.1)).getD "name"
theorem Y5:∀s∈hZ,s.1.cps.toList=s.2.map rN:=by decide+kernel
def fW:List (Str×Bytes×Nat):=[("{",[123],123),("}",[125],125),(";",[59],59),(":",[58],58),("->",[45,62],256)]
theorem Y6:∀s∈fW,s.1.cps.toList=s.2.1.map rN:=by decide+kernel
def sgn(c:Nat):Str:=((fW.find? λs=>s.2.2==c).map (·.1)).getD "?"
theorem Y7:∀s∈fW,sgn s.2.2=s.1:=by decide+kernel
abbrev eK:=VadiBase.Tok
def bN:eK->Str
 | .name w=>kindOf w
 | .num _=>"number"
 | .sign c=>sgn c
 | .last=>"end"
def MY:eK->Bytes->Prop
 | .name w,sp=>sp=w/\w≠[]/\w.length<=16
 | .num n,sp=>decimal sp=n/\sp.length<=10/\(∀c∈sp,isDigit c=true)
 | .sign _,_=>True
 | .last,_=>True
def bp(K:ai)(CT:Addr)(H:Hp)(a:Addr)(p:Nat)(t:eK)(sp:Bytes):Prop:=∃dx ta,H a=some (.ins CT dx (tf (bN t) ta p))/\H ta=some (.tup (vB sp))/\MY t sp
theorem bp.same{K:ai}{CT:Addr}{H H':Hp}{a:Addr}{p:Nat}{t:eK}{sp:Bytes}(s:aa H H'):bp K CT H a p t sp->bp K CT H' a p t sp:=λ⟨dx,ta,h1,h2,h3⟩=>⟨dx,ta,s _ _ h1,s _ _ h2,h3⟩
theorem nO{y:Str}{b:Bytes}(h:y.cps.toList=b.map rN):(y.cps.toList.map λ(c:Nat)=>V.int (c:Int))=vB b:=by
 rw[h,lU]
 rfl
theorem MZ{b:Bytes}{p q:Nat}(h1:p<=q)(h2:q<=b.length):jo (vB b) (some (p:Int)) (some (q:Int))=vB ((b.drop p).take (q-p)):=by
 unfold jo
 rw[HT.qp,HT.qp,cE]
 have e1:min p b.length=p:=by omega
 have e2:min q b.length=q:=by omega
 rw[e1,e2]
 unfold vB
 rw[Hd,Qs]
theorem M1{c:TT}{A B:Hp->Prop}{σ:L2.St}{H:Hp}(b:Bool)(ht:∀Kt:Bool->Hp->Prop,Kt b H->c σ H Kt)(h1:b=true->A H)(h2:b=false->B H):c σ H (λb H1=>if b=true then A H1 else B H1):=by
 refine ht _ ?_
 cases b with
 |true=>exact aY (h1 rfl)
 |false=>exact aZ (h2 rfl)
section
variable{P:Program}{w:World}{K:ai}{mg:Str->Option Value}{base:Heap}{CF CT:Addr}
theorem vQ{H:Hp}{q dx ta:Addr}{t:eK}{p:Nat}{sp:Bytes}(hq:H q=none)(bU:H dx=none)(a8:dx≠q)(h:H ta=some (.tup (vB sp)))(ok:MY t sp):
  aa H (upd (upd (upd H dx (.own q)) q (.ins CT dx [])) q (.ins CT dx (tf (bN t) ta p)))/\bp K CT (upd (upd (upd H dx (.own q)) q (.ins CT dx [])) q (.ins CT dx (tf (bN t) ta p))) q p t sp:=by
 rw[fJ]
 have s:aa H (upd (upd H dx (.own q)) q (.ins CT dx (tf (bN t) ta p))):=λb o e=>by rw[ao (aF e hq),ao (aF e bU)];exact e
 exact⟨s,dx,ta,aj,s _ _ h,ok⟩
def gH(c:UInt8):Bool:=isLetter c||isDigit c
def M3(K:ai)(CF CT:Addr):Sp:=λvs H Q E=>∃(a:Addr)(b:Bytes)(p:Nat)(c:UInt8),vs=[.ref a,.int p]/\ah K H a (vB b)/\b.length<=8192/\b[p]? =some c/\isLetter c=true/\
 (16<((b.drop p).takeWhile gH).length->Raises CF E H 2 p)/\(¬16<((b.drop p).takeWhile gH).length->∀(H':Hp)(r:Addr),aa H H'->bp K CT H' r p (.name ((b.drop p).takeWhile gH)) ((b.drop p).takeWhile gH)->Q (.ref r) H')
theorem Y8{f:Addr}{fd:FuncData}(B:cq mg)(gW:GT K mg "WORDS" (hZ.map λs=>V.str s.1))(gL:GI mg "LONGEST_NAME" 16)(gN:GI mg "NO_TOKEN" 2)(gM:GS mg "NAME" "name")
  (DF:Flt P w K mg base CF) (DT:lj P w K mg base ax 1 "Token" CT ["self","kind","spelling","place"] (vP CT)) (DD:aS P w K mg base ax 1 "is_digit" ["byte"] zw) (DL:aS P w K mg base ax 1 "is_letter" ["byte"] EU) (DS:aS P w K mg base ax 1 "spelled" ["signs"] pj)
  (F:aQ K "word_at" "word_at" C0 f fd):aK P w K mg base (aU P w CF) 3 f fd ["text","place"] (M3 K CF CT):=by
 refine F.fV Lf (λvs H Q E h=>?_) (λaC A outer s H vs Q E hr h=>?_)
 ·obtain⟨a,b,p,c,rfl,_⟩:=h
  rfl
 ·intro XX
  obtain⟨a,b,p,c0,rfl,hS,jC,mf,EY,kR,kQ⟩:=h
  have nd:=Lf.nd
  have bq:bc 1 _:=hr.mono (by decide)
  obtain⟨aw,gm,gs⟩:=gW
  have hp:p<b.length:=(bE.mp mf).1
  refine⟨_,aq (aN (i:=2) nd rfl (ay rfl) (pv 1))
   (aq (iU mL (sq (bC kT (pv 2) (bK cb (by rfl) B.len bZ (ae (pv 0) af)) (bw _))
     (so (uI (dJ (aL DL bq aI (ae (aG (bj K) (pv 0) (pv 2) (λ_ _=>rfl)) af))) (uH (dJ (aL DD bq aI (ae (aG (bj K) (pv 0) (pv 2) (λ_ _=>rfl)) af))))).pt)).pt
    (au (aN (i:=2) nd rfl (ay rfl) (bW fM (pv 2) aJ))))
   (aq (aN (i:=3) nd rfl (ay rfl) (iu yi (by rfl) B.tuple (by decide+kernel) (ae (uQ uT (pv 0) (ni (pv 1)) (ni (pv 2))) af)))
   (aq (bF (bC kU (bK cb (by rfl) B.len bZ (ae (pv 3) af)) (bG gL) (bw _)) (au (lu DF hr (cU (E':=E) λ_ _ _ z=>z) (ae (bG gN) (ae (pv 1) af)))) bM)
   (aq (eJ mL rfl (xR (sk (v:=.ref aw) (by rfl) gm rfl (by decide))) (bB (i:=4) nd rfl (ay rfl))
    (au (bF (bC (ET hr.units) (pv 3) (aL DS bq aI (ae (pv 4) af)) (bw _)) (au (aM (qS DT hr aI (ae (pv 4) (ae (pv 3) (ae (pv 1) af)))))) bM)))
   (au (aM (qS DT hr aI (ae (ke gM) (ae (pv 3) (ae (pv 1) af)))))))))),?_⟩
  refine⟨_,rfl,?_⟩
  refine⟨λm σ H'=>∃q:Nat,m=b.length-q/\p<=q/\q<=b.length/\σ=[some (.ref a),some (.int (p:Int)),some (.int (q:Int)),none,none]/\H'=H/\p+((b.drop p).takeWhile gH).length=q+((b.drop q).takeWhile gH).length,⟨_,p,rfl,aT _,uk hp,rfl,rfl,rfl⟩,?_⟩
  rintro m σ H' ⟨q,rfl,tD,hq,rfl,rfl,e⟩
  refine M1 (match b[q]? with|some c=>gH c|none=>false) (λKt kt=>?_) (λht=>?_) (λhf=>?_)
  ·refine⟨_,rfl,_,rfl,a,_,rfl,.inl hS,_,_,rfl,rfl,_,rfl,?_⟩
   rw[cE]
   show if decide ((q:Int)<(b.length:Int))=true then _ else _
   by_cases aV:q<b.length
   ·rw[decide_eq_true (by omega:(q:Int)<(b.length:Int))]
    obtain⟨c,hc⟩:∃c,b[q]? =some c:=⟨_,bX aV⟩
    rw[hc]at kt
    have kt:Kt (isLetter c||isDigit c) H':=kt
    refine aY ⟨_,rfl,_,rfl,a,_,(q:Int),_,rfl,rfl,hS,mq hc,c,rfl,_,rfl,?_⟩
    cases hl:isLetter c with
    |true=>rw[hl]at kt;exact aY kt
    |false=>
     rw[hl,He]at kt
     exact aZ ⟨_,rfl,_,rfl,a,_,(q:Int),_,rfl,rfl,hS,mq hc,c,rfl,_,rfl,kt⟩
   ·rw[decide_eq_false (by omega:¬(q:Int)<(b.length:Int))]
    rw[lH.mpr (by omega)]at kt
    exact aZ kt
  ·obtain⟨c,hc,EZ⟩:∃c,b[q]? =some c/\gH c=true:=by
    cases hc:b[q]? with
    |none=>rw[hc]at ht;cases ht
    |some c=>rw[hc]at ht;exact⟨c,rfl,ht⟩
   have aV:=(bE.mp hc).1
   rw[drop_cons hc,jL,if_pos EZ,bJ]at e
   refine⟨λσ' H2=>σ'=[some (.ref a),some (.int (p:Int)),some (.int ((q+1:Nat):Int)),none,none]/\H2=H',?_,?_⟩
   ·rintro σ' H2 ⟨rfl,rfl⟩
    exact⟨b.length-(q+1),by omega,q+1,rfl,by omega,by omega,rfl,rfl,by omega⟩
   ·exact⟨_,rfl,_,_,rfl,rfl,rfl,rfl⟩
  ·have mh:(b.drop q).takeWhile gH=[]:=by
    cases hc:b[q]? with
    |none=>rw[Gz.mpr (lH.mp hc)];rfl
    |some c=>rw[hc]at hf;rw[drop_cons hc,jL,if_neg (by rw[show gH c=false from hf];decide)]
   rw[mh]at e
   have eq1:(b.drop p).take (q-p)=(b.drop p).takeWhile gH:=by
    have:q-p=((b.drop p).takeWhile gH).length:=by rw[uh]at e;omega
    rw[this]
    exact Br.take_takeWhile gH _
   generalize hw:(b.drop p).takeWhile gH=sp at eq1 kR kQ
   have a8:sp≠[]:=by
    rw[<-hw,drop_cons mf,jL,if_pos (by unfold gH;rw[EY];rfl)]
    simp
   refine⟨_,rfl,_,rfl,_,rfl,_,rfl,_,rfl,a,_,rfl,hS,λl hl=>?_⟩
   rw[MZ tD hq,eq1]
   refine⟨l,_,rfl,.inl ⟨ah.of aj,λtp gI=>?_⟩⟩
   have s1:aa H' (upd (upd H' l (.lst (vB sp))) tp (.tup (vB sp))):=(aa.new hl).trans (aa.new gI)
   generalize nP:upd (upd H' l (.lst (vB sp))) tp (.tup (vB sp))=H1 at s1⊢
   have hT:H1 tp=some (.tup (vB sp)):=by rw[<-nP,aj]
   refine⟨_,rfl,tp,_,rfl,.inr (aB.of hT),_,_,rfl,rfl,_,rfl,?_⟩
   rw[cE]
   show if decide ((16:Int)<(sp.length:Int))=true then _ else _
   by_cases nQ:16<sp.length
   ·rw[decide_eq_true (by omega:(16:Int)<(sp.length:Int))]
    refine aY ⟨_,rfl,_,_,rfl,λdx bU=>?_⟩
    exact kR nQ _ dx (s1.trans (aa.new bU)) aj
   ·rw[decide_eq_false (by omega:¬(16:Int)<(sp.length:Int))]
    refine aZ ⟨aw,rfl,⟨_,gs _⟩,?_⟩
    refine xV (K:=K) (a:=aw) (xs:=hZ.map λs=>V.str s.1) (λi σ H2=>∃v4:Option V,σ=[some (.ref a),some (.int (p:Int)),some (.int (q:Int)),some (.ref tp),v4]/\aa H1 H2/\∀s∈hZ.take i,sp≠s.2) ⟨none,rfl,aa.refl H1,by simp⟩ (λ_ _ _ _ _=>gs _) ?_ ?_
    ·rintro i y σ H2 hi ⟨v4,rfl,s2,a6⟩
     obtain⟨⟨kd,wd⟩,hs,rfl⟩:∃s,hZ[i]? =some s/\y=V.str s.1:=by
      rw[ck]at hi
      cases e:hZ[i]? with
      |none=>rw[e]at hi;cases hi
      |some s=>rw[e]at hi;exact⟨s,rfl,(cZ hi).symm⟩
     have bV:(kd,wd)∈hZ:=bL hs
     have vR:kd.cps.toList=wd.map rN:=Y5 _ bV
     refine⟨_,rfl,_,rfl,kd,rfl,?_,λH3 r s3 de e7=>?_⟩
     ·have:kd.cps.size=wd.length:=by rw[<-fg,vR,aA]
      have h5:∀s∈hZ,s.2.length<=5:=by decide+kernel
      have:=h5 _ bV
      show kd.cps.size<=1000
      have:wd.length<=5:=this
      omega
     rw[nO vR]at e7
     refine⟨tp,r,iB sp,iB wd,rfl,rfl,?_,?_,_,rfl,?_⟩
     ·rw[<-qR];exact aB.of (s3 _ _ (s2 _ _ hT))
     ·rw[<-qR];exact aB.of e7
     have dd:decide (iB sp=iB wd)=decide (sp=wd):=decide_eq_decide.mpr zv
     rw[dd]
     by_cases he:sp=wd
     ·rw[decide_eq_true he]
      refine aY ⟨_,rfl,_,rfl,_,rfl,λx dx hx bU nR=>⟨x,dx,tp,kd,p,rfl,aj,rfl,?_⟩⟩
      have ek:bN (.name sp)=kd:=by
       show kindOf sp=kd
       unfold kindOf
       have h1:hZ.find? (λs=>sp==s.2)=some (kd,wd):=by
        rw[Pt]
        refine⟨by simpa using he,i,(bE.mp hs).1,(bE.mp hs).2,λj hj=>?_⟩
        have E1:hZ[j]'(by have:=(bE.mp hs).1;omega)∈hZ.take i:=by
         rw[ahc]
         exact⟨j,by have:=(bE.mp hs).1;omega,rfl⟩
        simpa using a6 _ E1
       rw[h1]
       rfl
      have mk:=vQ (K:=K) (CT:=CT) (t:=.name sp) (p:=p) hx bU nR (s3 _ _ (s2 _ _ hT)) ⟨rfl,a8,by omega⟩
      rw[ek]at mk
      exact kQ nQ _ x ((s1.trans (s2.trans s3)).trans mk.1) mk.2
     ·rw[decide_eq_false he]
      refine aZ ⟨_,rfl,s2.trans s3,λs e8=>?_⟩
      rw[take_one hs]at e8
      rcases cP.mp e8 with e8|e8
      ·exact a6 s e8
      ·rw[cY.mp e8]
       exact he
    ·rintro σ H2 ⟨v4,rfl,s2,a6⟩
     rw[aA,cO]at a6
     refine⟨_,rfl,_,rfl,λx dx hx bU nR=>⟨x,dx,tp,"name",p,rfl,aj,rfl,?_⟩⟩
     have ek:bN (.name sp)="name":=by
      show kindOf sp="name"
      unfold kindOf
      have h1:hZ.find? (λs=>sp==s.2)=none:=by
       rw[lO]
       intro s hs
       simpa using a6 s hs
      rw[h1]
      rfl
     have mk:=vQ (K:=K) (CT:=CT) (t:=.name sp) (p:=p) hx bU nR (s2 _ _ hT) ⟨rfl,a8,by omega⟩
     rw[ek]at mk
     exact kQ nQ _ x ((s1.trans s2).trans mk.1) mk.2
end
end Bp
set_option Elab.async false
set_option linter.all false
set_option maxRecDepth 100000
set_option maxHeartbeats 2000000
namespace Bp
open PySem PySem.Spec PyProof.Rows L2
open L2.Bx (dB XO XD fq gu iD iA iC aU cU)
open VadiBase (Bytes isBlank isDigit isLetter decimal word)
open Br (bS)
theorem E2{c:TT}{t u r:TS}{D:Ends}{σ:L2.St}{H:Hp}(b:Bool)(ht:∀Kt:Bool->Hp->Prop,Kt b H->c σ H Kt)(h1:b=true->t {D with nx:=r D} σ H)(h2:b=false->u {D with nx:=r D} σ H):l6 (xP c t u) r D σ H:=by
 refine ht _ ?_
 cases b with
 |true=>exact aY (h1 rfl)
 |false=>exact aZ (h2 rfl)
section
variable{P:Program}{w:World}{K:ai}{mg:Str->Option Value}{base:Heap}{CF CT:Addr}
def M4(K:ai)(CF CT:Addr):Sp:=λvs H Q E=>∃(a:Addr)(b:Bytes)(p:Nat)(c:UInt8),vs=[.ref a,.int p]/\ah K H a (vB b)/\b.length<=8192/\b[p]? =some c/\isDigit c=true/\
 (mM ((b.drop p).takeWhile isDigit)=none->Raises CF E H 2 p)/\(∀n,mM ((b.drop p).takeWhile isDigit)=some n->∀(H':Hp)(r:Addr),aa H H'->bp K CT H' r p (.num n) ((b.drop p).takeWhile isDigit)->Q (.ref r) H')
theorem M5{α:Type}(pr:α->Bool):∀(l:List α)(x:α),x∈l.takeWhile pr->pr x=true
 |[],x,h=>by simp at h
 |a::l,x,h=>by
  rw[jL]at h
  by_cases ha:pr a=true
  ·rw[if_pos ha]at h
   rcases bz.mp h with e|h
   ·rw[e];exact ha
   ·exact M5 pr l x h
  ·rw[if_neg ha]at h
   simp at h
theorem Y9{f:Addr}{fd:FuncData}(B:cq mg)(gZ:GI mg "ZERO" 48)(gD:GI mg "MOST_DIGITS" 10)(gG:GI mg "GREATEST_NUMBER" 1000000000)(gN:GI mg "NO_TOKEN" 2)(gM:GS mg "NUMBER" "number")
  (DF:Flt P w K mg base CF) (DT:lj P w K mg base ax 1 "Token" CT ["self","kind","spelling","place"] (vP CT)) (DD:aS P w K mg base ax 1 "is_digit" ["byte"] zw) (DN:aS P w K mg base ax 1 "number_spelled" ["spelling"] (EX K))
  (F:aQ K "number_at" "number_at" C1 f fd):aK P w K mg base (aU P w CF) 3 f fd ["text","place"] (M4 K CF CT):=by
 refine F.fV Lg (λvs H Q E h=>?_) (λaC A outer s H vs Q E hr h=>?_)
 ·obtain⟨a,b,p,c,rfl,_⟩:=h
  rfl
 ·intro XX
  obtain⟨a,b,p,c0,rfl,hS,jC,mf,EY,kR,kQ⟩:=h
  have nd:=Lg.nd
  have bq:bc 1 _:=hr.mono (by decide)
  have hp:p<b.length:=(bE.mp mf).1
  refine⟨_,aq (aN (i:=2) nd rfl (ay rfl) (pv 1))
   (aq (iU mL (sq (bC kT (pv 2) (bK cb (by rfl) B.len bZ (ae (pv 0) af)) (bw _))
     (so (dJ (aL DD bq aI (ae (aG (bj K) (pv 0) (pv 2) (λ_ _=>rfl)) af))))).pt
    (au (aN (i:=2) nd rfl (ay rfl) (bW fM (pv 2) aJ))))
   (aq (aN (i:=3) nd rfl (ay rfl) (iu yi (by rfl) B.tuple (by decide+kernel) (ae (uQ uT (pv 0) (ni (pv 1)) (ni (pv 2))) af)))
   (aq (bF (sq (bC ei (aG (bQ K) (pv 3) aJ (λ_ _=>rfl)) (bG gZ) (bw _)) (so (bC kU (bK cb (by rfl) B.len bZ (ae (pv 3) af)) aJ (bw _)))).pt (au (lu DF hr (cU (E':=E) λ_ _ _ z=>z) (ae (bG gN) (ae (pv 1) af)))) bM)
   (aq (bF (uI (bC kU (bK cb (by rfl) B.len bZ (ae (pv 3) af)) (bG gD) (bw _)) (uH (bC kU (aL DN bq aI (ae (pv 3) af)) (bG gG) (bw _)))).pt (au (lu DF hr (cU (E':=E) λ_ _ _ z=>z) (ae (bG gN) (ae (pv 1) af)))) bM)
   (au (aM (qS DT hr aI (ae (ke gM) (ae (pv 3) (ae (pv 1) af)))))))))),?_⟩
  refine⟨_,rfl,?_⟩
  refine⟨λm σ H'=>∃q:Nat,m=b.length-q/\p<=q/\q<=b.length/\σ=[some (.ref a),some (.int (p:Int)),some (.int (q:Int)),none]/\H'=H/\p+((b.drop p).takeWhile isDigit).length=q+((b.drop q).takeWhile isDigit).length,⟨_,p,rfl,aT _,uk hp,rfl,rfl,rfl⟩,?_⟩
  rintro m σ H' ⟨q,rfl,tD,hq,rfl,rfl,e⟩
  refine M1 (match b[q]? with|some c=>isDigit c|none=>false) (λKt kt=>?_) (λht=>?_) (λhf=>?_)
  ·refine⟨_,rfl,_,rfl,a,_,rfl,.inl hS,_,_,rfl,rfl,_,rfl,?_⟩
   rw[cE]
   show if decide ((q:Int)<(b.length:Int))=true then _ else _
   by_cases aV:q<b.length
   ·rw[decide_eq_true (by omega:(q:Int)<(b.length:Int))]
    obtain⟨c,hc⟩:∃c,b[q]? =some c:=⟨_,bX aV⟩
    rw[hc]at kt
    exact aY ⟨_,rfl,_,rfl,a,_,(q:Int),_,rfl,rfl,hS,mq hc,c,rfl,_,rfl,kt⟩
   ·rw[decide_eq_false (by omega:¬(q:Int)<(b.length:Int))]
    rw[lH.mpr (by omega)]at kt
    exact aZ kt
  ·obtain⟨c,hc,EZ⟩:∃c,b[q]? =some c/\isDigit c=true:=by
    cases hc:b[q]? with
    |none=>rw[hc]at ht;cases ht
    |some c=>rw[hc]at ht;exact⟨c,rfl,ht⟩
   have aV:=(bE.mp hc).1
   rw[drop_cons hc,jL,if_pos EZ,bJ]at e
   refine⟨λσ' H2=>σ'=[some (.ref a),some (.int (p:Int)),some (.int ((q+1:Nat):Int)),none]/\H2=H',?_,?_⟩
   ·rintro σ' H2 ⟨rfl,rfl⟩
    exact⟨b.length-(q+1),by omega,q+1,rfl,by omega,by omega,rfl,rfl,by omega⟩
   ·exact⟨_,rfl,_,_,rfl,rfl,rfl,rfl⟩
  ·have mh:(b.drop q).takeWhile isDigit=[]:=by
    cases hc:b[q]? with
    |none=>rw[Gz.mpr (lH.mp hc)];rfl
    |some c=>rw[hc]at hf;rw[drop_cons hc,jL,if_neg (by rw[show isDigit c=false from hf];decide)]
   rw[mh]at e
   have eq1:(b.drop p).take (q-p)=(b.drop p).takeWhile isDigit:=by
    have:q-p=((b.drop p).takeWhile isDigit).length:=by rw[uh]at e;omega
    rw[this]
    exact Br.take_takeWhile isDigit _
   have dy:∀c∈(b.drop p).takeWhile isDigit,isDigit c=true:=λc hc=>M5 isDigit _ c hc
   have vS:((b.drop p).takeWhile isDigit)[0]? =some c0:=by
    rw[drop_cons mf,jL,if_pos EY]
    rfl
   generalize hw:(b.drop p).takeWhile isDigit=sp at eq1 kR kQ dy vS
   refine⟨_,rfl,_,rfl,_,rfl,_,rfl,_,rfl,a,_,rfl,hS,λl hl=>?_⟩
   rw[MZ tD hq,eq1]
   refine⟨l,_,rfl,.inl ⟨ah.of aj,λtp gI=>?_⟩⟩
   have s1:aa H' (upd (upd H' l (.lst (vB sp))) tp (.tup (vB sp))):=(aa.new hl).trans (aa.new gI)
   generalize nP:upd (upd H' l (.lst (vB sp))) tp (.tup (vB sp))=H1 at s1⊢
   have hT:H1 tp=some (.tup (vB sp)):=by rw[<-nP,aj]
   have Y_:sp.head?=some c0:=by rw[List.head?_eq_getElem?];exact vS
   have Za:decide (V.int (c0.toNat:Int)=V.int 48)=decide (sp.head?=some 48):=by
    rw[Y_]
    refine decide_eq_decide.mpr ⟨λz=>?_,λz=>?_⟩
    ·injection z with z
     have:c0=48:=GY.mp (by show c0.toNat=48;omega)
     rw[this]
    ·rw[cZ z]
     rfl
   have M6:mM sp=none->∀dx,H1 dx=none->E (.ref CF) (some dx) (upd H1 dx (XD dx [("code",.int 2),("place",.int (p:Int))])):=λhn dx bU=>kR hn _ dx (s1.trans (aa.new bU)) aj
   dsimp only[m8]
   refine E2 (decide (sp.head?=some 48)&&decide (1<sp.length)) (λKt kt=>?_) (λht=>?_) (λhf=>?_)
   ·refine⟨_,rfl,tp,_,0,_,rfl,rfl,aB.of hT,du (j:=0) (MQ vS),rfl,_,rfl,?_⟩
    rw[Za]
    cases M7:decide (sp.head?=some 48)with
    |false=>rw[M7,Qp]at kt;exact aZ kt
    |true=>
     rw[M7,Bool.true_and]at kt
     refine aY ⟨_,rfl,tp,_,rfl,.inr (aB.of hT),_,_,rfl,rfl,_,rfl,?_⟩
     rw[cE]
     have:decide ((1:Int)<(sp.length:Int))=decide (1<sp.length):=decide_eq_decide.mpr ⟨λz=>by omega,λz=>by omega⟩
     show Kt (decide ((1:Int)<(sp.length:Int))) H1
     rw[this]
     exact kt
   ·rw[iM]at ht
    have hn:mM sp=none:=by
     unfold mM
     rw[if_pos (.inr (.inr (.inl ⟨of_decide_eq_true ht.2,of_decide_eq_true ht.1⟩)))]
    exact⟨_,rfl,_,_,rfl,λdx bU=>M6 hn dx bU⟩
   ·dsimp only[xN]
    refine E2 (decide (10<sp.length)||decide (GR<decimal sp)) (λKt kt=>?_) (λht=>?_) (λE3=>?_)
    ·refine⟨_,rfl,tp,_,rfl,.inr (aB.of hT),_,_,rfl,rfl,_,rfl,?_⟩
     rw[cE]
     have vT:decide ((10:Int)<(sp.length:Int))=decide (10<sp.length):=decide_eq_decide.mpr ⟨λz=>by omega,λz=>by omega⟩
     show if decide ((10:Int)<(sp.length:Int))=true then _ else _
     rw[vT]
     by_cases fi:10<sp.length
     ·rw[decide_eq_true fi,QA]at kt
      rw[decide_eq_true fi]
      exact aY kt
     ·rw[decide_eq_false fi,He]at kt
      rw[decide_eq_false fi]
      refine aZ ⟨_,rfl,tp,sp,rfl,aB.of hT,by omega,dy,_,_,rfl,rfl,_,rfl,?_⟩
      have:decide ((1000000000:Int)<(decimal sp:Int))=decide (GR<decimal sp):=decide_eq_decide.mpr ⟨λz=>by unfold GR;omega,λz=>by unfold GR at z;omega⟩
      show Kt (decide ((1000000000:Int)<(decimal sp:Int))) H1
      rw[this]
      exact kt
    ·rw[Al]at ht
     have hn:mM sp=none:=by
      unfold mM
      rw[if_pos]
      rcases ht with h|h
      ·exact .inr (.inl (of_decide_eq_true h))
      ·exact .inr (.inr (.inr (of_decide_eq_true h)))
     exact⟨_,rfl,_,_,rfl,λdx bU=>M6 hn dx bU⟩
    ·rw[Bool.or_eq_false_iff]at E3
     have h1:=of_decide_eq_false E3.1
     have h2:=of_decide_eq_false E3.2
     have hn:mM sp=some (decimal sp):=by
      unfold mM
      rw[if_neg]
      rintro (h|h|h|h)
      ·rw[h]at vS;simp at vS
      ·exact h1 h
      ·rw[decide_eq_true h.1,decide_eq_true h.2]at hf;cases hf
      ·exact h2 h
     refine⟨_,rfl,_,rfl,λx dx hx bU nR=>⟨x,dx,tp,"number",p,rfl,aj,rfl,?_⟩⟩
     have mk:=vQ (K:=K) (CT:=CT) (t:=.num (decimal sp)) (p:=p) hx bU nR hT ⟨rfl,by omega,dy⟩
     exact kQ _ hn _ x (s1.trans mk.1) mk.2
def pq(l:Bytes):Option (eK×Nat):=(fW.find? λs=>l.take s.2.1.length==s.2.1).map λs=>(.sign s.2.2,s.2.1.length)
theorem take1(c:UInt8)(r:Bytes)(d:UInt8):((c::r).take 1==[d])=(c==d):=by
 simp
theorem take2(c:UInt8)(r:Bytes)(d e:UInt8):((c::r).take 2==[d,e])=(c==d&&decide (r.head?=some e)):=by
 cases r with
 |nil=>simp
 |cons x r=>
  rw[gb]
  simp
theorem M8{c:UInt8}{r:Bytes}(h1:isLetter c=false)(h2:isDigit c=false):pR (c::r)=pq (c::r):=by
 unfold pR pq fW
 dsimp only
 rw[if_neg (by rw[h1];decide),if_neg (by rw[h2];decide)]
 rw[jP,jP,jP,jP,jP,List.find?_nil]
 dsimp only[bJ,uh]
 rw[take1,take1,take1,take1,take2]
 by_cases e1:c=123
 ·subst e1;rfl
 by_cases e2:c=125
 ·subst e2;rfl
 by_cases e3:c=59
 ·subst e3;rfl
 by_cases e4:c=58
 ·subst e4;rfl
 have n1:(c==123)=false:=by simpa using e1
 have n2:(c==125)=false:=by simpa using e2
 have n3:(c==59)=false:=by simpa using e3
 have n4:(c==58)=false:=by simpa using e4
 rw[n1,n2,n3,n4]
 by_cases e5:c=45
 ·subst e5
  by_cases e6:r.head?=some 62
  ·rw[if_pos (by decide),if_pos e6,decide_eq_true e6];rfl
  ·rw[if_pos (by decide),if_neg e6,decide_eq_false e6];rfl
 ·have n5:(c==45)=false:=by simpa using e5
  rw[n5,if_neg (by decide),if_neg (by simp[VadiBase.SIGNS,e1,e2,e3,e4])]
  rfl
def M9(K:ai)(CF CT:Addr):Sp:=λvs H Q E=>∃(a:Addr)(b:Bytes)(p:Nat),vs=[.ref a,.int p]/\ah K H a (vB b)/\b.length<=8192/\p<b.length/\
 (pq (b.drop p)=none->Raises CF E H 2 p)/\(∀x,pq (b.drop p)=some x->∀(H':Hp)(r:Addr)(sp:Bytes),aa H H'->sp.length=x.2->bp K CT H' r p x.1 sp->Q (.ref r) H')
theorem Zb{f:Addr}{fd:FuncData}(B:cq mg)(gW:GT K mg "SIGNS" (fW.map λs=>V.str s.1))(gN:GI mg "NO_TOKEN" 2)
  (DF:Flt P w K mg base CF) (DT:lj P w K mg base ax 1 "Token" CT ["self","kind","spelling","place"] (vP CT)) (DS:aS P w K mg base ax 1 "spelled" ["signs"] pj)
  (F:aQ K "sign_at" "sign_at" C2 f fd):aK P w K mg base (aU P w CF) 3 f fd ["text","place"] (M9 K CF CT):=by
 refine F.fV Lh (λvs H Q E h=>?_) (λaC A outer s H vs Q E hr h=>?_)
 ·obtain⟨a,b,p,rfl,_⟩:=h
  rfl
 ·intro XX
  obtain⟨a,b,p,rfl,hS,jC,hp,kR,kQ⟩:=h
  have nd:=Lh.nd
  have bq:bc 1 _:=hr.mono (by decide)
  obtain⟨aw,gm,gs⟩:=gW
  refine⟨_,aq (eJ mL rfl (xR (sk (v:=.ref aw) (by rfl) gm rfl (by decide))) (bB (i:=2) nd rfl (ay rfl))
    (aq (aN (i:=3) nd rfl (ay rfl) (aL DS bq aI (ae (pv 2) af)))
    (au (bF (bC (ET hr.units) (iu yi (by rfl) B.tuple (by decide+kernel) (ae (uQ uT (pv 0) (ni (pv 1)) (ni (bW fM (pv 1) (bK cb (by rfl) B.len bZ (ae (pv 3) af))))) af)) (pv 3) (bw _))
     (au (aM (qS DT hr aI (ae (pv 2) (ae (pv 3) (ae (pv 1) af)))))) bM))))
   (au (lu DF hr (cU (E':=E) λ_ _ _ z=>z) (ae (bG gN) (ae (pv 1) af)))),?_⟩
  refine⟨aw,rfl,⟨_,gs _⟩,?_⟩
  refine xV (K:=K) (a:=aw) (xs:=fW.map λs=>V.str s.1) (λi σ H2=>∃v2 v3:Option V,σ=[some (.ref a),some (.int (p:Int)),v2,v3]/\aa H H2/\∀s∈fW.take i,¬((b.drop p).take s.2.1.length==s.2.1)=true) ⟨none,none,rfl,aa.refl H,by simp⟩ (λ_ _ _ _ _=>gs _) ?_ ?_
  ·rintro i y σ H2 hi ⟨v2,v3,rfl,s2,a6⟩
   obtain⟨⟨kd,wd,nc⟩,hs,rfl⟩:∃s,fW[i]? =some s/\y=V.str s.1:=by
    rw[ck]at hi
    cases e:fW[i]? with
    |none=>rw[e]at hi;cases hi
    |some s=>rw[e]at hi;exact⟨s,rfl,(cZ hi).symm⟩
   have bV:(kd,wd,nc)∈fW:=bL hs
   have vR:kd.cps.toList=wd.map rN:=Y6 _ bV
   refine⟨_,rfl,kd,rfl,?_,λH3 r s3 de e7=>?_⟩
   ·have h1:kd.cps.size=wd.length:=by rw[<-fg,vR,aA]
    have h5:∀s∈fW,s.2.1.length<=5:=by decide+kernel
    have h6:wd.length<=5:=h5 _ bV
    show kd.cps.size<=1000
    omega
   rw[nO vR]at e7
   refine⟨_,rfl,_,rfl,_,rfl,_,rfl,_,rfl,r,_,rfl,.inr (aB.of e7),_,_,rfl,rfl,_,rfl,a,_,rfl,(s2.trans s3).seq hS,λl hl=>?_⟩
   have E4:jo (vB b) (some (p:Int)) (some ((p:Int)+((vB wd).length:Int)))=vB ((b.drop p).take wd.length):=by
    have e1:(p:Int)+((vB wd).length:Int)=((p+wd.length:Nat):Int):=by rw[cE];omega
    rw[e1]
    unfold jo
    rw[HT.qp,HT.qp,cE]
    have e3:min p b.length=p:=by omega
    rw[e3]
    unfold vB
    rw[<-Qs,<-Hd]
    congr 1
    by_cases hle:p+wd.length<=b.length
    ·have e4:min (p+wd.length) b.length-p=wd.length:=by omega
     rw[e4]
    ·have e4:min (p+wd.length) b.length-p=b.length-p:=by omega
     rw[e4,Gu (by rw[lQ];omega),Gu (by rw[lQ];omega)]
   rw[E4]
   refine⟨l,_,rfl,.inl ⟨ah.of aj,λtp gI=>?_⟩⟩
   have s4:aa H3 (upd (upd H3 l (.lst (vB ((b.drop p).take wd.length)))) tp (.tup (vB ((b.drop p).take wd.length)))):=(aa.new hl).trans (aa.new gI)
   generalize E5:upd (upd H3 l (.lst (vB ((b.drop p).take wd.length)))) tp (.tup (vB ((b.drop p).take wd.length)))=H4 at s4⊢
   have lg:H4 tp=some (.tup (vB ((b.drop p).take wd.length))):=by rw[<-E5,aj]
   refine⟨_,rfl,tp,r,iB ((b.drop p).take wd.length),iB wd,rfl,rfl,?_,?_,_,rfl,?_⟩
   ·rw[<-qR];exact aB.of lg
   ·rw[<-qR];exact aB.of (s4 _ _ e7)
   have dd:decide (iB ((b.drop p).take wd.length)=iB wd)=((b.drop p).take wd.length==wd):=by
    rw[gb]
    simp only[decide_eq_true_eq,beq_iff_eq]
    exact zv
   rw[dd]
   cases he:((b.drop p).take wd.length==wd)with
   |true=>
    refine aY ⟨_,rfl,_,rfl,_,rfl,λx dx hx bU nR=>⟨x,dx,r,kd,p,rfl,aj,rfl,?_⟩⟩
    have lx:pq (b.drop p)=some (.sign nc,wd.length):=by
     unfold pq
     have h1:fW.find? (λs=>(b.drop p).take s.2.1.length==s.2.1)=some (kd,wd,nc):=by
      rw[Pt]
      refine⟨he,i,(bE.mp hs).1,(bE.mp hs).2,λj hj=>?_⟩
      have E1:fW[j]'(by have:=(bE.mp hs).1;omega)∈fW.take i:=by
       rw[ahc]
       exact⟨j,by have:=(bE.mp hs).1;omega,rfl⟩
      simpa using a6 _ E1
     rw[h1]
     rfl
    have ek:bN (.sign nc)=kd:=Y7 _ bV
    have mk:=vQ (K:=K) (CT:=CT) (t:=.sign nc) (p:=p) hx bU nR (s4 _ _ e7) trivial
    rw[ek]at mk
    exact kQ _ lx _ x wd ((s2.trans (s3.trans s4)).trans mk.1) rfl mk.2
   |false=>
    refine aZ ⟨_,_,rfl,s2.trans (s3.trans s4),λs e8=>?_⟩
    rw[take_one hs]at e8
    rcases cP.mp e8 with e8|e8
    ·exact a6 s e8
    ·rw[cY.mp e8]
     rw[he]
     decide
  ·rintro σ H2 ⟨v2,v3,rfl,s2,a6⟩
   rw[aA,cO]at a6
   have hn:pq (b.drop p)=none:=by
    unfold pq
    rw[lO.mpr a6]
    rfl
   exact⟨_,rfl,_,_,rfl,λdx bU=>kR hn _ dx (s2.trans (aa.new bU)) aj⟩
end
end Bp
set_option Elab.async false
set_option linter.all false
set_option maxRecDepth 100000
set_option maxHeartbeats 2000000
namespace Bp
open PySem PySem.Spec PyProof.Rows L2
open L2.Bx (dB XO XD fq gu iD iA iC aU cU)
open VadiBase (Bytes isBlank isDigit isLetter decimal word PTok Toks)
open Br (bS)
theorem Zc{l:Bytes}{x:eK×Nat}(h:pR l=some x):x.2<=l.length:=by
 unfold pR at h
 split at h
 ·cases h
 ·rename_i b r
  split at h
  ·dsimp only at h
   split at h
   ·cases h
   ·cases h
    exact Br.takeWhile_len_le _ _
  ·split at h
   ·cases e:mM ((b::r).takeWhile isDigit)with
    |none=>rw[e]at h;cases h
    |some n=>
     rw[e]at h
     cases h
     exact Br.takeWhile_len_le _ _
   ·split at h
    ·split at h
     ·rename_i hh
      cases h
      cases r with
      |nil=>simp at hh
      |cons a r=>simp
     ·cases h
    ·split at h
     ·cases h;simp
     ·cases h
theorem aB.br{K:ai}{H:Hp}{a l:Addr}{xs ys zs:List V}(hl:H l=some (.lst ys))(h:aB K H a xs):aB K (upd H l (.lst zs)) a xs:=by
 rcases h with(h|⟨o,h⟩)|h
 ·exact .inl (.inl (by rw[ao (dq h hl (by intro z;cases z))];exact h))
 ·exact .inl (.inr ⟨o,by rw[ao (dq h hl (by intro z;cases z))];exact h⟩)
 ·exact .inr h
theorem bp.br{K:ai}{CT:Addr}{H:Hp}{a l:Addr}{p:Nat}{t:eK}{sp:Bytes}{ys zs:List V}(hl:H l=some (.lst ys)):bp K CT H a p t sp->bp K CT (upd H l (.lst zs)) a p t sp:=λ⟨dx,ta,h1,h2,h3⟩=>
 ⟨dx,ta,by rw[ao (dq h1 hl (by intro z;cases z))];exact h1,by rw[ao (dq h2 hl (by intro z;cases z))];exact h2,h3⟩
def ki(K:ai)(CT:Addr)(H:Hp)(a:Addr)(x:PTok):Prop:=∃sp,bp K CT H a x.place x.tok sp
def nS(K:ai)(CT:Addr)(H:Hp)(l:Addr)(ts:Toks):Prop:=∃as:List Addr,H l=some (.lst (as.map V.ref))/\Paired (ki K CT H) as ts
theorem ki.same{K:ai}{CT:Addr}{H H':Hp}{a:Addr}{x:PTok}(s:aa H H'):ki K CT H a x->ki K CT H' a x:=λ⟨sp,h⟩=>⟨sp,h.same s⟩
theorem nS.same{K:ai}{CT:Addr}{H H':Hp}{l:Addr}{ts:Toks}(s:aa H H'):nS K CT H l ts->nS K CT H' l ts:=λ⟨as,h1,h2⟩=>⟨as,s _ _ h1,L2.Paired.aX h2 λ_ _ q=>q.same s⟩
section
variable{P:Program}{w:World}{K:ai}{mg:Str->Option Value}{base:Heap}{CF CT:Addr}
def M_(K:ai)(CF CT:Addr):Sp:=λvs H Q E=>∃(a:Addr)(b:Bytes)(p:Nat),vs=[.ref a,.int p]/\ah K H a (vB b)/\b.length<=8192/\p<b.length/\
 (pR (b.drop p)=none->Raises CF E H 2 p)/\(∀x,pR (b.drop p)=some x->∀(H':Hp)(r:Addr)(sp:Bytes),aa H H'->sp.length=x.2->bp K CT H' r p x.1 sp->Q (.ref r) H')
theorem Zd{f:Addr}{fd:FuncData}(DD:aS P w K mg base ax 1 "is_digit" ["byte"] zw)(DL:aS P w K mg base ax 1 "is_letter" ["byte"] EU)
  (D1:aS P w K mg base (aU P w CF) 3 "word_at" ["text","place"] (M3 K CF CT)) (D2:aS P w K mg base (aU P w CF) 3 "number_at" ["text","place"] (M4 K CF CT)) (D3:aS P w K mg base (aU P w CF) 3 "sign_at" ["text","place"] (M9 K CF CT))
  (F:aQ K "token_at" "token_at" yQ f fd):aK P w K mg base (aU P w CF) 4 f fd ["text","place"] (M_ K CF CT):=by
 refine F.fV Wj (λvs H Q E h=>?_) (λaC A outer s H vs Q E hr h=>?_)
 ·obtain⟨a,b,p,rfl,_⟩:=h
  rfl
 ·intro XX
  obtain⟨a,b,p,rfl,hS,jC,hp,kR,kQ⟩:=h
  have bq:bc 1 _:=hr.mono (by decide)
  have hx:Passes (aU P w CF) (fT (aU P w CF) P w K mg base ["text","place"] "token_at" (aH yQ) f aC A outer s H E) E:=cU λ_ _ _ z=>z
  obtain⟨c,hc⟩:∃c,b[p]? =some c:=⟨_,bX hp⟩
  refine⟨_,aq (bF (dJ (aL DL bq aI (ae (aG (bj K) (pv 0) (pv 1) (λ_ _=>rfl)) af))) (au (aM (aL D1 hr hx (ae (pv 0) (ae (pv 1) af))))) bM)
   (aq (bF (dJ (aL DD bq aI (ae (aG (bj K) (pv 0) (pv 1) (λ_ _=>rfl)) af))) (au (aM (aL D2 hr hx (ae (pv 0) (ae (pv 1) af))))) bM)
   (au (aM (aL D3 hr hx (ae (pv 0) (ae (pv 1) af)))))),?_⟩
  refine⟨_,rfl,_,rfl,a,_,(p:Int),_,rfl,rfl,hS,mq hc,c,rfl,_,rfl,?_⟩
  have hd:=drop_cons hc
  cases hl:isLetter c with
  |true=>
   refine aY ⟨_,rfl,_,rfl,a,b,p,c,rfl,hS,jC,hc,hl,λnQ=>kR ?_,λnQ H' r s1 ht=>kQ (.name ((b.drop p).takeWhile gH),((b.drop p).takeWhile gH).length) ?_ H' r _ s1 rfl ht⟩
   ·rw[hd]at nQ⊢
    unfold pR
    dsimp only
    rw[if_pos hl]
    exact if_pos nQ
   ·rw[hd]at nQ⊢
    unfold pR
    dsimp only
    rw[if_pos hl]
    exact if_neg nQ
  |false=>
   refine aZ ⟨_,rfl,_,rfl,a,_,(p:Int),_,rfl,rfl,hS,mq hc,c,rfl,_,rfl,?_⟩
   cases hg:isDigit c with
   |true=>
    have et:pR (b.drop p)=(mM ((b.drop p).takeWhile isDigit)).map λn=>(.num n,((b.drop p).takeWhile isDigit).length):=by
     rw[hd]
     show(if isLetter c=true then _ else _)=_
     rw[if_neg (by rw[hl];decide),if_pos hg]
    refine aY ⟨_,rfl,_,rfl,a,b,p,c,rfl,hS,jC,hc,hg,λhn=>kR ?_,λn hn H' r s1 ht=>kQ (.num n,((b.drop p).takeWhile isDigit).length) ?_ H' r _ s1 rfl ht⟩
    ·rw[et,hn];rfl
    ·rw[et,hn];rfl
   |false=>
    refine aZ ⟨_,rfl,_,rfl,a,b,p,rfl,hS,jC,hp,λhn=>kR ?_,λx hn H' r sp s1 eQ ht=>kQ x ?_ H' r sp s1 eQ ht⟩
    ·rw[hd,M8 hl hg,<-hd];exact hn
    ·rw[hd,M8 hl hg,<-hd];exact hn
def Na(K:ai)(CF CT:Addr):Sp:=λvs H Q E=>∃(a:Addr)(b:Bytes),vs=[.ref a]/\ah K H a (vB b)/\b.length<=4096/\
 (∀fl,bS 0 b=.error fl->Raises CF E H fl.code fl.place)/\(∀ts,bS 0 b=.ok ts->∀(H':Hp)(r:Addr),aa H H'->H r=none->nS K CT H' r ts->ts.length<=4097->Q (.ref r) H')
theorem map_map{α β γ ε:Type}(g:α->β)(h:β->γ):∀(x:Except ε α),(x.map g).map h=x.map (h∘g)
 | .ok _=>rfl
 | .error _=>rfl
theorem Ze{f:Addr}{fd:FuncData}(B:cq mg)(T:iG K CT)(gE:GS mg "END" "end")(DG:aS P w K mg base ax 2 "gap_end" ["text","place"] (MU K))(DA:aS P w K mg base (aU P w CF) 4 "token_at" ["text","place"] (M_ K CF CT))
  (DT:lj P w K mg base ax 1 "Token" CT ["self","kind","spelling","place"] (vP CT))
  (F:aQ K "tokens_of" "tokens_of" yP f fd):aK P w K mg base (aU P w CF) 5 f fd ["text"] (Na K CF CT):=by
 refine F.fV Lc (λvs H Q E h=>?_) (λaC A outer s H vs Q E hr h=>?_)
 ·obtain⟨a,b,rfl,_⟩:=h
  rfl
 ·intro XX
  obtain⟨a,b,rfl,hS,jC,kR,kQ⟩:=h
  have nd:=Lc.nd
  have dU:bc 2 _:=hr.mono (by decide)
  have hx:Passes (aU P w CF) (fT (aU P w CF) P w K mg base ["text","tokens","place","token"] "tokens_of" (aH yP) f aC A outer s H E) E:=cU λ_ _ _ z=>z
  refine⟨_,aq (aN (i:=1) nd rfl (ay rfl) (cy af))
   (aq (aN (i:=2) nd rfl (ay rfl) (aL DG dU aI (ae (pv 0) (ae aJ af))))
   (aq (iU mL (bC kT (pv 2) (bK cb (by rfl) B.len bZ (ae (pv 0) af)) (bw _))
    (aq (aN (i:=3) nd rfl (ay rfl) (aL DA hr hx (ae (pv 0) (ae (pv 2) af))))
    (aq (cM (fk fA lJ lI j5 (pv 1) (ae (pv 3) af)))
    (au (aN (i:=2) nd rfl (ay rfl) (aL DG dU aI (ae (pv 0) (ae (bW fM (pv 2) (bK cb (by rfl) B.len bZ (ae (aP (pv 3) rfl) af))) af))))))))
   (aq (cM (fk fA lJ lI j5 (pv 1) (ae (qS DT dU aI (ae (ke gE) (ae (l7 af) (ae (pv 2) af)))) af)))
   (au (aM (pv 1)))))),?_⟩
  refine⟨cw _,λl hl=>?_⟩
  have s0:aa H (upd H l (.lst [])):=aa.new hl
  refine⟨_,rfl,a,b,0,rfl,s0.seq hS,cw _,λq0 _ Zf e0 g0=>?_⟩
  rw[Hc]at e0
  have emap:∀(r:Except VadiBase.Fault Toks),r.map (λt=>([]:Toks)++t)=r:=λr=>by cases r<;>rfl
  refine⟨λm σ H'=>∃(q:Nat)(pre:Toks)(as:List Addr)(v3:Option V),m=b.length-q/\q<=b.length/\σ=[some (.ref a),some (.ref l),some (.int (q:Int)),v3]/\aa H H'/\H' l=some (.lst (as.map V.ref))/\Paired (ki K CT H') as pre/\pre.length<=q/\
    (∀c,b[q]? =some c->isBlank c=false/\c≠35)/\bS 0 b=(bS q (b.drop q)).map (λt=>pre++t),⟨_,q0,[],[],none,rfl,Zf,rfl,s0,aj,.nil,cw _,g0,by rw[emap];exact e0⟩,?_⟩
  rintro m σ H' ⟨q,pre,as,v3,rfl,hq,rfl,sm,hL,hP,yG,hg,el⟩
  have mr:as.length=pre.length:=a7 hP
  refine⟨_,rfl,_,rfl,a,_,rfl,.inl (sm.seq hS),_,_,rfl,rfl,_,rfl,?_⟩
  rw[cE]
  show if decide ((q:Int)<(b.length:Int))=true then _ else _
  by_cases aV:q<b.length
  ·rw[decide_eq_true (by omega:(q:Int)<(b.length:Int))]
   obtain⟨c,hc⟩:∃c,b[q]? =some c:=⟨_,bX aV⟩
   have hd:=drop_cons hc
   obtain⟨g1,g2⟩:=hg c hc
   refine aY ⟨λσ' H2=>∃(q2:Nat)(vU:Toks)(nT:List Addr)(v3:Option V),q<q2/\q2<=b.length/\σ'=[some (.ref a),some (.ref l),some (.int (q2:Int)),v3]/\aa H H2/\H2 l=some (.lst (nT.map V.ref))/\Paired (ki K CT H2) nT vU/\vU.length<=q2/\
    (∀c,b[q2]? =some c->isBlank c=false/\c≠35)/\bS 0 b=(bS q2 (b.drop q2)).map (λt=>vU++t),?_,?_⟩
   ·rintro σ' H2 ⟨q2,vU,nT,vA,h1,h2,rfl,h3,h4,h5,h6,h7,h8⟩
    exact⟨_,by omega,q2,vU,nT,vA,rfl,h2,rfl,h3,h4,h5,h6,h7,h8⟩
   refine⟨_,rfl,_,rfl,a,b,q,rfl,sm.seq hS,by omega,aV,λhn=>?_,λx ic H2 r sp s2 eQ ht=>?_⟩
   ·have e1:bS q (b.drop q)=.error ⟨2,q⟩:=by rw[hd];exact Br.Ij g1 g2 (by rw[<-hd];exact hn)
    rw[e1]at el
    exact(kR ⟨2,q⟩ el).same sm
   ·have e1:bS q (b.drop q)=(bS (q+x.2) (b.drop (q+x.2))).map λl=>⟨q,x.1⟩::l:=by
     have:=Br.Ik (at_:=q) g1 g2 (by rw[<-hd];exact ic)
     rw[<-hd,wX]at this
     exact this
    have ah7:=Br.xx ic
    have Zg:=Zc ic
    rw[lQ]at Zg
    have jD:=s2 _ _ hL
    refine⟨_,rfl,.inl ⟨rfl,_,ah.of jD⟩,_,rfl,l,_,_,rfl,rfl,jD,?_,?_⟩
    ·rw[aA]
     exact MS (by omega)
    obtain⟨dx,ta,t1,t2,t3⟩:=id (bp.br (zs:=as.map V.ref++[.ref r]) jD ht)
    refine⟨_,rfl,_,rfl,_,rfl,r,CT,dx,_,_,rfl,t1,T.cl,T.ns,jB _ _ _,ta,_,rfl,.inr (aB.of t2),_,_,rfl,rfl,a,b,q+x.2,?_,?_,by omega,λq2 h1 h2 h3 h4=>?_⟩
    ·rw[cE,eQ]
     rfl
    ·refine aa.seq (λb' o e=>?_) hS
     rw[ao (aF e hl)]
     exact s2 _ _ (sm _ _ e)
    refine⟨q2,pre++[⟨q,x.1⟩],as++[r],_,by omega,h2,rfl,λb' o e=>?_,?_,?_,?_,h4,?_⟩
    ·rw[ao (aF e hl)]
     exact s2 _ _ (sm _ _ e)
    ·rw[aj,bI]
     rfl
    ·refine Paired.app (L2.Paired.aX hP λ_ _ z=>?_) (.cons ⟨sp,bp.br jD ht⟩ .nil)
     obtain⟨E6,z⟩:=z.same s2
     exact⟨E6,bp.br jD z⟩
    ·rw[bf,fZ]
     omega
    ·rw[el,e1,h3,map_map]
     congr 1
     funext t
     show pre++(_::t)=(pre++[_])++t
     simp
  ·rw[decide_eq_false (by omega:¬(q:Int)<(b.length:Int))]
   have eq:q=b.length:=by omega
   have e1:bS q (b.drop q)=.ok [⟨q,.last⟩]:=by rw[eq,Qg];exact Br.Ig _
   rw[e1]at el
   refine aZ ⟨_,rfl,.inl ⟨rfl,_,ah.of hL⟩,cw _,λtp gI=>⟨_,rfl,λx dx ic bU nR=>⟨x,dx,tp,"end",q,rfl,aj,rfl,?_⟩⟩⟩
   have mk:=vQ (K:=K) (CT:=CT) (t:=.last) (p:=q) (sp:=[]) ic bU nR aj trivial
   have s5:aa H' _:=(aa.new gI).trans mk.1
   have E7:=s5 _ _ hL
   refine⟨l,_,_,rfl,rfl,E7,?_,?_⟩
   ·rw[aA]
    exact MS (by omega)
   refine⟨_,rfl,kQ _ el _ l (λb' o e=>?_) hl ⟨as++[x],?_,?_⟩ ?_⟩
   ·rw[ao (aF e hl)]
    exact s5 _ _ (sm _ _ e)
   ·rw[aj,bI]
    rfl
   ·refine Paired.app (L2.Paired.aX hP λ_ _ z=>?_) (.cons ⟨[],bp.br E7 mk.2⟩ .nil)
    obtain⟨E6,z⟩:=z.same s5
    exact⟨E6,bp.br E7 z⟩
   ·rw[bf,fZ]
    omega
end
end Bp
set_option Elab.async false
set_option linter.all false
set_option maxRecDepth 100000
set_option maxHeartbeats 2000000
namespace Bp
open PySem PySem.Spec PyProof.Rows L2
open L2.Bx (dB XO XD fq gu iD iA iC aU cU)
open VadiBase (Bytes isBlank isDigit isLetter decimal word PTok Toks tokEq)
theorem Zh(b:Bytes):(b=word "box"/\kindOf b="box")\/(b=word "edge"/\kindOf b="edge")\/(b=word "above"/\kindOf b="above")\/(b=word "group"/\kindOf b="group")\/(b≠word "box"/\b≠word "edge"/\b≠word "above"/\b≠word "group"/\kindOf b="name"):=by
 by_cases h1:b=word "box"
 ·subst h1;exact .inl ⟨rfl,by decide+kernel⟩
 by_cases h2:b=word "edge"
 ·subst h2;exact .inr (.inl ⟨rfl,by decide+kernel⟩)
 by_cases h3:b=word "above"
 ·subst h3;exact .inr (.inr (.inl ⟨rfl,by decide+kernel⟩))
 by_cases h4:b=word "group"
 ·subst h4;exact .inr (.inr (.inr (.inl ⟨rfl,by decide+kernel⟩)))
 ·refine .inr (.inr (.inr (.inr ⟨h1,h2,h3,h4,?_⟩)))
  unfold kindOf hZ
  rw[pK (by simpa using h1),pK (by simpa using h2),pK (by simpa using h3),pK (by simpa using h4)]
  rfl
theorem Zi(c:Nat):(c=123/\sgn c="{")\/(c=125/\sgn c="}")\/(c=59/\sgn c=";")\/(c=58/\sgn c=":")\/(c=256/\sgn c="->")\/(c≠59/\c≠58/\c≠256/\sgn c="?"):=by
 by_cases h1:c=123
 ·subst h1;exact .inl ⟨rfl,by decide+kernel⟩
 by_cases h2:c=125
 ·subst h2;exact .inr (.inl ⟨rfl,by decide+kernel⟩)
 by_cases h3:c=59
 ·subst h3;exact .inr (.inr (.inl ⟨rfl,by decide+kernel⟩))
 by_cases h4:c=58
 ·subst h4;exact .inr (.inr (.inr (.inl ⟨rfl,by decide+kernel⟩)))
 by_cases h5:c=256
 ·subst h5;exact .inr (.inr (.inr (.inr (.inl ⟨rfl,by decide+kernel⟩))))
 ·refine .inr (.inr (.inr (.inr (.inr ⟨h3,h4,h5,?_⟩))))
  unfold sgn fW
  rw[pK (by simpa using Ne.symm h1),pK (by simpa using Ne.symm h2),pK (by simpa using Ne.symm h3),pK (by simpa using Ne.symm h4),pK (by simpa using Ne.symm h5)]
  rfl
def kinds:List Str:=["box","edge","above","group","name","number","{","}",";",":","->","?","end"]
def kj:eK->Nat
 | .name b=>if b=word "box" then 0 else if b=word "edge" then 1 else if b=word "above" then 2 else if b=word "group" then 3 else 4
 | .num _=>5
 | .sign c=>if c=123 then 6 else if c=125 then 7 else if c=59 then 8 else if c=58 then 9 else if c=256 then 10 else 11
 | .last=>12
theorem Nb(t:eK):kinds[kj t]? =some (bN t):=by
 cases t with
 |name b=>
  show kinds[if b=word "box" then 0 else _]? =some (kindOf b)
  rcases Zh b with⟨h,e⟩|⟨h,e⟩|⟨h,e⟩|⟨h,e⟩|⟨h1,h2,h3,h4,e⟩
  ·rw[e,if_pos h];rfl
  ·subst h;rw[e,if_neg (by decide),if_pos rfl];rfl
  ·subst h;rw[e,if_neg (by decide),if_neg (by decide),if_pos rfl];rfl
  ·subst h;rw[e,if_neg (by decide),if_neg (by decide),if_neg (by decide),if_pos rfl];rfl
  ·rw[e,if_neg h1,if_neg h2,if_neg h3,if_neg h4];rfl
 |num n=>rfl
 |sign c=>
  show kinds[if c=123 then 6 else _]? =some (sgn c)
  by_cases h1:c=123
  ·subst h1;decide+kernel
  by_cases h2:c=125
  ·subst h2;decide+kernel
  rcases Zi c with⟨h,e⟩|⟨h,e⟩|⟨h,e⟩|⟨h,e⟩|⟨h,e⟩|⟨g1,g2,g3,e⟩
  ·exact absurd h h1
  ·exact absurd h h2
  ·subst h;rw[e];rfl
  ·subst h;rw[e];rfl
  ·subst h;rw[e];rfl
  ·rw[e,if_neg h1,if_neg h2,if_neg g1,if_neg g2,if_neg g3];rfl
 |last=>rfl
theorem Zj:kinds.Nodup:=by decide+kernel
theorem vV(t:eK)(i:Nat){k:Str}(h:kinds[i]? =some k):bN t=k↔kj t=i:=by
 constructor
 ·intro e
  exact Vk Zj (Nb t) (by rw[e];exact h)
 ·intro e
  have:=Nb t
  rw[e,h]at this
  exact(cZ this).symm
theorem vW(b:Bytes):kj (.name b)=if b=word "box" then 0 else if b=word "edge" then 1 else if b=word "above" then 2 else if b=word "group" then 3 else 4:=rfl
theorem zx(n:Nat):kj (.num n)=5:=rfl
theorem zy:kj .last=12:=rfl
theorem Nc(c:Nat):kj (.sign c)=if c=123 then 6 else if c=125 then 7 else if c=59 then 8 else if c=58 then 9 else if c=256 then 10 else 11:=rfl
theorem E8(b:Bytes):kj (.name b)<=4:=by
 rw[vW]
 repeat' split
 all_goals omega
theorem zA(c:Nat):6<=kj (.sign c)/\kj (.sign c)<=11:=by
 rw[Nc]
 repeat' split
 all_goals omega
theorem Nd(b:Bytes):wM.contains b=false↔(b≠word "box"/\b≠word "edge"/\b≠word "above"/\b≠word "group"):=by
 unfold wM
 simp
theorem Nf(t:eK):bN t="name"↔∃b,t=.name b/\wM.contains b=false:=by
 rw[vV t 4 (k:="name") rfl]
 cases t with
 |name b=>
  rw[vW]
  constructor
  ·intro h
   refine⟨b,rfl,(Nd b).mpr ?_⟩
   refine⟨λz=>?_,λz=>?_,λz=>?_,λz=>?_⟩<;>subst z<;>revert h<;>decide
  ·rintro ⟨b',e,h⟩
   cases e
   obtain⟨h1,h2,h3,h4⟩:=(Nd b).mp h
   rw[if_neg h1,if_neg h2,if_neg h3,if_neg h4]
 |num n=>exact⟨λh=>by rw[zx]at h;omega,λ⟨b,e,_⟩=>nomatch e⟩
 |sign c=>exact⟨λh=>by have:=zA c;omega,λ⟨b,e,_⟩=>nomatch e⟩
 |last=>exact⟨λh=>by rw[zy]at h;omega,λ⟨b,e,_⟩=>nomatch e⟩
theorem vX(t:eK):bN t="number"↔∃n,t=.num n:=by
 rw[vV t 5 (k:="number") rfl]
 cases t with
 |name b=>exact⟨λh=>by have:=E8 b;omega,λ⟨n,e⟩=>nomatch e⟩
 |num n=>exact⟨λ_=>⟨n,rfl⟩,λ_=>rfl⟩
 |sign c=>exact⟨λh=>by have:=zA c;omega,λ⟨n,e⟩=>nomatch e⟩
 |last=>exact⟨λh=>by rw[zy]at h;omega,λ⟨n,e⟩=>nomatch e⟩
theorem Ng(t:eK):bN t="end"↔t=.last:=by
 rw[vV t 12 (k:="end") rfl]
 cases t with
 |name b=>exact⟨λh=>by have:=E8 b;omega,λe=>nomatch e⟩
 |num n=>exact⟨λh=>by rw[zx]at h;omega,λe=>nomatch e⟩
 |sign c=>exact⟨λh=>by have:=zA c;omega,λe=>nomatch e⟩
 |last=>exact⟨λ_=>rfl,λ_=>rfl⟩
theorem E9(t:eK)(c i:Nat){k:Str}(h:kinds[i]? =some k)(hi:8<=i/\i<=10)(hc:∀d,kj (.sign d)=i↔d=c):bN t=k↔tokEq t (.sign c)=true:=by
 rw[vV t i h]
 cases t with
 |name b=>exact⟨λh=>by have:=E8 b;omega,λe=>nomatch e⟩
 |num n=>exact⟨λh=>by rw[zx]at h;omega,λe=>nomatch e⟩
 |sign d=>
  rw[hc d]
  show _↔(d==c)=true
  simp
 |last=>exact⟨λh=>by rw[zy]at h;omega,λe=>nomatch e⟩
theorem E_(c i:Nat)(h:(c=59/\i=8)\/(c=58/\i=9)\/(c=256/\i=10)):∀d,kj (.sign d)=i↔d=c:=λd=>by
 rw[Nc]
 have f:∀{a b:Nat}{p:Prop},a≠b->¬p->(a=b↔p):=λh g=>⟨λe=>absurd e h,λe=>absurd e g⟩
 by_cases h1:d=123
 ·subst h1
  rcases h with⟨rfl,rfl⟩|⟨rfl,rfl⟩|⟨rfl,rfl⟩<;>decide
 rw[if_neg h1]
 by_cases h2:d=125
 ·subst h2
  rcases h with⟨rfl,rfl⟩|⟨rfl,rfl⟩|⟨rfl,rfl⟩<;>decide
 rw[if_neg h2]
 by_cases h3:d=59
 ·subst h3
  rcases h with⟨rfl,rfl⟩|⟨rfl,rfl⟩|⟨rfl,rfl⟩<;>decide
 rw[if_neg h3]
 by_cases h4:d=58
 ·subst h4
  rcases h with⟨rfl,rfl⟩|⟨rfl,rfl⟩|⟨rfl,rfl⟩<;>decide
 rw[if_neg h4]
 by_cases h5:d=256
 ·subst h5
  rcases h with⟨rfl,rfl⟩|⟨rfl,rfl⟩|⟨rfl,rfl⟩<;>decide
 rw[if_neg h5]
 rcases h with⟨rfl,rfl⟩|⟨rfl,rfl⟩|⟨rfl,rfl⟩
 ·exact f (by decide) h3
 ·exact f (by decide) h4
 ·exact f (by decide) h5
theorem tF(t:eK):bN t=";"↔tokEq t (.sign 59)=true:=E9 t 59 8 rfl ⟨by decide,by decide⟩ (E_ 59 8 (.inl ⟨rfl,rfl⟩))
theorem Nh(t:eK):bN t=":"↔tokEq t (.sign 58)=true:=E9 t 58 9 rfl ⟨by decide,by decide⟩ (E_ 58 9 (.inr (.inl ⟨rfl,rfl⟩)))
theorem Ni(t:eK):bN t="->"↔tokEq t (.sign ahA)=true:=E9 t 256 10 rfl ⟨by decide,by decide⟩ (E_ 256 10 (.inr (.inr ⟨rfl,rfl⟩)))
theorem Fb(t:eK)(i:Nat){k:Str}{b0:Bytes}(h:kinds[i]? =some k)(hi:i<4)(hb:∀b,kj (.name b)=i↔b=b0):bN t=k↔t=.name b0:=by
 rw[vV t i h]
 cases t with
 |name b=>
  rw[hb b]
  constructor
  ·intro e;rw[e]
  ·intro e;injection e
 |num n=>exact⟨λh=>by rw[zx]at h;omega,λe=>nomatch e⟩
 |sign d=>exact⟨λh=>by have:=zA d;omega,λe=>nomatch e⟩
 |last=>exact⟨λh=>by rw[zy]at h;omega,λe=>nomatch e⟩
theorem Nj(t:eK):bN t="box"↔t=.name (word "box"):=Fb t 0 rfl (by decide) λb=>by
 rw[vW]
 constructor
 ·intro h
  repeat' split at h
  all_goals first|assumption|omega
 ·intro h;rw[if_pos h]
theorem Nk(t:eK):bN t="edge"↔t=.name (word "edge"):=Fb t 1 rfl (by decide) λb=>by
 rw[vW]
 constructor
 ·intro h
  repeat' split at h
  all_goals first|assumption|omega
 ·intro h;subst h;rw[if_neg (by decide),if_pos rfl]
theorem Nl(t:eK):bN t="above"↔t=.name (word "above"):=Fb t 2 rfl (by decide) λb=>by
 rw[vW]
 constructor
 ·intro h
  repeat' split at h
  all_goals first|assumption|omega
 ·intro h;subst h;rw[if_neg (by decide),if_neg (by decide),if_pos rfl]
end Bp
set_option Elab.async false
set_option linter.all false
set_option maxRecDepth 100000
set_option maxHeartbeats 2000000
namespace Bp
open PySem PySem.Spec PyProof.Rows L2
open L2.Bx (dB XO XD fq gu iD iA iC aU cU)
open VadiBase (Bytes isBlank isDigit isLetter decimal word PTok Toks tokEq)
def rf(l:Addr)(i:Nat):List (Str×V):=[("tokens",.ref l),("at",.int (i:Int))]
structure ly(K:ai)(CR:Addr):Prop where
 cl:ir K CR
 nt:dN K CR "tokens"
 na:dN K CR "at"
def fX(P:Program)(w:World)(K:ai)(mg:Str->Option Value)(base:Heap)(CX:eP)(k:Nat)(C:Addr)(m:Str)(ps:List Str)(sp:Sp):Prop:=
 ∃f fd,Meth K C m f/\aK P w K mg base CX k f fd ps sp/\Binds K fd ps []
section
variable{X:Cx}{CX:eP}{k:Nat}{C:Addr}{m:Str}{ps:List Str}{sp:Sp}{E:XK}{ta:TE}{apos pos:Pos}{e o:Expr}{es:List Expr}{t:TA}
theorem dw{pl:Sem Bool}(cl:ir X.K C)(D:fX X.prog X.w X.K X.mg X.base CX k C m ps sp)(hr:bc k X.A)(hx:Passes CX X E)(he:PE X o ta)(ha:PA X (e::es) t)
  (d_:starEach (e::es) X.env=(false,eval e X.env)::starEach es X.env:=by rfl) (dE:(backTo pos (starEach es X.env)).any (·.1)=false:=by rfl)
  (ht:eval (.Call (.Attribute o m apos) (e::es) [] pos) X.env=(do
   let ov<-eval o X.env
   standAt apos.atName
   let(f,first)<-holding [ov] (getMethod ov m pl)
   callWith pos f first (backTo pos (starEach (e::es) X.env)) (backToKw pos (keywordEach [] X.env))):=by rfl):
  PE X (.Call (.Attribute o m apos) (e::es) [] pos) (ya C m sp [] E ta t):=by
 obtain⟨f,fd,hm,F,hb⟩:=D
 exact S_ he cl hm F hr hb .nil hx ha d_ dE ht
end
def nU(CF:Addr)(E:XK)(H:Hp)(as:List Addr)(c p:Nat):Prop:=∀(H':Hp)(dx:Addr),aE H H' as->H' dx=some (XD dx [("code",.int (c:Int)),("place",.int (p:Int))])->E (.ref CF) (some dx) H'
theorem nU.bar{CF:Addr}{E:XK}{H H1:Hp}{as:List Addr}{c p:Nat}(r:nU CF E H as c p)(s:aE H H1 as):nU CF E H1 as c p:=λH' dx h1 h2=>r H' dx (s.trans h1) h2
theorem aE.upd{H:Hp}{a:Addr}{o:HO}:aE H (upd H a o) [a]:=λb o' e n=>by rw[ao (by simpa using n)];exact e
theorem aE.new{H:Hp}{a:Addr}{as:List Addr}{o:HO}(h:H a=none):aE H (L2.upd H a o) as:=aE.of (aa.new h) as
theorem aE.refl(H:Hp)(as:List Addr):aE H H as:=λ_ _ e _=>e
theorem aB.bar{K:ai}{H H':Hp}{a rd C dx:Addr}{fs:List (Str×V)}{xs:List V}(hr:H rd=some (.ins C dx fs))(b:aE H H' [rd])(h:aB K H a xs):aB K H' a xs:=by
 rcases h with(h|⟨o,h⟩)|h
 ·exact .inl (.inl (b _ _ h (by simpa using dq h hr (by intro z;cases z))))
 ·exact .inl (.inr ⟨o,b _ _ h (by simpa using dq h hr (by intro z;cases z))⟩)
 ·exact .inr h
theorem bp.bar{K:ai}{CT CR:Addr}{H H':Hp}{a rd dx l:Addr}{i p:Nat}{t:eK}{sp:Bytes}(hr:H rd=some (.ins CR dx (rf l i)))(b:aE H H' [rd]):bp K CT H a p t sp->bp K CT H' a p t sp:=λ⟨dx,ta,h1,h2,h3⟩=>
 ⟨dx,ta,b _ _ h1 (by
  have:a≠rd:=dq h1 hr λz=>by injection z with _ _ z;have:=congrArg w_ z;simp[tf,rf]at this
  simpa using this),b _ _ h2 (by simpa using dq h2 hr (by intro z;cases z)),h3⟩
theorem ki.bar{K:ai}{CT CR:Addr}{H H':Hp}{a rd dx l:Addr}{i:Nat}{x:PTok}(hr:H rd=some (.ins CR dx (rf l i)))(b:aE H H' [rd]):ki K CT H a x->ki K CT H' a x:=λ⟨sp,h⟩=>⟨sp,h.bar hr b⟩
theorem nS.bar{K:ai}{CT CR:Addr}{H H':Hp}{rd dx l l':Addr}{i:Nat}{ts:Toks}(hr:H rd=some (.ins CR dx (rf l i)))(b:aE H H' [rd]):nS K CT H l' ts->nS K CT H' l' ts:=λ⟨as,h1,h2⟩=>
 ⟨as,b _ _ h1 (by simpa using dq h1 hr (by intro z;cases z)),L2.Paired.aX h2 λ_ _ q=>q.bar hr b⟩
structure dY(K:ai)(CT CR:Addr)(H:Hp)(rd dx l:Addr)(ts:Toks)(i:Nat):Prop where
 ob:H rd=some (.ins CR dx (rf l i))
 tk:nS K CT H l ts
 lt:i<ts.length
theorem dY.bar{K:ai}{CT CR:Addr}{H H':Hp}{rd dx l:Addr}{ts:Toks}{i j:Nat}(R:dY K CT CR H rd dx l ts i)(b:aE H H' [rd])(h:H' rd=some (.ins CR dx (rf l j)))(hj:j<ts.length):dY K CT CR H' rd dx l ts j:=⟨h,R.tk.bar R.ob b,hj⟩
theorem dY.same{K:ai}{CT CR:Addr}{H H':Hp}{rd dx l:Addr}{ts:Toks}{i:Nat}(R:dY K CT CR H rd dx l ts i)(s:aa H H'):dY K CT CR H' rd dx l ts i:=⟨s _ _ R.ob,R.tk.same s,R.lt⟩
theorem dY.get{K:ai}{CT CR:Addr}{H:Hp}{rd dx l:Addr}{ts:Toks}{i:Nat}(R:dY K CT CR H rd dx l ts i):∃(as:List Addr)(a:Addr)(x:PTok),H l=some (.lst (as.map V.ref))/\(as.map V.ref)[i]? =some (.ref a)/\ts[i]? =some x/\ki K CT H a x:=by
 obtain⟨as,h1,h2⟩:=R.tk
 obtain⟨x,hx⟩:∃x,ts[i]? =some x:=⟨_,bX R.lt⟩
 obtain⟨a,ha,q⟩:=Paired.at h2 hx
 exact⟨as,a,x,h1,by rw[ck,ha];rfl,hx,q⟩
section
variable{P:Program}{w:World}{K:ai}{mg:Str->Option Value}{base:Heap}{CF CT CR:Addr}
def Nm(CR:Addr):Sp:=λvs H Q _=>∃(q dx l:Addr),vs=[.ref q,.ref l]/\H q=some (.ins CR dx [])/\Q .aO (upd H q (.ins CR dx (rf l 0)))
theorem Zk{f:Addr}{fd:FuncData}(T:ly K CR)(F:aQ K "__init__" "Reader.__init__" C4 f fd):aK P w K mg base ax 1 f fd ["self","tokens"] (Nm CR):=by
 refine F.bo Wn (λvs H Q E h=>?_) (λaC A outer s H vs Q E hr h=>?_)
 ·obtain⟨q,dx,l,rfl,_⟩:=h
  rfl
 ·intro XX
  obtain⟨q,dx,l,rfl,hq,k⟩:=h
  refine⟨_,aq (eX (pv 0) (pv 1) rfl) (au (eX (pv 0) aJ rfl)),?_⟩
  refine⟨_,rfl,_,rfl,q,CR,dx,[],rfl,hq,T.cl,T.nt,(by show 0<1000;decide),?_⟩
  refine⟨_,rfl,q,CR,dx,_,rfl,aj,T.cl,T.na,(by show 1<1000;decide),?_⟩
  show Q .aO _
  rw[fJ]
  have e3:bP "at" (.int 0) (bP "tokens" (.ref l) [])=rf l 0:=by
   show(if("tokens":Str)="at" then _ else _)=_
   rw[if_neg (by decide+kernel)]
   rfl
  rw[e3]
  exact k
def vY(K:ai)(CT CR:Addr):Sp:=λvs H Q _=>∃(rd dx l:Addr)(ts:Toks)(i:Nat)(x:PTok)(kd:Str),vs=[.ref rd,.str kd]/\dY K CT CR H rd dx l ts i/\ts[i]? =some x/\Q (.bl (decide (bN x.tok=kd))) H
theorem Zl{f:Addr}{fd:FuncData}(T:ly K CR)(TT:iG K CT)(F:aQ K "sees" "Reader.sees" C5 f fd):aK P w K mg base ax 1 f fd ["self","kind"] (vY K CT CR):=by
 refine F.bo Wo (λvs H Q E h=>?_) (λaC A outer s H vs Q E hr h=>?_)
 ·obtain⟨rd,dx,l,ts,i,x,kd,rfl,_⟩:=h
  rfl
 ·intro XX
  obtain⟨rd,dx,l,ts,i,x,kd,rfl,R,hx,k⟩:=h
  refine⟨_,au (aM (xY ei (aP (aG (bj K) (aP (pv 0) rfl) (aP (pv 0) rfl) (λ_ _=>rfl)) rfl) (pv 1) (bw _))),?_⟩
  obtain⟨as,a,x',h1,h2,h3,sp,ff,ta,t1,t2,t3⟩:=R.get
  rw[hx]at h3
  cases h3
  refine⟨_,rfl,rd,CR,dx,_,_,rfl,R.ob,T.cl,T.nt,rfl,_,rfl,rd,CR,dx,_,_,rfl,R.ob,T.cl,T.na,rfl,l,_,(i:Int),_,rfl,rfl,ah.of h1,du h2,a,CT,ff,_,_,rfl,t1,TT.cl,TT.nk,Y3 _ _ _,_,rfl,rfl,?_⟩
  have e:decide (V.str (bN x.tok)=V.str kd)=decide (bN x.tok=kd):=decide_eq_decide.mpr ⟨λz=>by injection z,λz=>by rw[z]⟩
  rw[e]
  exact k
def zB(K:ai)(CF CT CR:Addr):Sp:=λvs H _ E=>∃(rd dx l:Addr)(ts:Toks)(i c:Nat)(x:PTok),vs=[.ref rd,.int (c:Int)]/\dY K CT CR H rd dx l ts i/\ts[i]? =some x/\Raises CF E H c x.place
theorem Zm{f:Addr}{fd:FuncData}(T:ly K CR)(TT:iG K CT)(DF:Flt P w K mg base CF)(F:aQ K "refuse" "Reader.refuse" C6 f fd):aK P w K mg base (aU P w CF) 3 f fd ["self","code"] (zB K CF CT CR):=by
 refine F.fV Wq (λvs H Q E h=>?_) (λaC A outer s H vs Q E hr h=>?_)
 ·obtain⟨rd,dx,l,ts,i,c,x,rfl,_⟩:=h
  rfl
 ·intro XX
  obtain⟨rd,dx,l,ts,i,c,x,rfl,R,hx,k⟩:=h
  refine⟨_,au (lu DF hr (cU (E':=E) λ_ _ _ z=>z) (ae (pv 1) (ae (aP (aG (bj K) (aP (pv 0) rfl) (aP (pv 0) rfl) (λ_ _=>rfl)) rfl) af))),?_⟩
  obtain⟨as,a,x',h1,h2,h3,sp,ff,ta,t1,t2,t3⟩:=R.get
  rw[hx]at h3
  cases h3
  refine⟨_,rfl,_,rfl,rd,CR,dx,_,_,rfl,R.ob,T.cl,T.nt,rfl,_,rfl,rd,CR,dx,_,_,rfl,R.ob,T.cl,T.na,rfl,l,_,(i:Int),_,rfl,rfl,ah.of h1,du h2,a,CT,ff,_,_,rfl,t1,TT.cl,TT.np,tE _ _ _,_,_,rfl,λd hd=>?_⟩
  exact k _ d (aa.new hd) aj
def pw(K:ai)(CF CT CR:Addr):Sp:=λvs H Q E=>∃(rd dx l:Addr)(ts:Toks)(i:Nat)(x:PTok)(kd:Str),vs=[.ref rd,.str kd]/\dY K CT CR H rd dx l ts i/\ts[i]? =some x/\
 (¬bN x.tok=kd->Raises CF E H 3 x.place)/\(bN x.tok=kd->∀a,ki K CT H a x->Q (.ref a) (upd H rd (.ins CR dx (rf l (i+1)))))
theorem Zn{f:Addr}{fd:FuncData}(T:ly K CR)(TT:iG K CT)(gN:GI mg "NOT_ALLOWED" 3)(DS:fX P w K mg base ax 1 CR "sees" ["self","kind"] (vY K CT CR))(DR:fX P w K mg base (aU P w CF) 3 CR "refuse" ["self","code"] (zB K CF CT CR))
  (F:aQ K "take" "Reader.take" C7 f fd):aK P w K mg base (aU P w CF) 4 f fd ["self","kind"] (pw K CF CT CR):=by
 refine F.fV Li (λvs H Q E h=>?_) (λaC A outer s H vs Q E hr h=>?_)
 ·obtain⟨rd,dx,l,ts,i,x,kd,rfl,_⟩:=h
  rfl
 ·intro XX
  obtain⟨rd,dx,l,ts,i,x,kd,rfl,R,hx,kR,kQ⟩:=h
  have nd:=Li.nd
  refine⟨_,aq (bF (oK (dJ (dw T.cl DS (hr.mono (by decide)) aI (pv 0) (ae (pv 1) af)))) (au (cM (dw T.cl DR hr (cU (E':=E) λ_ _ _ z=>z) (pv 0) (ae (bG gN) af)))) bM)
   (aq (aN (i:=2) nd rfl (ay rfl) (aG (bj K) (aP (pv 0) rfl) (aP (pv 0) rfl) (λ_ _=>rfl)))
   (aq (eX (pv 0) (bW fM (aP (pv 0) rfl) aJ) rfl)
   (au (aM (pv 2))))),?_⟩
  refine⟨_,rfl,rd,dx,_,rfl,R.ob,rfl,_,rfl,rd,dx,l,ts,i,x,kd,rfl,R,hx,_,rfl,?_⟩
  by_cases hk:bN x.tok=kd
  ·rw[decide_eq_true hk]
   obtain⟨as,a,x',h1,h2,h3,hT⟩:=R.get
   rw[hx]at h3
   cases h3
   refine aZ ⟨_,rfl,rd,CR,dx,_,_,rfl,R.ob,T.cl,T.nt,rfl,_,rfl,rd,CR,dx,_,_,rfl,R.ob,T.cl,T.na,rfl,l,_,(i:Int),_,rfl,rfl,ah.of h1,du h2,?_⟩
   refine⟨_,rfl,rd,CR,dx,_,_,rfl,R.ob,T.cl,T.na,rfl,_,_,rfl,rfl,_,rfl,rd,CR,dx,_,rfl,R.ob,T.cl,T.na,(by show 2<1000;decide),_,rfl,?_⟩
   have e3:bP "at" (.int ((i:Int)+1)) (rf l i)=rf l (i+1):=by
    show(if("tokens":Str)="at" then _ else(("tokens":Str),V.ref l)::(if("at":Str)="at" then _ else _))=_
    rw[if_neg (by decide+kernel),if_pos rfl]
    rfl
   have:=kQ hk a hT
   show Q (.ref a) (upd H rd (.ins CR dx (bP "at" (.int ((i:Int)+1)) (rf l i))))
   rw[e3]
   exact this
  ·rw[decide_eq_false hk]
   exact aY ⟨_,rfl,rd,dx,_,rfl,R.ob,rfl,rd,dx,l,ts,i,3,x,rfl,R,hx,kR hk⟩
def Nn(K:ai)(CF CT CR:Addr):Sp:=λvs H Q E=>∃(rd dx l:Addr)(ts:Toks)(i n m:Nat)(x:PTok)(kd:Str),vs=[.ref rd,.str kd,.int (n:Int),.int (m:Int)]/\dY K CT CR H rd dx l ts i/\ts[i]? =some x/\bN x.tok=kd/\
 (n=m->Raises CF E H 4 x.place)/\(¬n=m->Q .aO (upd H rd (.ins CR dx (rf l (i+1)))))
theorem Zo{f:Addr}{fd:FuncData}(T:ly K CR)(gN:GI mg "TOO_MANY" 4)(DR:fX P w K mg base (aU P w CF) 3 CR "refuse" ["self","code"] (zB K CF CT CR))(DT:fX P w K mg base (aU P w CF) 4 CR "take" ["self","kind"] (pw K CF CT CR))
  (F:aQ K "take_word" "Reader.take_word" C8 f fd):aK P w K mg base (aU P w CF) 5 f fd ["self","word","before","most"] (Nn K CF CT CR):=by
 refine F.fV Wr (λvs H Q E h=>?_) (λaC A outer s H vs Q E hr h=>?_)
 ·obtain⟨rd,dx,l,ts,i,n,m,x,kd,rfl,_⟩:=h
  rfl
 ·intro XX
  obtain⟨rd,dx,l,ts,i,n,m,x,kd,rfl,R,hx,hk,kR,kQ⟩:=h
  refine⟨_,aq (bF (bC ei (pv 2) (pv 3) (bw _)) (au (cM (dw T.cl DR (hr.mono (by decide)) (cU (E':=E) λ_ _ _ z=>z) (pv 0) (ae (bG gN) af)))) bM)
   (au (cM (dw T.cl DT hr (cU (E':=E) λ_ _ _ z=>z) (pv 0) (ae (pv 1) af)))),?_⟩
  refine⟨_,rfl,_,rfl,rfl,_,rfl,?_⟩
  have e:decide (V.int (n:Int)=V.int (m:Int))=decide (n=m):=decide_eq_decide.mpr ⟨λz=>by injection z with z;omega,λz=>by rw[z]⟩
  rw[e]
  by_cases h:n=m
  ·rw[decide_eq_true h]
   exact aY ⟨_,rfl,rd,dx,_,rfl,R.ob,rfl,rd,dx,l,ts,i,4,x,rfl,R,hx,kR h⟩
  ·rw[decide_eq_false h]
   exact aZ ⟨_,rfl,rd,dx,_,rfl,R.ob,rfl,_,rfl,rd,dx,l,ts,i,x,kd,rfl,R,hx,λz=>absurd hk z,λ_ a _=>kQ h⟩
def Np(K:ai)(CF CT CR:Addr):Sp:=λvs H Q E=>∃(rd dx l:Addr)(ts:Toks)(i lo hi:Nat),vs=[.ref rd,.int (lo:Int),.int (hi:Int)]/\dY K CT CR H rd dx l ts i/\
 (∀fl,Qh lo hi (ts.drop i)=.error fl->nU CF E H [rd] fl.code fl.place)/\(∀n rest,Qh lo hi (ts.drop i)=.ok (n,rest)->rest=ts.drop (i+1)->Q (.int (n:Int)) (upd H rd (.ins CR dx (rf l (i+1)))))
theorem drop_one{α:Type}{b:List α}{q:Nat}{c:α}(hc:b[q]? =some c):b.drop q=c::b.drop (q+1):=by
 obtain⟨aV,e⟩:=bE.mp hc
 rw[wJ aV,e]
theorem Zp{f:Addr}{fd:FuncData}(T:ly K CR)(TT:iG K CT)(gO:GI mg "OUT_OF_BOUNDS" 7)(gM:GS mg "NUMBER" "number")(DF:Flt P w K mg base CF)(DN:aS P w K mg base ax 1 "number_spelled" ["spelling"] (EX K))(DT:fX P w K mg base (aU P w CF) 4 CR "take" ["self","kind"] (pw K CF CT CR))
  (F:aQ K "take_number" "Reader.take_number" yR f fd):aK P w K mg base (aU P w CF) 5 f fd ["self","least","greatest"] (Np K CF CT CR):=by
 refine F.fV Lj (λvs H Q E h=>?_) (λaC A outer s H vs Q E hr h=>?_)
 ·obtain⟨rd,dx,l,ts,i,lo,hi,rfl,_⟩:=h
  rfl
 ·intro XX
  obtain⟨rd,dx,l,ts,i,lo,hi,rfl,R,kR,kQ⟩:=h
  have nd:=Lj.nd
  have hx:Passes (aU P w CF) (fT (aU P w CF) P w K mg base ["self","least","greatest","token","number"] "Reader.take_number" (aH yR) f aC A outer s H E) E:=cU λ_ _ _ z=>z
  refine⟨_,aq (aN (i:=3) nd rfl (ay rfl) (dw T.cl DT hr hx (pv 0) (ae (ke gM) af)))
   (aq (aN (i:=4) nd rfl (ay rfl) (aL DN (hr.mono (by decide)) aI (ae (aP (pv 3) rfl) af)))
   (aq (bF (uI (bC kT (pv 4) (pv 1) (bw _)) (uH (bC kU (pv 4) (pv 2) (bw _)))).pt (au (lu DF (hr.mono (by decide)) hx (ae (bG gO) (ae (aP (pv 3) rfl) af)))) bM)
   (au (aM (pv 4))))),?_⟩
  obtain⟨as,a0,x,h1,h2,h3,_⟩:=R.get
  have hd:=drop_one h3
  refine⟨_,rfl,rd,dx,_,rfl,R.ob,rfl,rd,dx,l,ts,i,x,"number",rfl,R,h3,λhk=>?_,λhk a hT=>?_⟩
  ·refine λH' d s1 e1=>kR ⟨3,x.place⟩ ?_ H' d (aE.of s1 _) e1
   rw[hd]
   obtain⟨px,tx⟩:=x
   have a8:∀n,tx≠.num n:=λn z=>hk ((vX tx).mpr ⟨n,z⟩)
   cases tx with
   |num n=>exact absurd rfl (a8 n)
   |name b=>rfl
   |sign c=>rfl
   |last=>rfl
  ·obtain⟨n,hn⟩:=(vX x.tok).mp hk
   obtain⟨px,tx⟩:=x
   have hn:tx=.num n:=hn
   subst hn
   have et:Qh lo hi (ts.drop i)=if n<lo\/hi<n then .error ⟨7,px⟩else .ok (n,ts.drop (i+1)):=by
    rw[hd]
    rfl
   obtain⟨sp,hT⟩:=hT
   have gq:=hT.bar R.ob (aE.upd (o:=.ins CR dx (rf l (i+1))))
   obtain⟨ff,ta,t1,t2,t3,t4,t5⟩:=gq
   refine⟨_,rfl,a,CT,ff,_,_,rfl,t1,TT.cl,TT.ns,jB _ _ _,ta,sp,rfl,aB.of t2,t4,t5,?_⟩
   rw[t3]
   dsimp only[m8]
   refine E2 (decide (n<lo\/hi<n)) (λKt kt=>?_) (λht=>?_) (λhf=>?_)
   ·refine⟨_,rfl,_,rfl,_,_,rfl,rfl,_,rfl,?_⟩
    show if decide ((n:Int)<(lo:Int))=true then _ else _
    by_cases g1:n<lo
    ·rw[decide_eq_true (by omega:(n:Int)<(lo:Int))]
     rw[decide_eq_true (.inl g1)]at kt
     exact aY kt
    ·rw[decide_eq_false (by omega:¬(n:Int)<(lo:Int))]
     refine aZ ⟨_,rfl,_,rfl,_,_,rfl,rfl,_,rfl,?_⟩
     have:decide ((hi:Int)<(n:Int))=decide (n<lo\/hi<n):=decide_eq_decide.mpr ⟨λz=>.inr (by omega),λz=>by omega⟩
     show Kt (decide ((hi:Int)<(n:Int))) _
     rw[this]
     exact kt
   ·have hc:=of_decide_eq_true ht
    rw[if_pos hc]at et
    exact⟨_,rfl,a,CT,ff,_,_,rfl,t1,TT.cl,TT.np,tE _ _ _,_,_,rfl,λd qf=>kR _ et _ d (aE.trans aE.upd (aE.new qf)) aj⟩
   ·have hc:=of_decide_eq_false hf
    rw[if_neg hc]at et
    exact⟨_,rfl,kQ n _ et rfl⟩
end
end Bp
set_option Elab.async false
set_option linter.all false
set_option maxRecDepth 100000
set_option maxHeartbeats 2000000
namespace Bp
open PySem PySem.Spec PyProof.Rows L2
open L2.Bx (dB XO XD fq gu iD iA iC aU cU)
open VadiBase (Bytes isBlank isDigit isLetter decimal word PTok Toks tokEq PName takeName takeSign)
open Vadiaa (takeNum takeBox takeEdge takeWish)
def iH(K:ai)(CT:Addr)(H:Hp)(a:Addr)(x:PName):Prop:=bp K CT H a x.place (.name x.name) x.name
def i9(K:ai)(CT:Addr)(H:Hp)(r:Addr)(b:kH):Prop:=∃a,aB K H r [.ref a,.int (b.w:Int),.int (b.h:Int)]/\iH K CT H a b.name
def kl(K:ai)(CT:Addr)(H:Hp)(r:Addr)(e:oy):Prop:=∃a b lb,aB K H r [.ref a,.ref b,.ref lb]/\iH K CT H a e.src/\iH K CT H b e.dst/\aB K H lb (vB (e.label.getD []))/\(∀s,e.label=some s->s≠[]/\s.length<=16)
def i_(K:ai)(CT:Addr)(H:Hp)(r:Addr)(e:PName×PName):Prop:=∃a b,aB K H r [.ref a,.ref b]/\iH K CT H a e.1/\iH K CT H b e.2
section
variable{K:ai}{CT CR:Addr}{H H':Hp}{r rd dx l:Addr}{i:Nat}
theorem i9.same{b:kH}(s:aa H H'):i9 K CT H r b->i9 K CT H' r b:=λ⟨a,h1,h2⟩=>⟨a,aa.tup s h1,bp.same s h2⟩
theorem kl.same{b:oy}(s:aa H H'):kl K CT H r b->kl K CT H' r b:=λ⟨a,c,lb,h1,h2,h3,h4,h5⟩=>⟨a,c,lb,aa.tup s h1,bp.same s h2,bp.same s h3,aa.tup s h4,h5⟩
theorem i_.same{b:PName×PName}(s:aa H H'):i_ K CT H r b->i_ K CT H' r b:=λ⟨a,c,h1,h2,h3⟩=>⟨a,c,aa.tup s h1,bp.same s h2,bp.same s h3⟩
theorem i9.bar{b:kH}(hr:H rd=some (.ins CR dx (rf l i)))(s:aE H H' [rd]):i9 K CT H r b->i9 K CT H' r b:=λ⟨a,h1,h2⟩=>⟨a,aB.bar hr s h1,bp.bar hr s h2⟩
theorem kl.bar{b:oy}(hr:H rd=some (.ins CR dx (rf l i)))(s:aE H H' [rd]):kl K CT H r b->kl K CT H' r b:=λ⟨a,c,lb,h1,h2,h3,h4,h5⟩=>⟨a,c,lb,aB.bar hr s h1,bp.bar hr s h2,bp.bar hr s h3,aB.bar hr s h4,h5⟩
theorem i_.bar{b:PName×PName}(hr:H rd=some (.ins CR dx (rf l i)))(s:aE H H' [rd]):i_ K CT H r b->i_ K CT H' r b:=λ⟨a,c,h1,h2,h3⟩=>⟨a,c,aB.bar hr s h1,bp.bar hr s h2,bp.bar hr s h3⟩
theorem i9.br{ys zs:List V}{b:kH}(hl:H l=some (.lst ys)):i9 K CT H r b->i9 K CT (upd H l (.lst zs)) r b:=λ⟨a,h1,h2⟩=>⟨a,aB.br hl h1,bp.br hl h2⟩
theorem kl.br{ys zs:List V}{b:oy}(hl:H l=some (.lst ys)):kl K CT H r b->kl K CT (upd H l (.lst zs)) r b:=λ⟨a,c,lb,h1,h2,h3,h4,h5⟩=>⟨a,c,lb,aB.br hl h1,bp.br hl h2,bp.br hl h3,aB.br hl h4,h5⟩
theorem i_.br{ys zs:List V}{b:PName×PName}(hl:H l=some (.lst ys)):i_ K CT H r b->i_ K CT (upd H l (.lst zs)) r b:=λ⟨a,c,h1,h2,h3⟩=>⟨a,c,aB.br hl h1,bp.br hl h2,bp.br hl h3⟩
end
def qT(ts:Toks):Prop:=∀i x,ts[i]? =some x->x.tok≠.last->i+1<ts.length
theorem Zq{b:Bytes}{ts:Toks}(h:Br.bS 0 b=.ok ts):qT ts/\0<ts.length:=by
 obtain⟨body,p,e,hb⟩:=Br.xy (b.length+1) 0 b (pP _) h
 refine⟨λi x hx hn=>?_,by rw[e];simp⟩
 rw[e]at hx⊢
 rw[bf,fZ]
 have aV:=(bE.mp hx).1
 rw[bf,fZ]at aV
 by_cases hi:i=body.length
 ·exfalso
  rw[hi,ag8 (aT _),Nat.sub_self]at hx
  have:(⟨p,.last⟩:PTok)=x:=cZ hx
  rw[<-this]at hn
  exact hn rfl
 ·omega
theorem nU.now{CF:Addr}{E:XK}{H H1:Hp}{as:List Addr}{c p:Nat}(r:nU CF E H as c p)(b:aE H H1 as):Raises CF E H1 c p:=λH' d s e=>r H' d (b.trans (aE.of s _)) e
section
variable{ts:Toks}{i:Nat}{x:PTok}
theorem Nq(hx:ts[i]? =some x)(hk:bN x.tok="name"):∃b,x.tok=.name b/\takeName (ts.drop i)=.ok (⟨x.place,b⟩,ts.drop (i+1)):=by
 obtain⟨b,hb,hr⟩:=(Nf x.tok).mp hk
 obtain⟨p,t⟩:=x
 have hb:t=.name b:=hb
 subst hb
 refine⟨b,rfl,?_⟩
 rw[drop_one hx]
 show(if wM.contains b=true then _ else _)=_
 rw[hr,if_neg (by decide)]
theorem tG(hx:ts[i]? =some x)(hk:¬bN x.tok="name"):takeName (ts.drop i)=.error ⟨3,x.place⟩:=by
 obtain⟨p,t⟩:=x
 rw[drop_one hx]
 cases t with
 |name b=>
  show(if wM.contains b=true then _ else _)=_
  cases hr:wM.contains b with
  |true=>rw[if_pos rfl];rfl
  |false=>exact absurd ((Nf _).mpr ⟨b,rfl,hr⟩) hk
 |num n=>rfl
 |sign c=>rfl
 |last=>rfl
theorem Fc(hx:ts[i]? =some x)(t:eK):Ha t (ts.drop i)=tokEq x.tok t:=by
 rw[drop_one hx]
 rfl
theorem vZ(hx:ts[i]? =some x)(c:Nat):takeSign c (ts.drop i)=if tokEq x.tok (.sign c)=true then .ok (ts.drop (i+1))else .error ⟨3,x.place⟩:=by
 unfold takeSign VadiBase.taken
 rw[Fc hx]
 rw[drop_one hx]
 rfl
theorem Zr{x:PTok}{k:Str}(h:bN x.tok=k)(hk:k≠"end"):x.tok≠.last:=λz=>by
 rw[z]at h
 exact hk h.symm
end
section
variable{P:Program}{w:World}{K:ai}{mg:Str->Option Value}{base:Heap}{CF CT CR:Addr}
theorem dY.step{H H1:Hp}{rd dx l:Addr}{ts:Toks}{i j:Nat}{x:PTok}{k:Str}(L:qT ts)(R:dY K CT CR H rd dx l ts i)(b:aE H H1 [rd])(h1:H1 rd=some (.ins CR dx (rf l j)))(hj:j<ts.length)(hx:ts[j]? =some x)(hk:bN x.tok=k)(a8:k≠"end"):
  j+1<ts.length/\aE H (upd H1 rd (.ins CR dx (rf l (j+1)))) [rd]/\upd H1 rd (.ins CR dx (rf l (j+1))) rd=some (.ins CR dx (rf l (j+1)))/\dY K CT CR (upd H1 rd (.ins CR dx (rf l (j+1)))) rd dx l ts (j+1):=by
 have aV:=L j x hx (Zr hk a8)
 have bb:=b.trans (aE.upd (H:=H1) (o:=.ins CR dx (rf l (j+1))))
 exact⟨aV,bb,aj,R.bar bb aj aV⟩
def Nr(K:ai)(CF CT CR:Addr):Sp:=λvs H Q E=>∃(rd dx l:Addr)(ts:Toks)(i:Nat),vs=[.ref rd]/\dY K CT CR H rd dx l ts i/\qT ts/\
 (∀fl,takeBox (ts.drop i)=.error fl->nU CF E H [rd] fl.code fl.place)/\
 (∀bx rest,takeBox (ts.drop i)=.ok (bx,rest)->∀j H' r,rest=ts.drop j->i<j->j<ts.length->aE H H' [rd]->H' rd=some (.ins CR dx (rf l j))->H r=none->i9 K CT H' r bx->Q (.ref r) H')
theorem Zs{f:Addr}{fd:FuncData}(B:cq mg)(T:ly K CR)(TT:iG K CT)(gN:GS mg "NAME" "name")(gU:GS mg "NUMBER" "number")(gW:GI mg "WIDTH_BESIDE_NAME" 4)(gL:GI mg "LEAST_BESIDE_NAME" 2)(Zt:GI mg "GREATEST_WIDTH" 30)(Nt:GI mg "LEAST_HEIGHT" 3)(Zu:GI mg "GREATEST_HEIGHT" 9)
  (DS:fX P w K mg base ax 1 CR "sees" ["self","kind"] (vY K CT CR)) (DT:fX P w K mg base (aU P w CF) 4 CR "take" ["self","kind"] (pw K CF CT CR)) (DN:fX P w K mg base (aU P w CF) 5 CR "take_number" ["self","least","greatest"] (Np K CF CT CR))
  (F:aQ K "box_read" "box_read" yT f fd):aK P w K mg base (aU P w CF) 6 f fd ["reader"] (Nr K CF CT CR):=by
 refine F.fV Ll (λvs H Q E h=>?_) (λaC A outer s H vs Q E hr h=>?_)
 ·obtain⟨rd,dx,l,ts,i,rfl,_⟩:=h
  rfl
 ·intro XX
  obtain⟨rd,dx,l,ts,i,rfl,R,L,kR,kQ⟩:=h
  have nd:=Ll.nd
  have lh:bc 4 _:=hr.mono (by decide)
  have bq:bc 1 _:=hr.mono (by decide)
  have hx:Passes (aU P w CF) (fT (aU P w CF) P w K mg base ["reader","name","width","height"] "box_read" (aH yT) f aC A outer s H E) E:=cU λ_ _ _ z=>z
  refine⟨_,aq (aN (i:=1) nd rfl (ay rfl) (dw T.cl DT lh hx (pv 0) (ae (ke gN) af)))
   (aq (aN (i:=2) nd rfl (ay rfl) (bW fM (bK cb (by rfl) B.len bZ (ae (aP (pv 1) rfl) af)) (bG gW)))
   (aq (aN (i:=3) nd rfl (ay rfl) (bG Nt))
   (aq (bF (dJ (dw T.cl DS bq aI (pv 0) (ae (ke gU) af)))
    (aq (aN (i:=2) nd rfl (ay rfl) (dw T.cl DN hr hx (pv 0) (ae (bW fM (bK cb (by rfl) B.len bZ (ae (aP (pv 1) rfl) af)) (bG gL)) (ae (bG Zt) af))))
     (au (aN (i:=3) nd rfl (ay rfl) (dw T.cl DN hr hx (pv 0) (ae (bG Nt) (ae (bG Zu) af)))))) bM)
   (aq (cM (dw T.cl DT lh hx (pv 0) (ae fL af)))
   (au (aM (l7 (ae (pv 1) (ae (pv 2) (ae (pv 3) af)))))))))),?_⟩
  obtain⟨_,_,x0,_,_,km,_⟩:=R.get
  refine⟨_,rfl,rd,dx,_,rfl,R.ob,rfl,rd,dx,l,ts,i,x0,"name",rfl,R,km,λhk=>?_,λhk a hT=>?_⟩
  ·refine(kR ⟨3,x0.place⟩ ?_).now (aE.refl H _)
   unfold takeBox
   rw[tG km hk]
   rfl
  obtain⟨b,hb,Fd⟩:=Nq km hk
  obtain⟨tH,eC,lz,R1⟩:=R.step L (aE.refl H _) R.ob R.lt km hk (by decide+kernel)
  generalize nP:upd H rd (.ins CR dx (rf l (i+1)))=H1 at eC lz R1
  obtain⟨sp,hT⟩:=hT
  rw[hb]at hT
  have Nu:bp K CT H1 a x0.place (.name b) sp:=hT.bar R.ob eC
  obtain⟨ff,ta,t1,t2,t3,t4,t5⟩:=id Nu
  have Fe:=t3.symm
  subst Fe
  have pz:iH K CT H1 a ⟨x0.place,b⟩:=Nu
  have jA:((vB b).length:Int)+4=((b.length+4:Nat):Int):=by rw[cE];omega
  have Zv:((vB b).length:Int)+2=((b.length+2:Nat):Int):=by rw[cE];omega
  refine⟨_,rfl,a,CT,ff,_,_,rfl,t1,TT.cl,TT.ns,jB _ _ _,ta,_,rfl,.inr (aB.of t2),_,_,rfl,rfl,?_⟩
  show l6 _ _ _ _ _
  dsimp only
  rw[jA]
  have fin:∀(j wd hg:Nat)(H2:Hp)(e:∀y,takeSign 59 (ts.drop j)=y->takeBox (ts.drop i)=y.map λm=>(⟨⟨x0.place,b⟩,wd,hg⟩,m)),i<j->j<ts.length->aE H H2 [rd]->H2 rd=some (.ins CR dx (rf l j))->iH K CT H2 a ⟨x0.place,b⟩->
    l6 (xO (ya CR "take" (pw K CF CT CR) [] E (bu 0) (bT (tC (.str ";")) dR))) (qg (BA (bT (bu 1) (bT (bu 2) (bT (bu 3) dR))))) {nx:=λ_ H'=>Q .aO H',rt:=Q} [some (.ref rd),some (.ref a),some (.int (wd:Int)),some (.int (hg:Int))] H2:=by
   intro j wd hg H2 e ji hj lA iI nV
   have R2:=R.bar lA iI hj
   obtain⟨_,_,x,_,_,hx,_⟩:=R2.get
   have nW:=e _ (vZ hx 59)
   refine⟨_,rfl,rd,dx,_,rfl,iI,rfl,rd,dx,l,ts,j,x,";",rfl,R2,hx,λhk=>?_,λhk _ _=>?_⟩
   ·rw[if_neg (λz=>hk ((tF x.tok).mpr z))]at nW
    exact(kR _ nW).now lA
   ·rw[if_pos ((tF x.tok).mp hk)]at nW
    obtain⟨tI,eT,ja,R3⟩:=R.step L lA iI hj hx hk (by decide+kernel)
    have nX:=bp.bar iI (aE.upd (o:=.ins CR dx (rf l (j+1)))) nV
    refine⟨_,rfl,_,rfl,_,rfl,by show 3<=sizeLine;decide,λr cT=>?_⟩
    refine kQ _ _ nW (j+1) _ r rfl (by omega) tI (eT.trans (aE.new cT)) ?_ ?_ ⟨a,aB.of aj,nX.same (aa.new cT)⟩
    ·rw[ao (aF ja cT)];exact ja
    ·cases q:H r with
     |none=>rfl
     |some o=>
      exfalso
      by_cases v_:r=rd
      ·rw[v_,ja]at cT;cases cT
      ·have:=eT r o q (by simpa using v_)
       rw[cT]at this;cases this
  obtain⟨_,_,x1,_,_,lx,_⟩:=R1.get
  refine⟨_,rfl,rd,dx,_,rfl,lz,rfl,rd,dx,l,ts,i+1,x1,"number",rfl,R1,lx,_,rfl,?_⟩
  have mw:takeBox (ts.drop i)=(if Ha (.sign 59) (ts.drop (i+1))=true then .ok (⟨⟨x0.place,b⟩,b.length+4,3⟩,(ts.drop (i+1)).drop 1)else(takeNum (b.length+2) Qw (ts.drop (i+1))).bind λw=>(takeNum 3 Hk w.2).bind λh=>(takeSign 59 h.2).map λm=>(⟨⟨x0.place,b⟩,w.1,h.1⟩,m)):=by
   unfold takeBox
   rw[Fd]
   rfl
  rw[Fc lx]at mw
  by_cases wb:bN x1.tok="number"
  ·rw[decide_eq_true wb]
   have oW:¬tokEq x1.tok (.sign 59)=true:=λz=>by
    obtain⟨n,hn⟩:=(vX x1.tok).mp wb
    rw[hn]at z
    cases z
   rw[if_neg oW]at mw
   refine aY ⟨_,rfl,rd,dx,_,rfl,lz,rfl,_,rfl,a,CT,ff,_,_,rfl,t1,TT.cl,TT.ns,jB _ _ _,ta,_,rfl,.inr (aB.of t2),_,_,rfl,rfl,rd,dx,l,ts,i+1,b.length+2,30,?_,R1,λfl gJ=>?_,λn rest az qU=>?_⟩
   ·rw[<-Zv]
    rfl
   ·have:takeBox (ts.drop i)=.error fl:=by rw[mw,show Qw=30 from rfl,gJ];rfl
    exact(kR _ this).bar eC
   ·rw[show Qw=30 from rfl,az,qU]at mw
    have mw:takeBox (ts.drop i)=(takeNum 3 Hk (ts.drop (i+2))).bind λh=>(takeSign 59 h.2).map λm=>(⟨⟨x0.place,b⟩,n,h.1⟩,m):=mw
    obtain⟨Zw,lA,iI,R2⟩:=R.step L eC lz R1.lt lx wb (by decide+kernel)
    generalize my:upd H1 rd (.ins CR dx (rf l (i+1+1)))=H2 at lA iI R2
    have nV:iH K CT H2 a ⟨x0.place,b⟩:=bp.bar lz (by rw[<-my];exact aE.upd) pz
    obtain⟨_,_,x2,_,_,mz,_⟩:=R2.get
    refine⟨_,rfl,rd,dx,_,rfl,iI,rfl,rd,dx,l,ts,i+1+1,3,9,rfl,R2,λfl gJ=>?_,λn2 ah8 wc Zx=>?_⟩
    ·have:takeBox (ts.drop i)=.error fl:=by rw[mw,show Hk=9 from rfl,gJ];rfl
     exact(kR _ this).bar lA
    ·rw[show Hk=9 from rfl,wc,Zx]at mw
     have qI:bN x2.tok="number":=by
      rw[vX]
      rw[drop_one mz]at wc
      obtain⟨p2,Zy⟩:=x2
      cases Zy with
      |num n=>exact⟨n,rfl⟩
      |name b=>cases wc
      |sign c=>cases wc
      |last=>cases wc
     obtain⟨tI,eT,ja,R3⟩:=R.step L lA iI R2.lt mz qI (by decide+kernel)
     have nX:iH K CT _ a ⟨x0.place,b⟩:=bp.bar iI (aE.upd (o:=.ins CR dx (rf l (i+1+1+1)))) nV
     refine fin (i+1+1+1) n n2 _ (λy hy=>?_) (by omega) tI eT ja nX
     rw[<-hy,mw]
     rfl
  ·rw[decide_eq_false wb]
   refine aZ (fin (i+1) (b.length+4) 3 H1 (λy hy=>?_) (by omega) tH eC lz pz)
   rw[vZ lx]at hy
   rw[mw,<-hy]
   by_cases hs:tokEq x1.tok (.sign 59)=true
   ·rw[if_pos hs,if_pos hs]
    show _=Except.ok _
    rw[wX]
   ·rw[if_neg hs,if_neg hs]
    rw[drop_one lx]
    obtain⟨p1,Zz⟩:=x1
    cases Zz with
    |num n=>exact absurd ((vX _).mpr ⟨n,rfl⟩) wb
    |name b=>rfl
    |sign c=>rfl
    |last=>rfl
end
end Bp
set_option Elab.async false
set_option linter.all false
set_option maxRecDepth 100000
set_option maxHeartbeats 2000000
namespace Bp
open PySem PySem.Spec PyProof.Rows L2
open L2.Bx (dB XO XD fq gu iD iA iC aU cU)
open VadiBase (Bytes isBlank isDigit isLetter decimal word PTok Toks tokEq PName takeName takeSign)
open Vadiaa (takeNum takeBox takeEdge takeWish)
theorem aE.free{H H':Hp}{rd:Addr}{o:HO}{r:Addr}(b:aE H H' [rd])(h:H' rd=some o)(hr:H' r=none):H r=none:=by
 cases q:H r with
 |none=>rfl
 |some o'=>
  exfalso
  by_cases v_:r=rd
  ·rw[v_,h]at hr;cases hr
  ·have:=b r o' q (by simpa using v_)
   rw[hr]at this;cases this
section
variable{P:Program}{w:World}{K:ai}{mg:Str->Option Value}{base:Heap}{CF CT CR:Addr}
theorem took{H H1:Hp}{rd dx l a:Addr}{ts:Toks}{i j:Nat}{x:PTok}(L:qT ts)(R:dY K CT CR H rd dx l ts i)(b:aE H H1 [rd])(h1:H1 rd=some (.ins CR dx (rf l j)))(hj:j<ts.length)(hx:ts[j]? =some x)(hk:bN x.tok="name")(hT:ki K CT H1 a x):
  ∃nm,takeName (ts.drop j)=.ok (⟨x.place,nm⟩,ts.drop (j+1))/\iH K CT (upd H1 rd (.ins CR dx (rf l (j+1)))) a ⟨x.place,nm⟩/\j+1<ts.length/\aE H (upd H1 rd (.ins CR dx (rf l (j+1)))) [rd]/\dY K CT CR (upd H1 rd (.ins CR dx (rf l (j+1)))) rd dx l ts (j+1):=by
 obtain⟨nm,hb,Fd⟩:=Nq hx hk
 obtain⟨g1,g2,g3,g4⟩:=R.step L b h1 hj hx hk (by decide+kernel)
 obtain⟨sp,hT⟩:=hT
 rw[hb]at hT
 have hN:=hT.bar h1 (aE.upd (o:=.ins CR dx (rf l (j+1))))
 obtain⟨ff,ta,t1,t2,t3,t4,t5⟩:=id hN
 have Fe:=t3.symm
 subst Fe
 exact⟨nm,Fd,hN,g1,g2,g4⟩
def Nv(K:ai)(CF CT CR:Addr):Sp:=λvs H Q E=>∃(rd dx l:Addr)(ts:Toks)(i:Nat),vs=[.ref rd]/\dY K CT CR H rd dx l ts i/\qT ts/\
 (∀fl,takeEdge (ts.drop i)=.error fl->nU CF E H [rd] fl.code fl.place)/\
 (∀bx rest,takeEdge (ts.drop i)=.ok (bx,rest)->∀j H' r,rest=ts.drop j->i<j->j<ts.length->aE H H' [rd]->H' rd=some (.ins CR dx (rf l j))->H r=none->kl K CT H' r bx->Q (.ref r) H')
theorem ZA{f:Addr}{fd:FuncData}(T:ly K CR)(TT:iG K CT)(gN:GS mg "NAME" "name")
  (DS:fX P w K mg base ax 1 CR "sees" ["self","kind"] (vY K CT CR)) (DT:fX P w K mg base (aU P w CF) 4 CR "take" ["self","kind"] (pw K CF CT CR))
  (F:aQ K "edge_read" "edge_read" yU f fd):aK P w K mg base (aU P w CF) 5 f fd ["reader"] (Nv K CF CT CR):=by
 refine F.fV Lm (λvs H Q E h=>?_) (λaC A outer s H vs Q E hr h=>?_)
 ·obtain⟨rd,dx,l,ts,i,rfl,_⟩:=h
  rfl
 ·intro XX
  obtain⟨rd,dx,l,ts,i,rfl,R,L,kR,kQ⟩:=h
  have nd:=Lm.nd
  have bq:bc 1 _:=hr.mono (by decide)
  have hx:Passes (aU P w CF) (fT (aU P w CF) P w K mg base ["reader","begin","end","label"] "edge_read" (aH yU) f aC A outer s H E) E:=cU λ_ _ _ z=>z
  refine⟨_,aq (aN (i:=1) nd rfl (ay rfl) (dw T.cl DT hr hx (pv 0) (ae (ke gN) af)))
   (aq (cM (dw T.cl DT hr hx (pv 0) (ae fL af)))
   (aq (aN (i:=2) nd rfl (ay rfl) (dw T.cl DT hr hx (pv 0) (ae (ke gN) af)))
   (aq (aN (i:=3) nd rfl (ay rfl) (l7 af))
   (aq (bF (dJ (dw T.cl DS bq aI (pv 0) (ae fL af)))
    (aq (cM (dw T.cl DT hr hx (pv 0) (ae fL af)))
     (au (aN (i:=3) nd rfl (ay rfl) (aP (dw T.cl DT hr hx (pv 0) (ae (ke gN) af)) rfl)))) bM)
   (aq (cM (dw T.cl DT hr hx (pv 0) (ae fL af)))
   (au (aM (l7 (ae (pv 1) (ae (pv 2) (ae (pv 3) af))))))))))),?_⟩
  obtain⟨_,_,x0,_,_,km,_⟩:=R.get
  refine⟨_,rfl,rd,dx,_,rfl,R.ob,rfl,rd,dx,l,ts,i,x0,"name",rfl,R,km,λhk=>?_,λhk a hT=>?_⟩
  ·refine(kR ⟨3,x0.place⟩ ?_).now (aE.refl H _)
   unfold takeEdge
   rw[tG km hk]
   rfl
  obtain⟨n0,Ff,pz,tH,eC,R1⟩:=took L R (aE.refl H _) R.ob R.lt km hk hT
  generalize nP:upd H rd (.ins CR dx (rf l (i+1)))=H1 at pz eC R1
  have e1:takeEdge (ts.drop i)=(takeSign ahA (ts.drop (i+1))).bind λl=>(takeName l).bind λy=>
    if Ha (.sign 58) y.2=true then(takeName (y.2.drop 1)).bind λz=>(takeSign 59 z.2).map λm=>(⟨⟨x0.place,n0⟩,y.1,some z.1.name⟩,m)else(takeSign 59 y.2).map λm=>(⟨⟨x0.place,n0⟩,y.1,none⟩,m):=by
   unfold takeEdge
   rw[Ff]
   rfl
  obtain⟨_,_,x1,_,_,lx,_⟩:=R1.get
  rw[vZ lx]at e1
  refine⟨_,rfl,rd,dx,_,rfl,R1.ob,rfl,rd,dx,l,ts,i+1,x1,"->",rfl,R1,lx,λhk=>?_,λhk _ _=>?_⟩
  ·rw[if_neg (λz=>hk ((Ni x1.tok).mpr z))]at e1
   exact(kR _ e1).now eC
  rw[if_pos ((Ni x1.tok).mp hk)]at e1
  obtain⟨Zw,lA,iI,R2⟩:=R.step L eC R1.ob R1.lt lx hk (by decide+kernel)
  have nV:=bp.bar R1.ob (aE.upd (o:=.ins CR dx (rf l (i+1+1)))) pz
  generalize my:upd H1 rd (.ins CR dx (rf l (i+1+1)))=H2 at nV lA iI R2
  obtain⟨_,_,x2,_,_,mz,_⟩:=R2.get
  refine⟨_,rfl,rd,dx,_,rfl,R2.ob,rfl,rd,dx,l,ts,i+1+1,x2,"name",rfl,R2,mz,λhk=>?_,λhk a2 gq=>?_⟩
  ·refine(kR ⟨3,x2.place⟩ ?_).now lA
   rw[e1]
   show(takeName (ts.drop (i+1+1))).bind _=_
   rw[tG mz hk]
   rfl
  obtain⟨n2,Fg,we,tI,eT,R3⟩:=took L R lA iI R2.lt mz hk gq
  have nX:=bp.bar iI (aE.upd (o:=.ins CR dx (rf l (i+1+1+1)))) nV
  generalize sI:upd H2 rd (.ins CR dx (rf l (i+1+1+1)))=H3 at nX we eT R3
  have e3:takeEdge (ts.drop i)=if Ha (.sign 58) (ts.drop (i+1+1+1))=true then(takeName ((ts.drop (i+1+1+1)).drop 1)).bind λz=>(takeSign 59 z.2).map λm=>(⟨⟨x0.place,n0⟩,⟨x2.place,n2⟩,some z.1.name⟩,m)else(takeSign 59 (ts.drop (i+1+1+1))).map λm=>(⟨⟨x0.place,n0⟩,⟨x2.place,n2⟩,none⟩,m):=by
   rw[e1]
   show(takeName (ts.drop (i+1+1))).bind _=_
   rw[Fg]
   rfl
  have fin:∀(j:Nat)(lb:Addr)(mB:Option Bytes)(H4:Hp)(e:∀y,takeSign 59 (ts.drop j)=y->takeEdge (ts.drop i)=y.map λm=>(⟨⟨x0.place,n0⟩,⟨x2.place,n2⟩,mB⟩,m)),i<j->j<ts.length->aE H H4 [rd]->H4 rd=some (.ins CR dx (rf l j))->iH K CT H4 a ⟨x0.place,n0⟩->iH K CT H4 a2 ⟨x2.place,n2⟩->
    aB K H4 lb (vB (mB.getD []))->(∀s,mB=some s->s≠[]/\s.length<=16)->
    l6 (xO (ya CR "take" (pw K CF CT CR) [] E (bu 0) (bT (tC (.str ";")) dR))) (qg (BA (bT (bu 1) (bT (bu 2) (bT (bu 3) dR))))) {nx:=λ_ H'=>Q .aO H',rt:=Q} [some (.ref rd),some (.ref a),some (.ref a2),some (.ref lb)] H4:=by
   intro j lb mB H4 e ji hj e9 ko wg wj pA tJ
   have R4:=R.bar e9 ko hj
   obtain⟨_,_,x,_,_,hx,_⟩:=R4.get
   have nW:=e _ (vZ hx 59)
   refine⟨_,rfl,rd,dx,_,rfl,ko,rfl,rd,dx,l,ts,j,x,";",rfl,R4,hx,λhk=>?_,λhk _ _=>?_⟩
   ·rw[if_neg (λz=>hk ((tF x.tok).mpr z))]at nW
    exact(kR _ nW).now e9
   ·rw[if_pos ((tF x.tok).mp hk)]at nW
    obtain⟨zD,nY,kq,R5⟩:=R.step L e9 ko hj hx hk (by decide+kernel)
    have tK:=bp.bar ko (aE.upd (o:=.ins CR dx (rf l (j+1)))) wg
    have tL:=bp.bar ko (aE.upd (o:=.ins CR dx (rf l (j+1)))) wj
    have zF:=aB.bar ko (aE.upd (o:=.ins CR dx (rf l (j+1)))) pA
    refine⟨_,rfl,_,rfl,_,rfl,by show 3<=sizeLine;decide,λr cT=>?_⟩
    refine kQ _ _ nW (j+1) _ r rfl (by omega) zD (nY.trans (aE.new cT)) ?_ (nY.free kq cT) ⟨a,a2,lb,aB.of aj,tK.same (aa.new cT),tL.same (aa.new cT),aa.tup (aa.new cT) zF,tJ⟩
    rw[ao (aF kq cT)];exact kq
  refine⟨cw _,λtM ZC=>?_⟩
  have s4:aa H3 (upd H3 tM (.tup [])):=aa.new ZC
  have R4:=R3.same s4
  have e9:aE H (upd H3 tM (.tup [])) [rd]:=eT.trans (aE.of s4 _)
  have wg:=bp.same s4 nX
  have wj:=bp.same s4 we
  have Nw:aB K (upd H3 tM (.tup [])) tM (vB []):=aB.of aj
  generalize E5:upd H3 tM (.tup [])=H4 at R4 e9 wg wj Nw
  obtain⟨_,_,x3,_,_,zG,_⟩:=R4.get
  rw[Fc zG]at e3
  refine⟨_,rfl,rd,dx,_,rfl,R4.ob,rfl,rd,dx,l,ts,i+1+1+1,x3,":",rfl,R4,zG,_,rfl,?_⟩
  by_cases tN:bN x3.tok=":"
  ·rw[decide_eq_true tN]
   rw[if_pos ((Nh x3.tok).mp tN)]at e3
   refine aY ⟨_,rfl,rd,dx,_,rfl,R4.ob,rfl,rd,dx,l,ts,i+1+1+1,x3,":",rfl,R4,zG,λhk=>absurd tN hk,λhk _ _=>?_⟩
   obtain⟨zD,nY,kq,R5⟩:=R.step L e9 R4.ob R4.lt zG tN (by decide+kernel)
   have tK:=bp.bar R4.ob (aE.upd (o:=.ins CR dx (rf l (i+1+1+1+1)))) wg
   have tL:=bp.bar R4.ob (aE.upd (o:=.ins CR dx (rf l (i+1+1+1+1)))) wj
   generalize ZD:upd H4 rd (.ins CR dx (rf l (i+1+1+1+1)))=H5 at nY kq R5 tK tL
   obtain⟨_,_,x4,_,_,Fh,_⟩:=R5.get
   rw[wX]at e3
   refine⟨_,rfl,rd,dx,_,rfl,R5.ob,rfl,rd,dx,l,ts,i+1+1+1+1,x4,"name",rfl,R5,Fh,λhk=>?_,λhk a4 lg=>?_⟩
   ·refine(kR ⟨3,x4.place⟩ ?_).now nY
    rw[e3,tG Fh hk]
    rfl
   ·obtain⟨n4,ZE,ZF,ZG,ZH,R6⟩:=took L R nY kq R5.lt Fh hk lg
    have ZI:=bp.bar kq (aE.upd (o:=.ins CR dx (rf l (i+1+1+1+1+1)))) tK
    have ZJ:=bp.bar kq (aE.upd (o:=.ins CR dx (rf l (i+1+1+1+1+1)))) tL
    obtain⟨ff,ta,t1,t2,t3,t4,t5⟩:=id ZF
    refine⟨a4,CT,ff,_,_,rfl,t1,TT.cl,TT.ns,jB _ _ _,?_⟩
    refine fin (i+1+1+1+1+1) ta (some n4) _ (λy hy=>?_) (by omega) ZG ZH R6.ob ZI ZJ (aB.of t2) (λs hs=>by cases hs;exact⟨t4,t5⟩)
    rw[e3,ZE,<-hy]
    rfl
  ·rw[decide_eq_false tN]
   rw[if_neg (λz=>tN ((Nh x3.tok).mpr z))]at e3
   refine aZ (fin (i+1+1+1) tM none H4 (λy hy=>?_) (by omega) tI e9 R4.ob wg wj Nw (λs hs=>nomatch hs))
   rw[e3,hy]
def Ny(K:ai)(CF CT CR:Addr):Sp:=λvs H Q E=>∃(rd dx l:Addr)(ts:Toks)(i:Nat),vs=[.ref rd]/\dY K CT CR H rd dx l ts i/\qT ts/\
 (∀fl,takeWish (ts.drop i)=.error fl->nU CF E H [rd] fl.code fl.place)/\
 (∀bx rest,takeWish (ts.drop i)=.ok (bx,rest)->∀j H' r,rest=ts.drop j->i<j->j<ts.length->aE H H' [rd]->H' rd=some (.ins CR dx (rf l j))->H r=none->i_ K CT H' r bx->Q (.ref r) H')
theorem ZK{f:Addr}{fd:FuncData}(T:ly K CR)(gN:GS mg "NAME" "name")(DT:fX P w K mg base (aU P w CF) 4 CR "take" ["self","kind"] (pw K CF CT CR))
  (F:aQ K "wish_read" "wish_read" yV f fd):aK P w K mg base (aU P w CF) 5 f fd ["reader"] (Ny K CF CT CR):=by
 refine F.fV Ln (λvs H Q E h=>?_) (λaC A outer s H vs Q E hr h=>?_)
 ·obtain⟨rd,dx,l,ts,i,rfl,_⟩:=h
  rfl
 ·intro XX
  obtain⟨rd,dx,l,ts,i,rfl,R,L,kR,kQ⟩:=h
  have nd:=Ln.nd
  have hx:Passes (aU P w CF) (fT (aU P w CF) P w K mg base ["reader","upper","lower"] "wish_read" (aH yV) f aC A outer s H E) E:=cU λ_ _ _ z=>z
  refine⟨_,aq (aN (i:=1) nd rfl (ay rfl) (dw T.cl DT hr hx (pv 0) (ae (ke gN) af)))
   (aq (aN (i:=2) nd rfl (ay rfl) (dw T.cl DT hr hx (pv 0) (ae (ke gN) af)))
   (aq (cM (dw T.cl DT hr hx (pv 0) (ae fL af)))
   (au (aM (l7 (ae (pv 1) (ae (pv 2) af))))))),?_⟩
  obtain⟨_,_,x0,_,_,km,_⟩:=R.get
  refine⟨_,rfl,rd,dx,_,rfl,R.ob,rfl,rd,dx,l,ts,i,x0,"name",rfl,R,km,λhk=>?_,λhk a hT=>?_⟩
  ·refine(kR ⟨3,x0.place⟩ ?_).now (aE.refl H _)
   unfold takeWish
   rw[tG km hk]
   rfl
  obtain⟨n0,Ff,pz,tH,eC,R1⟩:=took L R (aE.refl H _) R.ob R.lt km hk hT
  generalize nP:upd H rd (.ins CR dx (rf l (i+1)))=H1 at pz eC R1
  have e1:takeWish (ts.drop i)=(takeName (ts.drop (i+1))).bind λy=>(takeSign 59 y.2).map λm=>((⟨x0.place,n0⟩,y.1),m):=by
   unfold takeWish
   rw[Ff]
   rfl
  obtain⟨_,_,x2,_,_,mz,_⟩:=R1.get
  refine⟨_,rfl,rd,dx,_,rfl,R1.ob,rfl,rd,dx,l,ts,i+1,x2,"name",rfl,R1,mz,λhk=>?_,λhk a2 gq=>?_⟩
  ·refine(kR ⟨3,x2.place⟩ ?_).now eC
   rw[e1,tG mz hk]
   rfl
  obtain⟨n2,Fg,we,tI,eT,R3⟩:=took L R eC R1.ob R1.lt mz hk gq
  have nX:=bp.bar R1.ob (aE.upd (o:=.ins CR dx (rf l (i+1+1)))) pz
  generalize sI:upd H1 rd (.ins CR dx (rf l (i+1+1)))=H3 at nX we eT R3
  have e3:takeWish (ts.drop i)=(takeSign 59 (ts.drop (i+1+1))).map λm=>((⟨x0.place,n0⟩,⟨x2.place,n2⟩),m):=by
   rw[e1,Fg]
   rfl
  obtain⟨_,_,x,_,_,hx,_⟩:=R3.get
  rw[vZ hx]at e3
  refine⟨_,rfl,rd,dx,_,rfl,R3.ob,rfl,rd,dx,l,ts,i+1+1,x,";",rfl,R3,hx,λhk=>?_,λhk _ _=>?_⟩
  ·rw[if_neg (λz=>hk ((tF x.tok).mpr z))]at e3
   exact(kR _ e3).now eT
  ·rw[if_pos ((tF x.tok).mp hk)]at e3
   obtain⟨zD,nY,kq,R5⟩:=R.step L eT R3.ob R3.lt hx hk (by decide+kernel)
   have tK:=bp.bar R3.ob (aE.upd (o:=.ins CR dx (rf l (i+1+1+1)))) nX
   have tL:=bp.bar R3.ob (aE.upd (o:=.ins CR dx (rf l (i+1+1+1)))) we
   refine⟨_,rfl,_,rfl,by show 2<=sizeLine;decide,λr cT=>?_⟩
   refine kQ _ _ e3 (i+1+1+1) _ r rfl (by omega) zD (nY.trans (aE.new cT)) ?_ (nY.free kq cT) ⟨a,a2,aB.of aj,tK.same (aa.new cT),tL.same (aa.new cT)⟩
   rw[ao (aF kq cT)];exact kq
end
end Bp
set_option Elab.async false
set_option linter.all false
set_option maxRecDepth 100000
set_option maxHeartbeats 2000000
namespace Bp
open PySem PySem.Spec PyProof.Rows L2
open L2.Bx (dB XO XD fq gu iD iA iC aU cU)
open VadiBase (Bytes isBlank isDigit isLetter decimal word PTok Toks tokEq PName takeName takeSign)
open Vadiaa (takeNum takeBox takeEdge takeWish takeAll)
def df(lb le lw:Addr):List (Str×V):=[("boxes",.ref lb),("edges",.ref le),("wishes",.ref lw)]
structure zH(K:ai)(CD:Addr):Prop where
 cl:ir K CD
 nb:dN K CD "boxes"
 ne:dN K CD "edges"
 nw:dN K CD "wishes"
theorem Nz{X:Cx}{CX:eP}{k:Nat}{x:Str}{C:Addr}{ps:List Str}{sp:Sp}{E:XK}{p pos:Pos}(D:lj X.prog X.w X.K X.mg X.base CX k x C ps sp)(hr:bc (k+1) X.A)(hx:Passes CX X E)(hg:Gl X x:=by rfl)(fN:(x==("__debug__":Str))=false:=by decide):PE X (.Call (.Name x p) [] [] pos) (yb C sp [] E dR):=by
 obtain⟨f,fd,M,F,b⟩:=D.ex
 exact Tb M F hr hg D.mg b .nil hx fN
section
variable{P:Program}{w:World}{K:ai}{mg:Str->Option Value}{base:Heap}{CF CT CR CD:Addr}
def NA(CD:Addr):Sp:=λvs H Q _=>∃(q dx:Addr),vs=[.ref q]/\H q=some (.ins CD dx [])/\∀(lb le lw:Addr)(H':Hp),H lb=none->H le=none->H lw=none->lb≠le->lb≠lw->le≠lw->(∀b o,H b=some o->b≠q->H' b=some o)->
 H' q=some (.ins CD dx (df lb le lw))->H' lb=some (.lst [])->H' le=some (.lst [])->H' lw=some (.lst [])->Q .aO H'
theorem ZL{f:Addr}{fd:FuncData}(T:zH K CD)(F:aQ K "__init__" "Draft.__init__" C3 f fd):aK P w K mg base ax 1 f fd ["self"] (NA CD):=by
 refine F.bo Wm (λvs H Q E h=>?_) (λaC A outer s H vs Q E hr h=>?_)
 ·obtain⟨q,dx,rfl,_⟩:=h
  rfl
 ·intro XX
  obtain⟨q,dx,rfl,hq,k⟩:=h
  refine⟨_,aq (eX (pv 0) (cy af) rfl) (aq (eX (pv 0) (cy af) rfl) (au (eX (pv 0) (cy af) rfl))),?_⟩
  refine⟨cw _,λlb pA=>⟨_,rfl,q,CD,dx,[],rfl,by rw[ao (aF hq pA)];exact hq,T.cl,T.nb,(by show 0<1000;decide),?_⟩⟩
  have Fi:q≠lb:=aF hq pA
  refine⟨cw _,λle hle=>?_⟩
  have qV:le≠q:=λz=>by rw[z,aj]at hle;cases hle
  rw[ao qV]at hle
  have jE:lb≠le:=λz=>by rw[<-z,aj]at hle;cases hle
  rw[ao (Ne.symm jE)]at hle
  refine⟨_,rfl,q,CD,dx,_,rfl,by rw[ao (Ne.symm qV),aj],T.cl,T.ne,(by show 1<1000;decide),?_⟩
  refine⟨cw _,λlw jF=>?_⟩
  have qW:lw≠q:=λz=>by rw[z,aj]at jF;cases jF
  rw[ao qW]at jF
  have new:le≠lw:=λz=>by rw[<-z,aj]at jF;cases jF
  rw[ao (Ne.symm new),ao qW]at jF
  have jG:lb≠lw:=λz=>by rw[<-z,aj]at jF;cases jF
  rw[ao (Ne.symm jG)]at jF
  have e1:bP "edges" (.ref le) (bP "boxes" (.ref lb) [])=[(("boxes":Str),V.ref lb),(("edges":Str),V.ref le)]:=by
   show(if("boxes":Str)="edges" then _ else _)=_
   rw[if_neg (by decide+kernel)]
   rfl
  have e2:bP "wishes" (.ref lw) (bP "edges" (.ref le) (bP "boxes" (.ref lb) []))=df lb le lw:=by
   rw[e1]
   show(if("boxes":Str)="wishes" then _ else(("boxes":Str),V.ref lb)::(if("edges":Str)="wishes" then _ else _))=_
   rw[if_neg (by decide+kernel),if_neg (by decide+kernel)]
   rfl
  refine⟨_,rfl,q,CD,dx,_,rfl,by rw[ao (Ne.symm qW),aj],T.cl,T.nw,?_,?_⟩
  ·rw[e1]
   show 2<1000
   decide
  rw[e2]
  refine k lb le lw _ pA hle jF jE jG new (λb o e hb=>?_) aj ?_ ?_ ?_
  ·rw[ao hb,ao (aF e jF),ao hb,ao (aF e hle),ao hb,ao (aF e pA)];exact e
  ·rw[ao (Ne.symm Fi),ao jG,ao (Ne.symm Fi),ao jE,ao (Ne.symm Fi),aj]
  ·rw[ao qV,ao new,ao qV,aj]
  ·rw[ao qW,aj]
structure fY(K:ai)(CT CD:Addr)(H:Hp)(dr cv lb le lw:Addr)(d:d6):Prop where
 ob:H dr=some (.ins CD cv (df lb le lw))
 bx:∃bs:List Addr,H lb=some (.lst (bs.map V.ref))/\Paired (i9 K CT H) bs d.boxes
 ed:∃bs:List Addr,H le=some (.lst (bs.map V.ref))/\Paired (kl K CT H) bs d.edges
 wi:∃bs:List Addr,H lw=some (.lst (bs.map V.ref))/\Paired (i_ K CT H) bs d.wishes
 jE:lb≠le
 jG:lb≠lw
 new:le≠lw
theorem fY.same{H H':Hp}{dr cv lb le lw:Addr}{d:d6}(D:fY K CT CD H dr cv lb le lw d)(s:aa H H'):fY K CT CD H' dr cv lb le lw d:=by
 obtain⟨b1,b2,b3⟩:=D.bx
 obtain⟨e1,e2,e3⟩:=D.ed
 obtain⟨w1,w2,w3⟩:=D.wi
 exact⟨s _ _ D.ob,⟨b1,s _ _ b2,L2.Paired.aX b3 λ_ _ q=>q.same s⟩,⟨e1,s _ _ e2,L2.Paired.aX e3 λ_ _ q=>q.same s⟩,⟨w1,s _ _ w2,L2.Paired.aX w3 λ_ _ q=>q.same s⟩,D.jE,D.jG,D.new⟩
theorem fY.bar{H H':Hp}{dr cv lb le lw rd dx l:Addr}{i:Nat}{d:d6}(D:fY K CT CD H dr cv lb le lw d)(hr:H rd=some (.ins CR dx (rf l i)))(s:aE H H' [rd]):fY K CT CD H' dr cv lb le lw d:=by
 obtain⟨b1,b2,b3⟩:=D.bx
 obtain⟨e1,e2,e3⟩:=D.ed
 obtain⟨w1,w2,w3⟩:=D.wi
 have nl:∀{a:Addr}{xs:List V},H a=some (.lst xs)->a∉[rd]:=λh=>by simpa using dq h hr (by intro z;cases z)
 have nd:dr∉[rd]:=by
  have:dr≠rd:=dq D.ob hr λz=>by injection z with _ _ z;have:=congrArg w_ z;simp[df,rf]at this
  simpa using this
 exact⟨s _ _ D.ob nd,⟨b1,s _ _ b2 (nl b2),L2.Paired.aX b3 λ_ _ q=>q.bar hr s⟩,⟨e1,s _ _ e2 (nl e2),L2.Paired.aX e3 λ_ _ q=>q.bar hr s⟩,⟨w1,s _ _ w2 (nl w2),L2.Paired.aX w3 λ_ _ q=>q.bar hr s⟩,D.jE,D.jG,D.new⟩
theorem fY.ZM{H:Hp}{dr cv lb le lw r:Addr}{d:d6}{bs:List Addr}{x:kH}(D:fY K CT CD H dr cv lb le lw d)(hl:H lb=some (.lst (bs.map V.ref)))(hr:i9 K CT H r x):fY K CT CD (upd H lb (.lst (bs.map V.ref++[.ref r]))) dr cv lb le lw {d with boxes:=d.boxes++[x]}:=by
 obtain⟨b1,b2,b3⟩:=D.bx
 obtain⟨e1,e2,e3⟩:=D.ed
 obtain⟨w1,w2,w3⟩:=D.wi
 have eb:b1=bs:=by
  have h:=b2
  rw[hl]at h
  injection h with h
  injection h with h
  exact(Af (λa b z=>by injection z)).mp h.symm
 subst eb
 exact⟨by rw[ao (dq D.ob hl (by intro z;cases z))];exact D.ob,⟨b1++[r],by rw[aj,bI];rfl,Paired.app (L2.Paired.aX b3 λ_ _ q=>q.br hl) (.cons (hr.br hl) .nil)⟩,⟨e1,by rw[ao (λz=>D.jE z.symm)];exact e2,L2.Paired.aX e3 λ_ _ q=>q.br hl⟩,⟨w1,by rw[ao (λz=>D.jG z.symm)];exact w2,L2.Paired.aX w3 λ_ _ q=>q.br hl⟩,D.jE,D.jG,D.new⟩
theorem fY.addEdge{H:Hp}{dr cv lb le lw r:Addr}{d:d6}{bs:List Addr}{x:oy}(D:fY K CT CD H dr cv lb le lw d)(hl:H le=some (.lst (bs.map V.ref)))(hr:kl K CT H r x):fY K CT CD (upd H le (.lst (bs.map V.ref++[.ref r]))) dr cv lb le lw {d with edges:=d.edges++[x]}:=by
 obtain⟨b1,b2,b3⟩:=D.bx
 obtain⟨e1,e2,e3⟩:=D.ed
 obtain⟨w1,w2,w3⟩:=D.wi
 have eb:e1=bs:=by
  have h:=e2
  rw[hl]at h
  injection h with h
  injection h with h
  exact(Af (λa b z=>by injection z)).mp h.symm
 subst eb
 exact⟨by rw[ao (dq D.ob hl (by intro z;cases z))];exact D.ob,⟨b1,by rw[ao D.jE];exact b2,L2.Paired.aX b3 λ_ _ q=>q.br hl⟩,⟨e1++[r],by rw[aj,bI];rfl,Paired.app (L2.Paired.aX e3 λ_ _ q=>q.br hl) (.cons (hr.br hl) .nil)⟩,⟨w1,by rw[ao (λz=>D.new z.symm)];exact w2,L2.Paired.aX w3 λ_ _ q=>q.br hl⟩,D.jE,D.jG,D.new⟩
theorem fY.ZN{H:Hp}{dr cv lb le lw r:Addr}{d:d6}{bs:List Addr}{x:PName×PName}(D:fY K CT CD H dr cv lb le lw d)(hl:H lw=some (.lst (bs.map V.ref)))(hr:i_ K CT H r x):fY K CT CD (upd H lw (.lst (bs.map V.ref++[.ref r]))) dr cv lb le lw {d with wishes:=d.wishes++[x]}:=by
 obtain⟨b1,b2,b3⟩:=D.bx
 obtain⟨e1,e2,e3⟩:=D.ed
 obtain⟨w1,w2,w3⟩:=D.wi
 have eb:w1=bs:=by
  have h:=w2
  rw[hl]at h
  injection h with h
  injection h with h
  exact(Af (λa b z=>by injection z)).mp h.symm
 subst eb
 exact⟨by rw[ao (dq D.ob hl (by intro z;cases z))];exact D.ob,⟨b1,by rw[ao D.jG];exact b2,L2.Paired.aX b3 λ_ _ q=>q.br hl⟩,⟨e1,by rw[ao D.new];exact e2,L2.Paired.aX e3 λ_ _ q=>q.br hl⟩,⟨w1++[r],by rw[aj,bI];rfl,Paired.app (L2.Paired.aX w3 λ_ _ q=>q.br hl) (.cons (hr.br hl) .nil)⟩,D.jE,D.jG,D.new⟩
theorem dY.br{H:Hp}{rd dx l L:Addr}{ts:Toks}{i:Nat}{ys zs:List V}(R:dY K CT CR H rd dx l ts i)(hl:H L=some (.lst ys))(a8:l≠L):dY K CT CR (upd H L (.lst zs)) rd dx l ts i:=by
 obtain⟨as,h1,h2⟩:=R.tk
 refine⟨by rw[ao (dq R.ob hl (by intro z;cases z))];exact R.ob,⟨as,by rw[ao a8];exact h1,L2.Paired.aX h2 λ_ _ q=>?_⟩,R.lt⟩
 obtain⟨sp,q⟩:=q
 exact⟨sp,q.br hl⟩
section
variable{ts:Toks}{i n:Nat}{x:PTok}{d:d6}
theorem zI(n:Nat)(d:d6)(p:Nat)(w:Bytes)(m:Toks):takeAll (n+1) d (⟨p,.name w⟩::m)=
  if w=word "box" then(if Qr<=d.boxes.length then .error ⟨4,p⟩else(takeBox m).bind λx=>takeAll n {d with boxes:=d.boxes++[x.1]} x.2)
  else if w=word "edge" then(if Qq<=d.edges.length then .error ⟨4,p⟩else(takeEdge m).bind λx=>takeAll n {d with edges:=d.edges++[x.1]} x.2)
  else if w=word "above" then(if Qm<=d.wishes.length then .error ⟨4,p⟩else(takeWish m).bind λx=>takeAll n {d with wishes:=d.wishes++[x.1]} x.2)
  else .error ⟨3,p⟩:=rfl
theorem ZO(hx:ts[i]? =some x)(hk:bN x.tok="box"):takeAll (n+1) d (ts.drop i)=if Qr<=d.boxes.length then .error ⟨4,x.place⟩else(takeBox (ts.drop (i+1))).bind λy=>takeAll n {d with boxes:=d.boxes++[y.1]} y.2:=by
 obtain⟨p,t⟩:=x
 have ht:t=.name (word "box"):=(Nj t).mp hk
 subst ht
 rw[drop_one hx]
 rw[zI,if_pos rfl]
theorem ZP(hx:ts[i]? =some x)(hk:bN x.tok="edge"):takeAll (n+1) d (ts.drop i)=if Qq<=d.edges.length then .error ⟨4,x.place⟩else(takeEdge (ts.drop (i+1))).bind λy=>takeAll n {d with edges:=d.edges++[y.1]} y.2:=by
 obtain⟨p,t⟩:=x
 have ht:t=.name (word "edge"):=(Nk t).mp hk
 subst ht
 rw[drop_one hx]
 rw[zI,if_neg (by decide),if_pos rfl]
theorem ZQ(hx:ts[i]? =some x)(hk:bN x.tok="above"):takeAll (n+1) d (ts.drop i)=if Qm<=d.wishes.length then .error ⟨4,x.place⟩else(takeWish (ts.drop (i+1))).bind λy=>takeAll n {d with wishes:=d.wishes++[y.1]} y.2:=by
 obtain⟨p,t⟩:=x
 have ht:t=.name (word "above"):=(Nl t).mp hk
 subst ht
 rw[drop_one hx]
 rw[zI,if_neg (by decide),if_neg (by decide),if_pos rfl]
theorem ZR(hx:ts[i]? =some x)(hk:bN x.tok="end"):takeAll (n+1) d (ts.drop i)=.ok d:=by
 obtain⟨p,t⟩:=x
 have ht:t=.last:=(Ng t).mp hk
 subst ht
 rw[drop_one hx]
 rfl
theorem ZS(hx:ts[i]? =some x)(h1:¬bN x.tok="box")(h2:¬bN x.tok="edge")(h3:¬bN x.tok="above")(h4:¬bN x.tok="end"):takeAll (n+1) d (ts.drop i)=.error ⟨3,x.place⟩:=by
 obtain⟨p,t⟩:=x
 rw[drop_one hx]
 cases t with
 |name w=>
  have n1:¬w=word "box":=λz=>h1 ((Nj _).mpr (by rw[z]))
  have n2:¬w=word "edge":=λz=>h2 ((Nk _).mpr (by rw[z]))
  have n3:¬w=word "above":=λz=>h3 ((Nl _).mpr (by rw[z]))
  rw[zI,if_neg n1,if_neg n2,if_neg n3]
 |num n=>rfl
 |sign c=>rfl
 |last=>exact absurd ((Ng _).mpr rfl) h4
end
structure Fj(d:d6):Prop where
 nb:d.boxes.length<=24
 ne:d.edges.length<=40
 nw:d.wishes.length<=16
def NB(K:ai)(CF CT CD:Addr):Sp:=λvs H Q E=>∃(l:Addr)(ts:Toks),vs=[.ref l]/\nS K CT H l ts/\qT ts/\0<ts.length/\
 (∀fl,takeAll (ts.length+1) mR ts=.error fl->Raises CF E H fl.code fl.place)/\
 (∀d,takeAll (ts.length+1) mR ts=.ok d->∀(H':Hp)(dr cv lb le lw:Addr),aa H H'->fY K CT CD H' dr cv lb le lw d->Fj d->Q (.ref dr) H')
theorem ZT{f:Addr}{fd:FuncData}(B:cq mg)(T:ly K CR)(TD:zH K CD)(gE:GS mg "END" "end")(gA:GI mg "NOT_ALLOWED" 3)(gB:GI mg "MOST_BOXES" 24)(gG:GI mg "MOST_EDGES" 40)(gW:GI mg "MOST_WISHES" 16)
  (MR:lj P w K mg base ax 1 "Reader" CR ["self","tokens"] (Nm CR)) (MD:lj P w K mg base ax 1 "Draft" CD ["self"] (NA CD))
  (DS:fX P w K mg base ax 1 CR "sees" ["self","kind"] (vY K CT CR)) (DR:fX P w K mg base (aU P w CF) 3 CR "refuse" ["self","code"] (zB K CF CT CR)) (DW:fX P w K mg base (aU P w CF) 5 CR "take_word" ["self","word","before","most"] (Nn K CF CT CR))
  (D1:aS P w K mg base (aU P w CF) 6 "box_read" ["reader"] (Nr K CF CT CR)) (D2:aS P w K mg base (aU P w CF) 5 "edge_read" ["reader"] (Nv K CF CT CR)) (D3:aS P w K mg base (aU P w CF) 5 "wish_read" ["reader"] (Ny K CF CT CR))
  (F:aQ K "draft_of" "draft_of" yS f fd):aK P w K mg base (aU P w CF) 7 f fd ["tokens"] (NB K CF CT CD):=by
 refine F.fV Lk (λvs H Q E h=>?_) (λaC A outer s H vs Q E hr h=>?_)
 ·obtain⟨l,ts,rfl,_⟩:=h
  rfl
 ·intro XX
  obtain⟨l,ts,rfl,NC,L,sR,kR,kQ⟩:=h
  have nd:=Lk.nd
  have bq:bc 1 _:=hr.mono (by decide)
  have dU:bc 2 _:=hr.mono (by decide)
  have e7:bc 3 _:=hr.mono (by decide)
  have nZ:bc 5 _:=hr.mono (by decide)
  have hx:Passes (aU P w CF) (fT (aU P w CF) P w K mg base ["tokens","reader","draft"] "draft_of" (aH yS) f aC A outer s H E) E:=cU λ_ _ _ z=>z
  refine⟨_,aq (aN (i:=1) nd rfl (ay rfl) (qS MR dU aI (ae (pv 0) af)))
   (aq (aN (i:=2) nd rfl (ay rfl) (Nz MD dU aI))
   (aq (iU mL (oK (dJ (dw T.cl DS bq aI (pv 1) (ae (ke gE) af))))
    (au (bF (dJ (dw T.cl DS bq aI (pv 1) (ae fL af)))
     (aq (cM (dw T.cl DW nZ hx (pv 1) (ae fL (ae (bK cb (by rfl) B.len bZ (ae (aP (pv 2) rfl) af)) (ae (bG gB) af)))))
      (au (cM (fk fA lJ lI j5 (aP (pv 2) rfl) (ae (aL D1 hr hx (ae (pv 1) af)) af)))))
     (au (bF (dJ (dw T.cl DS bq aI (pv 1) (ae fL af)))
      (aq (cM (dw T.cl DW nZ hx (pv 1) (ae fL (ae (bK cb (by rfl) B.len bZ (ae (aP (pv 2) rfl) af)) (ae (bG gG) af)))))
       (au (cM (fk fA lJ lI j5 (aP (pv 2) rfl) (ae (aL D2 nZ hx (ae (pv 1) af)) af)))))
      (au (bF (dJ (dw T.cl DS bq aI (pv 1) (ae fL af)))
       (aq (cM (dw T.cl DW nZ hx (pv 1) (ae fL (ae (bK cb (by rfl) B.len bZ (ae (aP (pv 2) rfl) af)) (ae (bG gW) af)))))
        (au (cM (fk fA lJ lI j5 (aP (pv 2) rfl) (ae (aL D3 nZ hx (ae (pv 1) af)) af)))))
       (au (cM (dw T.cl DR e7 hx (pv 1) (ae (bG gA) af)))))))))))
   (au (aM (pv 2))))),?_⟩
  refine⟨_,rfl,λrd dx jv bU a8=>⟨rd,dx,l,rfl,aj,rfl,?_⟩⟩
  rw[fJ]
  have s1:aa H (upd (upd H dx (.own rd)) rd (.ins CR dx (rf l 0))):=λb o e=>by rw[ao (aF e jv),ao (aF e bU)];exact e
  generalize nP:upd (upd H dx (.own rd)) rd (.ins CR dx (rf l 0))=H1 at s1
  have lz:H1 rd=some (.ins CR dx (rf l 0)):=by rw[<-nP,aj]
  refine λdr cv zJ ND ah9=>⟨dr,cv,rfl,aj,λlb le lw H2 pA hle jF jE jG new keep iI fU nG tO=>⟨rfl,?_⟩⟩
  have s2:aa H1 H2:=λb o e=>keep b o (by rw[ao (aF e zJ),ao (aF e ND)];exact e) (aF e zJ)
  have Fl:∀{x:Addr},upd (upd H1 cv (.own dr)) dr (.ins CD cv []) x=none->H1 x=none:=λ{x} h=>by
   cases q:H1 x with
   |none=>rfl
   |some o=>rw[ao (aF q zJ),ao (aF q ND),q]at h;cases h
  have NF:H1 lb=none:=Fl pA
  have qV:H1 le=none:=Fl hle
  have qW:H1 lw=none:=Fl jF
  have qX:∃xs,H l=some (.lst xs):=by obtain⟨as,h1,_⟩:=NC;exact⟨_,h1⟩
  obtain⟨xsl,qX⟩:=qX
  have ZU:l≠lb:=aF (s1 _ _ qX) NF
  have ZV:l≠le:=aF (s1 _ _ qX) qV
  have ZW:l≠lw:=aF (s1 _ _ qX) qW
  have sH:aa H H2:=s1.trans s2
  refine⟨λm σ H'=>∃(i n:Nat)(d:d6),m=ts.length-i/\ts.length-i<n/\σ=[some (.ref l),some (.ref rd),some (.ref dr)]/\aa H H'/\dY K CT CR H' rd dx l ts i/\fY K CT CD H' dr cv lb le lw d/\Fj d/\takeAll (ts.length+1) mR ts=takeAll n d (ts.drop i),
   ⟨_,0,ts.length+1,mR,rfl,by omega,rfl,sH,⟨s2 _ _ lz,NC.same sH,sR⟩,⟨iI,⟨[],fU,.nil⟩,⟨[],nG,.nil⟩,⟨[],tO,.nil⟩,jE,jG,new⟩,⟨cw _,cw _,cw _⟩,by rw[Hc]⟩,?_⟩
  rintro m σ H' ⟨i,n,d,rfl,hn,rfl,sm,R,D,Z,et⟩
  obtain⟨n,rfl⟩:∃n',n=n'+1:=⟨n-1,by omega⟩
  obtain⟨_,_,x,_,_,h_,_⟩:=R.get
  have ilt:=R.lt
  refine⟨_,rfl,rd,dx,_,rfl,R.ob,rfl,rd,dx,l,ts,i,x,"end",rfl,R,h_,_,rfl,?_⟩
  by_cases mh:bN x.tok="end"
  ·rw[decide_eq_true mh]
   rw[ZR h_ mh]at et
   exact aZ ⟨_,rfl,kQ d et H' dr cv lb le lw sm D Z⟩
  rw[decide_eq_false mh]
  refine aY ⟨λσ' H2=>∃(j n:Nat)(d:d6),i<j/\j<=ts.length/\ts.length-j<n/\σ'=[some (.ref l),some (.ref rd),some (.ref dr)]/\aa H H2/\dY K CT CR H2 rd dx l ts j/\fY K CT CD H2 dr cv lb le lw d/\Fj d/\takeAll (ts.length+1) mR ts=takeAll n d (ts.drop j),?_,?_⟩
  ·rintro σ' H2 ⟨j,n,d,h1,h1',h2,rfl,h3,h4,h5,h6,h7⟩
   exact⟨_,by omega,j,n,d,rfl,h2,rfl,h3,h4,h5,h6,h7⟩
  refine⟨_,rfl,rd,dx,_,rfl,R.ob,rfl,rd,dx,l,ts,i,x,"box",rfl,R,h_,_,rfl,?_⟩
  by_cases tP:bN x.tok="box"
  ·rw[decide_eq_true tP]
   rw[ZO h_ tP]at et
   obtain⟨bs,b2,b3⟩:=D.bx
   have eD:bs.length=d.boxes.length:=a7 b3
   have jA:((bs.map V.ref).length:Int)=((d.boxes.length:Nat):Int):=by rw[aA,eD]
   refine aY ⟨_,rfl,rd,dx,_,rfl,R.ob,rfl,_,rfl,dr,CD,cv,_,_,rfl,D.ob,TD.cl,TD.nb,rfl,lb,_,rfl,.inl (ah.of b2),rd,dx,l,ts,i,d.boxes.length,24,x,"box",by rw[jA];rfl,R,h_,tP,λpB=>?_,λpB=>?_⟩
   ·rw[if_pos (by rw[pB];decide)]at et
    exact(kR _ et).same sm
   rw[if_neg (by have:=Z.nb;have e:Qr=24:=rfl;omega)]at et
   obtain⟨tH,eC,ja,R1⟩:=R.step L (aE.refl H' _) R.ob R.lt h_ tP (by decide+kernel)
   have D1:=D.bar R.ob eC
   generalize sI:upd H' rd (.ins CR dx (rf l (i+1)))=H3 at eC ja R1 D1
   have mC:aa H H3:=λb o e=>eC b o (sm _ _ e) (by simpa using aF e jv)
   obtain⟨NG,c2,c3⟩:=D1.bx
   refine⟨_,rfl,dr,CD,cv,_,_,rfl,D1.ob,TD.cl,TD.nb,rfl,.inl ⟨rfl,_,ah.of c2⟩,_,rfl,rd,dx,l,ts,i+1,rfl,R1,L,λfl gJ=>?_,λbx rest az j H4 r qU ji hj e9 ko lh lg=>?_⟩
   ·rw[gJ]at et
    refine λH' mD b1 b2=>kR fl et H' mD (λb o e=>b1 b o (mC _ _ e) (by simpa using aF e jv)) b2
   rw[az,qU]at et
   have et:takeAll (ts.length+1) mR ts=takeAll n {d with boxes:=d.boxes++[bx]} (ts.drop j):=et
   have D4:=D1.bar ja e9
   have R4:=R1.bar e9 ko hj
   have kf:aa H H4:=λb o e=>e9 b o (mC _ _ e) (by simpa using aF e jv)
   obtain⟨tQ,f2,f3⟩:=D4.bx
   have l4:tQ.length=d.boxes.length:=a7 f3
   refine⟨lb,_,_,rfl,rfl,f2,by rw[aA];exact eA (by have:=Z.nb;omega),?_⟩
   refine⟨j,n,_,by omega,by omega,by omega,rfl,λb o e=>?_,R4.br f2 ZU,D4.ZM f2 lg,?_,et⟩
   ·rw[ao (λz=>by rw[z]at e;have:=s1 _ _ e;rw[NF]at this;cases this)]
    exact kf _ _ e
   ·have:=Z.nb
    have:=Z.ne
    have:=Z.nw
    refine⟨?_,?_,?_⟩<;>(try (show(_++[_]).length<=_;rw[bf,fZ]))<;>first|omega|assumption
  rw[decide_eq_false tP]
  refine aZ ⟨_,rfl,rd,dx,_,rfl,R.ob,rfl,rd,dx,l,ts,i,x,"edge",rfl,R,h_,_,rfl,?_⟩
  by_cases tR:bN x.tok="edge"
  ·rw[decide_eq_true tR]
   rw[ZP h_ tR]at et
   obtain⟨bs,b2,b3⟩:=D.ed
   have eD:bs.length=d.edges.length:=a7 b3
   have jA:((bs.map V.ref).length:Int)=((d.edges.length:Nat):Int):=by rw[aA,eD]
   refine aY ⟨_,rfl,rd,dx,_,rfl,R.ob,rfl,_,rfl,dr,CD,cv,_,_,rfl,D.ob,TD.cl,TD.ne,rfl,le,_,rfl,.inl (ah.of b2),rd,dx,l,ts,i,d.edges.length,40,x,"edge",by rw[jA];rfl,R,h_,tR,λpB=>?_,λpB=>?_⟩
   ·rw[if_pos (by rw[pB];decide)]at et
    exact(kR _ et).same sm
   rw[if_neg (by have:=Z.ne;have e:Qq=40:=rfl;omega)]at et
   obtain⟨tH,eC,ja,R1⟩:=R.step L (aE.refl H' _) R.ob R.lt h_ tR (by decide+kernel)
   have D1:=D.bar R.ob eC
   generalize sI:upd H' rd (.ins CR dx (rf l (i+1)))=H3 at eC ja R1 D1
   have mC:aa H H3:=λb o e=>eC b o (sm _ _ e) (by simpa using aF e jv)
   obtain⟨NG,c2,c3⟩:=D1.ed
   refine⟨_,rfl,dr,CD,cv,_,_,rfl,D1.ob,TD.cl,TD.ne,rfl,.inl ⟨rfl,_,ah.of c2⟩,_,rfl,rd,dx,l,ts,i+1,rfl,R1,L,λfl gJ=>?_,λbx rest az j H4 r qU ji hj e9 ko lh lg=>?_⟩
   ·rw[gJ]at et
    refine λH' mD b1 b2=>kR fl et H' mD (λb o e=>b1 b o (mC _ _ e) (by simpa using aF e jv)) b2
   rw[az,qU]at et
   have et:takeAll (ts.length+1) mR ts=takeAll n {d with edges:=d.edges++[bx]} (ts.drop j):=et
   have D4:=D1.bar ja e9
   have R4:=R1.bar e9 ko hj
   have kf:aa H H4:=λb o e=>e9 b o (mC _ _ e) (by simpa using aF e jv)
   obtain⟨tQ,f2,f3⟩:=D4.ed
   have l4:tQ.length=d.edges.length:=a7 f3
   refine⟨le,_,_,rfl,rfl,f2,by rw[aA];exact eA (by have:=Z.ne;omega),?_⟩
   refine⟨j,n,_,by omega,by omega,by omega,rfl,λb o e=>?_,R4.br f2 ZV,D4.addEdge f2 lg,?_,et⟩
   ·rw[ao (λz=>by rw[z]at e;have:=s1 _ _ e;rw[qV]at this;cases this)]
    exact kf _ _ e
   ·have:=Z.nb
    have:=Z.ne
    have:=Z.nw
    refine⟨?_,?_,?_⟩<;>(try (show(_++[_]).length<=_;rw[bf,fZ]))<;>first|omega|assumption
  rw[decide_eq_false tR]
  refine aZ ⟨_,rfl,rd,dx,_,rfl,R.ob,rfl,rd,dx,l,ts,i,x,"above",rfl,R,h_,_,rfl,?_⟩
  by_cases tS:bN x.tok="above"
  ·rw[decide_eq_true tS]
   rw[ZQ h_ tS]at et
   obtain⟨bs,b2,b3⟩:=D.wi
   have eD:bs.length=d.wishes.length:=a7 b3
   have jA:((bs.map V.ref).length:Int)=((d.wishes.length:Nat):Int):=by rw[aA,eD]
   refine aY ⟨_,rfl,rd,dx,_,rfl,R.ob,rfl,_,rfl,dr,CD,cv,_,_,rfl,D.ob,TD.cl,TD.nw,rfl,lw,_,rfl,.inl (ah.of b2),rd,dx,l,ts,i,d.wishes.length,16,x,"above",by rw[jA];rfl,R,h_,tS,λpB=>?_,λpB=>?_⟩
   ·rw[if_pos (by rw[pB];decide)]at et
    exact(kR _ et).same sm
   rw[if_neg (by have:=Z.nw;have e:Qm=16:=rfl;omega)]at et
   obtain⟨tH,eC,ja,R1⟩:=R.step L (aE.refl H' _) R.ob R.lt h_ tS (by decide+kernel)
   have D1:=D.bar R.ob eC
   generalize sI:upd H' rd (.ins CR dx (rf l (i+1)))=H3 at eC ja R1 D1
   have mC:aa H H3:=λb o e=>eC b o (sm _ _ e) (by simpa using aF e jv)
   obtain⟨NG,c2,c3⟩:=D1.wi
   refine⟨_,rfl,dr,CD,cv,_,_,rfl,D1.ob,TD.cl,TD.nw,rfl,.inl ⟨rfl,_,ah.of c2⟩,_,rfl,rd,dx,l,ts,i+1,rfl,R1,L,λfl gJ=>?_,λbx rest az j H4 r qU ji hj e9 ko lh lg=>?_⟩
   ·rw[gJ]at et
    refine λH' mD b1 b2=>kR fl et H' mD (λb o e=>b1 b o (mC _ _ e) (by simpa using aF e jv)) b2
   rw[az,qU]at et
   have et:takeAll (ts.length+1) mR ts=takeAll n {d with wishes:=d.wishes++[bx]} (ts.drop j):=et
   have D4:=D1.bar ja e9
   have R4:=R1.bar e9 ko hj
   have kf:aa H H4:=λb o e=>e9 b o (mC _ _ e) (by simpa using aF e jv)
   obtain⟨tQ,f2,f3⟩:=D4.wi
   have l4:tQ.length=d.wishes.length:=a7 f3
   refine⟨lw,_,_,rfl,rfl,f2,by rw[aA];exact eA (by have:=Z.nw;omega),?_⟩
   refine⟨j,n,_,by omega,by omega,by omega,rfl,λb o e=>?_,R4.br f2 ZW,D4.ZN f2 lg,?_,et⟩
   ·rw[ao (λz=>by rw[z]at e;have:=s1 _ _ e;rw[qW]at this;cases this)]
    exact kf _ _ e
   ·have:=Z.nb
    have:=Z.ne
    have:=Z.nw
    refine⟨?_,?_,?_⟩<;>(try (show(_++[_]).length<=_;rw[bf,fZ]))<;>first|omega|assumption
  rw[decide_eq_false tS]
  rw[ZS h_ tP tR tS mh]at et
  exact aZ ⟨_,rfl,rd,dx,_,rfl,R.ob,rfl,rd,dx,l,ts,i,3,x,rfl,R,h_,(kR _ et).same sm⟩
end
end Bp
set_option Elab.async false
set_option linter.all false
set_option maxRecDepth 100000
set_option maxHeartbeats 2000000
namespace Bp
open PySem PySem.Spec PyProof.Rows L2
open L2.Bx (dB XO XD fq gu iD iA iC aU cU)
open VadiBase (Bytes PName)
open Vadiaa (Arc)
theorem Fm(K:ai){X:Cx}{e:Expr}{f:Str}{pos:Pos}{ta:TE}(he:PE X e ta)(hb:attributeBase e f X.env (eval e X.env)=eval e X.env:=by rfl)(hK:X.K=K:=by rfl):PE X (.Attribute e f pos) (kW K ta f):=hK▸aP he hb
def ky(b:Bytes):List Key:=(iB b).map cK
theorem ZX(b:Bytes):(ky b).map kV=vB b:=by
 unfold ky
 rw[lU,qR]
 rfl
theorem NH{a b:Bytes}:ky a=ky b↔a=b:=by
 unfold ky
 rw[Af (λx y e=>by injection e),zv]
def Tab(ag:List (List Key×V))(tb:Bytes->Option Nat):Prop:=∀b,cz ag (ky b)=(tb b).map λ(i:Nat)=>V.int (i:Int)
theorem Tab.put{ag:List (List Key×V)}{tb:Bytes->Option Nat}(h:Tab ag tb)(n:Bytes)(i:Nat):Tab (putK ag (ky n) (.int (i:Int))) (λb=>if b=n then some i else tb b):=λb=>by
 rw[BW]
 by_cases e:b=n
 ·rw[if_pos (NH.mpr e)]
  show _=((if b=n then some i else tb b).map λ(i:Nat)=>V.int (i:Int))
  rw[if_pos e]
  rfl
 ·rw[if_neg (λz=>e (NH.mp z))]
  show _=((if b=n then some i else tb b).map λ(i:Nat)=>V.int (i:Int))
  rw[if_neg e]
  exact h b
theorem Tab.some{ag:List (List Key×V)}{tb:Bytes->Option Nat}(h:Tab ag tb)(b:Bytes):(cz ag (ky b)).isSome=(tb b).isSome:=by rw[h b,wO]
theorem iH.key{K:ai}{CT:Addr}{H:Hp}{a:Addr}{x:PName}(h:iH K CT H a x):∃dx ta,H a=some (.ins CT dx (tf (bN (.name x.name)) ta x.place))/\H ta=some (.tup ((ky x.name).map kV)):=by
 obtain⟨dx,ta,h1,h2,_⟩:=h
 exact⟨dx,ta,h1,by rw[ZX];exact h2⟩
def jH(K:ai)(CT:Addr)(H:Hp)(l:Addr)(ps:List (PName×PName)):Prop:=∃as:List Addr,H l=some (.lst (as.map V.ref))/\Paired (i_ K CT H) as ps
theorem jH.same{K:ai}{CT:Addr}{H H':Hp}{l:Addr}{ps:List (PName×PName)}(s:aa H H'):jH K CT H l ps->jH K CT H' l ps:=λ⟨as,h1,h2⟩=>⟨as,s _ _ h1,L2.Paired.aX h2 λ_ _ q=>q.same s⟩
section
variable{P:Program}{w:World}{K:ai}{mg:Str->Option Value}{base:Heap}{CF CT:Addr}
def NI(K:ai)(CF CT:Addr):Sp:=λvs H Q E=>∃(a:Addr)(bs:List kH)(as:List Addr),vs=[.ref a]/\H a=some (.lst (as.map V.ref))/\Paired (i9 K CT H) as bs/\bs.length<=100/\
 (∀q,Ap [] (bs.map λx=>x.name)=some q->Raises CF E H 5 q)/\
 (Ap [] (bs.map λx=>x.name)=none->∀(H':Hp)(r:Addr)(ag:List (List Key×V)),aa H H'->H' r=some (.dT ag)->Tab ag (Br.cx bs)->Q (.ref r) H')
theorem ZY{f:Addr}{fd:FuncData}(B:cq mg)(TT:iG K CT)(gN:GI mg "NAME_TWICE" 5)(DF:Flt P w K mg base CF)(F:aQ K "numbers_of_names" "numbers_of_names" C_ f fd):
  aK P w K mg base (aU P w CF) 3 f fd ["boxes"] (NI K CF CT):=by
 refine F.fV Lp (λvs H Q E h=>?_) (λaC A outer s H vs Q E hr h=>?_)
 ·obtain⟨a,bs,as,rfl,_⟩:=h
  rfl
 ·intro XX
  obtain⟨a,bs,as,rfl,hA,hP,jC,kR,kQ⟩:=h
  have nd:=Lp.nd
  have hu:=sP hr
  have mr:as.length=bs.length:=a7 hP
  refine⟨_,aq (aN (i:=1) nd rfl (ay rfl) U5)
   (aq (eJ mL rfl (sO (by rfl) B.enum (ae (pv 0) af)) (iZ K 2 rfl (dA (bB (i:=2) nd rfl (ay rfl)) (dA (bB (i:=3) nd rfl (ay rfl)) iT)))
    (aq (bF (oJ (Kc hu (aP (aG (bQ K) (pv 3) aJ (λ_ _=>rfl)) rfl) (pv 1))) (au (lu DF hr (cU (E':=E) λ_ _ _ z=>z) (ae (bG gN) (ae (aP (aG (bQ K) (pv 3) aJ (λ_ _=>rfl)) rfl) af)))) bM)
    (au (B1 hu (pv 1) (aP (aG (bQ K) (pv 3) aJ (λ_ _=>rfl)) rfl) (pv 2) rfl))))
   (au (aM (pv 1)))),?_⟩
  refine λn hn=>?_
  have s1:aa H (upd H n (.dT [])):=aa.new hn
  refine⟨_,rfl,a,_,rfl,ah.of (s1 _ _ hA),?_⟩
  refine yY (n:=bs.length) (λi σ H'=>∃(v2 v3:Option V)(ag:List (List Key×V)),σ=[some (.ref a),some (.ref n),v2,v3]/\aa H H'/\H' n=some (.dT ag)/\Tab ag (Br.cx (bs.take i))/\ag.length<=i/\
    Ap [] (bs.map λx=>x.name)=Ap ((bs.take i).map λy=>y.name.name) ((bs.drop i).map λy=>y.name))
   ⟨none,none,[],rfl,s1,aj,λb=>rfl,aT _,rfl⟩ ?_ ?_ ?_ ?_
  ·rintro i σ H' hi ⟨_,_,_,_,sm,_⟩
   exact sU (ah.of (sm _ _ hA)) (by rw[aA,mr];exact hi)
  ·rintro σ H' ⟨_,_,_,_,sm,_⟩
   have:=sV (K:=K) (ah.of (sm _ _ hA))
   rw[aA,mr]at this
   exact this
  ·rintro i σ H' x H2 hi ⟨v2,v3,ag,rfl,sm,hN,tab,lk,et⟩ ⟨T,y,rfl,hT,rfl,hy⟩
   obtain⟨p,hp,rfl⟩:=dO (hy _ (ah.of (sm _ _ hA)))
   obtain⟨bx,jI,hB⟩:=Paired.at' hP hp
   have sT:aa H' (upd H' T (.tup [.int (i:Nat),.ref p])):=aa.new hT
   generalize my:upd H' T (.tup [.int (i:Nat),.ref p])=H2 at sT
   have wk:H2 T=some (.tup [.int (i:Nat),.ref p]):=by rw[<-my,aj]
   obtain⟨an,vy,zb⟩:=hB.same (sm.trans sT)
   obtain⟨ff,ta,t1,t2⟩:=zb.key
   have nV:=sT _ _ hN
   rw[Br.Ry jI]at et
   refine⟨T,_,rfl,aB.of wk,rfl,_,_,rfl,_,_,rfl,rfl,?_⟩
   refine⟨_,rfl,p,_,0,_,rfl,rfl,vy,dC,an,CT,ff,_,_,rfl,t1,TT.cl,TT.ns,jB _ _ _,_,rfl,n,_,rfl,fo.t nV t2,_,rfl,?_⟩
   rw[tab.some]
   cases hs:(Br.cx (bs.take i) bx.name.name).isSome with
   |true=>
    rw[hs,if_pos rfl]at et
    refine aY ⟨_,rfl,p,_,0,_,rfl,rfl,vy,dC,an,CT,ff,_,_,rfl,t1,TT.cl,TT.np,tE _ _ _,_,_,rfl,λdx bU=>?_⟩
    exact kR _ et _ dx ((sm.trans sT).trans (aa.new bU)) aj
   |false=>
    rw[hs,if_neg cG]at et
    have a6:Br.cx (bs.take i) bx.name.name=none:=by
     cases q:Br.cx (bs.take i) bx.name.name with
     |none=>rfl
     |some z=>rw[q]at hs;cases hs
    refine aZ ⟨_,rfl,_,rfl,_,rfl,p,_,0,_,rfl,rfl,vy,dC,an,CT,ff,_,_,rfl,t1,TT.cl,TT.ns,jB _ _ _,n,_,rfl,nz.t nV t2 (eA (by omega)),?_⟩
    refine⟨_,_,_,rfl,λb o e=>?_,aj,?_,?_,et⟩
    ·rw[ao (aF e hn)]
     exact sT _ _ (sm _ _ e)
    ·have ZZ:=tab.put bx.name.name i
     intro b
     rw[ZZ b,take_one jI,Br.Rv]
     show((if b=bx.name.name then some i else Br.cx (bs.take i) b).map λ(i:Nat)=>V.int (i:Int))=_
     have el:(bs.take i).length=i:=by rw[fC];omega
     by_cases hb:b=bx.name.name
     ·rw[if_pos hb,hb,a6,if_pos rfl,el]
      rfl
     ·rw[if_neg hb,if_neg (λz=>hb z.symm)]
      cases Br.cx (bs.take i) b<;>rfl
    ·show(putK ag (ky bx.name.name) _).length<=i+1
     unfold putK
     split
     ·rw[aA];omega
     ·rw[bf,fZ];omega
  ·rintro σ H' ⟨v2,v3,ag,rfl,sm,hN,tab,lk,et⟩
   rw[Br.Rz]at et
   rw[cO]at tab
   exact⟨_,rfl,kQ et H' n ag sm hN tab⟩
def NJ(K:ai)(CF CT:Addr):Sp:=λvs H Q E=>∃(a n:Addr)(ps:List (PName×PName))(ag:List (List Key×V))(tb:Bytes->Option Nat),vs=[.ref a,.ref n]/\jH K CT H a ps/\H n=some (.dT ag)/\Tab ag tb/\
 (∀x,(Br.d8 ps).find? (λx=>(tb x.name).isNone)=some x->Raises CF E H 6 x.place)/\((Br.d8 ps).find? (λx=>(tb x.name).isNone)=none->Q .aO H)
theorem Z0{ps:List (PName×PName)}{i:Nat}{p:PName×PName}(h:ps[i]? =some p):Br.d8 (ps.take (i+1))=Br.d8 (ps.take i)++[p.1,p.2]:=by
 rw[take_one h]
 unfold Br.d8
 rw[pM]
 simp
theorem Z1{ps:List (PName×PName)}{i:Nat}{p:PName×PName}(h:ps[i]? =some p):Br.d8 ps=Br.d8 (ps.take i)++p.1::p.2::Br.d8 (ps.drop (i+1)):=by
 have e:ps=ps.take i++p::ps.drop (i+1):=by rw[<-drop_one h,PF]
 conv=>lhs;rw[e]
 unfold Br.d8
 rw[pM,mO]
 simp
theorem Z2{f:Addr}{fd:FuncData}(TT:iG K CT)(gN:GI mg "NO_SUCH_NAME" 6)(DF:Flt P w K mg base CF)(F:aQ K "refuse_unknown_names" "refuse_unknown_names" Dc f fd):
  aK P w K mg base (aU P w CF) 3 f fd ["pairs","numbers"] (NJ K CF CT):=by
 refine F.fV Lq (λvs H Q E h=>?_) (λaC A outer s H vs Q E hr h=>?_)
 ·obtain⟨a,n,ps,ag,tb,rfl,_⟩:=h
  rfl
 ·intro XX
  obtain⟨a,n,ps,ag,tb,rfl,⟨as,hA,hP⟩,hN,tab,kR,kQ⟩:=h
  have nd:=Lq.nd
  have hu:=sP hr
  refine⟨_,au (eJ mL rfl (dM (pv 0)) (bB (i:=2) nd rfl (ay rfl))
    (au (eJ mL rfl (xR (pv 2)) (bB (i:=3) nd rfl (ay rfl))
     (au (bF (oJ (yu hu (aP (pv 3) rfl) (pv 1))) (au (lu DF hr (cU (E':=E) λ_ _ _ z=>z) (ae (bG gN) (ae (aP (pv 3) rfl) af)))) bM))))),?_⟩
  refine⟨_,rfl,a,rfl,⟨_,ah.of hA⟩,?_⟩
  refine iq (K:=K) (a:=a) (xs:=as.map V.ref) (λi σ H'=>∃(v2 v3:Option V),σ=[some (.ref a),some (.ref n),v2,v3]/\H'=H/\∀x∈Br.d8 (ps.take i),(tb x.name).isNone=false) ⟨none,none,rfl,rfl,λx hx=>by simp[Br.d8]at hx⟩ ?_ ?_ ?_
  ·rintro i σ H' _ ⟨_,_,_,rfl,_⟩
   exact ah.of hA
  ·rintro i y σ H' hi ⟨v2,v3,rfl,rfl,a6⟩
   obtain⟨p,hp,rfl⟩:=dO hi
   obtain⟨pr,gz,a1,a2,q1,q2,q3⟩:=Paired.at' hP hp
   refine⟨_,rfl,p,rfl,⟨_,q1⟩,?_⟩
   have one:∀(an:Addr)(x:PName)(pre post:List PName)(v3:Option V)(D:Ends),iH K CT H' an x->Br.d8 ps=pre++x::post->(∀z∈pre,(tb z.name).isNone=false)->((tb x.name).isNone=false->D.nx [some (.ref a),some (.ref n),some (.ref p),some (.ref an)] H')->
     xP (tB (BZ (kW K (bu 3) "spelling") (bu 1))) (gu CF "code" "place" E (bT (tC (.int 6)) (bT (kW K (bu 3) "place") dR))) xN D [some (.ref a),some (.ref n),some (.ref p),some (.ref an)] H':=by
    intro an x pre post v3 D hx hs yG Z3
    obtain⟨ff,ta,t1,t2⟩:=hx.key
    refine⟨_,rfl,an,CT,ff,_,_,rfl,t1,TT.cl,TT.ns,jB _ _ _,_,rfl,n,_,rfl,fo.t hN t2,_,rfl,?_⟩
    rw[tab.some]
    cases oZ:(tb x.name).isSome with
    |true=>exact aZ (Z3 (by cases q:tb x.name with|none=>rw[q]at oZ;cases oZ|some z=>rfl))
    |false=>
     have s_:(tb x.name).isNone=true:=by cases q:tb x.name with|none=>rfl|some z=>rw[q]at oZ;cases oZ
     refine aY ⟨_,rfl,an,CT,ff,_,_,rfl,t1,TT.cl,TT.np,tE _ _ _,_,_,rfl,λdx bU=>?_⟩
     refine kR x ?_ _ dx (aa.new bU) aj
     rw[hs,GL]
     have e1:pre.find? (λx=>(tb x.name).isNone)=none:=lO.mpr λz hz=>by rw[yG z hz];exact cG
     rw[e1,jP,s_]
     rfl
   have eQ:=Z1 gz
   refine xV (K:=K) (a:=p) (xs:=[.ref a1,.ref a2]) (λj σ H2=>∃(v3:Option V),σ=[some (.ref a),some (.ref n),some (.ref p),v3]/\H2=H'/\∀x∈[pr.1,pr.2].take j,(tb x.name).isNone=false) ⟨v3,rfl,rfl,by simp⟩ (λ_ _ _ _ ⟨_,_,e,_⟩=>e▸q1) ?_ ?_
   ·rintro j y σ H2 hj ⟨vA,rfl,rfl,Fn⟩
    match j,hj with
    |0,hj=>
     have e:V.ref a1=y:=cZ hj
     subst e
     exact one a1 pr.1 _ _ none _ q2 eQ a6 λhk=>⟨_,rfl,rfl,λx hx=>by
      have:x=pr.1:=by simpa using hx
      rw[this];exact hk⟩
    |1,hj=>
     have e:V.ref a2=y:=cZ hj
     subst e
     have h1:=Fn pr.1 (by simp)
     refine one a2 pr.2 (Br.d8 (ps.take i)++[pr.1]) (Br.d8 (ps.drop (i+1))) none _ q3 (by rw[eQ];simp) (λz hz=>?_) λhk=>⟨_,rfl,rfl,λx hx=>?_⟩
     ·rcases cP.mp hz with hz|hz
      ·exact a6 z hz
      ·rw[cY.mp hz];exact h1
     ·have:x=pr.1\/x=pr.2:=by simpa using hx
      rcases this with e|e
      ·rw[e];exact h1
      ·rw[e];exact hk
    |j+2,hj=>simp at hj
   ·rintro σ H2 ⟨vA,rfl,rfl,Fn⟩
    refine⟨_,_,rfl,rfl,λx hx=>?_⟩
    rw[Z0 gz]at hx
    rcases cP.mp hx with hx|hx
    ·exact a6 x hx
    ·exact Fn x hx
  ·rintro σ H' ⟨v2,v3,rfl,rfl,a6⟩
   rw[aA,a7 hP,cO]at a6
   exact kQ (lO.mpr λx hx=>by rw[a6 x hx];exact cG)
def NK(K:ai)(CF CT:Addr):Sp:=λvs H Q E=>∃(a:Addr)(ps:List (PName×PName)),vs=[.ref a]/\jH K CT H a ps/\
 (∀x,ps.find? (λx=>x.1.name==x.2.name)=some x->Raises CF E H 8 x.2.place)/\(ps.find? (λx=>x.1.name==x.2.name)=none->Q .aO H)
theorem Z4{f:Addr}{fd:FuncData}(TT:iG K CT)(gN:GI mg "TO_ITSELF" 8)(DF:Flt P w K mg base CF)(F:aQ K "refuse_loops" "refuse_loops" Dd f fd):
  aK P w K mg base (aU P w CF) 3 f fd ["pairs"] (NK K CF CT):=by
 refine F.fV Lr (λvs H Q E h=>?_) (λaC A outer s H vs Q E hr h=>?_)
 ·obtain⟨a,ps,rfl,_⟩:=h
  rfl
 ·intro XX
  obtain⟨a,ps,rfl,⟨as,hA,hP⟩,kR,kQ⟩:=h
  have nd:=Lr.nd
  refine⟨_,au (eJ mL rfl (dM (pv 0)) (iZ K 2 rfl (dA (bB (i:=1) nd rfl (ay rfl)) (dA (bB (i:=2) nd rfl (ay rfl)) iT)))
    (au (bF (bC (ET hr.units) (aP (pv 1) rfl) (aP (pv 2) rfl) (bw _)) (au (lu DF hr (cU (E':=E) λ_ _ _ z=>z) (ae (bG gN) (ae (aP (pv 2) rfl) af)))) bM))),?_⟩
  refine⟨_,rfl,a,rfl,⟨_,ah.of hA⟩,?_⟩
  refine iq (K:=K) (a:=a) (xs:=as.map V.ref) (λi σ H'=>∃(v1 v2:Option V),σ=[some (.ref a),v1,v2]/\H'=H/\∀x∈ps.take i,(x.1.name==x.2.name)=false) ⟨none,none,rfl,rfl,λx hx=>by simp at hx⟩ ?_ ?_ ?_
  ·rintro i σ H' _ ⟨_,_,_,rfl,_⟩
   exact ah.of hA
  ·rintro i y σ H' hi ⟨v1,v2,rfl,rfl,a6⟩
   obtain⟨p,hp,rfl⟩:=dO hi
   obtain⟨pr,gz,a1,a2,q1,⟨d1,t1,u1,w1,_⟩,⟨d2,t2,u2,w2,_⟩⟩:=Paired.at' hP hp
   refine⟨p,_,rfl,q1,rfl,_,_,rfl,_,_,rfl,rfl,?_⟩
   refine⟨_,rfl,a1,CT,d1,_,_,rfl,u1,TT.cl,TT.ns,jB _ _ _,_,rfl,a2,CT,d2,_,_,rfl,u2,TT.cl,TT.ns,jB _ _ _,t1,t2,iB pr.1.name,iB pr.2.name,rfl,rfl,?_,?_,_,rfl,?_⟩
   ·rw[<-qR];exact aB.of w1
   ·rw[<-qR];exact aB.of w2
   have dd:decide (iB pr.1.name=iB pr.2.name)=(pr.1.name==pr.2.name):=by
    rw[gb]
    simp only[decide_eq_true_eq,beq_iff_eq]
    exact zv
   rw[dd]
   cases he:(pr.1.name==pr.2.name)with
   |true=>
    refine aY ⟨_,rfl,a2,CT,d2,_,_,rfl,u2,TT.cl,TT.np,tE _ _ _,_,_,rfl,λdx bU=>?_⟩
    refine kR pr ?_ _ dx (aa.new bU) aj
    have e:ps=ps.take i++pr::ps.drop (i+1):=by rw[<-drop_one gz,PF]
    rw[e,GL]
    have e1:(ps.take i).find? (λx=>x.1.name==x.2.name)=none:=lO.mpr λz hz=>by rw[a6 z hz];exact cG
    rw[e1,jP,he]
    rfl
   |false=>
    refine aZ ⟨_,_,rfl,rfl,λx hx=>?_⟩
    rw[take_one gz]at hx
    rcases cP.mp hx with hx|hx
    ·exact a6 x hx
    ·rw[cY.mp hx];exact he
  ·rintro σ H' ⟨v1,v2,rfl,rfl,a6⟩
   rw[aA,a7 hP,cO]at a6
   exact kQ (lO.mpr λx hx=>by rw[a6 x hx];exact cG)
def NL(K:ai)(CT:Addr):Sp:=λvs H Q _=>∃(a n:Addr)(ps:List (PName×PName))(ag:List (List Key×V))(tb:Bytes->Option Nat),vs=[.ref a,.ref n]/\jH K CT H a ps/\ps.length<=100/\H n=some (.dT ag)/\Tab ag tb/\
 (∀p∈ps,(tb p.1.name).isNone=false/\(tb p.2.name).isNone=false)/\∀(H':Hp)(r:Addr),aa H H'->H r=none->bD K H' r (ps.map λp=>((tb p.1.name).getD 0,(tb p.2.name).getD 0))->Q (.ref r) H'
theorem Z5{f:Addr}{fd:FuncData}(TT:iG K CT)(F:aQ K "arcs_of" "arcs_of" Df f fd):aK P w K mg base ax 1 f fd ["pairs","numbers"] (NL K CT):=by
 refine F.bo Lu (λvs H Q E h=>?_) (λaC A outer s H vs Q E hr h=>?_)
 ·obtain⟨a,n,ps,ag,tb,rfl,_⟩:=h
  rfl
 ·intro XX
  obtain⟨a,n,ps,ag,tb,rfl,⟨as,hA,hP⟩,hlen,hN,tab,n_,kQ⟩:=h
  have nd:=Lu.nd
  have hu:=sP hr
  have mr:as.length=ps.length:=a7 hP
  refine⟨_,au (aM (nu rfl nd (dM (pv 0)) (iz (own:=[("first",2),("second",3)]) rfl)
    (λs H C cl fp=>iZ K 2 rfl (dA (bB (i:=2) nd rfl (ay rfl)) (dA (bB (i:=3) nd rfl (ay rfl)) iT)))
    (λs H C cl fp=>qw)
    (λs H C cl fp=>l7 (ae (B0 hu (pv 1) (Fm K (pv 2)) (λ_ _=>rfl)) (ae (B0 hu (pv 1) (Fm K (pv 3)) (λ_ _=>rfl)) af))))),?_⟩
  refine⟨_,rfl,a,rfl,⟨_,ah.of hA⟩,λD hD=>?_⟩
  refine j6 (K:=K) (xs:=as.map V.ref) (λi H'=>aa H H'/\∃qs:List Addr,H' D=some (.lst (qs.map V.ref))/\Paired (oX K H') qs ((ps.take i).map λp=>((tb p.1.name).getD 0,(tb p.2.name).getD 0))) ⟨aa.new hD,[],aj,.nil⟩ ?_ ?_ ?_
  ·rintro i H' _ ⟨sm,_⟩
   exact ah.of (sm _ _ hA)
  ·rintro i y H' hi ⟨sm,qs,hQ,jb⟩
   obtain⟨p,hp,rfl⟩:=dO hi
   obtain⟨pr,gz,hW⟩:=Paired.at' hP hp
   obtain⟨a1,a2,q1,q2,q3⟩:=hW.same sm
   obtain⟨d1,t1,u1,w1⟩:=q2.key
   obtain⟨d2,t2,u2,w2⟩:=q3.key
   obtain⟨k1,k2⟩:=n_ pr (bL gz)
   obtain⟨n1,e1⟩:∃n1,tb pr.1.name=some n1:=by cases q:tb pr.1.name with|none=>rw[q]at k1;cases k1|some z=>exact⟨z,rfl⟩
   obtain⟨n2,e2⟩:∃n2,tb pr.2.name=some n2:=by cases q:tb pr.2.name with|none=>rw[q]at k2;cases k2|some z=>exact⟨z,rfl⟩
   have NM:=sm _ _ hN
   have g1:=fo.t NM w1
   have g2:=fo.t NM w2
   rw[tab,e1]at g1
   rw[tab,e2]at g2
   have i5:qs.length<=100:=by rw[a7 jb,aA,fC];omega
   refine⟨p,_,rfl,q1,rfl,_,_,rfl,_,_,rfl,rfl,rfl,qQ ?_⟩
   refine⟨_,rfl,_,rfl,a1,CT,d1,_,_,rfl,u1,TT.cl,TT.ns,jB _ _ _,n,_,rfl,g1,_,rfl,_,rfl,a2,CT,d2,_,_,rfl,u2,TT.cl,TT.ns,jB _ _ _,n,_,rfl,g2,by show 2<=sizeLine;decide,λtp gI=>?_⟩
   have s2:aa H' (upd H' tp (.tup [.int (n1:Int),.int (n2:Int)])):=aa.new gI
   have oa:=s2 _ _ hQ
   refine⟨_,oa,by rw[aA];exact eA (by omega),λb o e=>?_,qs++[tp],?_,?_⟩
   ·rw[ao (aF e hD)]
    exact s2 _ _ (sm _ _ e)
   ·rw[aj,bI];rfl
   ·rw[take_one gz,bI]
    refine Paired.app (L2.Paired.aX jb λ_ _ q=>aB.br oa (aa.tup s2 q)) (.cons ?_ .nil)
    show aB K _ tp [.int (((tb pr.1.name).getD 0:Nat):Int),.int (((tb pr.2.name).getD 0:Nat):Int)]
    rw[e1,e2]
    exact aB.br oa (aB.of aj)
  ·rintro H' ⟨sm,qs,hQ,jb⟩
   rw[aA,mr,cO]at jb
   exact kQ H' D sm hD ⟨qs,hQ,jb⟩
end
end Bp
set_option Elab.async false
set_option linter.all false
set_option maxRecDepth 100000
set_option maxHeartbeats 2000000
namespace Bp
open PySem PySem.Spec PyProof.Rows L2
open L2.Bx (dB XO XD fq gu iD iA iC aU cU)
open VadiBase (Bytes PName)
open Vadiaa (Arc)
theorem Z6{xs:List V}{i:Nat}(h:i<=xs.length):jo xs none (some (i:Int))=xs.take i:=by
 unfold jo
 rw[HT.qp]
 have e0:HT.gj xs.length 0 none=0:=rfl
 have e1:min i xs.length=i:=by omega
 rw[e0,e1]
 simp
section
variable{P:Program}{w:World}{K:ai}{mg:Str->Option Value}{base:Heap}{CF CT CG:Addr}
def NN(K:ai)(CF CT:Addr):Sp:=λvs H Q E=>∃(a wv:Addr)(ps:List (PName×PName))(ws:List Arc)(n:Nat),vs=[.ref a,.ref wv]/\jH K CT H a ps/\bD K H wv ws/\ps.length=ws.length/\ws.length<=100/\Br.bt n ws/\n<=999/\
 (∀i x,Hg n (ws.take (i+1))=false->(∀j,j<i->Hg n (ws.take (j+1))=true)->ps[i]? =some x->Raises CF E H 9 x.1.place)/\(Br.bg ws->∀H',aa H H'->Q .aO H')
theorem Z7{f:Addr}{fd:FuncData}(B:cq mg)(TT:iG K CT)(gN:GI mg "WISHES_IN_CIRCLE" 9)(DF:Flt P w K mg base CF)(DL:aS P w K mg base ax 3 "leads" ["arcs","start","goal"] (vv K))(F:aQ K "refuse_circle_of_wishes" "refuse_circle_of_wishes" De f fd):
  aK P w K mg base (aU P w CF) 4 f fd ["pairs","wishes"] (NN K CF CT):=by
 refine F.fV Ls (λvs H Q E h=>?_) (λaC A outer s H vs Q E hr h=>?_)
 ·obtain⟨a,wv,ps,ws,n,rfl,_⟩:=h
  rfl
 ·intro XX
  obtain⟨a,wv,ps,ws,n,rfl,⟨as,hA,hP⟩,⟨qs,hW,Fo⟩,hlen,aic,e_,hn,kR,kQ⟩:=h
  have nd:=Ls.nd
  have i5:qs.length=ws.length:=a7 Fo
  refine⟨_,au (eJ mL rfl (sO (by rfl) B.enum (ae (pv 1) af)) (iZ K 2 rfl (dA (bB (i:=2) nd rfl (ay rfl)) (dA (bB (i:=3) nd rfl (ay rfl)) iT)))
    (au (bF (dJ (aL DL hr aI (ae (uQ uT (pv 1) Ti (ni (pv 2))) (ae (aG (bQ K) (pv 3) aJ (λ_ _=>rfl)) (ae (aG (bQ K) (pv 3) aJ (λ_ _=>rfl)) af)))))
     (au (lu DF (hr.mono (by decide)) (cU (E':=E) λ_ _ _ z=>z) (ae (bG gN) (ae (aP (aG (bQ K) (aG (bj K) (pv 0) (pv 2) (λ_ _=>rfl)) aJ (λ_ _=>rfl)) rfl) af)))) bM))),?_⟩
  refine⟨_,rfl,wv,_,rfl,ah.of hW,?_⟩
  refine yY (n:=ws.length) (λi σ H'=>∃(v2 v3:Option V),σ=[some (.ref a),some (.ref wv),v2,v3]/\aa H H'/\Br.bg (ws.take i)) ⟨none,none,rfl,aa.refl H,by rw[List.take_zero];exact Br.bg.nil⟩ ?_ ?_ ?_ ?_
  ·rintro i σ H' hi ⟨_,_,_,sm,_⟩
   exact sU (ah.of (sm _ _ hW)) (by rw[aA,i5];exact hi)
  ·rintro σ H' ⟨_,_,_,sm,_⟩
   have:=sV (K:=K) (ah.of (sm _ _ hW))
   rw[aA,i5]at this
   exact this
  ·rintro i σ H' x H2 hi ⟨v2,v3,rfl,sm,hd⟩ ⟨T,y,rfl,hT,rfl,hy⟩
   obtain⟨p,hp,rfl⟩:=dO (hy _ (ah.of (sm _ _ hW)))
   obtain⟨aD,dW,hJ⟩:=Paired.at' Fo hp
   have sT:aa H' (upd H' T (.tup [.int (i:Nat),.ref p])):=aa.new hT
   generalize my:upd H' T (.tup [.int (i:Nat),.ref p])=H2 at sT
   have wk:H2 T=some (.tup [.int (i:Nat),.ref p]):=by rw[<-my,aj]
   have s2:aa H H2:=sm.trans sT
   refine⟨T,_,rfl,aB.of wk,rfl,_,_,rfl,_,_,rfl,rfl,?_⟩
   refine⟨_,rfl,_,rfl,_,rfl,wv,_,rfl,ah.of (s2 _ _ hW),λl hl=>?_⟩
   rw[Z6 (by rw[aA];omega)]
   have s3:aa H (upd H2 l (.lst ((qs.map V.ref).take i))):=s2.trans (aa.new hl)
   have NO:=aa.tup s3 hJ
   have mW:=e_ aD (bL dW)
   refine⟨_,rfl,p,_,1,_,rfl,rfl,NO,gv,_,rfl,p,_,0,_,rfl,rfl,NO,dC,l,ws.take i,n,aD.2,aD.1,rfl,⟨qs.take i,ah.of (by rw[aj,Hd]),?_⟩,by rw[fC];omega,λb hb=>e_ b (rC hb),mW.2,hn,λH3 bb s4 hb=>⟨bb,rfl,?_⟩⟩
   ·have Z8:∀{α β:Type}{F:α->β->Prop}{l:List α}{m:List β}(k:Nat),Paired F l m->Paired F (l.take k) (m.take k):=by
     intro α β F l m k h
     induction h generalizing k with
     |nil=>simp;exact .nil
     |cons r t ih=>
      cases k with
      |zero=>exact .nil
      |succ k=>exact .cons r (ih k)
    exact Z8 i (L2.Paired.aX Fo λ_ _ q=>aa.tup s3 q)
   have s5:aa H H3:=s3.trans s4
   have NP:=Br.RA e_ dW hd
   have Z9:Br.bt n (ws.take (i+1)):=λb hb=>e_ b (rC hb)
   cases bb with
   |true=>
    have Z_:Hg n (ws.take (i+1))=false:=by
     cases q:Hg n (ws.take (i+1))with
     |false=>rfl
     |true=>exact absurd (hb.mp rfl) (NP.mp q)
    obtain⟨pr,gz⟩:∃pr,ps[i]? =some pr:=⟨_,bX (by omega)⟩
    obtain⟨pa,hpa,hWt⟩:=Paired.at hP gz
    obtain⟨a1,a2,q1,⟨d1,t1,u1,w1,_⟩,_⟩:=hWt.same s5
    refine aY ⟨_,rfl,_,rfl,a,_,(i:Int),_,rfl,rfl,ah.of (s5 _ _ hA),du (v:=.ref pa) (by rw[ck,hpa];rfl),pa,_,0,_,rfl,rfl,q1,dC,a1,CT,d1,_,_,rfl,u1,TT.cl,TT.np,tE _ _ _,_,_,rfl,λdx bU=>?_⟩
    refine kR i pr Z_ (λj hj=>?_) gz _ dx (s5.trans (aa.new bU)) aj
    refine(Br.rR λb hb=>e_ b (rC hb)).mpr (hd.mono λb hb=>?_)
    exact List.take_subset_take_left ws (by omega) hb
   |false=>
    refine aZ ⟨_,_,rfl,s5,?_⟩
    have:¬Br.Reach (ws.take i) aD.2 aD.1:=λz=>by have:=hb.mpr z;cases this
    exact(Br.rR Z9).mp (NP.mpr this)
  ·rintro σ H' ⟨v2,v3,rfl,sm,hd⟩
   rw[cO]at hd
   exact kQ hd H' sm
structure mE where
 lb:Addr
 le:Addr
 ll:Addr
 lw:Addr
 c:Addr
 nk:Addr
 tu:Addr
 dn:Addr
 fr:Addr
 rk:Addr
def mE.all(A:mE):List Addr:=[A.lb,A.le,A.ll,A.lw,A.c,A.nk,A.tu,A.dn,A.fr,A.rk]
def zK(A:mE)(ex:Bool):List (Str×V):=[("boxes",.ref A.lb),("edges",.ref A.le),("labels",.ref A.ll),("wishes",.ref A.lw),("circling",.ref A.c),("not_kept",.ref A.nk),("is_least",.bl ex),("turned",.ref A.tu),("down",.ref A.dn),("first_ranks",.ref A.fr),("ranks",.ref A.rk)]
theorem NQ{f:Str}{v:V}:∀{fs:List (Str×V)},f∉fs.map (·.1)->bP f v fs=fs++[(f,v)]
 |[],_=>rfl
 |(g,x)::r,h=>by
  have hg:¬g=f:=λz=>h (by simp[z])
  show(if g=f then _ else(g,x)::bP f v r)=_
  rw[if_neg hg,NQ (fs:=r) (λz=>h (by simp at z⊢;exact .inr z))]
  rfl
structure iJ(K:ai)(CG:Addr):Prop where
 cl:ir K CG
 f1:dN K CG "boxes"
 f2:dN K CG "edges"
 f3:dN K CG "labels"
 f4:dN K CG "wishes"
 f5:dN K CG "circling"
 f6:dN K CG "not_kept"
 f7:dN K CG "is_least"
 f8:dN K CG "turned"
 f9:dN K CG "down"
 jc:dN K CG "first_ranks"
 qY:dN K CG "ranks"
theorem bD.bar{H H':Hp}{rd C dx e:Addr}{fs:List (Str×V)}{l:List Arc}(hr:H rd=some (.ins C dx fs))(b:aE H H' [rd]):bD K H e l->bD K H' e l:=λ⟨ps,h1,h2⟩=>
 ⟨ps,b _ _ h1 (by simpa using dq h1 hr (by intro z;cases z)),L2.Paired.aX h2 λ_ _ q=>aB.bar hr b q⟩
end
end Bp
set_option Elab.async false
set_option linter.all false
set_option maxRecDepth 100000
set_option maxHeartbeats 4000000
namespace Bp
open PySem PySem.Spec PyProof.Rows L2
open VadiBase (Bytes PName)
open Vadiaa (Arc)
theorem aac{d:d6}(G:Br.gf d):∀i∈eE d,i<(eF d).length:=by
 intro i hi
 unfold eE at hi
 split at hi
 ·obtain⟨k,s,h2,h3,h4,h5⟩:=Br.xn G.toGood
  rw[h5]at hi
  have hm:=Br.jk.mp (Pw h4)
  exact ED i (hm.1.subset hi)
 ·obtain⟨kept,nk,g⟩:=Br.AK G.toGood (eF d).length (aT _)
  rw[g.done]at hi
  exact g.lt i hi
theorem mG{f:Str}{v:V}{fs:List (Str×V)}{names:List Str}(hn:fs.map (·.1)=names)(h:f∉names):bP f v fs=fs++[(f,v)]:=NQ (by rw[hn];exact h)
theorem fz{H:Hp}{q b C dx:Addr}{fs:List (Str×V)}{o:HO}{xs:List V}(hq:H q=some (.ins C dx fs))(hb:H b=some (.lst xs)):upd H q o b=some (.lst xs):=by rw[ao (dq hb hq (by intro z;cases z))];exact hb
section
variable{P:Program}{w:World}{K:ai}{mg:Str->Option Value}{base:Heap}{CG:Addr}
def NR(K:ai)(CG:Addr):Sp:=λvs H Q _=>∃(q dx lb le ll lw:Addr)(wm:List V)(d:d6),vs=[.ref q,.ref lb,.ref le,.ref ll,.ref lw]/\H q=some (.ins CG dx [])/\Br.gf d/\H lb=some (.lst wm)/\wm.length=d.boxes.length/\bD K H le (eF d)/\bD K H lw (eN d)/\
 ∀(H':Hp)(c nk tu dn fr rk:Addr),aE H H' [q]->H' q=some (.ins CG dx (zK ⟨lb,le,ll,lw,c,nk,tu,dn,fr,rk⟩ (iQ d)))->H c=none->H nk=none->H tu=none->H dn=none->H fr=none->H rk=none->
  H' c=some (.lst (vN (iO d)))->H' nk=some (.lst (vN (lP d)))->H' tu=some (.lst (vN (eE d)))->bD K H' dn (kG d)->H' fr=some (.lst (vN (wR d)))->H' rk=some (.lst (vN (cR d)))->Q .aO H'
theorem aad{f:Addr}{fd:FuncData}(B:cq mg)(T:iJ K CG)
  (D1:aS P w K mg base ax 4 "edges_on_circles" ["edges","wishes"] (Mg K)) (D2:aS P w K mg base ax 4 "edges_not_kept" ["edges","wishes"] (Mt K)) (D3:aS P w K mg base ax 1 "is_least_set_told" ["circling"] (Mh K))
  (D4:aS P w K mg base ax 4 "least_set" ["edges","wishes","circling"] (Ey K)) (D5:aS P w K mg base ax 1 "going_down" ["edges","turned"] (EE K)) (D6:aS P w K mg base ax 1 "longest_ranks" ["boxes","arcs"] (EF K)) (D7:aS P w K mg base ax 3 "box_ranks" ["first_ranks","edges","wishes"] (EO K))
  (F:aQ K "__init__" "Diagram.__init__" C9 f fd):aK P w K mg base ax 5 f fd ["self","boxes","edges","labels","wishes"] (NR K CG):=by
 refine F.bo Ws (λvs H Q E h=>?_) (λaC A outer s H vs Q E hr h=>?_)
 ·obtain⟨q,dx,lb,le,ll,lw,wm,d,rfl,_⟩:=h
  rfl
 ·intro XX
  obtain⟨q,dx,lb,le,ll,lw,wm,d,rfl,hq,G,hB,jC,hE,hW,k⟩:=h
  have bq:bc 1 _:=hr.mono (by decide)
  have e7:bc 3 _:=hr.mono (by decide)
  have nb:=G.nb
  have ne:=G.ne
  have nw:=G.nw
  have lE:(eF d).length<=40:=by rw[Br.ie];exact ne
  have lW:(eN d).length<=16:=by rw[kg];exact nw
  refine⟨_,aq (eX (pv 0) (pv 1) rfl) (aq (eX (pv 0) (pv 2) rfl) (aq (eX (pv 0) (pv 3) rfl) (aq (eX (pv 0) (pv 4) rfl)
   (aq (eX (pv 0) (aL D1 hr aI (ae (pv 2) (ae (pv 4) af))) rfl)
   (aq (eX (pv 0) (aL D2 hr aI (ae (pv 2) (ae (pv 4) af))) rfl)
   (aq (eX (pv 0) (aL D3 bq aI (ae (aP (pv 0) rfl) af)) rfl)
   (aq (eX (pv 0) (Be (dJ (aP (pv 0) rfl)) (aL D4 hr aI (ae (pv 2) (ae (pv 4) (ae (aP (pv 0) rfl) af)))) (aP (pv 0) rfl)) rfl)
   (aq (eX (pv 0) (aL D5 bq aI (ae (pv 2) (ae (aP (pv 0) rfl) af))) rfl)
   (aq (eX (pv 0) (aL D6 bq aI (ae (bK cb (by rfl) B.len bZ (ae (pv 1) af)) (ae (bW iy (aP (pv 0) rfl) (pv 4)) af))) rfl)
   (au (eX (pv 0) (aL D7 e7 aI (ae (aP (pv 0) rfl) (ae (aP (pv 0) rfl) (ae (pv 4) af)))) rfl))))))))))),?_⟩
  refine⟨_,rfl,_,rfl,q,CG,dx,[],rfl,hq,T.cl,T.f1,(by show 0<1000;decide),?_⟩
  refine⟨_,rfl,_,rfl,q,CG,dx,_,rfl,aj,T.cl,T.f2,(by show 1<1000;decide),?_⟩
  rw[show bP "edges" (.ref le) (bP "boxes" (.ref lb) [])=[(("boxes":Str),V.ref lb),(("edges":Str),V.ref le)]from mG (names:=["boxes"]) rfl (by decide+kernel)]
  refine⟨_,rfl,_,rfl,q,CG,dx,_,rfl,aj,T.cl,T.f3,(by show 2<1000;decide),?_⟩
  rw[show bP "labels" (.ref ll) [(("boxes":Str),V.ref lb),(("edges":Str),V.ref le)]=[(("boxes":Str),V.ref lb),(("edges":Str),V.ref le),(("labels":Str),V.ref ll)]from mG (names:=["boxes","edges"]) rfl (by decide+kernel)]
  refine⟨_,rfl,_,rfl,q,CG,dx,_,rfl,aj,T.cl,T.f4,(by show 3<1000;decide),?_⟩
  rw[show bP "wishes" (.ref lw) [(("boxes":Str),V.ref lb),(("edges":Str),V.ref le),(("labels":Str),V.ref ll)]=[(("boxes":Str),V.ref lb),(("edges":Str),V.ref le),(("labels":Str),V.ref ll),(("wishes":Str),V.ref lw)]from mG (names:=["boxes","edges","labels"]) rfl (by decide+kernel)]
  rw[fJ,fJ,fJ]
  generalize kr:[(("boxes":Str),V.ref lb),(("edges":Str),V.ref le),(("labels":Str),V.ref ll),(("wishes":Str),V.ref lw)]=f4
  have NS:f4.map (·.1)=(["boxes","edges","labels","wishes"]:List Str):=by rw[<-kr];rfl
  have NT:f4.length=4:=by rw[<-kr];rfl
  have b4:aE H (upd H q (.ins CG dx f4)) [q]:=aE.upd
  have o4:upd H q (.ins CG dx f4) q=some (.ins CG dx f4):=aj
  generalize E5:upd H q (.ins CG dx f4)=H4 at b4 o4⊢
  refine⟨_,rfl,_,rfl,le,lw,_,_,d.boxes.length,rfl,bD.bar hq b4 hE,bD.bar hq b4 hW,by omega,by omega,G.kI,by omega,λH5 c s5 mf hc=>?_⟩
  rw[Br.ie,<-XI]at hc
  have zL:H c=none:=b4.free o4 mf
  refine⟨_,rfl,q,CG,dx,_,rfl,s5 _ _ o4,T.cl,T.f5,(by rw[NT];decide),?_⟩
  rw[mG (f:="circling") NS (by decide+kernel)]
  have Fp:(f4++[(("circling":Str),V.ref c)]).map (·.1)=(["boxes","edges","labels","wishes","circling"]:List Str):=by rw[bI,NS];rfl
  have Fq:(f4++[(("circling":Str),V.ref c)]).length=5:=by rw[bf,NT];rfl
  have lc5:(f4++[(("circling":Str),V.ref c)]).lookup ("circling":Str)=some (.ref c):=by rw[<-kr];rfl
  generalize og:f4++[(("circling":Str),V.ref c)]=f5 at Fp Fq lc5⊢
  have b5:aE H (upd H5 q (.ins CG dx f5)) [q]:=(b4.trans (aE.of s5 _)).trans aE.upd
  have o5:upd H5 q (.ins CG dx f5) q=some (.ins CG dx f5):=aj
  have c5:upd H5 q (.ins CG dx f5) c=some (.lst (vN (iO d))):=fz (s5 _ _ o4) hc
  generalize aid:upd H5 q (.ins CG dx f5)=G5 at b5 o5 c5⊢
  refine⟨_,rfl,_,rfl,le,lw,d,rfl,G,bD.bar hq b5 hE,bD.bar hq b5 hW,λH6 nk s6 aaf Fs=>?_⟩
  have NU:H nk=none:=b5.free o5 aaf
  refine⟨_,rfl,q,CG,dx,_,rfl,s6 _ _ o5,T.cl,T.f6,(by rw[Fq];decide),?_⟩
  rw[mG (f:="not_kept") Fp (by decide+kernel)]
  have Ft:(f5++[(("not_kept":Str),V.ref nk)]).map (·.1)=(["boxes","edges","labels","wishes","circling","not_kept"]:List Str):=by rw[bI,Fp];rfl
  have Fu:(f5++[(("not_kept":Str),V.ref nk)]).length=6:=by rw[bf,Fq];rfl
  have NV:(f5++[(("not_kept":Str),V.ref nk)]).lookup ("circling":Str)=some (.ref c):=by rw[<-og,<-kr];rfl
  generalize pC:f5++[(("not_kept":Str),V.ref nk)]=f6 at Ft Fu NV⊢
  have b6:aE H (upd H6 q (.ins CG dx f6)) [q]:=(b5.trans (aE.of s6 _)).trans aE.upd
  have o6:upd H6 q (.ins CG dx f6) q=some (.ins CG dx f6):=aj
  have c6:upd H6 q (.ins CG dx f6) c=some (.lst (vN (iO d))):=fz (s6 _ _ o5) (s6 _ _ c5)
  have n6:upd H6 q (.ins CG dx f6) nk=some (.lst (vN (lP d))):=fz (s6 _ _ o5) Fs
  generalize aie:upd H6 q (.ins CG dx f6)=G6 at b6 o6 c6 n6⊢
  refine⟨_,rfl,q,CG,dx,_,_,rfl,o6,T.cl,T.f5,NV,c,_,rfl,ah.of c6,?_⟩
  rw[cA]
  have ex:decide ((iO d).length<=10)=iQ d:=rfl
  rw[ex]
  refine⟨_,rfl,q,CG,dx,_,rfl,o6,T.cl,T.f7,(by rw[Fu];decide),?_⟩
  rw[mG (f:="is_least") Ft (by decide+kernel)]
  have Fv:(f6++[(("is_least":Str),V.bl (iQ d))]).map (·.1)=(["boxes","edges","labels","wishes","circling","not_kept","is_least"]:List Str):=by rw[bI,Ft];rfl
  have Fw:(f6++[(("is_least":Str),V.bl (iQ d))]).length=7:=by rw[bf,Fu];rfl
  have NW:(f6++[(("is_least":Str),V.bl (iQ d))]).lookup ("circling":Str)=some (.ref c):=by rw[<-pC,<-og,<-kr];rfl
  have NX:(f6++[(("is_least":Str),V.bl (iQ d))]).lookup ("not_kept":Str)=some (.ref nk):=by rw[<-pC,<-og,<-kr];rfl
  have NY:(f6++[(("is_least":Str),V.bl (iQ d))]).lookup ("is_least":Str)=some (.bl (iQ d)):=by rw[<-pC,<-og,<-kr];rfl
  generalize wo:f6++[(("is_least":Str),V.bl (iQ d))]=f7 at Fv Fw NW NX NY⊢
  have b7:aE H (upd G6 q (.ins CG dx f7)) [q]:=b6.trans aE.upd
  have o7:upd G6 q (.ins CG dx f7) q=some (.ins CG dx f7):=aj
  have c7:upd G6 q (.ins CG dx f7) c=some (.lst (vN (iO d))):=fz o6 c6
  have n7:upd G6 q (.ins CG dx f7) nk=some (.lst (vN (lP d))):=fz o6 n6
  generalize hG7:upd G6 q (.ins CG dx f7)=G7 at b7 o7 c7 n7⊢
  have rest:∀(tu:Addr)(H8:Hp),aa G7 H8->H tu=none->H8 tu=some (.lst (vN (eE d)))->
    ∃a C mD fs,V.ref q=.ref a/\H8 a=some (.ins C mD fs)/\ir K C/\dN K C "turned"/\fs.length<1000/\
     l6 (x8 K (bu 0) (jn (EE K) [] E0 (bT (bu 2) (bT (kW K (bu 0) "turned") dR))) "down")
      (l6 (x8 K (bu 0) (jn (EF K) [] E0 (bT (yc (λxs H Q=>∃p ys,xs=[V.ref p]/\(ah K H p ys\/aB K H p ys)/\Q (.int ys.length) H) (bT (bu 1) dR)) (bT (kS yl (kW K (bu 0) "down") (bu 4)) dR))) "first_ranks")
       (x8 K (bu 0) (jn (EO K) [] E0 (bT (kW K (bu 0) "first_ranks") (bT (kW K (bu 0) "down") (bT (bu 4) dR)))) "ranks"))
      {nx:=λ_ H'=>Q .aO H',rt:=Q} [some (.ref q),some (.ref lb),some (.ref le),some (.ref ll),some (.ref lw)] (upd H8 a (.ins C mD (bP "turned" (.ref tu) fs))):=by
   intro tu H8 s8 aag wq
   refine⟨q,CG,dx,_,rfl,s8 _ _ o7,T.cl,T.f8,(by rw[Fw];decide),?_⟩
   rw[mG (f:="turned") Fv (by decide+kernel)]
   have Fx:(f7++[(("turned":Str),V.ref tu)]).map (·.1)=(["boxes","edges","labels","wishes","circling","not_kept","is_least","turned"]:List Str):=by rw[bI,Fv];rfl
   have Fy:(f7++[(("turned":Str),V.ref tu)]).length=8:=by rw[bf,Fw];rfl
   have NZ:(f7++[(("turned":Str),V.ref tu)]).lookup ("turned":Str)=some (.ref tu):=by rw[<-wo,<-pC,<-og,<-kr];rfl
   generalize zM:f7++[(("turned":Str),V.ref tu)]=f8 at Fx Fy NZ⊢
   have b8:aE H (upd H8 q (.ins CG dx f8)) [q]:=(b7.trans (aE.of s8 _)).trans aE.upd
   have o8:upd H8 q (.ins CG dx f8) q=some (.ins CG dx f8):=aj
   have c8:upd H8 q (.ins CG dx f8) c=some (.lst (vN (iO d))):=fz (s8 _ _ o7) (s8 _ _ c7)
   have n8:upd H8 q (.ins CG dx f8) nk=some (.lst (vN (lP d))):=fz (s8 _ _ o7) (s8 _ _ n7)
   have t8:upd H8 q (.ins CG dx f8) tu=some (.lst (vN (eE d))):=fz (s8 _ _ o7) wq
   generalize hG8:upd H8 q (.ins CG dx f8)=G8 at b8 o8 c8 n8 t8⊢
   refine⟨_,rfl,_,rfl,q,CG,dx,_,_,rfl,o8,T.cl,T.f8,NZ,le,tu,_,_,rfl,bD.bar hq b8 hE,t8,by omega,aac G,λH9 dn s9 aah nq=>?_⟩
   rw[<-Br.AL]at nq
   have aai:H dn=none:=b8.free o8 aah
   refine⟨_,rfl,q,CG,dx,_,rfl,s9 _ _ o8,T.cl,T.f9,(by rw[Fy];decide),?_⟩
   rw[mG (f:="down") Fx (by decide+kernel)]
   have Fz:(f8++[(("down":Str),V.ref dn)]).map (·.1)=(["boxes","edges","labels","wishes","circling","not_kept","is_least","turned","down"]:List Str):=by rw[bI,Fx];rfl
   have FC:(f8++[(("down":Str),V.ref dn)]).length=9:=by rw[bf,Fy];rfl
   have N0:(f8++[(("down":Str),V.ref dn)]).lookup ("down":Str)=some (.ref dn):=by rw[<-zM,<-wo,<-pC,<-og,<-kr];rfl
   generalize FD:f8++[(("down":Str),V.ref dn)]=f9 at Fz FC N0⊢
   have b9:aE H (upd H9 q (.ins CG dx f9)) [q]:=(b8.trans (aE.of s9 _)).trans aE.upd
   have o9:upd H9 q (.ins CG dx f9) q=some (.ins CG dx f9):=aj
   have c9:upd H9 q (.ins CG dx f9) c=some (.lst (vN (iO d))):=fz (s9 _ _ o8) (s9 _ _ c8)
   have n9:upd H9 q (.ins CG dx f9) nk=some (.lst (vN (lP d))):=fz (s9 _ _ o8) (s9 _ _ n8)
   have t9:upd H9 q (.ins CG dx f9) tu=some (.lst (vN (eE d))):=fz (s9 _ _ o8) (s9 _ _ t8)
   have d9:bD K (upd H9 q (.ins CG dx f9)) dn (kG d):=bD.bar (s9 _ _ o8) aE.upd nq
   generalize hG9:upd H9 q (.ins CG dx f9)=G9 at b9 o9 c9 n9 t9 d9⊢
   obtain⟨FE,d91,N1⟩:=id d9
   obtain⟨FG,w91,N2⟩:=bD.bar hq b9 hW
   have aal:FE.length=d.edges.length:=by rw[a7 N1,Br.p5]
   have aam:FG.length=d.wishes.length:=by rw[a7 N2,kg]
   have hB9:G9 lb=some (.lst wm):=b9 _ _ hB (by simpa using dq hB hq (by intro z;cases z))
   refine⟨_,rfl,lb,_,rfl,.inl (ah.of hB9),_,rfl,q,CG,dx,_,_,rfl,o9,T.cl,T.f9,N0,_,rfl,dn,lw,_,_,rfl,rfl,d91,w91,by rw[aA,aA,aal,aam,sizeLine_eq];omega,λct hct=>?_⟩
   have zN:aa G9 (upd G9 ct (.lst (FE.map V.ref++FG.map V.ref))):=aa.new hct
   refine⟨d.boxes.length,ct,kG d++eN d,by rw[jC];rfl,⟨FE++FG,ah.of (by rw[aj,bI]),Paired.app (L2.Paired.aX N1 λ_ _ z=>aa.tup zN z) (L2.Paired.aX N2 λ_ _ z=>aa.tup zN z)⟩,Br.ur G.toGood,Br.AN G.toGood,by omega,λiV fr oU aap gY=>?_⟩
   have lB:aa G9 iV:=zN.trans oU
   have aaq:H fr=none:=b9.free o9 (zN.free aap)
   refine⟨_,rfl,q,CG,dx,_,rfl,lB _ _ o9,T.cl,T.jc,(by rw[FC];decide),?_⟩
   rw[mG (f:="first_ranks") Fz (by decide+kernel)]
   have N3:(f9++[(("first_ranks":Str),V.ref fr)]).map (·.1)=(["boxes","edges","labels","wishes","circling","not_kept","is_least","turned","down","first_ranks"]:List Str):=by rw[bI,Fz];rfl
   have ln10:(f9++[(("first_ranks":Str),V.ref fr)]).length=10:=by rw[bf,FC];rfl
   have N4:(f9++[(("first_ranks":Str),V.ref fr)]).lookup ("down":Str)=some (.ref dn):=by rw[<-FD,<-zM,<-wo,<-pC,<-og,<-kr];rfl
   have N5:(f9++[(("first_ranks":Str),V.ref fr)]).lookup ("first_ranks":Str)=some (.ref fr):=by rw[<-FD,<-zM,<-wo,<-pC,<-og,<-kr];rfl
   generalize aar:f9++[(("first_ranks":Str),V.ref fr)]=jc at N3 ln10 N4 N5⊢
   have zO:aE H (upd iV q (.ins CG dx jc)) [q]:=(b9.trans (aE.of lB _)).trans aE.upd
   have lD:upd iV q (.ins CG dx jc) q=some (.ins CG dx jc):=aj
   have N6:upd iV q (.ins CG dx jc) c=some (.lst (vN (iO d))):=fz (lB _ _ o9) (lB _ _ c9)
   have N7:upd iV q (.ins CG dx jc) nk=some (.lst (vN (lP d))):=fz (lB _ _ o9) (lB _ _ n9)
   have N8:upd iV q (.ins CG dx jc) tu=some (.lst (vN (eE d))):=fz (lB _ _ o9) (lB _ _ t9)
   have vT:bD K (upd iV q (.ins CG dx jc)) dn (kG d):=bD.bar (lB _ _ o9) aE.upd (d9.same lB)
   have u7:upd iV q (.ins CG dx jc) fr=some (.lst (vN (wR d))):=fz (lB _ _ o9) gY
   generalize aij:upd iV q (.ins CG dx jc)=G10 at zO lD N6 N7 N8 vT u7⊢
   refine⟨_,rfl,q,CG,dx,_,_,rfl,lD,T.cl,T.jc,N5,_,rfl,q,CG,dx,_,_,rfl,lD,T.cl,T.f9,N4,_,rfl,fr,dn,lw,d,rfl,G,u7,vT,bD.bar hq zO hW,λqZ rk fm aas FH=>?_⟩
   have aat:H rk=none:=zO.free lD aas
   refine⟨_,rfl,q,CG,dx,_,rfl,fm _ _ lD,T.cl,T.qY,(by rw[ln10];decide),?_⟩
   rw[mG (f:="ranks") N3 (by decide+kernel)]
   have ef:jc++[(("ranks":Str),V.ref rk)]=zK ⟨lb,le,ll,lw,c,nk,tu,dn,fr,rk⟩ (iQ d):=by rw[<-aar,<-FD,<-zM,<-wo,<-pC,<-og,<-kr];rfl
   rw[ef]
   exact k _ c nk tu dn fr rk ((zO.trans (aE.of fm _)).trans aE.upd) aj zL NU aag aai aaq aat (fz (fm _ _ lD) (fm _ _ N6)) (fz (fm _ _ lD) (fm _ _ N7)) (fz (fm _ _ lD) (fm _ _ N8)) (bD.bar (fm _ _ lD) aE.upd (vT.same fm)) (fz (fm _ _ lD) (fm _ _ u7)) (fz (fm _ _ lD) FH)
  refine⟨_,rfl,q,CG,dx,_,_,rfl,o7,T.cl,T.f7,NY,_,rfl,?_⟩
  cases hex:iQ d with
  |true=>
   have fi:(iO d).length<=10:=of_decide_eq_true hex
   refine aY ⟨_,rfl,_,rfl,_,rfl,q,CG,dx,_,_,rfl,o7,T.cl,T.f5,NW,?_⟩
   dsimp only[dR]
   rw[gP]
   refine Ym G (bD.bar hq b7 hE) (bD.bar hq b7 hW) c7 fi λH8 tu s8 aau wq=>?_
   have q8:=rest tu H8 s8 (b7.free o7 aau) wq
   exact⟨_,rfl,q8⟩
  |false=>
   have et:eE d=lP d:=by unfold eE;rw[if_neg (by rw[hex];decide)]
   exact aZ ⟨_,rfl,q,CG,dx,_,_,rfl,o7,T.cl,T.f6,NX,_,rfl,rest nk G7 (aa.refl _) NU (by rw[et];exact n7)⟩
end
end Bp
set_option Elab.async false
set_option linter.all false
set_option maxRecDepth 100000
set_option maxHeartbeats 4000000
namespace Bp
open PySem PySem.Spec PyProof.Rows L2
open L2.Bx (dB XO XD fq gu iD iA iC aU cU)
open VadiBase (Bytes PName)
open Vadiaa (Arc)
def lF(K:ai)(H:Hp)(p:Addr)(b:kH):Prop:=∃ta,aB K H p [.ref ta,.int (b.w:Int),.int (b.h:Int)]/\aB K H ta (vB b.name.name)
def FI(K:ai)(H:Hp)(p:Addr)(e:oy):Prop:=aB K H p (vB (e.label.getD []))
theorem lF.same{K:ai}{H H':Hp}{p:Addr}{b:kH}(s:aa H H'):lF K H p b->lF K H' p b:=λ⟨ta,h1,h2⟩=>⟨ta,aa.tup s h1,aa.tup s h2⟩
theorem lF.br{K:ai}{H:Hp}{p l:Addr}{b:kH}{ys zs:List V}(hl:H l=some (.lst ys)):lF K H p b->lF K (upd H l (.lst zs)) p b:=λ⟨ta,h1,h2⟩=>⟨ta,aB.br hl h1,aB.br hl h2⟩
theorem lF.bar{K:ai}{H H':Hp}{p rd C dx:Addr}{b:kH}{fs:List (Str×V)}(hr:H rd=some (.ins C dx fs))(s:aE H H' [rd]):lF K H p b->lF K H' p b:=λ⟨ta,h1,h2⟩=>⟨ta,aB.bar hr s h1,aB.bar hr s h2⟩
structure mH(ok:Addr->Prop)(K:ai)(H:Hp)(A:mE)(d:d6):Prop where
 tT:∀x∈A.all,ok x
 bx:∃bs:List Addr,H A.lb=some (.lst (bs.map V.ref))/\Paired (lF K H) bs d.boxes
 ed:bD K H A.le (eF d)
 mB:∃bs:List Addr,H A.ll=some (.lst (bs.map V.ref))/\Paired (FI K H) bs d.edges
 wi:bD K H A.lw (eN d)
 ci:H A.c=some (.lst (vN (iO d)))
 nk:H A.nk=some (.lst (vN (lP d)))
 tu:H A.tu=some (.lst (vN (eE d)))
 dn:bD K H A.dn (kG d)
 fr:H A.fr=some (.lst (vN (wR d)))
 rk:H A.rk=some (.lst (vN (cR d)))
 fit:Br.gf d
 d8:∀b∈d.boxes,b.name.name≠[]/\b.name.name.length<=16
 eD:∀e∈d.edges,∀s,e.label=some s->s≠[]/\s.length<=16
 zP:Br.xE d
 kn:∀p∈Br.ig d,(w6 d p.1.name).isNone=false/\(w6 d p.2.name).isNone=false
def eU(ok:Addr->Prop)(K:ai)(CG:Addr)(H:Hp)(r:Addr)(d:d6):Prop:=∃dx A,H r=some (.ins CG dx (zK A (iQ d)))/\mH ok K H A d
theorem jH.nm{K:ai}{CT:Addr}{H:Hp}{a:Addr}{b:kH}(h:i9 K CT H a b):b.name.name≠[]/\b.name.name.length<=16:=by
 obtain⟨an,_,_,_,_,_,_,h1,h2⟩:=h
 exact⟨h1,h2⟩
theorem tU{α β:Type}{F:α->β->Prop}{Q:β->Prop}:∀{l:List α}{m:List β},Paired F l m->(∀a b,F a b->Q b)->∀b∈m,Q b
 |_,_,.nil,_,b,h=>by simp at h
 |_,_,.cons r t,f,b,h=>by
  rcases bz.mp h with e|h
  ·rw[e];exact f _ _ r
  ·exact tU t f b h
section
variable{P:Program}{w:World}{K:ai}{mg:Str->Option Value}{base:Heap}{CF CT CD CG:Addr}
def N9(K:ai)(CF CG:Addr):Sp:=λvs H Q E=>∃(a:Addr)(b:Bytes),vs=[.ref a]/\ah K H a (vB b)/\b.length<=8192/\
 (∀fl,jR b=.error fl->Raises CF E H fl.code fl.place)/\(∀d,jR b=.ok d->∀(H':Hp)(r:Addr),aa H H'->H r=none->eU (λx=>H x=none) K CG H' r d->Q (.ref r) H')
end
end Bp
set_option Elab.async false
set_option linter.all false
set_option maxRecDepth 100000
set_option maxHeartbeats 8000000
namespace Bp
open PySem PySem.Spec PyProof.Rows L2
open L2.Bx (dB XO XD fq gu iD iA iC aU cU)
open VadiBase (Bytes PName)
open Vadiaa (Arc)
section
variable{P:Program}{w:World}{K:ai}{mg:Str->Option Value}{base:Heap}{CF CT CD CG:Addr}
theorem aav{f:Addr}{fd:FuncData}(B:cq mg)(TT:iG K CT)(TD:zH K CD)(gTL:GI mg "TOO_LONG" 1)(N_:GI mg "MOST_BYTES" 4096)(DF:Flt P w K mg base CF)
  (aax:aS P w K mg base (aU P w CF) 5 "tokens_of" ["text"] (Na K CF CT)) (DDr:aS P w K mg base (aU P w CF) 7 "draft_of" ["tokens"] (NB K CF CT CD)) (DNm:aS P w K mg base (aU P w CF) 3 "numbers_of_names" ["boxes"] (NI K CF CT))
  (DUn:aS P w K mg base (aU P w CF) 3 "refuse_unknown_names" ["pairs","numbers"] (NJ K CF CT)) (DLo:aS P w K mg base (aU P w CF) 3 "refuse_loops" ["pairs"] (NK K CF CT)) (Oa:aS P w K mg base ax 1 "arcs_of" ["pairs","numbers"] (NL K CT))
  (DCi:aS P w K mg base (aU P w CF) 4 "refuse_circle_of_wishes" ["pairs","wishes"] (NN K CF CT)) (MG:lj P w K mg base ax 5 "Diagram" CG ["self","boxes","edges","labels","wishes"] (NR K CG))
  (F:aQ K "diagram_of" "diagram_of" yW f fd):aK P w K mg base (aU P w CF) 8 f fd ["text"] (N9 K CF CG):=by
 refine F.fV Lo (λvs H Q E h=>?_) (λaC A outer s H vs Q E hr h=>?_)
 ·obtain⟨a,b,rfl,_⟩:=h
  rfl
 ·intro XX
  obtain⟨a,b,rfl,hS,jC,kR,kQ⟩:=h
  have nd:=Lo.nd
  have bq:bc 1 _:=hr.mono (by decide)
  have dU:bc 2 _:=hr.mono (by decide)
  have e7:bc 3 _:=hr.mono (by decide)
  have lh:bc 4 _:=hr.mono (by decide)
  have nZ:bc 5 _:=hr.mono (by decide)
  have EB:bc 6 _:=hr.mono (by decide)
  have hx:Passes (aU P w CF) (fT (aU P w CF) P w K mg base ["text","draft","numbers","pairs","wishes","boxes","edge","box"] "diagram_of" (aH yW) f aC A outer s H E) E:=cU λ_ _ _ z=>z
  refine⟨_,aq (bF (bC kU (bK cb (by rfl) B.len bZ (ae (pv 0) af)) (bG N_) (bw _)) (au (lu DF dU hx (ae (bG gTL) (ae (bG N_) af)))) bM)
   (aq (aN (i:=1) nd rfl (ay rfl) (aL DDr hr hx (ae (aL aax nZ hx (ae (pv 0) af)) af)))
   (aq (aN (i:=2) nd rfl (ay rfl) (aL DNm e7 hx (ae (aP (pv 1) rfl) af)))
   (aq (sJ rfl nd (i:=3) rfl rfl (sL rfl rfl rfl rfl) (dM (aP (pv 1) rfl)) (iz (own:=[("edge",6)]) rfl)
     (λs H C cl fp=>bB (i:=6) nd rfl (ay rfl)) (λs H C cl fp=>qw)
     (λs H C cl fp=>l7 (ae (aG (bQ K) (pv 6) aJ (λ_ _=>rfl)) (ae (aG (bQ K) (pv 6) aJ (λ_ _=>rfl)) af))))
   (aq (cM (aL DUn e7 hx (ae (bW iy (pv 3) (aP (pv 1) rfl)) (ae (pv 2) af))))
   (aq (cM (aL DLo e7 hx (ae (bW iy (pv 3) (aP (pv 1) rfl)) af)))
   (aq (aN (i:=4) nd rfl (ay rfl) (aL Oa bq aI (ae (aP (pv 1) rfl) (ae (pv 2) af))))
   (aq (cM (aL DCi lh hx (ae (aP (pv 1) rfl) (ae (pv 4) af))))
   (aq (sJ rfl nd (i:=5) rfl rfl (sL rfl rfl rfl rfl) (dM (aP (pv 1) rfl)) (iz (own:=[("box",7)]) rfl)
     (λs H C cl fp=>bB (i:=7) nd rfl (ay rfl)) (λs H C cl fp=>qw)
     (λs H C cl fp=>l7 (ae (Fm K (aG (bQ K) (pv 7) aJ (λ_ _=>rfl))) (ae (aG (bQ K) (pv 7) aJ (λ_ _=>rfl)) (ae (aG (bQ K) (pv 7) aJ (λ_ _=>rfl)) af)))))
   (au (aM (qS MG EB aI (ae (pv 5) (ae (aL Oa bq aI (ae (pv 3) (ae (pv 2) af)))
    (ae (nu rfl nd (dM (aP (pv 1) rfl)) (iz (own:=[("edge",6)]) rfl)
     (λs H C cl fp=>bB (i:=6) nd rfl (ay rfl)) (λs H C cl fp=>qw)
     (λs H C cl fp=>aG (bQ K) (pv 6) aJ (λ_ _=>rfl)))
    (ae (pv 4) af))))))))))))))),?_⟩
  refine⟨_,rfl,a,_,rfl,.inl hS,_,_,rfl,rfl,_,rfl,?_⟩
  rw[cE]
  show if decide ((4096:Int)<(b.length:Int))=true then _ else _
  by_cases oR:4096<b.length
  ·rw[decide_eq_true (by omega:(4096:Int)<(b.length:Int))]
   have er:jR b=.error ⟨1,4096⟩:=by
    rw[Br.RC]
    unfold P2
    rw[if_pos (show VadiBase.TEXT<b.length from oR)]
    rfl
   exact aY ⟨_,_,rfl,λdx bU=>kR _ er _ dx (aa.new bU) aj⟩
  rw[decide_eq_false (by omega:¬(4096:Int)<(b.length:Int))]
  have er:jR b=(Br.bS 0 b).bind λl=>(Vadiaa.takeAll (l.length+1) mR l).bind Br.A7:=by
   rw[Br.RE,Br.Rk oR]
  refine aZ ⟨_,rfl,a,b,rfl,hS,by omega,λfl gJ=>?_,λts qN H1 tl s1 Ob qX zh=>?_⟩
  ·rw[gJ]at er
   exact kR fl er
  rw[qN]at er
  have er:jR b=(Vadiaa.takeAll (ts.length+1) mR ts).bind Br.A7:=er
  obtain⟨L,sR⟩:=Zq qN
  refine⟨tl,ts,rfl,qX,L,sR,λfl gJ=>?_,λd hd H2 dr cv lb le lw s2 D Z=>?_⟩
  ·rw[gJ]at er
   exact(kR fl er).same s1
  rw[hd]at er
  have hsz:Br.xE d:=Br.xF _ _ _ _ hd (λb hb=>by simp[mR]at hb)
  have er:jR b=match Ap [] (d.boxes.map λx=>x.name)with
   |some q=>.error ⟨5,q⟩
   |none=>match(Vadiaa.namesIn d).find? λx=>(w6 d x.name).isNone with
    |some x=>.error ⟨6,x.place⟩
    |none=>match Vadiaa.selfIn d with
     |some q=>.error ⟨8,q⟩
     |none=>match Vadiaa.badWish d with
      |some q=>.error ⟨9,q⟩
      |none=>.ok d:=er
  have Oc:aa H H2:=s1.trans s2
  obtain⟨bs,jy,fU⟩:=D.bx
  have eD:bs.length=d.boxes.length:=a7 fU
  have aaD:∀b∈d.boxes,b.name.name≠[]/\b.name.name.length<=16:=tU fU λ_ _ z=>jH.nm z
  refine⟨_,rfl,dr,CD,cv,_,_,rfl,D.ob,TD.cl,TD.nb,rfl,lb,d.boxes,bs,rfl,jy,fU,by have:=Z.nb;omega,λq hq=>?_,λhtw H3 n ag s3 hn tab=>?_⟩
  ·rw[hq]at er
   exact(kR _ er).same Oc
  rw[htw]at er
  have sH3:aa H H3:=Oc.trans s3
  have D3:=D.same s3
  obtain⟨es,y_,nG⟩:=D3.ed
  have fw:es.length=d.edges.length:=a7 nG
  have aaG:∀e∈d.edges,∀s,e.label=some s->s≠[]/\s.length<=16:=tU nG λ_ _ ⟨_,_,_,_,_,_,_,z⟩=>z
  refine⟨_,rfl,dr,CD,cv,_,_,rfl,D3.ob,TD.cl,TD.ne,rfl,le,rfl,⟨_,ah.of y_⟩,λpl dE=>?_⟩
  refine j6 (K:=K) (xs:=es.map V.ref) (λi H'=>aa H3 H'/\∃qs:List Addr,H' pl=some (.lst (qs.map V.ref))/\Paired (i_ K CT H') qs ((Br.fR d).take i)) ⟨aa.new dE,[],aj,.nil⟩ ?_ ?_ ?_
  ·rintro i H' _ ⟨sm,_⟩
   exact ah.of (sm _ _ y_)
  ·rintro i y H' hi ⟨sm,qs,hQ,jb⟩
   obtain⟨p,hp,rfl⟩:=dO hi
   obtain⟨e,FJ,hT⟩:=Paired.at' nG hp
   obtain⟨a1,a2,Od,q1,q2,q3,q4,q5⟩:=hT.same sm
   have gz:(Br.fR d)[i]? =some (e.src,e.dst):=by unfold Br.fR;rw[ck,FJ];rfl
   have i5:qs.length<=40:=by
    have h1:=a7 jb
    rw[fC]at h1
    have h2:(Br.fR d).length=d.edges.length:=by unfold Br.fR;simp
    have:=Z.ne
    omega
   refine⟨rfl,qQ ?_⟩
   refine⟨_,rfl,p,_,0,_,rfl,rfl,q1,dC,_,rfl,p,_,1,_,rfl,rfl,q1,gv,by show 2<=sizeLine;decide,λtp gI=>?_⟩
   have s4:aa H' (upd H' tp (.tup [.ref a1,.ref a2])):=aa.new gI
   have oa:=s4 _ _ hQ
   refine⟨_,oa,by rw[aA];exact eA (by omega),λb o z=>?_,qs++[tp],?_,?_⟩
   ·rw[ao (aF z dE)]
    exact s4 _ _ (sm _ _ z)
   ·rw[aj,bI];rfl
   ·rw[take_one gz]
    refine Paired.app (L2.Paired.aX jb λ_ _ z=>(z.same s4).br oa) (.cons ?_ .nil)
    exact⟨a1,a2,aB.br oa (aB.of aj),bp.br oa (bp.same s4 q2),bp.br oa (bp.same s4 q3)⟩
  rintro H4 ⟨s4,qs,hQ,jb⟩
  have jA:(Br.fR d).take (es.map V.ref).length=Br.fR d:=by
   have h2:(Br.fR d).length=d.edges.length:=by unfold Br.fR;simp
   rw[aA,fw,<-h2,cO]
  rw[jA]at jb
  have i5:qs.length=d.edges.length:=by rw[a7 jb];unfold Br.fR;simp
  have sH4:aa H H4:=sH3.trans s4
  have D4:=D3.same s4
  obtain⟨ws,FK,tO⟩:=D4.wi
  have oh:ws.length=d.wishes.length:=a7 tO
  have Oe:=s4 _ _ hn
  have zne:=Z.ne
  have znw:=Z.nw
  have znb:=Z.nb
  have Of:(qs.map V.ref).length+(ws.map V.ref).length<=sizeLine:=by rw[aA,aA,i5,oh,sizeLine_eq];omega
  refine⟨_,rfl,_,rfl,dr,CD,cv,_,_,rfl,D4.ob,TD.cl,TD.nw,rfl,pl,lw,_,_,rfl,rfl,hQ,FK,Of,λc1 q_=>?_⟩
  have s5:aa H4 (upd H4 c1 (.lst (qs.map V.ref++ws.map V.ref))):=aa.new q_
  have Og:jH K CT (upd H4 c1 (.lst (qs.map V.ref++ws.map V.ref))) c1 (Br.ig d):=⟨qs++ws,by rw[aj,bI],Paired.app (L2.Paired.aX jb λ_ _ z=>z.same s5) (L2.Paired.aX tO λ_ _ z=>z.same s5)⟩
  generalize ZD:upd H4 c1 (.lst (qs.map V.ref++ws.map V.ref))=H5 at s5 Og
  have Oh:aa H H5:=sH4.trans s5
  rw[Br.A2]at er
  refine⟨_,rfl,c1,n,Br.ig d,ag,Br.cx d.boxes,rfl,Og,s5 _ _ Oe,tab,λx ic=>?_,λOi=>?_⟩
  ·have er:jR b=.error ⟨6,x.place⟩:=by rw[er];dsimp only;rw[show(Br.d8 (Br.ig d)).find? (λx=>(w6 d x.name).isNone)=some x from ic]
   exact(kR _ er).same Oh
  have h6:(Vadiaa.namesIn d).find? (λx=>(w6 d x.name).isNone)=none:=by rw[Br.A2];exact Oi
  dsimp only at er
  rw[show(Br.d8 (Br.ig d)).find? (λx=>(w6 d x.name).isNone)=none from Oi]at er
  dsimp only at er
  have D5:=D4.same s5
  refine⟨_,rfl,_,rfl,dr,CD,cv,_,_,rfl,D5.ob,TD.cl,TD.nw,rfl,pl,lw,_,_,rfl,rfl,s5 _ _ hQ,s5 _ _ FK,Of,λc2 qo=>?_⟩
  have s6:aa H5 (upd H5 c2 (.lst (qs.map V.ref++ws.map V.ref))):=aa.new qo
  have Oj:jH K CT (upd H5 c2 (.lst (qs.map V.ref++ws.map V.ref))) c2 (Br.ig d):=⟨qs++ws,by rw[aj,bI],Paired.app (L2.Paired.aX jb λ_ _ z=>z.same (s5.trans s6)) (L2.Paired.aX tO λ_ _ z=>z.same (s5.trans s6))⟩
  generalize hH6:upd H5 c2 (.lst (qs.map V.ref++ws.map V.ref))=H6 at s6 Oj
  have FL:aa H H6:=Oh.trans s6
  refine⟨c2,Br.ig d,rfl,Oj,λx ic=>?_,λEH=>?_⟩
  ·have er:jR b=.error ⟨8,x.2.place⟩:=by rw[er,Br.A3,ic];rfl
   exact(kR _ er).same FL
  have h8:Vadiaa.selfIn d=none:=by rw[Br.A3,EH];rfl
  rw[h8]at er
  dsimp only at er
  have n_:=Br.Iz h6
  have D6:=D5.same s6
  have Ol:jH K CT H6 lw d.wishes:=⟨ws,(s5.trans s6) _ _ FK,L2.Paired.aX tO λ_ _ z=>z.same (s5.trans s6)⟩
  have Om:=(s5.trans s6) _ _ Oe
  refine⟨_,rfl,dr,CD,cv,_,_,rfl,D6.ob,TD.cl,TD.nw,rfl,_,rfl,lw,n,d.wishes,ag,Br.cx d.boxes,rfl,Ol,by omega,Om,tab,λp hp=>n_ p (eL _ hp),λH7 wa s7 aaL zQ=>?_⟩
  have zQ:bD K H7 wa (eN d):=zQ
  have Oo:aa H H7:=FL.trans s7
  have D7:=D6.same s7
  have Oq:Br.bt d.boxes.length (eN d):=by rw[Br.Iy];exact Br.A6 λp hp=>n_ p (eL _ hp)
  refine⟨_,rfl,dr,CD,cv,_,_,rfl,D7.ob,TD.cl,TD.nw,rfl,_,rfl,lw,wa,d.wishes,eN d,d.boxes.length,rfl,Ol.same s7,zQ,(kg d).symm,by rw[kg];omega,Oq,by omega,λi x ho a6 ic=>?_,λhdag H8 s8=>?_⟩
  ·have er:jR b=.error ⟨9,x.1.place⟩:=by rw[er,Br.RJ ho a6 ic]
   exact(kR _ er).same Oo
  rw[Br.RI Oq hdag]at er
  have er:jR b=.ok d:=er
  have G:Br.gf d:={toGood:=Br.RD h6 h8 hdag,nb:=znb,ne:=zne,nw:=znw}
  have Ot:aa H H8:=Oo.trans s8
  have D8:=D7.same s8
  obtain⟨Ou,Ov,Ow⟩:=D8.bx
  have aaM:Ou.length=d.boxes.length:=a7 Ow
  refine⟨_,rfl,dr,CD,cv,_,_,rfl,D8.ob,TD.cl,TD.nb,rfl,lb,rfl,⟨_,ah.of Ov⟩,λbl FN=>?_⟩
  refine j6 (K:=K) (xs:=Ou.map V.ref) (λi H'=>aa H8 H'/\∃qs:List Addr,H' bl=some (.lst (qs.map V.ref))/\Paired (lF K H') qs (d.boxes.take i)) ⟨aa.new FN,[],aj,.nil⟩ ?_ ?_ ?_
  ·rintro i H' _ ⟨sm,_⟩
   exact ah.of (sm _ _ Ov)
  ·rintro i y H' hi ⟨sm,us,hU,om⟩
   obtain⟨p,hp,rfl⟩:=dO hi
   obtain⟨bx,jI,hT⟩:=Paired.at' Ow hp
   obtain⟨an,q1,ff,ta,t1,t2,t3⟩:=hT.same sm
   have FO:us.length<=24:=by
    have h1:=a7 om
    rw[fC]at h1
    omega
   refine⟨rfl,qQ ?_⟩
   refine⟨_,rfl,p,_,0,_,rfl,rfl,q1,dC,an,CT,ff,_,_,rfl,t1,TT.cl,TT.ns,jB _ _ _,_,rfl,p,_,1,_,rfl,rfl,q1,gv,_,rfl,p,_,2,_,rfl,rfl,q1,du (j:=2) rfl,by show 3<=sizeLine;decide,λtp gI=>?_⟩
   have s9:aa H' (upd H' tp (.tup [.ref ta,.int (bx.w:Int),.int (bx.h:Int)])):=aa.new gI
   have zR:=s9 _ _ hU
   refine⟨_,zR,by rw[aA];exact eA (by omega),λb o z=>?_,us++[tp],?_,?_⟩
   ·rw[ao (aF z FN)]
    exact s9 _ _ (sm _ _ z)
   ·rw[aj,bI];rfl
   ·rw[take_one jI]
    refine Paired.app (L2.Paired.aX om λ_ _ z=>(z.same s9).br zR) (.cons ?_ .nil)
    exact⟨ta,aB.br zR (aB.of aj),aB.br zR (aB.of (s9 _ _ t2))⟩
  rintro H9 ⟨s9,us,hU,om⟩
  rw[aA,aaM,cO]at om
  have FO:us.length=d.boxes.length:=a7 om
  have Ox:aa H H9:=Ot.trans s9
  have D9:=D8.same s9
  have hp9:jH K CT H9 pl (Br.fR d):=⟨qs,((((s5.trans s6).trans s7).trans s8).trans s9) _ _ hQ,L2.Paired.aX jb λ_ _ z=>z.same ((((s5.trans s6).trans s7).trans s8).trans s9)⟩
  refine⟨_,rfl,_,rfl,_,rfl,pl,n,Br.fR d,ag,Br.cx d.boxes,rfl,hp9,by unfold Br.fR;rw[aA];omega,((s7.trans s8).trans s9) _ _ Om,tab,λp hp=>n_ p (dZ _ hp),λiV ea oU aaO vE=>?_⟩
  have vE:bD K iV ea (eF d):=by rw[Br.A5];exact vE
  have Oy:aa H iV:=Ox.trans oU
  have zS:=D9.same oU
  obtain⟨Oz,OA,OB⟩:=zS.ed
  have aaP:Oz.length=d.edges.length:=a7 OB
  refine⟨_,rfl,dr,CD,cv,_,_,rfl,zS.ob,TD.cl,TD.ne,rfl,le,rfl,⟨_,ah.of OA⟩,λla FP=>?_⟩
  refine j6 (K:=K) (xs:=Oz.map V.ref) (λi H'=>aa iV H'/\∃qs:List Addr,H' la=some (.lst (qs.map V.ref))/\Paired (FI K H') qs (d.edges.take i)) ⟨aa.new FP,[],aj,.nil⟩ ?_ ?_ ?_
  ·rintro i H' _ ⟨sm,_⟩
   exact ah.of (sm _ _ OA)
  ·rintro i y H' hi ⟨sm,us,hU,om⟩
   obtain⟨p,hp,rfl⟩:=dO hi
   obtain⟨e,FJ,hT⟩:=Paired.at' OB hp
   obtain⟨a1,a2,Od,q1,q2,q3,q4,q5⟩:=hT.same sm
   have FO:us.length<=40:=by
    have h1:=a7 om
    rw[fC]at h1
    omega
   refine⟨rfl,qQ ?_⟩
   refine⟨_,rfl,p,_,2,_,rfl,rfl,q1,du (j:=2) rfl,_,hU,by rw[aA];exact eA (by omega),λb o z=>?_,us++[Od],?_,?_⟩
   ·rw[ao (aF z FP)]
    exact sm _ _ z
   ·rw[aj,bI];rfl
   ·rw[take_one FJ]
    exact Paired.app (L2.Paired.aX om λ_ _ z=>aB.br hU z) (.cons (aB.br hU q4) .nil)
  rintro qZ ⟨fm,vs,hV,OC⟩
  rw[aA,aaP,cO]at OC
  have FQ:aa H qZ:=Oy.trans fm
  have OD:qZ bl=some (.lst (us.map V.ref)):=(oU.trans fm) _ _ hU
  have OE:=vE.same fm
  have OF:=zQ.same (((s8.trans s9).trans oU).trans fm)
  refine⟨_,rfl,λr dx de bU zJ=>?_⟩
  have wt:aa qZ (upd (upd qZ dx (.own r)) r (.ins CG dx [])):=λb o e=>by rw[ao (aF e de),ao (aF e bU)];exact e
  refine⟨r,dx,bl,ea,la,wa,us.map V.ref,d,rfl,aj,G,wt _ _ OD,by rw[aA,FO],OE.same wt,OF.same wt,λOG c nk tu dn fr rk b12 o12 nc nnk ntu ndn B8 nrk hc Fs wq nq gY FH=>⟨rfl,?_⟩⟩
  have ku:aa qZ OG:=λb o e=>b12 b o (wt _ _ e) (by simpa using aF e de)
  have tV:∀{x:Addr},upd (upd qZ dx (.own r)) r (.ins CG dx []) x=none->H x=none:=λh=>FQ.free (wt.free h)
  refine kQ d er OG r (FQ.trans ku) (FQ.free de) ⟨dx,_,o12,?_⟩
  refine⟨λx ic=>?_,⟨us,ku _ _ OD,L2.Paired.aX om λ_ _ z=>z.same ((oU.trans fm).trans ku)⟩,OE.same ku,⟨vs,ku _ _ hV,L2.Paired.aX OC λ_ _ z=>aa.tup ku z⟩,OF.same ku,hc,Fs,wq,nq,gY,FH,G,aaD,aaG,hsz,n_⟩
  have:x=bl\/x=ea\/x=la\/x=wa\/x=c\/x=nk\/x=tu\/x=dn\/x=fr\/x=rk:=by simpa[mE.all]using ic
  rcases this with e|e|e|e|e|e|e|e|e|e
  ·rw[e];exact Ot.free FN
  ·rw[e];exact Ox.free aaO
  ·rw[e];exact Oy.free FP
  ·rw[e];exact FL.free aaL
  ·rw[e];exact tV nc
  ·rw[e];exact tV nnk
  ·rw[e];exact tV ntu
  ·rw[e];exact tV ndn
  ·rw[e];exact tV B8
  ·rw[e];exact tV nrk
end
end Bp
set_option Elab.async false
set_option linter.all false
set_option maxRecDepth 100000
set_option maxHeartbeats 4000000
namespace L2
open PySem PyProof.Rows
theorem aaW(l b:Addr)(ak us:Array Value)(n m:Nat)(dd:Option Addr)(sl:Array (Option Value))(long:¬(!ak.isEmpty&&wI (ak.size+us.size))=true)(fits:ak.size<=sizeLine)(both:ak.size+us.size<=sizeLine+1):
  Meets (Builtin.«list.extend» ⟨[.ref l,.ref b],[]⟩) (λ_ R s=>s.heap.get? l=some {cls:=.type "list",dict:=none,data:=.seq ak n,slots:= #[]}/\s.heap.get? b=some {cls:=.type "tuple",dict:=dd,data:=.seq us m,slots:=sl}/\
   R (.ok (.ret d7)) {s with heap:=s.heap.update l (oB λx=>x++us),toks:=s.toks}):=by
 refine .of_wp λprog w A R s h=>?_
 obtain⟨h1,h2,q⟩:=h
 rcases s with⟨hp,g,d,tk,os⟩
 have t1:=F.sub_tuple_tuple
 have t2:=F.sub_list_list
 have t3:=F.sub_tuple_list
 have t4:=F.sub_list_tuple
 have two:(ak++us).size<=sizeLine+1:=by
  rw[Array.size_append]
  exact both
 wp_walk using(wpAny_updateSeq h1 rfl (hz:=fits) (_hz':=two)),wpAny_loadPart' h1,wpAny_loadPart' h2
 exact⟨_,rfl,q⟩
section
variable{X:Cx}
def aaX(K:ai):V->List V->Hp->VK->Prop:=λx vs H Q=>∃l b xs zs,x=.ref l/\vs=[.ref b]/\H l=some (.lst xs)/\aB K H b zs/\xs.length+zs.length<=sizeLine/\Q .aO (upd H l (.lst (xs++zs)))
theorem OH:yj X "list.extend" (aaX X.K):=by
 intro pins s σ H x vs v us Q I rx rv h
 obtain⟨l,b,xs,zs,rfl,rfl,hH,hB,hz,q⟩:=h
 cases rx
 obtain⟨u,rfl,ru⟩:=rv.one
 cases ru
 obtain⟨z,ak,n,r,hl,e⟩:=I.oQ hH
 obtain⟨jq,r2,⟨⟨cl,dd,da,sl⟩,e2,ec,m,ed⟩,z2⟩:=I.tuple hB
 have JE:=r2.length
 dsimp only at ec ed
 subst ec ed
 have fit:ak.toArray.size+jq.toArray.size<=sizeLine:=by rw[cI,cI];omega
 have oR:¬(!ak.toArray.isEmpty&&wI (ak.toArray.size+jq.toArray.size))=true:=by
  rw[BI fit,Bool.and_false]
  exact cG
 refine call_meets F.slot_list_extend ⟨_,e,rfl⟩ F.entry_list_extend (F.args_list_extend_2 _ _) (aaW l b ak.toArray jq.toArray n m dd sl oR (by rw[cI];omega) (by omega)) ⟨e,e2,?_⟩
 refine⟨.aO,_,I.yk (its':=ak++jq) hH e (by simp) (r.append r2) ?_,rfl,q⟩
 rw[bf]
 exact hz
end
end L2
namespace Bp
open PySem PySem.Spec PyProof.Rows L2
open VadiBase (Bytes PName word showNat)
open Vadiaa (Arc)
def gK(K:ai)(H:Hp)(p:Addr)(t:Bytes):Prop:=aB K H p (vB t)/\t≠[]/\t.length<=16
theorem gK.same{K:ai}{H H':Hp}{p:Addr}{t:Bytes}(s:aa H H'):gK K H p t->gK K H' p t:=λ⟨h1,h2,h3⟩=>⟨aa.tup s h1,h2,h3⟩
def mI(ts:List Bytes):Bytes:=ts.flatMap (λt=>t++[32])++[59,10]
theorem OI:∀n,n<50->(w9 (toString ((n:Nat):Int))).cps.toList=(showNat n).map rN:=by decide+kernel
theorem wu:∀n,n<50->showNat n≠[]/\(showNat n).length<=16:=by decide+kernel
theorem ra{y:Str}{b:Bytes}(h:y.cps.toList=b.map rN)(hb:b.length<=1000):y.cps.size<=1000:=by
 rw[<-fg,h,aA]
 exact hb
section
variable{P:Program}{w:World}{K:ai}{mg:Str->Option Value}{base:Heap}{CG:Addr}
theorem OJ{y:Str}{b:Bytes}{σ:L2.St}{H:Hp}{Q:VK}(h:y.cps.toList=b.map rN)(hb:b≠[]/\b.length<=16)(k:∀(H':Hp)(r:Addr),aa H H'->H r=none->H' r=some (.tup (vB b))->gK K H' r b->Q (.ref r) H'):jn pj [] E0 (bT (tC (.str y)) dR) σ H Q:=by
 refine⟨y,rfl,ra h (by omega),λH' r s1 h0 h1=>?_⟩
 rw[nO h]at h1
 exact k H' r s1 h0 h1 ⟨aB.of h1,hb.1,hb.2⟩
theorem aaY(ts:List Bytes)(t:Bytes):(ts++[t]).flatMap (λt=>t++[32])=ts.flatMap (λt=>t++[32])++(t++[32]):=by
 rw[pM]
 simp
theorem zT:∀(ts:List Bytes),(∀t∈ts,t.length<=16)->(ts.flatMap λt=>t++[32]).length<=17*ts.length
 |[],_=>by simp
 |t::ts,h=>by
  have ih:=zT ts λt ht=>h t (by simp[ht])
  have h1:=h t (by simp)
  rw[mO,bf,bf,fZ,bJ]
  omega
def OK(K:ai):Sp:=λvs H Q _=>∃(a:Addr)(as:List Addr)(ts:List Bytes),vs=[.ref a]/\ah K H a (as.map V.ref)/\Paired (gK K H) as ts/\ts.length<=10/\∀(H':Hp)(r:Addr),aa H H'->H r=none->H' r=some (.lst (vB (mI ts)))->Q (.ref r) H'
theorem aaZ{f:Addr}{fd:FuncData}(DS:aS P w K mg base ax 1 "spelled" ["signs"] pj)(F:aQ K "line_of" "line_of" Di f fd):aK P w K mg base ax 2 f fd ["tokens"] (OK K):=by
 refine F.bo Lx (λvs H Q E h=>?_) (λaC A outer s H vs Q E hr h=>?_)
 ·obtain⟨a,as,ts,rfl,_⟩:=h
  rfl
 ·intro XX
  obtain⟨a,as,ts,rfl,hA,hP,hlen,k⟩:=h
  have nd:=Lx.nd
  have mr:as.length=ts.length:=a7 hP
  refine⟨_,aq (aN (i:=1) nd rfl (ay rfl) (cy af))
   (aq (eJ d5 rfl (dM (pv 0)) (bB (i:=2) nd rfl (ay rfl))
    (au (cM (fk fA ua t_ OH (pv 1) (ae (bW Tp (pv 2) (aL DS hr aI (ae fL af))) af)))))
   (aq (cM (fk fA ua t_ OH (pv 1) (ae (aL DS hr aI (ae fL af)) af)))
   (au (aM (pv 1))))),?_⟩
  refine⟨cw _,λl hl=>?_⟩
  have s0:aa H (upd H l (.lst [])):=aa.new hl
  have qN:∀t∈ts,t≠[]/\t.length<=16:=tU hP λ_ _ z=>z.2
  refine⟨_,rfl,a,rfl,⟨_,s0.seq hA⟩,?_⟩
  refine iq (K:=K) (a:=a) (xs:=as.map V.ref) (λi σ H'=>∃v2:Option V,σ=[some (.ref a),some (.ref l),v2]/\aa H H'/\H' l=some (.lst (vB ((ts.take i).flatMap λt=>t++[32])))) ⟨none,rfl,s0,aj⟩ ?_ ?_ ?_
  ·rintro i σ H' _ ⟨_,_,sm,_⟩
   exact sm.seq hA
  ·rintro i y σ H' hi ⟨v2,rfl,sm,hL⟩
   obtain⟨p,hp,rfl⟩:=dO hi
   obtain⟨t,ht,hT⟩:=Paired.at' hP hp
   have l9:=(bE.mp ht).1
   refine⟨_,rfl,.inl ⟨rfl,_,ah.of hL⟩,_,rfl,OJ (K:=K) (b:=[32]) (by decide+kernel) (by decide) λH2 sp s2 _ eQ _=>?_⟩
   obtain⟨q1,q2,q3⟩:=hT.same (sm.trans s2)
   have hvt:vB t≠[]:=λz=>q2 (by cases t with|nil=>rfl|cons a b=>simp[vB]at z)
   refine⟨p,sp,_,_,rfl,rfl,q1,aB.of eQ,hvt,by rw[cE,cE,sizeLine_eq];show t.length+1<=_;omega,λz=>absurd z (by simp[vB]),λ_ c hc=>?_⟩
   have jD:=s2 _ _ hL
   have pD:upd H2 c (.tup (vB t++vB [32])) l=some (.lst (vB ((ts.take i).flatMap λt=>t++[32]))):=by rw[ao (aF jD hc)];exact jD
   refine⟨l,c,_,_,rfl,rfl,pD,aB.of aj,?_,?_⟩
   ·have:=zT (ts.take i) λt ht=>(qN t (rC ht)).2
    rw[fC]at this
    rw[bf,cE,cE,cE,sizeLine_eq]
    show _+(t.length+1)<=_
    omega
   ·refine⟨_,rfl,λb o e=>?_,?_⟩
    ·rw[ao (aF e hl),ao (aF ((sm.trans s2) _ _ e) hc)]
     exact s2 _ _ (sm _ _ e)
    ·rw[aj,take_one ht,aaY,zu,zu]
  ·rintro σ H' ⟨v2,rfl,sm,hL⟩
   rw[aA,mr,cO]at hL
   refine⟨_,rfl,.inl ⟨rfl,_,ah.of hL⟩,OJ (K:=K) (b:=[59,10]) (by decide+kernel) (by decide) λH2 sp s2 _ eQ _=>?_⟩
   have jD:=s2 _ _ hL
   refine⟨l,sp,_,_,rfl,rfl,jD,aB.of eQ,?_,?_⟩
   ·have:=zT ts λt ht=>(qN t ht).2
    rw[cE,cE,sizeLine_eq]
    show _+2<=_
    omega
   ·refine⟨_,rfl,k _ l (λb o e=>?_) hl ?_⟩
    ·rw[ao (aF e hl)]
     exact s2 _ _ (sm _ _ e)
    ·rw[aj]
     unfold mI
     rw[zu]
end
end Bp
set_option Elab.async false
set_option linter.all false
set_option maxRecDepth 100000
set_option maxHeartbeats 4000000
namespace Bp
open PySem PySem.Spec PyProof.Rows L2
open VadiBase (Bytes PName word showNat)
open Vadiaa (Arc)
section
variable{K:ai}{CG:Addr}{ok:Addr->Prop}
theorem mH.same{H H':Hp}{A:mE}{d:d6}(D:mH ok K H A d)(s:aa H H'):mH ok K H' A d:=by
 obtain⟨b1,b2,b3⟩:=D.bx
 obtain⟨l1,l2,l3⟩:=D.mB
 exact⟨D.tT,⟨b1,s _ _ b2,L2.Paired.aX b3 λ_ _ q=>q.same s⟩,D.ed.same s,⟨l1,s _ _ l2,L2.Paired.aX l3 λ_ _ q=>aa.tup s q⟩,D.wi.same s,s _ _ D.ci,s _ _ D.nk,s _ _ D.tu,D.dn.same s,s _ _ D.fr,s _ _ D.rk,D.fit,D.d8,D.eD,D.zP,D.kn⟩
theorem eU.same{H H':Hp}{r:Addr}{d:d6}(s:aa H H'):eU ok K CG H r d->eU ok K CG H' r d:=λ⟨dx,A,h1,h2⟩=>⟨dx,A,s _ _ h1,h2.same s⟩
theorem mH.box{H:Hp}{A:mE}{d:d6}(D:mH ok K H A d){i:Nat}{b:kH}(hi:d.boxes[i]? =some b):∃(bs:List Addr)(p ta:Addr),H A.lb=some (.lst (bs.map V.ref))/\(bs.map V.ref)[i]? =some (.ref p)/\aB K H p [.ref ta,.int (b.w:Int),.int (b.h:Int)]/\gK K H ta b.name.name:=by
 obtain⟨bs,b2,b3⟩:=D.bx
 obtain⟨p,hp,ta,q1,q2⟩:=Paired.at b3 hi
 exact⟨bs,p,ta,b2,by rw[ck,hp];rfl,q1,q2,D.d8 b (bL hi)⟩
theorem OL(b:kH):rH b=mI [word "box",b.name.name,showNat b.w,showNat b.h]:=by
 unfold rH Qv mI
 rw[show word "box "=word "box"++[32] by decide,show word " "=[32] by decide,show word " ;"=[32,59] by decide]
 simp only[mO,GU,mP,Aj,ug,gP]
theorem OM(x:PName×PName):wU x=mI [word "above",x.1.name,x.2.name]:=by
 unfold wU Qv mI
 rw[show word "above "=word "above"++[32] by decide,show word " "=[32] by decide,show word " ;"=[32,59] by decide]
 simp only[mO,GU,mP,Aj,ug,gP]
def pE(e:oy):List Bytes:=[word "edge",e.src.name,word "->",e.dst.name]++(match e.label with|some l=>[word ":",l]|none=>[])
theorem ON(e:oy):uf e=mI (pE e):=by
 unfold uf Qv mI pE
 rw[show word "edge "=word "edge"++[32] by decide,show word " -> "=[32]++word "->"++[32] by decide,show word " ;"=[32,59] by decide]
 cases e.label with
 |none=>simp only[mO,GU,mP,Aj,ug,gP]
 |some l=>
  dsimp only
  rw[show word " : "=[32]++word ":"++[32] by decide]
  simp only[mO,GU,mP,Aj,ug,gP,pM]
theorem FR(ts:List Bytes)(h:∀t∈ts,t.length<=16)(hl:ts.length<=10):(mI ts).length<=172:=by
 have:=zT ts h
 unfold mI
 rw[bf]
 show _+2<=_
 omega
end
section
variable{P:Program}{w:World}{K:ai}{mg:Str->Option Value}{base:Heap}{CG:Addr}{ok:Addr->Prop}
def OO(K:ai)(CG:Addr):Sp:=λvs H Q _=>∃(r e lb:Addr)(d:d6)(x:oy)(ok:Addr->Prop),vs=[.ref r,.ref e,.ref lb]/\eU ok K CG H r d/\x∈d.edges/\oX K H e (jN d x.src,jN d x.dst)/\FI K H lb x/\
 ∀(H':Hp)(t:Addr)(as:List Addr),aa H H'->H' t=some (.lst (as.map V.ref))->Paired (gK K H') as (pE x)->Q (.ref t) H'
theorem aa1{H:Hp}{A:mE}{d:d6}(D:mH ok K H A d){x:oy}(hx:x∈d.edges):(∃b,d.boxes[jN d x.src]? =some b/\b.name.name=x.src.name)/\∃b,d.boxes[jN d x.dst]? =some b/\b.name.name=x.dst.name:=by
 have h:=D.kn (x.src,x.dst) (dZ _ (cJ.mpr ⟨x,hx,rfl⟩))
 exact⟨Br.oF h.1,Br.oF h.2⟩
theorem aa2{f:Addr}{fd:FuncData}(B:cq mg)(T:iJ K CG)(DS:aS P w K mg base ax 1 "spelled" ["signs"] pj)(F:aQ K "edge_tokens" "edge_tokens" Dh f fd):aK P w K mg base ax 2 f fd ["diagram","edge","label"] (OO K CG):=by
 refine F.bo Lw (λvs H Q E h=>?_) (λaC A outer s H vs Q E hr h=>?_)
 ·obtain⟨r,e,lb,d,x,ok,rfl,_⟩:=h
  rfl
 ·intro XX
  obtain⟨r,e,lb,d,x,ok,rfl,⟨dx,Ad,ob,D⟩,hx,hT,hL,k⟩:=h
  have nd:=Lw.nd
  refine⟨_,aq (aN (i:=3) nd rfl (ay rfl) (cy (ae (aL DS hr aI (ae fL af))
    (ae (aG (bQ K) (aG (bj K) (aP (pv 0) rfl) (aG (bQ K) (pv 1) aJ (λ_ _=>rfl)) (λ_ _=>rfl)) aJ (λ_ _=>rfl))
    (ae (aL DS hr aI (ae fL af))
    (ae (aG (bQ K) (aG (bj K) (aP (pv 0) rfl) (aG (bQ K) (pv 1) aJ (λ_ _=>rfl)) (λ_ _=>rfl)) aJ (λ_ _=>rfl)) af))))))
   (aq (bF (bC kU (bK cb (by rfl) B.len bZ (ae (pv 2) af)) aJ (bw _))
    (au (cM (fk fA ua t_ uX (pv 3) (ae (cy (ae (aL DS hr aI (ae fL af)) (ae (pv 2) af))) af)))) bM)
   (au (aM (pv 3)))),?_⟩
  obtain⟨⟨b1,jy,FT⟩,⟨b2,fU,FU⟩⟩:=aa1 D hx
  refine⟨"edge",rfl,ra (b:=word "edge") (by decide+kernel) (by decide),λH1 t1 s1 _ h1=>?_⟩
  rw[nO (b:=word "edge") (by decide+kernel)]at h1
  have p1:gK K H1 t1 (word "edge"):=⟨aB.of h1,by decide,by decide⟩
  have D1:=D.same s1
  obtain⟨bs,pb,tb,q1,q2,q3,q4⟩:=D1.box jy
  refine⟨_,rfl,r,CG,dx,_,_,rfl,s1 _ _ ob,T.cl,T.f1,rfl,_,rfl,e,_,0,_,rfl,rfl,aa.tup s1 hT,dC,Ad.lb,_,_,_,rfl,rfl,ah.of q1,du q2,pb,_,0,_,rfl,rfl,q3,dC,?_⟩
  refine⟨"->",rfl,ra (b:=word "->") (by decide+kernel) (by decide),λH2 t2 s2 _ h2=>?_⟩
  rw[nO (b:=word "->") (by decide+kernel)]at h2
  have p2:gK K H2 t2 (word "->"):=⟨aB.of h2,by decide,by decide⟩
  have D2:=D1.same s2
  obtain⟨bs',FV,iK,FW,FX,FY,FZ⟩:=D2.box fU
  have ku:aa H H2:=s1.trans s2
  refine⟨_,rfl,r,CG,dx,_,_,rfl,ku _ _ ob,T.cl,T.f1,rfl,_,rfl,e,_,1,_,rfl,rfl,aa.tup ku hT,gv,Ad.lb,_,_,_,rfl,rfl,ah.of FW,du FX,FV,_,0,_,rfl,rfl,FY,dC,by show 4<=sizeLine;decide,λl hl=>?_⟩
  have s3:aa H2 (upd H2 l (.lst [.ref t1,.ref tb,.ref t2,.ref iK])):=aa.new hl
  have P3:Paired (gK K (upd H2 l (.lst [.ref t1,.ref tb,.ref t2,.ref iK]))) [t1,tb,t2,iK] [word "edge",x.src.name,word "->",x.dst.name]:=by
   rw[<-FT,<-FU]
   exact .cons (p1.same (s2.trans s3)) (.cons (q4.same (s2.trans s3)) (.cons (p2.same s3) (.cons (FZ.same s3) .nil)))
  have zU:upd H2 l (.lst [.ref t1,.ref tb,.ref t2,.ref iK]) l=some (.lst (([t1,tb,t2,iK]:List Addr).map V.ref)):=aj
  have pF:aa H (upd H2 l (.lst [.ref t1,.ref tb,.ref t2,.ref iK])):=ku.trans s3
  generalize sI:upd H2 l (.lst [.ref t1,.ref tb,.ref t2,.ref iK])=H3 at s3 P3 zU pF
  have pD:aB K H3 lb (vB (x.label.getD [])):=aa.tup pF hL
  refine⟨_,rfl,lb,_,rfl,.inr pD,_,_,rfl,rfl,_,rfl,?_⟩
  rw[cE]
  show if decide ((0:Int)<((x.label.getD []).length:Int))=true then _ else _
  cases tJ:x.label with
  |none=>
   rw[decide_eq_false (by show ¬(0:Int)<(([]:Bytes).length:Int);decide)]
   refine aZ ⟨_,rfl,k _ l _ pF zU ?_⟩
   unfold pE
   rw[tJ]
   exact P3
  |some lt=>
   obtain⟨g1,g2⟩:=D.eD x hx lt tJ
   have sR:0<lt.length:=PQ.mpr g1
   rw[decide_eq_true (by show(0:Int)<(lt.length:Int);omega)]
   rw[tJ]at pD
   refine aY ⟨_,rfl,.inl ⟨rfl,_,ah.of zU⟩,":",rfl,ra (b:=word ":") (by decide+kernel) (by decide),λH4 t4 s4 _ h4=>⟨_,rfl,by show 2<=sizeLine;decide,λc hc=>?_⟩⟩
   rw[nO (b:=word ":") (by decide+kernel)]at h4
   have p4:gK K H4 t4 (word ":"):=⟨aB.of h4,by decide,by decide⟩
   have s5:aa H4 (upd H4 c (.lst [.ref t4,.ref lb])):=aa.new hc
   have zF:=s5 _ _ (s4 _ _ zU)
   refine⟨l,c,_,_,rfl,rfl,zF,aj,by show 4+2<=sizeLine;decide,?_⟩
   have nlH:H l=none:=ku.free hl
   refine⟨_,rfl,k _ l [t1,tb,t2,iK,t4,lb] (λb o z=>?_) (by rw[aj];rfl) ?_⟩
   ·rw[ao (aF z nlH)]
    exact s5 _ _ (s4 _ _ (pF _ _ z))
   ·unfold pE
    rw[tJ]
    have up:∀{p:Addr}{t:Bytes},gK K (upd H4 c (.lst [.ref t4,.ref lb])) p t->gK K (upd (upd H4 c (.lst [.ref t4,.ref lb])) l (.lst (([t1,tb,t2,iK]:List Addr).map V.ref++[.ref t4,.ref lb]))) p t:=λ⟨z1,z2,z3⟩=>⟨aB.br zF z1,z2,z3⟩
    refine Paired.app (l:=[t1,tb,t2,iK]) (L2.Paired.aX P3 λ_ _ z=>up (z.same (s4.trans s5))) (.cons (up (p4.same s5)) (.cons (up ⟨aa.tup (s4.trans s5) pD,g1,g2⟩) .nil))
theorem OP{σ:L2.St}{H:Hp}{Q:VK}{i n:Nat}{R:List V->Hp->VK->Prop}(hR:R=λxs H Q=>∃i,xs=[V.int i]/\i.natAbs.log2<1920/\Q (.str (w9 (toString i))) H)(vO:σ[i]? =some (some (.int (n:Int))))(hn:n<50)
  (k:∀(H':Hp)(r:Addr),aa H H'->H r=none->H' r=some (.tup (vB (showNat n)))->gK K H' r (showNat n)->Q (.ref r) H'):jn pj [] E0 (bT (yc R (bT (bu i) dR)) dR) σ H Q:=by
 subst hR
 refine⟨_,vO,(n:Int),rfl,?_,?_⟩
 ·have h:∀m:Nat,m<50->((m:Int).natAbs).log2<1920:=by decide+kernel
  exact h n hn
 ·refine⟨_,rfl,ra (OI n hn) (by have:=(wu n hn).2;omega),λH' r s1 h0 h1=>?_⟩
  rw[nO (OI n hn)]at h1
  exact k H' r s1 h0 h1 ⟨aB.of h1,(wu n hn).1,(wu n hn).2⟩
end
end Bp
set_option Elab.async false
set_option linter.all false
set_option maxRecDepth 100000
set_option maxHeartbeats 4000000
namespace Bp
open PySem PySem.Spec PyProof.Rows L2
open VadiBase (Bytes PName word showNat)
open Vadiaa (Arc)
theorem tW{α β:Type}{g:α->List β}{l:List α}{i:Nat}{x:α}(h:l[i]? =some x):(l.take (i+1)).flatMap g=(l.take i).flatMap g++g x:=by
 rw[take_one h,pM]
 simp
section
variable{P:Program}{w:World}{K:ai}{mg:Str->Option Value}{base:Heap}{CG:Addr}
def OQ(K:ai)(CG:Addr):Sp:=λvs H Q _=>∃(r:Addr)(d:d6)(ok:Addr->Prop),vs=[.ref r]/\eU ok K CG H r d/\∀(H':Hp)(l:Addr),aa H H'->H l=none->H' l=some (.lst (vB (Aq d)))->(Aq d).length<=16000->Q (.ref l) H'
theorem aa5{f:Addr}{fd:FuncData}(B:cq mg)(T:iJ K CG)(DS:aS P w K mg base ax 1 "spelled" ["signs"] pj)(DL:aS P w K mg base ax 2 "line_of" ["tokens"] (OK K))(DE:aS P w K mg base ax 2 "edge_tokens" ["diagram","edge","label"] (OO K CG))
  (F:aQ K "one_form" "one_form" Dg f fd):aK P w K mg base ax 3 f fd ["diagram"] (OQ K CG):=by
 refine F.bo Lv (λvs H Q E h=>?_) (λaC A outer s H vs Q E hr h=>?_)
 ·obtain⟨r,d,ok,rfl,_⟩:=h
  rfl
 ·intro XX
  obtain⟨r,d,ok,rfl,⟨dx,Ad,ob,D⟩,k⟩:=h
  have nd:=Lv.nd
  have bq:bc 1 _:=hr.mono (by decide)
  have G:=D.fit
  have nb:=G.nb
  have ne:=G.ne
  have nw:=G.nw
  refine⟨_,aq (aN (i:=1) nd rfl (ay rfl) (cy af))
   (aq (eJ d5 rfl (dM (aP (pv 0) rfl)) (iZ K 3 rfl (dA (bB (i:=2) nd rfl (ay rfl)) (dA (bB (i:=3) nd rfl (ay rfl)) (dA (bB (i:=4) nd rfl (ay rfl)) iT))))
    (au (cM (fk fA ua t_ uX (pv 1) (ae (aL DL hr aI (ae (cy (ae (aL DS bq aI (ae fL af)) (ae (pv 2)
     (ae (aL DS bq aI (ae (iu Jj (by rfl) B.str (by decide+kernel) (ae (pv 3) af)) af))
     (ae (aL DS bq aI (ae (iu Jj (by rfl) B.str (by decide+kernel) (ae (pv 4) af)) af)) af))))) af)) af)))))
   (aq (eJ d5 rfl (sO (by rfl) B.enum (ae (aP (pv 0) rfl) af)) (iZ K 2 rfl (dA (bB (i:=5) nd rfl (ay rfl)) (dA (bB (i:=6) nd rfl (ay rfl)) iT)))
    (au (cM (fk fA ua t_ uX (pv 1) (ae (aL DL hr aI (ae (aL DE hr aI (ae (pv 0) (ae (pv 6) (ae (aG (bj K) (aP (pv 0) rfl) (pv 5) (λ_ _=>rfl)) af)))) af)) af)))))
   (aq (eJ d5 rfl (dM (aP (pv 0) rfl)) (iZ K 2 rfl (dA (bB (i:=7) nd rfl (ay rfl)) (dA (bB (i:=8) nd rfl (ay rfl)) iT)))
    (au (cM (fk fA ua t_ uX (pv 1) (ae (aL DL hr aI (ae (cy (ae (aL DS bq aI (ae fL af))
     (ae (aG (bQ K) (aG (bj K) (aP (pv 0) rfl) (pv 7) (λ_ _=>rfl)) aJ (λ_ _=>rfl))
     (ae (aG (bQ K) (aG (bj K) (aP (pv 0) rfl) (pv 8) (λ_ _=>rfl)) aJ (λ_ _=>rfl)) af)))) af)) af)))))
   (au (aM (pv 1)))))),?_⟩
  refine⟨cw _,λl hl=>?_⟩
  have s0:aa H (upd H l (.lst [])):=aa.new hl
  have put:∀{H1 H2:Hp}{t:Addr}{bs ln:Bytes},aa H H1->H1 l=some (.lst (vB bs))->aa H1 H2->H2 t=some (.lst (vB ln))->aa H (upd H2 l (.lst (vB bs++vB ln)))/\upd H2 l (.lst (vB bs++vB ln)) l=some (.lst (vB (bs++ln))):=by
   intro H1 H2 t bs ln a1 a2 a3 a4
   refine⟨λb o e=>?_,?_⟩
   ·rw[ao (aF e hl)]
    exact a3 _ _ (a1 _ _ e)
   ·rw[aj,zu]
  obtain⟨bs,b2,b3⟩:=D.bx
  have eD:bs.length=d.boxes.length:=a7 b3
  refine⟨_,rfl,r,CG,dx,_,_,rfl,s0 _ _ ob,T.cl,T.f1,rfl,Ad.lb,rfl,⟨_,ah.of (s0 _ _ b2)⟩,?_⟩
  refine iq (K:=K) (a:=Ad.lb) (xs:=bs.map V.ref) (λi σ H'=>∃v2 v3 v4:Option V,σ=[some (.ref r),some (.ref l),v2,v3,v4,none,none,none,none]/\aa H H'/\H' l=some (.lst (vB ((d.boxes.take i).flatMap rH)))/\((d.boxes.take i).flatMap rH).length<=172*i) ⟨none,none,none,rfl,s0,aj,cw _⟩ ?_ ?_ ?_
  ·rintro i σ H' _ ⟨_,_,_,_,sm,_⟩
   exact ah.of (sm _ _ b2)
  ·rintro i y σ H' hi ⟨v2,v3,v4,rfl,sm,hL,hlen⟩
   obtain⟨p,hp,rfl⟩:=dO hi
   obtain⟨bx,jI,hU⟩:=Paired.at' b3 hp
   have bV:=bL jI
   have l9:=(bE.mp jI).1
   obtain⟨ta,q1,q2⟩:=hU.same sm
   have F0:=D.d8 bx bV
   have hwd:=D.zP bx bV
   refine⟨p,_,rfl,q1,rfl,_,_,rfl,_,_,rfl,_,_,rfl,rfl,?_⟩
   refine⟨_,rfl,.inl ⟨rfl,_,ah.of hL⟩,"box",rfl,ra (b:=word "box") (by decide+kernel) (by decide),λH1 t1 s1 _ h1=>⟨_,rfl,OP (K:=K) (n:=bx.w) rfl rfl (by omega) λH2 t2 s2 _ _ p2=>OP (K:=K) (n:=bx.h) rfl rfl (by omega) λH3 t3 s3 _ _ p3=>⟨by show 4<=sizeLine;decide,λc hc=>?_⟩⟩⟩
   rw[nO (b:=word "box") (by decide+kernel)]at h1
   have p1:gK K H1 t1 (word "box"):=⟨aB.of h1,by decide,by decide⟩
   have s4:aa H3 (upd H3 c (.lst [.ref t1,.ref ta,.ref t2,.ref t3])):=aa.new hc
   have sc:aa H' (upd H3 c (.lst [.ref t1,.ref ta,.ref t2,.ref t3])):=((s1.trans s2).trans s3).trans s4
   refine⟨c,[t1,ta,t2,t3],[word "box",bx.name.name,showNat bx.w,showNat bx.h],rfl,ah.of aj,?_,by show 4<=10;decide,λH5 t s5 _ h5=>?_⟩
   ·exact .cons (p1.same ((s2.trans s3).trans s4)) (.cons ⟨aa.tup sc q2,F0.1,F0.2⟩ (.cons (p2.same (s3.trans s4)) (.cons (p3.same s4) .nil)))
   rw[<-OL]at h5
   obtain⟨r1,r2⟩:=put sm hL (sc.trans s5) h5
   have l5:(rH bx).length<=172:=by
    rw[OL]
    refine FR _ (λt ht=>?_) (by show 4<=10;decide)
    have ht':t=word "box"\/t=bx.name.name\/t=showNat bx.w\/t=showNat bx.h:=by simpa using ht
    rcases ht' with e|e|e|e
    ·rw[e];decide
    ·rw[e];exact F0.2
    ·rw[e];exact(wu _ (by omega)).2
    ·rw[e];exact(wu _ (by omega)).2
   refine⟨l,t,_,_,rfl,rfl,(sc.trans s5) _ _ hL,h5,by rw[cE,cE,sizeLine_eq];omega,?_⟩
   refine⟨_,_,_,rfl,r1,by rw[tW jI];exact r2,?_⟩
   rw[tW jI,bf]
   omega
  rintro σ H1 ⟨v2,v3,v4,rfl,F1,wx,aa7⟩
  rw[aA,eD,cO]at wx aa7
  obtain⟨es,e2,e3⟩:=D.ed
  have fw:es.length=d.edges.length:=by rw[a7 e3,Br.ie]
  obtain⟨ls,l2,l3⟩:=D.mB
  refine⟨_,rfl,r,CG,dx,_,_,rfl,F1 _ _ ob,T.cl,T.f2,rfl,Ad.le,_,rfl,ah.of (F1 _ _ e2),?_⟩
  refine yY (n:=d.edges.length) (λi σ H'=>∃v5 v6:Option V,σ=[some (.ref r),some (.ref l),v2,v3,v4,v5,v6,none,none]/\aa H H'/\H' l=some (.lst (vB (d.boxes.flatMap rH++(d.edges.take i).flatMap uf)))/\((d.edges.take i).flatMap uf).length<=172*i)
   ⟨none,none,rfl,F1,by simpa using wx,cw _⟩ ?_ ?_ ?_ ?_
  ·rintro i σ H' hi ⟨_,_,_,sm,_⟩
   exact sU (ah.of (sm _ _ e2)) (by rw[aA,fw];exact hi)
  ·rintro σ H' ⟨_,_,_,sm,_⟩
   have:=sV (K:=K) (ah.of (sm _ _ e2))
   rw[aA,fw]at this
   exact this
  ·rintro i σ H' y H2 hi ⟨v5,v6,rfl,sm,hL,hlen⟩ ⟨Tt,z,rfl,hT,rfl,hy⟩
   obtain⟨p,hp,rfl⟩:=dO (hy _ (ah.of (sm _ _ e2)))
   obtain⟨ed,mJ⟩:∃ed,d.edges[i]? =some ed:=⟨_,bX hi⟩
   have bV:=bL mJ
   have hA:(eF d)[i]? =some (jN d ed.src,jN d ed.dst):=by unfold eF;rw[ck,mJ];rfl
   obtain⟨p',ij,pG⟩:=Paired.at e3 hA
   rw[hp]at ij
   cases ij
   obtain⟨lp,F2,F3⟩:=Paired.at l3 mJ
   have sT:aa H' (upd H' Tt (.tup [.int (i:Nat),.ref p])):=aa.new hT
   generalize my:upd H' Tt (.tup [.int (i:Nat),.ref p])=H2 at sT
   have wk:H2 Tt=some (.tup [.int (i:Nat),.ref p]):=by rw[<-my,aj]
   have s2:aa H H2:=sm.trans sT
   refine⟨Tt,_,rfl,aB.of wk,rfl,_,_,rfl,_,_,rfl,rfl,?_⟩
   refine⟨_,rfl,.inl ⟨rfl,_,ah.of (sT _ _ hL)⟩,_,rfl,_,rfl,_,rfl,r,CG,dx,_,_,rfl,s2 _ _ ob,T.cl,T.f3,rfl,_,rfl,Ad.ll,_,(i:Int),_,rfl,rfl,ah.of (s2 _ _ l2),du (v:=.ref lp) (by rw[ck,F2];rfl),r,p,lp,d,ed,ok,rfl,⟨dx,Ad,s2 _ _ ob,D.same s2⟩,bV,aa.tup s2 pG,aa.tup s2 F3,λH3 t as s3 ht hP=>?_⟩
   refine⟨t,as,pE ed,rfl,ah.of ht,hP,?_,λH4 u s4 _ h4=>?_⟩
   ·unfold pE
    cases ed.label<;>simp
   rw[<-ON]at h4
   have l4:(uf ed).length<=172:=by
    rw[ON]
    refine FR _ (tU hP λ_ _ z=>z.2.2) ?_
    unfold pE
    cases ed.label<;>simp
   obtain⟨r1,r2⟩:=put sm hL ((sT.trans s3).trans s4) h4
   refine⟨l,u,_,_,rfl,rfl,((sT.trans s3).trans s4) _ _ hL,h4,by rw[cE,cE,bf,sizeLine_eq];omega,?_⟩
   refine⟨_,_,rfl,r1,by rw[tW mJ,<-mP];exact r2,?_⟩
   rw[tW mJ,bf]
   omega
  rintro σ H2 ⟨v5,v6,rfl,cu,jD,kh⟩
  rw[cO]at jD kh
  obtain⟨ws,w2,w3⟩:=D.wi
  have oh:ws.length=d.wishes.length:=by rw[a7 w3,kg]
  refine⟨_,rfl,r,CG,dx,_,_,rfl,cu _ _ ob,T.cl,T.f4,rfl,Ad.lw,rfl,⟨_,ah.of (cu _ _ w2)⟩,?_⟩
  refine iq (K:=K) (a:=Ad.lw) (xs:=ws.map V.ref) (λi σ H'=>∃v7 v8:Option V,σ=[some (.ref r),some (.ref l),v2,v3,v4,v5,v6,v7,v8]/\aa H H'/\H' l=some (.lst (vB (d.boxes.flatMap rH++d.edges.flatMap uf++(d.wishes.take i).flatMap wU)))/\((d.wishes.take i).flatMap wU).length<=172*i)
   ⟨none,none,rfl,cu,by simpa using jD,cw _⟩ ?_ ?_ ?_
  ·rintro i σ H' _ ⟨_,_,_,sm,_⟩
   exact ah.of (sm _ _ w2)
  ·rintro i y σ H' hi ⟨v7,v8,rfl,sm,hL,hlen⟩
   obtain⟨p,hp,rfl⟩:=dO hi
   have l9:i<ws.length:=(bE.mp hp).1
   obtain⟨x,hx⟩:∃x,d.wishes[i]? =some x:=⟨_,bX (by omega)⟩
   have bV:=bL hx
   have hA:(eN d)[i]? =some (jN d x.1,jN d x.2):=by unfold eN;rw[ck,hx];rfl
   obtain⟨p',ij,pG⟩:=Paired.at w3 hA
   rw[hp]at ij
   cases ij
   have n_:=D.kn x (eL _ bV)
   obtain⟨b1,jy,FT⟩:=Br.oF n_.1
   obtain⟨b2',fU,FU⟩:=Br.oF n_.2
   refine⟨p,_,rfl,aa.tup sm pG,rfl,_,_,rfl,_,_,rfl,rfl,?_⟩
   refine⟨_,rfl,.inl ⟨rfl,_,ah.of hL⟩,"above",rfl,ra (b:=word "above") (by decide+kernel) (by decide),λH3 t3 s3 _ h3=>?_⟩
   rw[nO (b:=word "above") (by decide+kernel)]at h3
   have p3:gK K H3 t3 (word "above"):=⟨aB.of h3,by decide,by decide⟩
   have pF:aa H H3:=sm.trans s3
   have D3:=D.same pF
   obtain⟨bs3,pb,tb,q1,q2,q3,q4⟩:=D3.box jy
   obtain⟨tQ,FV,iK,FW,FX,FY,FZ⟩:=D3.box fU
   refine⟨_,rfl,r,CG,dx,_,_,rfl,pF _ _ ob,T.cl,T.f1,rfl,_,rfl,Ad.lb,_,_,_,rfl,rfl,ah.of q1,du q2,pb,_,0,_,rfl,rfl,q3,dC,_,rfl,r,CG,dx,_,_,rfl,pF _ _ ob,T.cl,T.f1,rfl,_,rfl,Ad.lb,_,_,_,rfl,rfl,ah.of FW,du FX,FV,_,0,_,rfl,rfl,FY,dC,by show 3<=sizeLine;decide,λc hc=>?_⟩
   have s4:aa H3 (upd H3 c (.lst [.ref t3,.ref tb,.ref iK])):=aa.new hc
   have P4:Paired (gK K (upd H3 c (.lst [.ref t3,.ref tb,.ref iK]))) [t3,tb,iK] [word "above",x.1.name,x.2.name]:=by
    rw[<-FT,<-FU]
    exact .cons (p3.same s4) (.cons (q4.same s4) (.cons (FZ.same s4) .nil))
   refine⟨c,[t3,tb,iK],_,rfl,ah.of aj,P4,by show 3<=10;decide,λH5 u s5 _ h5=>?_⟩
   rw[<-OM]at h5
   have l5:(wU x).length<=172:=by
    rw[OM]
    exact FR _ (tU P4 λ_ _ z=>z.2.2) (by show 3<=10;decide)
   obtain⟨r1,r2⟩:=put sm hL ((s3.trans s4).trans s5) h5
   refine⟨l,u,_,_,rfl,rfl,((s3.trans s4).trans s5) _ _ hL,h5,by rw[cE,cE,bf,bf,sizeLine_eq];omega,?_⟩
   refine⟨_,_,rfl,r1,by rw[tW hx,<-mP];exact r2,?_⟩
   rw[tW hx,bf]
   omega
  rintro σ H3 ⟨v7,v8,rfl,mC,pD,MF⟩
  rw[aA,oh,cO]at pD MF
  have OR:Aq d=d.boxes.flatMap rH++d.edges.flatMap uf++d.wishes.flatMap wU:=by unfold Aq;rw[mP]
  refine⟨_,rfl,k H3 l mC hl (by rw[OR];exact pD) ?_⟩
  rw[OR,bf,bf]
  omega
end
end Bp
set_option Elab.async false
set_option linter.all false
set_option maxRecDepth 100000
set_option maxHeartbeats 4000000
namespace Bp
open PySem PySem.Spec PyProof.Rows L2
open Br (cn cg wn Head)
def vI(l:List Int):List V:=l.map V.int
theorem rb(l:List Int):(vI l).length=l.length:=by unfold vI;simp
theorem aa8{l:List Int}{i:Nat}{z:Int}(h:l[i]? =some z):(vI l)[i]? =some (.int z):=by unfold vI;rw[ck,h];rfl
theorem wy{l:List Int}{i:Nat}{z:Int}(h:l[i]? =some z):gp (vI l) (i:Int)=some (.int z):=du (aa8 h)
theorem aa9{l:List Int}{p n:Nat}(h:p+n<=l.length):jo (vI l) (some (p:Int)) (some ((p+n:Nat):Int))=vI ((l.drop p).take n):=by
 unfold jo
 rw[HT.qp,HT.qp,rb]
 have e1:min p l.length=p:=by omega
 have e2:min (p+n) l.length=p+n:=by omega
 rw[e1,e2]
 unfold vI
 rw[Hd,Qs,Nat.add_sub_cancel_left]
structure At(l:List Int)(i:Nat)(c:List (List Int))(t:List Int)(p:Int)(b n:Nat):Prop where
 num:l[i]? =some p
 OS:b=if p=0 then i+2 else i+1
 cnt:if p=0 then l[i+1]? =some (n:Int)else ∃k:Nat,p=(k:Int)/\wn[k]? =some n
 fits:b+n<=l.length
 no:cn c=p
 giv:cg c=(l.drop b).take n
 tl:t=l.drop (b+n)
theorem F4{l r:List Int}{i:Nat}{p:Int}(h:l.drop i=p::r):l[i]? =some p/\r=l.drop (i+1):=by
 have h1:l[i]? =some p:=by
  have:=congrArg (λx=>x[0]?) h
  simpa using this
 refine⟨h1,?_⟩
 have h2:=drop_one h1
 rw[h]at h2
 exact(Am h2).2
theorem aba{l:List Int}{i:Nat}{c:List (List Int)}{t:List Int}(h:Head (l.drop i) c t):∃p b n,At l i c t p b n:=by
 generalize he:l.drop i=x at h
 cases h with
 |load n r h=>
  obtain⟨h1,h2⟩:=F4 he
  obtain⟨h3,h4⟩:=F4 h2.symm
  have hl:i+1<l.length:=(bE.mp h3).1
  have h5:r=l.drop (i+2):=h4
  rw[h5,lQ]at h
  refine⟨0,i+2,n,h1,by rw[if_pos rfl],by rw[if_pos rfl];exact h3,by omega,rfl,?_,?_⟩
  ·show r.take n=_
   rw[h5]
  ·rw[h5,wX]
 |other k n r h1 h2 h3 h4=>
  obtain⟨g1,g2⟩:=F4 he
  have hl:i<l.length:=(bE.mp g1).1
  have hk:¬(k:Int)=0:=by omega
  rw[g2,lQ]at h4
  refine⟨(k:Int),i+1,n,g1,by rw[if_neg hk],by rw[if_neg hk];exact⟨k,rfl,h3⟩,by omega,rfl,?_,?_⟩
  ·show r.take n=_
   rw[g2]
  ·rw[g2,wX]
section
variable{P:Program}{w:World}{K:ai}{mg:Str->Option Value}{base:Heap}
def OT(K:ai):Sp:=λvs H Q _=>∃(a:Addr)(l:List Int)(i:Nat)(p:Int),vs=[.ref a,.int (i:Int)]/\ah K H a (vI l)/\l[i]? =some p/\Q (.int (((if p=0 then i+2 else i+1:Nat)):Int)) H
theorem OU(p:Int):decide (V.int p=V.int 0)=decide (p=0):=decide_eq_decide.mpr ⟨λz=>by injection z,λz=>by rw[z]⟩
theorem abb{f:Addr}{fd:FuncData}(g:GI mg "LOAD" 0)(F:aQ K "given_begin" "given_begin" Cm f fd):aK P w K mg base ax 1 f fd ["numbers","at"] (OT K):=by
 refine F.bo Wb (λvs H Q E h=>?_) (λaC A outer s H vs Q E hr h=>?_)
 ·obtain⟨a,l,i,p,rfl,_⟩:=h
  rfl
 ·intro XX
  obtain⟨a,l,i,p,rfl,hS,hp,k⟩:=h
  refine⟨_,aq (bF (bC ei (aG (bj K) (pv 0) (pv 1) (λ_ _=>rfl)) (bG g) (bw _)) (au (aM (bW fM (pv 1) aJ))) bM) (au (aM (bW fM (pv 1) aJ))),?_⟩
  refine⟨_,rfl,_,rfl,a,_,_,_,rfl,rfl,hS,wy hp,rfl,_,rfl,?_⟩
  rw[OU]
  by_cases h0:p=0
  ·rw[decide_eq_true h0]
   rw[if_pos h0]at k
   exact aY ⟨_,rfl,_,_,rfl,rfl,k⟩
  ·rw[decide_eq_false h0]
   rw[if_neg h0]at k
   exact aZ ⟨_,rfl,_,_,rfl,rfl,k⟩
def OV(K:ai):Sp:=λvs H Q _=>∃(a:Addr)(l:List Int)(i n:Nat)(p:Int),vs=[.ref a,.int (i:Int)]/\ah K H a (vI l)/\l[i]? =some p/\(if p=0 then l[i+1]? =some (n:Int)else ∃k:Nat,p=(k:Int)/\wn[k]? =some n)/\Q (.int (n:Int)) H
theorem abc{f:Addr}{fd:FuncData}(g:GI mg "LOAD" 0)(gW:GT K mg "WHOLE_NUMBERS" (vN wn))(F:aQ K "how_many_given" "how_many_given" Cn f fd):aK P w K mg base ax 1 f fd ["numbers","at"] (OV K):=by
 refine F.bo Wc (λvs H Q E h=>?_) (λaC A outer s H vs Q E hr h=>?_)
 ·obtain⟨a,l,i,n,p,rfl,_⟩:=h
  rfl
 ·intro XX
  obtain⟨a,l,i,n,p,rfl,hS,hp,hn,k⟩:=h
  obtain⟨aw,gm,gs⟩:=gW
  refine⟨_,aq (bF (bC ei (aG (bj K) (pv 0) (pv 1) (λ_ _=>rfl)) (bG g) (bw _)) (au (aM (aG (bj K) (pv 0) (bW fM (pv 1) aJ) (λ_ _=>rfl)))) bM)
   (au (aM (aG (bQ K) (sk (v:=.ref aw) (by rfl) gm rfl (by decide)) (aG (bj K) (pv 0) (pv 1) (λ_ _=>rfl)) (λ_ _=>rfl)))),?_⟩
  refine⟨_,rfl,_,rfl,a,_,_,_,rfl,rfl,hS,wy hp,rfl,_,rfl,?_⟩
  rw[OU]
  by_cases h0:p=0
  ·rw[decide_eq_true h0]
   rw[if_pos h0]at hn
   exact aY ⟨_,rfl,_,rfl,_,_,rfl,rfl,a,_,_,_,rfl,rfl,hS,wy (i:=i+1) hn,k⟩
  ·rw[decide_eq_false h0]
   rw[if_neg h0]at hn
   obtain⟨kk,rfl,hk⟩:=hn
   exact aZ ⟨_,rfl,_,rfl,a,_,_,_,rfl,rfl,hS,wy hp,aw,_,_,_,rfl,rfl,gs _,du (yX hk),k⟩
def lG(ok:Addr->Prop)(K:ai)(H:Hp)(p:Addr)(c:List (List Int)):Prop:=∃g,aB K H p [.int (cn c),.ref g]/\H g=some (.lst (vI (cg c)))/\ok g
theorem lG.same{ok:Addr->Prop}{H H':Hp}{p:Addr}{c:List (List Int)}(s:aa H H'):lG ok K H p c->lG ok K H' p c:=λ⟨g,h1,h2,h3⟩=>⟨g,aa.tup s h1,s _ _ h2,h3⟩
def OW(K:ai):Sp:=λvs H Q _=>∃(a:Addr)(l:List Int)(cs:List (List (List Int))),vs=[.ref a]/\ah K H a (vI l)/\l.length<=17000/\ow jQ l.length l=some cs/\
 ∀(H':Hp)(r:Addr)(as:List Addr),aa H H'->H r=none->H' r=some (.lst (as.map V.ref))->Paired (lG (λg=>H g=none) K H') as cs->Q (.ref r) H'
theorem abd{f:Addr}{fd:FuncData}(B:cq mg)(D1:aS P w K mg base ax 1 "given_begin" ["numbers","at"] (OT K))(D2:aS P w K mg base ax 1 "how_many_given" ["numbers","at"] (OV K))(F:aQ K "calls_read" "calls_read" Ck f fd):aK P w K mg base ax 2 f fd ["numbers"] (OW K):=by
 refine F.bo KR (λvs H Q E h=>?_) (λaC A outer s H vs Q E hr h=>?_)
 ·obtain⟨a,l,cs,rfl,_⟩:=h
  rfl
 ·intro XX
  obtain⟨a,l,cs,rfl,hS,hlen,nI,k⟩:=h
  have nd:=KR.nd
  refine⟨_,aq (aN (i:=1) nd rfl (ay rfl) (cy af))
   (aq (aN (i:=2) nd rfl (ay rfl) aJ)
   (aq (iU d5 (bC kT (pv 2) (bK cb (by rfl) B.len bZ (ae (pv 0) af)) (bw _))
    (aq (aN (i:=3) nd rfl (ay rfl) (aL D1 hr aI (ae (pv 0) (ae (pv 2) af))))
    (aq (aN (i:=4) nd rfl (ay rfl) (bW fM (pv 3) (aL D2 hr aI (ae (pv 0) (ae (pv 2) af)))))
    (aq (cM (fk fA lJ lI j5 (pv 1) (ae (l7 (ae (aG (bj K) (pv 0) (pv 2) (λ_ _=>rfl)) (ae (uQ uT (pv 0) (ni (pv 3)) (ni (pv 4))) af))) af)))
    (au (aN (i:=2) nd rfl (ay rfl) (pv 4)))))))
   (au (aM (pv 1))))),?_⟩
  refine⟨cw _,λr de=>?_⟩
  have s0:aa H (upd H r (.lst [])):=aa.new de
  refine⟨λm σ H'=>∃(i f:Nat)(rg F5:List (List (List Int)))(as:List Addr)(v3 v4:Option V),m=l.length-i/\i<=l.length/\σ=[some (.ref a),some (.ref r),some (.int (i:Int)),v3,v4]/\aa H H'/\H' r=some (.lst (as.map V.ref))/\Paired (lG (λg=>H g=none/\g≠r) K H') as rg/\cs=rg++F5/\ow jQ f (l.drop i)=some F5/\rg.length<=i,
   ⟨_,0,l.length,[],cs,[],none,none,rfl,cw _,rfl,s0,aj,.nil,rfl,by rw[Hc];exact nI,aT _⟩,?_⟩
  rintro m σ H' ⟨i,f,rg,F5,as,v3,v4,rfl,hi,rfl,sm,hR,hP,F6,abe,l1⟩
  have mr:as.length=rg.length:=a7 hP
  refine⟨_,rfl,_,rfl,a,_,rfl,.inl (sm.seq hS),_,_,rfl,rfl,_,rfl,?_⟩
  rw[rb]
  show if decide ((i:Int)<(l.length:Int))=true then _ else _
  rcases Br.IC abe with⟨e1,e2⟩|⟨c,t,qa,f',hh,ht,ec⟩
  ·have:l.length<=i:=Gz.mp e1
   rw[decide_eq_false (by omega:¬(i:Int)<(l.length:Int))]
   rw[e2,gP]at F6
   rw[F6]at k
   exact aZ ⟨_,rfl,k H' r as sm de hR (L2.Paired.aX hP λ_ _ ⟨g,z1,z2,z3⟩=>⟨g,z1,z2,z3.1⟩)⟩
  ·obtain⟨p,b,n,Z⟩:=aba hh
   have aV:i<l.length:=(bE.mp Z.num).1
   have hbi:i<b:=by rw[Z.OS];split<;>omega
   have OX:=Z.fits
   rw[decide_eq_true (by omega:(i:Int)<(l.length:Int))]
   refine aY ⟨λσ' H2=>∃(nT:List Addr)(v3 v4:Option V),σ'=[some (.ref a),some (.ref r),some (.int ((b+n:Nat):Int)),v3,v4]/\aa H H2/\H2 r=some (.lst (nT.map V.ref))/\Paired (lG (λg=>H g=none/\g≠r) K H2) nT (rg++[c]),?_,?_⟩
   ·rintro σ' H2 ⟨nT,w3,w4,rfl,cu,eB,o_⟩
    exact⟨_,by omega,b+n,f',rg++[c],qa,nT,w3,w4,rfl,OX,rfl,cu,eB,o_,by rw[F6,ec];simp,by rw[<-Z.tl];exact ht,by rw[bf,fZ];omega⟩
   refine⟨_,rfl,_,rfl,a,l,i,p,rfl,sm.seq hS,Z.num,?_⟩
   rw[<-Z.OS]
   refine⟨_,rfl,_,rfl,_,rfl,a,l,i,n,p,rfl,sm.seq hS,Z.num,Z.cnt,_,_,rfl,rfl,?_⟩
   refine⟨_,rfl,.inl ⟨rfl,_,ah.of hR⟩,_,rfl,_,rfl,a,_,_,_,rfl,rfl,sm.seq hS,wy Z.num,_,rfl,_,rfl,_,rfl,_,rfl,_,rfl,a,_,rfl,sm.seq hS,λg hg=>?_⟩
   have E4:jo (vI l) (some (b:Int)) (some ((b:Int)+(n:Int)))=vI (cg c):=by
    rw[Z.giv]
    exact aa9 OX
   rw[E4]
   refine⟨by show 2<=sizeLine;decide,λtp gI=>?_⟩
   have s1:aa H' (upd (upd H' g (.lst (vI (cg c)))) tp (.tup [.int p,.ref g])):=(aa.new hg).trans (aa.new gI)
   have F7:=s1 _ _ hR
   refine⟨r,_,_,rfl,rfl,F7,by rw[aA,sizeLine_eq];omega,?_⟩
   refine⟨_,rfl,as++[tp],_,_,rfl,λb' o e=>?_,?_,?_⟩
   ·rw[ao (aF e de)]
    exact s1 _ _ (sm _ _ e)
   ·rw[aj,bI];rfl
   ·have gr:g≠r:=Ne.symm (aF hR hg)
    refine Paired.app (L2.Paired.aX hP λ_ _ z=>?_) (.cons ⟨g,?_,?_,sm.free hg,gr⟩ .nil)
    ·obtain⟨g',z1,z2,z3⟩:=z.same s1
     exact⟨g',aB.br F7 z1,by rw[ao z3.2];exact z2,z3⟩
    ·rw[Z.no]
     exact aB.br F7 (aB.of aj)
    ·rw[ao gr,ao (λz=>by rw[<-z,aj]at gI;cases gI),aj]
end
end Bp
set_option Elab.async false
set_option linter.all false
set_option maxRecDepth 100000
set_option maxHeartbeats 4000000
namespace Bp
open PySem PySem.Spec PyProof.Rows L2
open VadiBase (Bytes PName)
open Vadiaa (Arc rankOf Diagram)
open VadiaaNeutral (encode)
def pH(K:ai)(CG:Addr)(g:Diagram->List Int):Sp:=λvs H Q _=>∃(r:Addr)(d:Diagram)(ok:Addr->Prop),vs=[.ref r]/\eU ok K CG H r d/\∀(H':Hp)(a:Addr),aa H H'->H a=none->H' a=some (.lst (vI (g d)))->(g d).length<=16100->Q (.ref a) H'
def pI(K:ai)(CG:Addr)(g:Diagram->Int->List Int):Sp:=λvs H Q _=>∃(r:Addr)(d:Diagram)(i:Int)(ok:Addr->Prop),vs=[.ref r,.int i]/\eU ok K CG H r d/\∀(H':Hp)(a:Addr),aa H H'->H a=none->H' a=some (.lst (vI (g d i)))->(g d i).length<=16100->Q (.ref a) H'
def OY(K:ai)(CG:Addr)(g:Diagram->Int->Int->List Int):Sp:=λvs H Q _=>∃(r:Addr)(d:Diagram)(i j:Int)(ok:Addr->Prop),vs=[.ref r,.int i,.int j]/\eU ok K CG H r d/\∀(H':Hp)(a:Addr),aa H H'->H a=none->H' a=some (.lst (vI (g d i j)))->(g d i j).length<=16100->Q (.ref a) H'
theorem F8(b:Bytes):vB b=vI (b.map λc=>(c.toNat:Int)):=by unfold vB vI;rw[lU];rfl
theorem rh(l:List Nat):vN l=vI (jg l):=by unfold vN vI jg;rw[lU];rfl
theorem rj(l:List Nat):(jg l).length=l.length:=by unfold jg;simp
section
variable{P:Program}{w:World}{K:ai}{mg:Str->Option Value}{base:Heap}{CG:Addr}
def oo(K:ai):Sp:=λvs H Q _=>∃(a:Addr)(xs:List V),vs=[.ref a]/\(ah K H a xs\/aB K H a xs)/\xs.length<=17000/\∀(H':Hp)(r:Addr),aa H H'->H r=none->H' r=some (.lst (.int (xs.length:Int)::xs))->Q (.ref r) H'
theorem abf{f:Addr}{fd:FuncData}(B:cq mg)(F:aQ K "counted" "counted" Dr f fd):aK P w K mg base ax 1 f fd ["told"] (oo K):=by
 refine F.bo Wx (λvs H Q E h=>?_) (λaC A outer s H vs Q E hr h=>?_)
 ·obtain⟨a,xs,rfl,_⟩:=h
  rfl
 ·intro XX
  obtain⟨a,xs,rfl,hA,hl,k⟩:=h
  refine⟨_,au (aM (bW iy (cy (ae (bK cb (by rfl) B.len bZ (ae (pv 0) af)) af)) (iu yh (by rfl) B.list (by decide+kernel) (ae (pv 0) af)))),?_⟩
  refine⟨_,rfl,a,xs,rfl,hA,by show 1<=sizeLine;decide,λc hc=>?_⟩
  have s1:aa H (upd H c (.lst [.int (xs.length:Int)])):=aa.new hc
  refine⟨_,rfl,a,xs,rfl,hA.imp (λz=>s1.seq z) (λz=>aa.tup s1 z),λe he=>?_⟩
  have BU:c≠e:=λz=>by rw[<-z,aj]at he;cases he
  refine⟨c,e,[.int (xs.length:Int)],xs,rfl,rfl,by rw[ao BU,aj],aj,by show 1+xs.length<=sizeLine;rw[sizeLine_eq];omega,λr de=>?_⟩
  have s2:=s1.trans (aa.new (o:=.lst xs) he)
  exact k _ r (s2.trans (aa.new de)) (s2.free de) aj
def wz(K:ai):Sp:=λvs H Q _=>∃(a:Addr)(i:Int)(xs:List V),vs=[.int i,.ref a]/\ah K H a xs/\Q (.bl (decide (0<=i/\i<(xs.length:Int)))) H
theorem abg{f:Addr}{fd:FuncData}(B:cq mg)(F:aQ K "is_number_of" "is_number_of" Ds f fd):aK P w K mg base ax 1 f fd ["number","things"] (wz K):=by
 refine F.bo Wy (λvs H Q E h=>?_) (λaC A outer s H vs Q E hr h=>?_)
 ·obtain⟨a,i,xs,rfl,_⟩:=h
  rfl
 ·intro XX
  obtain⟨a,i,xs,rfl,hA,k⟩:=h
  refine⟨_,au (aM (xZ m_ kT aJ (pv 0) (bK cb (by rfl) B.len bZ (ae (pv 1) af)))),?_⟩
  refine⟨_,rfl,_,_,rfl,rfl,_,rfl,?_⟩
  show if decide ((0:Int)<=i)=true then _ else _
  by_cases h0:(0:Int)<=i
  ·rw[decide_eq_true h0]
   refine aY ⟨_,rfl,a,xs,rfl,.inl hA,_,_,rfl,rfl,?_⟩
   have e:decide (i<(xs.length:Int))=decide (0<=i/\i<(xs.length:Int)):=decide_eq_decide.mpr ⟨λz=>⟨h0,z⟩,λz=>z.2⟩
   show Q (.bl (decide (i<(xs.length:Int)))) H
   rw[e]
   exact k
  ·rw[decide_eq_false h0]
   have e:decide (0<=i/\i<(xs.length:Int))=false:=decide_eq_false λz=>h0 z.1
   rw[e]at k
   exact aZ k
theorem tY{i:Int}{n:Nat}(h:0<=i/\i<(n:Int)):∃k:Nat,i=(k:Int)/\k<n/\Ak i n=some k:=by
 refine⟨i.toNat,by omega,by omega,?_⟩
 unfold Ak
 rw[if_pos h]
theorem tZ{i:Int}{n:Nat}(h:¬(0<=i/\i<(n:Int))):Ak i n=none:=by
 unfold Ak
 rw[if_neg h]
theorem abh{f:Addr}{fd:FuncData}(T:iJ K CG)(gN:GI mg "NO_SUCH" (-2))(DI:aS P w K mg base ax 1 "is_number_of" ["number","things"] (wz K))(DC:aS P w K mg base ax 1 "counted" ["told"] (oo K))
  (F:aQ K "box_answer" "box_answer" Dt f fd):aK P w K mg base ax 2 f fd ["diagram","number"] (pI K CG λd i=>encode (dk d (.box i))):=by
 refine F.bo LA (λvs H Q E h=>?_) (λaC A outer s H vs Q E hr h=>?_)
 ·obtain⟨r,d,i,ok,rfl,_⟩:=h
  rfl
 ·intro XX
  obtain⟨r,d,i,ok,rfl,⟨dx,Ad,ob,D⟩,k⟩:=h
  dsimp only at k
  have nd:=LA.nd
  refine⟨_,aq (bF (oK (dJ (aL DI hr aI (ae (pv 1) (ae (aP (pv 0) rfl) af))))) (au (aM (cy (ae (bG gN) af)))) bM)
   (aq (aN (i:=2) nd rfl (ay rfl) (aG (bj K) (aP (pv 0) rfl) (pv 1) (λ_ _=>rfl)))
   (au (aM (bW iy (cy (ae (aG (bj K) (aP (pv 0) rfl) (pv 1) (λ_ _=>rfl)) (ae (aG (bQ K) (pv 2) aJ (λ_ _=>rfl)) (ae (aG (bQ K) (pv 2) aJ (λ_ _=>rfl)) af)))) (aL DC hr aI (ae (aG (bQ K) (pv 2) aJ (λ_ _=>rfl)) af)))))),?_⟩
  obtain⟨bs,b2,b3⟩:=D.bx
  have eD:(bs.map V.ref).length=d.boxes.length:=by rw[aA];exact a7 b3
  refine⟨_,rfl,_,rfl,r,CG,dx,_,_,rfl,ob,T.cl,T.f1,rfl,Ad.lb,i,_,rfl,ah.of b2,_,rfl,?_⟩
  rw[eD]
  by_cases hi:0<=i/\i<(d.boxes.length:Int)
  ·rw[decide_eq_true hi]
   obtain⟨n,rfl,hn,jx⟩:=tY hi
   obtain⟨bx,jI⟩:∃bx,d.boxes[n]? =some bx:=⟨_,bX hn⟩
   obtain⟨bs',p,ta,q1,q2,q3,q4⟩:=D.box jI
   have eg:encode (dk d (.box (n:Int)))=(rankOf (cR d) n:Int)::(bx.w:Int)::(bx.h:Int)::((bx.name.name.length:Int)::bx.name.name.map λc=>(c.toNat:Int)):=by
    show encode (kF d (n:Int) (GO d))=_
    unfold kF
    rw[jx]
    show encode (GO d n)=_
    unfold GO
    rw[jI]
    rfl
   have lnm:=(D.d8 bx (bL jI)).2
   have hrl:n<(cR d).length:=by rw[Br.rY D.fit];exact hn
   refine aZ ⟨_,rfl,r,CG,dx,_,_,rfl,ob,T.cl,T.f1,rfl,_,rfl,Ad.lb,_,(n:Int),_,rfl,rfl,ah.of q1,du q2,?_⟩
   refine⟨_,rfl,r,CG,dx,_,_,rfl,ob,T.cl,T.qY,rfl,_,rfl,Ad.rk,_,(n:Int),_,rfl,rfl,ah.of D.rk,i7 hrl,_,rfl,p,_,1,_,rfl,rfl,q3,gv,_,rfl,p,_,2,_,rfl,rfl,q3,du (j:=2) rfl,by show 3<=sizeLine;decide,λc hc=>?_⟩
   have s1:aa H (upd H c (.lst [.int (rankOf (cR d) n:Int),.int (bx.w:Int),.int (bx.h:Int)])):=aa.new hc
   have q_:upd H c (.lst [.int (rankOf (cR d) n:Int),.int (bx.w:Int),.int (bx.h:Int)]) c=some (.lst [.int (rankOf (cR d) n:Int),.int (bx.w:Int),.int (bx.h:Int)]):=aj
   refine⟨_,rfl,p,_,0,_,rfl,rfl,aa.tup s1 q3,dC,ta,_,rfl,.inr (aa.tup s1 q4.1),by rw[cE];omega,λH2 e s2 _ he=>?_⟩
   refine⟨c,e,_,_,rfl,rfl,s2 _ _ q_,he,by show 3+((vB bx.name.name).length+1)<=sizeLine;rw[cE,sizeLine_eq];omega,λa ha=>?_⟩
   refine k _ a ((s1.trans s2).trans (aa.new ha)) ((s1.trans s2).free ha) ?_ ?_
   ·rw[aj,eg,cE,F8]
    rfl
   ·rw[eg]
    simp only[bJ,aA]
    omega
  ·rw[decide_eq_false hi]
   have eg:encode (dk d (.box i))=[-2]:=by
    show encode (kF d i (GO d))=_
    unfold kF
    rw[tZ hi]
    rfl
   refine aY ⟨by show 1<=sizeLine;decide,λa ha=>k _ a (aa.new ha) ha ?_ (by rw[eg];decide)⟩
   rw[aj,eg]
   rfl
theorem abj{f:Addr}{fd:FuncData}(T:iJ K CG)(gN:GI mg "NO_SUCH" (-2))(DI:aS P w K mg base ax 1 "is_number_of" ["number","things"] (wz K))(DC:aS P w K mg base ax 1 "counted" ["told"] (oo K))(DL:aS P w K mg base ax 1 "edge_length" ["edge","ranks"] (zr K))
  (F:aQ K "edge_answer" "edge_answer" Du f fd):aK P w K mg base ax 2 f fd ["diagram","number"] (pI K CG λd i=>encode (dk d (.edge i))):=by
 refine F.bo LB (λvs H Q E h=>?_) (λaC A outer s H vs Q E hr h=>?_)
 ·obtain⟨r,d,i,ok,rfl,_⟩:=h
  rfl
 ·intro XX
  obtain⟨r,d,i,ok,rfl,⟨dx,Ad,ob,D⟩,k⟩:=h
  dsimp only at k
  have nd:=LB.nd
  refine⟨_,aq (bF (oK (dJ (aL DI hr aI (ae (pv 1) (ae (aP (pv 0) rfl) af))))) (au (aM (cy (ae (bG gN) af)))) bM)
   (aq (aN (i:=2) nd rfl (ay rfl) (aG (bj K) (aP (pv 0) rfl) (pv 1) (λ_ _=>rfl)))
   (aq (aN (i:=3) nd rfl (ay rfl) (Be (bC (LG K) (pv 1) (aP (pv 0) rfl) (by with_unfolding_all rfl)) aJ aJ))
   (aq (aN (i:=4) nd rfl (ay rfl) (aL DL hr aI (ae (aG (bj K) (aP (pv 0) rfl) (pv 1) (λ_ _=>rfl)) (ae (aP (pv 0) rfl) af))))
   (au (aM (bW iy (cy (ae (aG (bQ K) (pv 2) aJ (λ_ _=>rfl)) (ae (aG (bQ K) (pv 2) aJ (λ_ _=>rfl)) (ae (pv 3) (ae (pv 4) af))))) (aL DC hr aI (ae (aG (bj K) (aP (pv 0) rfl) (pv 1) (λ_ _=>rfl)) af)))))))),?_⟩
  obtain⟨es,e2,e3⟩:=D.ed
  have fw:(es.map V.ref).length=d.edges.length:=by rw[aA,a7 e3,Br.ie]
  refine⟨_,rfl,_,rfl,r,CG,dx,_,_,rfl,ob,T.cl,T.f2,rfl,Ad.le,i,_,rfl,ah.of e2,_,rfl,?_⟩
  rw[fw]
  by_cases hi:0<=i/\i<(d.edges.length:Int)
  ·rw[decide_eq_true hi]
   obtain⟨n,rfl,hn,jx⟩:=tY hi
   obtain⟨ed,mJ⟩:∃ed,d.edges[n]? =some ed:=⟨_,bX hn⟩
   have hA:(eF d)[n]? =some (jN d ed.src,jN d ed.dst):=by unfold eF;rw[ck,mJ];rfl
   obtain⟨p,hp,pG⟩:=Paired.at e3 hA
   obtain⟨dn,nq⟩:∃x,(kG d)[n]? =some x:=⟨_,bX (by rw[Br.p5];exact hn)⟩
   obtain⟨ds,d2,d3⟩:=D.dn
   obtain⟨q,hq,hQt⟩:=Paired.at d3 nq
   obtain⟨ls,l2,l3⟩:=D.mB
   obtain⟨lp,F2,F3⟩:=Paired.at l3 mJ
   have air:=Br.p6 D.fit.toGood dn (bL nq)
   have rl:=Br.rY D.fit
   have jA:=Br.Rj D.fit hA nq
   have eg:encode (dk d (.edge (n:Int)))=(jN d ed.src:Int)::(jN d ed.dst:Int)::Hn ((eE d).contains n)::((rankOf (cR d) dn.2:Int)-(rankOf (cR d) dn.1:Int))::(((ed.label.getD []).length:Int)::(ed.label.getD []).map λc=>(c.toNat:Int)):=by
    show encode (GF d (n:Int))=_
    unfold GF
    rw[jx]
    show encode (match(d.edges[n]?).map λe=>(n,e)with|none=>_|some x=>_)=_
    rw[mJ,<-jA]
    cases hl:ed.label with
    |none=>simp[encode,hl]
    |some l=>simp[encode,hl,VadiBase.textRow]
   have ais:(ed.label.getD []).length<=16:=by
    cases hl:ed.label with
    |none=>show 0<=16;decide
    |some l=>exact(D.eD ed (bL mJ) l hl).2
   refine aZ ⟨_,rfl,r,CG,dx,_,_,rfl,ob,T.cl,T.f2,rfl,_,rfl,Ad.le,_,(n:Int),_,rfl,rfl,ah.of e2,du (v:=.ref p) (by rw[ck,hp];rfl),?_⟩
   refine⟨_,rfl,_,rfl,r,CG,dx,_,_,rfl,ob,T.cl,T.f8,rfl,Ad.tu,_,rfl,.inl (ah.of D.tu),rfl,DY _,_,rfl,?_⟩
   show if(if false=true then !iw (.int (n:Int)) (vN (eE d))else iw (.int (n:Int)) (vN (eE d)))=true then _ else _
   have ein:(if false=true then !iw (.int (n:Int)) (vN (eE d))else iw (.int (n:Int)) (vN (eE d)))=(eE d).contains n:=by rw[if_neg (by decide)];exact LH n _
   rw[ein]
   have fin:∀(tv:Int),tv=Hn ((eE d).contains n)->l6 (sr (jn (zr K) [] E0 (bT (kS (yd K) (kW K (bu 0) "down") (bu 1)) (bT (kW K (bu 0) "ranks") dR))) (m8 4))
     (qg (kS yl (x9 (bT (kS (ye K) (bu 2) (tC (.int 0))) (bT (kS (ye K) (bu 2) (tC (.int 1))) (bT (bu 3) (bT (bu 4) dR))))) (jn (oo K) [] E0 (bT (kS (yd K) (kW K (bu 0) "labels") (bu 1)) dR))))
     {nx:=λ_ H'=>Q .aO H',rt:=Q} [some (.ref r),some (.int (n:Int)),some (.ref p),some (.int tv),none] H:=by
    intro tv etv
    refine⟨_,rfl,r,CG,dx,_,_,rfl,ob,T.cl,T.f9,rfl,_,rfl,Ad.dn,_,(n:Int),_,rfl,rfl,ah.of d2,du (v:=.ref q) (by rw[ck,hq];rfl),_,rfl,r,CG,dx,_,_,rfl,ob,T.cl,T.qY,rfl,q,Ad.rk,dn,_,rfl,hQt,ah.of D.rk,by omega,by omega,?_⟩
    refine⟨_,rfl,p,_,0,_,rfl,rfl,pG,dC,_,rfl,p,_,1,_,rfl,rfl,pG,gv,_,rfl,_,rfl,by show 4<=sizeLine;decide,λc hc=>?_⟩
    generalize OZ:[V.int ((jN d ed.src:Nat):Int),V.int ((jN d ed.dst:Nat):Int),V.int tv,V.int ((rankOf (cR d) dn.2:Int)-(rankOf (cR d) dn.1:Int))]=xs
    have lxs:xs.length=4:=by rw[<-OZ];rfl
    have s1:aa H (upd H c (.lst xs)):=aa.new hc
    have q_:upd H c (.lst xs) c=some (.lst xs):=aj
    refine⟨_,rfl,r,CG,dx,_,_,rfl,s1 _ _ ob,T.cl,T.f3,rfl,_,rfl,Ad.ll,_,(n:Int),_,rfl,rfl,ah.of (s1 _ _ l2),du (v:=.ref lp) (by rw[ck,F2];rfl),lp,_,rfl,.inr (aa.tup s1 F3),by rw[cE];omega,λH2 e s2 _ he=>?_⟩
    refine⟨c,e,_,_,rfl,rfl,s2 _ _ q_,he,by rw[lxs,bJ,cE,sizeLine_eq];omega,λa ha=>?_⟩
    refine k _ a ((s1.trans s2).trans (aa.new ha)) ((s1.trans s2).free ha) ?_ ?_
    ·rw[aj,eg,cE,F8,<-OZ,etv]
     rfl
    ·rw[eg]
     simp only[bJ,aA]
     omega
   cases zL:(eE d).contains n with
   |true=>exact aY (fin 1 (by rw[zL];rfl))
   |false=>exact aZ (fin 0 (by rw[zL];rfl))
  ·rw[decide_eq_false hi]
   have eg:encode (dk d (.edge i))=[-2]:=by
    show encode (GF d i)=_
    unfold GF
    rw[tZ hi]
    rfl
   refine aY ⟨by show 1<=sizeLine;decide,λa ha=>k _ a (aa.new ha) ha ?_ (by rw[eg];decide)⟩
   rw[aj,eg]
   rfl
end
end Bp
set_option Elab.async false
set_option linter.all false
set_option maxRecDepth 100000
set_option maxHeartbeats 4000000
namespace Bp
open PySem PySem.Spec PyProof.Rows L2
open VadiBase (Bytes PName)
open Vadiaa (Arc rankOf Diagram)
open VadiaaNeutral (encode)
section
variable{P:Program}{w:World}{K:ai}{mg:Str->Option Value}{base:Heap}{CG:Addr}
theorem O0(d:Diagram):(lP d).length<=d.edges.length:=by
 have key:∀(l:List (Arc×Nat))(x:List Arc×List Nat),(l.foldl (Br.kJ d.boxes.length) x).2.length<=x.2.length+l.length:=by
  intro l
  induction l with
  |nil=>intro x;exact aT _
  |cons a l ih=>
   intro x
   rw[pQ,bJ]
   have h1:=ih (Br.kJ d.boxes.length x a)
   have h2:(Br.kJ d.boxes.length x a).2.length<=x.2.length+1:=by
    unfold Br.kJ
    split
    ·show x.2.length<=_;omega
    ·show(x.2++[a.2]).length<=_
     rw[bf,fZ]
     omega
   omega
 rw[Br.HL]
 have:=key (eF d).zipIdx (eN d,[])
 rw[GD,Br.ie]at this
 simpa using this
theorem O1(n:Nat)(l:List Arc)(s t:Nat):encode (match oz n l s t with|none=>VadiBase.one 0|some w=>⟨(w.length:Int),jg w⟩)=(((oz n l s t).getD []).length:Int)::jg ((oz n l s t).getD []):=by
 cases oz n l s t<;>rfl
theorem abo{f:Addr}{fd:FuncData}(T:iJ K CG)(gN:GI mg "NO_SUCH" (-2))(DI:aS P w K mg base ax 1 "is_number_of" ["number","things"] (wz K))(DC:aS P w K mg base ax 1 "counted" ["told"] (oo K))(DW:aS P w K mg base ax 2 "first_way" ["arcs","start","goal"] (y8 K))
  (F:aQ K "circle_answer" "circle_answer" Dv f fd):aK P w K mg base ax 3 f fd ["diagram","number"] (pI K CG λd i=>encode (dk d (.circle i))):=by
 refine F.bo LC (λvs H Q E h=>?_) (λaC A outer s H vs Q E hr h=>?_)
 ·obtain⟨r,d,i,ok,rfl,_⟩:=h
  rfl
 ·intro XX
  obtain⟨r,d,i,ok,rfl,⟨dx,Ad,ob,D⟩,k⟩:=h
  dsimp only at k
  have nd:=LC.nd
  have bq:bc 1 _:=hr.mono (by decide)
  have G:=D.fit
  refine⟨_,aq (bF (oK (dJ (aL DI bq aI (ae (pv 1) (ae (aP (pv 0) rfl) af))))) (au (aM (cy (ae (bG gN) af)))) bM)
   (aq (aN (i:=2) nd rfl (ay rfl) (aG (bj K) (aP (pv 0) rfl) (pv 1) (λ_ _=>rfl)))
   (au (aM (aL DC bq aI (ae (aL DW hr aI (ae (bW iy (aP (pv 0) rfl) (aP (pv 0) rfl)) (ae (aG (bQ K) (pv 2) aJ (λ_ _=>rfl)) (ae (aG (bQ K) (pv 2) aJ (λ_ _=>rfl)) af)))) af))))),?_⟩
  obtain⟨es,e2,e3⟩:=D.ed
  have fw:es.length=d.edges.length:=by rw[a7 e3,Br.ie]
  obtain⟨ws,w2,w3⟩:=D.wi
  have oh:ws.length=d.wishes.length:=by rw[a7 w3,kg]
  have nb:=G.nb
  have ne:=G.ne
  have nw:=G.nw
  refine⟨_,rfl,_,rfl,r,CG,dx,_,_,rfl,ob,T.cl,T.f2,rfl,Ad.le,i,_,rfl,ah.of e2,_,rfl,?_⟩
  rw[aA,fw]
  by_cases hi:0<=i/\i<(d.edges.length:Int)
  ·rw[decide_eq_true hi]
   obtain⟨n,rfl,hn,jx⟩:=tY hi
   obtain⟨aD,hA⟩:∃aD,(eF d)[n]? =some aD:=⟨_,bX (by rw[Br.ie];exact hn)⟩
   obtain⟨p,hp,pG⟩:=Paired.at e3 hA
   have mW:=G.jS aD (bL hA)
   have eg:encode (dk d (.circle (n:Int)))=(((oz d.boxes.length (eF d++eN d) aD.2 aD.1).getD []).length:Int)::jg ((oz d.boxes.length (eF d++eN d) aD.2 aD.1).getD []):=by
    rw[<-O1]
    show encode (GA d (n:Int))=_
    unfold GA
    rw[jx]
    show encode (match(eF d)[n]? with|none=>_|some a=>_)=_
    rw[hA]
    rfl
   have wl:=Br.ID (t:=aD.1) G.kI mW.2
   refine aZ ⟨_,rfl,r,CG,dx,_,_,rfl,ob,T.cl,T.f2,rfl,_,rfl,Ad.le,_,(n:Int),_,rfl,rfl,ah.of e2,du (v:=.ref p) (by rw[ck,hp];rfl),?_⟩
   refine⟨_,rfl,r,CG,dx,_,_,rfl,ob,T.cl,T.f2,rfl,_,rfl,r,CG,dx,_,_,rfl,ob,T.cl,T.f4,rfl,Ad.le,Ad.lw,_,_,rfl,rfl,e2,w2,by rw[aA,aA,fw,oh,sizeLine_eq];omega,λc hc=>?_⟩
   have s1:aa H (upd H c (.lst (es.map V.ref++ws.map V.ref))):=aa.new hc
   have O2:=aa.tup s1 pG
   refine⟨_,rfl,p,_,1,_,rfl,rfl,O2,gv,_,rfl,p,_,0,_,rfl,rfl,O2,dC,c,eF d++eN d,d.boxes.length,aD.2,aD.1,rfl,⟨es++ws,ah.of (by rw[aj,bI]),Paired.app (L2.Paired.aX e3 λ_ _ z=>aa.tup s1 z) (L2.Paired.aX w3 λ_ _ z=>aa.tup s1 z)⟩,by rw[bf,Br.ie,kg];omega,G.kI,mW.2,by omega,λH2 e s2 _ he=>?_⟩
   refine⟨e,_,rfl,.inl (ah.of he),by rw[cA];unfold Br.full at wl;omega,λH3 a s3 h0 ha=>?_⟩
   refine k _ a ((s1.trans s2).trans s3) ((s1.trans s2).free h0) ?_ ?_
   ·rw[ha,eg,cA,rh]
    rfl
   ·rw[eg,bJ,rj]
    unfold Br.full at wl
    omega
  ·rw[decide_eq_false hi]
   have eg:encode (dk d (.circle i))=[-2]:=by
    show encode (GA d i)=_
    unfold GA
    rw[tZ hi]
    rfl
   refine aY ⟨by show 1<=sizeLine;decide,λa ha=>k _ a (aa.new ha) ha ?_ (by rw[eg];decide)⟩
   rw[aj,eg]
   rfl
theorem abp{f:Addr}{fd:FuncData}(T:iJ K CG)(gN:GI mg "NO_SUCH" (-2))(DI:aS P w K mg base ax 1 "is_number_of" ["number","things"] (wz K))(DC:aS P w K mg base ax 1 "counted" ["told"] (oo K))(DW:aS P w K mg base ax 2 "first_way" ["arcs","start","goal"] (y8 K))
  (F:aQ K "way_answer" "way_answer" DH f fd):aK P w K mg base ax 3 f fd ["diagram","start","goal"] (OY K CG λd i j=>encode (dk d (.way i j))):=by
 refine F.bo WB (λvs H Q E h=>?_) (λaC A outer s H vs Q E hr h=>?_)
 ·obtain⟨r,d,i,j,ok,rfl,_⟩:=h
  rfl
 ·intro XX
  obtain⟨r,d,i,j,ok,rfl,⟨dx,Ad,ob,D⟩,k⟩:=h
  dsimp only at k
  have bq:bc 1 _:=hr.mono (by decide)
  have G:=D.fit
  have nb:=G.nb
  have ne:=G.ne
  refine⟨_,aq (bF (oK (dJ (aL DI bq aI (ae (pv 1) (ae (aP (pv 0) rfl) af))))) (au (aM (cy (ae (bG gN) af)))) bM)
   (aq (bF (oK (dJ (aL DI bq aI (ae (pv 2) (ae (aP (pv 0) rfl) af))))) (au (aM (cy (ae (bG gN) af)))) bM)
   (au (aM (aL DC bq aI (ae (aL DW hr aI (ae (aP (pv 0) rfl) (ae (pv 1) (ae (pv 2) af)))) af))))),?_⟩
  obtain⟨bs,b2,b3⟩:=D.bx
  have eD:bs.length=d.boxes.length:=a7 b3
  refine⟨_,rfl,_,rfl,r,CG,dx,_,_,rfl,ob,T.cl,T.f1,rfl,Ad.lb,i,_,rfl,ah.of b2,_,rfl,?_⟩
  rw[aA,eD]
  by_cases hi:0<=i/\i<(d.boxes.length:Int)
  ·rw[decide_eq_true hi]
   obtain⟨n,rfl,hn,jx⟩:=tY hi
   refine aZ ⟨_,rfl,_,rfl,r,CG,dx,_,_,rfl,ob,T.cl,T.f1,rfl,Ad.lb,j,_,rfl,ah.of b2,_,rfl,?_⟩
   rw[aA,eD]
   by_cases hj:0<=j/\j<(d.boxes.length:Int)
   ·rw[decide_eq_true hj]
    obtain⟨m,rfl,hm,hjx⟩:=tY hj
    have eg:encode (dk d (.way (n:Int) (m:Int)))=(((oz d.boxes.length (kG d) n m).getD []).length:Int)::jg ((oz d.boxes.length (kG d) n m).getD []):=by
     rw[<-O1]
     show encode (kF d (n:Int) λa=>kF d (m:Int) λb=>_)=_
     unfold kF
     rw[jx]
     dsimp only
     rw[hjx]
     rfl
    have wl:=Br.ID (t:=m) (Br.p6 G.toGood) hn
    refine aZ ⟨_,rfl,r,CG,dx,_,_,rfl,ob,T.cl,T.f9,rfl,_,rfl,_,rfl,Ad.dn,kG d,d.boxes.length,n,m,rfl,D.dn.at_,by rw[Br.p5];omega,Br.p6 G.toGood,hn,by omega,λH2 e s2 _ he=>?_⟩
    refine⟨e,_,rfl,.inl (ah.of he),by rw[cA];omega,λH3 a s3 h0 ha=>?_⟩
    refine k _ a (s2.trans s3) (s2.free h0) ?_ ?_
    ·rw[ha,eg,cA,rh]
     rfl
    ·rw[eg,bJ,rj]
     omega
   ·rw[decide_eq_false hj]
    have eg:encode (dk d (.way (n:Int) j))=[-2]:=by
     show encode (kF d (n:Int) λa=>kF d j λb=>_)=_
     unfold kF
     rw[jx]
     dsimp only
     rw[tZ hj]
     rfl
    refine aY ⟨by show 1<=sizeLine;decide,λa ha=>k _ a (aa.new ha) ha ?_ (by rw[eg];decide)⟩
    rw[aj,eg]
    rfl
  ·rw[decide_eq_false hi]
   have eg:encode (dk d (.way i j))=[-2]:=by
    show encode (kF d i λa=>kF d j λb=>_)=_
    unfold kF
    rw[tZ hi]
    rfl
   refine aY ⟨by show 1<=sizeLine;decide,λa ha=>k _ a (aa.new ha) ha ?_ (by rw[eg];decide)⟩
   rw[aj,eg]
   rfl
theorem abr{f:Addr}{fd:FuncData}(B:cq mg)(T:iJ K CG)(F:aQ K "ranks_answer" "ranks_answer" Dx f fd):aK P w K mg base ax 1 f fd ["diagram"] (pH K CG λd=>encode (dk d .ranks)):=by
 refine F.bo Wz (λvs H Q E h=>?_) (λaC A outer s H vs Q E hr h=>?_)
 ·obtain⟨r,d,ok,rfl,_⟩:=h
  rfl
 ·intro XX
  obtain⟨r,d,ok,rfl,⟨dx,Ad,ob,D⟩,k⟩:=h
  dsimp only at k
  have rl:=Br.rY D.fit
  have nb:=D.fit.nb
  refine⟨_,au (aM (bW iy (cy (ae (bK L_ (by rfl) B.len bZ (ae (iu (Ej rfl) (by rfl) B.set (by decide+kernel) (ae (aP (pv 0) rfl) af)) af)) af)) (aP (pv 0) rfl))),?_⟩
  refine⟨_,rfl,r,CG,dx,_,_,rfl,ob,T.cl,T.qY,rfl,Ad.rk,(cR d).map λ(n:Nat)=>(n:Int),rfl,by rw[<-zq];exact ah.of D.rk,by rw[aA,rl];omega,λS n st vk qH ⟨ds,ml,hd2,vM⟩ d_=>?_⟩
  refine⟨st,S,n,rfl,aj,by show 1<=sizeLine;decide,λc hc=>?_⟩
  have s1:aa H (upd H st (i4 P w st S n)):=aa.new d_
  have s2:aa H (upd (upd H st (i4 P w st S n)) c (.lst [.int (n:Int)])):=s1.trans (aa.new hc)
  refine⟨_,rfl,r,CG,dx,_,_,rfl,s2 _ _ ob,T.cl,T.qY,rfl,c,Ad.rk,_,_,rfl,rfl,aj,s2 _ _ D.rk,by show 1+(vN (cR d)).length<=sizeLine;rw[cA,rl,sizeLine_eq];omega,λa ha=>?_⟩
  have en:n=P1 (cR d):=by rw[<-hd2];exact Br.Rn ml vM
  refine k _ a (s2.trans (aa.new ha)) (s2.free ha) ?_ ?_
  ·rw[aj,en,rh]
   rfl
  ·show(_::jg (cR d)).length<=_
   rw[bJ,rj,rl]
   omega
theorem abt{f:Addr}{fd:FuncData}(T:iJ K CG)(DL:aS P w K mg base ax 2 "lengths_together" ["edges","ranks"] (MM K))(F:aQ K "lengths_answer" "lengths_answer" Dz f fd):aK P w K mg base ax 3 f fd ["diagram"] (pH K CG λd=>encode (dk d .lengths)):=by
 refine F.bo WA (λvs H Q E h=>?_) (λaC A outer s H vs Q E hr h=>?_)
 ·obtain⟨r,d,ok,rfl,_⟩:=h
  rfl
 ·intro XX
  obtain⟨r,d,ok,rfl,⟨dx,Ad,ob,D⟩,k⟩:=h
  dsimp only at k
  have G:=D.fit
  have ne:=G.ne
  have rl:=Br.rY G
  have ll:=G.uz.len
  refine⟨_,au (aM (cy (ae (aL DL hr aI (ae (aP (pv 0) rfl) (ae (aP (pv 0) rfl) af))) (ae (aL DL hr aI (ae (aP (pv 0) rfl) (ae (aP (pv 0) rfl) af))) af)))),?_⟩
  refine⟨_,rfl,r,CG,dx,_,_,rfl,ob,T.cl,T.f9,rfl,_,rfl,r,CG,dx,_,_,rfl,ob,T.cl,T.qY,rfl,Ad.dn,Ad.rk,kG d,cR d,rfl,D.dn.at_,by rw[Br.p5];omega,ah.of D.rk,by rw[rl];exact Br.p6 G.toGood,λa ha=>Br.Ie G a (dZ _ ha),λH1 s1=>?_⟩
  refine⟨_,rfl,r,CG,dx,_,_,rfl,s1 _ _ ob,T.cl,T.f9,rfl,_,rfl,r,CG,dx,_,_,rfl,s1 _ _ ob,T.cl,T.jc,rfl,Ad.dn,Ad.fr,kG d,wR d,rfl,(D.dn.same s1).at_,by rw[Br.p5];omega,ah.of (s1 _ _ D.fr),by rw[ll];exact Br.p6 G.toGood,λa ha=>G.uz.val a (dZ _ ha),λH2 s2=>?_⟩
  refine⟨by show 2<=sizeLine;decide,λa ha=>k _ a ((s1.trans s2).trans (aa.new ha)) ((s1.trans s2).free ha) ?_ (by show 2<=16100;decide)⟩
  rw[aj]
  rfl
theorem abu{f:Addr}{fd:FuncData}(T:iJ K CG)(DC:aS P w K mg base ax 1 "counted" ["told"] (oo K))(F:aQ K "greedy_answer" "greedy_answer" DK f fd):aK P w K mg base ax 2 f fd ["diagram"] (pH K CG λd=>encode (dk d .greedy)):=by
 refine F.bo WC (λvs H Q E h=>?_) (λaC A outer s H vs Q E hr h=>?_)
 ·obtain⟨r,d,ok,rfl,_⟩:=h
  rfl
 ·intro XX
  obtain⟨r,d,ok,rfl,⟨dx,Ad,ob,D⟩,k⟩:=h
  dsimp only at k
  have G:=D.fit
  have ne:=G.ne
  have gl:(lP d).length<=40:=cp (O0 d) ne
  refine⟨_,au (aM (aL DC hr aI (ae (aP (pv 0) rfl) af))),?_⟩
  refine⟨_,rfl,r,CG,dx,_,_,rfl,ob,T.cl,T.f6,rfl,Ad.nk,_,rfl,.inl (ah.of D.nk),by rw[cA];omega,λH1 a s1 h0 ha=>k _ a s1 h0 ?_ ?_⟩
  ·rw[ha,cA,rh]
   rfl
  ·show(_::jg (lP d)).length<=_
   rw[bJ,rj]
   omega
end
end Bp
set_option Elab.async false
set_option linter.all false
set_option maxRecDepth 100000
set_option maxHeartbeats 4000000
namespace Bp
open PySem PySem.Spec PyProof.Rows L2
open Vadiaa (Arc rankOf Diagram)
open VadiaaNeutral (encode)
def stood(rs:List Nat)(z:Int)(i:Nat):List Nat:=(cW i).filter λv=>decide ((rankOf rs v:Int)=z)
theorem abv(rs:List Nat)(z:Int)(i:Nat):stood rs z (i+1)=stood rs z i++(if(rankOf rs i:Int)=z then[i]else[]):=by
 unfold stood
 rw[G3,ou,f_]
 by_cases h:(rankOf rs i:Int)=z
 ·simp[h]
 ·simp[h]
theorem O3(rs:List Nat)(z:Int)(i:Nat):(stood rs z i).length<=i:=by
 unfold stood
 exact cp (ot _ _) (by simp)
section
variable{P:Program}{w:World}{K:ai}{mg:Str->Option Value}{base:Heap}{CG:Addr}
theorem abw{d:Diagram}(G:Br.gf d)(z:Int):encode (dk d (.rank z))=if stood (cR d) z d.boxes.length=[]then[-2]else((stood (cR d) z d.boxes.length).length:Int)::jg (stood (cR d) z d.boxes.length):=by
 have rl:=Br.rY G
 show encode (match Ak z (P1 (cR d))with|none=>_|some r=>_)=_
 by_cases hz:0<=z/\z<(P1 (cR d):Int)
 ·obtain⟨n,rfl,hn,jx⟩:=tY hz
  rw[jx]
  have bV:=Br.xB.mpr hn
  obtain⟨v,hv,ev⟩:=wK bV
  have er:rankOf (cR d) v=n:=by unfold Vadiaa.rankOf;rw[bX hv,ev];rfl
  have e_:v∈stood (cR d) (n:Int) d.boxes.length:=by
   unfold stood
   exact dh.mpr ⟨gQ.mpr (by omega),decide_eq_true (by rw[er])⟩
  rw[if_neg (λe=>by rw[e]at e_;simp at e_)]
  have el:((cW d.boxes.length).filter λv=>rankOf (cR d) v==n)=stood (cR d) (n:Int) d.boxes.length:=by
   unfold stood
   refine GN λv _=>?_
   rw[gb,beq_iff_eq,decide_eq_true_eq]
   omega
  dsimp only
  rw[el]
  rfl
 ·rw[tZ hz]
  have he:stood (cR d) z d.boxes.length=[]:=by
   unfold stood
   rw[ahk]
   intro v hv
   have fh:=gQ.mp hv
   have:=Br.xB.mp (Br.H_ (rs:=cR d) (v:=v) (by omega))
   rw[decide_eq_true_eq]
   intro e
   apply hz
   omega
  rw[if_pos he]
  rfl
theorem abx{f:Addr}{fd:FuncData}(B:cq mg)(T:iJ K CG)(gN:GI mg "NO_SUCH" (-2))(DC:aS P w K mg base ax 1 "counted" ["told"] (oo K))(F:aQ K "rank_answer" "rank_answer" Dy f fd):aK P w K mg base ax 2 f fd ["diagram","number"] (pI K CG λd i=>encode (dk d (.rank i))):=by
 refine F.bo LD (λvs H Q E h=>?_) (λaC A outer s H vs Q E hr h=>?_)
 ·obtain⟨r,d,i,ok,rfl,_⟩:=h
  rfl
 ·intro XX
  obtain⟨r,d,z,ok,rfl,⟨dx,Ad,ob,D⟩,k⟩:=h
  dsimp only at k
  have nd:=LD.nd
  have G:=D.fit
  have nb:=G.nb
  have rl:=Br.rY G
  refine⟨_,aq (sJ rfl nd (i:=2) rfl rfl (sL rfl rfl rfl rfl) (sO (by rfl) B.enum (ae (aP (pv 0) rfl) af)) (iz (own:=[("box",3),("rank",4)]) rfl)
    (λs H C cl fp=>iZ K 2 rfl (dA (bB (i:=3) nd rfl (ay rfl)) (dA (bB (i:=4) nd rfl (ay rfl)) iT)))
    (λs H C cl fp=>oS (bC ei (pv 4) (pv 1) (bw _)))
    (λs H C cl fp=>pv 3))
   (aq (bF (bC ei (bK cb (by rfl) B.len bZ (ae (pv 2) af)) aJ (bw _)) (au (aM (cy (ae (bG gN) af)))) bM)
   (au (aM (aL DC hr aI (ae (pv 2) af))))),?_⟩
  refine⟨_,rfl,r,CG,dx,_,_,rfl,ob,T.cl,T.qY,rfl,Ad.rk,_,rfl,ah.of D.rk,λL hL=>?_⟩
  refine DU (n:=d.boxes.length) (λi H'=>aa H H'/\H' L=some (.lst (vN (stood (cR d) z i)))) ⟨aa.new hL,aj⟩ ?_ ?_ ?_ ?_
  ·rintro i H' hi ⟨sm,_⟩
   exact sU (ah.of (sm _ _ D.rk)) (by rw[cA,rl];exact hi)
  ·rintro H' ⟨sm,_⟩
   have:=sV (K:=K) (ah.of (sm _ _ D.rk))
   rw[cA,rl]at this
   exact this
  ·rintro i H' x H2 hi ⟨sm,O4⟩ ⟨Tt,y,rfl,hT,rfl,hy⟩
   obtain⟨n,hn,rfl⟩:=qE (hy _ (ah.of (sm _ _ D.rk)))
   have er:rankOf (cR d) i=n:=by unfold Vadiaa.rankOf;rw[hn];rfl
   have sT:aa H' (upd H' Tt (.tup [.int (i:Nat),.int (n:Int)])):=aa.new hT
   have e:=abv (cR d) z i
   rw[er]at e
   refine⟨Tt,_,rfl,aB.of aj,rfl,_,_,rfl,_,_,rfl,rfl,rfl,?_⟩
   refine⟨_,rfl,_,rfl,rfl,_,rfl,?_⟩
   have dd:decide (V.int (n:Int)=V.int z)=decide ((n:Int)=z):=decide_eq_decide.mpr ⟨λq=>by injection q,λq=>by rw[q]⟩
   rw[dd]
   by_cases hz:(n:Int)=z
   ·rw[decide_eq_true hz]
    rw[if_pos hz]at e
    refine aY ⟨_,rfl,_,sT _ _ O4,by rw[cA];have:=O3 (cR d) z i;exact eA (by omega),λb o q=>?_,?_⟩
    ·rw[ao (aF q hL)]
     exact sT _ _ (sm _ _ q)
    ·rw[aj,e,kb]
     rfl
   ·rw[decide_eq_false hz]
    rw[if_neg hz,gP]at e
    refine aZ ⟨sm.trans sT,?_⟩
    rw[e]
    exact sT _ _ O4
  rintro H1 ⟨s1,wx⟩
  have sl:=O3 (cR d) z d.boxes.length
  have eg:=abw G z
  refine⟨_,rfl,L,_,rfl,.inl (ah.of wx),rfl,_,rfl,?_⟩
  have d0:decide (V.int ((vN (stood (cR d) z d.boxes.length)).length:Int)=V.int 0)=decide (stood (cR d) z d.boxes.length=[]):=by
   rw[cA]
   refine decide_eq_decide.mpr ⟨λq=>?_,λq=>by rw[q];rfl⟩
   injection q with q
   exact rA.mp (by omega)
  rw[d0]
  by_cases he:stood (cR d) z d.boxes.length=[]
  ·rw[decide_eq_true he]
   rw[if_pos he]at eg
   refine aY ⟨by show 1<=sizeLine;decide,λa ha=>k _ a (s1.trans (aa.new ha)) (s1.free ha) ?_ (by rw[eg];decide)⟩
   rw[aj,eg]
   rfl
  ·rw[decide_eq_false he]
   rw[if_neg he]at eg
   refine aZ ⟨_,rfl,L,_,rfl,.inl (ah.of wx),by rw[cA];omega,λH2 a s2 h0 ha=>k _ a (s1.trans s2) (s1.free h0) ?_ ?_⟩
   ·rw[ha,eg,cA,rh]
    rfl
   ·rw[eg,bJ,rj]
    omega
theorem aby{f:Addr}{fd:FuncData}(B:cq mg)(T:iJ K CG)(DT:aS P w K mg base ax 1 "least_together" ["boxes","edges"] (MN K))(F:aQ K "parts_answer" "parts_answer" DJ f fd):aK P w K mg base ax 2 f fd ["diagram"] (pH K CG λd=>encode (dk d .parts)):=by
 refine F.bo LF (λvs H Q E h=>?_) (λaC A outer s H vs Q E hr h=>?_)
 ·obtain⟨r,d,ok,rfl,_⟩:=h
  rfl
 ·intro XX
  obtain⟨r,d,ok,rfl,⟨dx,Ad,ob,D⟩,k⟩:=h
  dsimp only at k
  have nd:=LF.nd
  have G:=D.fit
  have nb:=G.nb
  have pl:=Br.Ir d
  refine⟨_,aq (aN (i:=1) nd rfl (ay rfl) (aL DT hr aI (ae (bK cb (by rfl) B.len bZ (ae (aP (pv 0) rfl) af)) (ae (aP (pv 0) rfl) af))))
   (au (aM (bW iy (cy (ae (bK L_ (by rfl) B.len bZ (ae (iu (Ej rfl) (by rfl) B.set (by decide+kernel) (ae (pv 1) af)) af)) af)) (pv 1)))),?_⟩
  obtain⟨bs,b2,b3⟩:=D.bx
  have eD:bs.length=d.boxes.length:=a7 b3
  refine⟨_,rfl,r,CG,dx,_,_,rfl,ob,T.cl,T.f1,rfl,Ad.lb,_,rfl,.inl (ah.of b2),_,rfl,r,CG,dx,_,_,rfl,ob,T.cl,T.f2,rfl,d.boxes.length,Ad.le,eF d,by rw[aA,eD];rfl,D.ed.at_,G.jS,by omega,λH1 e s1 _ he=>?_⟩
  rw[<-Br.xD]at he
  refine⟨_,rfl,e,(Hf d).map λ(n:Nat)=>(n:Int),rfl,by rw[<-zq];exact ah.of he,by rw[aA,pl];omega,λS n st vk qH ⟨ds,ml,hd2,vM⟩ d_=>?_⟩
  refine⟨st,S,n,rfl,aj,by show 1<=sizeLine;decide,λc hc=>?_⟩
  have s2:aa H1 (upd H1 st (i4 P w st S n)):=aa.new d_
  have s3:aa H1 (upd (upd H1 st (i4 P w st S n)) c (.lst [.int (n:Int)])):=s2.trans (aa.new hc)
  refine⟨_,rfl,c,e,_,_,rfl,rfl,aj,s3 _ _ he,by show 1+(vN (Hf d)).length<=sizeLine;rw[cA,pl,sizeLine_eq];omega,λa ha=>?_⟩
  have en:n=((Hf d).zipIdx.filter λx=>x.1==x.2).length:=by rw[<-hd2];exact Br.Ru G.jS ml vM
  refine k _ a ((s1.trans s3).trans (aa.new ha)) ((s1.trans s3).free ha) ?_ ?_
  ·rw[aj,en,rh]
   rfl
  ·show(_::jg (Hf d)).length<=_
   rw[bJ,rj,pl]
   omega
end
end Bp
set_option Elab.async false
set_option linter.all false
set_option maxRecDepth 100000
set_option maxHeartbeats 4000000
namespace Bp
open PySem PySem.Spec PyProof.Rows L2
open Vadiaa (Arc rankOf Diagram)
open VadiaaNeutral (encode)
theorem jJ{p A B:Prop}[Decidable p](h:p)(a:A):if decide p=true then A else B:=by rw[decide_eq_true h];exact aY a
theorem cF{p A B:Prop}[Decidable p](h:¬p)(b:B):if decide p=true then A else B:=by rw[decide_eq_false h];exact aZ b
theorem dg{a b:Int}(h:a≠b):¬V.int a=V.int b:=λz=>by injection z with z;exact h z
def wA(n:Nat):Option rL:=
 if n=1 then some .shown else if n=2 then some .sizes else if n=5 then some .turned else if n=7 then some .ranks else if n=9 then some .lengths else if n=11 then some .parts else if n=12 then some .greedy else none
theorem O5{n:Nat}{cl:rL}(h:wA n=some cl):(n=1/\cl=.shown)\/(n=2/\cl=.sizes)\/(n=5/\cl=.turned)\/(n=7/\cl=.ranks)\/(n=9/\cl=.lengths)\/(n=11/\cl=.parts)\/(n=12/\cl=.greedy):=by
 unfold wA at h
 by_cases h1:n=1
 ·rw[if_pos h1]at h;injection h with h;exact .inl ⟨h1,h.symm⟩
 rw[if_neg h1]at h
 by_cases h2:n=2
 ·rw[if_pos h2]at h;injection h with h;exact .inr (.inl ⟨h2,h.symm⟩)
 rw[if_neg h2]at h
 by_cases h5:n=5
 ·rw[if_pos h5]at h;injection h with h;exact .inr (.inr (.inl ⟨h5,h.symm⟩))
 rw[if_neg h5]at h
 by_cases h7:n=7
 ·rw[if_pos h7]at h;injection h with h;exact .inr (.inr (.inr (.inl ⟨h7,h.symm⟩)))
 rw[if_neg h7]at h
 by_cases h9:n=9
 ·rw[if_pos h9]at h;injection h with h;exact .inr (.inr (.inr (.inr (.inl ⟨h9,h.symm⟩))))
 rw[if_neg h9]at h
 by_cases r9:n=11
 ·rw[if_pos r9]at h;injection h with h;exact .inr (.inr (.inr (.inr (.inr (.inl ⟨r9,h.symm⟩)))))
 rw[if_neg r9]at h
 by_cases r_:n=12
 ·rw[if_pos r_]at h;injection h with h;exact .inr (.inr (.inr (.inr (.inr (.inr ⟨r_,h.symm⟩)))))
 rw[if_neg r_]at h
 cases h
theorem abz{d:Diagram}(G:Br.gf d):(eE d).length<=40:=by
 unfold eE
 split
 ·rename_i hx
  have fi:(iO d).length<=10:=of_decide_eq_true hx
  obtain⟨k,s,h2,h3,h4,h5⟩:=Br.xn G.toGood
  rw[h5]
  have hm:=Br.jk.mp (Pw h4)
  omega
 ·exact cp (O0 d) G.ne
section
variable{P:Program}{w:World}{K:ai}{mg:Str->Option Value}{base:Heap}{CG:Addr}
def O6(K:ai)(CG:Addr):Sp:=λvs H Q _=>∃(r:Addr)(d:Diagram)(n:Nat)(cl:rL)(ok:Addr->Prop),vs=[.ref r,.int (n:Int)]/\eU ok K CG H r d/\wA n=some cl/\∀(H':Hp)(a:Addr),aa H H'->H a=none->H' a=some (.lst (vI (encode (dk d cl))))->(encode (dk d cl)).length<=16100->Q (.ref a) H'
theorem ok_all{f:Addr}{fd:FuncData}(B:cq mg)(T:iJ K CG)(g1:GI mg "SHOWN" 1)(g2:GI mg "SIZES" 2)(g5:GI mg "TURNED" 5)(g7:GI mg "RANKS" 7)(g9:GI mg "LENGTHS" 9)(g11:GI mg "PARTS" 11)
  (DC:aS P w K mg base ax 1 "counted" ["told"] (oo K)) (D1:aS P w K mg base ax 3 "one_form" ["diagram"] (OQ K CG)) (D7:aS P w K mg base ax 1 "ranks_answer" ["diagram"] (pH K CG λd=>encode (dk d .ranks))) (D9:aS P w K mg base ax 3 "lengths_answer" ["diagram"] (pH K CG λd=>encode (dk d .lengths)))
  (D11:aS P w K mg base ax 2 "parts_answer" ["diagram"] (pH K CG λd=>encode (dk d .parts))) (D12:aS P w K mg base ax 2 "greedy_answer" ["diagram"] (pH K CG λd=>encode (dk d .greedy)))
  (F:aQ K "answer_of_all" "answer_of_all" Dq f fd):aK P w K mg base ax 4 f fd ["diagram","call"] (O6 K CG):=by
 refine F.bo Ww (λvs H Q E h=>?_) (λaC A outer s H vs Q E hr h=>?_)
 ·obtain⟨r,d,n,cl,ok,rfl,_⟩:=h
  rfl
 ·intro XX
  obtain⟨r,d,n,cl,ok,rfl,hD,hc,k⟩:=h
  obtain⟨dx,Ad,ob,D⟩:=id hD
  have G:=D.fit
  have nb:=G.nb
  have ne:=G.ne
  have nw:=G.nw
  have bq:bc 1 _:=hr.mono (by decide)
  have dU:bc 2 _:=hr.mono (by decide)
  refine⟨_,aq (bF (bC ei (pv 1) (bG g1) (bw _)) (au (aM (aL DC bq aI (ae (aL D1 hr aI (ae (pv 0) af)) af)))) bM)
   (aq (bF (bC ei (pv 1) (bG g2) (bw _)) (au (aM (cy (ae (bK cb (by rfl) B.len bZ (ae (aP (pv 0) rfl) af)) (ae (bK cb (by rfl) B.len bZ (ae (aP (pv 0) rfl) af)) (ae (bK cb (by rfl) B.len bZ (ae (aP (pv 0) rfl) af)) (ae (bK cb (by rfl) B.len bZ (ae (aP (pv 0) rfl) af)) af))))))) bM)
   (aq (bF (bC ei (pv 1) (bG g5) (bw _)) (au (aM (bW iy (aL DC bq aI (ae (aP (pv 0) rfl) af)) (cy (ae (Be (dJ (aP (pv 0) rfl)) aJ aJ) af))))) bM)
   (aq (bF (bC ei (pv 1) (bG g7) (bw _)) (au (aM (aL D7 bq aI (ae (pv 0) af)))) bM)
   (aq (bF (bC ei (pv 1) (bG g9) (bw _)) (au (aM (aL D9 hr aI (ae (pv 0) af)))) bM)
   (aq (bF (bC ei (pv 1) (bG g11) (bw _)) (au (aM (aL D11 dU aI (ae (pv 0) af)))) bM)
   (au (aM (aL D12 dU aI (ae (pv 0) af))))))))),?_⟩
  rcases O5 hc with⟨rfl,rfl⟩|⟨rfl,rfl⟩|⟨rfl,rfl⟩|⟨rfl,rfl⟩|⟨rfl,rfl⟩|⟨rfl,rfl⟩|⟨rfl,rfl⟩
  ·refine⟨_,rfl,rfl,_,rfl,jJ rfl ?_⟩
   refine⟨_,rfl,r,d,ok,rfl,hD,λH1 l s1 _ hl hlen=>?_⟩
   refine⟨l,_,rfl,.inl (ah.of hl),by rw[cE];omega,λH2 a s2 h0 ha=>k _ a (s1.trans s2) (s1.free h0) ?_ ?_⟩
   ·rw[ha,cE,F8]
    rfl
   ·show(_::(Aq d).map _).length<=_
    rw[bJ,aA]
    omega
  ·refine⟨_,rfl,rfl,_,rfl,cF (dg (by decide)) ?_⟩
   refine⟨_,rfl,rfl,_,rfl,jJ rfl ?_⟩
   obtain⟨bs,b2,b3⟩:=D.bx
   obtain⟨es,e2,e3⟩:=D.ed
   obtain⟨ws,w2,w3⟩:=D.wi
   have eD:bs.length=d.boxes.length:=a7 b3
   have fw:es.length=d.edges.length:=by rw[a7 e3,Br.ie]
   have oh:ws.length=d.wishes.length:=by rw[a7 w3,kg]
   refine⟨_,rfl,r,CG,dx,_,_,rfl,ob,T.cl,T.f1,rfl,Ad.lb,_,rfl,.inl (ah.of b2),_,rfl,r,CG,dx,_,_,rfl,ob,T.cl,T.f2,rfl,Ad.le,_,rfl,.inl (ah.of e2),_,rfl,r,CG,dx,_,_,rfl,ob,T.cl,T.f4,rfl,Ad.lw,_,rfl,.inl (ah.of w2),_,rfl,r,CG,dx,_,_,rfl,ob,T.cl,T.f5,rfl,Ad.c,_,rfl,.inl (ah.of D.ci),by show 4<=sizeLine;decide,λa ha=>k _ a (aa.new ha) ha ?_ (by show 4<=16100;decide)⟩
   rw[aj,aA,aA,aA,cA,eD,fw,oh]
   rfl
  ·refine⟨_,rfl,rfl,_,rfl,cF (dg (by decide)) ?_⟩
   refine⟨_,rfl,rfl,_,rfl,cF (dg (by decide)) ?_⟩
   refine⟨_,rfl,rfl,_,rfl,jJ rfl ?_⟩
   have tl:=abz G
   refine⟨_,rfl,r,CG,dx,_,_,rfl,ob,T.cl,T.f8,rfl,Ad.tu,_,rfl,.inl (ah.of D.tu),by rw[cA];omega,λH1 c s1 _ q_=>?_⟩
   have fin:∀(z:Int),z=Hn (iQ d)->∀e,H1 e=none->∃a b xs ys,V.ref c=.ref a/\V.ref e=.ref b/\upd H1 e (.lst [.int z]) a=some (.lst xs)/\upd H1 e (.lst [.int z]) b=some (.lst ys)/\xs.length+ys.length<=sizeLine/\∀p,upd H1 e (.lst [.int z]) p=none->Q (.ref p) (upd (upd H1 e (.lst [.int z])) p (.lst (xs++ys))):=by
    intro z ez e he
    have s2:aa H1 (upd H1 e (.lst [.int z])):=aa.new he
    refine⟨c,e,_,_,rfl,rfl,s2 _ _ q_,aj,by rw[bJ,cA,sizeLine_eq];show _+1<=_;omega,λa ha=>k _ a ((s1.trans s2).trans (aa.new ha)) ((s1.trans s2).free ha) ?_ ?_⟩
    ·rw[aj,ez,cA,rh]
     show _=some (HO.lst (vI (((eE d).length:Int)::(jg (eE d)++[Hn (iQ d)]))))
     unfold vI
     rw[eV,bI]
     rfl
    ·show(_::(jg (eE d)++[_])).length<=_
     rw[bJ,bf,rj,fZ]
     omega
   refine⟨_,rfl,r,CG,dx,_,_,rfl,s1 _ _ ob,T.cl,T.f7,rfl,_,rfl,?_⟩
   cases hex:iQ d with
   |true=>exact aY ⟨by show 1<=sizeLine;decide,λe he=>fin 1 (by rw[hex];rfl) e he⟩
   |false=>exact aZ ⟨by show 1<=sizeLine;decide,λe he=>fin 0 (by rw[hex];rfl) e he⟩
  ·refine⟨_,rfl,rfl,_,rfl,cF (dg (by decide)) ?_⟩
   refine⟨_,rfl,rfl,_,rfl,cF (dg (by decide)) ?_⟩
   refine⟨_,rfl,rfl,_,rfl,cF (dg (by decide)) ?_⟩
   refine⟨_,rfl,rfl,_,rfl,jJ rfl ?_⟩
   exact⟨_,rfl,r,d,ok,rfl,hD,λH1 a s1 h0 ha hl=>k _ a s1 h0 ha hl⟩
  ·refine⟨_,rfl,rfl,_,rfl,cF (dg (by decide)) ?_⟩
   refine⟨_,rfl,rfl,_,rfl,cF (dg (by decide)) ?_⟩
   refine⟨_,rfl,rfl,_,rfl,cF (dg (by decide)) ?_⟩
   refine⟨_,rfl,rfl,_,rfl,cF (dg (by decide)) ?_⟩
   refine⟨_,rfl,rfl,_,rfl,jJ rfl ?_⟩
   exact⟨_,rfl,r,d,ok,rfl,hD,λH1 a s1 h0 ha hl=>k _ a s1 h0 ha hl⟩
  ·refine⟨_,rfl,rfl,_,rfl,cF (dg (by decide)) ?_⟩
   refine⟨_,rfl,rfl,_,rfl,cF (dg (by decide)) ?_⟩
   refine⟨_,rfl,rfl,_,rfl,cF (dg (by decide)) ?_⟩
   refine⟨_,rfl,rfl,_,rfl,cF (dg (by decide)) ?_⟩
   refine⟨_,rfl,rfl,_,rfl,cF (dg (by decide)) ?_⟩
   refine⟨_,rfl,rfl,_,rfl,jJ rfl ?_⟩
   exact⟨_,rfl,r,d,ok,rfl,hD,λH1 a s1 h0 ha hl=>k _ a s1 h0 ha hl⟩
  ·refine⟨_,rfl,rfl,_,rfl,cF (dg (by decide)) ?_⟩
   refine⟨_,rfl,rfl,_,rfl,cF (dg (by decide)) ?_⟩
   refine⟨_,rfl,rfl,_,rfl,cF (dg (by decide)) ?_⟩
   refine⟨_,rfl,rfl,_,rfl,cF (dg (by decide)) ?_⟩
   refine⟨_,rfl,rfl,_,rfl,cF (dg (by decide)) ?_⟩
   refine⟨_,rfl,rfl,_,rfl,cF (dg (by decide)) ?_⟩
   exact⟨_,rfl,r,d,ok,rfl,hD,λH1 a s1 h0 ha hl=>k _ a s1 h0 ha hl⟩
def zV(n:Nat)(gs:List Int):Option rL:=match gs with
 |[]=>wA n
 |[i]=>if n=3 then some (.box i)else if n=4 then some (.edge i)else if n=6 then some (.circle i)else if n=8 then some (.rank i)else none
 |[i,j]=>if n=10 then some (.way i j)else none
 |_=>none
def O7(K:ai)(CG:Addr):Sp:=λvs H Q _=>∃(r g:Addr)(d:Diagram)(n:Nat)(gs:List Int)(cl:rL)(ok:Addr->Prop),vs=[.ref r,.int (n:Int),.ref g]/\eU ok K CG H r d/\H g=some (.lst (vI gs))/\zV n gs=some cl/\∀(H':Hp)(a:Addr),aa H H'->H a=none->H' a=some (.lst (vI (encode (dk d cl))))->(encode (dk d cl)).length<=16100->Q (.ref a) H'
theorem O8{n:Nat}{gs:List Int}{cl:rL}(h:zV n gs=some cl):(gs=[]/\wA n=some cl)\/(∃i,gs=[i]/\((n=3/\cl=.box i)\/(n=4/\cl=.edge i)\/(n=6/\cl=.circle i)\/(n=8/\cl=.rank i)))\/(∃i j,gs=[i,j]/\n=10/\cl=.way i j):=by
 cases gs with
 |nil=>exact .inl ⟨rfl,h⟩
 |cons i gs=>
  cases gs with
  |nil=>
   refine .inr (.inl ⟨i,rfl,?_⟩)
   have h:(if n=3 then some (Vadiaa.Call.box i)else if n=4 then some (.edge i)else if n=6 then some (.circle i)else if n=8 then some (.rank i)else none)=some cl:=h
   by_cases h3:n=3
   ·rw[if_pos h3]at h;injection h with h;exact .inl ⟨h3,h.symm⟩
   rw[if_neg h3]at h
   by_cases h4:n=4
   ·rw[if_pos h4]at h;injection h with h;exact .inr (.inl ⟨h4,h.symm⟩)
   rw[if_neg h4]at h
   by_cases h6:n=6
   ·rw[if_pos h6]at h;injection h with h;exact .inr (.inr (.inl ⟨h6,h.symm⟩))
   rw[if_neg h6]at h
   by_cases h8:n=8
   ·rw[if_pos h8]at h;injection h with h;exact .inr (.inr (.inr ⟨h8,h.symm⟩))
   rw[if_neg h8]at h
   cases h
  |cons j gs=>
   cases gs with
   |nil=>
    have h:(if n=10 then some (Vadiaa.Call.way i j)else none)=some cl:=h
    by_cases fi:n=10
    ·rw[if_pos fi]at h;injection h with h;exact .inr (.inr ⟨i,j,rfl,fi,h.symm⟩)
    rw[if_neg fi]at h
    cases h
   |cons x gs=>cases h
theorem abD{f:Addr}{fd:FuncData}(B:cq mg)(g3:GI mg "BOX" 3)(g4:GI mg "EDGE" 4)(g6:GI mg "CIRCLE" 6)(g8:GI mg "RANK" 8)
  (DA:aS P w K mg base ax 4 "answer_of_all" ["diagram","call"] (O6 K CG)) (D3:aS P w K mg base ax 2 "box_answer" ["diagram","number"] (pI K CG λd i=>encode (dk d (.box i)))) (D4:aS P w K mg base ax 2 "edge_answer" ["diagram","number"] (pI K CG λd i=>encode (dk d (.edge i))))
  (D6:aS P w K mg base ax 3 "circle_answer" ["diagram","number"] (pI K CG λd i=>encode (dk d (.circle i)))) (D8:aS P w K mg base ax 2 "rank_answer" ["diagram","number"] (pI K CG λd i=>encode (dk d (.rank i)))) (zS:aS P w K mg base ax 3 "way_answer" ["diagram","start","goal"] (OY K CG λd i j=>encode (dk d (.way i j))))
  (F:aQ K "answer_of" "answer_of" Dn f fd):aK P w K mg base ax 5 f fd ["diagram","call","given"] (O7 K CG):=by
 refine F.bo Wv (λvs H Q E h=>?_) (λaC A outer s H vs Q E hr h=>?_)
 ·obtain⟨r,g,d,n,gs,cl,ok,rfl,_⟩:=h
  rfl
 ·intro XX
  obtain⟨r,g,d,n,gs,cl,ok,rfl,hD,hg,hc,k⟩:=h
  have dU:bc 2 _:=hr.mono (by decide)
  have e7:bc 3 _:=hr.mono (by decide)
  refine⟨_,aq (bF (bC ei (bK cb (by rfl) B.len bZ (ae (pv 2) af)) aJ (bw _)) (au (aM (aL DA hr aI (ae (pv 0) (ae (pv 1) af))))) bM)
   (aq (bF (bC ei (pv 1) (bG g3) (bw _)) (au (aM (aL D3 dU aI (ae (pv 0) (ae (aG (bj K) (pv 2) aJ (λ_ _=>rfl)) af))))) bM)
   (aq (bF (bC ei (pv 1) (bG g4) (bw _)) (au (aM (aL D4 dU aI (ae (pv 0) (ae (aG (bj K) (pv 2) aJ (λ_ _=>rfl)) af))))) bM)
   (aq (bF (bC ei (pv 1) (bG g6) (bw _)) (au (aM (aL D6 e7 aI (ae (pv 0) (ae (aG (bj K) (pv 2) aJ (λ_ _=>rfl)) af))))) bM)
   (aq (bF (bC ei (pv 1) (bG g8) (bw _)) (au (aM (aL D8 dU aI (ae (pv 0) (ae (aG (bj K) (pv 2) aJ (λ_ _=>rfl)) af))))) bM)
   (au (aM (aL zS e7 aI (ae (pv 0) (ae (aG (bj K) (pv 2) aJ (λ_ _=>rfl)) (ae (aG (bj K) (pv 2) aJ (λ_ _=>rfl)) af)))))))))),?_⟩
  have l0:∀(x:List Int),x≠[]->¬V.int ((vI x).length:Int)=V.int 0:=λx hx z=>by
   injection z with z
   rw[rb]at z
   exact hx (rA.mp (by omega))
  refine⟨_,rfl,g,_,rfl,.inl (ah.of hg),rfl,_,rfl,?_⟩
  rcases O8 hc with⟨rfl,ha⟩|⟨i,rfl,⟨rfl,rfl⟩|⟨rfl,rfl⟩|⟨rfl,rfl⟩|⟨rfl,rfl⟩⟩|⟨i,j,rfl,rfl,rfl⟩
  ·exact jJ rfl ⟨_,rfl,_,rfl,r,d,n,cl,ok,rfl,hD,ha,k⟩
  ·refine cF (l0 _ (by simp)) ⟨_,rfl,rfl,_,rfl,jJ rfl ?_⟩
   exact⟨_,rfl,_,rfl,g,_,0,_,rfl,rfl,ah.of hg,dC,r,d,i,ok,rfl,hD,k⟩
  ·refine cF (l0 _ (by simp)) ⟨_,rfl,rfl,_,rfl,cF (dg (by decide)) ⟨_,rfl,rfl,_,rfl,jJ rfl ?_⟩⟩
   exact⟨_,rfl,_,rfl,g,_,0,_,rfl,rfl,ah.of hg,dC,r,d,i,ok,rfl,hD,k⟩
  ·refine cF (l0 _ (by simp)) ⟨_,rfl,rfl,_,rfl,cF (dg (by decide)) ⟨_,rfl,rfl,_,rfl,cF (dg (by decide)) ⟨_,rfl,rfl,_,rfl,jJ rfl ?_⟩⟩⟩
   exact⟨_,rfl,_,rfl,g,_,0,_,rfl,rfl,ah.of hg,dC,r,d,i,ok,rfl,hD,k⟩
  ·refine cF (l0 _ (by simp)) ⟨_,rfl,rfl,_,rfl,cF (dg (by decide)) ⟨_,rfl,rfl,_,rfl,cF (dg (by decide)) ⟨_,rfl,rfl,_,rfl,cF (dg (by decide)) ⟨_,rfl,rfl,_,rfl,jJ rfl ?_⟩⟩⟩⟩
   exact⟨_,rfl,_,rfl,g,_,0,_,rfl,rfl,ah.of hg,dC,r,d,i,ok,rfl,hD,k⟩
  ·refine cF (l0 _ (by simp)) ⟨_,rfl,rfl,_,rfl,cF (dg (by decide)) ⟨_,rfl,rfl,_,rfl,cF (dg (by decide)) ⟨_,rfl,rfl,_,rfl,cF (dg (by decide)) ⟨_,rfl,rfl,_,rfl,cF (dg (by decide)) ?_⟩⟩⟩⟩
   exact⟨_,rfl,_,rfl,g,_,0,_,rfl,rfl,ah.of hg,dC,_,rfl,g,_,1,_,rfl,rfl,ah.of hg,gv,r,d,i,j,ok,rfl,hD,k⟩
end
end Bp
set_option Elab.async false
set_option linter.all false
set_option maxRecDepth 100000
set_option maxHeartbeats 4000000
namespace Bp
open PySem PySem.Spec PyProof.Rows L2
open L2.Bx (dB XO XD KQ Cf aU KP vh qD)
open VadiBase (Bytes)
open Vadiaa (Diagram)
open VadiaaNeutral (encode)
open Br (cn cg)
def hf(v:V):List (Str×V):=[("diagram",v)]
structure wB(K:ai)(CH:Addr):Prop where
 cl:ir K CH
 nd:dN K CH "diagram"
section
variable{K:ai}{CG CH:Addr}{ok O9:Addr->Prop}
theorem mH.bar{H H':Hp}{A:mE}{d:Diagram}{ho C dx:Addr}{fs:List (Str×V)}(hr:H ho=some (.ins C dx fs))(b:aE H H' [ho])(D:mH ok K H A d):mH ok K H' A d:=by
 obtain⟨b1,b2,b3⟩:=D.bx
 obtain⟨l1,l2,l3⟩:=D.mB
 have nl:∀{a:Addr}{xs:List V},H a=some (.lst xs)->H' a=some (.lst xs):=λh=>b _ _ h (by simpa using dq h hr (by intro z;cases z))
 exact⟨D.tT,⟨b1,nl b2,L2.Paired.aX b3 λ_ _ q=>q.bar hr b⟩,bD.bar hr b D.ed,⟨l1,nl l2,L2.Paired.aX l3 λ_ _ q=>aB.bar hr b q⟩,bD.bar hr b D.wi,nl D.ci,nl D.nk,nl D.tu,bD.bar hr b D.dn,nl D.fr,nl D.rk,D.fit,D.d8,D.eD,D.zP,D.kn⟩
theorem eU.bar{H H':Hp}{r:Addr}{d:Diagram}{ho C dx:Addr}{v:V}(hr:H ho=some (.ins C dx (hf v)))(b:aE H H' [ho]):eU ok K CG H r d->eU ok K CG H' r d:=λ⟨mD,A,h1,h2⟩=>
 ⟨mD,A,b _ _ h1 (by
  have:r≠ho:=dq h1 hr λz=>by injection z with _ _ z;have:=congrArg w_ z;simp[zK,hf]at this
  simpa using this),h2.bar hr b⟩
theorem eU.weaken{H:Hp}{r:Addr}{d:Diagram}(h:∀x,ok x->O9 x):eU ok K CG H r d->eU O9 K CG H r d:=λ⟨dx,A,h1,D⟩=>⟨dx,A,h1,{D with tT:=λx hx=>h x (D.tT x hx)}⟩
def jK(ok:Addr->Prop)(K:ai)(CG CH:Addr)(H:Hp)(ho:Addr)(o:Option Diagram):Prop:=∃dx v,H ho=some (.ins CH dx (hf v))/\((o=none/\v=.aO)\/∃r d,o=some d/\v=.ref r/\eU ok K CG H r d)
theorem jK.same{H H':Hp}{ho:Addr}{o:Option Diagram}(s:aa H H'):jK ok K CG CH H ho o->jK ok K CG CH H' ho o:=λ⟨dx,v,h1,h2⟩=>⟨dx,v,s _ _ h1,h2.imp id λ⟨r,d,e1,e2,e3⟩=>⟨r,d,e1,e2,e3.same s⟩⟩
end
section
variable{P:Program}{w:World}{K:ai}{mg:Str->Option Value}{base:Heap}{CF CG CH:Addr}
def O_(CH:Addr):Sp:=λvs H Q _=>∃(q dx:Addr),vs=[.ref q]/\H q=some (.ins CH dx [])/\Q .aO (upd H q (.ins CH dx (hf .aO)))
theorem abE{f:Addr}{fd:FuncData}(T:wB K CH)(F:aQ K "__init__" "Holder.__init__" Dj f fd):aK P w K mg base ax 1 f fd ["self"] (O_ CH):=by
 refine F.bo Wt (λvs H Q E h=>?_) (λaC A outer s H vs Q E hr h=>?_)
 ·obtain⟨q,dx,rfl,_⟩:=h
  rfl
 ·intro XX
  obtain⟨q,dx,rfl,hq,k⟩:=h
  refine⟨_,au (eX (pv 0) IV rfl),?_⟩
  exact⟨_,rfl,q,CH,dx,[],rfl,hq,T.cl,T.nd,(by show 0<1000;decide),k⟩
def Pa(K:ai)(CG CH:Addr):Sp:=λvs H Q _=>∃(ho g:Addr)(o:Option Diagram)(b:Bytes)(ok:Addr->Prop),vs=[.ref ho,.ref g]/\jK ok K CG CH H ho o/\ah K H g (vB b)/\b.length<=8192/\(∀x,H x=none->ok x)/\
 (∀fl,jR b=.error fl->∀(H':Hp)(a:Addr),aa H H'->H a=none->H' a=some (.lst (vI [0,(fl.code:Int),(fl.place:Int)]))->Q (.ref a) H')/\
 (∀d,jR b=.ok d->∀(H':Hp)(a:Addr),aE H H' [ho]->H a=none->jK ok K CG CH H' ho (some d)->H' a=some (.lst (vI [1,(d.boxes.length:Int),(d.edges.length:Int),(d.wishes.length:Int)]))->Q (.ref a) H')
theorem abF{f fI:Addr}{fd:FuncData}(B:cq mg)(T:wB K CH)(TG:iJ K CG)(c:dB K CF fI ["code","place"])(mF:mg "Fault"=some (.ref CF))(DD:aS P w K mg base (aU P w CF) 8 "diagram_of" ["text"] (N9 K CF CG))
  (F:aQ K "load" "Holder.load" Dl f fd):aK P w K mg base ax 9 f fd ["self","text"] (Pa K CG CH):=by
 refine F.bo Ly (λvs H Q E h=>?_) (λaC A outer s H vs Q E hr h=>?_)
 ·obtain⟨ho,g,o,b,ok,rfl,_⟩:=h
  rfl
 ·intro XX
  obtain⟨ho,g,o,b,ok,rfl,hO,hS,hlen,az,kE,kO⟩:=h
  have nd:=Ly.nd
  obtain⟨dx,v,ob,hv⟩:=id hO
  refine⟨_,aq (KQ (i:=3) c (by rfl) mF nd rfl rfl rfl rfl
    (λD pn E hx=>au (aN (i:=2) nd rfl (ay rfl) (aL DD hr hx (ae (pv 1) af))))
    (λe=>au (aM (cy (ae aJ (ae (Cf c (by simp) (pv 3) rfl) (ae (Cf c (by simp) (pv 3) rfl) af)))))))
   (aq (eX (pv 0) (pv 2) rfl)
   (au (aM (cy (ae aJ (ae (bK cb (by rfl) B.len bZ (ae (aP (pv 2) rfl) af)) (ae (bK cb (by rfl) B.len bZ (ae (aP (pv 2) rfl) af)) (ae (bK cb (by rfl) B.len bZ (ae (aP (pv 2) rfl) af)) af)))))))),?_⟩
  refine⟨_,rfl,g,b,rfl,hS,hlen,λfl gJ H1 d1 s1 h1=>?_,λd hd H1 r s1 de hD=>?_⟩
  ·refine⟨d1,rfl,λe σ vO he=>?_⟩
   have vp:(σ.set 3 (some (V.ref e)))[3]? =some (some (V.ref e)):=pJ (by rw[vO];show 3<4;decide)
   have ne1:d1≠e:=aF h1 he
   have ml:upd H1 e (XO CF e (some d1) false) d1=some (XD d1 [("code",.int (fl.code:Int)),("place",.int (fl.place:Int))]):=by rw[ao ne1];exact h1
   refine⟨_,vp,e,d1,false,_,_,rfl,aj,ml,rfl,_,vp,e,d1,false,_,_,rfl,aj,ml,rfl,by show 3<=sizeLine;decide,λa ha=>?_⟩
   refine kE fl gJ _ a ((s1.trans (aa.new he)).trans (aa.new ha)) ((s1.trans (aa.new he)).free ha) ?_
   rw[aj]
   rfl
  ·have lz:=s1 _ _ ob
   refine⟨_,rfl,_,rfl,ho,CH,dx,_,rfl,lz,T.cl,T.nd,(by show 1<1000;decide),?_⟩
   have ep:bP "diagram" (.ref r) (hf v)=hf (.ref r):=by
    show(if("diagram":Str)="diagram" then _ else _)=_
    rw[if_pos rfl]
    rfl
   rw[ep]
   have b2:aE H (upd H1 ho (.ins CH dx (hf (.ref r)))) [ho]:=(aE.of s1 _).trans aE.upd
   have F9:=eU.bar lz (aE.upd (o:=.ins CH dx (hf (.ref r)))) (eU.weaken az hD)
   have o2:upd H1 ho (.ins CH dx (hf (.ref r))) ho=some (.ins CH dx (hf (.ref r))):=aj
   generalize my:upd H1 ho (.ins CH dx (hf (.ref r)))=H2 at b2 F9 o2⊢
   obtain⟨F_,Ad,Ga,D⟩:=id F9
   obtain⟨bs,q2,q3⟩:=D.bx
   obtain⟨es,e2,e3⟩:=D.ed
   obtain⟨ws,w2,w3⟩:=D.wi
   have eD:bs.length=d.boxes.length:=a7 q3
   have fw:es.length=d.edges.length:=by rw[a7 e3,Br.ie]
   have oh:ws.length=d.wishes.length:=by rw[a7 w3,kg]
   refine⟨_,rfl,r,CG,F_,_,_,rfl,Ga,TG.cl,TG.f1,rfl,Ad.lb,_,rfl,.inl (ah.of q2),_,rfl,r,CG,F_,_,_,rfl,Ga,TG.cl,TG.f2,rfl,Ad.le,_,rfl,.inl (ah.of e2),_,rfl,r,CG,F_,_,_,rfl,Ga,TG.cl,TG.f4,rfl,Ad.lw,_,rfl,.inl (ah.of w2),by show 4<=sizeLine;decide,λa ha=>?_⟩
   refine kO d hd _ a (b2.trans (aE.new ha)) (b2.free o2 ha) ?_ ?_
   ·exact⟨dx,.ref r,by rw[ao (aF o2 ha)];exact o2,.inr ⟨r,d,rfl,rfl,F9.same (aa.new ha)⟩⟩
   ·rw[aj,aA,aA,aA,eD,fw,oh]
    rfl
end
end Bp
set_option Elab.async false
set_option linter.all false
set_option maxRecDepth 100000
set_option maxHeartbeats 4000000
namespace Bp
open PySem PySem.Spec PyProof.Rows L2
open VadiBase (Bytes)
open Vadiaa (Diagram)
open VadiaaNeutral (encode)
open Br (cn cg)
theorem abG{c:List (List Int)}(h:Px c=true)(hd:∃l t,Br.Head l c t):(∃b,c=[[0],b]/\(∀z∈b,0<=z/\z<256)/\b.length<=8192)\/(∃(n:Nat)(gs:List Int)(cl:rL),c=[(n:Int)::gs]/\n≠0/\zV n gs=some cl/\agV c=some cl):=by
 obtain⟨l,t,hd⟩:=hd
 cases hd with
 |load n r hn=>
  have h:((r.take n).all (λz=>agT z 8)&&decide ((r.take n).length<=8192))=true:=h
  rw[iM]at h
  refine .inl ⟨_,rfl,λz hz=>?_,of_decide_eq_true h.2⟩
  have:=rE.mp h.1 z hz
  unfold agT at this
  rw[iM]at this
  have h1:=of_decide_eq_true this.1
  have h2:=of_decide_eq_true this.2
  omega
 |other k n r h1 h2 h3 h4=>
  right
  rcases Br.IE h1 h2 h3 h4 with⟨e,g⟩|⟨i,e,g⟩|⟨i,j,e,g⟩
  ·rw[e]
   rcases g with rfl|rfl|rfl|rfl|rfl|rfl|rfl<;>exact⟨_,[],_,rfl,by decide,rfl,rfl⟩
  ·rw[e]
   rcases g with rfl|rfl|rfl|rfl<;>exact⟨_,[i],_,rfl,by decide,rfl,rfl⟩
  ·rw[e,g]
   exact⟨10,[i,j],_,rfl,by decide,rfl,rfl⟩
theorem abH{n:Nat}{gs:List Int}{cl:rL}(h:zV n gs=some cl):rK none cl=(none,VadiBase.one (-1))/\∀d,rK (some d) cl=(some d,dk d cl):=by
 cases cl with
 |load b=>
  exfalso
  rcases O8 h with⟨_,ha⟩|⟨i,_,⟨_,e⟩|⟨_,e⟩|⟨_,e⟩|⟨_,e⟩⟩|⟨i,j,_,_,e⟩
  ·rcases O5 ha with⟨_,e⟩|⟨_,e⟩|⟨_,e⟩|⟨_,e⟩|⟨_,e⟩|⟨_,e⟩|⟨_,e⟩<;>cases e
  all_goals cases e
 |_=>exact⟨rfl,λ_=>rfl⟩
theorem abI{b:List Int}(h:∀z∈b,0<=z/\z<256):vB (lL b)=vI b:=by
 unfold vB vI lL
 rw[lU]
 refine PN λz hz=>?_
 obtain⟨h1,h2⟩:=h z hz
 show V.int (((QC z.toNat).toNat:Nat):Int)=V.int z
 have e:(QC z.toNat).toNat=z.toNat % 256:=ahr
 rw[e]
 congr 1
 omega
section
variable{P:Program}{w:World}{K:ai}{mg:Str->Option Value}{base:Heap}{CG CH:Addr}
def Pb(K:ai)(CG CH:Addr):Sp:=λvs H Q _=>∃(ho g:Addr)(o:Option Diagram)(c:List (List Int))(ok:Addr->Prop),vs=[.ref ho,.int (cn c),.ref g]/\jK ok K CG CH H ho o/\H g=some (.lst (vI (cg c)))/\(Px c=true/\∃l t,Br.Head l c t)/\(∀x,H x=none->ok x)/\
 ∀(H':Hp)(a:Addr),aE H H' [ho]->H a=none->jK ok K CG CH H' ho (fB o c).1->H' a=some (.lst (vI (fB o c).2))->(fB o c).2.length<=16100->Q (.ref a) H'
theorem abJ{f:Addr}{fd:FuncData}(T:wB K CH)(g0:GI mg "LOAD" 0)(gD:GI mg "NO_DIAGRAM" (-1))(DL:fX P w K mg base ax 9 CH "load" ["self","text"] (Pa K CG CH))(DO:aS P w K mg base ax 5 "answer_of" ["diagram","call","given"] (O7 K CG))
  (F:aQ K "answer" "Holder.answer" Dk f fd):aK P w K mg base ax 10 f fd ["self","call","given"] (Pb K CG CH):=by
 refine F.bo Wu (λvs H Q E h=>?_) (λaC A outer s H vs Q E hr h=>?_)
 ·obtain⟨ho,g,o,c,ok,rfl,_⟩:=h
  rfl
 ·intro XX
  obtain⟨ho,g,o,c,ok,rfl,hO,hg,kz,az,k⟩:=h
  obtain⟨dx,v,ob,hv⟩:=id hO
  refine⟨_,aq (bF (bC ei (pv 1) (bG g0) (bw _)) (au (aM (dw T.cl DL hr aI (pv 0) (ae (pv 2) af)))) bM)
   (aq (bF (oJ (IX (aP (pv 0) rfl))) (au (aM (cy (ae (bG gD) af)))) bM)
   (au (aM (aL DO (hr.mono (by decide)) aI (ae (aP (pv 0) rfl) (ae (pv 1) (ae (pv 2) af))))))),?_⟩
  rcases abG kz.1 kz.2 with⟨b,rfl,hb,jC⟩|⟨n,gs,cl,rfl,hn,hG,hC⟩
  ·
   have hby:P0 b=true:=by
    unfold P0
    refine rE.mpr λz hz=>?_
    rw[iM]
    exact⟨decide_eq_true (hb z hz).1,decide_eq_true (by have:=(hb z hz).2;omega)⟩
   have fu:fB o [[0],b]=((rK o (.load (lL b))).1,encode (rK o (.load (lL b))).2):=by
    unfold fB
    have:agV [[0],b]=some (.load (lL b)):=by
     show(if P0 b=true then _ else _)=_
     rw[if_pos hby]
    rw[this]
   rw[fu]at k
   have hS:ah K H g (vB (lL b)):=by rw[abI hb];exact ah.of hg
   refine⟨_,rfl,rfl,_,rfl,jJ rfl ?_⟩
   refine⟨_,rfl,ho,dx,_,rfl,ob,rfl,_,rfl,ho,g,o,lL b,ok,rfl,hO,hS,by unfold lL;rw[aA];exact jC,az,λfl gJ H1 a s1 h0 ha=>?_,λd hd H1 a b1 h0 h1 ha=>?_⟩
   ·have e:rK o (.load (lL b))=(o,VadiBase.faulty fl):=by
     show(match jR (lL b)with| .ok d=>_| .error f=>_)=_
     rw[gJ]
    rw[e]at k
    exact k H1 a (aE.of s1 _) h0 (hO.same s1) ha (by show 3<=16100;decide)
   ·have e:rK o (.load (lL b))=(some d,⟨1,jg [d.boxes.length,d.edges.length,d.wishes.length]⟩):=by
     show(match jR (lL b)with| .ok d=>_| .error f=>_)=_
     rw[hd]
    rw[e]at k
    exact k H1 a b1 h0 h1 ha (by show 4<=16100;decide)
  ·have fu:fB o [(n:Int)::gs]=((rK o cl).1,encode (rK o cl).2):=by
    unfold fB
    rw[hC]
   rw[fu]at k
   have hcg:cg [(n:Int)::gs]=gs:=rfl
   rw[hcg]at hg
   obtain⟨e1,e2⟩:=abH hG
   refine⟨_,rfl,rfl,_,rfl,cF (dg (show(n:Int)≠0 by omega)) ?_⟩
   refine⟨_,rfl,ho,CH,dx,_,_,rfl,ob,T.cl,T.nd,rfl,_,rfl,?_⟩
   rcases hv with⟨rfl,rfl⟩|⟨r,d,rfl,rfl,hD⟩
   ·rw[e1]at k
    refine jJ rfl ⟨by show 1<=sizeLine;decide,λa ha=>?_⟩
    refine k _ a (aE.new ha) ha (hO.same (aa.new ha)) ?_ (by show 1<=16100;decide)
    rw[aj]
    rfl
   ·rw[e2]at k
    refine cF (λz=>by cases z) ?_
    exact⟨_,rfl,ho,CH,dx,_,_,rfl,ob,T.cl,T.nd,rfl,_,rfl,_,rfl,r,g,d,n,gs,cl,ok,rfl,hD,hg,hG,λH1 a s1 h0 ha hl=>k H1 a (aE.of s1 _) h0 (hO.same s1) ha hl⟩
theorem eU.zW{H:Hp}{tl r:Addr}{d:Diagram}{ys zs:List V}(ht:H tl=some (.lst ys)):eU (λb=>b≠tl) K CG H r d->eU (λb=>b≠tl) K CG (upd H tl (.lst zs)) r d:=λ⟨dx,A,h1,D⟩=>by
 have nl:∀{a:Addr}{o:HO},a≠tl->H a=some o->upd H tl (.lst zs) a=some o:=λh1 h2=>by rw[ao h1];exact h2
 have na:∀{a:Addr}{l:List Vadiaa.Arc},a≠tl->bD K H a l->bD K (upd H tl (.lst zs)) a l:=λh1 ⟨ps,h2,h3⟩=>⟨ps,nl h1 h2,L2.Paired.aX h3 λ_ _ q=>aB.br ht q⟩
 obtain⟨b1,b2,b3⟩:=D.bx
 obtain⟨l1,l2,l3⟩:=D.mB
 have k:∀x∈A.all,x≠tl:=D.tT
 unfold mE.all at k
 refine⟨dx,A,by rw[ao (dq h1 ht (by intro z;cases z))];exact h1,D.tT,⟨b1,nl (k _ (by simp)) b2,L2.Paired.aX b3 λ_ _ q=>q.br ht⟩,na (k _ (by simp)) D.ed,⟨l1,nl (k _ (by simp)) l2,L2.Paired.aX l3 λ_ _ q=>aB.br ht q⟩,na (k _ (by simp)) D.wi,nl (k _ (by simp)) D.ci,nl (k _ (by simp)) D.nk,nl (k _ (by simp)) D.tu,na (k _ (by simp)) D.dn,nl (k _ (by simp)) D.fr,nl (k _ (by simp)) D.rk,D.fit,D.d8,D.eD,D.zP,D.kn⟩
theorem jK.zW{H:Hp}{tl ho:Addr}{o:Option Diagram}{ys zs:List V}(ht:H tl=some (.lst ys)):jK (λb=>b≠tl) K CG CH H ho o->jK (λb=>b≠tl) K CG CH (upd H tl (.lst zs)) ho o:=λ⟨dx,v,h1,h2⟩=>
 ⟨dx,v,by rw[ao (dq h1 ht (by intro z;cases z))];exact h1,h2.imp id λ⟨r,d,e1,e2,e3⟩=>⟨r,d,e1,e2,e3.zW ht⟩⟩
def after(o:Option Diagram)(cs:List (List (List Int))):Option Diagram:=cs.foldl (λo c=>(fB o c).1) o
theorem Pc:∀(cs:List (List (List Int)))(o:Option Diagram)(c:List (List Int)),rJ fB o (cs++[c])=rJ fB o cs++[(fB (after o cs) c).2]
 |[],o,c=>rfl
 |x::cs,o,c=>by
  show(fB o x).2::rJ fB (fB o x).1 (cs++[c])=_
  rw[Pc cs]
  rfl
theorem abM(l:List (List Int))(a:List Int):rM (l++[a])=rM l++((a.length:Int)::a):=by
 unfold rM
 rw[pM]
 simp
theorem abN(o:Option Diagram)(cs:List (List (List Int)))(c:List (List Int)):after o (cs++[c])=(fB (after o cs) c).1:=by
 unfold after
 rw[GK]
 rfl
def Gb(K:ai):Sp:=λvs H Q _=>∃(a:Addr)(l:List Int),vs=[.ref a]/\ah K H a (vI l)/\l.length<=17000/\ag3 l=true/\∀(H':Hp)(r:Addr),H' r=some (.lst (vI (PV l)))->Q (.ref r) H'
theorem abO{f:Addr}{fd:FuncData}(B:cq mg)(T:wB K CH)(MH:lj P w K mg base ax 1 "Holder" CH ["self"] (O_ CH))(DC:aS P w K mg base ax 2 "calls_read" ["numbers"] (OW K))(DA:fX P w K mg base ax 10 CH "answer" ["self","call","given"] (Pb K CG CH))
  (F:aQ K "answers" "answers" Dm f fd):aK P w K mg base ax 11 f fd ["calls"] (Gb K):=by
 refine F.bo Lz (λvs H Q E h=>?_) (λaC A outer s H vs Q E hr h=>?_)
 ·obtain⟨a,l,rfl,_⟩:=h
  rfl
 ·intro XX
  obtain⟨a,l,rfl,hS,hlen,kz,k⟩:=h
  have nd:=Lz.nd
  have dU:bc 2 _:=hr.mono (by decide)
  obtain⟨cs,nI,dy,hn⟩:∃cs,G0 l=some cs/\(∀c∈cs,Px c=true)/\cs.length<=200:=by
   unfold ag3 at kz
   cases e:G0 l with
   |none=>rw[e]at kz;cases kz
   |some cs=>
    rw[e]at kz
    dsimp only at kz
    rw[iM]at kz
    obtain⟨h1,h2⟩:=kz
    unfold VadiaaNeutral.asked at h2
    rw[iM]at h2
    exact⟨cs,rfl,λc hc=>rE.mp h2.1 c hc,of_decide_eq_true h1⟩
  have abP:PV l=rM (rJ fB none cs):=by
   unfold PV
   rw[nI]
   rfl
  refine⟨_,aq (aN (i:=1) nd rfl (ay rfl) (Nz MH dU aI))
   (aq (aN (i:=2) nd rfl (ay rfl) (cy af))
   (aq (eJ d5 rfl (dM (aL DC dU aI (ae (pv 0) af))) (iZ K 2 rfl (dA (bB (i:=3) nd rfl (ay rfl)) (dA (bB (i:=4) nd rfl (ay rfl)) iT)))
    (aq (aN (i:=5) nd rfl (ay rfl) (dw T.cl DA hr aI (pv 1) (ae (pv 3) (ae (pv 4) af))))
    (aq (cM (fk fA lJ lI j5 (pv 2) (ae (bK cb (by rfl) B.len bZ (ae (pv 5) af)) af)))
    (au (cM (fk fA ua t_ uX (pv 2) (ae (pv 5) af)))))))
   (au (aM (pv 2))))),?_⟩
  refine λho dx hho bU a8=>⟨ho,dx,rfl,aj,rfl,?_⟩
  rw[fJ]
  have s1:aa H (upd (upd H dx (.own ho)) ho (.ins CH dx (hf .aO))):=λb o e=>by rw[ao (aF e hho),ao (aF e bU)];exact e
  have o1:upd (upd H dx (.own ho)) ho (.ins CH dx (hf .aO)) ho=some (.ins CH dx (hf .aO)):=aj
  generalize nP:upd (upd H dx (.own ho)) ho (.ins CH dx (hf .aO))=H1 at s1 o1
  refine⟨cw _,λtl Ob=>?_⟩
  have s2:aa H1 (upd H1 tl (.lst [])):=aa.new Ob
  have t2:upd H1 tl (.lst []) tl=some (.lst []):=aj
  generalize my:upd H1 tl (.lst [])=H2 at s2 t2
  refine⟨_,rfl,a,l,cs,rfl,(s1.trans s2).seq hS,hlen,Br.IF nI,λH3 rc as s3 hrc h3 hP=>⟨rc,rfl,⟨_,ah.of h3⟩,?_⟩⟩
  have mr:as.length=cs.length:=a7 hP
  have Pd:rc≠tl:=Ne.symm (aF t2 hrc)
  have qL:Paired (lG (λg=>g≠tl) K H3) as cs:=L2.Paired.aX hP λ_ _ ⟨g,z1,z2,z3⟩=>⟨g,z1,z2,Ne.symm (aF t2 z3)⟩
  refine iq (K:=K) (a:=rc) (xs:=as.map V.ref) (λi σ H'=>∃(v3 v4 v5:Option V),σ=[some (.ref a),some (.ref ho),some (.ref tl),v3,v4,v5]/\H' rc=some (.lst (as.map V.ref))/\Paired (lG (λg=>g≠tl) K H') as cs/\jK (λb=>b≠tl) K CG CH H' ho (after none (cs.take i))/\
    H' tl=some (.lst (vI (rM (rJ fB none (cs.take i)))))/\(rM (rJ fB none (cs.take i))).length<=16101*i)
   ⟨none,none,none,rfl,h3,qL,⟨dx,.aO,s3 _ _ (s2 _ _ o1),.inl ⟨rfl,rfl⟩⟩,s3 _ _ t2,cw _⟩ ?_ ?_ ?_
  ·rintro i σ H' _ ⟨_,_,_,_,cT,_⟩
   exact ah.of cT
  ·rintro i y σ H' hi ⟨v3,v4,v5,rfl,cT,Gd,hO,ht,aV⟩
   obtain⟨p,hp,rfl⟩:=dO hi
   obtain⟨c,hc,g,q1,q2,q3⟩:=Paired.at' Gd hp
   have bV:=bL hc
   have hic:i<cs.length:=(bE.mp hc).1
   obtain⟨dxo,vo,Ge,_⟩:=id hO
   refine⟨p,_,rfl,q1,rfl,_,_,rfl,_,_,rfl,rfl,?_⟩
   refine⟨_,rfl,ho,dxo,_,rfl,Ge,rfl,_,rfl,_,rfl,ho,g,_,c,(λb=>b≠tl),rfl,hO,q2,⟨dy c bV,Br.heads (Br.IF nI) c bV⟩,λx hx=>Ne.symm (aF ht hx),λH4 an b4 abT hO4 Gf abV=>?_⟩
   generalize d_:(fB (after none (cs.take i)) c).2=oq at Gf abV
   have nl:∀{x:Addr}{xs:List V},H' x=some (.lst xs)->H4 x=some (.lst xs):=λh=>b4 _ _ h (by simpa using dq h Ge (by intro z;cases z))
   have wC:=nl ht
   have lh:=nl cT
   have hP4:Paired (lG (λg=>g≠tl) K H4) as cs:=L2.Paired.aX Gd λ_ _ ⟨g,z1,z2,z3⟩=>⟨g,aB.bar Ge b4 z1,nl z2,z3⟩
   refine⟨_,rfl,.inl ⟨rfl,_,ah.of wC⟩,_,rfl,an,_,rfl,.inl (ah.of Gf),tl,_,_,rfl,rfl,wC,by rw[rb,sizeLine_eq];omega,?_⟩
   rw[rb]
   generalize hto:rM (rJ fB none (cs.take i))=to at wC aV
   have Pe:∀{Hx:Hp}{ys zs:List V},Hx tl=some (.lst ys)->Paired (lG (λg=>g≠tl) K Hx) as cs->Paired (lG (λg=>g≠tl) K (upd Hx tl (.lst zs))) as cs:=λh hp=>L2.Paired.aX hp λ_ _ ⟨g,z1,z2,z3⟩=>⟨g,aB.br h z1,by rw[ao z3];exact z2,z3⟩
   have vG:upd H4 tl (.lst (vI to++[.int (oq.length:Int)])) tl=some (.lst (vI to++[.int (oq.length:Int)])):=aj
   have hO5:=jK.zW (zs:=vI to++[.int (oq.length:Int)]) wC hO4
   have hP5:=Pe (zs:=vI to++[.int (oq.length:Int)]) wC hP4
   have nZ:upd H4 tl (.lst (vI to++[.int (oq.length:Int)])) rc=some (.lst (as.map V.ref)):=by rw[ao Pd];exact lh
   have md:an≠tl:=Ne.symm (aF ht abT)
   have ab0:upd H4 tl (.lst (vI to++[.int (oq.length:Int)])) an=some (.lst (vI oq)):=by rw[ao md];exact Gf
   refine⟨_,rfl,.inl ⟨rfl,_,ah.of vG⟩,_,rfl,tl,an,_,_,rfl,rfl,vG,ab0,by rw[bf,rb,rb,fZ,sizeLine_eq];omega,?_⟩
   have Pf:rM (rJ fB none (cs.take (i+1)))=to++((oq.length:Int)::oq):=by rw[take_one hc,Pc,abM,d_,hto]
   refine⟨_,_,_,rfl,by rw[ao Pd];exact nZ,Pe vG hP5,?_,?_,?_⟩
   ·rw[take_one hc,abN]
    exact jK.zW vG hO5
   ·rw[aj,Pf]
    unfold vI
    rw[bI,eV,mP]
    rfl
   ·rw[Pf,bf,bJ]
    omega
  ·rintro σ H' ⟨v3,v4,v5,rfl,cT,Gd,hO,ht,aV⟩
   rw[aA,mr,cO]at ht
   refine⟨_,rfl,k H' tl ?_⟩
   rw[abP]
   exact ht
end
end Bp
set_option Elab.async false
set_option linter.all false
set_option maxRecDepth 100000
set_option maxHeartbeats 8000000
namespace Bp
open PySem PySem.Spec PyProof.Rows L2
open L2.Bx (dB fq aU yM)
open Vadiaa (Diagram)
open VadiaaNeutral (encode)
open Br (wn)
section
variable{P:Program}{w:World}{K:ai}{mg:Str->Option Value}{base h:Heap}
def ba(K:ai)(x:Str)(st:Stmt):Prop:=∃f fd,aQ K x x st f fd/\c_ K mainGlobals x=some (some (.ref f))
def iL(K:ai)(C:Addr)(m q:Str)(st:Stmt):Prop:=∃f fd,aQ K m q st f fd/\cQ K (.ref C) m=some (some (.ref f))/\Ao K (.ref f)=true
def cj(K:ai)(x:Str)(i:Int):Prop:=∃t,c_ K mainGlobals x=some (some (.int i t))
def t6(K:ai)(x y:Str):Prop:=∃t,c_ K mainGlobals x=some (some (.str y t))
def rm(K:ai)(x:Str)(xs:List V):Prop:=∃(a:Addr)(o:Obj)(ak:Array Value)(n:Nat),c_ K mainGlobals x=some (some (.ref a))/\K.lookup a=some o/\o.cls=.type "tuple"/\o.data=.seq ak n/\ak.size<=sizeLine/\Vals xs ak.toList
def Pg(K:ai)(CF fI:Addr):Prop:=dB K CF fI ["code","place"]/\∃fd,aQ K "__init__" "Fault.__init__" sS fI fd
theorem cj.gi{x:Str}{i:Int}(X:K.In h)(G:h.Ns mainGlobals mg):cj K x i->GI mg x i:=λ⟨t,e⟩=>⟨t,mQ X G e⟩
theorem t6.gs{x y:Str}(X:K.In h)(G:h.Ns mainGlobals mg):t6 K x y->GS mg x y:=λ⟨t,e⟩=>⟨t,mQ X G e⟩
theorem rm.gt{x:Str}{xs:List V}(X:K.In h)(G:h.Ns mainGlobals mg):rm K x xs->GT K mg x xs:=λ⟨a,o,ak,n,e,l,c,d,z,v⟩=>⟨a,mQ X G e,λ_=>.inr ⟨o,ak,n,l,c,d,z,v⟩⟩
def Bd:List Str->(List Value->Prop)->Prop
 |[],C=>C []
 |_::ps,C=>∀a,Bd ps λus=>C (a::us)
theorem Bd.all{ps:List Str}:∀{C:List Value->Prop},Bd ps C->∀us:List Value,us.length=ps.length->C us:=by
 induction ps with
 |nil=>
  intro C h us hl
  cases us with
  |nil=>exact h
  |cons a us=>cases hl
 |cons x ps ih=>
  intro C h us hl
  cases us with
  |nil=>cases hl
  |cons a us=>exact ih (h a) us (Nat.succ.inj hl)
theorem bh(P:Program)(w:World)(base:Heap){CX:eP}{k:Nat}{x:Str}{ps:List Str}{sp:Sp}{st:Stmt}(X:K.In h)(G:h.Ns mainGlobals mg)(t:ba K x st)
  (ok:∀f fd,aQ K x x st f fd->aK P w K mg base CX k f fd ps sp)
  (hb:∀(kV doc pm:Value)(an:Option Addr)(aC ct:Value),Bd ps λus=>bindArgs (lT x x (l_ st) (jt st) (aH st) .none kV doc pm an aC ct) ⟨us,[]⟩=pure (ps.zip us)):aS P w K mg base CX k x ps sp:=by
 obtain⟨f,fd,F,e⟩:=t
 exact⟨f,fd,ok f fd F,mQ X G e,F.kp,F.binds λa b c d e f us hl=>(hb a b c d e f).all us hl⟩
theorem rn(P:Program)(w:World)(base:Heap)(mg:Str->Option Value){CX:eP}{k:Nat}{C:Addr}{m q:Str}{ps:List Str}{sp:Sp}{st:Stmt}(t:iL K C m q st)
  (ok:∀f fd,aQ K m q st f fd->aK P w K mg base CX k f fd ps sp)
  (hb:∀(kV doc pm:Value)(an:Option Addr)(aC ct:Value),Bd ps λus=>bindArgs (lT m q (l_ st) (jt st) (aH st) .none kV doc pm an aC ct) ⟨us,[]⟩=pure (ps.zip us)):fX P w K mg base CX k C m ps sp:=by
 obtain⟨f,fd,F,e,i⟩:=t
 exact⟨f,fd,⟨e,i,F.kp⟩,ok f fd F,F.binds λa b c d e f us hl=>(hb a b c d e f).all us hl⟩
theorem wD(P:Program)(w:World)(base:Heap){CX:eP}{k:Nat}{C:Addr}{x q:Str}{ps:List Str}{sp:Sp}{st:Stmt}(m:mg x=some (.ref C))(mk:rF K C=true)(kc:ib K (.ref C)=true)(t:iL K C "__init__" q st)
  (ok:∀f fd,aQ K "__init__" q st f fd->aK P w K mg base CX k f fd ps sp)
  (hb:∀(kV doc pm:Value)(an:Option Addr)(aC ct:Value),Bd ps λus=>bindArgs (lT "__init__" q (l_ st) (jt st) (aH st) .none kV doc pm an aC ct) ⟨us,[]⟩=pure (ps.zip us)):lj P w K mg base CX k x C ps sp:=by
 obtain⟨f,fd,F,e,i⟩:=t
 exact⟨⟨f,fd,⟨mk,e,i,kc⟩,ok f fd F,F.binds λa b c d e f us hl=>(hb a b c d e f).all us hl⟩,m⟩
theorem ab1{x:Str}{st:Stmt}{f:Addr}{oc:Value}{od an:Option Addr}{fj:Array (Option Value)}{kV doc pm aC ct:Value}(a:c_ K mainGlobals x=some (some (.ref f)))(l:K.lookup f=some ⟨oc,od,.func (lT x x (l_ st) (jt st) (aH st) .none kV doc pm an aC ct),fj⟩)
  (c:wW K aC x=true) (k:ib K (.ref f)=true):ba K x st:=⟨f,_,B3 l c k,a⟩
theorem ab2{C:Addr}{m q:Str}{st:Stmt}{f:Addr}{oc:Value}{od an:Option Addr}{fj:Array (Option Value)}{kV doc pm aC ct:Value}(a:cQ K (.ref C) m=some (some (.ref f)))(i:Ao K (.ref f)=true)(l:K.lookup f=some ⟨oc,od,.func (lT m q (l_ st) (jt st) (aH st) .none kV doc pm an aC ct),fj⟩)
  (c:wW K aC q=true) (k:ib K (.ref f)=true):iL K C m q st:=⟨f,_,B3 l c k,a,i⟩
theorem ab3{x:Str}{xs:List V}{a:Addr}{oc:Value}{od:Option Addr}{ak:Array Value}{n:Nat}{sl:Array (Option Value)}(e:c_ K mainGlobals x=some (some (.ref a)))(l:K.lookup a=some ⟨oc,od,.seq ak n,sl⟩)(c:oc=.type "tuple")(z:ak.size<=sizeLine)(v:Vals xs ak.toList):rm K x xs:=⟨a,_,ak,n,e,l,c,rfl,z,v⟩
theorem int_mk{x:Str}{i:Int}{t:Tok}(e:c_ K mainGlobals x=some (some (.int i t))):cj K x i:=⟨t,e⟩
theorem str_mk{x y:Str}{t:Tok}(e:c_ K mainGlobals x=some (some (.str y t))):t6 K x y:=⟨t,e⟩
theorem t7{N:Addr}{x:Str}{r:Option Value}{oc:Value}{od:Option Addr}{es:Array DictEntry}{ep:Nat}{sl:Array (Option Value)}(l:K.lookup N=some ⟨oc,od,.dict es ep,sl⟩)(e:c_ K N x=some r):nsFind es x=r:=by
 unfold c_ at e
 rw[l]at e
 dsimp only at e
 unfold nsFind findBy
 rw[<-ahy]
 split at e
 ·rename_i en he
  rw[he]
  injection e
 ·rename_i he
  rw[he]
  split at e
  ·cases e
  ·injection e
theorem ab4{CF fI N:Addr}{nm q:Str}{bs:List Value}{sn:List Str}{sub:List Value}{ab:Bool}{col:Option Bool}{dd:Option Addr}{k0 k1 k2 k3 k5:Option Value}{oc Ph:Value}{od od' an:Option Addr}{es:Array DictEntry}{ep:Nat}{sl fj:Array (Option Value)}{kV doc pm aC ct:Value}
  (lC:K.lookup CF=some (excClassObj nm q CF N bs yM true sn sub ab col dd k0 k1 k2 k3 k5 "Exception.__new__")) (kC:ib K (.ref CF)=true) (lN:K.lookup N=some ⟨oc,od,.dict es ep,sl⟩) (sE:(es.toList.all λe=>match e.key with| .str _ _=>true|_=>false)=true)
  (iN:c_ K N "__init__"=some (some (.ref fI))) (n1:c_ K N "__setattr__"=some none) (n2:c_ K N "__getattribute__"=some none) (n3:c_ K N "__getattr__"=some none) (n4:c_ K N "code"=some none) (n5:c_ K N "place"=some none)
  (l:K.lookup fI=some ⟨Ph,od',.func (lT "__init__" "Fault.__init__" (l_ sS) (jt sS) (aH sS) .none kV doc pm an aC ct),fj⟩) (ec:Ph=.type "function") (c:wW K aC "Fault.__init__"=true) (k:ib K (.ref fI)=true):Pg K CF fI:=by
 refine⟨⟨⟨nm,q,N,bs,sn,sub,ab,col,dd,k0,k1,k2,k3,k5,nsFind es,lC,λh X=>?_,t7 lN iN,t7 lN n1,t7 lN n2,t7 lN n3,λf hf=>?_⟩,λf hf=>?_,⟨_,l,ec⟩,kC⟩,_,B3 l c k⟩
 ·refine⟨_,es,ep,X _ _ lN,rfl,λe he=>?_,λ_=>rfl⟩
  have:=rE.mp sE e (ahn.mpr he)
  split at this
  ·rename_i n t hk
   exact⟨n,t,hk⟩
  ·cases this
 ·have:f="code"\/f="place":=by simpa using hf
  rcases this with e|e
  ·rw[e];exact t7 lN n4
  ·rw[e];exact t7 lN n5
 ·have:f="code"\/f="place":=by simpa using hf
  rcases this with e|e
  ·rw[e,typeLookup_type,builtinLookup_eq_fast];kernel_rfl
  ·rw[e,typeLookup_type,builtinLookup_eq_fast];kernel_rfl
theorem all_mk{fa CF fI CT CD CR CG CH:Addr}(X:K.In h)(G:h.Ns mainGlobals mg)(hfa:mg "answers"=some (.ref fa))
  (ab7:c_ K mainGlobals "Token"=some (some (.ref CT)))
  (ab8:pO K CT xg=true)
  (ab9:rD K CT=true)
  (ab_:ud K CT=true)
  (aca:cQ K (.ref CT) "__setattr__"=some (some (.builtin "object.__setattr__")))
  (acb:rF K CT=true)
  (acd:ib K (.ref CT)=true)
  (ace:cQ K (.ref CT) "kind"=some none)
  (acf:cQ K (.ref CT) "spelling"=some none)
  (acg:cQ K (.ref CT) "place"=some none)
  (ach:c_ K mainGlobals "Draft"=some (some (.ref CD)))
  (aci:pO K CD xg=true)
  (acj:rD K CD=true)
  (ack:ud K CD=true)
  (acm:cQ K (.ref CD) "__setattr__"=some (some (.builtin "object.__setattr__")))
  (acn:rF K CD=true)
  (aco:ib K (.ref CD)=true)
  (acp:cQ K (.ref CD) "boxes"=some none)
  (acq:cQ K (.ref CD) "edges"=some none)
  (acr:cQ K (.ref CD) "wishes"=some none)
  (acs:c_ K mainGlobals "Reader"=some (some (.ref CR)))
  (acu:pO K CR xg=true)
  (acv:rD K CR=true)
  (acw:ud K CR=true)
  (acx:cQ K (.ref CR) "__setattr__"=some (some (.builtin "object.__setattr__")))
  (acy:rF K CR=true)
  (acz:ib K (.ref CR)=true)
  (acA:cQ K (.ref CR) "tokens"=some none)
  (acB:cQ K (.ref CR) "at"=some none)
  (acC:c_ K mainGlobals "Diagram"=some (some (.ref CG)))
  (acD:pO K CG xg=true)
  (acE:rD K CG=true)
  (acF:ud K CG=true)
  (acG:cQ K (.ref CG) "__setattr__"=some (some (.builtin "object.__setattr__")))
  (acH:rF K CG=true)
  (acI:ib K (.ref CG)=true)
  (acJ:cQ K (.ref CG) "boxes"=some none)
  (acK:cQ K (.ref CG) "edges"=some none)
  (acL:cQ K (.ref CG) "labels"=some none)
  (acM:cQ K (.ref CG) "wishes"=some none)
  (acN:cQ K (.ref CG) "circling"=some none)
  (acO:cQ K (.ref CG) "not_kept"=some none)
  (acP:cQ K (.ref CG) "is_least"=some none)
  (acQ:cQ K (.ref CG) "turned"=some none)
  (acR:cQ K (.ref CG) "down"=some none)
  (acS:cQ K (.ref CG) "first_ranks"=some none)
  (acT:cQ K (.ref CG) "ranks"=some none)
  (acU:c_ K mainGlobals "Holder"=some (some (.ref CH)))
  (acV:pO K CH xg=true)
  (acW:rD K CH=true)
  (acX:ud K CH=true)
  (acY:cQ K (.ref CH) "__setattr__"=some (some (.builtin "object.__setattr__")))
  (acZ:rF K CH=true)
  (ac0:ib K (.ref CH)=true)
  (ac1:cQ K (.ref CH) "diagram"=some none)
  (ac2:iL K CT "__init__" "Token.__init__" CQ)
  (ac3:iL K CR "__init__" "Reader.__init__" C4)
  (ac4:iL K CR "sees" "Reader.sees" C5)
  (ac5:iL K CR "refuse" "Reader.refuse" C6)
  (ac6:iL K CR "take" "Reader.take" C7)
  (ac7:iL K CR "take_word" "Reader.take_word" C8)
  (ac8:iL K CR "take_number" "Reader.take_number" yR)
  (ac9:iL K CD "__init__" "Draft.__init__" C3)
  (ac_:iL K CG "__init__" "Diagram.__init__" C9)
  (ada:iL K CH "__init__" "Holder.__init__" Dj)
  (adb:iL K CH "load" "Holder.load" Dl)
  (ade:iL K CH "answer" "Holder.answer" Dk)
  (adf:ba K "ends_of_arcs_from" Cz)
  (adg:ba K "way_walked" CB)
  (adh:ba K "first_way" Cy)
  (adi:ba K "leads" CC)
  (adj:ba K "edges_on_circles" CI)
  (adk:ba K "is_least_set_told" CJ)
  (adl:ba K "has_circle" CO)
  (adm:ba K "first_that_breaks" CM)
  (adn:ba K "one_larger" CN)
  (ado:ba K "least_set" CL)
  (adp:ba K "edges_not_kept" CK)
  (adq:ba K "going_down" CP)
  (ads:ba K "longest_ranks" Cq)
  (adt:ba K "edges_out_less_in" Cs)
  (adu:ba K "rank_moved_to" Ct)
  (adw:ba K "moved_ranks" Cr)
  (adx:ba K "without_empty_ranks" Cu)
  (ady:ba K "box_ranks" Cp)
  (adz:ba K "edge_length" Cv)
  (adA:ba K "lengths_together" Cw)
  (adB:ba K "least_together" Co)
  (adC:ba K "is_digit" CZ)
  (adD:ba K "is_letter" CY)
  (adE:ba K "remark_end" CW)
  (adF:ba K "gap_end" CV)
  (adG:ba K "spelled" CS)
  (adH:ba K "number_spelled" CU)
  (adI:ba K "word_at" C0)
  (adJ:ba K "number_at" C1)
  (adK:ba K "sign_at" C2)
  (adL:ba K "token_at" yQ)
  (adM:ba K "tokens_of" yP)
  (adN:ba K "box_read" yT)
  (adO:ba K "edge_read" yU)
  (adP:ba K "wish_read" yV)
  (adQ:ba K "draft_of" yS)
  (adR:ba K "numbers_of_names" C_)
  (adS:ba K "refuse_unknown_names" Dc)
  (adT:ba K "refuse_loops" Dd)
  (adU:ba K "arcs_of" Df)
  (adV:ba K "refuse_circle_of_wishes" De)
  (adW:ba K "diagram_of" yW)
  (adX:ba K "line_of" Di)
  (adY:ba K "edge_tokens" Dh)
  (adZ:ba K "one_form" Dg)
  (ad0:ba K "given_begin" Cm)
  (ad1:ba K "how_many_given" Cn)
  (ad2:ba K "calls_read" Ck)
  (ad3:ba K "counted" Dr)
  (ad4:ba K "is_number_of" Ds)
  (ad5:ba K "box_answer" Dt)
  (ad6:ba K "edge_answer" Du)
  (ad7:ba K "circle_answer" Dv)
  (ad8:ba K "way_answer" DH)
  (ad9:ba K "ranks_answer" Dx)
  (ad_:ba K "lengths_answer" Dz)
  (aea:ba K "greedy_answer" DK)
  (aeb:ba K "rank_answer" Dy)
  (aec:ba K "parts_answer" DJ)
  (aed:ba K "answer_of_all" Dq)
  (aee:ba K "answer_of" Dn)
  (aef:ba K "answers" Dm)
  (aeg:cj K "MOST_FOR_LEAST_SET" 10)
  (aeh:cj K "LINE_END" 10)
  (aei:rm K "BLANKS" [.int 32,.int 9,.int 10])
  (aej:cj K "REMARK" 35)
  (aek:cj K "ZERO" 48)
  (ael:rm K "WORDS" (hZ.map λs=>V.str s.1))
  (aem:cj K "LONGEST_NAME" 16)
  (aen:cj K "NO_TOKEN" 2)
  (aeo:t6 K "NAME" "name")
  (aep:cj K "MOST_DIGITS" 10)
  (aeq:cj K "GREATEST_NUMBER" 1000000000)
  (aer:t6 K "NUMBER" "number")
  (aes:rm K "SIGNS" (fW.map λs=>V.str s.1))
  (aet:t6 K "END" "end")
  (aeu:cj K "NOT_ALLOWED" 3)
  (aev:cj K "TOO_MANY" 4)
  (aew:cj K "OUT_OF_BOUNDS" 7)
  (aex:cj K "WIDTH_BESIDE_NAME" 4)
  (aey:cj K "LEAST_BESIDE_NAME" 2)
  (aez:cj K "GREATEST_WIDTH" 30)
  (aeA:cj K "LEAST_HEIGHT" 3)
  (aeB:cj K "GREATEST_HEIGHT" 9)
  (aeC:cj K "MOST_BOXES" 24)
  (aeD:cj K "MOST_EDGES" 40)
  (aeE:cj K "MOST_WISHES" 16)
  (aeF:cj K "NAME_TWICE" 5)
  (aeG:cj K "NO_SUCH_NAME" 6)
  (aeH:cj K "TO_ITSELF" 8)
  (aeI:cj K "WISHES_IN_CIRCLE" 9)
  (aeJ:cj K "TOO_LONG" 1)
  (aeK:cj K "MOST_BYTES" 4096)
  (aeL:cj K "LOAD" 0)
  (aeM:rm K "WHOLE_NUMBERS" (vN wn))
  (aeN:cj K "NO_SUCH" (-2))
  (aeO:cj K "SHOWN" 1)
  (aeP:cj K "SIZES" 2)
  (aeQ:cj K "TURNED" 5)
  (aeR:cj K "RANKS" 7)
  (aeS:cj K "LENGTHS" 9)
  (aeT:cj K "PARTS" 11)
  (aeU:cj K "BOX" 3)
  (aeV:cj K "EDGE" 4)
  (aeW:cj K "CIRCLE" 6)
  (aeX:cj K "RANK" 8)
  (aeY:cj K "NO_DIAGRAM" (-1))
  (aeZ:c_ K mainGlobals "len"=some none)
  (ae0:c_ K mainGlobals "range"=some none)
  (ae1:c_ K mainGlobals "enumerate"=some none)
  (ae2:c_ K mainGlobals "list"=some none)
  (ae3:c_ K mainGlobals "tuple"=some none)
  (ae4:c_ K mainGlobals "min"=some none)
  (ae5:c_ K mainGlobals "max"=some none)
  (ae6:c_ K mainGlobals "sorted"=some none)
  (ae7:c_ K mainGlobals "set"=some none)
  (ae8:c_ K mainGlobals "ord"=some none)
  (ae9:c_ K mainGlobals "str"=some none)
  (ae_:c_ K mainGlobals "sum"=some none)
  (nF:c_ K mainGlobals "Fault"=some (some (.ref CF)))
  (fl:Pg K CF fI):
  ∃fd:FuncData,(∀(s:Shared)(us:List Value),us.length=(["calls"]:List Str).length->BindsTo s fd ⟨us,[]⟩ ((["calls"]:List Str).zip us))/\∀base:Heap,K.In base->base.Ns mainGlobals mg->aK P w K mg base ax 11 fa fd ["calls"] (Gb K):=by
 obtain⟨fa',fd,F,ea⟩:=aef
 have e:=hfa.symm.trans (mQ X G ea)
 cases e
 refine⟨fd,?_,λbase _ _=>?_⟩
 ·obtain⟨oc,od,kV,doc,pm,an,aC,ct,fj,rfl,lk,j0⟩:=F.ex
  exact λs us hu=>match us,hu with|[_],_=>.of_eq rfl
 have B:cq mg:=⟨lM X G aeZ,lM X G ae0,lM X G ae1,lM X G ae2,lM X G ae3,lM X G ae4,lM X G ae5,lM X G ae6,lM X G ae7,lM X G ae8,lM X G ae9⟩
 have ER:mg "sum"=none:=lM X G ae_
 have mF:mg "Fault"=some (.ref CF):=mQ X G nF
 obtain⟨cX,fdF,FF⟩:=fl
 have DF:Flt P w K mg base CF:=⟨⟨fI,fdF,cX,Y1 cX FF,FF.binds λ_ _ _ _ _ _ us hl=>match us,hl with|[_,_,_],_=>rfl⟩,mF⟩
 have jd:iG K CT:=⟨⟨ab8,ab9,ab_,aca⟩,ace,acf,acg⟩
 have Gg:zH K CD:=⟨⟨aci,acj,ack,acm⟩,acp,acq,acr⟩
 have mK:ly K CR:=⟨⟨acu,acv,acw,acx⟩,acA,acB⟩
 have je:iJ K CG:=⟨⟨acD,acE,acF,acG⟩,acJ,acK,acL,acM,acN,acO,acP,acQ,acR,acS,acT⟩
 have zX:wB K CH:=⟨⟨acV,acW,acX,acY⟩,ac1⟩
 have afb:GI mg "MOST_FOR_LEAST_SET" 10:=aeg.gi X G
 have afc:GI mg "LINE_END" 10:=aeh.gi X G
 have afd:GT K mg "BLANKS" [.int 32,.int 9,.int 10]:=aei.gt X G
 have afe:GI mg "REMARK" 35:=aej.gi X G
 have Pj:GI mg "ZERO" 48:=aek.gi X G
 have aff:GT K mg "WORDS" (hZ.map λs=>V.str s.1):=ael.gt X G
 have afg:GI mg "LONGEST_NAME" 16:=aem.gi X G
 have Gh:GI mg "NO_TOKEN" 2:=aen.gi X G
 have zY:GS mg "NAME" "name":=aeo.gs X G
 have afh:GI mg "MOST_DIGITS" 10:=aep.gi X G
 have afi:GI mg "GREATEST_NUMBER" 1000000000:=aeq.gi X G
 have Gi:GS mg "NUMBER" "number":=aer.gs X G
 have afj:GT K mg "SIGNS" (fW.map λs=>V.str s.1):=aes.gt X G
 have Pk:GS mg "END" "end":=aet.gs X G
 have Pl:GI mg "NOT_ALLOWED" 3:=aeu.gi X G
 have afk:GI mg "TOO_MANY" 4:=aev.gi X G
 have afl:GI mg "OUT_OF_BOUNDS" 7:=aew.gi X G
 have afm:GI mg "WIDTH_BESIDE_NAME" 4:=aex.gi X G
 have afn:GI mg "LEAST_BESIDE_NAME" 2:=aey.gi X G
 have afo:GI mg "GREATEST_WIDTH" 30:=aez.gi X G
 have afp:GI mg "LEAST_HEIGHT" 3:=aeA.gi X G
 have afq:GI mg "GREATEST_HEIGHT" 9:=aeB.gi X G
 have afr:GI mg "MOST_BOXES" 24:=aeC.gi X G
 have afs:GI mg "MOST_EDGES" 40:=aeD.gi X G
 have aft:GI mg "MOST_WISHES" 16:=aeE.gi X G
 have afu:GI mg "NAME_TWICE" 5:=aeF.gi X G
 have afv:GI mg "NO_SUCH_NAME" 6:=aeG.gi X G
 have afw:GI mg "TO_ITSELF" 8:=aeH.gi X G
 have afx:GI mg "WISHES_IN_CIRCLE" 9:=aeI.gi X G
 have afy:GI mg "TOO_LONG" 1:=aeJ.gi X G
 have afz:GI mg "MOST_BYTES" 4096:=aeK.gi X G
 have Gj:GI mg "LOAD" 0:=aeL.gi X G
 have afA:GT K mg "WHOLE_NUMBERS" (vN wn):=aeM.gt X G
 have wF:GI mg "NO_SUCH" (-2):=aeN.gi X G
 have afB:GI mg "SHOWN" 1:=aeO.gi X G
 have afC:GI mg "SIZES" 2:=aeP.gi X G
 have afD:GI mg "TURNED" 5:=aeQ.gi X G
 have afE:GI mg "RANKS" 7:=aeR.gi X G
 have afF:GI mg "LENGTHS" 9:=aeS.gi X G
 have afG:GI mg "PARTS" 11:=aeT.gi X G
 have afH:GI mg "BOX" 3:=aeU.gi X G
 have afI:GI mg "EDGE" 4:=aeV.gi X G
 have afJ:GI mg "CIRCLE" 6:=aeW.gi X G
 have afK:GI mg "RANK" 8:=aeX.gi X G
 have afL:GI mg "NO_DIAGRAM" (-1):=aeY.gi X G
 have afM:=bh P w base X G adf (λf fd F=>Xv F) (λ_ _ _ _ _ _ _ _=>rfl)
 have afN:=bh P w base X G adg (λf fd F=>Xw F) (λ_ _ _ _ _ _ _ _ _=>rfl)
 have Gk:=bh P w base X G adh (λf fd F=>Xz B F afM afN) (λ_ _ _ _ _ _ _ _ _=>rfl)
 have zZ:=bh P w base X G adi (λf fd F=>XG B F Gk) (λ_ _ _ _ _ _ _ _ _=>rfl)
 have afO:=bh P w base X G adj (λf fd F=>XJ B F zZ) (λ_ _ _ _ _ _ _ _=>rfl)
 have afP:=bh P w base X G adk (λf fd F=>XM B afb F) (λ_ _ _ _ _ _ _=>rfl)
 have afQ:=bh P w base X G adl (λf fd F=>XN B F) (λ_ _ _ _ _ _ _=>rfl)
 have afR:=bh P w base X G adm (λf fd F=>X1 B F afQ) (λ_ _ _ _ _ _ _ _ _ _=>rfl)
 have afS:=bh P w base X G adn (λf fd F=>X7 B F) (λ_ _ _ _ _ _ _ _=>rfl)
 have afT:=bh P w base X G ado (λf fd F=>Yb B F zZ afR afS) (λ_ _ _ _ _ _ _ _ _=>rfl)
 have afU:=bh P w base X G adp (λf fd F=>Yi B F zZ) (λ_ _ _ _ _ _ _ _=>rfl)
 have afV:=bh P w base X G adq (λf fd F=>Yo B F) (λ_ _ _ _ _ _ _ _=>rfl)
 have afW:=bh P w base X G ads (λf fd F=>Yr F) (λ_ _ _ _ _ _ _ _=>rfl)
 have afX:=bh P w base X G adt (λf fd F=>Yt F) (λ_ _ _ _ _ _ _ _=>rfl)
 have afY:=bh P w base X G adu (λf fd F=>Yw B F) (λ_ _ _ _ _ _ _ _ _ _=>rfl)
 have afZ:=bh P w base X G adw (λf fd F=>Yx B F afX afY) (λ_ _ _ _ _ _ _ _ _=>rfl)
 have af0:=bh P w base X G adx (λf fd F=>YJ B F) (λ_ _ _ _ _ _ _=>rfl)
 have af1:=bh P w base X G ady (λf fd F=>YL F afZ af0) (λ_ _ _ _ _ _ _ _ _=>rfl)
 have Pn:=bh P w base X G adz (λf fd F=>YM F) (λ_ _ _ _ _ _ _ _=>rfl)
 have af2:=bh P w base X G adA (λf fd F=>YN ER F Pn) (λ_ _ _ _ _ _ _ _=>rfl)
 have af3:=bh P w base X G adB (λf fd F=>YR B F) (λ_ _ _ _ _ _ _ _=>rfl)
 have Gm:=bh P w base X G adC (λf fd F=>YU F) (λ_ _ _ _ _ _ _=>rfl)
 have Po:=bh P w base X G adD (λf fd F=>YV F) (λ_ _ _ _ _ _ _=>rfl)
 have af4:=bh P w base X G adE (λf fd F=>YW B afc F) (λ_ _ _ _ _ _ _ _=>rfl)
 have af5:=bh P w base X G adF (λf fd F=>YY B afd afe F af4) (λ_ _ _ _ _ _ _ _=>rfl)
 have wG:=bh P w base X G adG (λf fd F=>YZ B F) (λ_ _ _ _ _ _ _=>rfl)
 have Pp:=bh P w base X G adH (λf fd F=>Y0 Pj F) (λ_ _ _ _ _ _ _=>rfl)
 have z7:=wD P w base (mQ X G ab7) acb acd ac2 (λf fd F=>Y4 jd F) (λ_ _ _ _ _ _ _ _ _ _=>rfl)
 have af6:=bh P w base X G adI (λf fd F=>Y8 B aff afg Gh zY DF z7 Gm Po wG F) (λ_ _ _ _ _ _ _ _=>rfl)
 have af7:=bh P w base X G adJ (λf fd F=>Y9 B Pj afh afi Gh Gi DF z7 Gm Pp F) (λ_ _ _ _ _ _ _ _=>rfl)
 have af8:=bh P w base X G adK (λf fd F=>Zb B afj Gh DF z7 wG F) (λ_ _ _ _ _ _ _ _=>rfl)
 have af9:=bh P w base X G adL (λf fd F=>Zd Gm Po af6 af7 af8 F) (λ_ _ _ _ _ _ _ _=>rfl)
 have af_:=bh P w base X G adM (λf fd F=>Ze B jd Pk af5 af9 z7 F) (λ_ _ _ _ _ _ _=>rfl)
 have aga:=wD P w base (mQ X G acs) acy acz ac3 (λf fd F=>Zk mK F) (λ_ _ _ _ _ _ _ _=>rfl)
 have z8:=rn P w base mg ac4 (λf fd F=>Zl mK jd F) (λ_ _ _ _ _ _ _ _=>rfl)
 have Gn:=rn P w base mg ac5 (λf fd F=>Zm mK jd DF F) (λ_ _ _ _ _ _ _ _=>rfl)
 have wH:=rn P w base mg ac6 (λf fd F=>Zn mK jd Pl z8 Gn F) (λ_ _ _ _ _ _ _ _=>rfl)
 have agb:=rn P w base mg ac7 (λf fd F=>Zo mK afk Gn wH F) (λ_ _ _ _ _ _ _ _ _ _=>rfl)
 have agc:=rn P w base mg ac8 (λf fd F=>Zp mK jd afl Gi DF Pp wH F) (λ_ _ _ _ _ _ _ _ _=>rfl)
 have agd:=bh P w base X G adN (λf fd F=>Zs B mK jd zY Gi afm afn afo afp afq z8 wH agc F) (λ_ _ _ _ _ _ _=>rfl)
 have age:=bh P w base X G adO (λf fd F=>ZA mK jd zY z8 wH F) (λ_ _ _ _ _ _ _=>rfl)
 have agf:=bh P w base X G adP (λf fd F=>ZK mK zY wH F) (λ_ _ _ _ _ _ _=>rfl)
 have agg:=wD P w base (mQ X G ach) acn aco ac9 (λf fd F=>ZL Gg F) (λ_ _ _ _ _ _ _=>rfl)
 have agh:=bh P w base X G adQ (λf fd F=>ZT B mK Gg Pk Pl afr afs aft aga agg z8 Gn agb agd age agf F) (λ_ _ _ _ _ _ _=>rfl)
 have agi:=bh P w base X G adR (λf fd F=>ZY B jd afu DF F) (λ_ _ _ _ _ _ _=>rfl)
 have agj:=bh P w base X G adS (λf fd F=>Z2 jd afv DF F) (λ_ _ _ _ _ _ _ _=>rfl)
 have agk:=bh P w base X G adT (λf fd F=>Z4 jd afw DF F) (λ_ _ _ _ _ _ _=>rfl)
 have agl:=bh P w base X G adU (λf fd F=>Z5 jd F) (λ_ _ _ _ _ _ _ _=>rfl)
 have agm:=bh P w base X G adV (λf fd F=>Z7 B jd afx DF zZ F) (λ_ _ _ _ _ _ _ _=>rfl)
 have agn:=wD P w base (mQ X G acC) acH acI ac_ (λf fd F=>aad B je afO afU afP afT afV afW af1 F) (λ_ _ _ _ _ _ _ _ _ _ _=>rfl)
 have ago:=bh P w base X G adW (λf fd F=>aav B jd Gg afy afz DF af_ agh agi agj agk agl agm agn F) (λ_ _ _ _ _ _ _=>rfl)
 have agp:=bh P w base X G adX (λf fd F=>aaZ wG F) (λ_ _ _ _ _ _ _=>rfl)
 have agq:=bh P w base X G adY (λf fd F=>aa2 B je wG F) (λ_ _ _ _ _ _ _ _ _=>rfl)
 have agr:=bh P w base X G adZ (λf fd F=>aa5 B je wG agp agq F) (λ_ _ _ _ _ _ _=>rfl)
 have ags:=bh P w base X G ad0 (λf fd F=>abb Gj F) (λ_ _ _ _ _ _ _ _=>rfl)
 have agt:=bh P w base X G ad1 (λf fd F=>abc Gj afA F) (λ_ _ _ _ _ _ _ _=>rfl)
 have agu:=bh P w base X G ad2 (λf fd F=>abd B ags agt F) (λ_ _ _ _ _ _ _=>rfl)
 have rp:=bh P w base X G ad3 (λf fd F=>abf B F) (λ_ _ _ _ _ _ _=>rfl)
 have z9:=bh P w base X G ad4 (λf fd F=>abg B F) (λ_ _ _ _ _ _ _ _=>rfl)
 have agv:=bh P w base X G ad5 (λf fd F=>abh je wF z9 rp F) (λ_ _ _ _ _ _ _ _=>rfl)
 have agw:=bh P w base X G ad6 (λf fd F=>abj je wF z9 rp Pn F) (λ_ _ _ _ _ _ _ _=>rfl)
 have agx:=bh P w base X G ad7 (λf fd F=>abo je wF z9 rp Gk F) (λ_ _ _ _ _ _ _ _=>rfl)
 have agy:=bh P w base X G ad8 (λf fd F=>abp je wF z9 rp Gk F) (λ_ _ _ _ _ _ _ _ _=>rfl)
 have agz:=bh P w base X G ad9 (λf fd F=>abr B je F) (λ_ _ _ _ _ _ _=>rfl)
 have agA:=bh P w base X G ad_ (λf fd F=>abt je af2 F) (λ_ _ _ _ _ _ _=>rfl)
 have agB:=bh P w base X G aea (λf fd F=>abu je rp F) (λ_ _ _ _ _ _ _=>rfl)
 have agC:=bh P w base X G aeb (λf fd F=>abx B je wF rp F) (λ_ _ _ _ _ _ _ _=>rfl)
 have agD:=bh P w base X G aec (λf fd F=>aby B je af3 F) (λ_ _ _ _ _ _ _=>rfl)
 have agE:=bh P w base X G aed (λf fd F=>ok_all B je afB afC afD afE afF afG rp agr agz agA agD agB F) (λ_ _ _ _ _ _ _ _=>rfl)
 have agF:=bh P w base X G aee (λf fd F=>abD B afH afI afJ afK agE agv agw agx agC agy F) (λ_ _ _ _ _ _ _ _ _=>rfl)
 have agG:=wD P w base (mQ X G acU) acZ ac0 ada (λf fd F=>abE zX F) (λ_ _ _ _ _ _ _=>rfl)
 have agH:=rn P w base mg adb (λf fd F=>abF B zX je cX mF ago F) (λ_ _ _ _ _ _ _ _=>rfl)
 have agI:=rn P w base mg ade (λf fd F=>abJ zX Gj afL agH agF F) (λ_ _ _ _ _ _ _ _ _=>rfl)
 exact abO B zX agG agu agI F
end
end Bp
open PySem PySem.W PyProof.Rows
structure PySem.W.Fast:Prop where (tw3730833275052655714 tw1968045003985365635 tw1207239849630734645 tw6872401455247319852 tw3901631395508676465 tw14403106802565193399 tw2301966664969350001 tw11236185813790572855 tw8646609093613811512 tw1946752538178515365 tw8330324224926883087 tw1306633443189897818 tw8655187499528349859 tw7842087976464436855 tw6092851431910417368 tw2719001727927257339 tw16369685707496530958 tw1444361671234983378 tw2601918917560872572 tw5768319510094386239 tw3712814227624906346 tw14907721898069994902 tw8860466518498823035 tw9705256453776557178 tw14719923028153986457 tw10787833453955499774 tw10861104219271078658 tw13531181748617684525 tw12880790826464652285 tw12350932544139678336 tw10636289514058046057 tw11934929339986588009 tw14602114464785046167 tw12039014269232391047 tw13335357787613184701 tw1040697100053782159 tw12124519770853243247 tw6393150271752624292 tw17833942157845943349 tw14296097791447637035 tw8646026044992709554 tw17338754357278386552 tw15958862162671505941 tw13718676023493057224 tw7365400545588094392 tw7528058695180509341 tw1951414155147404411 tw6757634195076698585 tw4761191952331081281 tw16360824882245242749 tw11910367049106831496 tw18422673049112550904 tw9791844599379722999 tw851363708713720163 tw7767681507589221892 tw5532461004377783342 tw7390765640532525961 tw10682507180331868627 tw16964358520291105030 tw12102820796103078254 tw4022448139019032563 tw17569628761371058025 tw4268807844124655018 tw7743130672246693647 tw2129950350490259219 tw14732212312661061677 tw2387017179912899889 tw15777983411052781177 tw2042580880482806878 tw4855992625343790518 tw1391525017198867956 tw12008119735748224733 tw12632912437790625663 tw12746307649378751658 tw10114592057898889580 tw10377864447794598194 tw10284102225630434634 tw1808458886157074798 tw3220281992756843147 tw3468930705870904475 tw15551610026386940250 tw16992005658965321902 tw14665656626747059537 tw5064127515167655396 tw3921148390550195447 tw5580782987910961801 tw15505590971291202546 tw7249144033042898471 tw18078906120906355928 tw15003696904406053872 tw6475981847930676804 tw15145871826927975395 tw15199902151969633458 tw9889533579749959353 tw4870850896525635898 tw2689273192707562948 tw9374919133745438574 tw14954958554084576444 tw11127596935420839577 tw2457399751560442358 tw14196241457715450342 tw14612216926103768120 tw17847622129877517786 tw8898479014441318092 tw9930929258895016595 tw3475511701054691286 tw3061671786011437943 tw571738689990132538 tw1653521114369302862 tw15138780115308554531 tw17181058132356288687 tw15212499728454068587 tw17680324175430632310 tw1373310597412596578 tw9310233466877944925 tw8017484099862596724 tw13619558417485861693 tw1963127954097325653 tw7399864765248244471 tw6875327366452674901 tw1211433031993535171 tw8740564030132231546 tw1214692800072648168 tw14719400214324705800 tw13225602297428115410 tw17967127892508726618 tw8808613254908287430 tw15844922521170318381 tw10776791143064619201 tw11072870810822853013 tw17486843898108062927 tw7656798023876287959 tw9326059559256789300 tw1233585330768129037 tw7040423678168386195 tw1640261779585070795 tw8037729543075764094 tw9067790897565872704 tw1617696785635063080 tw12918456148972472674 tw16421265148602715511 tw14982125270590077696 tw3049875916572029977 tw4839685572519789926 tw5604310161001612112 tw7527802157727689887 tw17225575075690958703 tw16079753501602898155 tw9125289604581672122 tw10748710383497334354 tw3726574167627914668 tw8534673556394333214 tw17894903348220866057 tw9759189586438909045 tw18020428236167949965 tw13821386492801414494 tw4153524549871928943 tw17126827640105861214 tw5040198182654802034 tw12792172607639220184 tw6936608634142145165 tw2840884618065946986 tw4859627844329208257 tw15108549926758096304 tw8189204416445166910 tw4558771396598375604 tw2546196675899978889 tw8410124922906854604 tw7818959524683824930 tw3882598273765403691 tw4105683610551108917 tw5905863749606414925 tw16271362547422534578 tw5923104169501451642 tw11919168625652231234 tw11965080874630037071 tw14252041902478117481 tw4311956352073816452 tw11702988090741680645 tw11171611162094628079 tw5941011941426764895 tw17882174215081030627 tw12023342055180464716 tw6545851823765512660 tw12275655663644247843 tw12068952260708231862 tw10920745078846474346 tw11872444160539769806 tw6366670388979540863 tw14291672348839961506 tw16557634950152751497 tw2354328304976353140 tw2745303399432287412 tw14126997007186140669 tw13375114652973048118 tw9160197185831621250 tw10890921281086387387 tw13193100595473076475 tw13958190790063420554 tw5049927792125184014 tw16694537447839323441 tw9468875714842409039 tw17825882581131399069 tw4295609188451319044 tw12347127694806889432 tw15979048355007218165 tw10500178015133516678 tw3071326244234899922 tw9558309570020926012 tw17771261598876944495 tw8960602969010138640 tw14251606369180431297 tw13623272192515610975 tw1556397414141970538 tw14117289888468670275 tw6368913422533163391 tw12221434856410408940 tw3746857578537824747 tw1063854881711477640 tw113381272024099579 tw13446354328367431568 tw8767522198240463976 tw12365763779406118854 tw5722388452151322886 tw15711828699533272919 tw14929586699950392337 tw14206562350036061978 tw11680889088979976419 tw5508974356694897690 tw824965321049792673 tw3143854404311792553 tw5760337679405404387 tw17626685843971551203 tw10116089606404531367 tw5042764207649532491 tw224722099347835895 tw5990714516420145413 tw11519551544722571615 tw9845439598430842902 tw14457995635713864522 tw3072947338704798618 tw15588599268031739331 tw10273095196487327499 tw1759713451950797602 tw11170609299259547296 tw18272997478792403063 tw8383694526223764091 tw12763111777030029131 tw1582532663955427007 tw17624486651664438728 tw17514912459689680643 tw2183511052881505262 tw12598932745286239861 tw17811942494757462706 tw10274559650014317060 tw10000979990632845515 tw9563900664113600082 tw3954458404586565614 tw15904676042587413250 tw18270066251672747240 tw16271203849862943453 tw8289331037612837775 tw7529926482937833182 tw14764764047194617307 tw8516165940795341412 tw9021527605057695302 tw2759519423292736288 tw15086648652140631143 tw2270037043090601690 tw7776147060799112744 tw4558180416402439923 tw8410733991869792355 tw11004643729849906105 tw6171615373704999949 tw6274282674466096602 tw7857472275653032026 tw8626760768456018981 tw10202312141589911750 tw9408085148624936684 tw4328996509276520435 tw11051687904605390307 tw11969720140405727286 tw5727461177509366416 tw6421244211475653684 tw15065629011172424110 tw5521344101949171473 tw4088193568806695665 tw10703228068821801604 tw14107385839970493018 tw9612553698032127743 tw3122640658018746558 tw10137318578548699520 tw13506463916371346685 tw13637676498400787483 tw2866990882824857076 tw4457503863413302066 tw11475065259543813276 tw6697008205560277871 tw12916852687483431963 tw15219135993623940228 tw4154777603788708989 tw15991652114740701540 tw12737895991330447522 tw11183518244769660605 tw6933391855434627359 tw1772937447704037857 tw1335564051576546469 tw9355447699437112103 tw6818465439231612065 tw8077279682009265440 tw8079162731132917941 tw17501666513807691093 tw3296760445058970767 tw15870296585759326653 tw6733553100252819286 tw17210490552129558178 tw3917243107961867029 tw15122479468719461290 tw5511431469104592290 tw13693597315697226748 tw12295865379030773514 tw15756873924818412749 tw5718818988096209141 tw12163251943837461751 tw7600418021975345491 tw16790254647387264444 tw5571856177311799091 tw16488834186577762251 tw15165332073483550645 tw2928321852715186034 tw1353150118958591284 tw7409545568708109049 tw7922862459318316601 tw16571670700790716890 tw6656788726447879037 tw3624367182243089024 tw6216084249051122422 tw1558277745726426440 tw10312010870157161687 tw14041503627679673192 tw5191851524354675292 tw13089879049661275104 tw1039918696846313869 tw16631426851021655054 tw7675533080508278797 tw14724395514325976174 tw1115120485023131092 tw13470795316568650262 tw4028987738803125320 tw1534092387596078783 tw14609471811817786301 tw18199082516522171737 tw8756164848498069958 tw6236816543670470267 tw5506880599032563444 tw6129809023471627187 tw11485388338651047891 tw286497966837716075 tw10337187269995821324 tw7696131103870123375 tw5118760704962857896 tw11442606422384658460 tw10780551504501251279 tw12856343218614485349 tw7177556662972870590 tw6004822143690096494 tw5238535642433974815 tw1170420200333766604 tw11220253904368164370 tw11813895854784544521 tw12414223547644683142 tw13764955835707832982 tw3122322645044582248 tw5660394542878589534 tw13305212314302611551 tw659467618538979199 tw9709033190173856677 tw8761715343048467121 tw2048458007736487372 tw11284978869904826219 tw9251101768357491571 tw15333791453387461193 tw520420775905015706 tw8366906602455406525 tw10154534085197889078 tw10744972407119480963 tw6633983793972078501 tw15190334686614997358 tw11716663994366969323 tw16779358675564367689 tw9450988114462527099 tw9162352650012513064 tw2739546350757723304 tw9818149282382616732 tw10348674210205341080 tw1331521007039470591 tw580307951521491796 tw5694888645558598916 tw10448370050199811793 tw17159968126084134516 tw7334103522393349434 tw4090630713190118150 tw9846648296815179568 tw3632747526918171451 tw723612000928793686 tw5469191030742196674 tw5792713532961757480 tw13595565996914220770 tw4112834429503123865 tw14909335103847753076 tw15897139930681208461 tw9537736940502035183 tw4150013865179604469 tw12664861247274031403 tw804820690848462286 tw15553856952293424945 tw7429605322348744077 tw9336231389490316729 tw1349454154122478975 tw5145556395938665251 tw12668202152306320476 tw16192111397767049787 tw8582730888274869785 tw2833377641214914384 tw10230705287110839727 tw7063111630918475758 tw2708972623574242080 tw3881604559169837928 tw18345867724981351537 tw2327959026100532748 tw314385223588321884 tw6362994789521162457 tw11764511630189781074 tw10695344369514011409 tw2651882838210391327 tw5602924480074946240 tw879277753331133563 tw7623345115724325422 tw10460371519960127552 tw3711355336668275032 tw11667259668620781296 tw4760534779964440356 tw16465633542602703142 tw15996108324561158436 tw7359869100928988613 tw4679777705729290540 tw1193374348151153602 tw9013190218357044258 tw8347690976724917553 tw13740272311398645651 tw3509554192619674852 tw7946861741142051422 tw2601542016625641146 tw4451371814163484978 tw5780680970545823591 tw16609957767614460535 tw9541437363103427228 tw7044377422268271816 tw5831917964782514785 tw17068448582148560517 tw7860725128341051985 tw1170873510121431113 tw13654510114095406461 tw11824140684554079657 tw1426690659337025129 tw8807957786824484783 tw17800425454327507585 tw17848256412569247826 tw10871247281031427383 tw16306800920595757659 tw2263911774524745561 tw2650106233311941585 tw6965287500040529095 tw4878785123395879759 tw12337360725654078026 tw13831240156858531236 tw1393058251629306736 tw1385476742425447027 tw9908272462106174018 tw2247807741524562427 tw7239541216729790541 tw17305726633374800143 tw5035061796261283448 tw17839879335330106380 tw6878902937533849395 tw4388224839026115156 tw6529152020944791033 tw14171787310471158555 tw993247342548316719 tw123201085350513977 tw9726669407142976620 tw18407730254500723335 tw16366936238313567526 tw12484350866261727594 tw1072614989670095501 tw7970752125071846926 tw2637895965747005803 tw5145054913039870032 tw9893565371426003386 tw2844434893099306972 tw9816310817733927723 tw12800959123994822603 tw9479310733233111307 tw16572788450296202822 tw6958153271332689709 tw10297915854780040180 tw475233556374199732 tw12947655713940514268 tw15104566373628086655 tw15496023762823773374 tw12746196888149800322 tw483017250534663583 tw16831766902978001238 tw11396258181915622595 tw3645036290015201658 tw16951553651393351214 tw12481947444562487364 tw14911411127332240099 tw4217356070701011769 tw7392676288709868149 tw2849172521460766728 tw1355667862816995763 tw5474244985923317812 tw4820255859368503184 tw10032971389077959612 tw11849861397923152705 tw576741960441115224 tw5475182280637382757 tw14541986666975673306 tw1408606862509953203 tw14346928004661006168 tw13631708399380414286 tw2631296941754161029 tw1486192284074705812 tw6478198689383077218 tw11286665888444160448 tw5504454155250199460 tw16787241286560200123 tw16987183822363763610 tw8909757573066387927 tw13209302692596838162 tw18084698269554915374 tw15756943401890842203 tw1749987893504550734 tw16109520019249801264 tw13553243511592067458 tw5248910321824523029 tw14718400462149621928 tw7096745617080834689 tw9998482946880045284 tw9132351652927291843 tw4935882168201336284 tw4506606285019166724 tw3690474068862365178 tw11072765182949567778 tw9229424781752418607 tw16927532933770807254 tw10030841875490995178 tw8824693698528510794:True)
set_option maxRecDepth 100000 in
set_option maxHeartbeats 0 in
theorem PySem.Challenge.cw_boxranks_s01_answers_holds : PySem.Challenge.rw_boxranks_s01_answers.Holds := by
 w_on;k_headS;(case hw=>exact⟨[.list [.int 2]],by decide+kernel,by decide+kernel⟩)
 k_fillS
 refine L2.VF (r:=agJ) (k:=11) (CX:=L2.ax) (ps:=["calls"]) (sp:=Bp.Gb) (by decide+kernel) rfl rfl ⟨rfl,by decide,by decide⟩ (λw h Y=>PySem.W.kIn_of Y) ?F ?S (λ_ _ _ _ z=>z)
 case F=>
  intro w mg fa h Y KX G B7
  apply Bp.all_mk KX G B7
  all_goals first
   |(refine' Bp.ab1 ?a ?l ?c ?k;(case a=>k_is);(case l=>k_is);(case c=>k_is);(case k=>k_is))
   |(refine' Bp.ab2 ?a ?i ?l ?c ?k;(case a=>k_is);(case i=>k_is);(case l=>k_is);(case c=>k_is);(case k=>k_is))
   |(refine' Bp.int_mk ?a;(case a=>k_is))
   |(refine' Bp.str_mk ?a;(case a=>k_is))
   |(refine' Bp.ab3 ?a ?l ?c ?z ?v;(case a=>k_is);(case l=>k_is);(case c=>rfl);(case z=>decide);(case v=>repeat (first|exact .nil|refine .cons ⟨_,rfl⟩ ?_)))
   |(refine' Bp.ab4 ?lC ?kC ?lN ?sE ?iN ?n1 ?n2 ?n3 ?n4 ?n5 ?l ?ec ?c ?k;(case lC=>k_is);(case kC=>k_is);(case lN=>k_is);(case sE=>rfl);(case iN=>k_is);(case n1=>k_is);(case n2=>k_is);(case n3=>k_is);(case n4=>k_is);(case n5=>k_is);(case l=>k_is);(case ec=>rfl);(case c=>k_is);(case k=>k_is))
   |k_is
 case S=>
  intro K H xs a hO qy kz hx
  cases hx with
  |cons h1 h2=>
   cases h2
   cases h1 with
   |lst hs ha=>
    have e:=L2.Kl a.1 _ ha
    subst e
    have q:((Codec.inLen 0 17000 a.1&&a.1.all (Codec.inInt (-1000000000000000000) 1000000000000000000))&&true)=true:=qy
    rw[iM,iM]at q
    exact⟨_,a.1,rfl,hs,(Codec.inNat_iff.mp q.1.1).2,kz,λH' p hp=>.lst (L2.ah.of hp) (L2.Kk _)⟩
